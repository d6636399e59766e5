import PyProof.Rows.All
import Wide.All
import OpenK.AllK
import Wide.FinOn
import Lean
import PyProof.EqAt
import PyProof.EqKinds
import PyProof.TupleCall
import PySem.Challenge.RW_undercells_k20_between_refused
set_option Elab.async false
set_option linter.all false
set_option maxRecDepth 100000
namespace L2
open PySem PySem.Spec PyProof.Rows
noncomputable abbrev Key:=Sum Int Str
noncomputable def oB:Key->Value->Bool
 | .inl k,v=>Value.isInt k v
 | .inr x,v=>Value.isStrOf x v
noncomputable def MI (w:World):Key->Int
 | .inl k=>hashInt k
 | .inr x=>hashStr w x
theorem bS:∀ {k:Key} {v:Value},oB k v=true->(∃ i t,k=Sum.inl i/\v=Value.int i t)\/(∃ x t,k=Sum.inr x/\v=Value.str x t)
 | .inl i,v,h=>by
  obtain ⟨t,e⟩:=Value.isInt_shape (k:=i) (v:=v) h
  exact .inl ⟨i,t,rfl,e⟩
 | .inr x,v,h=>by
  obtain ⟨t,e⟩:=Value.isStrOf_shape (x:=x) (v:=v) h
  exact .inr ⟨x,t,rfl,e⟩
theorem y_ (i:Int) (t:Tok):oB (.inl i) (.int i t)=true:=by simp [oB,Value.isInt]
theorem yT (x:Str) (t:Tok):oB (.inr x) (.str x t)=true:=by simp [oB,Value.isStrOf]
theorem IZ (a b:Int):decide ((Sum.inl a:Key)=Sum.inl b)=(a == b):=by
 by_cases e:a=b
 ·subst e;simp
 ·have h:¬ (Sum.inl a:Key)=Sum.inl b:=fun q=>e (Sum.inl.inj q)
  rw [decide_eq_false h]
  exact (beq_eq_false_iff_ne.mpr e).symm
theorem GW (a b:Str):decide ((Sum.inr a:Key)=Sum.inr b)=decide (a=b):=by
 by_cases e:a=b
 ·subst e;simp
 ·have h:¬ (Sum.inr a:Key)=Sum.inr b:=fun q=>e (Sum.inr.inj q)
  rw [decide_eq_false h,decide_eq_false e]
theorem HG (a:Int) (b:Str):decide ((Sum.inl a:Key)=Sum.inr b)=false:=decide_eq_false (fun q=>nomatch q)
theorem Jl (a:Str) (b:Int):decide ((Sum.inr a:Key)=Sum.inl b)=false:=decide_eq_false (fun q=>nomatch q)
noncomputable def b_ (prog:Program) (w:World):PySem.KeyKind prog w Key where
 is:=oB
 hash:=MI w
 inj:=fun v a b ha hb=>by
  rcases bS ha with ⟨i,t,rfl,rfl⟩ | ⟨x,t,rfl,rfl⟩
  ·rcases bS hb with ⟨j,u,rfl,e⟩ | ⟨y,u,rfl,e⟩
   ·injection e with e1 _;rw [e1]
   ·exact nomatch e
  ·rcases bS hb with ⟨j,u,rfl,e⟩ | ⟨y,u,rfl,e⟩
   ·exact nomatch e
   ·injection e with e1 _;rw [e1]
 byValue:=fun k v h=>by
  rcases bS h with ⟨i,t,rfl,rfl⟩ | ⟨x,t,rfl,rfl⟩ <;> rfl
 pyHash:=fun hv h=>by
  rcases bS hv with ⟨i,t,rfl,rfl⟩ | ⟨x,t,rfl,rfl⟩
  ·exact wpAny_pyHash_int h
  ·exact wpAny_pyHash_str h
 eqBool:=fun hu hv h=>by
  rcases bS hu with ⟨i,t,rfl,rfl⟩ | ⟨x,t,rfl,rfl⟩
  ·rcases bS hv with ⟨j,u,rfl,rfl⟩ | ⟨y,u,rfl,rfl⟩
   ·rw [IZ] at h;exact wpAny_eqBool_int h
   ·rw [HG] at h;exact SeqAt.EqAt.int_str i t y u _ _ _ _ h
  ·rcases bS hv with ⟨j,u,rfl,rfl⟩ | ⟨y,u,rfl,rfl⟩
   ·rw [Jl] at h;exact SeqAt.EqAt.str_int x t j u _ _ _ _ h
   ·rw [GW] at h;exact wpAny_eqBool_str h
 «strs»:=fun k x t v h=>by
  rcases bS h with ⟨i,u,rfl,e⟩ | ⟨y,u,rfl,e⟩
  ·exact nomatch e
  ·injection e with e1 _
   subst e1
   cases v <;> rfl
theorem su (prog:Program) (w:World) (i:Int) (t:Tok):(b_ prog w).is (.inl i) (.int i t)=true:=y_ i t
theorem qE (prog:Program) (w:World) (x:Str) (t:Tok):(b_ prog w).is (.inr x) (.str x t)=true:=yT x t
inductive V where
 | non | bl (b:Bool) | int (i:Int) | str (x:Str) | byt (b:Array UInt8) | flt (b:UInt64) | ref (a:Addr) | ty (n:String)
 deriving DecidableEq
noncomputable def RelV:V->Value->Prop
 | .non,u=>u=Value.none
 | .bl b,u=>u=Value.bool b
 | .int i,u=>∃ t,u=Value.int i t
 | .str x,u=>∃ t,u=Value.str x t
 | .byt b,u=>∃ t,u=Value.bytes b t
 | .flt b,u=>∃ t,u=Value.float b t
 | .ref a,u=>u=Value.ref a
 | .ty n,u=>u=Value.type n
noncomputable abbrev Vals:List V->List Value->Prop:=Paired RelV
theorem Vals.length {xs:List V} {us:List Value} (r:Vals xs us):xs.length=us.length:=Paired.length r
theorem Vals.get:∀ {xs:List V} {us:List Value} {i:Nat} {x:V},Vals xs us->xs[i]?=some x->∃ u,us[i]?=some u/\RelV x u
 | _,_,_,_,.nil,e=>by simp at e
 | _,_,0,_,.cons r _,e=>by simp at e;subst e;exact ⟨_,rfl,r⟩
 | _,_,i+1,x,.cons _ t,e=>by
  obtain ⟨u,h1,h2⟩:=Vals.get (i:=i) (x:=x) t (by simpa using e)
  exact ⟨u,by simpa using h1,h2⟩
theorem Vals.set {x:V} {u:Value} (r:RelV x u):∀ {xs:List V} {us:List Value} (i:Nat),Vals xs us->Vals (xs.set i x) (us.set i u)
 | _,_,_,.nil=>.nil
 | _,_,0,.cons _ t=>.cons r t
 | _,_,i+1,.cons q t=>.cons q (Vals.set r i t)
theorem Vals.append:∀ {xs ys:List V} {us ws:List Value},Vals xs us->Vals ys ws->Vals (xs++ys) (us++ws)
 | _,_,_,_,.nil,s=>s
 | _,_,_,_,.cons r t,s=>.cons r (Vals.append t s)
theorem Vals.take:∀ {xs:List V} {us:List Value} (n:Nat),Vals xs us->Vals (xs.take n) (us.take n)
 | _,_,0,_=>.nil
 | _,_,_+1,.nil=>.nil
 | _,_,n+1,.cons r t=>.cons r (Vals.take n t)
theorem Vals.drop:∀ {xs:List V} {us:List Value} (n:Nat),Vals xs us->Vals (xs.drop n) (us.drop n)
 | _,_,0,r=>r
 | _,_,_+1,.nil=>.nil
 | _,_,n+1,.cons _ t=>Vals.drop n t
noncomputable def nj:Option V->Option Value->Prop
 | some v,some u=>RelV v u
 | none,none=>True
 | _,_=>False
noncomputable def KV {κ:Type}:List (κ×V)->List (κ×Value)->Prop:=Paired fun (p:κ×V) (q:κ×Value)=>p.1=q.1/\RelV p.2 q.2
noncomputable def kV:Key->V
 | .inl i=>.int i
 | .inr x=>.str x
inductive HO where
 | lst (xs:List V)
 | tup (xs:List V)
 | dK (kvs:List (Key×V)) | dT (kvs:List (List Key×V))
 | set (S:Int->Bool) (n:Nat)
 | ins (C dx:Addr) (fs:List (Str×V))
 | own (x:Addr)
 | xd (fs:List (Str×V))
 | met (f x:Addr)
 | rng (lo hi:Int)
 | frz (o:Obj) (u:HO)
 | tbl (ps:Array Value)
 | ext (φ:Heap->Prop)
noncomputable abbrev Hp:=Addr->Option HO
noncomputable def upd (H:Hp) (a:Addr) (o:HO):Hp:=fun b=>if b=a then some o else H b
theorem aY {H:Hp} {a:Addr} {o:HO}:upd H a o a=some o:=by unfold upd;rw [if_pos rfl]
theorem aI {H:Hp} {a b:Addr} {o:HO} (h:b≠a):upd H a o b=H b:=by unfold upd;rw [if_neg h]
theorem zK {H:Hp} {a b:Addr} {o u:HO} (h:H a=some o) (h':H b=some u) (d:o≠u):a≠b:=by
 intro e;subst e;rw [h] at h';exact d (Option.some.inj h')
theorem aQ {H:Hp} {a b:Addr} {o:HO} (h:H a=some o) (h':H b=none):a≠b:=by
 intro e;subst e;rw [h] at h';cases h'
noncomputable def dW (h:Heap) (a:Addr) (items:Array Value):Prop:=∃ o,h.get? a=some o/\o.cls=.type "tuple" /\ o.dict=none/\∃ n,o.data=.seq items n
theorem dW.tup {h:Heap} {a:Addr} {items:Array Value}:dW h a items->IsTup h a items:=fun ⟨o,e,c,_,n,d⟩=>⟨o,e,c,n,d⟩
theorem dW.new (h:Heap) (items:Array Value):dW (h.push { cls:=.type "tuple",data:=.seq items }) h.objs.size items:=⟨_,Heap.get?_push_size _ rfl,rfl,rfl,_,rfl⟩
theorem dW.lt {h:Heap} {a:Addr} {items:Array Value} (x:dW h a items):a < h.objs.size:=let ⟨_,ho,_⟩:=x;Heap.lt_size ho
section
variable (P:Program) (w:World)
noncomputable def bM (H:Hp) (h:Heap) (a:Addr):HO->Prop
 | .lst xs=>xs.length<=sizeLine/\∃ (its:List Value) (n:Nat),Vals xs its/\h.get? a=some { cls:=.type "list",data:=.seq its.toArray n }
 | .tup xs=>xs.length<=sizeLine/\∃ its:List Value,Vals xs its/\dW h a its.toArray
 | .dK kvs=>kvs.length<=sizeLine/\(a == sysModules)=false/\∃ vs,KV kvs vs/\h.DictOf (b_ P w) a vs
 | .dT kvs=>kvs.length<=sizeLine/\(a == sysModules)=false/\∃ xs:List (List Key×Addr×Value),
   Paired (fun (p:List Key×V) (q:List Key×Addr×Value)=>p.1=q.1/\H q.2.1=some (.tup (p.1.map kV))/\RelV p.2 q.2.2) kvs xs /\
   ∃ o es ep,h.get? a=some o/\o.ExactDict/\o.data=.dict es ep/\es.toList=xs.map (entryOfKey (tupleKind (b_ P w)))/\(xs.map (·.1)).Nodup
 | .set S n=>h.SetOf (intKind P w) a S n
 | .ins C dx fs=>H dx=some (.own a)/\fs.length<=1000/\dx≠a/\h.get? a=some (PySem.W.instObj C dx) /\
   ∃ mA,h.Ns1 dx mA/\(∀ f,nj (fs.lookup f) (mA f))/\PySem.Within mA (fs.map (·.1))
 | .own _=>∃ o,h.get? a=some o
 | .xd fs=>∃ mA,h.Ns1 a mA/\∀ f,nj (fs.lookup f) (mA f)
 | .rng lo hi=>∃ t u v,h.get? a=some { cls:=.type "range",data:=.fields #[.int lo t,.int hi u,.int 1 v] }
 | .frz o u=>h.get? a=some o/\bM H h a u
 | .tbl ps=>h.get? a=some { cls:=.none,data:=.fields ps }
 | .met f x=>h.get? a=some (PySem.W.methodObj (.ref f) (.ref x))
 | .ext φ=>φ h/\(∃ o,h.get? a=some o)/\∀ h1 h2:Heap,φ h1->(∀ o,h1.get? a=some o->h2.get? a=some o)->φ h2
noncomputable def iU (H:Hp) (h:Heap):Prop:=∀ a o,H a=some o->bM P w H h a o
end
section
variable {P:Program} {w:World} {H H':Hp} {h h':Heap} {a:Addr} {o:HO}
theorem bM.lt (x:bM P w H h a o):a < h.objs.size:=by
 cases o with
 | lst xs=>obtain ⟨_,_,_,_,e⟩:=x;exact Heap.lt_size e
 | tup xs=>obtain ⟨_,_,_,p⟩:=x;exact dW.lt p
 | dK kvs=>obtain ⟨_,_,_,_,o,_,_,e,_⟩:=x;exact Heap.lt_size e
 | dT kvs=>obtain ⟨_,_,_,_,o,_,_,e,_⟩:=x;exact Heap.lt_size e
 | set S n=>obtain ⟨o,_,_,_,e,_⟩:=x;exact Heap.lt_size e
 | ins C dx fs=>obtain ⟨_,_,_,e,_⟩:=x;exact Heap.lt_size e
 | own y=>obtain ⟨_,e⟩:=x;exact Heap.lt_size e
 | xd fs=>obtain ⟨_,⟨_,_,_,e,_⟩,_⟩:=x;exact Heap.lt_size e
 | rng lo hi=>obtain ⟨_,_,_,e⟩:=x;exact Heap.lt_size e
 | frz ob u=>obtain ⟨e,_⟩:=x;exact Heap.lt_size e
 | tbl ps=>exact Heap.lt_size (show h.get? a=some _ from x)
 | met f y=>exact Heap.lt_size (show h.get? a=some _ from x)
 | ext φ=>obtain ⟨_,⟨_,e⟩,_⟩:=x;exact Heap.lt_size e
theorem Paired.Ip {α β:Type} {F G:α->β->Prop}:∀ {l₁:List α} {l₂:List β},Paired F l₁ l₂->(∀ a b,F a b->G a b)->Paired G l₁ l₂
 | _,_,.nil,_=>.nil
 | _,_,.cons r t,f=>.cons (f _ _ r) (Paired.Ip t f)
theorem bM.stay (x:bM P w H h a o) (k:∀ b u,(b=a\/H b=some (.own a))->h.get? b=some u->h'.get? b=some u)
  (ho:∀ b,H b=some (.own a)->H' b=some (.own a)) (ht:∀ b xs,H b=some (.tup xs)->H' b=some (.tup xs)):bM P w H' h' a o:=by
 induction o with
 | lst xs=>obtain ⟨z,its,n,r,e⟩:=x;exact ⟨z,its,n,r,k _ _ (.inl rfl) e⟩
 | tup xs=>obtain ⟨z,its,r,ob,e,c⟩:=x;exact ⟨z,its,r,ob,k _ _ (.inl rfl) e,c⟩
 | dK kvs=>obtain ⟨z,y,vs,r,ob,es,ep,e,c⟩:=x;exact ⟨z,y,vs,r,ob,es,ep,k _ _ (.inl rfl) e,c⟩
 | dT kvs=>
  obtain ⟨z,y,xs,r,ob,es,ep,e,c⟩:=x
  exact ⟨z,y,xs,Paired.Ip r fun p q z=>⟨z.1,ht _ _ z.2.1,z.2.2⟩,ob,es,ep,k _ _ (.inl rfl) e,c⟩
 | set S n=>obtain ⟨ob,es,ep,t,e,c⟩:=x;exact ⟨ob,es,ep,t,k _ _ (.inl rfl) e,c⟩
 | ins C dx fs=>
  obtain ⟨d,z,ne,e,mA,⟨od,es,ep,e2,c⟩,r⟩:=x
  exact ⟨ho _ d,z,ne,k _ _ (.inl rfl) e,mA,⟨od,es,ep,k _ _ (.inr d) e2,c⟩,r⟩
 | own y=>obtain ⟨ob,e⟩:=x;exact ⟨ob,k _ _ (.inl rfl) e⟩
 | xd fs=>obtain ⟨mA,⟨od,es,ep,e,c⟩,r⟩:=x;exact ⟨mA,⟨od,es,ep,k _ _ (.inl rfl) e,c⟩,r⟩
 | rng lo hi=>obtain ⟨t,u,v,e⟩:=x;exact ⟨t,u,v,k _ _ (.inl rfl) e⟩
 | frz ob u ih=>obtain ⟨e,q⟩:=x;exact ⟨k _ _ (.inl rfl) e,ih q⟩
 | tbl ps=>
  have e:h.get? a=some { cls:=.none,data:=.fields ps }:=x
  show h'.get? a=some { cls:=.none,data:=.fields ps }
  exact k a _ (.inl rfl) e
 | met f y=>
  have e:h.get? a=some (PySem.W.methodObj (.ref f) (.ref y)):=x
  show h'.get? a=some (PySem.W.methodObj (.ref f) (.ref y))
  exact k a _ (.inl rfl) e
 | ext φ=>obtain ⟨p,⟨o,e⟩,st⟩:=x;exact ⟨st _ _ p fun o q=>k _ _ (.inl rfl) q,⟨o,k _ _ (.inl rfl) e⟩,st⟩
theorem iU.lt (x:iU P w H h) (e:H a=some o):a < h.objs.size:=(x a o e).lt
theorem iU.fresh (x:iU P w H h) (e:h.objs.size<=a):H a=none:=by
 cases q:H a with
 | none=>rfl
 | some u=>exact absurd (Nat.lt_of_lt_of_le (x.lt q) e) (Nat.lt_irrefl _)
theorem iU.kept (x:iU P w H h) (k:∀ b u,h.get? b=some u->h'.get? b=some u):iU P w H h':=fun a o e=>
 (x a o e).stay (fun b u _ q=>k b u q) (fun _ q=>q) fun _ _ q=>q
theorem iU.laid (x:iU P w H h) (k:∀ b u,h.get? b=some u->h'.get? b=some u) (hp:h.objs.size<=a) (new:bM P w (upd H a o) h' a o):iU P w (upd H a o) h':=fun b u e=>by
 have hn:=x.fresh hp
 by_cases hb:b=a
 ·subst hb;rw [aY] at e;cases e;exact new
 ·rw [aI hb] at e
  exact (x b u e).stay (fun c v _ q=>k c v q) (fun c q=>by rw [aI (aQ q hn)];exact q) fun c xs q=>by rw [aI (aQ q hn)];exact q
end
noncomputable def Rd (H:Hp) (a:Addr) (u:HO):Prop:=H a=some u\/∃ o,H a=some (.frz o u)
theorem Rd.ok {P:Program} {w:World} {H:Hp} {h:Heap} {a:Addr} {u:HO} (r:Rd H a u) (x:iU P w H h):bM P w H h a u:=by
 rcases r with r | ⟨o,r⟩
 ·exact x a u r
 ·obtain ⟨_,q⟩:=x a _ r
  exact q
noncomputable def JS:Option HO->Prop
 | some (.lst _)=>True
 | some (.dK _)=>True
 | some (.dT _)=>True
 | some (.set _ _)=>True
 | some (.ins _ _ _)=>True
 | some (.ext _)=>True
 | _=>False
section
variable {P:Program} {w:World} {H:Hp} {h h':Heap} {x e:Addr} {o':HO}
theorem iU.write (ok:iU P w H h) (mu:JS (H x)) (he:e=x\/H e=some (.own x)) (k:∀ b u,b≠e->h.get? b=some u->h'.get? b=some u) (heo:∃ u,h'.get? e=some u)
  (new:bM P w (upd H x o') h' x o'):iU P w (upd H x o') h':=fun b u q=>by
 have nown:∀ c y,H c=some (.own y)->c≠x:=fun c y r z=>by subst z;rw [r] at mu;exact mu
 have ntup:∀ c xs,H c=some (.tup xs)->c≠x:=fun c xs r z=>by subst z;rw [r] at mu;exact mu
 by_cases hb:b=x
 ·subst hb;rw [aY] at q;cases q;exact new
 ·rw [aI hb] at q
  by_cases hbe:b=e
  ·have q':H b=some (.own x):=by
    rcases he with z | z
    ·exact absurd (hbe.trans z) hb
    ·rw [hbe];exact z
   rw [q] at q';cases q'
   obtain ⟨v,hv⟩:=heo
   exact ⟨v,by rw [hbe];exact hv⟩
  ·refine (ok b u q).stay (fun c v hc r=>k c v ?_ r) (fun c r=>by rw [aI (nown c b r)];exact r) fun c xs r=>by rw [aI (ntup c xs r)];exact r
   rcases hc with rfl | hc
   ·exact hbe
   ·rintro rfl
    rcases he with z | z
    ·exact nown c b hc z
    ·rw [hc] at z;cases z;exact hb rfl
end
structure Un (fs ex:List Addr) (H H':Hp) (h h':Heap):Prop where
 keep:∀ b o,h.get? b=some o->H b=none->b∉fs->b∉ex->h'.get? b=some o
 slot:∀ b o,h.get? b=some o->H b=none->b∈fs->b∉ex->∃ sl,h'.get? b=some { o with slots:=sl }
 free:∀ b o,h.get? b=some o->H b=none->b∉ex->H' b=none
 there:∀ b o,h.get? b=some o->b∉ex->∃ o',h'.get? b=some o'
 tups:∀ b xs,H b=some (.tup xs)->H' b=some (.tup xs)
 frzs:∀ b o u,H b=some (.frz o u)->H' b=some (.frz o u)
 tbls:∀ b ps,H b=some (.tbl ps)->∃ more,H' b=some (.tbl (ps++more))
section
variable {fs fs' ex ex':List Addr} {H H1 H2:Hp} {h h1 h2 h':Heap} {a x e:Addr} {o:HO}
theorem Un.any (u:Un fs ex H H1 h h1) {b:Addr} {ob:Obj} (q:h.get? b=some ob) (n:H b=none) (hx:b∉ex):∃ sl,h1.get? b=some { ob with slots:=sl }:=by
 by_cases hb:b∈fs
 ·exact u.slot b ob q n hb hx
 ·exact ⟨ob.slots,u.keep b ob q n hb hx⟩
theorem Un.kept (k:∀ b u,h.get? b=some u->h'.get? b=some u):Un fs ex H H h h':=
 ⟨fun b ob q _ _ _=>k b ob q,fun b ob q _ _ _=>⟨ob.slots,k b ob q⟩,fun _ _ _ n _=>n,fun b ob q _=>⟨ob,k b ob q⟩,fun _ _ q=>q,fun _ _ _ q=>q,fun _ ps q=>⟨#[],by rw [q];simp⟩⟩
theorem Un.refl:Un fs ex H H h h:=Un.kept fun _ _ q=>q
theorem Un.laid (k:∀ b u,h.get? b=some u->h'.get? b=some u) (hp:h.objs.size<=a) (hn:H a=none):Un fs ex H (upd H a o) h h' where
 keep:=fun b u q _ _ _=>k b u q
 slot:=fun b u q _ _ _=>⟨u.slots,k b u q⟩
 free:=fun b u q n _=>by rw [aI (Nat.ne_of_lt (Nat.lt_of_lt_of_le (Heap.lt_size q) hp))];exact n
 there:=fun b u q _=>⟨u,k b u q⟩
 tups:=fun b xs q=>by rw [aI (aQ q hn)];exact q
 frzs:=fun b u xs q=>by rw [aI (aQ q hn)];exact q
 tbls:=fun b ps q=>⟨#[],by rw [aI (aQ q hn),q];simp⟩
theorem Un.write (mu:JS (H x)) (he:e=x\/H e=some (.own x)) (k:∀ b u,b≠e->h.get? b=some u->h'.get? b=some u) (heo:∃ u,h'.get? e=some u):Un fs ex H (upd H x o) h h':=by
 have hx:∀ b,H b=none->b≠x:=fun b n z=>by subst z;rw [n] at mu;exact mu
 have hb:∀ b,H b=none->b≠e:=fun b n z=>by
  subst z
  rcases he with r | r
  ·exact hx b n r
  ·rw [n] at r;cases r
 have hm:∀ b u,H b=some u->¬ JS (some u)->b≠x:=fun b u q nm z=>by subst z;rw [q] at mu;exact nm mu
 refine ⟨fun b u q n _ _=>k b u (hb b n) q,fun b u q n _ _=>⟨u.slots,k b u (hb b n) q⟩,fun b u q n _=>by rw [aI (hx b n)];exact n,fun b u q _=>?_,
  fun b xs q=>by rw [aI (hm b _ q fun z=>z)];exact q,fun b u xs q=>by rw [aI (hm b _ q fun z=>z)];exact q,fun b ps q=>⟨#[],by rw [aI (hm b _ q fun z=>z),q];simp⟩⟩
 by_cases hbe:b=e
 ·subst hbe;exact heo
 ·exact ⟨u,k b u hbe q⟩
end
noncomputable def Ld (h:Heap) (H:Hp):List Addr:=(List.range h.objs.size).filter fun a=>(H a).isSome
noncomputable def pM (h:Heap) (H:Hp):Heap:=PySem.W.hideAll h (Ld h H)
theorem yK (h:Heap) (H:Hp):(pM h H).objs.size=h.objs.size:=PySem.W.hideAll_size _ _
theorem Cz {h:Heap} {H:Hp} {b:Addr} {o:Obj} (e:h.get? b=some o) (n:H b=none):(pM h H).get? b=some o:=
 PySem.W.hideAll_get _ e fun hm=>by
  have q:(H b).isSome=true:=(List.mem_filter.mp hm).2
  rw [n] at q;simp at q
theorem ER {h:Heap} {H:Hp} {b:Addr} {o:Obj} (e:(pM h H).get? b=some o):h.get? b=some o/\H b=none:=by
 have e':h.get? b=some o:=PySem.W.of_hideAll (Ld h H) e
 refine ⟨e',?_⟩
 cases q:H b with
 | none=>rfl
 | some x=>
  have hm:b∈Ld h H:=List.mem_filter.mpr ⟨List.mem_range.mpr (Heap.lt_size e'),by simp [q]⟩
  have z:(pM h H).get? b=none:=PySem.W.hideAll_none (Ld h H) hm
  rw [z] at e;cases e
noncomputable def DH (g h:Heap) (L:Addr):List (Addr×Obj):=(List.range h.objs.size).filterMap fun a=>if a=L\/(g.get? a).isSome=true then none else (h.get? a).map fun o=>(a,o)
noncomputable def rest (g h:Heap) (L d:Addr):List (Addr×Obj):=(DH g h L).filter fun p=>decide (p.1≠d)
structure Mod (K:PySem.W.Frag) (mg:Str->Option Value) (base:Heap):Prop where
 kin:K.In base
 glob:base.Ns mainGlobals mg
 blt:∃ mb,base.Ns builtinsNs mb/\∀ x:Str,x ≠ "__name__" -> mb x=bootBuiltins x
 nolimit:base.NoLimit
structure Cx where
 prog:Program
 w:World
 K:PySem.W.Frag
 mg:Str->Option Value
 base:Heap
 A:Around
 N:List Str
 s₀:Shared
 H₀:Hp
 env:Env
 outer:List Env
 stack:List Env
 ex:List Addr
 fn:Str->Bool
 calm:Bool
 pn:List (Addr×Obj)
 xe:Value->Shared->Prop
noncomputable def frs (l:List Env):List Addr:=l.filterMap (·.frame)
noncomputable abbrev Cx.fs (X:Cx):List Addr:=frs X.outer
noncomputable def Jv (sc:Scope) (x:Str):Prop:=sc.names.lookup x=some .local\/sc.names.lookup x=some .cell\/sc.names.lookup x=some .free
noncomputable def Loc (sc:Scope) (x:Str):Prop:=sc.names.lookup x=some .local\/sc.names.lookup x=some .cell
noncomputable def Look (env:Env) (h:Heap) (m:Str->Option Value) (x:Str) (u:Value):Prop:=
 (env.kindOf x=some .local/\m x=some u)\/((env.kindOf x=some .cell\/env.kindOf x=some .free)/\∃ c,env.cells.lookup x=some c/\h.IsCell c (some u))
structure Cx.Ok (X:Cx):Prop where
 mod:Mod X.K X.mg X.base
 kind:X.env.scope.kind=.function
 glob:X.env.globals=mainGlobals
 blt:X.env.builtins=builtinsNs
 above:X.s₀.heap.objs.size<=X.env.locals
 inj:∀ x y c,X.env.cells.lookup x=some c->X.env.cells.lookup y=some c->x=y
 has:∀ x,(X.env.kindOf x=some .cell\/X.env.kindOf x=some .free)->∃ c,X.env.cells.lookup x=some c
 cab:∀ x c,X.fn x=true->X.env.cells.lookup x=some c->X.s₀.heap.objs.size<=c
 hd:X.calm=true->X.A.handled=none
 frames:X.A.frames=some X.stack
 stk:X.stack=X.outer\/(X.stack=X.env::X.outer/\X.env.frame=some X.env.locals)
 exf:∀ b∈X.ex,b≠X.env.locals/\∀ x c,X.env.cells.lookup x=some c->c≠b
 bs:∀ b o,X.base.get? b=some o->X.s₀.heap.get? b=some o/\X.H₀ b=none
 bsz:X.base.objs.size<=X.s₀.heap.objs.size
 noex:∀ b o,X.base.get? b=some o->b∉X.ex
 exfs:∀ b∈X.ex,b∉X.fs
 iu:X.s₀.heap.FunFrames X.base X.outer
 frf:∀ b∈X.fs,X.H₀ b=none
structure Inv (X:Cx) (pins:List (Addr×Obj)) (σ:List (Option V)) (H:Hp) (s:Shared):Prop where
 ok:X.Ok
 os:s.os=X.s₀.os
 bare:AllBare s.gens
 base:Un X.fs X.ex X.H₀ H X.s₀.heap s.heap
 loc:∃ m,s.heap.Ns X.env.locals m/\∀ (i:Nat) (x:Str) (v:V),X.N[i]?=some x->σ[i]?=some (some v)->Jv X.env.scope x->∃ u,RelV v u/\Look X.env s.heap m x u
 cell:∀ x c,X.env.cells.lookup x=some c->∃ v,s.heap.IsCell c v
 free:H X.env.locals=none
 freeC:∀ x c,X.env.cells.lookup x=some c->H c=none
 pin:∀ p∈X.pn++pins,s.heap.get? p.1=some p.2/\H p.1=none/\p.1≠X.env.locals/\p.1∉X.fs/\∀ v,p.2.data≠.cell v
 hok:iU X.prog X.w H s.heap
 len:σ.length=X.N.length
section
variable {X:Cx} {pins:List (Addr×Obj)} {σ:List (Option V)} {H H':Hp} {s:Shared} {h':Heap}
theorem Cx.Ok.Mw (ok:X.Ok) {b:Addr} {o:Obj} (e:X.base.get? b=some o):b∉X.fs:=fun hb=>by
 have:=(ok.iu.mem hb).1
 rw [e] at this;cases this
theorem Inv.bs (I:Inv X pins σ H s):∀ b o,X.base.get? b=some o->s.heap.get? b=some o/\H b=none:=fun b o e=>
 ⟨I.base.keep b o (I.ok.bs b o e).1 (I.ok.bs b o e).2 (I.ok.Mw e) (I.ok.noex b o e),I.base.free b o (I.ok.bs b o e).1 (I.ok.bs b o e).2 (I.ok.noex b o e)⟩
theorem Inv.bk (I:Inv X pins σ H s):∀ b o,X.base.get? b=some o->s.heap.get? b=some o:=fun b o e=>(I.bs b o e).1
theorem Inv.mod (I:Inv X pins σ H s):Mod X.K X.mg X.base:=I.ok.mod
theorem Inv.nU (I:Inv X pins σ H s):X.K.In s.heap:=I.ok.mod.kin.keeps I.bk
theorem Inv.lt (I:Inv X pins σ H s):X.env.locals < s.heap.objs.size:=let ⟨_,hn,_⟩:=I.loc;hn.lt
theorem Inv.sz (I:Inv X pins σ H s):X.s₀.heap.objs.size<=s.heap.objs.size:=Nat.le_trans I.ok.above (Nat.le_of_lt I.lt)
theorem Inv.Mj (I:Inv X pins σ H s) {a:Addr} (h:s.heap.objs.size<=a):a∉X.fs:=fun hb=>by
 obtain ⟨_,o,ho,_⟩:=I.ok.iu.mem hb
 exact absurd (Nat.lt_of_lt_of_le (Heap.lt_size ho) (Nat.le_trans I.sz h)) (Nat.lt_irrefl _)
theorem Inv.Ey (I:Inv X pins σ H s):∀ x c,X.env.cells.lookup x=some c->c≠X.env.locals:=fun x c e z=>by
 obtain ⟨v,o,ho,hd⟩:=I.cell x c e
 obtain ⟨m,⟨o',es,ep,ho',hd',_⟩,_⟩:=I.loc
 rw [z,ho'] at ho;cases ho;rw [hd'] at hd;cases hd
theorem Inv.iu (I:Inv X pins σ H s):s.heap.FunFrames X.base X.outer:=by
 have all:∀ (l:List Env),(∀ b∈frs l,b∈X.fs)->X.s₀.heap.FunFrames X.base l->s.heap.FunFrames X.base l:=by
  intro l
  induction l with
  | nil=>intro _ _;trivial
  | cons env r ih=>
   intro hs hl
   obtain ⟨hk,⟨L,o,hf,hn,ho,hd⟩,hr⟩:=hl
   have hL:L∈X.fs:=hs L (by unfold frs;rw [List.filterMap_cons,hf];exact List.mem_cons_self)
   obtain ⟨sl,e⟩:=I.base.slot L o ho (I.ok.frf L hL) hL fun z=>I.ok.exfs L z hL
   exact ⟨hk,⟨L,_,hf,hn,e,hd⟩,ih (fun b hb=>hs b (by unfold frs;rw [List.filterMap_cons,hf];exact List.mem_cons_of_mem _ hb)) hr⟩
 exact all X.outer (fun _ hb=>hb) I.ok.iu
theorem Inv.stack (I:Inv X pins σ H s):s.heap.FunFrames X.base X.stack:=by
 rcases I.ok.stk with e | ⟨e,hf⟩
 ·rw [e];exact I.iu
 ·rw [e]
  obtain ⟨m,hn,_⟩:=I.loc
  refine .cons (by rw [I.ok.kind];decide) hf hn ?_ I.iu
  exact Heap.get?_none_of_le (Nat.le_trans I.ok.bsz I.ok.above)
theorem Inv.nA (I:Inv X pins σ H s):∀ b∈frs X.stack,b∈X.env.locals::X.fs:=fun b hb=>by
 rcases I.ok.stk with e | ⟨e,hf⟩
 ·rw [e] at hb;exact List.mem_cons_of_mem _ hb
 ·rw [e] at hb
  unfold frs at hb
  rw [List.filterMap_cons,hf] at hb
  exact hb
theorem Inv.lq (I:Inv X pins σ H s):∀ b∈frs X.stack,H b=none:=fun b hb=>by
 rcases List.mem_cons.mp (I.nA b hb) with e | hb
 ·rw [e];exact I.free
 ·obtain ⟨_,o,ho,_⟩:=I.ok.iu.mem hb
  exact I.base.free b o ho (I.ok.frf b hb) fun z=>I.ok.exfs b z hb
theorem Inv.step {g':Array GenState} {t':Nat} {d':Drawn} {ch:List Addr} (I:Inv X pins σ H s)
  (hch:∀ b∈ch,(b∈X.ex\/X.s₀.heap.objs.size<=b)/\b≠X.env.locals/\(∀ x c,X.env.cells.lookup x=some c->c≠b)/\∀ p∈X.pn++pins,p.1≠b)
  (keep:∀ b o,b≠X.env.locals->b∉X.fs->b∉ch->s.heap.get? b=some o->H b=none->h'.get? b=some o)
  (slot:∀ b o,b≠X.env.locals->b∈X.fs->b∉ch->s.heap.get? b=some o->H b=none->∃ sl,h'.get? b=some { o with slots:=sl }) (free:∀ b o,b∉ch->s.heap.get? b=some o->H b=none->H' b=none)
  (there:∀ b o,b∉ch->s.heap.get? b=some o->∃ o',h'.get? b=some o')
  (tups:∀ b xs,H b=some (.tup xs)->H' b=some (.tup xs)) (frzs:∀ b o u,H b=some (.frz o u)->H' b=some (.frz o u)) (tbls:∀ b ps,H b=some (.tbl ps)->∃ more,H' b=some (.tbl (ps++more)))
  (ns:∀ m,s.heap.Ns X.env.locals m->h'.Ns X.env.locals m) (hok:iU X.prog X.w H' h') (hg:AllBare g') :
  Inv X pins σ H' { s with heap:=h',gens:=g',drawn:=d',toks:=t' }:=by
 have neL:∀ b o,X.s₀.heap.get? b=some o->b≠X.env.locals:=fun b o e=>Nat.ne_of_lt (Nat.lt_of_lt_of_le (Heap.lt_size e) I.ok.above)
 have neC:∀ b o,X.s₀.heap.get? b=some o->b∉X.ex->b∉ch:=fun b o e hx hb=>by
  rcases (hch b hb).1 with z | z
  ·exact hx z
  ·exact absurd (Nat.lt_of_lt_of_le (Heap.lt_size e) z) (Nat.lt_irrefl _)
 have cellK:∀ x c,X.env.cells.lookup x=some c->∀ v,s.heap.IsCell c v->h'.IsCell c v:=fun x c e v ⟨o,ho,hd⟩=>by
  have nch:c∉ch:=fun z=>(hch c z).2.2.1 x c e rfl
  by_cases hc:c∈X.fs
  ·obtain ⟨sl,q⟩:=slot c o (I.Ey x c e) hc nch ho (I.freeC x c e)
   exact ⟨_,q,hd⟩
  ·exact ⟨o,keep c o (I.Ey x c e) hc nch ho (I.freeC x c e),hd⟩
 refine ⟨I.ok,I.os,hg,⟨fun b o e n hb hx=>?_,fun b o e n hb hx=>?_,fun b o e n hx=>?_,fun b o e hx=>?_,fun b xs e=>tups b xs (I.base.tups b xs e),fun b o xs e=>frzs b o xs (I.base.frzs b o xs e),fun b ps e=>?_⟩,?_,fun x c e=>?_,?_,fun x c e=>?_,fun p hp=>?_,hok,I.len⟩
 ·exact keep b o (neL b o e) hb (neC b o e hx) (I.base.keep b o e n hb hx) (I.base.free b o e n hx)
 ·obtain ⟨sl,e1⟩:=I.base.slot b o e n hb hx
  obtain ⟨sl',e2⟩:=slot b _ (neL b o e) hb (neC b o e hx) e1 (I.base.free b o e n hx)
  exact ⟨sl',e2⟩
 ·obtain ⟨o',e1⟩:=I.base.there b o e hx
  exact free b o' (neC b o e hx) e1 (I.base.free b o e n hx)
 ·obtain ⟨o',e1⟩:=I.base.there b o e hx
  exact there b o' (neC b o e hx) e1
 ·obtain ⟨m1,e1⟩:=I.base.tbls b ps e
  obtain ⟨m2,e2⟩:=tbls b _ e1
  exact ⟨m1++m2,by rw [e2,Array.append_assoc]⟩
 ·obtain ⟨m,hn,hl⟩:=I.loc
  refine ⟨m,ns m hn,fun i x v e1 e2 e3=>?_⟩
  obtain ⟨u,r,l⟩:=hl i x v e1 e2 e3
  refine ⟨u,r,?_⟩
  rcases l with l | ⟨k,c,e,z⟩
  ·exact .inl l
  ·exact .inr ⟨k,c,e,cellK x c e _ z⟩
 ·obtain ⟨v,z⟩:=I.cell x c e
  exact ⟨v,cellK x c e v z⟩
 ·obtain ⟨m,⟨o,_,_,ho,_⟩,_⟩:=I.loc
  exact free _ o (fun z=>(hch _ z).2.1 rfl) ho I.free
 ·obtain ⟨v,o,ho,hd⟩:=I.cell x c e
  exact free c o (fun z=>(hch c z).2.2.1 x c e rfl) ho (I.freeC x c e)
 ·obtain ⟨e,n,ne,nf,d⟩:=I.pin p hp
  have nch:p.1∉ch:=fun z=>(hch p.1 z).2.2.2 p hp rfl
  exact ⟨keep p.1 p.2 ne nf nch e n,free p.1 p.2 nch e n,ne,nf,d⟩
theorem Inv.un {t':Nat} (I:Inv X pins σ H s) (u:Un X.fs [] H H' s.heap h') (hok:iU X.prog X.w H' h'):Inv X pins σ H' { s with heap:=h',toks:=t' }:=by
 obtain ⟨m,⟨o,es,ep,ho,r⟩,_⟩:=id I.loc
 obtain ⟨sl,hL⟩:=u.any ho I.free (by simp)
 exact I.step (g':=s.gens) (d':=s.drawn) (ch:=[]) (fun _ z=>nomatch z) (fun b o _ hb _ e n=>u.keep b o e n hb (by simp)) (fun b o _ hb _ e n=>u.slot b o e n hb (by simp)) (fun b o _ e n=>u.free b o e n (by simp)) (fun b o _ e=>u.there b o e (by simp)) u.tups u.frzs u.tbls (fun m' hm=>by
  obtain ⟨o',es',ep',ho',r'⟩:=hm
  rw [ho] at ho';cases ho'
  exact ⟨_,es',ep',hL,r'⟩) hok I.bare
theorem Inv.call {g':Array GenState} {t':Nat} {d':Drawn} {ch:List Addr} (I:Inv X pins σ H s) (u:Un (frs X.stack) ch H H' s.heap h') (hok:iU X.prog X.w H' h') (hg:AllBare g')
  (hch:∀ b∈ch,(b∈X.ex\/X.s₀.heap.objs.size<=b)/\b≠X.env.locals/\(∀ x c,X.env.cells.lookup x=some c->c≠b)/\∀ p∈X.pn++pins,p.1≠b) :
  Inv X pins σ H' { s with heap:=h',gens:=g',drawn:=d',toks:=t' }:=by
 obtain ⟨m,⟨o,es,ep,ho,r⟩,_⟩:=id I.loc
 obtain ⟨sl,hL⟩:=u.any ho I.free fun z=>(hch _ z).2.1 rfl
 exact I.step (ch:=ch) hch (fun b o hL hb hc e n=>u.keep b o e n (fun z=>(List.mem_cons.mp (I.nA b z)).elim hL hb) hc) (fun b o _ _ hc e n=>u.any e n hc) (fun b o hc e n=>u.free b o e n hc) (fun b o hc e=>u.there b o e hc) u.tups u.frzs u.tbls (fun m' hm=>by
  obtain ⟨o',es',ep',ho',r'⟩:=hm
  rw [ho] at ho';cases ho'
  exact ⟨_,es',ep',hL,r'⟩) hok hg
theorem Inv.turned {t':Nat} {it:Addr} (I:Inv X pins σ H s) (k:∀ b o,b≠it->s.heap.get? b=some o->h'.get? b=some o) (hn:H it=none) (hL:it≠X.env.locals)
  (h1:it∈X.ex\/X.s₀.heap.objs.size<=it) (h2:∀ x c,X.env.cells.lookup x=some c->c≠it) (h3:∀ p∈X.pn++pins,p.1≠it):Inv X pins σ H { s with heap:=h',toks:=t' }:=by
 have nit:∀ b u,H b=some u->b≠it:=fun b u e z=>by rw [z,hn] at e;cases e
 refine I.step (g':=s.gens) (d':=s.drawn) (ch:=[it]) (fun b hb=>?_) (fun b o _ _ hc e _=>k b o (fun z=>hc (by simp [z])) e) (fun b o _ _ hc e _=>⟨o.slots,k b o (fun z=>hc (by simp [z])) e⟩) (fun _ _ _ _ n=>n)
  (fun b o hc e=>⟨o,k b o (fun z=>hc (by simp [z])) e⟩) (fun _ _ e=>e) (fun _ _ _ e=>e) (fun b ps e=>⟨#[],by rw [e];simp⟩) (fun m hm=>?_) (fun b u e=>?_) I.bare
 ·have e:b=it:=by simpa using hb
  subst e
  exact ⟨h1,hL,h2,h3⟩
 ·obtain ⟨o,es,ep,ho,r⟩:=hm
  exact ⟨o,es,ep,k _ o (Ne.symm hL) ho,r⟩
 ·refine (I.hok b u e).stay (fun c v hc q=>k c v ?_ q) (fun _ q=>q) fun _ _ q=>q
  rcases hc with z | z
  ·rw [z];exact nit b u e
  ·exact nit c _ z
theorem Inv.tok (I:Inv X pins σ H s) (t:Nat):Inv X pins σ H { s with toks:=t }:=I.un (h':=s.heap) (t':=t) Un.refl I.hok
theorem Inv.kept {t':Nat} (I:Inv X pins σ H s) (k:∀ b u,s.heap.get? b=some u->h'.get? b=some u):Inv X pins σ H { s with heap:=h',toks:=t' }:=I.un (Un.kept k) (I.hok.kept k)
theorem Inv.laid {a:Addr} {o:HO} {t':Nat} (I:Inv X pins σ H s) (k:∀ b u,s.heap.get? b=some u->h'.get? b=some u) (hp:s.heap.objs.size<=a) (new:bM X.prog X.w (upd H a o) h' a o) :
  Inv X pins σ (upd H a o) { s with heap:=h',toks:=t' }:=I.un (Un.laid k hp (I.hok.fresh hp)) (I.hok.laid k hp new)
theorem Inv.write {x e:Addr} {o:HO} {t':Nat} (I:Inv X pins σ H s) (mu:JS (H x)) (he:e=x\/H e=some (.own x)) (k:∀ b u,b≠e->s.heap.get? b=some u->h'.get? b=some u) (heo:∃ u,h'.get? e=some u)
  (new:bM X.prog X.w (upd H x o) h' x o):Inv X pins σ (upd H x o) { s with heap:=h',toks:=t' }:=I.un (Un.write mu he k heo) (I.hok.write mu he k heo new)
theorem Inv.xO {pins':List (Addr×Obj)} (I:Inv X pins σ H s) (h:∀ p∈pins',s.heap.get? p.1=some p.2/\H p.1=none/\p.1≠X.env.locals/\p.1∉X.fs/\∀ v,p.2.data≠.cell v):Inv X pins' σ H s:=
 ⟨I.ok,I.os,I.bare,I.base,I.loc,I.cell,I.free,I.freeC,fun p hp=>(List.mem_append.mp hp).elim (fun z=>I.pin p (List.mem_append_left _ z)) (h p),I.hok,I.len⟩
theorem ny {N:List Str} (hN:N.Nodup) {i j:Nat} {x:Str} (a:N[i]?=some x) (b:N[j]?=some x):i=j:=by
 obtain ⟨h1,e1⟩:=List.getElem?_eq_some_iff.mp a
 obtain ⟨h2,e2⟩:=List.getElem?_eq_some_iff.mp b
 exact (List.getElem_inj hN).mp (e1.trans e2.symm)
theorem yt {M:Model} {A:Around} {E:Value->Shared->Prop} {i:Nat} {x:Str} {v:V} {u:Value} {Q:Unit->Shared->Prop} (I:Inv X pins σ H s) (hN:X.N.Nodup) (hi:X.N[i]?=some x) (hx:Loc X.env.scope x) (r:RelV v u)
  (h:∀ s',Inv X pins (σ.set i (some v)) H s'->(∃ a,Heap.SameBut a s.heap s'.heap/\(a=X.env.locals\/X.env.cells.lookup x=some a))->Q () s') (hf:X.fn x=true\/X.env.scope.names.lookup x=some .local:=by first | exact .inl rfl | exact .inr rfl | assumption):wpAny M A (storeName X.env x u) Q E s:=by
 obtain ⟨m,hn,hl⟩:=id I.loc
 have hcls:(X.env.scope.kind == .class || (X.env.scope.kind == .module && X.env.locals != X.env.globals))=false:=by rw [I.ok.kind];rfl
 have hiσ:i < σ.length:=by rw [I.len];exact (List.getElem?_eq_some_iff.mp hi).1
 have Ey:=I.Ey
 have tracked:∀ {a:Addr} {h':Heap},(∃ o,s.heap.get? a=some o/\H a=none)->Heap.SameBut a s.heap h'->iU X.prog X.w H h':=fun {a h'} ha hs b ob e=>by
  obtain ⟨_,_,hfree⟩:=ha
  refine (I.hok b ob e).stay (fun c w' hc q=>(hs.2 c ?_).trans q) (fun _ q=>q) fun _ _ q=>q
  rintro rfl
  rcases hc with rfl | hc
  ·rw [hfree] at e;cases e
  ·rw [hfree] at hc;cases hc
 rcases hx with hk | hk
 ·refine wpAny_storeName_local hk hn (fun h' hn' hs=>?_) hcls
  obtain ⟨oL,_,_,hoL,_⟩:=id hn
  refine h _ ⟨I.ok,I.os,I.bare,⟨fun b o e n hb hx=>?_,fun b o e n hb hx=>?_,I.base.free,fun b o e hx=>?_,I.base.tups,I.base.frzs,I.base.tbls⟩,⟨_,hn',fun j y v' e1 e2 e3=>?_⟩,fun y c e=>?_,I.free,I.freeC,fun p hp=>?_,tracked ⟨oL,hoL,I.free⟩ hs,by simpa using I.len⟩ ⟨_,hs,.inl rfl⟩
  ·exact (hs.2 b (Nat.ne_of_lt (Nat.lt_of_lt_of_le (Heap.lt_size e) I.ok.above))).trans (I.base.keep b o e n hb hx)
  ·obtain ⟨sl,e1⟩:=I.base.slot b o e n hb hx
   exact ⟨sl,(hs.2 b (Nat.ne_of_lt (Nat.lt_of_lt_of_le (Heap.lt_size e) I.ok.above))).trans e1⟩
  ·obtain ⟨o',e1⟩:=I.base.there b o e hx
   exact ⟨o',(hs.2 b (Nat.ne_of_lt (Nat.lt_of_lt_of_le (Heap.lt_size e) I.ok.above))).trans e1⟩
  ·by_cases hj:j=i
   ·subst hj
    rw [hi] at e1;cases e1
    rw [List.getElem?_set_self hiσ] at e2
    cases e2
    exact ⟨u,r,.inl ⟨hk,by simp⟩⟩
   ·rw [List.getElem?_set_ne (Ne.symm hj)] at e2
    obtain ⟨u',r',q⟩:=hl j y v' e1 e2 e3
    refine ⟨u',r',?_⟩
    rcases q with ⟨k,e⟩ | ⟨k,c,e,z⟩
    ·refine .inl ⟨k,?_⟩
     have:y≠x:=fun e=>hj (ny hN e1 (e ▸ hi))
     simp [this,e]
    ·exact .inr ⟨k,c,e,z.sameBut hs (Ey y c e)⟩
  ·obtain ⟨w',z⟩:=I.cell y c e
   exact ⟨w',z.sameBut hs (Ey y c e)⟩
  ·obtain ⟨e,n,ne,nf,d⟩:=I.pin p hp
   exact ⟨(hs.2 p.1 ne).trans e,n,ne,nf,d⟩
 ·have hfn:X.fn x=true:=by
   rcases hf with z | z
   ·exact z
   ·rw [z] at hk;cases hk
  obtain ⟨c,hc⟩:=I.ok.has x (.inl hk)
  obtain ⟨w',z⟩:=I.cell x c hc
  refine wpAny_storeName_cell I.ok.kind hk hc z (fun h' hc' hs=>?_)
  obtain ⟨oc,hoc,hocd⟩:=id z
  refine h { s with heap:=h' } ⟨I.ok,I.os,I.bare,⟨fun b o e n hb hx=>?_,fun b o e n hb hx=>?_,I.base.free,fun b o e hx=>?_,I.base.tups,I.base.frzs,I.base.tbls⟩,⟨m,hn.sameBut hs (Ne.symm (Ey x c hc)),fun j y v' e1 e2 e3=>?_⟩,fun y c' e=>?_,I.free,I.freeC,fun p hp=>?_,tracked ⟨oc,hoc,I.freeC x c hc⟩ hs,by simpa using I.len⟩ ⟨c,hs,.inr hc⟩
  ·exact (hs.2 b (Nat.ne_of_lt (Nat.lt_of_lt_of_le (Heap.lt_size e) (I.ok.cab x c hfn hc)))).trans (I.base.keep b o e n hb hx)
  ·obtain ⟨sl,e1⟩:=I.base.slot b o e n hb hx
   exact ⟨sl,(hs.2 b (Nat.ne_of_lt (Nat.lt_of_lt_of_le (Heap.lt_size e) (I.ok.cab x c hfn hc)))).trans e1⟩
  ·obtain ⟨o',e1⟩:=I.base.there b o e hx
   exact ⟨o',(hs.2 b (Nat.ne_of_lt (Nat.lt_of_lt_of_le (Heap.lt_size e) (I.ok.cab x c hfn hc)))).trans e1⟩
  ·by_cases hj:j=i
   ·subst hj
    rw [hi] at e1;cases e1
    rw [List.getElem?_set_self hiσ] at e2
    cases e2
    exact ⟨u,r,.inr ⟨.inl hk,c,hc,hc'⟩⟩
   ·rw [List.getElem?_set_ne (Ne.symm hj)] at e2
    obtain ⟨u',r',q⟩:=hl j y v' e1 e2 e3
    refine ⟨u',r',?_⟩
    rcases q with q | ⟨k,c',e,z'⟩
    ·exact .inl q
    ·refine .inr ⟨k,c',e,z'.sameBut hs ?_⟩
     rintro rfl
     exact hj (ny hN e1 (I.ok.inj _ _ _ e hc ▸ hi))
  ·by_cases hcc:c'=c
   ·subst hcc;exact ⟨_,hc'⟩
   ·obtain ⟨w2,z2⟩:=I.cell y c' e
    exact ⟨w2,z2.sameBut hs hcc⟩
  ·obtain ⟨e,n,ne,nf,d⟩:=I.pin p hp
   refine ⟨(hs.2 p.1 ?_).trans e,n,ne,nf,d⟩
   intro q
   rw [q,hoc] at e
   have q':oc=p.2:=Option.some.inj e
   exact d w' (by rw [<- q'];exact hocd)
theorem iw {M:Model} {A:Around} {E:Value->Shared->Prop} {i:Nat} {x:Str} {v:V} {u:Value} {Q:Unit->Shared->Prop} (I:Inv X pins σ H s) (hN:X.N.Nodup) (hi:X.N[i]?=some x) (hx:Loc X.env.scope x) (r:RelV v u)
  (h:∀ s',Inv X pins (σ.set i (some v)) H s'->Q () s') (hf:X.fn x=true\/X.env.scope.names.lookup x=some .local:=by first | exact .inl rfl | exact .inr rfl | assumption):wpAny M A (storeName X.env x u) Q E s:=
 yt I hN hi hx r (fun s' I' _=>h s' I') hf
theorem Inv.FT {s':Shared} {ch:List Addr} (I:Inv X pins σ H s) (ho:s'.os=s.os) (u:Un (frs X.stack) ch H H' s.heap s'.heap) (hok:iU X.prog X.w H' s'.heap) (hg:AllBare s'.gens)
  (hch:∀ b∈ch,(b∈X.ex\/X.s₀.heap.objs.size<=b)/\b≠X.env.locals/\(∀ x c,X.env.cells.lookup x=some c->c≠b)/\∀ p∈X.pn++pins,p.1≠b):Inv X pins σ H' s':=by
 obtain ⟨h',g',d',t',o'⟩:=s'
 have e:o'=s.os:=ho
 subst e
 exact I.call (g':=g') (t':=t') (d':=d') u hok hg hch
end
noncomputable abbrev XK:=Value->Option Addr->Hp->Prop
noncomputable abbrev St:=List (Option V)
noncomputable abbrev VK:=V->Hp->Prop
noncomputable abbrev TE:=St->Hp->VK->Prop
noncomputable abbrev TT:=St->Hp->(Bool->Hp->Prop)->Prop
noncomputable abbrev TA:=St->Hp->(List V->Hp->Prop)->Prop
structure Ends where
 nx:St->Hp->Prop
 rt:VK
 bk:St->Hp->Prop:=fun _ _=>False
 ct:St->Hp->Prop:=fun _ _=>False
noncomputable abbrev TS:=Ends->St->Hp->Prop
noncomputable def EP (X:Cx) (pins:List (Addr×Obj)) (σ:St) (Q:VK) (u:Value) (s':Shared):Prop:=∃ v H',Inv X pins σ H' s'/\RelV v u/\Q v H'
noncomputable def TP (X:Cx) (pins:List (Addr×Obj)) (σ:St) (Q:Bool->Hp->Prop) (b:Bool) (s':Shared):Prop:=∃ H',Inv X pins σ H' s'/\Q b H'
noncomputable def AP (X:Cx) (pins:List (Addr×Obj)) (σ:St) (Q:List V->Hp->Prop) (us:List Value) (s':Shared):Prop:=∃ vs H',Inv X pins σ H' s'/\Vals vs us/\Q vs H'
noncomputable def SP (X:Cx) (pins:List (Addr×Obj)) (D:Ends) (f:Flow) (s':Shared):Prop:=
 match f with
 | .next=>∃ σ' H',Inv X pins σ' H' s'/\D.nx σ' H'
 | .brk=>∃ σ' H',Inv X pins σ' H' s'/\D.bk σ' H'
 | .cont=>∃ σ' H',Inv X pins σ' H' s'/\D.ct σ' H'
 | .ret u=>∃ v σ' H',Inv X pins σ' H' s'/\RelV v u/\D.rt v H'
noncomputable def PE (X:Cx) (e:Expr) (t:TE):Prop:=
 ∀ (pins:List (Addr×Obj)) (s:Shared) (σ:St) (H:Hp) (Q:VK),Inv X pins σ H s->t σ H Q->wpAny (model X.prog X.w) X.A (eval e X.env) (EP X pins σ Q) X.xe s
noncomputable def PT (X:Cx) (e:Expr) (t:TT):Prop:=
 ∀ (pins:List (Addr×Obj)) (s:Shared) (σ:St) (H:Hp) (Q:Bool->Hp->Prop),Inv X pins σ H s->t σ H Q->wpAny (model X.prog X.w) X.A (isTrue e X.env (eval e X.env)) (TP X pins σ Q) X.xe s
noncomputable def PW (X:Cx) (e:Expr) (t:TT):Prop:=
 ∀ (whole:Sem Value) (pins:List (Addr×Obj)) (s:Shared) (σ:St) (H:Hp) (Q:Bool->Hp->Prop),Inv X pins σ H s->t σ H Q->wpAny (model X.prog X.w) X.A (isTrue e X.env whole) (TP X pins σ Q) X.xe s
noncomputable def PA (X:Cx) (es:List Expr) (t:TA):Prop:=
 ∀ (pos:Pos) (pins:List (Addr×Obj)) (s:Shared) (σ:St) (H:Hp) (Q:List V->Hp->Prop),Inv X pins σ H s->t σ H Q->wpAny (model X.prog X.w) X.A (spliced (backTo pos (starEach es X.env))) (AP X pins σ Q) X.xe s
noncomputable def PS (X:Cx) (st:Stmt) (t:TS):Prop:=
 ∀ (pins:List (Addr×Obj)) (s:Shared) (σ:St) (H:Hp) (D:Ends),Inv X pins σ H s->t D σ H->wpAny (model X.prog X.w) X.A (exec st X.env) (SP X pins D) X.xe s
noncomputable def oF (X:Cx) (st:List Stmt) (t:TS):Prop:=
 ∀ (pins:List (Addr×Obj)) (s:Shared) (σ:St) (H:Hp) (D:Ends),Inv X pins σ H s->t D σ H->wpAny (model X.prog X.w) X.A (execs st X.env) (SP X pins D) X.xe s
theorem bO {α:Type} {t:Sem α} {Q Q':α->Shared->Prop} {M:Model} {A:Around} {E:Value->Shared->Prop} {s:Shared} (h:wpAny M A t Q E s) (hQ:∀ a s,Q a s->Q' a s):wpAny M A t Q' E s:=wpAny_mono h hQ fun _ _ x=>x
section
variable {X:Cx}
noncomputable def KC (i:Nat):TE:=fun σ H Q=>∃ v,σ[i]?=some (some v)/\Q v H
noncomputable def tC (v:V):TE:=fun _ H Q=>Q v H
theorem zP {i:Nat} {x:Str} {pos:Pos} (hN:X.N[i]?=some x) (hv:Jv X.env.scope x) (hd:(x == ("__debug__" : Str))=false:=by decide) (hcd:(x == ("__classdict__" : Str))=false:=by decide):PE X (.Name x pos) (KC i):=by
 intro pins s σ H Q I h
 obtain ⟨v,e,h⟩:=h
 obtain ⟨m,hn,hl⟩:=I.loc
 obtain ⟨u,r,l⟩:=hl i x v hN e hv
 have fin:EP X pins σ Q u s:=⟨v,H,I,r,h⟩
 rcases l with ⟨hk,hm⟩ | ⟨hk,c,hc,hcell⟩
 ·exact wpAny_Name (wpAny_loadName_local I.ok.kind hk hn hm fin) hd
 ·rcases hk with hk | hk
  ·exact wpAny_Name (wpAny_loadName_cell I.ok.kind hk hc hcell fin) hd
  ·exact wpAny_Name (wpAny_loadName_free I.ok.kind hk hc hcell fin hcd) hd
theorem t6 {i j pos}:PE X (.Constant (.int i) j pos) (tC (.int i)):=fun _ _ _ H _ I h=>wpAny_Constant_int ⟨.int i,H,I.tok _,⟨_,rfl⟩,h⟩
theorem Kc {b j pos}:PE X (.Constant (.bool b) j pos) (tC (.bl b)):=fun _ _ _ H _ I h=>Constant_bool ⟨.bl b,H,I,rfl,h⟩
theorem G6 {j pos}:PE X (.Constant .none j pos) (tC .non):=fun _ _ _ H _ I h=>Constant_none ⟨.non,H,I,rfl,h⟩
theorem AH {x j pos}:PE X (.Constant (.str x) j pos) (tC (.str x)):=fun _ _ _ H _ I h=>Calls.Constant_str ⟨.str x,H,I.tok _,⟨_,rfl⟩,h⟩
noncomputable def Gl (X:Cx) (x:Str):Prop:=X.env.kindOf x=some .globalImplicit
theorem lJ {E:Value->Shared->Prop} {pins:List (Addr×Obj)} {s:Shared} {σ:St} {H:Hp} {x:Str} {u:Value} {pos:Pos} {Q:Value->Shared->Prop} (I:Inv X pins σ H s) (hg:Gl X x) (hm:X.mg x=some u) (h:Q u s)
  (hd:(x == ("__debug__" : Str))=false:=by decide):wpAny (model X.prog X.w) X.A (eval (.Name x pos) X.env) Q E s:=
 Calls.Name_function_global I.ok.kind hg (Calls.loadGlobal_global (by rw [I.ok.glob];exact I.mod.glob.keeps I.bk) hm h) hd
theorem mS {E:Value->Shared->Prop} {pins:List (Addr×Obj)} {s:Shared} {σ:St} {H:Hp} {x:Str} {u:Value} {pos:Pos} {Q:Value->Shared->Prop} (I:Inv X pins σ H s) (hg:Gl X x) (hm:X.mg x=none) (hv:bootBuiltins x=some u) (h:Q u s)
  (hn:x ≠ "__name__" := by decide) (hd:(x == ("__debug__" : Str))=false:=by decide):wpAny (model X.prog X.w) X.A (eval (.Name x pos) X.env) Q E s:=by
 obtain ⟨mb,h1,h2⟩:=I.mod.blt
 exact Calls.Name_function_global I.ok.kind hg (Calls.loadGlobal_builtin (by rw [I.ok.glob];exact I.mod.glob.keeps I.bk) hm (by rw [I.ok.blt];exact h1.keeps I.bk) ((h2 x hn).trans hv) h) hd
theorem xN {x:Str} {v:V} {u:Value} {pos:Pos} (hg:Gl X x) (hm:X.mg x=some u) (r:RelV v u) (hd:(x == ("__debug__" : Str))=false:=by decide):PE X (.Name x pos) (tC v):=
 fun _ _ _ H _ I h=>lJ I hg hm ⟨v,H,I,r,h⟩ hd
theorem xg {x:Str} {v:V} {u:Value} {pos:Pos} (hg:Gl X x) (hm:X.mg x=none) (hv:bootBuiltins x=some u) (r:RelV v u) (hn:x ≠ "__name__" := by decide) (hd:(x == ("__debug__" : Str))=false:=by decide):PE X (.Name x pos) (tC v):=
 fun _ _ _ H _ I h=>mS I hg hm hv ⟨v,H,I,r,h⟩ hn hd
variable {a b:Expr} {ta tb:TE} {pos:Pos}
variable {tA tB':TT} {rest:List Expr}
noncomputable def Nb (t u:TT):TT:=fun σ H Q=>t σ H fun c H1=>if c=true then Q true H1 else u σ H1 Q
noncomputable def Mu (t:TT):TT:=fun σ H Q=>t σ H fun c H1=>Q (!c) H1
theorem G3 (ha:PT X a tA):PW X (.BoolOp .Or [a] pos) tA:=by
 intro wh pins s σ H Q I h
 refine isTrue_or (bO (ha pins s σ H Q I h) fun c s1 e=>?_)
 cases c with
 | false=>exact isTrue_or_nil e
 | true=>exact e
theorem JF (ha:PT X a tA) (hb:PW X (.BoolOp .Or (b::rest) pos) tB'):PW X (.BoolOp .Or (a::b::rest) pos) (Nb tA tB'):=by
 intro wh pins s σ H Q I h
 refine isTrue_or (bO (ha pins s σ H _ I h) fun c s1 ⟨H1,I1,q1⟩=>?_)
 cases c with
 | true=>exact ⟨H1,I1,q1⟩
 | false=>exact hb wh pins s1 σ H1 Q I1 q1
theorem Jc (ha:PT X a tA):PT X (.UnaryOp .Not a pos) (Mu tA):=by
 intro pins s σ H Q I h
 exact isTrue_not (ha pins s σ H (fun c H1=>Q (!c) H1) I h)
noncomputable def K_ (ta tb:TE):TE:=fun σ H Q=>ta σ H fun x H1=>∃ c,x=.bl c/\if c=true then tb σ H1 Q else Q (.bl false) H1
noncomputable def L6 (ta tb:TE):TE:=fun σ H Q=>ta σ H fun x H1=>∃ c,x=.bl c/\if c=true then Q (.bl true) H1 else tb σ H1 Q
noncomputable def Km (ta:TE):TE:=fun σ H Q=>ta σ H fun x H1=>∃ c,x=.bl c/\Q (.bl (!c)) H1
theorem Ii {op} {t:TE} (h:PE X a t):PE X (.BoolOp op [a] pos) t:=fun pins s σ H Q I hw=>BoolOp_one (h pins s σ H Q I hw)
theorem Hy (ha:PE X a ta) (hb:PE X (.BoolOp .And (b::rest) pos) tb):PE X (.BoolOp .And (a::b::rest) pos) (K_ ta tb):=by
 intro pins s σ H Q I h
 refine BoolOp_and (bO (ha pins s σ H _ I h) fun v s1 ⟨x,H1,I1,r1,q1⟩=>?_)
 obtain ⟨c,rfl,q1⟩:=q1
 cases r1
 refine wpAny_truthy_bool ?_
 cases c with
 | true=>exact hb pins s1 σ H1 Q I1 q1
 | false=>exact ⟨.bl false,H1,I1,rfl,q1⟩
theorem KI (ha:PE X a ta) (hb:PE X (.BoolOp .Or (b::rest) pos) tb):PE X (.BoolOp .Or (a::b::rest) pos) (L6 ta tb):=by
 intro pins s σ H Q I h
 refine BoolOp_or (bO (ha pins s σ H _ I h) fun v s1 ⟨x,H1,I1,r1,q1⟩=>?_)
 obtain ⟨c,rfl,q1⟩:=q1
 cases r1
 refine wpAny_truthy_bool ?_
 cases c with
 | false=>exact hb pins s1 σ H1 Q I1 q1
 | true=>exact ⟨.bl true,H1,I1,rfl,q1⟩
theorem Hi (ha:PE X a ta):PE X (.UnaryOp .Not a pos) (Km ta):=by
 intro pins s σ H Q I h
 refine UnaryOp_ (bO (ha pins s σ H _ I h) fun v s1 ⟨x,H1,I1,r1,q1⟩=>?_)
 obtain ⟨c,rfl,q1⟩:=q1
 cases r1
 exact not_of (wpAny_truthy_bool ⟨.bl (!c),H1,I1,rfl,q1⟩)
end
noncomputable def dQ (K:PySem.W.Frag) (H:Hp) (a:Addr) (xs:List V):Prop:=
 Rd H a (.lst xs) \/
  ∃ (o:Obj) (its:Array Value) (n:Nat),K.lookup a=some o/\o.cls=.type "list" /\ o.dict=none/\o.data=.seq its n/\its.size<=sizeLine/\Vals xs its.toList
noncomputable def cI (K:PySem.W.Frag) (H:Hp) (a:Addr) (xs:List V):Prop:=
 Rd H a (.tup xs) \/
  ∃ (o:Obj) (its:Array Value) (n:Nat),K.lookup a=some o/\o.cls=.type "tuple" /\ o.dict=none/\o.data=.seq its n/\its.size<=sizeLine/\Vals xs its.toList
noncomputable def Mz:Value->Option V
 | .none=>some .non
 | .bool b=>some (.bl b)
 | .int i _=>some (.int i)
 | .str x _=>some (.str x)
 | .bytes b _=>some (.byt b)
 | .float b _=>some (.flt b)
 | .ref a=>some (.ref a)
 | .type n=>some (.ty n)
 | _=>none
theorem RelV.abs {x:V} {u:Value} (r:RelV x u):Mz u=some x:=by
 cases x with
 | non=>cases r;rfl
 | bl _=>cases r;rfl
 | int _=>obtain ⟨t,rfl⟩:=r;rfl
 | str _=>obtain ⟨t,rfl⟩:=r;rfl
 | byt _=>obtain ⟨t,rfl⟩:=r;rfl
 | flt _=>obtain ⟨t,rfl⟩:=r;rfl
 | ref _=>cases r;rfl
 | ty _=>cases r;rfl
theorem RelV.inj {x y:V} {u:Value} (r:RelV x u) (q:RelV y u):x=y:=Option.some.inj (r.abs.symm.trans q.abs)
theorem Vals.inj:∀ {xs ys:List V} {us:List Value},Vals xs us->Vals ys us->xs=ys
 | _,_,_,.nil,.nil=>rfl
 | _,_,_,.cons r t,.cons r' t'=>by rw [r.inj r',Vals.inj t t']
section
variable {X:Cx} {pins:List (Addr×Obj)} {σ:St} {H:Hp} {s:Shared} {a:Addr} {xs ys:List V}
theorem dQ.of {K:PySem.W.Frag} (h:H a=some (.lst xs)):dQ K H a xs:=.inl (.inl h)
theorem cI.of {K:PySem.W.Frag} (h:H a=some (.tup xs)):cI K H a xs:=.inl (.inl h)
theorem Inv.list (I:Inv X pins σ H s) (h:dQ X.K H a xs):∃ its:List Value,Vals xs its/\PlainL s.heap a its.toArray/\xs.length<=sizeLine:=by
 rcases h with h | ⟨o,its,n,hk,hc,hd,hs,hz,r⟩
 ·obtain ⟨z,its,n,r,e⟩:=h.ok I.hok
  exact ⟨its,r,⟨_,n,e,rfl,rfl,rfl⟩,z⟩
 ·refine ⟨its.toList,r,⟨o,n,I.nU a o hk,hc,hd,by simpa using hs⟩,?_⟩
  have e:=r.length
  simp only [Array.length_toList] at e
  omega
theorem Inv.tuple (I:Inv X pins σ H s) (h:cI X.K H a xs):∃ its:List Value,Vals xs its/\IsTup s.heap a its.toArray/\xs.length<=sizeLine:=by
 rcases h with h | ⟨o,its,n,hk,hc,_,hs,hz,r⟩
 ·obtain ⟨z,its,r,p⟩:=h.ok I.hok
  exact ⟨its,r,p.tup,z⟩
 ·refine ⟨its.toList,r,⟨o,I.nU a o hk,hc,n,by simpa using hs⟩,?_⟩
  have e:=r.length
  simp only [Array.length_toList] at e
  omega
theorem Inv.HB (I:Inv X pins σ H s) (h:cI X.K H a xs):∃ o,s.heap.get? a=some o/\o.cls=.type "tuple" /\ o.dict=none:=by
 rcases h with h | ⟨o,its,n,hk,hc,hd,hs,hz,r⟩
 ·obtain ⟨z,its,r,o,e,c,d,_⟩:=h.ok I.hok
  exact ⟨o,e,c,d⟩
 ·exact ⟨o,I.nU a o hk,hc,hd⟩
theorem Inv.B8 (I:Inv X pins σ H s) (h:dQ X.K H a xs) (h':dQ X.K H a ys):xs=ys:=by
 obtain ⟨its,r,⟨o,n,e,_,_,d⟩,_⟩:=I.list h
 obtain ⟨its',r',⟨o',n',e',_,_,d'⟩,_⟩:=I.list h'
 rw [e] at e';cases e'
 rw [d] at d'
 injection d' with d1 _
 have:its=its':=by simpa using congrArg Array.toList d1
 subst this
 exact r.inj r'
theorem Inv.om (I:Inv X pins σ H s) (h:cI X.K H a xs) (h':cI X.K H a ys):xs=ys:=by
 obtain ⟨its,r,⟨o,e,_,n,d⟩,_⟩:=I.tuple h
 obtain ⟨its',r',⟨o',e',_,n',d'⟩,_⟩:=I.tuple h'
 rw [e] at e';cases e'
 rw [d] at d'
 injection d' with d1 _
 have:its=its':=by simpa using congrArg Array.toList d1
 subst this
 exact r.inj r'
end
noncomputable abbrev Cx.n9 (X:Cx) (E:Value->Shared->Prop):Cx:={ X with xe:=E }
noncomputable abbrev Cx.KH (X:Cx):Cx:=X.n9 fun _ _=>False
theorem Cx.Ok.n9 {X:Cx} (ok:X.Ok) (E:Value->Shared->Prop):(X.n9 E).Ok:=
 ⟨ok.mod,ok.kind,ok.glob,ok.blt,ok.above,ok.inj,ok.has,ok.cab,ok.hd,ok.frames,ok.stk,ok.exf,ok.bs,ok.bsz,ok.noex,ok.exfs,ok.iu,ok.frf⟩
theorem Cx.Ok.g_ {X:Cx} {E:Value->Shared->Prop} (ok:(X.n9 E).Ok):X.Ok:=
 ⟨ok.mod,ok.kind,ok.glob,ok.blt,ok.above,ok.inj,ok.has,ok.cab,ok.hd,ok.frames,ok.stk,ok.exf,ok.bs,ok.bsz,ok.noex,ok.exfs,ok.iu,ok.frf⟩
section
variable {X:Cx} {pins:List (Addr×Obj)} {σ:St} {H:Hp} {s:Shared} {E:Value->Shared->Prop}
theorem Inv.n9 (I:Inv X pins σ H s) (E:Value->Shared->Prop):Inv (X.n9 E) pins σ H s:=⟨I.ok.n9 E,I.os,I.bare,I.base,I.loc,I.cell,I.free,I.freeC,I.pin,I.hok,I.len⟩
theorem Inv.g_ (I:Inv (X.n9 E) pins σ H s):Inv X pins σ H s:=⟨I.ok.g_,I.os,I.bare,I.base,I.loc,I.cell,I.free,I.freeC,I.pin,I.hok,I.len⟩
theorem SP.g_ {D:Ends} {f:Flow} {s':Shared} (h:SP (X.n9 E) pins D f s'):SP X pins D f s':=by
 cases f with
 | next=>obtain ⟨σ',H',I,q⟩:=h;exact ⟨σ',H',I.g_,q⟩
 | brk=>obtain ⟨σ',H',I,q⟩:=h;exact ⟨σ',H',I.g_,q⟩
 | cont=>obtain ⟨σ',H',I,q⟩:=h;exact ⟨σ',H',I.g_,q⟩
 | ret u=>obtain ⟨v,σ',H',I,r,q⟩:=h;exact ⟨v,σ',H',I.g_,r,q⟩
theorem oF.KH {st:List Stmt} {t:TS} (h:oF X.KH st t):oF X st t:=fun pins s σ H D I hw=>
 wpAny_mono (h pins s σ H D (I.n9 _) hw) (fun _ _ q=>q.g_) fun _ _ z=>False.elim z
end
section
variable {X:Cx} {st:Stmt} {rest:List Stmt} {t u:TS} {e:Expr} {te:TE} {pos:Pos}
noncomputable def KQ:TS:=fun D σ H=>D.nx σ H
noncomputable def J_ (t u:TS):TS:=fun D σ H=>t { D with nx:=u D } σ H
theorem EJ:oF X [] KQ:=fun _ _ σ H _ I h=>wpAny_execs_nil ⟨σ,H,I,h⟩
theorem A2 (h1:PS X st t) (h2:oF X rest u):oF X (st::rest) (J_ t u):=by
 intro pins s σ H D I h
 refine wpAny_execs_cons (bO (h1 pins s σ H { D with nx:=u D } I h) fun f s1 q=>?_)
 cases f with
 | next=>
  obtain ⟨σ',H',I',q⟩:=q
  exact h2 pins s1 σ' H' D I' q
 | ret v=>exact q
 | brk=>exact q
 | cont=>exact q
theorem DQ (h1:PS X st t):oF X [st] t:=by
 intro pins s σ H D I h
 refine wpAny_execs_cons (bO (h1 pins s σ H D I h) fun f s1 q=>?_)
 cases f with
 | next=>exact wpAny_execs_nil q
 | ret v=>exact q
 | brk=>exact q
 | cont=>exact q
theorem Inv.quiet {pins:List (Addr×Obj)} {σ:St} {H:Hp} {s:Shared} (I:Inv X pins σ H s):interactive X.env=false:=by simp [interactive,I.ok.kind]
noncomputable def Kw (te:TE):TS:=fun D σ H=>te σ H fun _ H1=>D.nx σ H1
theorem DO (he:PE X e te) (hs:swapsWith e none pos.line X.env=pure false:=by rfl):PS X (.Expr e pos) (Kw te):=by
 intro pins s σ H D I h
 exact wpAny_Expr_any (bO (he pins s σ H _ I h) fun v s1 ⟨x,H1,I1,r1,q1⟩=>⟨σ,H1,I1,q1⟩) I.quiet hs
noncomputable def MB (te:TE):TS:=fun D σ H=>te σ H D.rt
theorem IQ (he:PE X e te):PS X (.Return (some e) pos) (MB te):=by
 intro pins s σ H D I h
 exact wpAny_Return_some (bO (he pins s σ H _ I h) fun v s1 ⟨x,H1,I1,r1,q1⟩=>⟨x,σ,H1,I1,r1,q1⟩)
noncomputable def J0:TS:=fun D _ H=>D.rt .non H
theorem Eh:PS X (.Return none pos) J0:=fun _ _ σ H _ I h=>wpAny_Return_none ⟨.non,σ,H,I,rfl,h⟩
noncomputable def Lz (c:TT) (t u:TS):TS:=fun D σ H=>c σ H fun b H1=>if b=true then t D σ H1 else u D σ H1
theorem K4 {c:Expr} {a b:List Stmt} {tc:TT} (hc:PT X c tc) (ha:oF X a t) (hb:oF X b u):PS X (.If c a b pos) (Lz tc t u):=by
 intro pins s σ H D I h
 refine wpAny_If (bO (hc pins s σ H _ I h) fun d s1 ⟨H1,I1,q1⟩=>?_)
 cases d with
 | true=>exact ha pins s1 σ H1 D I1 q1
 | false=>exact hb pins s1 σ H1 D I1 q1
end
noncomputable abbrev TG:=V->St->Hp->(St->Hp->Prop)->Prop
noncomputable abbrev FW:=List V->St->Hp->(St->Hp->Prop)->Prop
noncomputable def PG (X:Cx) (target:Expr) (t:TG):Prop:=
 ∀ (pins:List (Addr×Obj)) (s:Shared) (σ:St) (H:Hp) (v:V) (u:Value) (Q:St->Hp->Prop),Inv X pins σ H s->RelV v u->t v σ H Q ->
  wpAny (model X.prog X.w) X.A (assign target X.env u) (fun _ s'=>∃ σ' H',Inv X pins σ' H' s'/\Q σ' H') X.xe s
noncomputable def KO (X:Cx) (ts:List Expr) (t:FW):Prop:=
 ∀ (pins:List (Addr×Obj)) (s:Shared) (σ:St) (H:Hp) (vs:List V) (us:List Value) (Q:St->Hp->Prop),Inv X pins σ H s->Vals vs us->t vs σ H Q ->
  wpAny (model X.prog X.w) X.A (assignInOrder ((assignEach ts X.env).map (·.2)) us) (fun _ s'=>∃ σ' H',Inv X pins σ' H' s'/\Q σ' H') X.xe s
noncomputable abbrev uL:=V->V->V->Hp->(Hp->Prop)->Prop
noncomputable def yy (X:Cx) (t:uL):Prop:=
 ∀ (pins:List (Addr×Obj)) (s:Shared) (σ:St) (H:Hp) (o i v:V) (ov iv u:Value) (Q:Hp->Prop),Inv X pins σ H s->RelV o ov->RelV i iv->RelV v u->t o i v H Q ->
  wpAny (model X.prog X.w) X.A (setItem ov iv u) (fun _ s'=>∃ H',Inv X pins σ H' s'/\Q H') X.xe s
noncomputable abbrev Ij:=V->V->Hp->VK->Prop
noncomputable def E3 (X:Cx) (op:Operator) (t:Ij):Prop:=
 ∀ (pins:List (Addr×Obj)) (s:Shared) (σ:St) (H:Hp) (x y:V) (v u:Value) (Q:VK),Inv X pins σ H s->RelV x v->RelV y u->t x y H Q ->
  wpAny (model X.prog X.w) X.A (inplaceOp op v u) (EP X pins σ Q) X.xe s
section
variable {X:Cx} {pos:Pos}
noncomputable def Gn (i:Nat):TG:=fun v σ H Q=>Q (σ.set i (some v)) H
theorem DT {i:Nat} {x:Str} (hN:X.N.Nodup) (hi:X.N[i]?=some x) (hx:Loc X.env.scope x) (hf:X.fn x=true\/X.env.scope.names.lookup x=some .local:=by first | exact .inl rfl | exact .inr rfl | assumption):PG X (.Name x pos) (Gn i):=by
 intro pins s σ H v u Q I r h
 exact wpAny_assign_Name (iw I hN hi hx r (fun s' I'=>⟨_,H,I',h⟩) hf)
noncomputable def Lx:FW:=fun vs σ H Q=>vs=[]/\Q σ H
noncomputable def KY (t:TG) (u:FW):FW:=fun vs σ H Q=>∃ v r,vs=v::r/\t v σ H fun σ' H'=>u r σ' H' Q
theorem DP:KO X [] Lx:=by
 intro pins s σ H vs us Q I r h
 obtain ⟨e,h⟩:=h
 subst e
 cases r
 exact assignInOrder_nil ⟨σ,H,I,h⟩
theorem zI {e:Expr} {es:List Expr} {t:TG} {u:FW} (h1:PG X e t) (h2:KO X es u)
  (hs:(assignEach (e::es) X.env).map (·.2)=assign e X.env::(assignEach es X.env).map (·.2):=by rfl):KO X (e::es) (KY t u):=by
 intro pins s σ H vs us Q I r h
 obtain ⟨v,vr,e1,h⟩:=h
 subst e1
 cases r with
 | cons r rr=>
  rw [hs]
  refine assignInOrder_cons (bO (h1 pins s σ H _ _ _ I r h) fun _ s1 ⟨σ1,H1,I1,q1⟩=>?_)
  exact h2 pins s1 σ1 H1 _ _ Q I1 rr q1
noncomputable def Mp (K:PySem.W.Frag) (n:Nat) (t:FW):TG:=fun v σ H Q=>∃ a xs,v=.ref a/\cI K H a xs/\xs.length=n/\t xs σ H Q
theorem Je {es:List Expr} {k:Nat} {t:FW} {n:Nat} (hc:X.calm=true) (h:KO X es t)
  (hn:(assignEach es X.env).length=n:=by rfl) (hst:(assignEach es X.env).findIdx? (·.1)=none:=by rfl):PG X (.Tuple es k pos) (Mp X.K n t):=by
 intro pins s σ H v u Q I r hw
 obtain ⟨a,xs,e1,hq,hl,hw⟩:=hw
 subst e1
 cases r
 obtain ⟨its,rv,ht,hz⟩:=I.tuple hq
 refine assign_Tuple_tuple (I.ok.hd hc) ht (by simp [hn,<- hl,rv.length]) hst fun h' hx=>?_
 have I1:Inv X pins σ H { s with heap:=h' }:=I.kept (t':=s.toks) fun b o e=>hx b o (Nat.ne_of_lt (Heap.lt_size e)) e
 exact h pins _ σ H xs _ Q I1 (by simpa using rv) hw
noncomputable def MO (to ti:TE) (t:uL):TG:=fun v σ H Q=>to σ H fun o H1=>ti σ H1 fun i H2=>t o i v H2 fun H3=>Q σ H3
theorem Bw {o i:Expr} {to ti:TE} {t:uL} (ho:PE X o to) (hi:PE X i ti) (hs:yy X t)
  (ha:∀ v,assign (.Subscript o i pos) X.env v=(do
   let ov <- holding [v] (eval o X.env)
   let iv <- holding [v,ov] (eval i X.env)
   standAt pos
   holding [v,ov,iv] (setItem ov iv v)
   release [v,ov,iv] []):=by intro _;rfl):PG X (.Subscript o i pos) (MO to ti t):=by
 intro pins s σ H v u Q I r h
 rw [ha]
 refine wpAny_bind (wpAny_holding (bO (ho pins s σ H _ I h) fun ov s1 ⟨x,H1,I1,r1,q1⟩=>?_))
 refine wpAny_bind (wpAny_holding (bO (hi pins s1 σ H1 _ I1 q1) fun iv s2 ⟨y,H2,I2,r2,q2⟩=>?_))
 refine wpAny_bind (wpAny_standAt (wpAny_bind (wpAny_holding (bO (hs pins s2 σ H2 x y v ov iv u _ I2 r1 r2 r q2) fun _ s3 ⟨H3,I3,q3⟩=>?_))))
 exact wpAny_release ⟨σ,H3,I3,q3⟩
noncomputable def IJ (te:TE) (g:TG):TS:=fun D σ H=>te σ H fun x H1=>g x σ H1 D.nx
theorem HE {tg e:Expr} {te:TE} {g:TG} (he:PE X e te) (hg:PG X tg g) (hs:swapsWithSole [tg] e pos.line X.env=pure false:=by rfl) (hw:swappedStores [tg] e X.env=pure none:=by rfl)
  (h1:(assignEach [tg] X.env).map (·.2)=[assign tg X.env]:=by rfl):PS X (.Assign [tg] e pos) (IJ te g):=by
 intro pins s σ H D I h
 refine wpAny_Assign_stores (bO (he pins s σ H _ I h) fun v s1 ⟨x,H1,I1,r1,q1⟩=>?_) hs hw
 rw [h1]
 exact bO (hg pins s1 σ H1 x v _ I1 r1 q1) fun _ s2 q=>q
theorem IY {i:Nat} {x:Str} {e:Expr} {te:TE} {pos':Pos} (hN:X.N.Nodup) (hi:X.N[i]?=some x) (hx:Loc X.env.scope x) (he:PE X e te) (hs:swapsWith e (some (.Name x pos')) pos.line X.env=pure false:=by rfl) (hf:X.fn x=true\/X.env.scope.names.lookup x=some .local:=by first | exact .inl rfl | exact .inr rfl | assumption) :
  PS X (.Assign [.Name x pos'] e pos) (IJ te (Gn i)):=by
 intro pins s σ H D I h
 refine wpAny_Assign_Name (bO (he pins s σ H _ I h) fun v s1 ⟨y,H1,I1,r1,q1⟩=>?_) hs
 exact iw I1 hN hi hx r1 (fun s2 I2=>⟨_,H1,I2,q1⟩) hf
noncomputable def L5 (i:Nat) (te:TE) (ti:Ij):TS:=fun D σ H=>∃ x,σ[i]?=some (some x)/\te σ H fun y H1=>ti x y H1 fun z H2=>D.nx (σ.set i (some z)) H2
theorem HU {i:Nat} {x:Str} {e:Expr} {te:TE} {op:Operator} {ti:Ij} {pos':Pos} (hN:X.N.Nodup) (hi:X.N[i]?=some x) (hx:Loc X.env.scope x) (he:PE X e te) (ho:E3 X op ti) (hf:X.fn x=true\/X.env.scope.names.lookup x=some .local:=by first | exact .inl rfl | exact .inr rfl | assumption) :
  PS X (.AugAssign (.Name x pos') op e pos) (L5 i te ti):=by
 intro pins s σ H D I h
 obtain ⟨v,e1,h⟩:=h
 obtain ⟨m,hn,hl⟩:=I.loc
 have vis:Jv X.env.scope x:=by rcases hx with k | k;exact .inl k;exact .inr (.inl k)
 obtain ⟨u,r,l⟩:=hl i x v hi e1 vis
 refine wpAny_AugAssign_Name ?_
 have go:wpAny (model X.prog X.w) X.A (eval e X.env) (fun w s₂=>wpAny (model X.prog X.w) X.A (inplaceOp op u w) (fun r s₃=>wpAny (model X.prog X.w) X.A (storeName X.env x r) (fun _=>SP X pins D .next) X.xe s₃) X.xe s₂) X.xe s:=by
  refine bO (he pins s σ H _ I h) fun w s1 ⟨y,H1,I1,r1,q1⟩=>?_
  refine bO (ho pins s1 σ H1 v y u w _ I1 r r1 q1) fun z s2 ⟨zv,H2,I2,r2,q2⟩=>?_
  exact iw I2 hN hi hx r2 (fun s3 I3=>⟨_,H2,I3,q2⟩) hf
 rcases l with ⟨hk,hm⟩ | ⟨hk,c,hc,hcell⟩
 ·exact wpAny_loadName_local I.ok.kind hk hn hm go
 ·rcases hk with hk | hk
  ·exact wpAny_loadName_cell I.ok.kind hk hc hcell go
  ·rcases hx with k | k
   ·have:X.env.scope.names.lookup x=some .free:=hk
    rw [k] at this;cases this
   ·have:X.env.scope.names.lookup x=some .free:=hk
    rw [k] at this;cases this
noncomputable def KJ (to ti te:TE) (tget:V->V->Hp->VK->Prop) (tip:Ij) (tset:uL):TS:=fun D σ H=>to σ H fun o H1=>ti σ H1 fun i H2=>tget o i H2 fun x H3=>te σ H3 fun y H4=>tip x y H4 fun z H5=>tset o i z H5 fun H6=>D.nx σ H6
noncomputable def ID (X:Cx) (t:V->V->Hp->VK->Prop):Prop:=
 ∀ (pins:List (Addr×Obj)) (s:Shared) (σ:St) (H:Hp) (o i:V) (ov iv:Value) (Q:VK),Inv X pins σ H s->RelV o ov->RelV i iv->t o i H Q ->
  wpAny (model X.prog X.w) X.A (getItem ov iv) (EP X pins σ Q) X.xe s
theorem EW {o i e:Expr} {to ti te:TE} {tget:V->V->Hp->VK->Prop} {tip:Ij} {tset:uL} {op:Operator} {tpos:Pos} (ho:PE X o to) (hi:PE X i ti) (hg:ID X tget) (he:PE X e te) (hp:E3 X op tip) (hs:yy X tset)
  (ha:∀ ov iv new,augStore i ov iv new=(do holding [new,ov,iv] (setItem ov iv new);release [new,ov,iv] [];pure .next):=by intros;rfl):PS X (.AugAssign (.Subscript o i tpos) op e pos) (KJ to ti te tget tip tset):=by
 intro pins s σ H D I h
 refine wpAny_AugAssign_SubscriptAny (bO (ho pins s σ H _ I h) fun ov s1 ⟨x1,H1,I1,r1,q1⟩=>?_) ha
 refine bO (hi pins s1 σ H1 _ I1 q1) fun iv s2 ⟨x2,H2,I2,r2,q2⟩=>?_
 refine bO (hg pins s2 σ H2 x1 x2 ov iv _ I2 r1 r2 q2) fun old s3 ⟨x3,H3,I3,r3,q3⟩=>?_
 refine bO (he pins s3 σ H3 _ I3 q3) fun v s4 ⟨x4,H4,I4,r4,q4⟩=>?_
 refine bO (hp pins s4 σ H4 x3 x4 old v _ I4 r3 r4 q4) fun new s5 ⟨x5,H5,I5,r5,q5⟩=>?_
 exact bO (hs pins s5 σ H5 x1 x2 x5 ov iv new _ I5 r1 r2 r5 q5) fun _ s6 ⟨H6,I6,q6⟩=>⟨σ,H6,I6,q6⟩
noncomputable def MV (f:Int->Int->Int):Ij:=fun x y H Q=>∃ i j,x=.int i/\y=.int j/\Q (.int (f i j)) H
theorem HC:E3 X .Add (MV fun i j=>i+j):=by
 intro pins s σ H x y v u Q I r1 r2 h
 obtain ⟨i,j,e1,e2,q⟩:=h
 subst e1;subst e2
 obtain ⟨t,rfl⟩:=r1
 obtain ⟨t',rfl⟩:=r2
 exact iadd_int ⟨.int _,H,I.tok _,⟨_,rfl⟩,q⟩
theorem GI:E3 X .Sub (MV fun i j=>i - j):=by
 intro pins s σ H x y v u Q I r1 r2 h
 obtain ⟨i,j,e1,e2,q⟩:=h
 subst e1;subst e2
 obtain ⟨t,rfl⟩:=r1
 obtain ⟨t',rfl⟩:=r2
 exact isub_int ⟨.int _,H,I.tok _,⟨_,rfl⟩,q⟩
end
section
variable {X:Cx} {pos:Pos}
noncomputable def z_ (c:TT) (tb:TS):TS:=fun D σ H=>∃ W:Nat->St->Hp->Prop,(∃ m,W m σ H)/\∀ m σ H,W m σ H ->
 c σ H fun b H1=>if b=true then ∃ N:St->Hp->Prop,(∀ σ' H',N σ' H'->∃ m',m' < m/\W m' σ' H')/\tb { D with nx:=N,ct:=N,bk:=D.nx } σ H1 else D.nx σ H1
theorem A6 {c:Expr} {body:List Stmt} {tc:TT} {tb:TS} (hp:PassesOwn (model X.prog X.w) X.A X.env X.xe) (hc:PT X c tc) (hb:oF X body tb):PS X (.While c body [] pos) (z_ tc tb):=by
 intro pins s σ H D I h
 obtain ⟨W,⟨m0,w0⟩,turn⟩:=h
 refine wpAny_While (codeAny_whileLoop (fun n s'=>∃ σ' H',Inv X pins σ' H' s'/\W n σ' H') ?_ m0 ⟨σ,H,I,w0⟩)
 rintro n s1 ⟨σ1,H1,I1,w1⟩
 refine wpAny_passesOwn hp (bO (hc pins s1 σ1 H1 _ I1 (turn n σ1 H1 w1)) fun b s2 ⟨H2,I2,q2⟩=>?_)
 cases b with
 | true=>
  obtain ⟨N,hN,q2⟩:=q2
  rw [if_pos rfl]
  refine wpAny_passesOwn hp (bO (hb pins s2 σ1 H2 _ I2 q2) fun f s3 q3=>?_)
  cases f with
  | next=>
   obtain ⟨σ3,H3,I3,n3⟩:=q3
   obtain ⟨m',hm,w3⟩:=hN σ3 H3 n3
   exact ⟨m',hm,σ3,H3,I3,w3⟩
  | cont=>
   obtain ⟨σ3,H3,I3,n3⟩:=q3
   obtain ⟨m',hm,w3⟩:=hN σ3 H3 n3
   exact ⟨m',hm,σ3,H3,I3,w3⟩
  | brk=>exact q3
  | ret v=>exact q3
 | false=>
  rw [if_neg Bool.false_ne_true]
  exact wpAny_execs_nil ⟨σ1,H2,I2,q2⟩
end
structure It where
 go:Nat->Hp->Prop
 yld:Nat->Hp->V->Hp->Prop
 stop:Nat->Hp->Prop
noncomputable def iT (X:Cx) (pins:List (Addr×Obj)) (H:Hp) (b:Addr):Prop:=
 H b=none/\b≠X.env.locals/\b∉X.fs/\(b∈X.ex\/X.s₀.heap.objs.size<=b)/\(∀ x c,X.env.cells.lookup x=some c->c≠b)/\∀ p∈X.pn++pins,p.1≠b
theorem Inv.CM {X:Cx} {pins:List (Addr×Obj)} {σ:St} {H H':Hp} {s:Shared} {b:Addr} (I:Inv X pins σ H s) (hb:s.heap.objs.size<=b) (hn:H' b=none):iT X pins H' b:=by
 refine ⟨hn,Nat.ne_of_gt (Nat.lt_of_lt_of_le I.lt hb),I.Mj hb,.inr (Nat.le_trans I.sz hb),fun x c e z=>?_,fun p hp z=>?_⟩
 ·obtain ⟨v,q⟩:=I.cell x c e
  exact absurd (Nat.lt_of_lt_of_le q.lt (by rw [z];exact hb)) (Nat.lt_irrefl _)
 ·exact absurd (Nat.lt_of_lt_of_le (Heap.lt_size (I.pin p hp).1) (by rw [z];exact hb)) (Nat.lt_irrefl _)
structure Turn (P:Program) (w:World) (K:PySem.W.Frag) (tg:Expr) (J:It) (fp:List Addr) (it:Addr) (tn:Nat->Heap->Prop):Prop where
 mem:it∈fp
 obj:∀ i h,tn i h->∀ b∈fp,∃ o,h.get? b=some o/\∀ v,o.data≠.cell v
 keep:∀ i h h',tn i h->(∀ b∈fp,∀ o,h.get? b=some o->h'.get? b=some o)->tn i h'
 item:∀ (X:Cx),X.prog=P->X.w=w->X.K=K->X.calm=true->∀ (i:Nat) (pins:List (Addr×Obj)) (s:Shared) (σ:St) (H:Hp) (E:Value->Shared->Prop),Inv X pins σ H s->(∀ b∈fp,iT X pins H b)->tn i s.heap->J.go i H ->
  wpAny (model P w) X.A (pyNext (.ref it)) (fun r s1=>∃ u,r=some u /\
   wpAny (model P w) X.A (letOwnedTupleGo tg (.ref it) u) (fun _ s2=>∃ x H',Inv X pins σ H' s2/\RelV x u/\J.yld i H x H'/\tn (i+1) s2.heap/\∀ b∈fp,H' b=none) E s1) E s
 done:∀ (X:Cx),X.prog=P->X.w=w->X.K=K->X.calm=true->∀ (i:Nat) (pins:List (Addr×Obj)) (s:Shared) (σ:St) (H:Hp) (E:Value->Shared->Prop),Inv X pins σ H s->(∀ b∈fp,iT X pins H b)->tn i s.heap->J.stop i H ->
  wpAny (model P w) X.A (pyNext (.ref it)) (fun r s1=>r=none/\Inv X pins σ H s1) E s
 self:∀ (A:Around) (i:Nat) (s:Shared) (Q:Value->Shared->Prop) (E:Value->Shared->Prop),tn i s.heap->Q (.ref it) s->wpAny (model P w) A (pyIter (.ref it)) Q E s
noncomputable abbrev TI:=St->Hp->(It->Hp->Prop)->Prop
noncomputable def Na (X:Cx) (pins:List (Addr×Obj)) (σ:St) (tg:Expr) (R:It->Hp->Prop) (itv:Value) (s2:Shared):Prop:=
 ∃ (it:Addr) (fp:List Addr) (tn:Nat->Heap->Prop) (J:It) (H':Hp),itv=.ref it/\Inv X pins σ H' s2/\Turn X.prog X.w X.K tg J fp it tn/\tn 0 s2.heap/\(∀ b∈fp,iT X pins H' b)/\R J H'
noncomputable def PI (X:Cx) (tg iter:Expr) (wi:TI):Prop:=
 ∀ (pins:List (Addr×Obj)) (s:Shared) (σ:St) (H:Hp) (R:It->Hp->Prop),Inv X pins σ H s->wi σ H R ->
  wpAny (model X.prog X.w) X.A (eval iter X.env) (fun v s1=>wpAny (model X.prog X.w) X.A (pyIter v) (Na X pins σ tg R) X.xe s1) X.xe s
theorem wD {M:Model} {A:Around} {E:Value->Shared->Prop} {s:Shared} {tg:Expr} {it:Addr} {u:Value} {o:Obj} {n:String} {vs:Array Value} {Q:Unit->Shared->Prop} (ho:s.heap.get? it=some o) (hc:o.cls=.type n) (hd:o.data=.fields vs)
  (hn:["enumerate", "zip", "dict_itemiterator", "dict_reverseitemiterator", "odict_iterator", "itertools.zip_longest", "itertools.pairwise"].contains n=false) (hQ:Q () s):wpAny M A (letOwnedTupleGo tg (.ref it) u) Q E s:=by
 unfold letOwnedTupleGo
 cases tg <;> first
  | exact wpAny_pure hQ
  | (cases u <;> first
    | exact wpAny_pure hQ
    | (refine wpAny_bind (wpAny_load ho ?_)
       rw [hc,hd]
       show wpAny M A (if (["enumerate", "zip", "dict_itemiterator", "dict_reverseitemiterator", "odict_iterator", "itertools.zip_longest", "itertools.pairwise"].contains n && vs[0]? == some (rawInt _))=true then _ else _) Q E s
       rw [if_neg (by intro h;rw [hn,Bool.false_and] at h;cases h)]
       exact wpAny_pure hQ))
noncomputable def Le (K:PySem.W.Frag) (a:Addr):It:=
 ⟨fun i H=>∃ xs x,dQ K H a xs/\xs[i]?=some x,fun i H x H'=>H'=H/\∀ xs,dQ K H a xs->xs[i]?=some x,fun i H=>∃ xs,dQ K H a xs/\xs.length<=i⟩
noncomputable def MM (K:PySem.W.Frag) (a:Addr):It:=
 ⟨fun i H=>∃ xs x,cI K H a xs/\xs[i]?=some x,fun i H x H'=>H'=H/\∀ xs,cI K H a xs->xs[i]?=some x,fun i H=>∃ xs,cI K H a xs/\xs.length<=i⟩
noncomputable def JZ (lo:Int) (n:Nat):It:=⟨fun i _=>i < n,fun i H x H'=>H'=H/\x=.int (lo+i),fun i _=>n<=i⟩
theorem yV {P:Program} {w:World} {K:PySem.W.Frag} {tg:Expr} (a it:Addr):Turn P w K tg (Le K a) [it] it (fun i h=>h.IsListIter it a i) where
 mem:=by simp
 obj:=fun i h st b hb=>by
  have e:b=it:=by simpa using hb
  subst e
  obtain ⟨o,e,c,d⟩:=st
  exact ⟨o,e,fun v z=>by rw [d] at z;cases z⟩
 keep:=fun i h h' st k=>st.at fun o e=>k it (by simp) o e
 item:=by
  intro X hP hw hK hc i pins s σ H E I hf st hg
  subst hP hw hK
  obtain ⟨xs,x,hq,hx⟩:=hg
  obtain ⟨its,rv,p,hz⟩:=I.list hq
  obtain ⟨u,hu,ru⟩:=rv.get hx
  obtain ⟨f0,f1,f2,f3,f4,f5⟩:=hf it (by simp)
  refine wpAny_pyNext_list_item st p.isList (x:=u) (by simpa using hu) fun h' st' sb=>?_
  have I1:Inv X pins σ H { s with heap:=h' }:=I.turned (t':=s.toks) (fun b o hb e=>(sb.2 b hb).trans e) f0 f1 f3 f4 f5
  obtain ⟨o,e,c,d⟩:=id st'
  exact ⟨u,rfl,wD (s:={ s with heap:=h' }) e c d (by decide) ⟨x,H,I1,ru,⟨rfl,fun ys hy=>by rw [I.B8 hy hq];exact hx⟩,st',fun b hb=>(hf b hb).1⟩⟩
 done:=by
  intro X hP hw hK hc i pins s σ H E I hf st hg
  subst hP hw hK
  obtain ⟨xs,hq,hx⟩:=hg
  obtain ⟨its,rv,p,hz⟩:=I.list hq
  obtain ⟨f0,f1,f2,f3,f4,f5⟩:=hf it (by simp)
  have hl:=rv.length
  exact wpAny_pyNext_list_end (I.ok.hd hc) st p.isList (by simp;omega) fun h' eb=>⟨rfl,I.turned (t':=s.toks) (fun b o hb e=>eb b o hb e) f0 f1 f3 f4 f5⟩
 self:=fun _ _ _ _ _ st h=>wpAny_pyIter_listiter st h
theorem uN {P:Program} {w:World} {K:PySem.W.Frag} {tg:Expr} (a it:Addr):Turn P w K tg (MM K a) [it] it (fun i h=>h.IsTupleIter it a i) where
 mem:=by simp
 obj:=fun i h st b hb=>by
  have e:b=it:=by simpa using hb
  subst e
  obtain ⟨o,e,c,d⟩:=st
  exact ⟨o,e,fun v z=>by rw [d] at z;cases z⟩
 keep:=fun i h h' st k=>st.at fun o e=>k it (by simp) o e
 item:=by
  intro X hP hw hK hc i pins s σ H E I hf st hg
  subst hP hw hK
  obtain ⟨xs,x,hq,hx⟩:=hg
  obtain ⟨its,rv,p,hz⟩:=I.tuple hq
  obtain ⟨u,hu,ru⟩:=rv.get hx
  obtain ⟨f0,f1,f2,f3,f4,f5⟩:=hf it (by simp)
  refine wpAny_pyNext_tuple_item st (show s.heap.IsTuple a its.toArray from p) (x:=u) (by simpa using hu) fun h' st' sb=>?_
  have I1:Inv X pins σ H { s with heap:=h' }:=I.turned (t':=s.toks) (fun b o hb e=>(sb.2 b hb).trans e) f0 f1 f3 f4 f5
  obtain ⟨o,e,c,d⟩:=id st'
  exact ⟨u,rfl,wD (s:={ s with heap:=h' }) e c d (by decide) ⟨x,H,I1,ru,⟨rfl,fun ys hy=>by rw [I.om hy hq];exact hx⟩,st',fun b hb=>(hf b hb).1⟩⟩
 done:=by
  intro X hP hw hK hc i pins s σ H E I hf st hg
  subst hP hw hK
  obtain ⟨xs,hq,hx⟩:=hg
  obtain ⟨its,rv,p,hz⟩:=I.tuple hq
  obtain ⟨f0,f1,f2,f3,f4,f5⟩:=hf it (by simp)
  have hl:=rv.length
  exact wpAny_pyNext_tuple_end (I.ok.hd hc) st (show s.heap.IsTuple a its.toArray from p) (by simp;omega) fun h' eb=>⟨rfl,I.turned (t':=s.toks) (fun b o hb e=>eb b o hb e) f0 f1 f3 f4 f5⟩
 self:=fun _ _ _ _ _ st h=>wpAny_pyIter_tupleiter st h
theorem tK {P:Program} {w:World} {K:PySem.W.Frag} {tg:Expr} (it:Addr) (lo:Int) (n:Nat):Turn P w K tg (JZ lo n) [it] it (fun i h=>IsRangeIter h it (lo+(i:Nat) * 1) ((n:Int) - (i:Nat)) 1) where
 mem:=by simp
 obj:=fun i h st b hb=>by
  have e:b=it:=by simpa using hb
  subst e
  exact ⟨_,st,fun v z=>by
   have z':Data.fields _=Data.cell v:=z
   cases z'⟩
 keep:=fun i h h' st k=>k it (by simp) _ st
 item:=by
  intro X hP hw hK hc i pins s σ H E I hf st hg
  subst hP hw hK
  obtain ⟨f0,f1,f2,f3,f4,f5⟩:=hf it (by simp)
  have W:=Walks.range (prog:=X.prog) (w:=X.w) (I.ok.hd hc) it lo 1 n
  refine W.item i s _ _ hg st fun v h' tk hv st' kk=>?_
  obtain ⟨t,rfl⟩:=hv
  have I1:Inv X pins σ H { s with heap:=h',toks:=tk }:=I.turned (fun b o hb e=>kk b o (by simpa using hb) e) f0 f1 f3 f4 f5
  refine ⟨_,rfl,wD (s:={ s with heap:=h',toks:=tk }) (n := "range_iterator") st' rfl rfl (by decide) ⟨.int (lo+i),H,I1,⟨t,?_⟩,⟨rfl,rfl⟩,st',fun b hb=>(hf b hb).1⟩⟩
  rw [Int.mul_one]
 done:=by
  intro X hP hw hK hc i pins s σ H E I hf st hg
  subst hP hw hK
  obtain ⟨f0,f1,f2,f3,f4,f5⟩:=hf it (by simp)
  exact wpAny_pyNext_range_end (I.ok.hd hc) st (by have:n<=i:=hg;omega) fun h' eb=>⟨rfl,I.turned (t':=s.toks) (fun b o hb e=>eb b o hb e) f0 f1 f3 f4 f5⟩
 self:=fun _ _ _ _ _ st h=>wpAny_pyIter_rangeiter st h
section
variable {X:Cx} {tg:Expr}
noncomputable def JG (K:PySem.W.Frag) (tl:TE):TI:=fun σ H R=>tl σ H fun x H1=>∃ a,x=.ref a/\(∃ xs,dQ K H1 a xs)/\R (Le K a) H1
noncomputable def LF (K:PySem.W.Frag) (tl:TE):TI:=fun σ H R=>tl σ H fun x H1=>∃ a,x=.ref a/\(∃ xs,cI K H1 a xs)/\R (MM K a) H1
theorem v9 {l:Expr} {tl:TE} (hl:PE X l tl):PI X tg l (JG X.K tl):=by
 intro pins s σ H R I h
 refine bO (hl pins s σ H _ I h) fun v s1 ⟨x,H1,I1,r1,q1⟩=>?_
 obtain ⟨a,e,⟨xs,hq⟩,q⟩:=q1
 subst e
 cases r1
 obtain ⟨its,rv,p,hz⟩:=I1.list hq
 refine wpAny_pyIter_list p.isList ?_
 refine ⟨s1.heap.objs.size,[s1.heap.objs.size],_,_,H1,rfl,I1.kept (t':=s1.toks) fun b o e=>Heap.get?_push_of_some _ e,yV a _,⟨_,Heap.get?_push_size _ rfl,rfl,rfl⟩,fun b hb=>?_,q⟩
 have e:b=s1.heap.objs.size:=by simpa using hb
 subst e
 exact I1.CM (Nat.le_refl _) (I1.hok.fresh (Nat.le_refl _))
theorem C3 {l:Expr} {tl:TE} (hl:PE X l tl):PI X tg l (LF X.K tl):=by
 intro pins s σ H R I h
 refine bO (hl pins s σ H _ I h) fun v s1 ⟨x,H1,I1,r1,q1⟩=>?_
 obtain ⟨a,e,⟨xs,hq⟩,q⟩:=q1
 subst e
 cases r1
 obtain ⟨its,rv,p,hz⟩:=I1.tuple hq
 refine wpAny_pyIter_tuple (show s1.heap.IsTuple a its.toArray from p) ?_
 refine ⟨s1.heap.objs.size,[s1.heap.objs.size],_,_,H1,rfl,I1.kept (t':=s1.toks) fun b o e=>Heap.get?_push_of_some _ e,uN a _,⟨_,Heap.get?_push_size _ rfl,rfl,rfl⟩,fun b hb=>?_,q⟩
 have e:b=s1.heap.objs.size:=by simpa using hb
 subst e
 exact I1.CM (Nat.le_refl _) (I1.hok.fresh (Nat.le_refl _))
theorem r_ {pins:List (Addr×Obj)} {σ:St} {H:Hp} {s:Shared} {R:It->Hp->Prop} {E:Value->Shared->Prop} {lo hi:Int} {t u v:Tok} {tk:Nat} (I:Inv X pins σ H s) (h1:-(2 ^ 62)<=lo) (h2:lo < 2 ^ 62) (h3:-(2 ^ 62)<=hi) (h4:hi < 2 ^ 62)
  (q:R (JZ lo (hi - lo).toNat) H):wpAny (model X.prog X.w) X.A (pyIter (.ref s.heap.objs.size)) (Na X pins σ tg R) E { s with heap:=s.heap.push { cls:=.type "range",data:=.fields #[.int lo t,.int hi u,.int 1 v] },toks:=tk }:=by
 refine wpAny_pyIter_range (IsRange.new ..) (small_one h1 h2 h3 h4) ?_
 have I1:Inv X pins σ H { s with heap:=s.heap.push { cls:=.type "range",data:=.fields #[.int lo t,.int hi u,.int 1 v] },toks:=tk }:=I.kept fun b o e=>Heap.get?_push_of_some _ e
 refine ⟨(s.heap.push { cls:=.type "range",data:=.fields #[.int lo t,.int hi u,.int 1 v] }).objs.size,[(s.heap.push { cls:=.type "range",data:=.fields #[.int lo t,.int hi u,.int 1 v] }).objs.size],_,_,H,rfl,
  I1.kept (t':=tk) fun b o e=>Heap.get?_push_of_some _ e,tK _ lo (hi - lo).toNat,?_,fun b hb=>?_,q⟩
 ·have e1:lo+((0:Nat):Int) * 1=lo:=by simp
  have e2:(((hi - lo).toNat:Nat):Int) - ((0:Nat):Int)=Builtin.Range.rangeSize lo hi 1:=by rw [rangeSize_one];split <;> omega
  show IsRangeIter _ _ (lo+((0:Nat):Int) * 1) ((((hi - lo).toNat:Nat):Int) - ((0:Nat):Int)) 1
  rw [e1,e2]
  exact Heap.get?_push_size _ rfl
 ·have e:b=(s.heap.push { cls:=.type "range",data:=.fields #[.int lo t,.int hi u,.int 1 v] }).objs.size:=by simpa using hb
  subst e
  exact I1.CM (Nat.le_refl _) (I1.hok.fresh (Nat.le_refl _))
noncomputable def ir (ta:TA):TI:=fun σ H R=>ta σ H fun vs H1=>∃ j:Int,vs=[.int j]/\-(2 ^ 62)<=j/\j < 2 ^ 62/\R (JZ 0 j.toNat) H1
noncomputable def gS (ta:TA):TI:=fun σ H R=>ta σ H fun vs H1=>∃ i j:Int,vs=[.int i,.int j]/\(-(2 ^ 62)<=i/\i < 2 ^ 62/\-(2 ^ 62)<=j/\j < 2 ^ 62)/\R (JZ i (j - i).toNat) H1
theorem yH {a:Expr} {ta:TA} {p pos:Pos} (hg:Gl X "range") (hm:X.mg "range" = none) (ha:PA X [a] ta) (hs:starEach [a] X.env=[(false,eval a X.env)]:=by rfl):PI X tg (.Call (.Name "range" p) [a] [] pos) (ir ta):=by
 intro pins s σ H R I h
 refine Call_ (mS I hg hm boot_range (PyProof.Rows.callWith_type1 (bO (ha pos pins s σ H _ I h) fun us s1 ⟨vs,H1,I1,r1,q1⟩=>?_) hs rfl))
 obtain ⟨j,e,q1,q2,q⟩:=q1
 subst e
 cases r1 with
 | cons r rr=>
  cases rr
  obtain ⟨t,rfl⟩:=r
  exact call_range_1 (r_ I1 (by omega) (by omega) q1 q2 (by simpa using q))
theorem yl {a b:Expr} {ta:TA} {p pos:Pos} (hg:Gl X "range") (hm:X.mg "range" = none) (ha:PA X [a,b] ta) (hs:starEach [a,b] X.env=[(false,eval a X.env),(false,eval b X.env)]:=by rfl) (hs2:starEach [b] X.env=[(false,eval b X.env)]:=by rfl) :
  PI X tg (.Call (.Name "range" p) [a,b] [] pos) (gS ta):=by
 intro pins s σ H R I h
 refine Call_ (mS I hg hm boot_range (PyProof.Rows.callWith_type1 (bO (ha pos pins s σ H _ I h) fun us s1 ⟨vs,H1,I1,r1,q1⟩=>?_) (by rw [hs,hs2]) (by rw [hs2];rfl)))
 obtain ⟨i,j,e,⟨q1,q2,q3,q4⟩,q⟩:=q1
 subst e
 cases r1 with
 | cons r rr=>
  cases rr with
  | cons r' rr=>
   cases rr
   obtain ⟨t,rfl⟩:=r
   obtain ⟨t',rfl⟩:=r'
   exact call_range_2 (r_ I1 q1 q2 q3 q4 q)
noncomputable def L8 (wi:TI) (g:TG) (tb:TS):TS:=fun D σ H=>wi σ H fun J H1=>∃ W:Nat->Nat->St->Hp->Prop,(∃ m,W 0 m σ H1)/\∀ i m σ H,W i m σ H ->
 (J.stop i H/\D.nx σ H)\/(J.go i H/\∃ N:St->Hp->Prop,(∀ σ' H',N σ' H'->∃ m',m' < m/\W (i+1) m' σ' H')/\∀ x H',J.yld i H x H'->g x σ H' fun σ2 H2=>tb { D with nx:=N,ct:=N,bk:=D.nx } σ2 H2)
noncomputable def jv (fp:List Addr) (h:Heap):List (Addr×Obj):=fp.filterMap fun b=>(h.get? b).map fun o=>(b,o)
theorem cS {fp:List Addr} {h:Heap} {b:Addr} {o:Obj} (hb:b∈fp) (e:h.get? b=some o):(b,o)∈jv fp h:=List.mem_filterMap.mpr ⟨b,hb,by rw [e];rfl⟩
theorem yX {fp:List Addr} {h:Heap} {p:Addr×Obj} (hp:p∈jv fp h):p.1∈fp/\h.get? p.1=some p.2:=by
 obtain ⟨b,hb,e⟩:=List.mem_filterMap.mp hp
 cases q:h.get? b with
 | none=>rw [q] at e;cases e
 | some o=>
  rw [q] at e
  have e':(b,o)=p:=Option.some.inj e
  subst e'
  exact ⟨hb,q⟩
theorem Inv.pinned {pins:List (Addr×Obj)} {σ:St} {H:Hp} {s:Shared} {fp:List Addr} (I:Inv X pins σ H s) (hf:∀ b∈fp,iT X pins H b) (ho:∀ b∈fp,∃ o,s.heap.get? b=some o/\∀ v,o.data≠.cell v):Inv X (pins++jv fp s.heap) σ H s:=
 I.xO fun p hp=>(List.mem_append.mp hp).elim (fun z=>I.pin p (List.mem_append_right _ z)) fun z=>by
  obtain ⟨hb,e⟩:=yX z
  obtain ⟨f0,f1,f2,_⟩:=hf p.1 hb
  obtain ⟨o,e',d⟩:=ho p.1 hb
  rw [e] at e';cases e'
  exact ⟨e,f0,f1,f2,d⟩
theorem Inv.gq {pins pl:List (Addr×Obj)} {σ:St} {H:Hp} {s:Shared} (I:Inv X (pins++pl) σ H s):Inv X pins σ H s:=I.xO fun p hp=>I.pin p (List.mem_append_right _ (List.mem_append_left _ hp))
theorem GR {iter:Expr} {body:List Stmt} {wi:TI} {g:TG} {tb:TS} {pos:Pos} (hp:PassesOwn (model X.prog X.w) X.A X.env X.xe) (hc:X.calm=true) (hi:PI X tg iter wi) (hg:PG X tg g) (hb:oF X body tb)
  (hs:∀ x,foldedSetIterable iter X.env x=pure x:=by intro _;rfl):PS X (.For tg iter body [] pos) (L8 wi g tb):=by
 intro pins s σ H D I h
 refine wpAny_For (bO (hi pins s σ H _ I h) fun v s1 h1=>bO h1 fun itv s2 h2=>?_) hs
 obtain ⟨it,fp,tn,J,H2,e,I2,T,st2,f2,W,⟨m0,w0⟩,turn⟩:=h2
 subst e
 have stat:∀ {H':Hp},(∀ b∈fp,H' b=none)->∀ b∈fp,iT X pins H' b:=fun hn b hb=>⟨hn b hb,(f2 b hb).2⟩
 refine codeAny_forLoop_any (fun n s'=>∃ i σ' H',Inv X pins σ' H' s'/\tn i s'.heap/\(∀ b∈fp,H' b=none)/\W i n σ' H') ?_ m0 ⟨0,σ,H2,I2,st2,fun b hb=>(f2 b hb).1,w0⟩
 rintro n s3 ⟨i,σ3,H3,I3,st3,fr3,w3⟩
 rcases turn i n σ3 H3 w3 with ⟨stop,qn⟩ | ⟨go,N,hN,step⟩
 ·refine wpAny_passesOwn hp (bO (T.done X rfl rfl rfl hc i pins s3 σ3 H3 X.xe I3 (stat fr3) st3 stop) fun r s4 ⟨hr,I4⟩=>?_)
  subst hr
  exact wpAny_execs_nil ⟨σ3,H3,I4,qn⟩
 ·refine wpAny_passesOwn hp (bO (T.item X rfl rfl rfl hc i pins s3 σ3 H3 X.xe I3 (stat fr3) st3 go) fun r s4 ⟨u,hr,h4⟩=>?_)
  subst hr
  refine wpAny_passesOwn hp (bO h4 fun _ s5 ⟨x,H5,I5,r5,y5,st5,fr5⟩=>?_)
  have I5':=I5.pinned (stat fr5) (T.obj _ _ st5)
  refine wpAny_passesOwn hp (bO (hg _ s5 σ3 H5 x u _ I5' r5 (step x H5 y5)) fun _ s6 ⟨σ6,H6,I6,q6⟩=>?_)
  refine wpAny_passesOwn hp (bO (hb _ s6 σ6 H6 _ I6 q6) fun f s7 q7=>?_)
  have again:∀ {σ7:St} {H7:Hp},Inv X (pins++jv fp s5.heap) σ7 H7 s7->N σ7 H7->∃ m,m < n/\∃ i σ' H',Inv X pins σ' H' s7/\tn i s7.heap/\(∀ b∈fp,H' b=none)/\W i m σ' H':=fun {σ7 H7} I7 n7=>by
   obtain ⟨m',hm,w7⟩:=hN σ7 H7 n7
   refine ⟨m',hm,i+1,σ7,H7,I7.gq,T.keep _ _ _ st5 fun b hb o e=>(I7.pin (b,o) (List.mem_append_right _ (List.mem_append_right _ (cS hb e)))).1,fun b hb=>?_,w7⟩
   obtain ⟨o,e,d⟩:=T.obj _ _ st5 b hb
   exact (I7.pin (b,o) (List.mem_append_right _ (List.mem_append_right _ (cS hb e)))).2.1
  cases f with
  | next=>obtain ⟨σ7,H7,I7,n7⟩:=q7;exact again I7 n7
  | cont=>obtain ⟨σ7,H7,I7,n7⟩:=q7;exact again I7 n7
  | brk=>obtain ⟨σ7,H7,I7,q7⟩:=q7;exact ⟨σ7,H7,I7.gq,q7⟩
  | ret v=>obtain ⟨x7,σ7,H7,I7,r7,q7⟩:=q7;exact ⟨x7,σ7,H7,I7.gq,r7,q7⟩
end
theorem ig {c:TT} {tb:TS} {D:Ends} {σ:St} {H:Hp} (Pv:St->Hp->Prop) (μ:St->Hp->Nat) (h0:Pv σ H)
  (hs:∀ σ H,Pv σ H->c σ H fun b H1=>if b=true then tb { D with nx:=fun σ' H'=>Pv σ' H'/\μ σ' H' < μ σ H,ct:=fun σ' H'=>Pv σ' H'/\μ σ' H' < μ σ H,bk:=D.nx } σ H1 else D.nx σ H1)
  (mono:∀ σ H Q Q',(∀ b H1,Q b H1->Q' b H1)->c σ H Q->c σ H Q'):z_ c tb D σ H:=by
 refine ⟨fun m σ H=>m=μ σ H/\Pv σ H,⟨_,rfl,h0⟩,?_⟩
 rintro m σ H ⟨rfl,p⟩
 refine mono σ H _ _ (fun b H1 q=>?_) (hs σ H p)
 cases b with
 | true=>exact ⟨_,fun σ' H' ⟨p',l⟩=>⟨_,l,rfl,p'⟩,q⟩
 | false=>exact q
noncomputable abbrev R2:=V->V->Hp->VK->Prop
noncomputable def d7 (X:Cx) (f:Value->Value->Sem Value) (r:R2):Prop:=
 ∀ (pins:List (Addr×Obj)) (s:Shared) (σ:St) (H:Hp) (x y:V) (v u:Value) (Q:VK),Inv X pins σ H s->RelV x v->RelV y u->r x y H Q ->
  wpAny (model X.prog X.w) X.A (f v u) (EP X pins σ Q) X.xe s
noncomputable def Ma (X:Cx) (f:Value->Sem Value) (r:V->Hp->VK->Prop):Prop:=
 ∀ (pins:List (Addr×Obj)) (s:Shared) (σ:St) (H:Hp) (x:V) (v:Value) (Q:VK),Inv X pins σ H s->RelV x v->r x H Q ->
  wpAny (model X.prog X.w) X.A (f v) (EP X pins σ Q) X.xe s
noncomputable def br (X:Cx) (f:Value) (r:List V->Hp->VK->Prop):Prop:=
 ∀ (pins:List (Addr×Obj)) (s:Shared) (σ:St) (H:Hp) (xs:List V) (us:List Value) (Q:VK),Inv X pins σ H s->Vals xs us->r xs H Q ->
  wpAny (model X.prog X.w) X.A (call f us) (EP X pins σ Q) X.xe s
noncomputable def Mf (X:Cx) (r:V->Hp->(Bool->Hp->Prop)->Prop):Prop:=
 ∀ (pins:List (Addr×Obj)) (s:Shared) (σ:St) (H:Hp) (x:V) (v:Value) (Q:Bool->Hp->Prop),Inv X pins σ H s->RelV x v->r x H Q ->
  wpAny (model X.prog X.w) X.A (truthy v) (TP X pins σ Q) X.xe s
noncomputable def JE (r:R2) (ta tb:TE):TE:=fun σ H Q=>ta σ H fun x H1=>tb σ H1 fun y H2=>r x y H2 Q
noncomputable def Nj (r:V->Hp->VK->Prop) (ta:TE):TE:=fun σ H Q=>ta σ H fun x H1=>r x H1 Q
noncomputable def rI (C:Int->Int->Prop) (g:Int->Int->V):R2:=fun x y H Q=>∃ i j,x=.int i/\y=.int j/\C i j/\Q (g i j) H
noncomputable def FQ (g:Int->Int->V):R2:=fun x y H Q=>∃ i j,x=.int i/\y=.int j/\Q (g i j) H
noncomputable def rU (g:Int->V):V->Hp->VK->Prop:=fun x H Q=>∃ i,x=.int i/\Q (g i) H
section
variable {X:Cx} {a b c:Expr} {ta tb tc:TE} {pos:Pos}
theorem Hs (ha:PE X a ta) (hb:PE X b tb) {pins:List (Addr×Obj)} {s:Shared} {σ:St} {H:Hp} {R:V->V->Hp->Prop} (I:Inv X pins σ H s)
  (h:ta σ H fun x H1=>tb σ H1 fun y H2=>R x y H2) {Q:Value->Shared->Prop} {f:Value->Value->Sem Value}
  (hf:∀ v u s2 x y H2,Inv X pins σ H2 s2->RelV x v->RelV y u->R x y H2->wpAny (model X.prog X.w) X.A (f v u) Q X.xe s2) :
  wpAny (model X.prog X.w) X.A (eval a X.env) (fun v s₁=>wpAny (model X.prog X.w) X.A (eval b X.env) (fun u s₂=>wpAny (model X.prog X.w) X.A (f v u) Q X.xe s₂) X.xe s₁) X.xe s:=by
 refine bO (ha pins s σ H _ I h) fun v s1 ⟨x,H1,I1,r1,q1⟩=>?_
 refine bO (hb pins s1 σ H1 _ I1 q1) fun u s2 ⟨y,H2,I2,r2,q2⟩=>?_
 exact hf v u s2 x y H2 I2 r1 r2 q2
theorem Ku {op:Operator} {r:R2} (ho:d7 X (binaryOp op) r) (ha:PE X a ta) (hb:PE X b tb):PE X (.BinOp a op b pos) (JE r ta tb):=by
 intro pins s σ H Q I h
 exact wpAny_BinOp (Hs ha hb I h fun v u s2 x y H2 I2 rx ry q=>ho pins s2 σ H2 x y v u Q I2 rx ry q)
theorem FU {op:UnaryOp} {r:V->Hp->VK->Prop} (ho:Ma X (unaryOp op) r) (ha:PE X a ta):PE X (.UnaryOp op a pos) (Nj r ta):=by
 intro pins s σ H Q I h
 exact UnaryOp_ (bO (ha pins s σ H _ I h) fun v s1 ⟨x,H1,I1,r1,q1⟩=>ho pins s1 σ H1 x v Q I1 r1 q1)
theorem Ls {f:Value->Value->Sem Value} {C:Int->Int->Prop} {g:Int->Int->Int}
  (rule:∀ (i j:Int) (t u:Tok) (s:Shared) (Q:Value->Shared->Prop) (E:Value->Shared->Prop),C i j->Q (.int (g i j) s.toks) { s with toks:=s.toks+1 }->wpAny (model X.prog X.w) X.A (f (.int i t) (.int j u)) Q E s) :
  d7 X f (rI C fun i j=>.int (g i j)):=by
 intro pins s σ H x y v u Q I rx ry h
 obtain ⟨i,j,rfl,rfl,hc,q⟩:=h
 obtain ⟨t,rfl⟩:=rx
 obtain ⟨t',rfl⟩:=ry
 exact rule i j t t' s _ _ hc ⟨.int (g i j),H,I.tok _,⟨_,rfl⟩,q⟩
theorem Kg {f:Value->Value->Sem Value} {g:Int->Int->Int}
  (rule:∀ (i j:Int) (t u:Tok) (s:Shared) (Q:Value->Shared->Prop) (E:Value->Shared->Prop),Q (.int (g i j) s.toks) { s with toks:=s.toks+1 }->wpAny (model X.prog X.w) X.A (f (.int i t) (.int j u)) Q E s) :
  d7 X f (FQ fun i j=>.int (g i j)):=by
 intro pins s σ H x y v u Q I rx ry h
 obtain ⟨i,j,rfl,rfl,q⟩:=h
 obtain ⟨t,rfl⟩:=rx
 obtain ⟨t',rfl⟩:=ry
 exact rule i j t t' s _ _ ⟨.int (g i j),H,I.tok _,⟨_,rfl⟩,q⟩
theorem El {f:Value->Value->Sem Value} {g:Int->Int->Bool}
  (rule:∀ (i j:Int) (t u:Tok) (s:Shared) (Q:Value->Shared->Prop) (E:Value->Shared->Prop),Q (.bool (g i j)) s->wpAny (model X.prog X.w) X.A (f (.int i t) (.int j u)) Q E s) :
  d7 X f (FQ fun i j=>.bl (g i j)):=by
 intro pins s σ H x y v u Q I rx ry h
 obtain ⟨i,j,rfl,rfl,q⟩:=h
 obtain ⟨t,rfl⟩:=rx
 obtain ⟨t',rfl⟩:=ry
 exact rule i j t t' s _ _ ⟨.bl (g i j),H,I,rfl,q⟩
noncomputable def My (i j:Int):Prop:=0<=j/\j<=1000000/\i.natAbs < 2 ^ 64
noncomputable def Eg (i j:Int):Prop:=(-(2 ^ 64) < i/\i < 2 ^ 64)\/(-(2 ^ 64) < j/\j < 2 ^ 64)
theorem Eg.ok {i j:Int} (h:Eg i j):IntMulOk i j:=by
 rcases h with ⟨h1,h2⟩ | ⟨h1,h2⟩
 ·exact .of_left (intBits_le_64 h1 h2)
 ·exact .of_right (intBits_le_64 h1 h2)
theorem GX:d7 X (binaryOp .Add) (FQ fun i j=>.int (i+j)):=Kg fun _ _ _ _ _ _ _ q=>add_int q
theorem HS:d7 X (binaryOp .Sub) (FQ fun i j=>.int (i - j)):=Kg fun _ _ _ _ _ _ _ q=>sub_int q
theorem IF:d7 X (binaryOp .Mult) (rI Eg fun i j=>.int (i * j)):=Ls fun _ _ _ _ _ _ _ hc q=>mul_int q hc.ok
theorem HZ:d7 X (binaryOp .Mod) (rI (fun _ j=>0 < j) fun i j=>.int (i % j)):=Ls fun i j _ _ _ _ _ hc q=>by
 have h1:(0:Int) < j:=hc
 exact mod_int' (by omega) (by rw [Int.fmod_eq_emod_of_nonneg i (by omega)];exact q)
theorem G5:d7 X (binaryOp .Pow) (rI My fun i j=>.int (i ^ j.toNat)):=Ls fun _ _ _ _ _ _ _ hc q=>pow_int_small hc.1 hc.2.1 hc.2.2 q
theorem Nt {f:Value->Sem Value} {g:Int->Int}
  (rule:∀ (i:Int) (t:Tok) (s:Shared) (Q:Value->Shared->Prop) (E:Value->Shared->Prop),Q (.int (g i) s.toks) { s with toks:=s.toks+1 }->wpAny (model X.prog X.w) X.A (f (.int i t)) Q E s) :
  Ma X f (rU fun i=>.int (g i)):=by
 intro pins s σ H x v Q I rx h
 obtain ⟨i,rfl,q⟩:=h
 obtain ⟨t,rfl⟩:=rx
 exact rule i t s _ _ ⟨.int (g i),H,I.tok _,⟨_,rfl⟩,q⟩
theorem zL:Ma X (unaryOp .USub) (rU fun i=>.int (-i)):=Nt fun _ _ _ _ _ q=>neg_int q
end
section
variable {X:Cx} {a b c:Expr} {ta tb tc:TE} {pos:Pos}
theorem Jh {pins:List (Addr×Obj)} {σ:St} {H:Hp} {s:Shared} {Q:VK} {k k':Bool} (I:Inv X pins σ H s) (q:Q (.bl k) H) (e:k=k'):EP X pins σ Q (.bool k') s:=by
 subst e
 exact ⟨.bl k,H,I,rfl,q⟩
theorem K0:d7 X (compareOp .Lt) (FQ fun i j=>.bl (decide (i < j))):=El fun _ _ _ _ _ _ _ q=>lt_int q
theorem KZ:d7 X (compareOp .LtE) (FQ fun i j=>.bl (decide (i<=j))):=El fun _ _ _ _ _ _ _ q=>le_int q
theorem Ks:d7 X (compareOp .Gt) (FQ fun i j=>.bl (decide (j < i))):=El fun _ _ _ _ _ _ _ q=>gt_int q
theorem JI:d7 X (compareOp .GtE) (FQ fun i j=>.bl (decide (j<=i))):=El fun _ _ _ _ _ _ _ q=>ge_int q
theorem HQ:d7 X (compareOp .Is) (fun x y H Q=>y=.non/\Q (.bl (decide (x=.non))) H):=by
 intro pins s σ H x y v u Q I rx ry h
 obtain ⟨rfl,q⟩:=h
 cases ry
 refine is_none_gen (Jh I q ?_)
 cases x <;> first
  | (cases rx;rfl)
  | (obtain ⟨t,rfl⟩:=rx;rfl)
theorem BV (b:Expr) {op:CmpOp} (h:op≠.In:=by decide) (h2:op≠.NotIn:=by decide):behindInMarks op b=false:=by
 have e1:(op == CmpOp.In)=false:=by cases op <;> first | rfl | exact absurd rfl h
 have e2:(op == CmpOp.NotIn)=false:=by cases op <;> first | rfl | exact absurd rfl h2
 cases b <;> simp [behindInMarks,e1,e2]
theorem DX {op:CmpOp} {r:R2} (ho:d7 X (compareOp op) r) (ha:PE X a ta) (hb:PE X b tb) (hm:behindInMarks op b=false):PE X (.Compare a [op] [b] pos) (JE r ta tb):=by
 intro pins s σ H Q I h
 exact wpAny_Compare1 (Hs ha hb I h fun v u s2 x y H2 I2 rx ry q=>ho pins s2 σ H2 x y v u Q I2 rx ry q) hm
noncomputable def KS (t:TE):TT:=fun σ H Q=>t σ H fun x H'=>∃ k,x=.bl k/\Q k H'
theorem Ep {op:CmpOp} {r:R2} (ho:d7 X (compareOp op) r) (ha:PE X a ta) (hb:PE X b tb) (hm:behindInMarks op b=false):PT X (.Compare a [op] [b] pos) (KS (JE r ta tb)):=by
 intro pins s σ H Q I h
 refine wpAny_isTrue_Compare1 (bO (ha pins s σ H _ I h) fun v s1 ⟨x,H1,I1,r1,q1⟩=>bO (hb pins s1 σ H1 _ I1 q1) fun u s2 ⟨y,H2,I2,r2,q2⟩=>
  bO (ho pins s2 σ H2 x y v u _ I2 r1 r2 q2) fun c s3 ⟨z,H3,I3,r3,k,e,q3⟩=>?_) hm
 subst e
 cases r3
 exact wpAny_truthy_bool ⟨H3,I3,q3⟩
noncomputable def Cp (r r':R2) (ta tb tc:TE):TE:=fun σ H Q=>ta σ H fun x H1=>tb σ H1 fun y H2=>r x y H2 fun z H3=>∃ k,z=.bl k /\
 (if k=true then tc σ H3 fun w' H4=>r' y w' H4 Q else Q (.bl false) H3)
theorem zR {op op':CmpOp} {r r':R2} (ho:d7 X (compareOp op) r) (ho':d7 X (compareOp op') r') (ha:PE X a ta) (hb:PE X b tb) (hc:PE X c tc)
  (hm:lastMarks [op,op'] [b,c]=false:=by with_unfolding_all rfl):PE X (.Compare a [op,op'] [b,c] pos) (Cp r r' ta tb tc):=by
 intro pins s σ H Q I h
 refine Compare_chain (bO (ha pins s σ H _ I h) fun v s1 ⟨x,H1,I1,r1,q1⟩=>chain_link (bO (hb pins s1 σ H1 _ I1 q1) fun u s2 ⟨y,H2,I2,r2,q2⟩=>
  bO (ho pins s2 σ H2 x y v u _ I2 r1 r2 q2) fun d s3 ⟨z,H3,I3,r3,k,e,q3⟩=>?_)) hm
 subst e
 cases r3
 refine wpAny_truthy_bool ?_
 cases k with
 | false=>exact ite_ff ⟨.bl false,H3,I3,rfl,q3⟩
 | true=>exact ite_tt (chain_last (bO (hc pins s3 σ H3 _ I3 q3) fun w' s4 ⟨z',H4,I4,r4,q4⟩=>ho' pins s4 σ H4 y z' u w' Q I4 r2 r4 q4))
noncomputable def GO (K:PySem.W.Frag) (x:V) (H:Hp) (k:Bool):Prop:=
 match x with
 | .non=>k=false
 | .bl b=>k=b
 | .int i=>k=(i != 0)
 | .str y=>y.length<=sizeLine/\k=((y.length:Int) != 0)
 | .byt y=>y.size<=sizeLine/\k=((y.size:Int) != 0)
 | .ref p=>(∃ xs,dQ K H p xs/\k=!xs.isEmpty)\/(∃ xs,cI K H p xs/\k=!xs.isEmpty)\/∃ kvs,H p=some (.dK kvs)/\k=!kvs.isEmpty
 | _=>False
theorem uO {κ:Type} {kvs:List (κ×V)} {vs:List (κ×Value)} (r:KV kvs vs):(!vs.isEmpty)=!kvs.isEmpty:=by
 cases r <;> rfl
theorem lY {xs:List V} {its:List Value} (r:Vals xs its):(!its.toArray.isEmpty)=!xs.isEmpty:=by
 cases r <;> simp
theorem iB:(sizeLine:Nat) < 2 ^ 63:=by rw [sizeLine_eq];decide
theorem GV:Mf X (fun x H Q=>∃ k,GO X.K x H k/\Q k H):=by
 intro pins s σ H x v Q I rx h
 obtain ⟨k,e,q⟩:=h
 have hl:=iB
 have hs:sizeLine=16777216:=sizeLine_eq
 cases x with
 | non=>
  cases rx
  have e':k=false:=e
  subst e'
  exact truthy_none ⟨H,I,q⟩
 | bl b=>
  cases rx
  have e':k=b:=e
  subst e'
  exact wpAny_truthy_bool ⟨H,I,q⟩
 | int i=>
  obtain ⟨t,rfl⟩:=rx
  have e':k=(i != 0):=e
  subst e'
  exact PySem.P.truthy_int ⟨H,I,q⟩
 | str y=>
  obtain ⟨t,rfl⟩:=rx
  obtain ⟨hy,e'⟩:y.length<=sizeLine/\k=((y.length:Int) != 0):=e
  subst e'
  exact PySem.P.truthy_str (by omega) ⟨H,I.tok _,q⟩
 | byt y=>
  obtain ⟨t,rfl⟩:=rx
  obtain ⟨hy,e'⟩:y.size<=sizeLine/\k=((y.size:Int) != 0):=e
  subst e'
  exact PySem.W.truthy_bytes (by omega) ⟨H,I.tok _,q⟩
 | ref p=>
  cases rx
  have e':(∃ xs,dQ X.K H p xs/\k=!xs.isEmpty)\/(∃ xs,cI X.K H p xs/\k=!xs.isEmpty)\/∃ kvs,H p=some (.dK kvs)/\k=!kvs.isEmpty:=e
  rcases e' with ⟨xs,hx,e'⟩ | ⟨xs,hx,e'⟩ | ⟨kvs,hx,e'⟩
  ·subst e'
   obtain ⟨its,r,pl,hz⟩:=I.list hx
   have hlen:=r.length
   exact wpAny_truthy_list pl.isList (by simp only [List.size_toArray];omega) ⟨H,I.tok _,by rw [lY r];exact q⟩
  ·subst e'
   obtain ⟨its,r,pl,hz⟩:=I.tuple hx
   have hlen:=r.length
   exact truthy_tuple pl (by simp only [List.size_toArray];omega) ⟨H,I.tok _,by rw [lY r];exact q⟩
  ·subst e'
   obtain ⟨hz,hS,vs,r,m⟩:kvs.length<=sizeLine/\(p == sysModules)=false/\∃ vs,KV kvs vs/\s.heap.DictOf (b_ X.prog X.w) p vs:=I.hok p _ hx
   have hlen:kvs.length=vs.length:=Paired.length r
   exact wpAny_truthy_dict hS m (by omega) ⟨H,I.tok _,by rw [uO r];exact q⟩
 | _=>exact (show False from e).elim
theorem BQ (ha:PE X a ta) (he:∀ whole,isTrue a X.env whole=(do let v <- whole;standAt a.pos;holding [v] (truthy v))) :
  PT X a (fun σ H Q=>ta σ H fun x H'=>∃ k,GO X.K x H' k/\Q k H'):=by
 intro pins s σ H Q I h
 exact isTrue_plain (bO (ha pins s σ H _ I h) fun v s1 ⟨x,H1,I1,r1,q1⟩=>GV pins s1 σ H1 x v Q I1 r1 q1) (he _)
theorem tX:d7 X (binaryOp .Add) (fun x y H Q=>∃ i j,x=.str i/\y=.str j/\i.length+j.length<=sizeLine/\Q (.str (i++j)) H):=by
 intro pins s σ H x y v u Q I rx ry h
 obtain ⟨i,j,rfl,rfl,hz,q⟩:=h
 obtain ⟨t,rfl⟩:=rx
 obtain ⟨t',rfl⟩:=ry
 exact add_str (fun t' tk=>⟨.str (i++j),H,I.tok _,⟨_,rfl⟩,q⟩) hz
theorem vals1 {x:V} {us:List Value} (r:Vals [x] us):∃ u,us=[u]/\RelV x u:=by
 cases r with
 | cons r1 r2=>cases r2;exact ⟨_,rfl,r1⟩
theorem vals2 {x y:V} {us:List Value} (r:Vals [x,y] us):∃ u w',us=[u,w']/\RelV x u/\RelV y w':=by
 cases r with
 | cons r1 r2=>
  cases r2 with
  | cons r3 r4=>cases r4;exact ⟨_,_,rfl,r1,r3⟩
theorem Ck:br X (.builtin "abs") (fun xs H Q=>∃ i,xs=[.int i]/\Q (.int (if i < 0 then -i else i)) H):=by
 intro pins s σ H xs us Q I r h
 obtain ⟨i,rfl,q⟩:=h
 obtain ⟨u,rfl,t,rfl⟩:=vals1 r
 exact call_abs_int fun u tk=>⟨.int (if i < 0 then -i else i),H,I.tok _,⟨_,rfl⟩,q⟩
theorem yD (hc:X.calm=true):br X (.builtin "max") (fun xs H Q=>∃ i j,xs=[.int i,.int j]/\Q (.int (if j > i then j else i)) H):=by
 intro pins s σ H xs us Q I r h
 obtain ⟨i,j,rfl,q⟩:=h
 obtain ⟨u,w',rfl,⟨t,rfl⟩,⟨t',rfl⟩⟩:=vals2 r
 refine max_two_ints (I.ok.hd hc) fun h' tk k=>⟨_,H,I.kept k,?_,q⟩
 by_cases hj:j > i
 ·rw [if_pos hj,if_pos hj];exact ⟨_,rfl⟩
 ·rw [if_neg hj,if_neg hj];exact ⟨_,rfl⟩
theorem yr (hc:X.calm=true):br X (.builtin "min") (fun xs H Q=>∃ i j,xs=[.int i,.int j]/\Q (.int (if j < i then j else i)) H):=by
 intro pins s σ H xs us Q I r h
 obtain ⟨i,j,rfl,q⟩:=h
 obtain ⟨u,w',rfl,⟨t,rfl⟩,⟨t',rfl⟩⟩:=vals2 r
 refine min_two_ints (I.ok.hd hc) fun h' tk k=>⟨_,H,I.kept k,?_,q⟩
 by_cases hj:j < i
 ·rw [if_pos hj,if_pos hj];exact ⟨_,rfl⟩
 ·rw [if_neg hj,if_neg hj];exact ⟨_,rfl⟩
theorem oq:br X (.type "int") (fun xs H Q=>(∃ i,xs=[.int i]/\Q (.int i) H)\/∃ k,xs=[.bl k]/\Q (.int (if k then 1 else 0)) H):=by
 intro pins s σ H xs us Q I r h
 rcases h with ⟨i,rfl,q⟩ | ⟨k,rfl,q⟩
 ·obtain ⟨u,rfl,t,rfl⟩:=vals1 r
  exact call_int_int ⟨.int i,H,I,⟨_,rfl⟩,q⟩
 ·obtain ⟨u,rfl,r1⟩:=vals1 r
  cases r1
  exact call_int_bool ⟨.int (if k then 1 else 0),H,I.tok _,⟨_,rfl⟩,q⟩
noncomputable def Mi (K:PySem.W.Frag) (x:V) (H:Hp) (n:Nat):Prop:=
 match x with
 | .str y=>y.length<=sizeLine/\n=y.length
 | .byt y=>y.size<=sizeLine/\n=y.size
 | .ref p=>(∃ xs,dQ K H p xs/\n=xs.length)\/∃ xs,cI K H p xs/\n=xs.length
 | _=>False
theorem Ag:br X (.builtin "len") (fun xs H Q=>∃ x n,xs=[x]/\Mi X.K x H n/\Q (.int n) H):=by
 intro pins s σ H xs us Q I r h
 obtain ⟨x,n,rfl,e,q⟩:=h
 obtain ⟨u,rfl,rx⟩:=vals1 r
 have hl:=iB
 have hs:sizeLine=16777216:=sizeLine_eq
 cases x with
 | str y=>
  obtain ⟨t,rfl⟩:=rx
  obtain ⟨hy,e'⟩:y.length<=sizeLine/\n=y.length:=e
  subst e'
  exact len_str (by omega) ⟨.int _,H,I.tok _,⟨_,rfl⟩,q⟩
 | byt y=>
  obtain ⟨t,rfl⟩:=rx
  obtain ⟨hy,e'⟩:y.size<=sizeLine/\n=y.size:=e
  subst e'
  exact PySem.W.len_bytes (by omega) ⟨.int _,H,I.tok _,⟨_,rfl⟩,q⟩
 | ref p=>
  cases rx
  have e':(∃ xs,dQ X.K H p xs/\n=xs.length)\/∃ xs,cI X.K H p xs/\n=xs.length:=e
  rcases e' with ⟨xs,hx,e'⟩ | ⟨xs,hx,e'⟩
  ·subst e'
   obtain ⟨its,r',pl,hz⟩:=I.list hx
   have hlen:=r'.length
   exact Calls.call_len_list pl.isList (by simp only [List.size_toArray];omega) ⟨.int xs.length,H,I.tok _,⟨_,by simp only [List.size_toArray];rw [hlen]⟩,q⟩
  ·subst e'
   obtain ⟨its,r',pl,hz⟩:=I.tuple hx
   have hlen:=r'.length
   exact len_tuple pl (by simp only [List.size_toArray];omega) ⟨.int xs.length,H,I.tok _,⟨_,by simp only [List.size_toArray];rw [hlen]⟩,q⟩
 | _=>exact (show False from e).elim
end
structure ObjM (h:Heap) (x dx C:Addr) (mA:Str->Option Value):Prop where
 obj:h.get? x=some (PySem.W.instObj C dx)
 ns:h.Ns1 dx mA
 ne:dx≠x
theorem zd {h:Heap} {dx:Addr} {mA:Str->Option Value} (n:h.Ns1 dx mA):∃ od,h.get? dx=some od/\∀ name,PySem.W.lookIn name od=some (mA name):=by
 obtain ⟨o,es,ep,ho,hd,hk,_,hm⟩:=n
 refine ⟨o,ho,fun name=>?_⟩
 have e:=hm name
 unfold nsFind findBy at e
 rw [<- Array.find?_toList] at e
 unfold PySem.W.lookIn
 rw [hd]
 dsimp only
 split
 ·rename_i y q
  rw [q] at e
  exact congrArg some e
 ·rename_i q
  rw [q] at e
  have a:es.toList.any (·.refKey)=false:=by
   rw [List.any_eq_false]
   intro y hy
   obtain ⟨z,t,hkey⟩:=hk y (Array.mem_toList_iff.mp hy)
   simp [DictEntry.refKey,hkey]
  have a':¬ es.toList.any (·.refKey)=true:=by rw [a];exact Bool.false_ne_true
  rw [if_neg a']
  exact congrArg some e
theorem ObjM.look {h:Heap} {x dx C:Addr} {mA:Str->Option Value} (I:ObjM h x dx C mA):∃ od,PySem.W.InstAt h x (PySem.W.instObj C dx) C (some od)/\∀ name,PySem.W.lookIn name od=some (mA name):=
 let ⟨od,ho,hl⟩:=zd I.ns
 ⟨od,⟨I.obj,rfl,rfl,ho⟩,hl⟩
section
variable {prog:Program} {w:World} {A:Around} {E:Value->Shared->Prop} {s:Shared} {K:PySem.W.Frag} {x dx C f:Addr} {mA:Str->Option Value} {name:Str} {v:Value}
end
theorem nj.some_of {v:V} {o:Option Value} (r:nj (some v) o):∃ u,o=some u/\RelV v u:=by
 cases o with
 | none=>exact (show False from r).elim
 | some u=>exact ⟨u,rfl,r⟩
section
variable {P:Program} {w:World} {H H':Hp} {h h':Heap} {a C dx:Addr} {fs fs':List (Str×V)}
theorem DG (hok:iU P w H h) (e:H a=some (.ins C dx fs)):∃ mA,ObjM h a dx C mA/\(∀ f,nj (fs.lookup f) (mA f))/\PySem.Within mA (fs.map (·.1))/\fs.length<=1000/\H dx=some (.own a):=by
 obtain ⟨d,z,ne,ob,mA,n,r,q⟩:=(show bM P w H h a (.ins C dx fs) from hok a _ e)
 exact ⟨mA,⟨ob,n,ne⟩,r,q,z,d⟩
end
structure Cls (K:PySem.W.Frag) (C:Addr):Prop where
 pg:PySem.W.plainGet K C Str.empty=true
 hd:PySem.W.hasDictIn K C=true
 po:PySem.W.plainOver K C=true
 sa:PySem.W.findIn K (.ref C) "__setattr__" = some (some (.builtin "object.__setattr__"))
theorem Cls.get {K:PySem.W.Frag} {C:Addr} (c:Cls K C) (f:Str):PySem.W.plainGet K C f=true:=c.pg
structure Con (K:PySem.W.Frag) (C:Addr) (f:Str) (v:V) (u:Value):Prop where
 at_:PySem.W.findIn K (.ref C) f=some (some u)
 rel:RelV v u
 get:PySem.W.specialIn K u "__get__" = some none
 cp:PySem.W.copiedNames.contains f=false
structure Meth (K:PySem.W.Frag) (C:Addr) (m:Str) (f:Addr):Prop where
 at_:PySem.W.findIn K (.ref C) m=some (some (.ref f))
 fn:PySem.W.isFn K (.ref f)=true
 kp:PySem.W.keepIn K (.ref f)=true
section
variable {X:Cx} {pins:List (Addr×Obj)} {σ:St} {H:Hp} {s:Shared} {a C dx:Addr} {fs:List (Str×V)} {f:Str} {v:V} {A:Around} {E:Value->Shared->Prop}
end
section
variable {X:Cx} {o e value:Expr} {f:Str} {pos pos' tpos:Pos} {ta tv:TE}
end
section
variable {X:Cx} {pins:List (Addr×Obj)} {σ:St} {H:Hp} {s:Shared} {A:Around} {E:Value->Shared->Prop} {Q:Value->Shared->Prop} {c:Value} {b:Bool}
inductive TyOf (K:PySem.W.Frag) (H:Hp):V->Value->Prop where
 | non:TyOf K H .non (.type "NoneType")
 | bl (x:Bool):TyOf K H (.bl x) (.type "bool")
 | int (i:Int):TyOf K H (.int i) (.type "int")
 | str (x:Str):TyOf K H (.str x) (.type "str")
 | flt (x:UInt64):TyOf K H (.flt x) (.type "float")
 | lst {a:Addr} {xs:List V} (e:H a=some (.lst xs)):TyOf K H (.ref a) (.type "list")
 | frz {a:Addr} {o:Obj} {xs:List V} (e:H a=some (.frz o (.lst xs))):TyOf K H (.ref a) (.type "list")
 | tup {a:Addr} {xs:List V} (e:H a=some (.tup xs)):TyOf K H (.ref a) (.type "tuple")
 | dK {a:Addr} {kvs:List (Key×V)} (e:H a=some (.dK kvs)):TyOf K H (.ref a) (.type "dict")
 | dT {a:Addr} {kvs:List (List Key×V)} (e:H a=some (.dT kvs)):TyOf K H (.ref a) (.type "dict")
 | ins {a C dx:Addr} {fs:List (Str×V)} (e:H a=some (.ins C dx fs)) (cl:Cls K C) (ha:PySem.W.findIn K (.ref C) "__class__" = some (some (.builtin "object.__class__")))
   (hn:PySem.W.specialIn K (.builtin "object.__class__") "__get__" = some (some (.builtin "getset_descriptor.__get__"))) (htk:PySem.W.takesIn K (.builtin "object.__class__")=some true)
   (hm:PySem.W.mroIn K C (.type "object")=some true):TyOf K H (.ref a) (.ref C)
theorem yj {x:V} {u t:Value} (I:Inv X pins σ H s) (rx:RelV x u) (ty:TyOf X.K H x t) (e:PySem.W.kitOne X.K t c=some b) (h:∀ tk,Q (.bool b) { s with toks:=tk }) :
  wpAny (model X.prog X.w) A (call (.builtin "isinstance") [u,c]) Q E s:=by
 cases ty with
 | non=>cases (show u=Value.none from rx);exact PySem.W.kia_one PySem.W.kitx_none I.nU True.intro e (fun z=>nomatch z) h
 | bl y=>cases (show u=Value.bool y from rx);exact PySem.W.kia_one PySem.W.kitx_bool I.nU True.intro e (fun z=>nomatch z) h
 | int i=>obtain ⟨t,q⟩:=(show ∃ t,u=Value.int i t from rx);cases q;exact PySem.W.kia_one PySem.W.kitx_int I.nU True.intro e (fun z=>nomatch z) h
 | str y=>obtain ⟨t,q⟩:=(show ∃ t,u=Value.str y t from rx);cases q;exact PySem.W.kia_one PySem.W.kitx_str I.nU True.intro e (fun z=>nomatch z) h
 | flt y=>obtain ⟨t,q⟩:=(show ∃ t,u=Value.float y t from rx);cases q;exact PySem.W.kia_one PySem.W.kitx_float I.nU True.intro e (fun z=>nomatch z) h
 | @lst a xs ea=>
  cases (show u=Value.ref a from rx)
  obtain ⟨_,_,n,_,h1⟩:=(show bM X.prog X.w H s.heap a (.lst xs) from I.hok a _ ea)
  exact PySem.W.kia_one PySem.W.kitx_list I.nU ⟨_,h1,rfl⟩ e (fun z=>nomatch z) h
 | @frz a ob xs ea=>
  cases (show u=Value.ref a from rx)
  obtain ⟨_,_,_,n,_,h1⟩:=(show bM X.prog X.w H s.heap a (.frz ob (.lst xs)) from I.hok a _ ea)
  exact PySem.W.kia_one PySem.W.kitx_list I.nU ⟨_,h1,rfl⟩ e (fun z=>nomatch z) h
 | @tup a xs ea=>
  cases (show u=Value.ref a from rx)
  obtain ⟨_,_,_,p⟩:=(show bM X.prog X.w H s.heap a (.tup xs) from I.hok a _ ea)
  obtain ⟨o,h1,h2,_⟩:=p
  exact PySem.W.kia_one PySem.W.kitx_tuple I.nU ⟨o,h1,h2⟩ e (fun z=>nomatch z) h
 | @dK a kvs ea=>
  cases (show u=Value.ref a from rx)
  obtain ⟨_,_,vs,_,p⟩:=(show bM X.prog X.w H s.heap a (.dK kvs) from I.hok a _ ea)
  obtain ⟨o,es,ep,h1,h2,_⟩:=p
  exact PySem.W.kia_one PySem.W.kitx_dict I.nU ⟨o,h1,h2.1⟩ e (fun z=>nomatch z) h
 | @dT a kvs ea=>
  cases (show u=Value.ref a from rx)
  obtain ⟨_,_,xs,_,o,es,ep,h1,h2,_⟩:=(show bM X.prog X.w H s.heap a (.dT kvs) from I.hok a _ ea)
  exact PySem.W.kia_one PySem.W.kitx_dict I.nU ⟨o,h1,h2.1⟩ e (fun z=>nomatch z) h
 | @ins a C dx fs ea cl ha hn htk hm=>
  cases (show u=Value.ref a from rx)
  obtain ⟨mA,O,_⟩:=DG I.hok ea
  obtain ⟨od,J,_⟩:=O.look
  exact PySem.W.kia_one (PySem.W.kitx_own (cl.get _) cl.hd ha hn htk hm) I.nU J e (fun z=>nomatch z) h
end
structure Room (k:Nat) (A:Around):Prop where
 hd:A.handled=none
 dp:A.depth+3 * k+5 < recursionLimit
 un:A.units+16 * k+200 < cLine
theorem Room.mono {j k:Nat} {A:Around} (r:Room k A) (h:j<=k):Room j A:=⟨r.hd,by have:=r.dp;omega,by have:=r.un;omega⟩
theorem Room.deeper {k:Nat} {A:Around} (r:Room (k+1) A) (env:Env):Room k (A.deeper env):=
 ⟨r.hd,by have:=r.dp;show A.depth+1+3 * k+5 < _;omega,by have:=r.un;show A.units+3+16 * k+200 < _;omega⟩
theorem Room.depth {k:Nat} {A:Around} (r:Room k A):A.depth < recursionLimit:=by have:=r.dp;omega
theorem Room.units {k:Nat} {A:Around} (r:Room k A):A.units+64 < cLine:=by have:=r.un;omega
noncomputable def MH:TA:=fun _ H Q=>Q [] H
noncomputable def La (ta:TE) (tr:TA):TA:=fun σ H Q=>ta σ H fun x H1=>tr σ H1 fun xs H2=>Q (x::xs) H2
section
variable {X:Cx} {e:Expr} {es:List Expr} {te:TE} {t:TA} {pos:Pos}
theorem kc:PA X [] MH:=fun _ _ _ _ H Q I h=>Calls.spliced_nil ⟨[],H,I,.nil,h⟩
theorem fM (ha:PE X e te) (hr:PA X es t) (hs:starEach (e::es) X.env=(false,eval e X.env)::starEach es X.env:=by rfl):PA X (e::es) (La te t):=by
 intro pos pins s σ H Q I h
 rw [hs]
 show wpAny _ _ (spliced ((false,eval e X.env)::backTo pos (starEach es X.env))) _ _ s
 refine Calls.spliced_cons (bO (ha pins s σ H _ I h) fun u s1 ⟨x,H1,I1,r1,q1⟩=>?_)
 exact bO (hr pos pins s1 σ H1 _ I1 q1) fun us s2 ⟨xs,H2,I2,r2,q2⟩=>⟨x::xs,H2,I2,.cons r1 r2,q2⟩
noncomputable def Me (t:TA):TE:=fun σ H Q=>t σ H fun xs H1=>xs.length<=sizeLine/\∀ p,H1 p=none->Q (.ref p) (upd H1 p (.tup xs))
noncomputable def LD (t:TA):TE:=fun σ H Q=>t σ H fun xs H1=>xs.length<=sizeLine/\∀ p,H1 p=none->Q (.ref p) (upd H1 p (.lst xs))
theorem I0 {x1} (h:PA X es t):PE X (.Tuple es x1 pos) (Me t):=by
 intro pins s σ H Q I hq
 refine wpAny_Tuple_spliced (bO (h pos pins s σ H _ I hq) fun us s1 ⟨xs,H1,I1,r,z,q⟩=>⟨by rw [<- r.length];exact z,?_⟩)
 have hf:H1 s1.heap.objs.size=none:=I1.hok.fresh (Nat.le_refl _)
 refine ⟨.ref s1.heap.objs.size,upd H1 s1.heap.objs.size (.tup xs),I1.laid (t':=s1.toks) (fun b u e=>Heap.get?_push_of_some _ e) (Nat.le_refl _) ?_,rfl,q _ hf⟩
 exact ⟨z,us,r,⟨_,Heap.get?_push_size _ rfl,rfl,rfl,_,rfl⟩⟩
theorem GU (h:PA X es t):PE X (.List es pos) (LD t):=by
 intro pins s σ H Q I hq
 refine wpAny_List_spliced (bO (h pos pins s σ H _ I hq) fun us s1 ⟨xs,H1,I1,r,z,q⟩=>⟨by rw [<- r.length];exact z,?_⟩)
 have hf:H1 s1.heap.objs.size=none:=I1.hok.fresh (Nat.le_refl _)
 refine ⟨.ref s1.heap.objs.size,upd H1 s1.heap.objs.size (.lst xs),I1.laid (t':=s1.toks) (fun b u e=>Heap.get?_push_of_some _ e) (Nat.le_refl _) ?_,rfl,q _ hf⟩
 exact ⟨z,us,0,r,Heap.get?_push_size _ rfl⟩
end
noncomputable abbrev Sp:=List V->Hp->VK->XK->Prop
noncomputable abbrev ze:=List Env->Hp->Shared->XK->Value->Shared->Prop
structure Env0 (P:Program) (w:World) (K:PySem.W.Frag) (mg:Str->Option Value) (base:Heap) (A:Around) (outer:List Env) (s:Shared) (H:Hp):Prop where
 frames:A.frames=some outer
 mod:Mod K mg base
 bs:∀ b o,base.get? b=some o->s.heap.get? b=some o/\H b=none
 bsz:base.objs.size<=s.heap.objs.size
 iu:s.heap.FunFrames base outer
 frf:∀ b∈frs outer,H b=none
 hok:iU P w H s.heap
 bare:AllBare s.gens
noncomputable def CE (outer:List Env) (P:Program) (w:World) (H:Hp) (s:Shared) (Q:VK) (u:Value) (s':Shared):Prop:=
 ∃ v H',s'.os=s.os/\AllBare s'.gens/\Un (frs outer) [] H H' s.heap s'.heap/\iU P w H' s'.heap/\RelV v u/\Q v H'
noncomputable def CR (CX:ze) (outer:List Env) (P:Program) (w:World) (H:Hp) (s:Shared) (Q:VK) (E:XK) (r:Result) (s':Shared):Prop:=
 match r with
 | .ok (.ret u)=>CE outer P w H s Q u s'
 | .ok _=>False
 | .error e=>CX outer H s E e s'
structure FnOk (P:Program) (w:World) (K:PySem.W.Frag) (mg:Str->Option Value) (base:Heap) (CX:ze) (k:Nat) (f:Addr) (fd:FuncData) (ps:List Str) (sp:Sp):Prop where
 len:∀ vs H Q E,sp vs H Q E->vs.length=ps.length
 run:∀ (A:Around) (outer:List Env) (s:Shared) (H:Hp) (args:Args) (us:List Value) (vs:List V) (Q:VK) (E:XK),Room k A->Env0 P w K mg base A outer s H->BindsTo s fd args (ps.zip us)->Vals vs us->sp vs H Q E ->
  codeAny (model P w) A (.call (.ref f) args) (CR CX outer P w H s Q E) s
section
variable {X:Cx} {pins:List (Addr×Obj)} {σ:St} {H:Hp} {s s':Shared}
theorem Inv.L7 (I:Inv X pins σ H s):Env0 X.prog X.w X.K X.mg X.base X.A X.stack s H:=
 ⟨I.ok.frames,I.ok.mod,I.bs,Nat.le_trans I.ok.bsz I.sz,I.stack,I.lq,I.hok,I.bare⟩
theorem Inv.after {Q:VK} {u:Value} (I:Inv X pins σ H s) (h:CE X.stack X.prog X.w H s Q u s'):EP X pins σ Q u s':=by
 obtain ⟨v,H',os,bare,un,hok,r,q⟩:=h
 obtain ⟨hh,g,d,t,os'⟩:=s'
 obtain rfl:os'=s.os:=os
 exact ⟨v,H',I.call (h':=hh) (g':=g) (d':=d) (t':=t) (ch:=[]) un hok bare (fun b z=>absurd z (by simp)),r,q⟩
end
noncomputable def Gf (sp:Sp) (dvs:List V) (E:XK) (t:TA):TE:=fun σ H Q=>t σ H fun vs H1=>sp (vs++dvs) H1 Q E
noncomputable def Binds (K:PySem.W.Frag) (fd:FuncData) (ps:List Str) (ds:List Value):Prop:=
 ∀ (s:Shared) (us:List Value),K.In s.heap->(us++ds).length=ps.length->BindsTo s fd ⟨us,[]⟩ (ps.zip (us++ds))
theorem Binds.all {K:PySem.W.Frag} {fd:FuncData} {ps:List Str} (h:∀ us:List Value,us.length=ps.length->bindArgs fd ⟨us,[]⟩=pure (ps.zip us)):Binds K fd ps []:=fun s us _ hl=>by
 rw [List.append_nil] at hl ⊢
 exact .of_eq (h us hl)
noncomputable def Passes (CX:ze) (X:Cx) (E:XK):Prop:=∀ (pins:List (Addr×Obj)) (σ:St) (H:Hp) (s:Shared) (e:Value) (s':Shared),Inv X pins σ H s->CX X.stack H s E e s'->X.xe e s'
section
variable {X:Cx} {CX:ze} {k:Nat} {f C:Addr} {fd:FuncData} {ps:List Str} {sp:Sp} {dvs:List V} {ds:List Value} {E:XK} {x m:Str} {p pos apos:Pos} {e o:Expr} {es:List Expr} {ta:TE} {t:TA}
theorem HL {pins:List (Addr×Obj)} {σ:St} {H:Hp} {s:Shared} {Q:VK} {us:List Value} {vs:List V} (F:FnOk X.prog X.w X.K X.mg X.base CX k f fd ps sp) (hr:Room k X.A) (hb:Binds X.K fd ps ds) (hd:Vals dvs ds) (hx:Passes CX X E)
  (I:Inv X pins σ H s) (r:Vals vs us) (h:sp (vs++dvs) H Q E):wpAny (model X.prog X.w) X.A (call (.ref f) us) (EP X pins σ Q) X.xe s:=by
 have r2:Vals (vs++dvs) (us++ds):=r.append hd
 have hl:(us++ds).length=ps.length:=by rw [<- r2.length];exact F.len _ _ _ _ h
 refine wpAny_call (codeAny_mono (F.run X.A X.stack s H ⟨us,[]⟩ (us++ds) (vs++dvs) Q E hr I.L7 (hb s us I.nU hl) r2 h) fun r s' hq=>?_)
 cases r with
 | error e=>exact hx pins σ H s e s' I hq
 | ok fl=>
  cases fl with
  | ret u=>exact I.after hq
  | next=>exact False.elim hq
  | brk=>exact False.elim hq
  | cont=>exact False.elim hq
theorem xG (F:FnOk X.prog X.w X.K X.mg X.base CX k f fd ps sp) (hr:Room k X.A) (hg:Gl X x) (hm:X.mg x=some (.ref f)) (hk:PySem.W.keepIn X.K (.ref f)=true) (hb:Binds X.K fd ps ds) (hd:Vals dvs ds) (hx:Passes CX X E)
  (ha:PA X (e::es) t) (hdb:(x == ("__debug__" : Str))=false:=by decide) (he:starEach (e::es) X.env=(false,eval e X.env)::starEach es X.env:=by rfl) (hpl:(backTo pos (starEach es X.env)).any (·.1)=false:=by rfl) :
  PE X (.Call (.Name x p) (e::es) [] pos) (Gf sp dvs E t):=by
 intro pins s σ H Q I h
 refine wpAny_Call_Name_kw (lJ I hg hm ?_ hdb)
 refine PySem.W.callWith_K (h₀:=X.base) I.ok.mod.kin hk (bO (ha pos pins s σ H _ I h) fun us s1 ⟨vs,H1,I1,r,q⟩=>⟨I1.nU,?_⟩) he hpl
 exact HL F hr hb hd hx I1 r q
structure Mk (K:PySem.W.Frag) (C f:Addr):Prop where
 makes:PySem.W.makesIn K C=true
 init:PySem.W.findIn K (.ref C) "__init__" = some (some (.ref f))
 fn:PySem.W.isFn K (.ref f)=true
 kp:PySem.W.keepIn K (.ref C)=true
end
section
variable {X:Cx} {CX:ze} {k:Nat} {f C:Addr} {fd:FuncData} {ps ks:List Str} {sp:Sp} {E:XK} {x m:Str} {p pos apos kpos:Pos} {e o:Expr} {es:List Expr} {kws:List Keyword} {te ta:TE} {t tk:TA} {nm:Option Str}
structure KBinds (K:PySem.W.Frag) (fd:FuncData) (ps ks:List Str) (g:List Value->List Value->List Value) (gV:List V->List V->List V):Prop where
 to:∀ (s:Shared) (us ws:List Value),K.In s.heap->(g us ws).length=ps.length->BindsTo s fd ⟨us,ks.zip ws⟩ (ps.zip (g us ws))
 rel:∀ {vs:List V} {us:List Value} {zs:List V} {ws:List Value},Vals vs us->Vals zs ws->Vals (gV vs zs) (g us ws)
variable {g:List Value->List Value->List Value} {gV:List V->List V->List V}
end
structure FnScope (N P:List Str) (sc:Scope):Prop where
 kind:sc.kind=.function
 co:sc.isCoroutine=false
 gen:sc.isGenerator=false
 nd:N.Nodup
 pre:N.take P.length=P
 par:∀ x∈P,sc.names.lookup x=some .local\/sc.names.lookup x=some .cell
 nofree:∀ y∈sc.names,y.2≠.free
theorem pI {kindOf:Str->Option NameKind} {x:Str}:∀ {binds:List (Str×Value)} {m:Str->Option Value},(∀ v,(x,v)∉binds)->bindL kindOf binds m x=m x
 | [],_,_=>rfl
 | (n,v)::r,m,h=>by
  unfold bindL
  rw [pI fun w hw=>h w (List.mem_cons_of_mem _ hw)]
  split
  ·have:x≠n:=by rintro rfl;exact h v List.mem_cons_self
   simp [this]
  ·rfl
theorem oH {kindOf:Str->Option NameKind} {x:Str}:∀ {binds:List (Str×Value)} {m:Str->Option Value},(∀ v,(x,v)∉binds)->bindC kindOf binds m x=m x
 | [],_,_=>rfl
 | (n,v)::r,m,h=>by
  unfold bindC
  rw [oH fun w hw=>h w (List.mem_cons_of_mem _ hw)]
  split
  ·rfl
  ·have:x≠n:=by rintro rfl;exact h v List.mem_cons_self
   simp [this]
theorem oi {kindOf:Str->Option NameKind} {x:Str} {v:Value}:∀ {P:List Str} {vs:List Value} {i:Nat} {m:Str->Option Value},P.Nodup->P[i]?=some x->vs[i]?=some v->kindOf x=some .local ->
  bindL kindOf (P.zip vs) m x=some v
 | [],_,_,_,_,h,_,_=>by simp at h
 | _::_,[],_,_,_,_,h,_=>by simp at h
 | p::P,w::vs,0,m,nd,h1,h2,hk=>by
  simp at h1 h2;subst h1;subst h2
  show bindL kindOf ((p,w)::P.zip vs) m p=_
  unfold bindL
  rw [pI fun v hv=>(List.nodup_cons.mp nd).1 (List.of_mem_zip hv).1,if_pos hk]
  simp
 | p::P,w::vs,i+1,m,nd,h1,h2,hk=>by
  show bindL kindOf ((p,w)::P.zip vs) m x=_
  unfold bindL
  exact oi (i:=i) (List.nodup_cons.mp nd).2 (by simpa using h1) (by simpa using h2) hk
theorem oX {kindOf:Str->Option NameKind} {x:Str} {v:Value}:∀ {P:List Str} {vs:List Value} {i:Nat} {m:Str->Option Value},P.Nodup->P[i]?=some x->vs[i]?=some v->kindOf x≠some .local ->
  bindC kindOf (P.zip vs) m x=some v
 | [],_,_,_,_,h,_,_=>by simp at h
 | _::_,[],_,_,_,_,h,_=>by simp at h
 | p::P,w::vs,0,m,nd,h1,h2,hk=>by
  simp at h1 h2;subst h1;subst h2
  show bindC kindOf ((p,w)::P.zip vs) m p=_
  unfold bindC
  rw [oH fun v hv=>(List.nodup_cons.mp nd).1 (List.of_mem_zip hv).1,if_neg hk]
  simp
 | p::P,w::vs,i+1,m,nd,h1,h2,hk=>by
  show bindC kindOf ((p,w)::P.zip vs) m x=_
  unfold bindC
  exact oX (i:=i) (List.nodup_cons.mp nd).2 (by simpa using h1) (by simpa using h2) hk
noncomputable def start (N:List Str) (vs:List V):St:=vs.map some++List.replicate (N.length - vs.length) none
noncomputable def kP (CX:ze) (P:Program) (w:World) (K:PySem.W.Frag) (mg:Str->Option Value) (base:Heap) (N:List Str) (qual:Str) (scope:Scope) (f:Addr) (cd:Value) (A:Around) (outer:List Env) (s:Shared) (H:Hp) (E:XK):Cx where
 prog:=P
 w:=w
 K:=K
 mg:=mg
 base:=base
 A:=A.deeper (envOfC qual scope s.heap.objs.size f cd)
 N:=N
 s₀:=s
 H₀:=H
 env:=envOfC qual scope s.heap.objs.size f cd
 outer:=outer
 stack:=envOfC qual scope s.heap.objs.size f cd::outer
 ex:=[]
 calm:=true
 fn:=fun _=>true
 pn:=[]
 xe:=fun e s'=>wpAny (model P w) (A.deeper (envOfC qual scope s.heap.objs.size f cd)) (leaving (envOfC qual scope s.heap.objs.size f cd) e) (fun _ s''=>CX outer H s E e s'') (fun e' s''=>CX outer H s E e' s'') s'
theorem rT {sc:Scope} {n:Nat} {x:Str} (h:sc.names.lookup x=some .cell):∃ c,(cellsFrom n sc.names []).lookup x=some c:=by
 have q:=PySem.W.cellsFrom_some sc.names n [] (.inl h)
 exact Option.isSome_iff_exists.mp q
theorem yw {CX:ze} {P:Program} {w:World} {K:PySem.W.Frag} {mg:Str->Option Value} {base:Heap} {N ps:List Str} {qual:Str} {scope:Scope} {f:Addr} {cd:Value} {A:Around} {outer:List Env} {s s1:Shared} {H:Hp} {E:XK} {us:List Value} {vs:List V}
  (S:FnScope N ps scope) (hd:A.handled=none) (e0:Env0 P w K mg base A outer s H) (hl:vs.length=ps.length) (r:Vals vs us)
  (x:InCallC s s.heap.objs.size (bindL (envOfC qual scope s.heap.objs.size f cd).kindOf (ps.zip us) fun _=>none) (cellsFrom (s.heap.objs.size+1) scope.names []) (bindC (envOfC qual scope s.heap.objs.size f cd).kindOf (ps.zip us) fun _=>none) s1) :
  Inv (kP CX P w K mg base N qual scope f cd A outer s H E) [] (start N vs) H s1:=by
 have hpl:ps.length<=N.length:=by have:=congrArg List.length S.pre;rw [List.length_take] at this;omega
 obtain ⟨h1,tk,rfl,hk⟩:=x.done
 have noA:∀ b:Addr,b∉(kP CX P w K mg base N qual scope f cd A outer s H E).ex:=fun b z=>absurd (show b∈([]:List Addr) from z) (by simp)
 refine ⟨⟨e0.mod,S.kind,rfl,rfl,Nat.le_refl _,fun y z c h1 h2=>?_,fun y hy=>?_,fun y c _ h=>?_,fun _=>hd,Around.frames_deeper e0.frames,.inr ⟨rfl,rfl⟩,fun b z=>absurd z (noA b),e0.bs,e0.bsz,fun b _ _=>noA b,fun b z=>absurd z (noA b),e0.iu,e0.frf⟩,
  rfl,e0.bare,Un.kept hk,⟨_,x.toInCall.ns,fun i y v h1 h2 h3=>?_⟩,fun y c h=>⟨_,x.cell y c h⟩,e0.hok.fresh (Nat.le_refl _),fun y c h=>?_,fun p hp=>absurd (show p∈([]:List (Addr×Obj)) from hp) (by simp),e0.hok.kept hk,?_⟩
 ·exact name_of_addr x.apart (PySem.mem_of_lookup h1) (PySem.mem_of_lookup h2)
 ·have hy:scope.names.lookup y=some .cell\/scope.names.lookup y=some .free:=hy
  rcases hy with hy | hy
  ·exact rT hy
  ·exact absurd rfl (S.nofree _ (PySem.mem_of_lookup hy))
 ·exact Nat.le_of_lt (x.above y c (PySem.mem_of_lookup h))
 ·have hi:i < vs.length:=by
   unfold start at h2
   by_cases hi:i < vs.length
   ·exact hi
   ·rw [List.getElem?_append_right (by simpa using hi)] at h2
    rw [List.getElem?_replicate] at h2
    split at h2 <;> cases h2
  have ha:vs[i]?=some v:=by
   unfold start at h2
   rw [List.getElem?_append_left (by simpa using hi),List.getElem?_map] at h2
   cases e:vs[i]? with
   | none=>rw [e] at h2;cases h2
   | some a=>rw [e] at h2;cases h2;rfl
  obtain ⟨u,hu,rv⟩:=r.get ha
  have hp:ps[i]?=some y:=by
   rw [<- S.pre,List.getElem?_take_of_lt (by omega)];exact h1
  have ndP:ps.Nodup:=by rw [<- S.pre];exact S.nd.sublist (List.take_sublist _ _)
  refine ⟨u,rv,?_⟩
  rcases S.par y (List.mem_of_getElem? hp) with k | k
  ·exact .inl ⟨k,oi ndP hp hu k⟩
  ·obtain ⟨c,e⟩:=rT (n:=s.heap.objs.size+1) k
   refine .inr ⟨.inl k,c,e,?_⟩
   have q:=x.cell y c e
   rw [oX ndP hp hu (by show scope.names.lookup y≠_;rw [k];decide)] at q
   exact q
 ·exact e0.hok.fresh (Nat.le_of_lt (x.above y c (PySem.mem_of_lookup h)))
 ·unfold start
  show _=N.length
  rw [List.length_append,List.length_map,List.length_replicate]
  omega
theorem FJ {CX:ze} {P:Program} {w:World} {K:PySem.W.Frag} {mg:Str->Option Value} {base:Heap} {k:Nat} {f:Addr} {name qual:Str} {params:Arguments} {body:List Stmt} {scope:Scope} {dV kV doc pm cdv ct oc:Value} {an od:Option Addr}
  {osl:Array (Option Value)} {N ps:List Str} {sp:Sp} (lk:K.lookup f=some ⟨oc,od,.func (PySem.W.fnOf name qual params body scope dV kV doc pm an cdv ct),osl⟩) (hcd:PySem.W.codeIn K cdv qual=true) (S:FnScope N ps scope)
  (len:∀ vs H Q E,sp vs H Q E->vs.length=ps.length)
  (hbody:∀ (A:Around) (outer:List Env) (s:Shared) (H:Hp) (vs:List V) (Q:VK) (E:XK),Room k (A.deeper (envOfC qual scope s.heap.objs.size f cdv))->sp vs H Q E ->
   ∃ t,oF (kP CX P w K mg base N qual scope f cdv A outer s H E) body t/\t { nx:=fun _ H'=>Q .non H',rt:=Q } (start N vs) H) :
  FnOk P w K mg base CX (k+1) f (PySem.W.fnOf name qual params body scope dV kV doc pm an cdv ct) ps sp:=by
 refine ⟨len,fun A outer s H args us vs Q E hr e0 hb r hsp=>?_⟩
 have hl:=len _ _ _ _ hsp
 have KX:K.In s.heap:=e0.mod.kin.keeps fun b o e=>(e0.bs b o e).1
 have lim:s.heap.NoLimit:=e0.mod.nolimit.keeps fun b o e=>(e0.bs b o e).1
 have hkind:∀ y∈ps.zip us,scope.names.lookup y.1=some .local\/(scope.names.lookup y.1=some .cell/\((cellsFrom (s.heap.objs.size+1) scope.names []).lookup y.1).isSome=true):=fun ⟨n,v⟩ hy=>by
  rcases S.par n (List.of_mem_zip hy).1 with q | q
  ·exact .inl q
  ·exact .inr ⟨q,PySem.W.cellsFrom_some _ _ _ (.inl q)⟩
 refine codeAny_call_function hr.depth (KX _ _ lk) rfl S.co S.gen rfl (PySem.W.codeRec_of KX hcd) (hb _ _ _ _ ?_)
 refine wpAny_newFunctionEnv_cells S.kind hkind fun env he s1 x=>?_
 subst he
 refine ⟨lim.keeps x.toInCall.keep,codeAny_func ?_⟩
 obtain ⟨t,ht,hq⟩:=hbody A outer s H vs Q E (hr.deeper _) hsp
 have I:Inv (kP CX P w K mg base N qual scope f cdv A outer s H E) [] (start N vs) H s1:=yw S hr.hd e0 hl r x
 refine wpAny_mono (ht [] s1 (start N vs) H _ I hq) (fun fl s' hs=>?_) fun e s' hs=>hs
 have fin:∀ {σ':St} {H':Hp} {v:V} {u:Value},Inv (kP CX P w K mg base N qual scope f cdv A outer s H E) [] σ' H' s'->RelV v u->Q v H'->CE outer P w H s Q u s':=
  fun {σ' H' v u} J rv q=>⟨v,H',J.os,J.bare,J.base,J.hok,rv,q⟩
 cases fl with
 | ret u=>
  obtain ⟨v,σ',H',J,rv,q⟩:=hs
  exact fin J rv q
 | next=>
  obtain ⟨σ',H',J,q⟩:=hs
  exact fin (v:=V.non) (u:=Value.none) J rfl q
 | brk=>
  obtain ⟨_,_,_,q⟩:=hs
  exact False.elim q
 | cont=>
  obtain ⟨_,_,_,q⟩:=hs
  exact False.elim q
section
variable {X:Cx} {x:Str} {p pos:Pos} {e:Expr} {es:List Expr} {t:TA} {id T:String} {r:List V->Hp->VK->Prop}
noncomputable def Ms (r:List V->Hp->VK->Prop) (t:TA):TE:=fun σ H Q=>t σ H fun vs H1=>r vs H1 Q
theorem sG (hc:br X (.builtin id) r) (hg:Gl X x) (hm:X.mg x=none) (hv:bootBuiltins x=some (.builtin id)) (ha:PA X (e::es) t) (hn:x ≠ "__name__" := by decide) (hdb:(x == ("__debug__" : Str))=false:=by decide)
  (he:starEach (e::es) X.env=(false,eval e X.env)::starEach es X.env:=by rfl) (hpl:(backTo pos (starEach es X.env)).any (·.1)=false:=by rfl):PE X (.Call (.Name x p) (e::es) [] pos) (Ms r t):=by
 intro pins s σ H Q I h
 refine wpAny_Call_Name_kw (mS I hg hm hv ?_ hn hdb)
 exact PyProof.Rows.callWith_builtin1 (bO (ha pos pins s σ H _ I h) fun us s1 ⟨vs,H1,I1,r1,q1⟩=>hc pins s1 σ H1 vs us Q I1 r1 q1) he hpl
theorem yE (hc:br X (.type T) r) (hg:Gl X x) (hm:X.mg x=none) (hv:bootBuiltins x=some (.type T)) (ha:PA X (e::es) t) (hn:x ≠ "__name__" := by decide) (hdb:(x == ("__debug__" : Str))=false:=by decide)
  (he:starEach (e::es) X.env=(false,eval e X.env)::starEach es X.env:=by rfl) (hpl:(backTo pos (starEach es X.env)).any (·.1)=false:=by rfl):PE X (.Call (.Name x p) (e::es) [] pos) (Ms r t):=by
 intro pins s σ H Q I h
 refine wpAny_Call_Name_kw (mS I hg hm hv ?_ hn hdb)
 exact PyProof.Rows.callWith_type1 (bO (ha pos pins s σ H _ I h) fun us s1 ⟨vs,H1,I1,r1,q1⟩=>hc pins s1 σ H1 vs us Q I1 r1 q1) he hpl
end
end L2
namespace HT
open PySem PyProof.Rows
noncomputable def lexLt:List Int->List Int->Bool
 | [],[]=>false
 | [],_::_=>true
 | _::_,[]=>false
 | x::xs,y::ys=>if x=y then lexLt xs ys else decide (x < y)
theorem gF (x y:Int) (xs ys:List Int):lexLt (x::xs) (y::ys)=if x=y then lexLt xs ys else decide (x < y):=rfl
theorem fS:lexLt [] []=false:=rfl
theorem dM (y:Int) (ys:List Int):lexLt [] (y::ys)=true:=rfl
theorem fB (x:Int) (xs:List Int):lexLt (x::xs) []=false:=rfl
section
open PySem.SeqAt
open PySem.AutoSeq1 (wpAny_loadPart')
open PySem.MeetsSeq PySem.MeetsSeq2 PySem.MeetsSeq3
end
section
variable {prog:Program} {w:World} {A:Around} {E:Value->Shared->Prop} {s:Shared}
theorem Er {t b:Addr} {vs ws:List Value} {Q:Value->Shared->Prop} (ht:IsTup s.heap t vs.toArray) (hb:IsTup s.heap b ws.toArray) (hv:vs≠[])
  (h1:ws=[]->Q (.ref t) s) (h2:ws≠[]->Q (.ref s.heap.objs.size) { s with heap:=s.heap.push { cls:=.type "tuple",data:=.seq (vs++ws).toArray } })
  (hsz:vs.length+ws.length<=sizeLine):wpAny (model prog w) A (binaryOp .Add (.ref t) (.ref b)) Q E s:=by
 obtain ⟨⟨cls,dd,data,sl⟩,ho,hc,n,hd⟩:=id ht
 obtain ⟨⟨cls2,dd2,data2,sl2⟩,ho2,hc2,n2,hd2⟩:=id hb
 simp only at hc hd hc2 hd2
 subst hc hd hc2 hd2
 have e:vs.toArray++ws.toArray=(vs++ws).toArray:=by simp
 by_cases hw:ws=[]
 ·exact concat_meets ⟨_,ho,rfl⟩ ⟨_,ho2,rfl⟩ noFill_tuple_add seq_tuple_add PySem.F.slot_tuple_add PySem.F.entry_tuple_add (PySem.F.args_tuple_add_2 _ _)
   (tuple_addW1 t b vs.toArray ws.toArray n n2 dd dd2 sl sl2 (by simpa using hv) (by simp [hw])) ⟨ho,ho2,h1 hw⟩
 ·refine concat_meets ⟨_,ho,rfl⟩ ⟨_,ho2,rfl⟩ noFill_tuple_add seq_tuple_add PySem.F.slot_tuple_add PySem.F.entry_tuple_add (PySem.F.args_tuple_add_2 _ _)
   (tuple_addW2 t b vs.toArray ws.toArray n n2 dd dd2 sl sl2 (by simpa using hv) (by simpa using hw) (by rw [List.size_toArray,List.size_toArray];exact hsz)) ⟨ho,ho2,?_⟩
  rw [e]
  exact h2 hw
noncomputable def dz (n d:Nat):Option Int->Nat
 | none=>d
 | some v=>if v < 0 then (v+(n:Int)).toNat else min v.toNat n
theorem mG (n d:Nat):dz n d none=d:=rfl
theorem iE (n d k:Nat):dz n d (some (k:Int))=min k n:=by
 show (if (k:Int) < 0 then ((k:Int)+(n:Int)).toNat else min (k:Int).toNat n)=min k n
 rw [if_neg (by omega),Int.toNat_natCast]
theorem Ig (n d:Nat) (hd:d<=n) (o:Option Int):dz n d o<=n:=by
 cases o with
 | none=>exact hd
 | some v=>
  show (if v < 0 then (v+(n:Int)).toNat else min v.toNat n)<=n
  by_cases hv:v < 0
  ·rw [if_pos hv];omega
  ·rw [if_neg hv];exact Nat.min_le_right _ _
theorem wN (v:Int) (n d:Nat):(if v < 0 then max (v+(n:Int)) 0 else min v (n:Int))=((dz n d (some v):Nat):Int):=by
 show (if v < 0 then max (v+(n:Int)) 0 else min v (n:Int))=(((if v < 0 then (v+(n:Int)).toNat else min v.toNat n):Nat):Int)
 by_cases hv:v < 0
 ·simp only [if_pos hv];omega
 ·simp only [if_neg hv];omega
theorem tB (lo hi:Option Int) (n:Nat):Builtin.Slice.sliceAdjust lo hi 1 (n:Int)=(((dz n 0 lo:Nat):Int),((dz n n hi:Nat):Int)):=by
 have h1:¬ ((1:Int) < 0):=by omega
 unfold Builtin.Slice.sliceAdjust
 simp only [h1,if_false]
 refine Prod.ext ?_ ?_
 ·cases lo with
  | none=>rfl
  | some v=>exact wN v n 0
 ·cases hi with
  | none=>rfl
  | some v=>exact wN v n n
theorem tN (i j:Nat):Builtin.Slice.slicePlaces (i:Int) (j:Int) 1=j - i:=by
 unfold Builtin.Slice.slicePlaces
 have h1:(1:Int) > 0:=by omega
 simp only [h1,if_true,Int.ediv_one]
 split <;> omega
theorem lV {v:Value} {o:Option Int} {Q:Option Int->Shared->Prop} (p:IsPart v o) (h:Q o s):wpAny (model prog w) A (Builtin.Slice.slicePartIndex v) Q E s:=by
 cases p with
 | none=>exact slicePart_none h
 | int i t=>exact slicePart_int h
theorem jZ {sl:Addr} {vl vu:Value} {lo hi:Option Int} {n:Nat} {Q:Int×Int×Nat->Shared->Prop} (hs:s.heap.IsSliceOf sl vl vu .none) (pl:IsPart vl lo) (pu:IsPart vu hi)
  (h:Q (((dz n 0 lo:Nat):Int),1,dz n n hi - dz n 0 lo) s):wpAny (model prog w) A (Builtin.Slice.sliceApplied (.ref sl) (pure (n:Int))) Q E s:=by
 obtain ⟨os,hos,hcs,hds⟩:=id hs
 unfold Builtin.Slice.sliceApplied Builtin.Slice.sliceFields
 refine wpAny_bind (wpAny_bind (wpAny_field hos hds (x:=vl) rfl (wpAny_bind (wpAny_field hos hds (x:=vu) rfl (wpAny_bind (wpAny_field hos hds (x:=.none) rfl (wpAny_pure ?_)))))))
 refine wpAny_bind (slicePart_none ?_)
 show wpAny _ _ (if ((1:Int) == 0)=true then _ else _) _ _ s
 rw [if_neg (by decide)]
 refine wpAny_bind (lV pl (wpAny_bind (lV pu (wpAny_bind (wpAny_pure ?_)))))
 show wpAny _ _ (match Builtin.Slice.sliceAdjust lo hi 1 (n:Int) with | (lo,hi)=>pure (lo,(1:Int),Builtin.Slice.slicePlaces lo hi 1)) _ _ s
 rw [tB lo hi n]
 show wpAny _ _ (pure (((dz n 0 lo:Nat):Int),(1:Int),Builtin.Slice.slicePlaces ((dz n 0 lo:Nat):Int) ((dz n n hi:Nat):Int) 1)) _ _ s
 rw [tN]
 exact wpAny_pure h
theorem Cv (xs:Array Value) (i k:Nat):((List.range k).filterMap fun (m:Nat)=>xs[((i:Int)+(m:Int) * 1).toNat]?).toArray=((xs.toList.drop i).take k).toArray:=by
 have e:(fun (m:Nat)=>xs[((i:Int)+(m:Int) * 1).toNat]?)=fun m=>xs[i+m]?:=by
  funext m
  have:((i:Int)+(m:Int) * 1).toNat=i+m:=by omega
  rw [this]
 rw [e]
 have:=pick_run xs i k
 rw [List.filterMap_map] at this
 have e2:((fun x=>xs[x]?) ∘ fun x=>i+x)=fun m=>xs[i+m]?:=rfl
 rw [e2] at this
 rw [this]
theorem jF {t sl:Addr} {items:Array Value} {vl vu:Value} {lo hi:Option Int} {Q:Value->Shared->Prop} (ht:IsTup s.heap t items) (hs:s.heap.IsSliceOf sl vl vu .none) (pl:IsPart vl lo) (pu:IsPart vu hi)
  (hw:¬ (dz items.size 0 lo=0/\dz items.size items.size hi=items.size))
  (h:Q (.ref s.heap.objs.size) { s with heap:=s.heap.push { cls:=.type "tuple",data:=.seq ((items.toList.drop (dz items.size 0 lo)).take (dz items.size items.size hi - dz items.size 0 lo)).toArray } })
  (hsz:items.size<=sizeLine):wpAny (model prog w) A (getItem (.ref t) (.ref sl)) Q E s:=by
 have htake:sizeOk (.seq ((items.toList.drop (dz items.size 0 lo)).take (dz items.size items.size hi - dz items.size 0 lo)).toArray):=by
  show ((items.toList.drop (dz items.size 0 lo)).take (dz items.size items.size hi - dz items.size 0 lo)).toArray.size<=sizeLine
  rw [List.size_toArray,List.length_take,List.length_drop,Array.length_toList]
  omega
 have hj:dz items.size items.size hi<=items.size:=Ig _ _ (Nat.le_refl _) hi
 obtain ⟨os,hos,hcs,hds⟩:=id hs
 have hTs:s.TypeIs (.ref sl) "slice" := ⟨os,hos,hcs⟩
 unfold getItem
 try with_reducible refine wpAny_holding ?_
 first | refine wpAny_bind (wpAny_pure ?_) | skip
 refine wpAny_bind (wpAny_sequenceKey ht.typeIs (by decide) ?_)
 refine wpAny_bind (wpAny_callSpecial?_slot (name:=Str.ofString "__getitem__") ht.typeIs PyProof.Rows.slot_tuple_getitem
  (wpAny_call_entry PyProof.Rows.slot_tuple_getitem ht.typeIs entry_tuple_getitem ?_ (args_tuple_getitem _ _)))
 show wpAny _ _ (Builtin.Tuple.tupleItemsOf (.ref t) >>= _) _ _ s
 refine wpAny_bind (tupleItemsOf_ ht ?_)
 refine wpAny_bind (wpAny_typeOf hTs ?_)
 rw [if_pos (by decide)]
 refine wpAny_bind (jZ hs pl pu ?_)
 have hno:¬ ((((dz items.size 0 lo:Nat):Int) == 0 && (1:Int) == 1 && (dz items.size items.size hi - dz items.size 0 lo) == items.size)=true):=by
  intro q
  rw [Bool.and_eq_true,Bool.and_eq_true] at q
  have q1:((dz items.size 0 lo:Nat):Int)=0:=eq_of_beq q.1.1
  have q2:dz items.size items.size hi - dz items.size 0 lo=items.size:=eq_of_beq q.2
  exact hw ⟨by omega,by omega⟩
 show wpAny _ _ (if (((dz items.size 0 lo:Nat):Int) == 0 && (1:Int) == 1 && (dz items.size items.size hi - dz items.size 0 lo) == items.size)=true then _ else _) _ _ s
 rw [if_neg hno,Cv]
 first
  | exact wpAny_bind (m:=Builtin.Tuple.tupleExact _) (wpAny_newObj_type (wpAny_pure ⟨_,rfl,wpAny_pure h⟩) htake)
  | exact wpAny_bind (m:=Builtin.Tuple.tupleExact _) (wpAny_newObj_type (wpAny_bind (wpAny_pure (wpAny_pure ⟨_,rfl,wpAny_pure h⟩))) htake)
  | exact wpAny_bind (wpAny_bind (m:=Builtin.Tuple.tupleExact _) (wpAny_newObj_type (wpAny_pure (wpAny_pure ⟨_,rfl,wpAny_pure h⟩)) htake))
  | exact wpAny_bind (wpAny_bind (m:=Builtin.Tuple.tupleExact _) (wpAny_newObj_type (wpAny_pure ⟨_,rfl,wpAny_pure h⟩) htake))
end
end HT
namespace L2
open PySem PySem.Spec PyProof.Rows
noncomputable abbrev TO:=St->Hp->(Option Int->Hp->Prop)->Prop
noncomputable def PO (X:Cx) (e:Option Expr) (t:TO):Prop:=
 ∀ (pins:List (Addr×Obj)) (s:Shared) (σ:St) (H:Hp) (Q:Option Int->Hp->Prop),Inv X pins σ H s->t σ H Q ->
  wpAny (model X.prog X.w) X.A (evalPart e X.env) (fun u s'=>∃ o H',Inv X pins σ H' s'/\IsPart u o/\Q o H') X.xe s
noncomputable def D_:TO:=fun _ H Q=>Q none H
noncomputable def JL (t:TE):TO:=fun σ H Q=>t σ H fun x H1=>∃ i,x=.int i/\Q (some i) H1
theorem intsAre_of {ns:List Int}:∀ {us:List Value},Vals (ns.map V.int) us->IntsAre us ns:=by
 induction ns with
 | nil=>intro us r;rw [List.map_nil] at r;cases r;exact .nil
 | cons n ns ih=>
  intro us r
  rw [List.map_cons] at r
  cases r with
  | cons r1 r2=>
   obtain ⟨t,e⟩:=r1
   subst e
   exact .cons n t (ih r2)
section
variable {X:Cx} {e:Expr} {te:TE} {lo hi:Option Expr} {tl th:TO} {pos p2:Pos}
theorem Ej:PO X none D_:=by
 intro pins s σ H Q I h
 rw [evalPart_none]
 exact wpAny_pure ⟨none,H,I,.none,h⟩
theorem DJ (h:PE X e te):PO X (some e) (JL te):=by
 intro pins s σ H Q I hw
 rw [evalPart_some]
 refine bO (h pins s σ H _ I hw) fun u s1 ⟨x,H1,I1,r1,q1⟩=>?_
 obtain ⟨i,rfl,q⟩:=q1
 obtain ⟨t,rfl⟩:=r1
 exact ⟨some i,H1,I1,.int i t,q⟩
noncomputable def Lj (X:Cx) (r:V->Option Int->Option Int->Hp->VK->Prop):Prop:=
 ∀ (pins:List (Addr×Obj)) (s:Shared) (σ:St) (H:Hp) (x:V) (v vl vu:Value) (lo hi:Option Int) (sl:Addr) (Q:VK),Inv X pins σ H s->RelV x v->s.heap.IsSliceOf sl vl vu .none->IsPart vl lo->IsPart vu hi->r x lo hi H Q ->
  ∃ T id,typeLookup (.type T) "__getitem__" = pure (some (.builtin id))/\s.TypeIs v T/\wpAny (model X.prog X.w) X.A (getItem v (.ref sl)) (EP X pins σ Q) X.xe s
noncomputable def Ng (r:V->Option Int->Option Int->Hp->VK->Prop) (te:TE) (tl th:TO):TE:=fun σ H Q=>te σ H fun x H1=>tl σ H1 fun l H2=>th σ H2 fun u H3=>r x l u H3 Q
theorem Ad {r:V->Option Int->Option Int->Hp->VK->Prop} (hr:Lj X r) (he:PE X e te) (hl:PO X lo tl) (hu:PO X hi th):PE X (.Subscript e (.Slice lo hi none p2) pos) (Ng r te tl th):=by
 intro pins s σ H Q I h
 refine Subscript_ (bO (he pins s σ H _ I h) fun v s1 ⟨x,H1,I1,r1,q1⟩=>?_)
 refine wpAny_Slice (bO (hl pins s1 σ H1 _ I1 q1) fun vl s2 ⟨l,H2,I2,pl,q2⟩=>bO (hu pins s2 σ H2 _ I2 q2) fun vu s3 ⟨u,H3,I3,pu,q3⟩=>?_)
 rw [evalPart_none]
 refine wpAny_pure ?_
 have I4:Inv X pins σ H3 { s3 with heap:=s3.heap.push { cls:=.type "slice",data:=.fields #[vl,vu,.none] } }:=I3.kept (t':=s3.toks) fun b ob q=>Heap.get?_push_of_some _ q
 obtain ⟨T,id,hT,ht,hg⟩:=hr pins { s3 with heap:=s3.heap.push { cls:=.type "slice",data:=.fields #[vl,vu,.none] } } σ H3 x v vl vu l u s3.heap.objs.size Q I4 r1 (Heap.IsSliceOf.new ..) pl pu q3
 show wpAny (model X.prog X.w) X.A (subscriptTail e (.Slice lo hi none p2) v (.ref s3.heap.objs.size)) (EP X pins σ Q) X.xe { s3 with heap:=s3.heap.push { cls:=.type "slice",data:=.fields #[vl,vu,.none] } }
 exact tail_any (ops:=[.ref s3.heap.objs.size,v]) ht hT hg (by with_unfolding_all rfl)
noncomputable def rV (xs:List V) (lo hi:Option Int):List V:=(xs.drop (HT.dz xs.length 0 lo)).take (HT.dz xs.length xs.length hi - HT.dz xs.length 0 lo)
theorem kM (xs:List V) (lo hi:Option Int):(rV xs lo hi).length<=xs.length:=by
 unfold rV
 rw [List.length_take,List.length_drop]
 omega
noncomputable def LR (K:PySem.W.Frag):V->Option Int->Option Int->Hp->VK->Prop:=fun x lo hi H Q=>∃ a xs,x=.ref a/\cI K H a xs /\
 ¬ (HT.dz xs.length 0 lo=0/\HT.dz xs.length xs.length hi=xs.length)/\∀ p,H p=none->Q (.ref p) (upd H p (.tup (rV xs lo hi)))
theorem HJ:Lj X (LR X.K):=by
 intro pins s σ H x v vl vu lo hi sl Q I rx hs pl pu h
 obtain ⟨a,xs,rfl,hx,hw,q⟩:=h
 cases rx
 obtain ⟨its,r,ht,hz⟩:=I.tuple hx
 have hlen:its.toArray.size=xs.length:=by rw [List.size_toArray];exact r.length.symm
 refine ⟨"tuple",_,PyProof.Rows.slot_tuple_getitem.lookup,ht.typeIs,?_⟩
 refine HT.jF ht hs pl pu (by rw [hlen];exact hw) ?_ (by rw [hlen];exact hz)
 rw [hlen]
 refine ⟨.ref s.heap.objs.size,_,I.laid (t':=s.toks) (o:=.tup (rV xs lo hi)) (fun b ob q=>Heap.get?_push_of_some _ q) (Nat.le_refl _) ?_,rfl,q _ (I.hok.fresh (Nat.le_refl _))⟩
 exact ⟨Nat.le_trans (kM xs lo hi) hz,_,(r.drop (HT.dz xs.length 0 lo)).take (HT.dz xs.length xs.length hi - HT.dz xs.length 0 lo),dW.new _ _⟩
noncomputable def NC (K:PySem.W.Frag):R2:=fun x y H Q=>∃ a b ns ms,x=.ref a/\y=.ref b/\cI K H a (ns.map V.int)/\cI K H b (ms.map V.int)/\Q (.bl (HT.lexLt ns ms)) H
noncomputable def Kx (K:PySem.W.Frag):R2:=fun x y H Q=>∃ a b xs ys,x=.ref a/\y=.ref b/\cI K H a xs/\cI K H b ys/\xs≠[]/\xs.length+ys.length<=sizeLine /\
 (ys=[]->Q (.ref a) H)/\(ys≠[]->∀ p,H p=none->Q (.ref p) (upd H p (.tup (xs++ys))))
theorem Vals.p_ {xs:List V} {us:List Value} (r:Vals xs us):us=[] ↔ xs=[]:=by
 cases r with
 | nil=>simp
 | cons _ _=>simp
theorem EF:d7 X (binaryOp .Add) (Kx X.K):=by
 intro pins s σ H x y v u Q I rx ry h
 obtain ⟨a,b,xs,ys,rfl,rfl,ha,hb,hx,hz,q1,q2⟩:=h
 cases rx
 cases ry
 obtain ⟨its,r1,p1,_⟩:=I.tuple ha
 obtain ⟨its2,r2,p2,_⟩:=I.tuple hb
 refine HT.Er p1 p2 (fun z=>hx (r1.p_.mp z)) (fun z=>⟨.ref a,H,I,rfl,q1 (r2.p_.mp z)⟩) (fun z=>?_) (by rw [<- r1.length,<- r2.length];exact hz)
 refine ⟨.ref s.heap.objs.size,_,I.laid (t':=s.toks) (o:=.tup (xs++ys)) (fun b ob q=>Heap.get?_push_of_some _ q) (Nat.le_refl _) ?_,rfl,q2 (fun w=>z (r2.p_.mpr w)) _ (I.hok.fresh (Nat.le_refl _))⟩
 exact ⟨by rw [List.length_append];exact hz,_,r1.append r2,dW.new _ _⟩
end
noncomputable def qt (n:Nat) (i:Int):Option Nat:=if 0<=i then (if i < n then some i.toNat else none) else if -(n:Int)<=i then some (i+n).toNat else none
noncomputable def fG {α:Type} (xs:List α) (i:Int):Option α:=(qt xs.length i).bind fun j=>xs[j]?
theorem vI {n:Nat} {i:Int} {j:Nat} (h:qt n i=some j):seqIndex? i n=some j/\j < n/\-(n:Int)<=i/\i < n:=by
 unfold qt at h
 by_cases h0:0<=i
 ·rw [if_pos h0] at h
  by_cases h1:i < n
  ·rw [if_pos h1] at h
   have e:i.toNat=j:=Option.some.inj h
   exact ⟨by rw [seqIndex_of h0 h1,e],by omega,by omega,h1⟩
  ·rw [if_neg h1] at h;cases h
 ·rw [if_neg h0] at h
  by_cases h1:-(n:Int)<=i
  ·rw [if_pos h1] at h
   have e:(i+n).toNat=j:=Option.some.inj h
   exact ⟨by rw [seqIndex_neg (by omega) h1,e],by omega,h1,by omega⟩
  ·rw [if_neg h1] at h;cases h
theorem qz {α:Type} {xs:List α} {i:Int} {v:α} (h:fG xs i=some v):∃ j,seqIndex? i xs.length=some j/\xs[j]?=some v/\j < xs.length/\-(xs.length:Int)<=i/\i < xs.length:=by
 unfold fG at h
 cases e:qt xs.length i with
 | none=>rw [e] at h;cases h
 | some j=>
  rw [e] at h
  obtain ⟨h1,h2,h3,h4⟩:=vI e
  exact ⟨j,h1,h,h2,h3,h4⟩
theorem Dq {α:Type} {xs:List α} {j:Nat} {v:α} (h:xs[j]?=some v):fG xs (j:Int)=some v:=by
 have hj:j < xs.length:=(List.getElem?_eq_some_iff.mp h).1
 have e:qt xs.length (j:Int)=some j:=by
  unfold qt
  rw [if_pos (by omega),if_pos (by omega)];simp
 unfold fG;rw [e];exact h
noncomputable def qm (b:Expr):Prop:=∀ o i,subscripted b false o i=operate [o,i] (getItem o i)
noncomputable def Hj (X:Cx) (r:R2):Prop:=
 ∀ (value slice:Expr) (pins:List (Addr×Obj)) (s:Shared) (σ:St) (H:Hp) (x y:V) (v u:Value) (Q:VK),Inv X pins σ H s->RelV x v->RelV y u->r x y H Q ->
  subscripted slice false v u=operate [v,u] (getItem v u)->wpAny (model X.prog X.w) X.A (subscriptTail value slice v u) (EP X pins σ Q) X.xe s
noncomputable def Di (X:Cx) (id:String) (r:V->List V->Hp->VK->Prop):Prop:=
 ∀ (pins:List (Addr×Obj)) (s:Shared) (σ:St) (H:Hp) (x:V) (xs:List V) (v:Value) (us:List Value) (Q:VK),Inv X pins σ H s->RelV x v->Vals xs us->r x xs H Q ->
  wpAny (model X.prog X.w) X.A (call (.builtin id) (v::us)) (EP X pins σ Q) X.xe s
section
variable {X:Cx} {a b:Expr} {ta tb:TE} {pos:Pos}
theorem Fc {r:R2} (hr:Hj X r) (ha:PE X a ta) (hb:PE X b tb) (hs:qm b):PE X (.Subscript a b pos) (JE r ta tb):=by
 intro pins s σ H Q I h
 exact Subscript_ (Hs ha hb I h fun v u s2 x y H2 I2 rx ry q=>hr a b pins s2 σ H2 x y v u Q I2 rx ry q (hs _ _))
noncomputable def LS (K:PySem.W.Frag):R2:=fun x y H Q=>∃ p xs i v,x=.ref p/\y=.int i/\dQ K H p xs/\fG xs i=some v/\Q v H
noncomputable def LO (K:PySem.W.Frag):R2:=fun x y H Q=>∃ p xs i v,x=.ref p/\y=.int i/\cI K H p xs/\fG xs i=some v/\Q v H
noncomputable def LN:R2:=fun x y H Q=>∃ z i c,x=.str z/\y=.int i/\z.length<=sizeLine/\fG z.cps.toList i=some c/\Q (.str ⟨#[c]⟩) H
theorem xY:Hj X (LS X.K):=by
 intro value slice pins s σ H x y v u Q I rx ry h hs
 obtain ⟨p,xs,i,z,rfl,rfl,hq,he,q⟩:=h
 cases rx
 obtain ⟨t,rfl⟩:=ry
 obtain ⟨its,r,pl,hz⟩:=I.list hq
 obtain ⟨j,h1,h2,h3,h4,h5⟩:=qz he
 obtain ⟨w,ew,rw'⟩:=r.get h2
 have hl:=r.length
 have hn:=iB
 have fin:EP X pins σ Q w s:=⟨z,H,I,rw',q⟩
 by_cases h0:0<=i
 ·have hj:i.toNat=j:=by
   rw [seqIndex_of h0 h5] at h1
   exact Option.some.inj h1
  exact item_listR pl.isList h0 (by omega) (by rw [hj];simpa using ew) fin hs
 ·have hj:(i+(its.toArray.size:Int)).toNat=j:=by
   rw [seqIndex_neg (by omega) h4] at h1
   rw [List.size_toArray,<- hl]
   exact Option.some.inj h1
  exact subscriptTail_builtinR (x:=w) pl.isList.typeIs slot_list_getitem.lookup
   (wpAny_getItem_list_neg (Q:=fun r s'=>r=w/\EP X pins σ Q r s') pl.isList (by omega) (by rw [List.size_toArray] <;> omega) (by omega) (by rw [hj];simpa using ew) ⟨rfl,fin⟩) hs
theorem IX:Hj X (LO X.K):=by
 intro value slice pins s σ H x y v u Q I rx ry h hs
 obtain ⟨p,xs,i,z,rfl,rfl,hq,he,q⟩:=h
 cases rx
 obtain ⟨t,rfl⟩:=ry
 obtain ⟨its,r,pl,hz⟩:=I.tuple hq
 obtain ⟨j,h1,h2,h3,h4,h5⟩:=qz he
 obtain ⟨w,ew,rw'⟩:=r.get h2
 have hl:=r.length
 have hn:=iB
 have fin:EP X pins σ Q w s:=⟨z,H,I,rw',q⟩
 exact subscriptTail_builtinR (x:=w) pl.typeIs slot_tuple_getitem.lookup
  (getItem_tuple (j:=j) (Q:=fun r s'=>r=w/\EP X pins σ Q r s') pl (by omega) (by omega) (by rw [List.size_toArray,<- hl];exact h1) (by simpa using ew) ⟨rfl,fin⟩) hs
theorem Gy:Hj X LN:=by
 intro value slice pins s σ H x y v u Q I rx ry h hs
 obtain ⟨z,i,c,rfl,rfl,hz,he,q⟩:=h
 obtain ⟨t,rfl⟩:=rx
 obtain ⟨t',rfl⟩:=ry
 obtain ⟨j,h1,h2,h3,h4,h5⟩:=qz he
 have hl:z.cps.toList.length=z.length:=by simp [Str.length]
 rw [hl] at h1 h4 h5
 have hn:=iB
 exact tail_any (typeIs_str s z t) slot_str_getitem.lookup (getItem_str (c:=c) (by
  have e1:decide (i < -(2 ^ 63:Int))=false:=decide_eq_false (by omega)
  have e2:decide (i>=2 ^ 63)=false:=decide_eq_false (by omega)
  rw [e1,e2,Bool.or_false]) (by rw [h1];simpa using h2) ⟨.str ⟨#[c]⟩,H,I.tok _,⟨_,rfl⟩,q⟩) hs
theorem uA (its:List Value) (n j:Nat) (u:Value):Obj.mapSeq (·.setIfInBounds j u) { cls:=.type "list",data:=.seq its.toArray n }={ cls:=.type "list",data:=.seq (its.set j u).toArray n }:=by
 simp [Obj.mapSeq]
theorem Inv.lst {pins:List (Addr×Obj)} {σ:St} {H:Hp} {s:Shared} {p:Addr} {xs:List V} (I:Inv X pins σ H s) (h:H p=some (.lst xs)) :
  ∃ (its:List Value) (n:Nat),Vals xs its/\s.heap.get? p=some { cls:=.type "list",data:=.seq its.toArray n }/\xs.length<=sizeLine:=by
 obtain ⟨z,its,n,r,e⟩:=I.hok p _ h
 exact ⟨its,n,r,e,z⟩
theorem Inv.HX {pins:List (Addr×Obj)} {σ:St} {H:Hp} {s:Shared} {p:Addr} {xs ys:List V} {its its':List Value} {n n':Nat} {f:Obj->Obj} (I:Inv X pins σ H s) (h:H p=some (.lst xs))
  (ho:s.heap.get? p=some { cls:=.type "list",data:=.seq its.toArray n }) (hf:f { cls:=.type "list",data:=.seq its.toArray n }={ cls:=.type "list",data:=.seq its'.toArray n' }) (r:Vals ys its') (hz:ys.length<=sizeLine) (t:Nat) :
  Inv X pins σ (upd H p (.lst ys)) { s with heap:=s.heap.update p f,toks:=t }:=by
 have e:(s.heap.update p f).get? p=some { cls:=.type "list",data:=.seq its'.toArray n' }:=by
  rw [Heap.get?_update_self f ho (by rw [hf] <;> rfl),hf]
 refine I.write (x:=p) (e:=p) (by rw [h];trivial) (.inl rfl) (fun b u hb q=>(Heap.get?_update_other _ _ (Ne.symm hb)).trans q) ⟨_,e⟩ ?_
 exact ⟨hz,its',n',r,e⟩
noncomputable def KL:V->V->V->Hp->(Hp->Prop)->Prop:=fun o i v H Q=>∃ p xs k j,o=.ref p/\i=.int k/\H p=some (.lst xs)/\qt xs.length k=some j/\Q (upd H p (.lst (xs.set j v)))
theorem set_list:yy X KL:=by
 intro pins s σ H o i v ov iv u Q I ro ri rv h
 obtain ⟨p,xs,k,j,rfl,rfl,hp,hj,q⟩:=h
 cases ro
 obtain ⟨t,rfl⟩:=ri
 obtain ⟨its,n,r,ho,hz⟩:=I.lst hp
 obtain ⟨h1,h2,h3,h4⟩:=vI hj
 have hl:=r.length
 have hn:=iB
 have I':Inv X pins σ (upd H p (.lst (xs.set j v))) { s with heap:=s.heap.update p (Obj.mapSeq (·.setIfInBounds j u)) }:=
  I.HX hp ho (uA its n j u) (r.set rv j) (by rw [List.length_set];exact hz) s.toks
 by_cases h0:0<=k
 ·have hk:k.toNat=j:=by
   rw [seqIndex_of h0 h4] at h1
   exact Option.some.inj h1
  exact PySem.W.ki_setAt ho h0 (by omega) (by rw [List.size_toArray,<- hl];exact h4) (by rw [hk];exact ⟨_,I',q⟩)
 ·have hk:(k+(its.toArray.size:Int)).toNat=j:=by
   rw [seqIndex_neg (by omega) h3] at h1
   rw [List.size_toArray,<- hl]
   exact Option.some.inj h1
  exact PySem.W.ki_setBack ho (by omega) (by rw [List.size_toArray,<- hl];exact h3) (by omega) (by rw [hk];exact ⟨_,I',q⟩)
theorem pN (lo hi:Option Int) (n:Nat):(sliceBounds lo hi none n).1=((HT.dz n 0 lo:Nat):Int)/\(sliceBounds lo hi none n).2.1=((HT.dz n n hi:Nat):Int)/\(sliceBounds lo hi none n).2.2=1:=by
 refine ⟨?_,?_,rfl⟩
 ·cases lo with
  | none=>simp [sliceBounds,HT.dz]
  | some i=>
   simp only [sliceBounds,HT.dz,Option.getD_none,show (1:Int) > 0 by decide,if_true]
   by_cases h:i < 0
   ·simp only [h,if_true] <;> omega
   ·simp only [h,if_false] <;> omega
 ·cases hi with
  | none=>simp [sliceBounds,HT.dz]
  | some i=>
   simp only [sliceBounds,HT.dz,Option.getD_none,show (1:Int) > 0 by decide,if_true]
   by_cases h:i < 0
   ·simp only [h,if_true] <;> omega
   ·simp only [h,if_false] <;> omega
theorem nX (its:List Value) (lo hi:Option Int):slicePick its.toArray lo hi none=((its.drop (HT.dz its.length 0 lo)).take (HT.dz its.length its.length hi - HT.dz its.length 0 lo)).toArray:=by
 obtain ⟨h1,h2,h3⟩:=pN lo hi its.toArray.size
 unfold slicePick
 rw [h1,h2,h3]
 simp only [sliceRange_one,pick_run,List.size_toArray] <;> rfl
noncomputable def MJ (K:PySem.W.Frag):V->Option Int->Option Int->Hp->VK->Prop:=fun x lo hi H Q=>∃ a xs,x=.ref a/\dQ K H a xs/\∀ p,H p=none->Q (.ref p) (upd H p (.lst (rV xs lo hi)))
theorem vB:Lj X (MJ X.K):=by
 intro pins s σ H x v vl vu lo hi sl Q I rx hs pl pu h
 obtain ⟨a,xs,rfl,hx,q⟩:=h
 cases rx
 obtain ⟨its,r,ht,hz⟩:=I.list hx
 have hlen:=r.length
 refine ⟨"list",_,slot_list_getitem.lookup,ht.isList.typeIs,?_⟩
 refine wpAny_getItem_list_slice ht.isList hs pl pu .none (by simp) ?_ (by rw [List.size_toArray] <;> omega)
 rw [nX,<- hlen]
 refine ⟨.ref s.heap.objs.size,_,I.laid (t':=s.toks) (o:=.lst (rV xs lo hi)) (fun b ob q=>Heap.get?_push_of_some _ q) (Nat.le_refl _) ?_,rfl,q _ (I.hok.fresh (Nat.le_refl _))⟩
 exact ⟨Nat.le_trans (kM xs lo hi) hz,_,0,(r.drop (HT.dz xs.length 0 lo)).take (HT.dz xs.length xs.length hi - HT.dz xs.length 0 lo),Heap.get?_push_size _ rfl⟩
noncomputable def gR:V->Bool
 | .non=>true
 | .bl _=>true
 | .int _=>true
 | .str _=>true
 | _=>false
noncomputable def sZ:V->V->Bool
 | .non,.non=>true
 | .bl a,.bl b=>a == b
 | .bl a,.int b=>(if a then 1 else 0) == b
 | .int a,.bl b=>a == (if b then 1 else 0)
 | .int a,.int b=>a == b
 | .str a,.str b=>a == b
 | _,_=>false
theorem G_ {A:Around} {s:Shared} {y x:V} {u v:Value} (ry:RelV y u) (rx:RelV x v) (fy:gR y=true) (fx:gR x=true):SeqAt.EqAt A s u v (sZ y x):=by
 cases y with
 | non=>
  cases ry
  cases x with
  | non=>cases rx;exact SeqAt.EqAt.same _
  | bl b=>cases rx;exact SeqAt.EqAt.none_bool b
  | int b=>obtain ⟨t,rfl⟩:=rx;exact SeqAt.EqAt.none_int b t
  | str b=>obtain ⟨t,rfl⟩:=rx;exact SeqAt.EqAt.none_str b t
  | _=>exact absurd (show false=true from fx) Bool.false_ne_true
 | bl a=>
  cases ry
  cases x with
  | non=>cases rx;exact SeqAt.EqAt.bool_none a
  | bl b=>cases rx;exact SeqAt.EqAt.bool_bool a b
  | int b=>obtain ⟨t,rfl⟩:=rx;exact SeqAt.EqAt.bool_int a b t
  | str b=>obtain ⟨t,rfl⟩:=rx;exact SeqAt.EqAt.bool_str a b t
  | _=>exact absurd (show false=true from fx) Bool.false_ne_true
 | int a=>
  obtain ⟨t',rfl⟩:=ry
  cases x with
  | non=>cases rx;exact SeqAt.EqAt.int_none a t'
  | bl b=>cases rx;exact SeqAt.EqAt.int_bool a t' b
  | int b=>obtain ⟨t,rfl⟩:=rx;exact SeqAt.EqAt.int_int a t' b t
  | str b=>obtain ⟨t,rfl⟩:=rx;exact SeqAt.EqAt.int_str a t' b t
  | _=>exact absurd (show false=true from fx) Bool.false_ne_true
 | str a=>
  obtain ⟨t',rfl⟩:=ry
  cases x with
  | non=>cases rx;exact SeqAt.EqAt.str_none a t'
  | bl b=>cases rx;exact SeqAt.EqAt.str_bool a t' b
  | int b=>obtain ⟨t,rfl⟩:=rx;exact SeqAt.EqAt.str_int a t' b t
  | str b=>obtain ⟨t,rfl⟩:=rx;exact SeqAt.EqAt.str_str a t' b t
  | _=>exact absurd (show false=true from fx) Bool.false_ne_true
 | _=>exact absurd (show false=true from fy) Bool.false_ne_true
noncomputable def JA (x:V) (u:Value):Bool:=match u with
 | .none=>sZ .non x
 | .bool b=>sZ (.bl b) x
 | .int i _=>sZ (.int i) x
 | .str z _=>sZ (.str z) x
 | _=>false
theorem uf {x y:V} {u:Value} (r:RelV y u) (f:gR y=true):JA x u=sZ y x:=by
 cases y with
 | non=>cases r;rfl
 | bl b=>cases r;rfl
 | int i=>obtain ⟨t,rfl⟩:=r;rfl
 | str z=>obtain ⟨t,rfl⟩:=r;rfl
 | _=>exact absurd (show false=true from f) Bool.false_ne_true
theorem mw {A:Around} {s:Shared} {x:V} {v:Value} (rx:RelV x v) (fx:gR x=true):∀ {xs:List V} {us:List Value},Vals xs us->xs.all gR=true->∀ u∈us,SeqAt.EqAt A s u v (JA x u)
 | _,_,.nil,_=>fun u hu=>by cases hu
 | y::xs,u::us,.cons r t,f=>fun u' hu=>by
  rw [List.all_cons,Bool.and_eq_true] at f
  rcases List.mem_cons.mp hu with rfl | hu
  ·rw [uf r f.1];exact G_ r rx f.1 fx
  ·exact mw rx fx t f.2 u' hu
noncomputable def M9 (x:V) (xs:List V):Bool:=xs.any fun y=>sZ y x
theorem gP:br X (.type "list") (fun xs H Q=>∃ p ys,xs=[.ref p]/\(dQ X.K H p ys\/cI X.K H p ys)/\∀ l,H l=none->Q (.ref l) (upd H l (.lst ys))):=by
 intro pins s σ H xs us Q I r h
 obtain ⟨p,ys,rfl,hq,q⟩:=h
 obtain ⟨u,rfl,rx⟩:=vals1 r
 cases rx
 have fin:∀ (its:List Value),Vals ys its->ys.length<=sizeLine->∀ (h':Heap) (c':Nat),(∀ b o',s.heap.get? b=some o'->h'.get? b=some o') ->
   h'.get? s.heap.objs.size=some { cls:=.type "list",dict:=none,data:=.seq its.toArray c',slots:=#[] }->EP X pins σ Q (.ref s.heap.objs.size) { s with heap:=h' }:=fun its r' hz h' c' kp e=>
  ⟨.ref s.heap.objs.size,_,I.laid (t':=s.toks) kp (Nat.le_refl _) (show bM X.prog X.w _ h' _ (.lst ys) from ⟨hz,its,c',r',e⟩),rfl,q _ (I.hok.fresh (Nat.le_refl _))⟩
 rcases hq with hq | hq
 ·obtain ⟨its,r',pl,hz⟩:=I.list hq
  have hlen:=r'.length
  obtain ⟨o,ho,hc,n,hd⟩:=pl.isList
  exact call_list_seq p (.inl rfl) ho hc hd (fun h' c' kp e=>fin its r' hz h' c' kp e) (by simp only [List.size_toArray] <;> omega)
 ·obtain ⟨its,r',pl,hz⟩:=I.tuple hq
  have hlen:=r'.length
  obtain ⟨o,ho,hc,n,hd⟩:=pl
  exact call_list_seq p (.inr rfl) ho hc hd (fun h' c' kp e=>fin its r' hz h' c' kp e) (by simp only [List.size_toArray] <;> omega)
theorem fR:br X (.type "tuple") (fun xs H Q=>∃ p ys,xs=[.ref p]/\((dQ X.K H p ys/\∀ l,H l=none->Q (.ref l) (upd H l (.tup ys)))\/(cI X.K H p ys/\Q (.ref p) H))):=by
 intro pins s σ H xs us Q I r h
 obtain ⟨p,ys,rfl,h⟩:=h
 obtain ⟨u,rfl,rx⟩:=vals1 r
 cases rx
 rcases h with ⟨hq,q⟩ | ⟨hq,q⟩
 ·obtain ⟨its,r',pl,hz⟩:=I.list hq
  have hlen:=r'.length
  refine call_tuple_list pl.isList (fun h' kp=>?_) (by simp only [List.size_toArray] <;> omega)
  have I1:Inv X pins σ H { s with heap:=h' }:=I.kept (t':=s.toks) kp
  have I2:Inv X pins σ (upd H h'.objs.size (.tup ys)) { s with heap:=h'.push { cls:=.type "tuple",data:=.seq its.toArray } }:=
   I1.laid (t':=s.toks) (fun b o e=>Heap.get?_push_of_some _ e) (Nat.le_refl _) (show bM X.prog X.w _ _ _ (.tup ys) from ⟨hz,its,r',dW.new _ _⟩)
  exact ⟨.ref h'.objs.size,_,I2,rfl,q _ (I1.hok.fresh (Nat.le_refl _))⟩
 ·obtain ⟨its,r',pl,hz⟩:=I.tuple hq
  exact call_tuple_same pl ⟨.ref p,H,I,rfl,q⟩
noncomputable def Lb (K:PySem.W.Frag) (T:String) (x:V) (H:Hp):Prop:=match x with
 | .str _=>T = "str"
 | .int _=>T = "int"
 | .ref p=>(T = "list" /\ ∃ xs,dQ K H p xs)\/(T = "tuple" /\ ∃ o,K.lookup p=some o/\o.cls=.type "tuple" /\ o.dict=none) \/
   (T = "dict" /\ ((∃ kvs,H p=some (.dK kvs))\/∃ kvs,H p=some (.dT kvs)))\/(T = "set" /\ ∃ S n,H p=some (.set S n))
 | _=>False
theorem Bk {pins:List (Addr×Obj)} {σ:St} {H:Hp} {s:Shared} {T:String} {x:V} {v:Value} (I:Inv X pins σ H s) (r:RelV x v) (ty:Lb X.K T x H) :
  s.TypeIs v T/\∀ a,v=.ref a->∃ ob,s.heap.get? a=some ob/\ob.dict=none:=by
 cases x with
 | str z=>
  obtain ⟨t,rfl⟩:=r
  cases (show T = "str" from ty)
  exact ⟨typeIs_str s z t,fun _ e=>nomatch e⟩
 | int i=>
  obtain ⟨t,rfl⟩:=r
  cases (show T = "int" from ty)
  exact ⟨typeIs_int s i t,fun _ e=>nomatch e⟩
 | ref p=>
  cases r
  rcases ty with ⟨rfl,xs,hq⟩ | ⟨rfl,o,hk,hc,hd⟩ | ⟨rfl,hk⟩ | ⟨rfl,S,n,hk⟩
  ·obtain ⟨its,_,pl,_⟩:=I.list hq
   refine ⟨pl.isList.typeIs,fun a e=>?_⟩
   cases e
   obtain ⟨o,n,e,c,hd,_⟩:=pl
   exact ⟨o,e,hd⟩
  ·refine ⟨⟨o,I.nU p o hk,hc⟩,fun a e=>?_⟩
   cases e
   exact ⟨o,I.nU _ o hk,hd⟩
  ·have z:∃ o,s.heap.get? p=some o/\o.ExactDict:=by
    rcases hk with ⟨kvs,hk⟩ | ⟨kvs,hk⟩
    ·obtain ⟨_,_,_,_,o,_,_,e,ex,_⟩:=I.hok p _ hk
     exact ⟨o,e,ex⟩
    ·obtain ⟨_,_,_,_,o,_,_,e,ex,_⟩:=I.hok p _ hk
     exact ⟨o,e,ex⟩
   obtain ⟨o,e,ex⟩:=z
   refine ⟨⟨o,e,ex.1⟩,fun a e2=>?_⟩
   cases e2
   exact ⟨o,e,ex.2.1⟩
  ·obtain ⟨o,_,_,_,e,ex,_⟩:=I.hok p _ hk
   refine ⟨⟨o,e,ex.1⟩,fun a e2=>?_⟩
   cases e2
   exact ⟨o,e,ex.2.1⟩
 | _=>exact False.elim ty
noncomputable def LZ (K:PySem.W.Frag) (T:String) (r:V->List V->Hp->VK->Prop) (to:TE):TE:=fun σ H Q=>to σ H fun x H1=>Lb K T x H1/\r x [] H1 Q
noncomputable def Nq (K:PySem.W.Frag) (T:String) (r:V->List V->Hp->VK->Prop) (to:TE) (t:TA):TE:=fun σ H Q=>to σ H fun x H1=>Lb K T x H1/\t σ H1 fun xs H2=>r x xs H2 Q
variable {o e:Expr} {es:List Expr} {to:TE} {t:TA} {name:Str} {apos cpos:Pos} {T id:String} {r:V->List V->Hp->VK->Prop}
theorem HY (pa:PlainAttrs T) (slot:Slot T name id) (hty:typeOf (.builtin id)=pure (.type "method_descriptor")) (hm:Di X id r) (ho:PE X o to)
  (hbase:attributeBase o name X.env (eval o X.env)=eval o X.env:=by rfl) (hline:(apos.endLine == cpos.line)=true:=by rfl):PE X (.Call (.Attribute o name apos) [] [] cpos) (LZ X.K T r to):=by
 intro pins s σ H Q I h
 refine wpAny_Call_method0_late hbase hline (bO (ho pins s σ H _ I h) fun v s1 ⟨x,H1,I1,r1,ty,q1⟩=>?_)
 obtain ⟨h1,h2⟩:=Bk I1 r1 ty
 exact ⟨T,id,pa,slot,hty,h1,h2,Calls.callWith_builtin rfl (PySem.evalArgs_none (hm pins s1 σ H1 x [] v [] Q I1 r1 .nil q1))⟩
theorem Ky (pa:PlainAttrs T) (slot:Slot T name id) (hty:typeOf (.builtin id)=pure (.type "method_descriptor")) (hm:Di X id r) (ho:PE X o to) (ha:PA X (e::es) t)
  (hbase:attributeBase o name X.env (eval o X.env)=eval o X.env:=by rfl)
  (hfew:((backTo cpos (starEach (e::es) X.env)).all (fun x=>!x.1) && (backToKw cpos (keywordEach [] X.env)).all (fun x=>x.1.isSome)
   && decide ((e::es).length+([]:List Keyword).length+(if ([]:List Keyword).isEmpty then 0 else 1) < 30))=true:=by rfl)
  (hline:(apos.endLine == cpos.line)=true:=by rfl) (hs:starEach (e::es) X.env=(false,eval e X.env)::starEach es X.env:=by rfl) (hplain:(backTo cpos (starEach es X.env)).any (·.1)=false:=by rfl) :
  PE X (.Call (.Attribute o name apos) (e::es) [] cpos) (Nq X.K T r to t):=by
 intro pins s σ H Q I h
 refine wpAny_Call_method_late hbase hfew hline rfl (bO (ho pins s σ H _ I h) fun v s1 ⟨x,H1,I1,r1,ty,q1⟩=>?_)
 obtain ⟨h1,h2⟩:=Bk I1 r1 ty
 refine ⟨T,id,pa,slot,hty,h1,h2,?_⟩
 have hA:=ha cpos pins s1 σ H1 _ I1 q1
 rw [hs] at hA ⊢
 refine Calls.callWith_builtin (by show (false || (backTo cpos (starEach es X.env)).any (·.1))=false;rw [hplain] <;> rfl) (Calls.evalArgs_plain ?_)
 exact bO hA fun us s2 ⟨vs,H2,I2,r2,q2⟩=>hm pins s2 σ H2 x vs v us Q I2 r1 r2 q2
end
noncomputable def Mn (X:Cx) (id:String) (r:V->List V->Hp->VK->Prop):Prop:=
 ∀ (pins:List (Addr×Obj)) (s:Shared) (σ:St) (H:Hp) (x:V) (xs:List V) (v:Value) (us:List Value) (Q:VK),Inv X pins σ H s->RelV x v->Vals xs us->r x xs H Q ->
  wpAny (model X.prog X.w) X.A (call (.builtin id) (v::us)) (EP X pins σ Q) X.xe s
theorem Vals.one:∀ {x:V} {us:List Value},Vals [x] us->∃ u,us=[u]/\RelV x u
 | _,_,.cons r .nil=>⟨_,rfl,r⟩
theorem Vals.zero:∀ {us:List Value},Vals [] us->us=[]
 | _,.nil=>rfl
theorem Vals.dropLast {xs:List V} {us:List Value} (h:Vals xs us):Vals xs.dropLast us.dropLast:=by
 induction h with
 | nil=>exact .nil
 | cons r t ih=>
  cases t with
  | nil=>exact .nil
  | cons q t'=>exact .cons r ih
theorem Vals.reverse {xs:List V} {us:List Value} (h:Vals xs us):Vals xs.reverse us.reverse:=by
 induction h with
 | nil=>exact .nil
 | cons r t ih=>rw [List.reverse_cons,List.reverse_cons];exact Vals.append ih (.cons r .nil)
theorem Vals.rep {xs:List V} {us:List Value} (h:Vals xs us):∀ k:Nat,Vals (List.replicate k xs).flatten (List.replicate k us).flatten
 | 0=>.nil
 | k+1=>by
  rw [List.replicate_succ,List.replicate_succ,List.flatten_cons,List.flatten_cons]
  exact Vals.append h (Vals.rep h k)
theorem uh {α:Type} (l:List α):l.eraseIdx (l.length - 1)=l.dropLast:=by
 induction l with
 | nil=>rfl
 | cons a r ih=>
  cases r with
  | nil=>rfl
  | cons b r=>
   have e:(a::b::r).length - 1=((b::r).length - 1)+1:=by
    have h1:(a::b::r).length=r.length+2:=rfl
    have h2:(b::r).length=r.length+1:=rfl
    omega
   rw [e,List.eraseIdx_cons_succ,ih]
   all_goals rfl
theorem foldl_rep (its:List Value):∀ (k:Nat) (acc:List Value),
  List.foldl (fun x1 x2=>x1++x2) acc.toArray (List.replicate k its.toArray)=(acc++(List.replicate k its).flatten).toArray
 | 0,acc=>by simp
 | k+1,acc=>by
  have e:acc.toArray++its.toArray=(acc++its).toArray:=by simp
  have e2:(acc++its)++(List.replicate k its).flatten=acc++(List.replicate (k+1) its).flatten:=by
   rw [List.replicate_succ,List.flatten_cons,List.append_assoc]
  rw [<- e2,<- foldl_rep its k (acc++its),<- e,List.replicate_succ,List.foldl_cons]
section
variable {X:Cx} {pins:List (Addr×Obj)} {σ:St} {H:Hp} {s:Shared} {l b:Addr} {xs ys zs:List V}
theorem Inv.Gz {its its':List Value} {n:Nat} {f:Array Value->Array Value} {t':Nat} (I:Inv X pins σ H s) (hH:H l=some (.lst xs))
  (e:s.heap.get? l=some { cls:=.type "list",data:=.seq its.toArray n }) (hf:f its.toArray=its'.toArray) (hv:Vals ys its') (hz:ys.length<=sizeLine) :
  Inv X pins σ (upd H l (.lst ys)) { s with heap:=s.heap.update l (Obj.mapSeq f),toks:=t' }:=by
 have q:=PySem.IsL.update e f
 rw [hf] at q
 refine I.write (x:=l) (e:=l) (by rw [hH];exact trivial) (.inl rfl) (fun b' u hb hu=>(Heap.get?_update_other s.heap (Obj.mapSeq f) (Ne.symm hb)).trans hu) ⟨_,q⟩ ?_
 exact ⟨hz,its',_,hv,q⟩
theorem Inv.zO {its:List Value} {t':Nat} (I:Inv X pins σ H s) (hv:Vals ys its) (hz:ys.length<=sizeLine) :
  Inv X pins σ (upd H s.heap.objs.size (.lst ys)) { s with heap:=s.heap.push { cls:=.type "list",data:=.seq its.toArray },toks:=t' }:=
 I.laid (fun _ _ q=>Heap.get?_push_of_some _ q) (Nat.le_refl _) ⟨hz,its,0,hv,Heap.get?_push_size _ rfl⟩
theorem Inv.fresh (I:Inv X pins σ H s):H s.heap.objs.size=none:=I.hok.fresh (Nat.le_refl _)
theorem Inv.uD (I:Inv X pins σ H s) (hH:H l=some (.lst xs)):xs.length<=sizeLine/\∃ (its:List Value) (n:Nat),Vals xs its/\xs.length=its.length/\s.heap.get? l=some { cls:=.type "list",data:=.seq its.toArray n }:=by
 obtain ⟨z,its,n,r,e⟩:=I.hok l _ hH
 exact ⟨z,its,n,r,r.length,e⟩
theorem sf {n:Nat} (h:n<=sizeLine):Builtin.List.listTooLong n=false:=by
 unfold Builtin.List.listTooLong
 exact decide_eq_false (by omega)
end
section
variable {X:Cx}
noncomputable def DY:V->List V->Hp->VK->Prop:=fun x vs H Q=>∃ l xs y,x=.ref l/\vs=[y]/\H l=some (.lst xs)/\xs.length < sizeLine/\Q .non (upd H l (.lst (xs++[y])))
theorem j8:Mn X "list.append" DY:=by
 intro pins s σ H x vs v us Q I rx rv h
 obtain ⟨l,xs,y,rfl,rfl,hH,hz,q⟩:=h
 cases rx
 obtain ⟨u,rfl,ru⟩:=rv.one
 obtain ⟨z,its,n,r,hl,e⟩:=I.uD hH
 refine call_meets F.slot_list_append ⟨_,e,rfl⟩ F.entry_list_append (F.args_list_append_2 _ _) (PySem.list_append l its.toArray n u (by rw [List.size_toArray];omega)) ⟨e,?_⟩
 refine ⟨.non,_,I.Gz (its':=its++[u]) hH e (by simp) (r.append (.cons ru .nil)) ?_,rfl,q⟩
 rw [List.length_append,List.length_singleton]
 omega
noncomputable def DU:V->List V->Hp->VK->Prop:=fun x vs H Q=>∃ l b xs zs,x=.ref l/\vs=[.ref b]/\H l=some (.lst xs)/\H b=some (.lst zs)/\xs.length+zs.length<=sizeLine/\Q .non (upd H l (.lst (xs++zs)))
theorem yx:Mn X "list.extend" DU:=by
 intro pins s σ H x vs v us Q I rx rv h
 obtain ⟨l,b,xs,zs,rfl,rfl,hH,hB,hz,q⟩:=h
 cases rx
 obtain ⟨u,rfl,ru⟩:=rv.one
 cases ru
 obtain ⟨z,its,n,r,hl,e⟩:=I.uD hH
 obtain ⟨z2,its2,n2,r2,hl2,e2⟩:=I.uD hB
 have hsz:its.toArray.size+its2.toArray.size<=sizeLine:=by rw [List.size_toArray,List.size_toArray];omega
 have hlong:¬ (!its.toArray.isEmpty && Builtin.List.listTooLong (its.toArray.size+its2.toArray.size))=true:=by
  rw [sf hsz,Bool.and_false]
  exact Bool.false_ne_true
 refine call_meets F.slot_list_extend ⟨_,e,rfl⟩ F.entry_list_extend (F.args_list_extend_2 _ _)
  (AutoSeq1.list_extend_list_list_0 l its.toArray n b its2.toArray n2 hlong (by rw [List.size_toArray];omega) (by omega)) ⟨e,e2,?_⟩
 refine ⟨.non,_,I.Gz (its':=its++its2) hH e (by simp) (r.append r2) ?_,rfl,q⟩
 rw [List.length_append]
 omega
noncomputable def Mt:V->List V->Hp->VK->Prop:=fun x vs H Q=>∃ l xs y,x=.ref l/\vs=[]/\H l=some (.lst xs)/\xs[xs.length - 1]?=some y/\Q y (upd H l (.lst xs.dropLast))
theorem Ji:Mn X "list.pop" Mt:=by
 intro pins s σ H x vs v us Q I rx rv h
 obtain ⟨l,xs,y,rfl,rfl,hH,hy,q⟩:=h
 cases rx
 have hus:=rv.zero
 subst hus
 obtain ⟨z,its,n,r,hl,e⟩:=I.uD hH
 obtain ⟨u,hu,ru⟩:=r.get hy
 have hy':its.toArray[its.toArray.size - 1]?=some u:=by
  show its.toArray[its.length - 1]?=some u
  rw [<- Array.getElem?_toList,<- hl]
  exact hu
 refine call_meets F.slot_list_pop ⟨_,e,rfl⟩ F.entry_list_pop (F.args_list_pop_1 _) (MeetsSeq.list_pop_last l its.toArray n u hy' (by rw [List.size_toArray];omega)) ⟨e,?_⟩
 refine ⟨y,_,I.Gz (its':=its.dropLast) hH e ?_ r.dropLast ?_,ru,q⟩
 ·show its.toArray.eraseIdxIfInBounds (its.toArray.size - 1)=its.dropLast.toArray
  rw [List.size_toArray,List.eraseIdxIfInBounds_toArray,uh]
 ·rw [List.length_dropLast]
  omega
noncomputable def LV:R2:=fun x y H Q=>∃ l b xs zs,x=.ref l/\y=.ref b/\H l=some (.lst xs)/\H b=some (.lst zs)/\xs.length+zs.length<=sizeLine/\∀ p,H p=none->Q (.ref p) (upd H p (.lst (xs++zs)))
theorem G8:d7 X (binaryOp .Add) LV:=by
 intro pins s σ H x y v u Q I rx ry h
 obtain ⟨l,b,xs,zs,rfl,rfl,hH,hB,hz,q⟩:=h
 cases rx
 cases ry
 obtain ⟨z,its,n,r,hl,e⟩:=I.uD hH
 obtain ⟨z2,its2,n2,r2,hl2,e2⟩:=I.uD hB
 refine PySem.P.add_list e e2 ?_ (by rw [List.size_toArray,List.size_toArray];omega)
 have ea:its.toArray++its2.toArray=(its++its2).toArray:=by simp
 rw [ea]
 exact ⟨.ref _,_,I.zO (t':=s.toks) (r.append r2) (by rw [List.length_append];omega),rfl,q _ I.fresh⟩
noncomputable def LB:R2:=fun x y H Q=>∃ l k xs,x=.ref l/\y=.int k/\H l=some (.lst xs)/\-(2 ^ 63)<=k/\k < 2 ^ 63/\xs.length * k.toNat<=sizeLine /\
 ∀ p,H p=none->Q (.ref p) (upd H p (.lst (List.replicate k.toNat xs).flatten))
theorem len_rep {α:Type} (xs:List α) (k:Nat):(List.replicate k xs).flatten.length=k * xs.length:=by
 induction k with
 | zero=>simp
 | succ k ih=>rw [List.replicate_succ,List.flatten_cons,List.length_append,ih,Nat.succ_mul,Nat.add_comm]
theorem Hg:d7 X (binaryOp .Mult) LB:=by
 intro pins s σ H x y v u Q I rx ry h
 obtain ⟨l,k,xs,rfl,rfl,hH,h1,h2,hz,q⟩:=h
 cases rx
 obtain ⟨t,rfl⟩:=ry
 obtain ⟨z,its,n,r,hl,e⟩:=I.uD hH
 have hlen:its.toArray.size * k.toNat<=sizeLine:=by rw [List.size_toArray,<- hl];exact hz
 have hcap:¬ its.toArray.size * k.toNat > (2 ^ 63 - 1) / 8:=by
  have:(sizeLine:Nat)<=(2 ^ 63 - 1) / 8:=by decide
  omega
 have hfit:¬ (!Builtin.List.listFitsIndex k)=true:=by
  rw [fitsIndex_both h1 h2]
  exact Bool.false_ne_true
 have hlong:¬ Builtin.List.listTooLong (its.toArray.size * k.toNat)=true:=by
  rw [sf hlen]
  exact Bool.false_ne_true
 have hnew:List.foldl (fun x1 x2=>x1++x2) #[] (List.replicate (if its.toArray.isEmpty=true then 0 else k.toNat) its.toArray)=(List.replicate k.toNat its).flatten.toArray:=by
  have f0:∀ m:Nat,List.foldl (fun x1 x2=>x1++x2) #[] (List.replicate m its.toArray)=(List.replicate m its).flatten.toArray:=fun m=>by
   have:=foldl_rep its m []
   rw [List.nil_append] at this
   exact this
  rw [f0]
  cases its with
  | nil=>simp
  | cons a r'=>rw [if_neg (by simp)]
 refine wpAny_binaryOp_repeat_ref (T := "list") (U := "int") (by decide) ⟨_,e,rfl⟩ (fun s'=>typeIs_int s' k t) noFill_list_mul F.fills_int_mul F.slot_int_rmul repeat_list F.slot_int_index.lookup
  (call_meets F.slot_int_rmul (typeIs_int s k t) F.entry_int_rmul (F.args_int_rmul_2 _ _) (int___rmul___int_list k t l its.toArray n)
   ⟨e,rfl,⟨_,e,rfl⟩,call_meets F.slot_list_mul ⟨_,e,rfl⟩ F.entry_list_mul (F.args_list_mul_2 _ _) (AutoListH.list___mul___list_int_3 l its.toArray n k t hfit hcap hlong) ⟨e,?_⟩⟩)
 rw [hnew]
 exact ⟨.ref _,_,I.zO (t':=s.toks) (r.rep k.toNat) (by rw [len_rep,Nat.mul_comm];exact hz),rfl,q _ I.fresh⟩
end
section
variable {prog:Program} {w:World} {A:Around} {E:Value->Shared->Prop} {s:Shared}
end
section
variable {X:Cx}
end
end L2
namespace Att
open PySem PySem.W PySem.Calls PyProof.Rows
theorem kR {P:Params} {h:Heap}:∀ (ns:List Int) (vs:List Value),WellAll P h vs (ns.map WData.int)->IntsAre vs ns:=by
 intro ns
 induction ns with
 | nil=>
  intro vs w
  rw [List.map_nil] at w
  cases w
  exact .nil
 | cons n ns ih=>
  intro vs w
  rw [List.map_cons] at w
  cases w with
  | cons a b=>
   cases a
   exact .cons _ _ (ih _ b)
theorem yz {l:OpenLaw} {n:Nat} (hn:l.most=some n) {P:Params} {h:Heap} {args:List WData} {vals:List Value}
  (hpre:l.row.toRowW.claim.pre args=true) (hwl:WellAll P h vals args) :
  ∃ a vs ns,vals=[Value.ref a]/\args=[WData.list (ns.map WData.int)]/\h.get? a=some { cls:=.type "list",data:=.seq vs.toArray }/\IntsAre vs ns/\ns.length<=n:=by
 have hsh:WShape.hasAll [] args [.list .int]=true:=(pre_splitW hpre).1
 have hc:l.pre.holds [] { args:=args }=true:=(pre_splitW hpre).2
 obtain ⟨d,r,rfl,h1,h2⟩:=hasAllW_cons hsh
 obtain rfl:=hasAllW_nil h2
 obtain ⟨xs,rfl,h3⟩:=hasW_list h1
 obtain ⟨ns,rfl⟩:=items_int h3
 have hlen:ns.length<=n:=by
  unfold OpenLaw.pre at hc
  have h4:(WTm.not (.lt (.lit (.int (n:Int))) (.len (.arg 0)))).holds [] { args:=[.list (ns.map .int)] }=true:=by
   have h4:=(holds_andW hc).1
   rw [hn] at h4
   exact h4
  have h5:=condW_of h4 (w_not (w_lt w_lit (w_len_list (w_arg rfl))))
  rw [List.length_map] at h5
  refine Nat.le_of_not_lt fun q=>?_
  have q':(n:Int) < ((ns.length:Nat):Int):=by omega
  first
   | (rw [decide_eq_true q'] at h5;exact absurd h5 (by decide))
   | (simp at h5;omega)
 cases hwl with
 | cons w1 w2=>
  cases w2
  cases w1 with
  | list ho hall=>exact ⟨_,_,ns,rfl,rfl,ho,kR ns _ hall,hlen⟩
theorem yh (l:OpenLaw) (args:List WData):l.row.toRowW.claim.post args (.bool true) args=true:=
 postW_of (r:=l.row.toRowW) (X:=(true == true))
  (show WShape.has [] (.bool true) .bool=true by first | rfl | decide | simp [WShape.has,WShape.arms,WShape.armsAll])
  (show (WTm.eq .res (.lit (.bool true))).value [] { args:=args,res:=some (.bool true),after:=args }=some (.bool (true == true)) from w_eq_bool (w_res rfl) w_lit) rfl
theorem rW {l:OpenLaw} {n:Nat} {q:Program} {loose:List Str} {XP:(Str->Option Value)->Heap->Prop} {YP:World->Heap->Prop} {d:DefRec}
  (hn:l.most=some n) (hdf:d.params.defaults=[])
  (call:∀ (w:World) (s₀ s₁:Shared) (mg mb:Str->Option Value) (fa:Addr) (o:Obj) (pm cd doc:Value) (a:Addr) (vs:List Value) (ns:List Int),
   Ground q loose [] XP w s₀ mg mb s₁.heap->YP w s₁.heap ->
   s₁.heap.get? fa=some o->o.data=.func (docDef d.name d.params d.body d.scope pm cd doc)->s₁.heap.CodeRec cd d.name->mg d.name=some (.ref fa) ->
   s₁.heap.get? a=some { cls:=.type "list",data:=.seq vs.toArray }->IntsAre vs ns->ns.length<=n->s₁.gens=#[] ->
   codeAny (model l.prog w) callerA (.call (.ref fa) ⟨[.ref a],[]⟩) (fun r s'=>r=.ok (.ret (.bool true))/\OldK s₁.heap s'.heap/\s'.os=s₁.os/\AllBare s'.gens) s₁) :
  WalkO q loose XP YP l.row.toRowW d [] (fun f vs=>PySem.call f vs):=by
 intro w s₀ s₁ mg mb G Y fa o pm cd doc dV kV ho hd hcd hD hmg hg args vals as hpre hlay hrd hwl hlo
 obtain rfl:dV=.none:=Dflts.none hD hdf
 obtain rfl:kV=.none:=Dflts.noKw hD
 obtain ⟨a,vs,ns,rfl,rfl,hobj,hints,hlen⟩:=yz hn hpre hwl
 refine enter_call (codeAny_mono (call w s₀ s₁ mg mb fa o pm cd doc a vs ns G Y ho (fd_plain hd) hcd hmg hobj hints hlen hg) fun r s' hq=>?_)
 obtain ⟨rfl,h2,h3,h4⟩:=hq
 exact ⟨.inl ⟨.bool true,.bool true,[],rfl,fun _=>rfl,.bool true,yh l _,fun _=>⟨List.Pairwise.nil,fun _ hm=>(nomatch hm)⟩⟩,h2,h3,h4⟩
section
variable {prog:Program} {w:World} {A:Around} {E:Value->Shared->Prop} {s:Shared} {K:Frag}
end
end Att
namespace L2
open PySem PySem.Spec PyProof.Rows
theorem j0:∀ {vs:List Value} {ns:List Int},IntsAre vs ns->Vals (ns.map V.int) vs
 | _,_,.nil=>.nil
 | _,_,.cons n t h=>.cons ⟨t,rfl⟩ (j0 h)
noncomputable def Eu (H:Hp):Prop:=∀ b,H b=none\/∃ o xs,H b=some (.frz o (.lst xs))
theorem zo {P:Program} {w:World} {K:PySem.W.Frag} {mg mb:Str->Option Value} {CX:ze} {k:Nat} {fa a:Addr} {fd:FuncData} {x:Str} {sp:Sp} {s₁:Shared} {vs:List Value} {ns:List Int}
  (KX:K.In s₁.heap) (hns:s₁.heap.Ns mainGlobals mg) (hb:s₁.heap.Ns builtinsNs mb) (hbb:∀ x:Str,x ≠ "__name__" -> mb x=bootBuiltins x) (hlim:s₁.heap.NoLimit) (hg:s₁.gens=#[])
  (ha:s₁.heap.get? a=some { cls:=.type "list",data:=.seq vs.toArray }) (hi:IntsAre vs ns) (hl:ns.length<=sizeLine) (hr:Room k callerA)
  (F:∀ base:Heap,K.In base->base.Ns mainGlobals mg->FnOk P w K mg base CX k fa fd [x] sp) (hbind:∀ (s:Shared) (u:Value),BindsTo s fd ⟨[u],[]⟩ [(x,u)])
  (hsp:∀ H:Hp,Eu H->dQ K H a (ns.map V.int)->sp [.ref a] H (fun v _=>v=.bl true) fun _ _ _=>False)
  (hCX:∀ H e s',CX [] H s₁ (fun _ _ _=>False) e s'->False) :
  codeAny (model P w) callerA (.call (.ref fa) ⟨[.ref a],[]⟩) (fun r s'=>r=.ok (.ret (.bool true))/\OldK s₁.heap s'.heap/\s'.os=s₁.os/\AllBare s'.gens) s₁:=by
 have rv:=j0 hi
 have lenV:=hi.length
 have core:∀ H:Hp,Eu H->dQ K H a (ns.map V.int)->iU P w H s₁.heap->(∀ b,H b≠none->b=a)->(H a≠none->K.lookup a=none) ->
   codeAny (model P w) callerA (.call (.ref fa) ⟨[.ref a],[]⟩) (fun r s'=>r=.ok (.ret (.bool true))/\OldK s₁.heap s'.heap/\s'.os=s₁.os/\AllBare s'.gens) s₁:=by
  intro H hO hS hok hA hK
  have base_of:∀ {b:Addr} {o:Obj},s₁.heap.get? b=some o->H b=none->(pM s₁.heap H).get? b=some o:=fun e n=>Cz e n
  have noA:∀ {b:Addr} {o:Obj} {es:Array DictEntry} {ep:Nat},s₁.heap.get? b=some o->o.data=.dict es ep->H b=none:=fun {b o es ep} e d=>by
   cases q:H b with
   | none=>rfl
   | some u=>
    have e':b=a:=hA b (by rw [q];simp)
    subst e'
    rw [ha] at e;cases e
    have d':Data.seq vs.toArray _=Data.dict es ep:=d
    cases d'
  have nsK:∀ {b:Addr} {m:Str->Option Value},s₁.heap.Ns b m->(pM s₁.heap H).Ns b m:=fun {b m} ⟨o,es,ep,e,d,r⟩=>⟨o,es,ep,base_of e (noA e d),d,r⟩
  have hKb:K.In (pM s₁.heap H):=fun b o e=>base_of (KX b o e) (by
   cases q:H b with
   | none=>rfl
   | some u=>
    have e':b=a:=hA b (by rw [q];simp)
    subst e'
    rw [hK (by rw [q];simp)] at e;cases e)
  have hM:Mod K mg (pM s₁.heap H):=⟨hKb,nsK hns,⟨mb,nsK hb,hbb⟩,let ⟨mc,h1,h2⟩:=hlim;⟨mc,nsK h1,h2⟩⟩
  have e0:Env0 P w K mg (pM s₁.heap H) callerA [] s₁ H:=⟨rfl,hM,fun b o e=>ER e,Nat.le_of_eq (yK _ _),trivial,fun b hb=>absurd (show b∈([]:List Addr) from hb) (by simp),hok,.of_eq hg⟩
  refine codeAny_mono ((F _ hKb (nsK hns)).run callerA [] s₁ H ⟨[.ref a],[]⟩ [.ref a] [.ref a] _ _ hr e0 (hbind s₁ (.ref a)) (.cons rfl .nil) (hsp H hO hS)) fun r s' h=>?_
  cases r with
  | error e=>exact (hCX H e s' h).elim
  | ok fl=>
   cases fl with
   | next=>exact False.elim h
   | brk=>exact False.elim h
   | cont=>exact False.elim h
   | ret u=>
    obtain ⟨v,H',os,bare,un,hok',r',q⟩:=h
    have q':v=.bl true:=q
    subst q'
    obtain rfl:u=Value.bool true:=r'
    refine ⟨rfl,OldK.of_keep fun b o e=>?_,os,bare⟩
    cases q:H b with
    | none=>exact un.keep b o e q (by intro z;exact absurd (show b∈([]:List Addr) from z) (by simp)) (by simp)
    | some u=>
     rcases hO b with z | ⟨ob,xs,z⟩
     ·rw [q] at z;cases z
     ·have z2:=un.frzs b ob _ z
      obtain ⟨e1,_⟩:=hok b _ z
      obtain ⟨e2,_⟩:=hok' b _ z2
      rw [e] at e1;cases e1
      exact e2
 cases hk:K.lookup a with
 | some o=>
  have e:=KX a o hk
  rw [ha] at e
  cases e
  refine core (fun _=>none) (fun _=>.inl rfl) (.inr ⟨_,vs.toArray,_,hk,rfl,rfl,rfl,by rw [List.size_toArray,lenV];exact hl,by simpa using rv⟩) (fun b u z=>by have z':(none:Option HO)=some u:=z;cases z') (fun b z=>absurd rfl z) fun z=>absurd rfl z
 | none=>
  refine core (fun b=>if b=a then some (.frz { cls:=.type "list",data:=.seq vs.toArray } (.lst (ns.map V.int))) else none) (fun b=>?_) (.inl (.inr ⟨{ cls:=.type "list",data:=.seq vs.toArray },if_pos rfl⟩)) (fun b u z=>?_) (fun b z=>?_) fun _=>hk
  ·by_cases hb:b=a
   ·exact .inr ⟨_,_,if_pos hb⟩
   ·exact .inl (if_neg hb)
  ·by_cases hb:b=a
   ·have z':=(if_pos hb).symm.trans z
    cases z'
    subst hb
    exact ⟨ha,by rw [List.length_map];exact hl,vs,_,rv,ha⟩
   ·have z':=(if_neg hb).symm.trans z
    cases z'
  ·by_cases hb:b=a
   ·exact hb
   ·exact absurd (if_neg hb) z
theorem ED {l:PySem.W.OpenLaw} {n k:Nat} {q:Program} {loose:List Str} {XP:(Str->Option Value)->Heap->Prop} {YP:World->Heap->Prop} {d:DefRec} {K:Params->PySem.W.Frag} {CX:World->ze} {sp:World->Sp} {x:Str}
  (hn:l.most=some n) (hn2:n<=sizeLine) (hdf:d.params.defaults=[]) (hr:Room k callerA)
  (hY:∀ (w:World) (h:Heap),YP w h->(K w.params).In h)
  (F:∀ (w:World) (mg:Str->Option Value) (fa:Addr) (h:Heap),(K w.params).In h->h.Ns mainGlobals mg->mg d.name=some (.ref fa) ->
   ∃ fd:FuncData,(∀ (s:Shared) (u:Value),BindsTo s fd ⟨[u],[]⟩ [(x,u)]) /\
    ∀ base:Heap,(K w.params).In base->base.Ns mainGlobals mg->FnOk l.prog w (K w.params) mg base (CX w) k fa fd [x] (sp w))
  (hsp:∀ (w:World) (H:Hp) (a:Addr) (ns:List Int),ns.length<=n->Eu H->dQ (K w.params) H a (ns.map V.int)->sp w [.ref a] H (fun v _=>v=.bl true) fun _ _ _=>False)
  (hCX:∀ (w:World) (H:Hp) (s:Shared) (e:Value) (s':Shared),CX w [] H s (fun _ _ _=>False) e s'->False) :
  PySem.W.WalkO q loose XP YP l.row.toRowW d [] (fun f vs=>PySem.call f vs):=by
 refine Att.rW hn hdf fun w s₀ s₁ mg mb fa o pm cd doc a vs ns G Y ho hd hcd hmg hobj hints hlen hg=>?_
 have KX:=hY w _ Y
 obtain ⟨fd,hb,hF⟩:=F w mg fa _ KX G.T.g hmg
 exact zo KX G.T.g G.T.b G.T.builtins G.T.nolimit hg hobj hints (Nat.le_trans hlen hn2) hr hF hb (fun H hO hS=>hsp w H a ns hlen hO hS) fun H e s'=>hCX w H s₁ e s'
noncomputable def bu (s:Stmt):Arguments:=match s with
 | .FunctionDef _ a _ _ _ _ _ _ _ _=>a
 | _=>{ posonlyargs:=[],args:=[],vararg:=none,kwonlyargs:=[],kw_defaults:=[],kwarg:=none,defaults:=[] }
noncomputable def a_ (s:Stmt):List Stmt:=match s with
 | .FunctionDef _ _ b _ _ _ _ _ _ _=>b
 | _=>[]
noncomputable def aF (s:Stmt):Scope:=match s with
 | .FunctionDef _ _ _ _ _ _ sc _ _ _=>sc
 | _=>{ kind:=.function,names:=[],isGenerator:=false,isCoroutine:=false }
noncomputable abbrev kJ:ze:=fun _ _ _ _ _ _=>False
noncomputable abbrev E0:XK:=fun _ _ _=>False
theorem Ko {X:Cx}:Passes kJ X E0:=fun _ _ _ _ _ _ _ h=>h.elim
structure Fun (K:PySem.W.Frag) (x qual:Str) (st:Stmt) (f:Addr) (fd:FuncData):Prop where
 ex:∃ (oc:Value) (od:Option Addr) (kV doc pm:Value) (an:Option Addr) (cdv ct:Value) (osl:Array (Option Value)),
  fd=PySem.W.fnOf x qual (bu st) (a_ st) (aF st) .none kV doc pm an cdv ct/\K.lookup f=some ⟨oc,od,.func fd,osl⟩/\PySem.W.codeIn K cdv qual=true
 kp:PySem.W.keepIn K (.ref f)=true
section
variable {P:Program} {w:World} {K:PySem.W.Frag} {mg:Str->Option Value} {base:Heap}
theorem Fun.ok {x qual:Str} {st:Stmt} {f:Addr} {fd:FuncData} {N ps:List Str} {k:Nat} {sp:Sp} (F:Fun K x qual st f fd) (S:FnScope N ps (aF st)) (len:∀ vs H Q E,sp vs H Q E->vs.length=ps.length)
  (hbody:∀ (cdv:Value) (A:Around) (outer:List Env) (s:Shared) (H:Hp) (vs:List V) (Q:VK) (E:XK),Room k (A.deeper (envOfC qual (aF st) s.heap.objs.size f cdv))->sp vs H Q E ->
   ∃ t,oF (kP kJ P w K mg base N qual (aF st) f cdv A outer s H E).KH (a_ st) t/\t { nx:=fun _ H'=>Q .non H',rt:=Q } (start N vs) H):FnOk P w K mg base kJ (k+1) f fd ps sp:=by
 obtain ⟨oc,od,kV,doc,pm,an,cdv,ct,osl,rfl,lk,hcd⟩:=F.ex
 refine FJ lk hcd S len fun A outer s H vs Q E hr hsp=>?_
 obtain ⟨t,h,q⟩:=hbody cdv A outer s H vs Q E hr hsp
 exact ⟨t,h.KH,q⟩
theorem Fun.binds {x qual:Str} {st:Stmt} {f:Addr} {fd:FuncData} {ps:List Str} (F:Fun K x qual st f fd)
  (h:∀ (kV doc pm:Value) (an:Option Addr) (cdv ct:Value) (us:List Value),us.length=ps.length->bindArgs (PySem.W.fnOf x qual (bu st) (a_ st) (aF st) .none kV doc pm an cdv ct) ⟨us,[]⟩=pure (ps.zip us)):Binds K fd ps []:=by
 obtain ⟨oc,od,kV,doc,pm,an,cdv,ct,osl,rfl,lk,hcd⟩:=F.ex
 exact .all (h kV doc pm an cdv ct)
theorem bV {x qual:Str} {st:Stmt} {f:Addr} {oc:Value} {od an:Option Addr} {osl:Array (Option Value)} {kV doc pm cdv ct:Value} (l:K.lookup f=some ⟨oc,od,.func (PySem.W.fnOf x qual (bu st) (a_ st) (aF st) .none kV doc pm an cdv ct),osl⟩)
  (c:PySem.W.codeIn K cdv qual=true) (k:PySem.W.keepIn K (.ref f)=true):Fun K x qual st f (PySem.W.fnOf x qual (bu st) (a_ st) (aF st) .none kV doc pm an cdv ct):=⟨⟨oc,od,kV,doc,pm,an,cdv,ct,osl,rfl,l,c⟩,k⟩
end
section
variable {X:Cx}
theorem pv (i:Nat) {x:Str} {pos:Pos} (hN:X.N[i]?=some x:=by rfl) (hv:Jv X.env.scope x:=by first | exact Or.inl rfl | exact Or.inr (Or.inl rfl) | exact Or.inr (Or.inr rfl)) (hd:(x == ("__debug__" : Str))=false:=by decide)
  (hcd:(x == ("__classdict__" : Str))=false:=by decide):PE X (.Name x pos) (KC i):=zP hN hv hd hcd
end
set_option maxHeartbeats 4000000
noncomputable def Dk (σ:St):Option Nat->Option V
 | some j=>(σ[j]?).getD none
 | none=>none
noncomputable def iS (env:Env):List (Str×NameKind)->List (Str×Addr)->List (Str×Addr)
 | [],cs=>cs
 | (n,k)::r,cs=>iS env r (if k == .free then (n,(env.cells.lookup n).getD 0)::cs else cs)
theorem mT {scope:Scope} {env:Env} (h:∀ y∈scope.names,y.2=.free->∃ c,env.cells.lookup y.1=some c):closureFor scope env=pure (iS env scope.names []):=by
 have key:∀ (l:List (Str×NameKind)) (cs:List (Str×Addr)),(∀ y∈l,y.2=.free->∃ c,env.cells.lookup y.1=some c) ->
   (forIn l cs (fun (x:Str×NameKind) (r:List (Str×Addr))=>(match x with
    | (name,kind)=>if (kind == NameKind.free)=true then (do let c <- cellOf env name;pure (ForInStep.yield ((name,c)::r))) else pure (ForInStep.yield r):Sem (ForInStep (List (Str×Addr))))))=(pure (iS env l cs):Sem (List (Str×Addr))):=by
  intro l
  induction l with
  | nil=>intro cs _;rfl
  | cons y r ih=>
   intro cs hl
   obtain ⟨n,k⟩:=y
   rw [List.forIn_cons]
   by_cases hk:k=.free
   ·subst hk
    obtain ⟨c,hc⟩:=hl (n,.free) List.mem_cons_self rfl
    have e1:cellOf env n=pure c:=by
     unfold cellOf
     rw [hc]
    simp only [beq_self_eq_true,if_true,e1,pure_bind]
    rw [ih _ (fun z hz=>hl z (List.mem_cons_of_mem _ hz))]
    simp only [iS,beq_self_eq_true,if_true,hc,Option.getD_some]
   ·have hb:(k == NameKind.free)=false:=by simpa using hk
    simp only [hb,Bool.false_eq_true,if_false,pure_bind]
    rw [ih _ (fun z hz=>hl z (List.mem_cons_of_mem _ hz))]
    simp only [iS,hb,Bool.false_eq_true,if_false]
 have:=key scope.names [] h
 exact (congrArg (fun z=>z >>= fun cs=>(pure cs:Sem (List (Str×Addr)))) this).trans (pure_bind _ _)
theorem m_:∀ {l:List (Str×NameKind)} {x:Str} {k:NameKind},l.lookup x=some k->(x,k)∈l
 | [],_,_,h=>nomatch h
 | (n,k')::r,x,k,h=>by
  rw [List.lookup_cons] at h
  cases hx:x == n with
  | true=>
   rw [hx] at h
   have e:x=n:=by simpa using hx
   subst e
   cases h
   exact List.mem_cons_self
  | false=>rw [hx] at h;exact List.mem_cons_of_mem _ (m_ h)
theorem pF {env:Env} {x:Str} {c:Addr}:∀ {l:List (Str×NameKind)} {cs:List (Str×Addr)},(∀ y∈l,y.2=.free->∃ c,env.cells.lookup y.1=some c)->(iS env l cs).lookup x=some c->env.cells.lookup x=some c\/cs.lookup x=some c
 | [],cs,_,h=>.inr h
 | (n,k)::r,cs,hl,h=>by
  have h':=pF (l:=r) (fun z hz=>hl z (List.mem_cons_of_mem _ hz)) h
  rcases h' with h' | h'
  ·exact .inl h'
  ·by_cases hk:k=.free
   ·subst hk
    simp only [beq_self_eq_true,if_true] at h'
    obtain ⟨c',hc⟩:=hl (n,.free) List.mem_cons_self rfl
    rw [hc,Option.getD_some,List.lookup_cons] at h'
    cases hx:x == n with
    | true=>
     rw [hx] at h'
     have e:x=n:=by simpa using hx
     subst e
     left
     rw [hc];exact h'
    | false=>rw [hx] at h';exact .inr h'
   ·have hb:(k == NameKind.free)=false:=by simpa using hk
    simp only [hb,Bool.false_eq_true,if_false] at h'
    exact .inr h'
theorem oE {env:Env} {x:Str}:∀ {l:List (Str×NameKind)} {cs:List (Str×Addr)},(cs.lookup x).isSome=true->((iS env l cs).lookup x).isSome=true
 | [],cs,h=>h
 | (n,k)::r,cs,h=>by
  show ((iS env r _).lookup x).isSome=true
  refine oE (l:=r) ?_
  by_cases hk:(k == NameKind.free)=true
  ·rw [if_pos hk,List.lookup_cons]
   cases hx:x == n with
   | true=>rfl
   | false=>exact h
  ·rw [if_neg hk];exact h
theorem lT {env:Env} {x:Str}:∀ {l:List (Str×NameKind)} {cs:List (Str×Addr)},(x,NameKind.free)∈l->((iS env l cs).lookup x).isSome=true
 | [],_,h=>nomatch h
 | (n,k)::r,cs,h=>by
  rcases List.mem_cons.mp h with e | h
  ·cases e
   show ((iS env r _).lookup x).isSome=true
   refine oE (l:=r) ?_
   rw [if_pos (by rfl),List.lookup_cons]
   simp
  ·exact lT (l:=r) h
noncomputable def cO (X:Cx) (scope:Scope) (N:List Str) (C:Addr) (s₀:Shared) (H₀:Hp) (ex:List Addr):Cx where
 prog:=X.prog
 w:=X.w
 K:=X.K
 mg:=X.mg
 base:=X.base
 A:=X.A
 N:=N
 s₀:=s₀
 H₀:=H₀
 env:=compEnvC scope (iS X.env scope.names []) C X.env
 outer:=X.stack
 stack:=X.stack
 ex:=ex
 fn:=fun _=>false
 calm:=X.calm
 pn:=[]
 xe:=fun _ _=>False
structure CpScope (X:Cx) (scope:Scope) (N:List Str) (cap:List (Option Nat)):Prop where
 kind:scope.kind=.function
 nocell:∀ y∈scope.names,y.2≠.cell
 nm:∀ y∈scope.names,y.2=.local->scope.names.lookup y.1=some .local
 fr:∀ y∈scope.names,y.2=.free->X.env.kindOf y.1=some .cell\/X.env.kindOf y.1=some .free
 rl:∀ y,((relabel scope X.env).names.lookup y=some .cell\/(relabel scope X.env).names.lookup y=some .free)->(y,NameKind.free)∈scope.names
 len:cap.length=N.length
 nolf:∀ x,(x,NameKind.free)∈scope.names->scope.names.lookup x≠some .local
 cp:∀ (i j:Nat) (x:Str),N[i]?=some x->cap[i]?=some (some j)->X.N[j]?=some x/\(x,NameKind.free)∈scope.names
theorem zm {X:Cx} {scope:Scope} {N:List Str} {cap:List (Option Nat)} {pins:List (Addr×Obj)} {σ:St} {H:Hp} {s:Shared} {fp:List Addr} {h₁:Heap} {m:Str->Option Value} {tk:Nat} (S:CpScope X scope N cap) (I:Inv X pins σ H s)
  (hf:∀ b∈fp,iT X pins H b) (ho:∀ b∈fp,∃ o,s.heap.get? b=some o) (hn:h₁.Ns s.heap.objs.size m) (hk:∀ b o,s.heap.get? b=some o->h₁.get? b=some o) :
  Inv (cO X scope N s.heap.objs.size s H fp) [] (cap.map (Dk σ)) H { s with heap:=h₁,toks:=tk }:=by
 have hfree:∀ y∈scope.names,y.2=.free->∃ c,X.env.cells.lookup y.1=some c:=fun y hy e=>I.ok.has _ (S.fr y hy e)
 have lk:∀ x c,(iS X.env scope.names []).lookup x=some c->X.env.cells.lookup x=some c:=fun x c e=>by
  rcases pF hfree e with z | z
  ·exact z
  ·cases z
 have lt:∀ b o,s.heap.get? b=some o->b≠s.heap.objs.size:=fun b o e=>Nat.ne_of_lt (Heap.lt_size e)
 refine ⟨⟨I.ok.mod,?_,I.ok.glob,I.ok.blt,Nat.le_refl _,?_,?_,?_,I.ok.hd,I.ok.frames,.inl rfl,?_,I.bs,Nat.le_trans I.ok.bsz I.sz,?_,?_,I.stack,I.lq⟩,rfl,I.bare,Un.kept hk,?_,?_,I.hok.fresh (Nat.le_refl _),?_,?_,I.hok.kept hk,?_⟩
 ·exact S.kind
 ·intro x y c e1 e2
  exact I.ok.inj x y c (lk x c e1) (lk y c e2)
 ·intro x e
  have hm:=S.rl x e
  have:=lT (env:=X.env) (cs:=[]) hm
  exact Option.isSome_iff_exists.mp this
 ·intro x c e _
  exact absurd e (by simp [cO])
 ·intro b hb
  obtain ⟨o,e⟩:=ho b hb
  refine ⟨lt b o e,fun x c e2=>(hf b hb).2.2.2.2.1 x c (lk x c e2)⟩
 ·intro b o e hb
  obtain ⟨_,_,_,h3,_⟩:=hf b hb
  rcases h3 with z | z
  ·exact I.ok.noex b o e z
  ·exact absurd (Nat.lt_of_lt_of_le (Heap.lt_size (I.ok.bs b o e).1) z) (Nat.lt_irrefl _)
 ·intro b hb hz
  obtain ⟨_,h1,h2,_⟩:=hf b hb
  rcases List.mem_cons.mp (I.nA b hz) with z | z
  ·exact h1 z
  ·exact h2 z
 ·refine ⟨m,hn,fun i x v e1 e2 e3=>?_⟩
  rw [List.getElem?_map] at e2
  cases hc:cap[i]? with
  | none=>rw [hc] at e2;cases e2
  | some oj=>
   rw [hc] at e2
   cases oj with
   | none=>cases e2
   | some j=>
    have e2':(σ[j]?).getD none=some v:=Option.some.inj e2
    obtain ⟨hj,hm⟩:=S.cp i j x e1 hc
    obtain ⟨m0,hn0,hl0⟩:=I.loc
    have hσ:σ[j]?=some (some v):=by
     cases h:σ[j]? with
     | none=>rw [h] at e2';cases e2'
     | some z=>rw [h,Option.getD_some] at e2';rw [e2']
    have hkd:=S.fr (x,.free) hm rfl
    have hv:Jv X.env.scope x:=.inr hkd
    obtain ⟨u,ru,lo⟩:=hl0 j x v hj hσ hv
    refine ⟨u,ru,?_⟩
    rcases lo with ⟨lo,_⟩ | ⟨_,c,ec,ic⟩
    ·rcases hkd with z | z <;> (rw [z] at lo;cases lo)
    ·have h2:=lT (env:=X.env) (cs:=[]) hm
     obtain ⟨c',hc'⟩:=Option.isSome_iff_exists.mp h2
     have:c'=c:=Option.some.inj ((lk x c' hc').symm.trans ec)
     subst this
     refine .inr ⟨?_,c',hc',?_⟩
     ·rcases e3 with z | z | z
      ·exfalso
       have:(relabel scope X.env).names.lookup x=some .local:=z
       have hloc:scope.names.lookup x=some .local:=by
        have hmem:∃ k,(x,k)∈(relabel scope X.env).names/\k=.local:=by
         clear hc' h2
         have:=m_ this
         exact ⟨_,this,rfl⟩
        obtain ⟨k,hk1,rfl⟩:=hmem
        obtain ⟨⟨n',k'⟩,hm1,hm2⟩:=List.mem_map.mp hk1
        dsimp only at hm2
        split at hm2
        ·cases hm2
        ·cases hm2
         exact S.nm (x,.local) hm1 rfl
       exact False.elim (S.nolf x hm hloc)
      ·exact .inl z
      ·exact .inr z
     ·obtain ⟨o,ho',hd⟩:=ic
      exact ⟨o,hk _ _ ho',hd⟩
 ·intro x c e
  obtain ⟨v,o,ho',hd⟩:=I.cell x c (lk x c e)
  exact ⟨v,o,hk _ _ ho',hd⟩
 ·intro x c e
  exact I.freeC x c (lk x c e)
 ·intro p hp
  cases hp
 ·rw [List.length_map,S.len]
  rfl
noncomputable def E8 (X:Cx) (ifs:List Expr) (t:TT):Prop:=
 ∀ (pins:List (Addr×Obj)) (s:Shared) (σ:St) (H:Hp) (Q:Bool->Hp->Prop),Inv X pins σ H s->t σ H Q ->
  wpAny (model X.prog X.w) X.A (forIn ifs true fun c r=>if r=true then do let ok <- isTrue c X.env (eval c X.env);pure (ForInStep.yield ok) else pure (ForInStep.yield r)) (TP X pins σ Q) X.xe s
noncomputable def LM:TT:=fun _ H Q=>Q true H
theorem EY {X:Cx}:E8 X [] LM:=fun _ _ _ H _ I h=>wpAny_tests_nil ⟨H,I,h⟩
theorem D6 {X:Cx} {c:Expr} {t:TT} (h:PT X c t):E8 X [c] t:=fun pins s σ H Q I q=>wpAny_tests_one (h pins s σ H Q I q)
noncomputable def HF (cap:List (Option Nat)) (g:TG) (tc:TT) (te:TE) (σ:St) (Q:VK) (J:It) (H1:Hp):Prop:=∀ D,H1 D=none ->
 ∃ W:Nat->Nat->St->Hp->Prop,(∃ m,W 0 m (cap.map (Dk σ)) (upd H1 D (.lst [])))/\∀ i m σ' H',W i m σ' H' ->
  (J.stop i H'/\Q (.ref D) H')\/(J.go i H'/\∀ x H2,J.yld i H' x H2->g x σ' H2 fun σ3 H3=>tc σ3 H3 fun b H4=>
   if b=true then te σ3 H4 fun y H5=>∃ ys,H5 D=some (.lst ys)/\ys.length < sizeLine/\∃ m',m' < m/\W (i+1) m' σ3 (upd H5 D (.lst (ys++[y])))
   else ∃ m',m' < m/\W (i+1) m' σ3 H4)
noncomputable def L_ (cap:List (Option Nat)) (wi:TI) (g:TG) (tc:TT) (te:TE):TE:=fun σ H Q=>wi σ H (HF cap g tc te σ Q)
theorem qa {α:Type} {t:Sem α} {Q Q':α->Shared->Prop} {M:Model} {A:Around} {E:Value->Shared->Prop} {s:Shared} (h:wpAny M A t Q (fun _ _=>False) s) (hQ:∀ a s,Q a s->Q' a s):wpAny M A t Q' E s:=
 wpAny_mono h hQ fun _ _ f=>f.elim
structure TurnG (ok:Cx->Prop) (P:Program) (w:World) (K:PySem.W.Frag) (tg:Expr) (J:It) (fp:List Addr) (it:Addr) (tn:Nat->Heap->Prop):Prop where
 obj:∀ i h,tn i h->∀ b∈fp,∃ o,h.get? b=some o/\∀ v,o.data≠.cell v
 keep:∀ i h h',tn i h->(∀ b∈fp,∀ o,h.get? b=some o->h'.get? b=some o)->tn i h'
 item:∀ (X:Cx),X.prog=P->X.w=w->X.K=K->ok X->∀ (i:Nat) (pins:List (Addr×Obj)) (s:Shared) (σ:St) (H:Hp) (E:Value->Shared->Prop),Inv X pins σ H s->(∀ b∈fp,iT X pins H b)->tn i s.heap->J.go i H ->
  wpAny (model P w) X.A (pyNext (.ref it)) (fun r s1=>∃ u,r=some u /\
   wpAny (model P w) X.A (letOwnedTupleGo tg (.ref it) u) (fun _ s2=>∃ x H',Inv X pins σ H' s2/\RelV x u/\J.yld i H x H'/\tn (i+1) s2.heap/\∀ b∈fp,H' b=none) E s1) E s
 done:∀ (X:Cx),X.prog=P->X.w=w->X.K=K->ok X->∀ (i:Nat) (pins:List (Addr×Obj)) (s:Shared) (σ:St) (H:Hp) (E:Value->Shared->Prop),Inv X pins σ H s->(∀ b∈fp,iT X pins H b)->tn i s.heap->J.stop i H ->
  wpAny (model P w) X.A (pyNext (.ref it)) (fun r s1=>r=none/\Inv X pins σ H s1) E s
 self:∀ (A:Around) (i:Nat) (s:Shared) (Q:Value->Shared->Prop) (E:Value->Shared->Prop),tn i s.heap->Q (.ref it) s->wpAny (model P w) A (pyIter (.ref it)) Q E s
noncomputable def Mr (ok:Cx->Prop) (X:Cx) (pins:List (Addr×Obj)) (σ:St) (tg:Expr) (R:It->Hp->Prop) (itv:Value) (s2:Shared):Prop:=
 ∃ (it:Addr) (fp:List Addr) (tn:Nat->Heap->Prop) (J:It) (H':Hp),itv=.ref it/\Inv X pins σ H' s2/\TurnG ok X.prog X.w X.K tg J fp it tn/\tn 0 s2.heap/\(∀ b∈fp,iT X pins H' b)/\R J H'
noncomputable def MS (ok:Cx->Prop) (X:Cx) (tg iter:Expr) (wi:TI):Prop:=
 ∀ (pins:List (Addr×Obj)) (s:Shared) (σ:St) (H:Hp) (R:It->Hp->Prop),Inv X pins σ H s->wi σ H R ->
  wpAny (model X.prog X.w) X.A (eval iter X.env) (fun v s1=>wpAny (model X.prog X.w) X.A (pyIter v) (Mr ok X pins σ tg R) X.xe s1) X.xe s
theorem PI.g {X:Cx} {tg iter:Expr} {wi:TI} (h:PI X tg iter wi):MS (fun Y=>Y.calm=true) X tg iter wi:=fun pins s σ H R I q=>
 bO (h pins s σ H R I q) fun v s1 h1=>bO h1 fun itv s2 ⟨it,fp,tn,J,H',e,I',T,a,b,c⟩=>⟨it,fp,tn,J,H',e,I',⟨T.obj,T.keep,T.item,T.done,T.self⟩,a,b,c⟩
theorem IM {ok:Cx->Prop} {X:Cx} {tg iter elt:Expr} {ifs:List Expr} {scope:Scope} {pos:Pos} {N:List Str} {cap:List (Option Nat)} {wi:TI} {g:TG} {tc:TT} {te:TE} (S:CpScope X scope N cap) (hok:∀ C s₀ H₀ ex,(∀ a o u,X.H₀ a=some (.frz o u)->H₀ a=some (.frz o u))->ok (cO X scope N C s₀ H₀ ex)) (hi:MS ok X tg iter wi)
  (hg:∀ C s₀ H₀ ex,PG (cO X scope N C s₀ H₀ ex) tg g) (ht:∀ C s₀ H₀ ex,E8 (cO X scope N C s₀ H₀ ex) ifs tc) (he:∀ C s₀ H₀ ex,PE (cO X scope N C s₀ H₀ ex) elt te)
  (hs:∀ x,foldedSetIterable iter X.env x=pure x:=by intro _;rfl):PE X (.ListComp elt [⟨tg,iter,ifs,0⟩] scope pos) (L_ cap wi g tc te):=by
 intro pins s σ H Q I h
 have hfree:∀ y∈scope.names,y.2=.free->∃ c,X.env.cells.lookup y.1=some c:=fun y hy e=>I.ok.has _ (S.fr y hy e)
 rw [eval_ListComp]
 refine wpAny_comprehension_free (use:=none) rfl hs (mT hfree) S.kind S.nm (bO (hi pins s σ H _ I h) fun xv s1 h1=>bO h1 fun itv s2 h2=>?_)
 obtain ⟨it,fp,tn,J,H2,rfl,I2,T,st2,f2,h2⟩:=h2
 refine wpAny_newObj_type (wpAny_newFunctionEnv S.nocell (by intro y hy;simp at hy) (fun h₁ hns₁ hsb₁=>?_) S.kind)
 obtain ⟨W,⟨m0,w0⟩,turn⟩:=h2 s2.heap.objs.size I2.fresh
 dsimp only at hns₁ hsb₁ ⊢
 have I3:Inv X pins σ (upd H2 s2.heap.objs.size (.lst [])) { s2 with heap:=s2.heap.push { cls:=.type "list",data:=.seq ([]:List Value).toArray } }:=I2.zO (t':=s2.toks) (its:=[]) .nil (Nat.zero_le _)
 have hfp:∀ b∈fp,∃ o,s2.heap.get? b=some o:=fun b hb=>by
  obtain ⟨o,e,_⟩:=T.obj 0 _ st2 b hb
  exact ⟨o,e⟩
 have neD:∀ b∈fp,b≠s2.heap.objs.size:=fun b hb=>by
  obtain ⟨o,e⟩:=hfp b hb
  exact Nat.ne_of_lt (Heap.lt_size e)
 have f3:∀ b∈fp,iT X pins (upd H2 s2.heap.objs.size (.lst [])) b:=fun b hb=>⟨by rw [aI (neD b hb)];exact (f2 b hb).1,(f2 b hb).2⟩
 have hDC:s2.heap.objs.size≠(s2.heap.push { cls:=.type "list",data:=.seq ([]:List Value).toArray }).objs.size:=by rw [Heap.size_push];exact Nat.ne_of_lt (Nat.lt_succ_self _)
 have old:∀ b o,(s2.heap.push { cls:=.type "list",data:=.seq ([]:List Value).toArray }).get? b=some o->h₁.get? b=some o:=fun b o e=>hsb₁.extBut b o (Nat.ne_of_lt (Heap.lt_size e)) (Heap.get?_push_of_some _ e)
 have I4:=zm (tk:=s2.toks+([]:List (Str×Value)).length) (fp:=fp) S I3 f3 (fun b hb=>by
  obtain ⟨o,e⟩:=hfp b hb
  exact ⟨o,Heap.get?_push_of_some _ e⟩) hns₁ old
 have st4:tn 0 h₁:=T.keep _ _ _ st2 fun b hb o e=>old b o (Heap.get?_push_of_some _ e)
 have hc:=hok (s2.heap.push { cls:=.type "list",data:=.seq ([]:List Value).toArray }).objs.size { s2 with heap:=s2.heap.push { cls:=.type "list",data:=.seq ([]:List Value).toArray } } (upd H2 s2.heap.objs.size (.lst [])) fp fun a o u e=>by
  have z:=I2.base.frzs a o u e
  rw [aI (fun q=>by rw [q,I2.fresh] at z;cases z)]
  exact z
 have stat:∀ {H':Hp},(∀ b∈fp,H' b=none)->∀ b∈fp,iT (cO X scope N (s2.heap.push { cls:=.type "list",data:=.seq ([]:List Value).toArray }).objs.size { s2 with heap:=s2.heap.push { cls:=.type "list",data:=.seq ([]:List Value).toArray } } (upd H2 s2.heap.objs.size (.lst [])) fp) [] H' b:=fun hn b hb=>by
  have ok:=I4.ok
  refine ⟨hn b hb,(ok.exf b hb).1,ok.exfs b hb,.inl hb,fun x c e=>(ok.exf b hb).2 x c e,fun p hp=>nomatch hp⟩
 have loop:∀ s4:Shared,s4={ s2 with heap:=h₁,toks:=s2.toks+([]:List (Str×Value)).length } ->
   codeAny (model X.prog X.w) X.A (.compLoop (.ListComp elt [⟨tg,iter,ifs,0⟩] scope pos) 0 (.ref it) (.ref s2.heap.objs.size) (compEnvC scope (iS X.env scope.names []) (s2.heap.push { cls:=.type "list",data:=.seq ([]:List Value).toArray }).objs.size X.env))
    (compPost (model X.prog X.w) X.A X.xe none (EP X pins σ Q) (.ref s2.heap.objs.size) (s2.heap.push { cls:=.type "list",data:=.seq ([]:List Value).toArray }).objs.size) s4:=by
  rintro s4 rfl
  refine codeAny_loop rfl (fun n s'=>∃ i σ' H',Inv (cO X scope N (s2.heap.push { cls:=.type "list",data:=.seq ([]:List Value).toArray }).objs.size { s2 with heap:=s2.heap.push { cls:=.type "list",data:=.seq ([]:List Value).toArray } } (upd H2 s2.heap.objs.size (.lst [])) fp) [] σ' H' s'/\tn i s'.heap/\(∀ b∈fp,H' b=none)/\W i n σ' H') (fun n s5 hI=>?_) m0 ⟨0,_,_,I4,st4,fun b hb=>(f3 b hb).1,w0⟩
  obtain ⟨i,σ5,H5,I5,st5,fr5,w5⟩:=hI
  show wpAny _ X.A ((compTurn (.ListComp elt [⟨tg,iter,ifs,0⟩] scope pos) 0 (.ref it) (.ref s2.heap.objs.size) (compEnvC scope (iS X.env scope.names []) (s2.heap.push { cls:=.type "list",data:=.seq ([]:List Value).toArray }).objs.size X.env)).onRaise (fun x=>do noteFrame x _;theTreesLotGoes x)) _ _ s5
  refine wpAny_noted ?_
  rw [compTurn_list]
  refine wpAny_bind (wpAny_standAt (wpAny_bind ?_))
  rcases turn i n σ5 H5 w5 with ⟨stop,q⟩ | ⟨go,step⟩
  ·refine bO (T.done (cO X scope N (s2.heap.push { cls:=.type "list",data:=.seq ([]:List Value).toArray }).objs.size { s2 with heap:=s2.heap.push { cls:=.type "list",data:=.seq ([]:List Value).toArray } } (upd H2 s2.heap.objs.size (.lst [])) fp) rfl rfl rfl hc i [] s5 σ5 H5 _ I5 (stat fr5) st5 stop) fun r s6 ⟨hr,I6⟩=>?_
   subst hr
   obtain ⟨m6,hn6,_⟩:=I6.loc
   refine wpAny_pure ⟨m6,hn6,fun h' sb=>?_⟩
   have u6:=I6.base
   have nC:∀ b o,(s2.heap.push { cls:=.type "list",data:=.seq ([]:List Value).toArray }).get? b=some o->b≠(s2.heap.push { cls:=.type "list",data:=.seq ([]:List Value).toArray }).objs.size:=fun b o e=>Nat.ne_of_lt (Heap.lt_size e)
   refine ⟨.ref s2.heap.objs.size,H5,?_,rfl,q⟩
   refine I3.FT (ch:=fp) I6.os ⟨fun b o e n hb hx=>?_,fun b o e n hb hx=>?_,fun b o e n hx=>?_,fun b o e hx=>?_,u6.tups,u6.frzs,u6.tbls⟩ ?_ I6.bare ?_
   ·exact sb.extBut b o (nC b o e) (u6.keep b o e n hb hx)
   ·obtain ⟨sl,z⟩:=u6.slot b o e n hb hx
    exact ⟨sl,sb.extBut b _ (nC b o e) z⟩
   ·exact u6.free b o e n hx
   ·obtain ⟨o',z⟩:=u6.there b o e hx
    exact ⟨o',sb.extBut b _ (nC b o e) z⟩
   ·intro b o e
    have hb:∀ c v,H5 c=some v->c≠(s2.heap.push { cls:=.type "list",data:=.seq ([]:List Value).toArray }).objs.size:=fun c v e z=>by
     rw [z] at e
     have:=I6.free
     rw [show H5 (s2.heap.push { cls:=.type "list",data:=.seq ([]:List Value).toArray }).objs.size=none from this] at e
     cases e
    refine (I6.hok b o e).stay (fun c v hc q=>sb.extBut c v ?_ q) (fun _ q=>q) fun _ _ q=>q
    rcases hc with z | z
    ·rw [z];exact hb b o e
    ·exact hb c _ z
   ·intro b hb
    obtain ⟨_,z1,_,z3,z4,z5⟩:=f3 b hb
    exact ⟨z3,z1,z4,z5⟩
  ·refine bO (T.item (cO X scope N (s2.heap.push { cls:=.type "list",data:=.seq ([]:List Value).toArray }).objs.size { s2 with heap:=s2.heap.push { cls:=.type "list",data:=.seq ([]:List Value).toArray } } (upd H2 s2.heap.objs.size (.lst [])) fp) rfl rfl rfl hc i [] s5 σ5 H5 _ I5 (stat fr5) st5 go) fun r s6 ⟨u,hr,h6⟩=>?_
   subst hr
   refine wpAny_bind (bO h6 fun _ s7 ⟨x,H7,I7,r7,y7,st7,fr7⟩=>?_)
   have I7':=I7.pinned (stat fr7) (T.obj _ _ st7)
   refine wpAny_bind (qa (hg _ _ _ fp _ s7 σ5 H7 x u _ I7' r7 (step x H7 y7)) fun _ s8 ⟨σ8,H8,I8,q8⟩=>?_)
   refine wpAny_bind (qa (ht _ _ _ fp _ s8 σ8 H8 _ I8 q8) fun ok s9 ⟨H9,I9,q9⟩=>?_)
   have again:∀ {s10:Shared} {H10:Hp},Inv (cO X scope N (s2.heap.push { cls:=.type "list",data:=.seq ([]:List Value).toArray }).objs.size { s2 with heap:=s2.heap.push { cls:=.type "list",data:=.seq ([]:List Value).toArray } } (upd H2 s2.heap.objs.size (.lst [])) fp) ([]++jv fp s7.heap) σ8 H10 s10->(∃ m',m' < n/\W (i+1) m' σ8 H10) ->
     ∃ m,m < n/\∃ i σ' H',Inv (cO X scope N (s2.heap.push { cls:=.type "list",data:=.seq ([]:List Value).toArray }).objs.size { s2 with heap:=s2.heap.push { cls:=.type "list",data:=.seq ([]:List Value).toArray } } (upd H2 s2.heap.objs.size (.lst [])) fp) [] σ' H' s10/\tn i s10.heap/\(∀ b∈fp,H' b=none)/\W i m σ' H':=fun {s10 H10} I10 ⟨m',hm,w10⟩=>by
    refine ⟨m',hm,i+1,σ8,H10,I10.gq,T.keep _ _ _ st7 fun b hb o e=>(I10.pin (b,o) (List.mem_append_right _ (List.mem_append_right _ (cS hb e)))).1,fun b hb=>?_,w10⟩
    obtain ⟨o,e,d⟩:=T.obj _ _ st7 b hb
    exact (I10.pin (b,o) (List.mem_append_right _ (List.mem_append_right _ (cS hb e)))).2.1
   cases ok with
   | false=>
    rw [if_neg Bool.false_ne_true] at q9
    exact wpAny_pure ⟨rfl,again I9 q9⟩
   | true=>
    rw [if_pos rfl] at q9
    refine wpAny_bind (wpAny_bind (qa (he _ _ _ fp _ s9 σ8 H9 _ I9 q9) fun y s10 ⟨v10,H10,I10,r10,ys,hD,hz,w10⟩=>?_))
    refine wpAny_bind (qa (j8 _ s10 σ8 H10 (.ref s2.heap.objs.size) [v10] _ [y] (fun _ H'=>H'=upd H10 s2.heap.objs.size (.lst (ys++[v10]))) I10 rfl (.cons r10 .nil) ⟨_,ys,v10,rfl,rfl,hD,hz,rfl⟩) fun _ s11 ⟨_,H11,I11,_,e11⟩=>?_)
    subst e11
    exact wpAny_pure (wpAny_pure ⟨rfl,again I11 w10⟩)
 exact codeAny_compStart_list (loop _ rfl) (T.self _ 0 _ _ _ st4 (loop _ rfl))
theorem JN {X:Cx} {tg iter elt:Expr} {ifs:List Expr} {scope:Scope} {pos:Pos} {N:List Str} {cap:List (Option Nat)} {wi:TI} {g:TG} {tc:TT} {te:TE} (hc:X.calm=true) (S:CpScope X scope N cap) (hi:PI X tg iter wi)
  (hg:∀ C s₀ H₀ ex,PG (cO X scope N C s₀ H₀ ex) tg g) (ht:∀ C s₀ H₀ ex,E8 (cO X scope N C s₀ H₀ ex) ifs tc) (he:∀ C s₀ H₀ ex,PE (cO X scope N C s₀ H₀ ex) elt te)
  (hs:∀ x,foldedSetIterable iter X.env x=pure x:=by intro _;rfl):PE X (.ListComp elt [⟨tg,iter,ifs,0⟩] scope pos) (L_ cap wi g tc te):=
 IM S (fun _ _ _ _ _=>hc) hi.g hg ht he hs
section
variable {X:Cx}
theorem zE {bs:List Bool}:∀ {us:List Value},Vals (bs.map V.bl) us->LSm.BoolsAre us bs:=by
 induction bs with
 | nil=>intro us r;cases r;exact .nil
 | cons b bs ih=>
  intro us r
  cases r with
  | cons h t=>
   have e:_=Value.bool b:=h
   subst e
   exact .cons b (ih t)
theorem zb (hc:X.calm=true):br X (.builtin "any") (fun xs H Q=>∃ (p:Addr) (bs:List Bool),xs=[.ref p]/\dQ X.K H p (bs.map V.bl)/\Q (.bl (bs.any id)) H):=by
 intro pins s σ H xs us Q I r h
 obtain ⟨p,bs,rfl,hq,q⟩:=h
 obtain ⟨u,rfl,rx⟩:=vals1 r
 cases rx
 obtain ⟨its,rv,pl,hz⟩:=I.list hq
 have hb:=zE rv
 have hl:=pl.isList
 have hlt:p < s.heap.objs.size:=by obtain ⟨_,e,_⟩:=hl;exact Heap.lt_size e
 refine call_any_walk (wpAny_pyIter_list hl ?_)
 refine ⟨s.heap.objs.size,[s.heap.objs.size,p],[s.heap.objs.size],its.toArray.size,_,_,fun i=>(bs[i]?).getD false,rfl,Walks.list (A:=X.A.in1) (I.ok.hd hc) _ p (Nat.ne_of_lt hlt) its.toArray,
  ⟨⟨_,Heap.get?_push_size _ rfl,rfl,rfl⟩,hl.push _⟩,fun i v s' Q' E' hP hQ=>?_,fun h' tk hk=>?_⟩
 ·obtain ⟨b,e,rfl⟩:=hb.get i v (by simpa using hP)
  simp only [e,Option.getD_some] at hQ
  exact wpAny_truthy_bool hQ
 ·have e:((List.range its.toArray.size).any fun i=>(bs[i]?).getD false)=bs.any id:=by
   rw [List.size_toArray,hb.length];exact LSm.range_any bs
  rw [e]
  exact ⟨.bl _,H,I.kept (LSm.kept_iter hk),rfl,q⟩
theorem pO:br X (.builtin "sorted") (fun xs H Q=>∃ (p:Addr) (ns:List Int),xs=[.ref p]/\(dQ X.K H p (ns.map V.int)\/cI X.K H p (ns.map V.int))/\ns.length < 64 /\
  ∀ l (ns':List Int),H l=none->ns'.Perm ns->ns'.Pairwise (·<=·)->Q (.ref l) (upd H l (.lst (ns'.map V.int)))):=by
 intro pins s σ H xs us Q I r h
 obtain ⟨p,ns,rfl,hq,h64,q⟩:=h
 obtain ⟨u,rfl,rx⟩:=vals1 r
 cases rx
 have go:∀ (its:List Value) (T:String) (o:Obj) (n:Nat),(T = "list" \/ T = "tuple")->s.heap.get? p=some o->o.cls=.type T->o.data=.seq its.toArray n->Vals (ns.map V.int) its ->
   wpAny (model X.prog X.w) X.A (call (.builtin "sorted") [.ref p]) (EP X pins σ Q) X.xe s:=by
  intro its T o n hT ho hcl hd rv
  have hI:=intsAre_of rv
  have hlen:its.length=ns.length:=by have:=rv.length;rw [List.length_map] at this;exact this.symm
  refine Calls.call_function_entry kind_sorted plain_sorted entry_sorted (args_sorted1 _) ?_
  unfold Builtin.«sorted»
  refine wpAny_bind (m:=checkCount "sorted" 1 1 _) (wpAny_pure ?_)
  refine wpAny_bind (wpAny_collect_seq p hT ho hcl hd (fun h' hk=>?_) (by rw [List.size_toArray,hlen,sizeLine_eq];omega))
  refine wpAny_bind (wpAny_newList ?_)
  have hoL:(h'.push (seqObj "list" its.toArray 0)).get? h'.objs.size=some (seqObj "list" its.toArray 0):=Heap.get?_push_size _ rfl
  show wpAny _ _ _ _ _ { s with heap:=h'.push (seqObj "list" its.toArray 0) }
  refine wpAny_bind (wpAny_holding (wpAny_call_entry slot_list_sort ⟨_,hoL,rfl⟩ entry_list_sort (list_sort_tree hoL hI (by omega) fun out ns' a1 a2 a3=>⟨_,rfl,?_⟩) (args_list_sort _)))
  obtain ⟨e,he⟩:=sortedHeap_at (out:=out) hoL
  have hl':ns'.length=ns.length:=a2.length_eq
  have I1:Inv X pins σ H { s with heap:=h' }:=I.kept (t':=s.toks) hk
  have old:∀ b ob,h'.get? b=some ob->(sortedHeap (h'.push (seqObj "list" its.toArray 0)) h'.objs.size its out).get? b=some ob:=fun b ob eb=>by
   rw [sortedHeap_old (Nat.ne_of_lt (Heap.lt_size eb)) (by rw [Heap.size_push];exact Nat.lt_succ_of_lt (Heap.lt_size eb))]
   exact Heap.get?_push_of_some _ eb
  refine wpAny_pure ⟨_,rfl,.ref h'.objs.size,_,I1.laid (t':=s.toks) (o:=.lst (ns'.map V.int)) old (Nat.le_refl _) ?_,rfl,q _ ns' (I1.hok.fresh (Nat.le_refl _)) a2 a3⟩
  refine ⟨by rw [List.length_map,hl',sizeLine_eq];omega,out.toList,e,j0 a1,?_⟩
  rw [he]
 rcases hq with hq | hq
 ·obtain ⟨its,rv,pl,hz⟩:=I.list hq
  obtain ⟨o,ho,hcl,n,hd⟩:=pl.isList
  exact go its "list" o n (.inl rfl) ho hcl hd rv
 ·obtain ⟨its,rv,pl,hz⟩:=I.tuple hq
  obtain ⟨o,ho,hcl,n,hd⟩:=pl
  exact go its "tuple" o n (.inr rfl) ho hcl hd rv
noncomputable def Nk:List V->List V->Bool
 | [],[]=>true
 | x::xs,y::ys=>sZ x y && Nk xs ys
 | _,_=>false
theorem GD:d7 X (compareOp .Is) (fun x y H Q=>∃ a b,x=.bl a/\y=.bl b/\Q (.bl (a == b)) H):=by
 intro pins s σ H x y v u Q I rx ry h
 obtain ⟨a,b,rfl,rfl,q⟩:=h
 cases rx;cases ry
 exact is_bool ⟨.bl _,H,I,rfl,q⟩
theorem pS:br X (.type "range") (fun xs H Q=>∃ i j,xs=[.int i,.int j]/\∀ p,H p=none->Q (.ref p) (upd H p (.rng i j))):=by
 intro pins s σ H xs us Q I r h
 obtain ⟨i,j,rfl,q⟩:=h
 obtain ⟨u,w',rfl,⟨t,rfl⟩,⟨t',rfl⟩⟩:=vals2 r
 refine call_range_2 ⟨.ref s.heap.objs.size,_,I.laid (o:=.rng i j) (fun b o e=>Heap.get?_push_of_some _ e) (Nat.le_refl _) ?_,rfl,q _ I.fresh⟩
 exact ⟨t,t',s.toks,Heap.get?_push_size _ rfl⟩
noncomputable def bg (i j:Int):List Int:=(List.range (j - i).toNat).map fun k:Nat=>i+(k:Int)
theorem bL (i j:Int):(bg i j).length=(j - i).toNat:=by unfold bg;rw [List.length_map,List.length_range]
theorem lO {i:Int} {n:Nat} {acc:Array Value} (h:ItemsOf (fun k v=>∃ t,v=Value.int (i+(k:Int) * 1) t) acc n):Vals (((List.range n).map fun k:Nat=>i+(k:Int)).map V.int) acc.toList:=by
 obtain ⟨hs,hv⟩:=h
 have gen:∀ (l:List Value) (b:Nat),(∀ j v,l[j]?=some v->∃ t,v=Value.int (i+((b+j:Nat):Int)) t)->Vals (((List.range' b l.length).map fun k:Nat=>i+(k:Int)).map V.int) l:=by
  intro l
  induction l with
  | nil=>intro b _;exact .nil
  | cons v l ih=>
   intro b hb
   rw [List.length_cons,List.range'_succ,List.map_cons,List.map_cons]
   refine .cons ?_ ?_
   ·obtain ⟨t,e⟩:=hb 0 v rfl
    exact ⟨t,by rw [e];simp⟩
   ·refine ih (b+1) fun j w hw=>?_
    obtain ⟨t,e⟩:=hb (j+1) w hw
    exact ⟨t,by rw [e,show b+(j+1)=b+1+j by omega]⟩
 have:=gen acc.toList 0 fun j v hj=>by
  obtain ⟨t,e⟩:=hv j v (by simpa using hj)
  exact ⟨t,by rw [e,Nat.zero_add,Int.mul_one]⟩
 rw [Array.length_toList,hs,<- List.range_eq_range'] at this
 exact this
theorem BK {i j:Int}:Builtin.Range.rangeSize i j 1=(((j - i).toNat:Nat):Int):=by rw [rangeSize_one];split <;> omega
theorem nW (hc:X.calm=true):br X (.type "list") (fun xs H Q=>∃ p i j,xs=[.ref p]/\H p=some (.rng i j)/\(-(2 ^ 62)<=i/\i < 2 ^ 62/\-(2 ^ 62)<=j/\j < 2 ^ 62)/\(j - i).toNat<=1000/\∀ l,H l=none->Q (.ref l) (upd H l (.lst ((bg i j).map V.int)))):=by
 intro pins s σ H xs us Q I r h
 obtain ⟨p,i,j,rfl,hp,⟨b1,b2,b3,b4⟩,hn,q⟩:=h
 obtain ⟨u,rfl,rx⟩:=vals1 r
 cases rx
 obtain ⟨t,u',v,e⟩:=I.hok p _ hp
 refine call_list_range (n:=(j - i).toNat) (I.ok.hd hc) e (small_one b1 b2 b3 b4) BK (by omega) fun h' tk acc' c' hk hS hacc=>?_
 refine ⟨.ref s.heap.objs.size,_,I.laid (o:=.lst ((bg i j).map V.int)) hk (Nat.le_refl _) ⟨?_,acc'.toList,c',lO hacc,by rw [hS]⟩,rfl,q _ I.fresh⟩
 rw [List.length_map,bL,sizeLine_eq];omega
end
section
variable {X:Cx}
theorem qY {prog:Program} {w:World} {A:Around} {E:Value->Shared->Prop} {s:Shared} {Q:List Value->Shared->Prop} {r:Addr} {a b c:Int} {t u v:Tok} {n:Nat} (hh:A.handled=none) (hr:IsRange s.heap r a b c t u v) (hsmall:Builtin.Range.small a b c=true)
  (hn:Builtin.Range.rangeSize a b c=n) (hlen:n<=2 ^ 24)
  (hQ:∀ h' tk (acc':Array Value),(∀ b o,s.heap.get? b=some o->h'.get? b=some o)->ItemsOf (fun i v=>∃ t,v=.int (a+i * c) t) acc' n->Q acc'.toList { s with heap:=h',toks:=tk }) :
  wpAny (model prog w) A (collect (.ref r)) Q E s:=by
 unfold collect
 refine wpAny_bind (wpAny_runValue (codeAny_builtin F.entry_proto_collect ?_))
 rw [Around.under_plainId F.plain_proto_collect _]
 show wpAny _ A.in1 (newList [] >>= fun l=>again (.builtin "list.__iadd__" ⟨[l,.ref r],[]⟩)) _ _ s
 refine wpAny_bind (wpAny_newObj_type ?_)
 refine wpAny_pure ⟨plainId_quiet F.plain_list_iadd _,codeAny_builtin F.entry_list_iadd ?_⟩
 rw [Around.under_plainId F.plain_list_iadd _]
 show wpAny _ A.in1 (Builtin.List.listExtendWith (.ref s.heap.objs.size) (.ref r) (.ref s.heap.objs.size)) _ _ _
 have hS:(s.heap.push { cls:=.type "list",data:=.seq ([]:List Value).toArray }).get? s.heap.objs.size=some { cls:=.type "list",data:=.seq #[] 0 }:=Heap.get?_push_size _ rfl
 have fin':∀ (h':Heap) (tk:Nat) (acc':Array Value) (c':Nat),(∀ b o,b≠s.heap.objs.size->(s.heap.push { cls:=.type "list",data:=.seq ([]:List Value).toArray }).get? b=some o->h'.get? b=some o) ->
   h'.get? s.heap.objs.size=some { cls:=.type "list",dict:=none,data:=.seq acc' c',slots:=#[] }->ItemsOf (fun i v=>∃ t,v=.int (a+i * c) t) acc' n ->
   wpAny (model prog w) A (match Value.ref s.heap.objs.size with
   | Value.ref a=>do
    match (<- load a).data with
     | Data.seq xs _=>pure xs.toList
     | _=>unsupported "internal:collect"
   | _=>unsupported "internal:collect") Q E { s with heap:=h',toks:=tk }:=by
  intro h' tk acc' c' hk hS' hacc
  show wpAny _ A (load s.heap.objs.size >>= _) _ _ _
  refine wpAny_bind (wpAny_load hS' ?_)
  refine wpAny_pure ?_
  exact hQ h' tk acc' (fun b o e=>hk b o (Nat.ne_of_lt (Heap.lt_size e)) (Heap.get?_push_of_some _ e)) hacc
 refine wpAny_mono (wpAny_extend_range (A:=A) (R:=fun rr s'=>rr=.ok (.ret (.ref s.heap.objs.size))/\∃ h' tk acc' c',s'={ s with heap:=h',toks:=tk }/\(∀ b o,b≠s.heap.objs.size->(s.heap.push { cls:=.type "list",data:=.seq ([]:List Value).toArray }).get? b=some o->h'.get? b=some o) /\
   h'.get? s.heap.objs.size=some { cls:=.type "list",dict:=none,data:=.seq acc' c',slots:=#[] }/\ItemsOf (fun i v=>∃ t,v=.int (a+i * c) t) acc' n)
  (s:={ s with heap:=s.heap.push { cls:=.type "list",data:=.seq ([]:List Value).toArray } }) hh (Heap.get?_push_of_some _ hr) hsmall hn hlen s.heap.objs.size (.ref s.heap.objs.size) 0 hS
  (fun h' tk acc' c' hk hS' hacc=>⟨rfl,h',tk,acc',c',rfl,hk,hS',hacc⟩)) (fun fin s' h=>?_) (fun e s' h=>?_)
 ·cases fin with
  | done f=>
   obtain ⟨e,h',tk,acc',c',rfl,hk,hS',hacc⟩:=h
   cases e
   exact fin' h' tk acc' c' hk hS' hacc
  | again c'=>exact ⟨h.1,codeAny_mono h.2 fun r s'' hr=>by
    obtain ⟨rfl,h',tk,acc',c',rfl,hk,hS',hacc⟩:=hr
    exact fin' h' tk acc' c' hk hS' hacc⟩
 ·exact absurd h.1 (by simp)
theorem iV (l:Addr) {a b:Int} {t u v:Tok} {n:Nat} (hsmall:Builtin.Range.small a b 1=true)
  (hn:Builtin.Range.rangeSize a b 1=n) (hlen:n<=1000) :
  Meets (Builtin.«tuple.__new__» ⟨[.type "tuple",.ref l],[]⟩)
   (fun A R s=>A.handled=none/\IsRange s.heap l a b 1 t u v/\∀ (h':Heap) (tk:Nat) (acc':Array Value),(∀ b o',s.heap.get? b=some o'->h'.get? b=some o')->ItemsOf (fun i v=>∃ t,v=.int (a+i * 1) t) acc' n->R (.ok (.ret (.ref h'.objs.size))) { s with heap:=h'.push { cls:=.type "tuple",data:=.seq acc' },toks:=tk }):=
 .of_wp fun prog w A R s h=>by
  obtain ⟨hp,g,d,tk,os⟩:=s
  obtain ⟨hh,ht,h⟩:=h
  have hsub:=sub_tuple_self
  have hinit:=init_tuple_lookup
  have hmh:=madeHere_tuple
  have hT:Shared.TypeIs ⟨hp,g,d,tk,os⟩ (.ref l) "range" := ⟨_,ht,rfl⟩
  have hh':A.in1.handled=none:=hh
  wp_walk using AutoSeq1.wpAny_loadPart' ht,wpAny_typeOf hT,qY (A:=A.in1) hh' ht hsmall hn (by omega)
  intro h' tk' acc' hk hacc
  show wpAny _ _ (Builtin.Tuple.tupleExact acc'.toList.toArray >>= fun v=>ret v) _ _ _
  unfold Builtin.Tuple.tupleExact
  have e:acc'.toList.toArray=acc':=by simp
  refine wpAny_bind (wpAny_newObj_type ?_ (by show acc'.toList.toArray.size<=sizeLine;rw [e,hacc.1,sizeLine_eq];omega))
  refine wpAny_pure ⟨_,rfl,?_⟩
  rw [e]
  exact h h' tk' acc' hk hacc
theorem mR (hc:X.calm=true):br X (.type "tuple") (fun xs H Q=>∃ p i j,xs=[.ref p]/\H p=some (.rng i j)/\(-(2 ^ 62)<=i/\i < 2 ^ 62/\-(2 ^ 62)<=j/\j < 2 ^ 62)/\(j - i).toNat<=1000/\∀ l,H l=none->Q (.ref l) (upd H l (.tup ((bg i j).map V.int)))):=by
 intro pins s σ H xs us Q I r h
 obtain ⟨p,i,j,rfl,hp,⟨b1,b2,b3,b4⟩,hn,q⟩:=h
 obtain ⟨u,rfl,rx⟩:=vals1 r
 cases rx
 obtain ⟨t,u',v,e⟩:=I.hok p _ hp
 refine callType_new F.called_tuple (by decide) (F.typeCall_tuple_1 _) (F.newCall_tuple_1 _) (fun obj=>F.args_object_init_2 obj _) F.entry_tuple_new
  (iV (n:=(j - i).toNat) p (small_one b1 b2 b3 b4) BK hn) ⟨I.ok.hd hc,e,fun h' tk acc' hk hacc=>⟨⟨_,Heap.get?_push_size _ rfl,rfl⟩,?_⟩⟩
 have I1:Inv X pins σ H { s with heap:=h',toks:=tk }:=I.kept hk
 refine ⟨.ref h'.objs.size,_,I1.laid (t':=tk) (o:=.tup ((bg i j).map V.int)) (fun b o e=>Heap.get?_push_of_some _ e) (Nat.le_refl _) ⟨?_,acc'.toList,lO hacc,?_⟩,rfl,q _ (I1.hok.fresh (Nat.le_refl _))⟩
 ·rw [List.length_map,bL,sizeLine_eq];omega
 ·have e:acc'.toList.toArray=acc':=by simp
  rw [e]
  exact dW.new _ _
noncomputable def LG (K:PySem.W.Frag) (te:TE):TE:=fun σ H Q=>te σ H fun x H1=>∃ a xs,x=.ref a/\dQ K H1 a xs/\∀ p,H1 p=none->Q (.ref p) (upd H1 p (.lst xs.reverse))
theorem D0 {e:Expr} {te:TE} {p2 pos up cp:Pos} {kk:Nat} (he:PE X e te):PE X (.Subscript e (.Slice none none (some (.UnaryOp .USub (.Constant (.int 1) kk cp) up)) p2) pos) (LG X.K te):=by
 intro pins s σ H Q I h
 refine Subscript_ (bO (he pins s σ H _ I h) fun v s1 ⟨x,H1,I1,r1,a,xs,ex,hq,q⟩=>?_)
 subst ex
 cases r1
 refine wpAny_Slice ?_
 rw [evalPart_none]
 refine wpAny_pure ?_
 refine wpAny_pure ?_
 rw [evalPart_some]
 refine bO ((FU (a:=.Constant (.int 1) kk cp) zL t6) pins s1 σ H1 (fun v H'=>v=.int (-1)/\H'=H1) I1 ⟨1,rfl,rfl,rfl⟩) fun vs s3 ⟨y,H3,I3,r3,ey,eH⟩=>?_
 subst ey eH
 obtain ⟨t,rfl⟩:=r3
 have I4:Inv X pins σ H3 { s3 with heap:=s3.heap.push { cls:=.type "slice",data:=.fields #[.none,.none,.int (-1) t] } }:=I3.kept (t':=s3.toks) fun b ob q=>Heap.get?_push_of_some _ q
 obtain ⟨its,rv,pl,hz⟩:=I4.list hq
 show wpAny (model X.prog X.w) X.A (subscriptTail e (.Slice none none (some (.UnaryOp .USub (.Constant (.int 1) kk cp) up)) p2) (.ref a) (.ref s3.heap.objs.size)) (EP X pins σ Q) X.xe { s3 with heap:=s3.heap.push { cls:=.type "slice",data:=.fields #[.none,.none,.int (-1) t] } }
 refine tail_any (ops:=[.ref a,.ref s3.heap.objs.size]) pl.isList.typeIs slot_list_getitem.lookup ?_ (by with_unfolding_all rfl)
 have hlen:=rv.length
 refine wpAny_getItem_list_slice pl.isList (Heap.IsSliceOf.new ..) .none .none (.int (-1) t) (by decide) ?_ (by rw [List.size_toArray] <;> omega)
 rw [PySem.W.krv_pick]
 refine ⟨.ref _,_,I4.zO (t':=s3.toks) (ys:=xs.reverse) (its:=its.reverse) rv.reverse (by rw [List.length_reverse];exact hz),rfl,q _ I4.fresh⟩
theorem rE {c:String}:br X (.builtin "isinstance") (fun xs H Q=>∃ x t b,xs=[x,.ty c]/\TyOf X.K H x t/\PySem.W.kitOne X.K t (.type c)=some b/\Q (.bl b) H):=by
 intro pins s σ H xs us Q I r h
 obtain ⟨x,t,b,rfl,ty,e,q⟩:=h
 obtain ⟨u,w',rfl,rx,rc⟩:=vals2 r
 cases rc
 exact yj I rx ty e fun tk=>⟨.bl b,H,I.tok tk,rfl,q⟩
noncomputable def IW (K:PySem.W.Frag):R2:=fun x y H Q=>∃ a b ys,x=.ref a/\y=.ref b/\cI K H a []/\cI K H b ys/\Q (.ref b) H
theorem AA:d7 X (binaryOp .Add) (IW X.K):=by
 intro pins s σ H x y v u Q I rx ry h
 obtain ⟨a,b,ys,rfl,rfl,h1,h2,q⟩:=h
 cases rx
 cases ry
 obtain ⟨us,r1,p1,_⟩:=I.tuple h1
 obtain ⟨ws,r2,p2,_⟩:=I.tuple h2
 cases r1
 obtain ⟨⟨cls,dd,data,sl⟩,ho,hc,n,hd⟩:=id p1
 obtain ⟨⟨cls2,dd2,data2,sl2⟩,ho2,hc2,n2,hd2⟩:=id p2
 simp only at hc hd hc2 hd2
 subst hc hd hc2 hd2
 exact concat_meets ⟨_,ho,rfl⟩ ⟨_,ho2,rfl⟩ noFill_tuple_add seq_tuple_add PySem.F.slot_tuple_add PySem.F.entry_tuple_add (PySem.F.args_tuple_add_2 _ _)
   (tuple_addW0 a b _ ws.toArray n n2 dd dd2 sl sl2 (by simp)) ⟨ho,ho2,⟨.ref b,H,I,rfl,q⟩⟩
end
theorem bP:bootBuiltins "len" = some (.builtin "len"):=by decide +kernel
theorem HP:bootBuiltins "abs" = some (.builtin "abs"):=by decide +kernel
theorem G0:bootBuiltins "any" = some (.builtin "any"):=by decide +kernel
theorem t7:bootBuiltins "max" = some (.builtin "max"):=by decide +kernel
theorem Az:bootBuiltins "min" = some (.builtin "min"):=by decide +kernel
theorem pD:bootBuiltins "sorted" = some (.builtin "sorted"):=by decide +kernel
theorem i_:bootBuiltins "isinstance" = some (.builtin "isinstance"):=by decide +kernel
theorem CJ:bootBuiltins "int" = some (.type "int"):=by decide +kernel
theorem lB:bootBuiltins "list" = some (.type "list"):=by decide +kernel
theorem nI:bootBuiltins "tuple" = some (.type "tuple"):=by decide +kernel
theorem sV:bootBuiltins "range" = some (.type "range"):=by decide +kernel
structure Blt (mg:Str->Option Value):Prop where
 len:mg "len" = none
 abs:mg "abs" = none
 all:mg "all" = none
 any:mg "any" = none
 max:mg "max" = none
 min:mg "min" = none
 sorted:mg "sorted" = none
 isinstance:mg "isinstance" = none
 int:mg "int" = none
 bool:mg "bool" = none
 str:mg "str" = none
 list:mg "list" = none
 tuple:mg "tuple" = none
 range:mg "range" = none
section
variable {X:Cx}
end
theorem Dt:∀ {a b:List Int},a.Perm b->a.Pairwise (·<=·)->b.Pairwise (·<=·)->a=b:=fun p ha hb=>
 List.Perm.eq_of_pairwise (fun x y _ _ h1 h2=>Int.le_antisymm h1 h2) ha hb p
theorem eo {i j k:Int}:k∈bg i j ↔ i<=k/\k < j:=by
 unfold bg
 rw [List.mem_map]
 constructor
 ·rintro ⟨a,ha,rfl⟩
  have:=List.mem_range.mp ha
  omega
 ·rintro ⟨h1,h2⟩
  exact ⟨(k - i).toNat,List.mem_range.mpr (by omega),by omega⟩
noncomputable def Kn (P:Program) (w:World) (K:PySem.W.Frag) (mg:Str->Option Value) (base:Heap) (k:Nat) (x:Str) (ps:List Str) (sp:Sp):Prop:=
 ∃ (f:Addr) (fd:FuncData),FnOk P w K mg base kJ k f fd ps sp/\mg x=some (.ref f)/\PySem.W.keepIn K (.ref f)=true/\Binds K fd ps []
theorem J9 {X:Cx} {k:Nat} {x:Str} {ps:List Str} {sp:Sp} {e:Expr} {es:List Expr} {t:TA} {p pos:Pos} (G:Kn X.prog X.w X.K X.mg X.base k x ps sp) (hr:Room k X.A) (ha:PA X (e::es) t) (hg:Gl X x:=by rfl)
  (hdb:(x == ("__debug__" : Str))=false:=by decide) (hs:starEach (e::es) X.env=(false,eval e X.env)::starEach es X.env:=by rfl) (hplain:(backTo pos (starEach es X.env)).any (·.1)=false:=by rfl) :
  PE X (.Call (.Name x p) (e::es) [] pos) (Gf sp [] E0 t):=by
 obtain ⟨f,fd,F,hm,hk,hb⟩:=G
 exact xG F hr hg hm hk hb .nil Ko ha hdb hs hplain
noncomputable def nJ (XN fs:List Str):List Str->List (Option Nat)->Prop
 | [],[]=>True
 | _::N,none::c=>nJ XN fs N c
 | x::N,some j::c=>XN[j]?=some x/\x∈fs/\nJ XN fs N c
 | _,_=>False
theorem nJ.len {XN fs:List Str}:∀ {N:List Str} {c:List (Option Nat)},nJ XN fs N c->c.length=N.length
 | [],[],_=>rfl
 | _::N,none::c,h=>congrArg (·+1) (nJ.len (N:=N) (c:=c) h)
 | _::N,some j::c,h=>congrArg (·+1) (nJ.len (N:=N) (c:=c) h.2.2)
 | [],_::_,h=>h.elim
 | _::_,[],h=>h.elim
theorem nJ.cp {XN fs:List Str}:∀ {N:List Str} {c:List (Option Nat)},nJ XN fs N c->∀ (i j:Nat) (x:Str),N[i]?=some x->c[i]?=some (some j)->XN[j]?=some x/\x∈fs
 | [],[],_,i,j,x,h1,_=>by simp at h1
 | y::N,none::c,h,i,j,x,h1,h2=>by
  cases i with
  | zero=>simp at h2
  | succ i=>exact nJ.cp (N:=N) (c:=c) h i j x (by simpa using h1) (by simpa using h2)
 | y::N,some k::c,h,i,j,x,h1,h2=>by
  cases i with
  | zero=>
   simp at h1 h2
   subst h1 h2
   exact ⟨h.1,h.2.1⟩
  | succ i=>exact nJ.cp (N:=N) (c:=c) h.2.2 i j x (by simpa using h1) (by simpa using h2)
 | [],_::_,h,_,_,_,_,_=>h.elim
 | _::_,[],h,_,_,_,_,_=>h.elim
theorem mH {X:Cx} {scope:Scope} {N:List Str} {cap:List (Option Nat)} (fs:List Str) (kind:scope.kind=.function) (nocell:∀ y∈scope.names,y.2≠.cell) (nm:∀ y∈scope.names,y.2=.local->scope.names.lookup y.1=some .local)
  (nolf:∀ y∈scope.names,y.2=.free->scope.names.lookup y.1≠some .local) (hf:∀ y∈scope.names,y.2=.free->y.1∈fs) (hfs:∀ x∈fs,(x,NameKind.free)∈scope.names) (hk:∀ x∈fs,X.env.kindOf x=some .cell\/X.env.kindOf x=some .free) (cp:nJ X.N fs N cap):CpScope X scope N cap where
 kind:=kind
 nocell:=nocell
 nm:=nm
 fr:=fun y hy e=>hk _ (hf y hy e)
 rl:=fun y h=>by
  have go:∀ k,(k=NameKind.cell\/k=NameKind.free)->(relabel scope X.env).names.lookup y=some k->(y,NameKind.free)∈scope.names:=fun k hk e=>by
   obtain ⟨⟨n',k'⟩,hm1,hm2⟩:=List.mem_map.mp (m_ e)
   dsimp only at hm2
   split at hm2
   ·rename_i hc
    cases hm2
    have:k'=.free:=by
     simp only [Bool.and_eq_true] at hc
     simpa using hc.1.1
    subst this
    exact hm1
   ·cases hm2
    rcases hk with rfl | rfl
    ·exact absurd rfl (nocell _ hm1)
    ·exact hm1
  rcases h with h | h
  ·exact go _ (.inl rfl) h
  ·exact go _ (.inr rfl) h
 len:=cp.len
 nolf:=fun x hx=>nolf (x,.free) hx rfl
 cp:=fun i j x h1 h2=>by
  obtain ⟨a,b⟩:=cp.cp i j x h1 h2
  exact ⟨a,hfs x b⟩
inductive Kd where
 | non | bl | int | str | lst | tup
 deriving DecidableEq
noncomputable def Kd.ty:Kd->Value
 | .non=>.type "NoneType" | .bl=>.type "bool" | .int=>.type "int" | .str=>.type "str" | .lst=>.type "list" | .tup=>.type "tuple"
noncomputable def GB (H:Hp) (x:V):Kd->Prop
 | .non=>x=.non
 | .bl=>∃ b,x=.bl b
 | .int=>∃ i,x=.int i
 | .str=>∃ s,x=.str s
 | .lst=>∃ a xs,x=.ref a/\H a=some (.lst xs)
 | .tup=>∃ a xs,x=.ref a/\H a=some (.tup xs)
theorem GB.Mq {K:PySem.W.Frag} {H:Hp} {x:V} {k:Kd} (h:GB H x k):TyOf K H x k.ty:=by
 cases k with
 | non=>cases h;exact .non
 | bl=>obtain ⟨b,rfl⟩:=h;exact .bl b
 | int=>obtain ⟨b,rfl⟩:=h;exact .int b
 | str=>obtain ⟨b,rfl⟩:=h;exact .str b
 | lst=>obtain ⟨a,xs,rfl,e⟩:=h;exact .lst e
 | tup=>obtain ⟨a,xs,rfl,e⟩:=h;exact .tup e
theorem EN {K:PySem.W.Frag} (k:Kd):PySem.W.kitOne K k.ty (.type "int")=some (decide (k=.int\/k=.bl)):=by cases k <;> rfl
theorem BD {K:PySem.W.Frag} (k:Kd):PySem.W.kitOne K k.ty (.type "bool")=some (decide (k=.bl)):=by cases k <;> rfl
theorem kit_tuple {K:PySem.W.Frag} (k:Kd):PySem.W.kitOne K k.ty (.type "tuple")=some (decide (k=.tup)):=by cases k <;> rfl
theorem zT {K:PySem.W.Frag} (k:Kd):PySem.W.kitOne K k.ty (.type "list")=some (decide (k=.lst)):=by cases k <;> rfl
section
variable {prog:Program} {w:World} {A:Around} {E:Value->Shared->Prop} {s:Shared}
end
section
variable {X:Cx}
theorem yu (hc:X.calm=true):br X (.builtin "max") (fun xs H Q=>∃ (p:Addr) (ns:List Int),xs=[.ref p]/\dQ X.K H p (ns.map V.int)/\0 < ns.length/\∀ M,M∈ns->(∀ a∈ns,a<=M)->Q (.int M) H):=by
 intro pins s σ H xs us Q I r h
 obtain ⟨p,ns,rfl,hq,hne,q⟩:=h
 obtain ⟨u,rfl,rx⟩:=vals1 r
 cases rx
 obtain ⟨its,rv,pl,hz⟩:=I.list hq
 have hi:=intsAre_of rv
 have hl:=pl.isList
 obtain ⟨ys,e⟩:=hi.allInts.items
 have hns:ns=ys.toList.map (·.1):=by
  rw [<- hi.numsOf,<- nums_intItems,<- e]
 have hsz:0 < ys.size:=by
  have h3:=hne;rw [hns,List.length_map,Array.length_toList] at h3;exact h3
 rw [e] at hl
 refine max_intList (I.ok.hd hc) hl hsz fun v h' tk hv hk=>?_
 obtain ⟨t,rfl⟩:=intItems_at hv
 obtain ⟨h1,h2⟩:=argBest_gt (numAt ys) (ys.size - 1)
 refine ⟨.int _,H,I.kept hk,⟨t,rfl⟩,q _ ?_ fun a ha=>?_⟩
 ·rw [hns,numAt_eq];exact getD_mem (by rw [List.length_map,Array.length_toList];omega)
 ·rw [hns] at ha
  obtain ⟨j,hj,rfl⟩:=mem_getD ha
  rw [List.length_map,Array.length_toList] at hj
  rw [<- numAt_eq];exact h2 j (by omega)
end
section
variable {prog:Program} {w:World} {A:Around} {E:Value->Shared->Prop} {s:Shared}
theorem uP (n:Nat):Builtin.Slice.sliceAdjust none none (-1) (n:Int)=((n:Int) - 1,-1):=by
 unfold Builtin.Slice.sliceAdjust
 rfl
theorem uE (n:Nat):Builtin.Slice.slicePlaces ((n:Int) - 1) (-1) (-1)=n:=by
 unfold Builtin.Slice.slicePlaces
 have h1:¬ ((-1:Int) > 0):=by decide
 simp only [h1,if_false]
 by_cases h:n=0
 ·subst h;simp
 ·rw [if_pos (by omega)]
  rw [show (- -1:Int)=1 by decide,Int.ediv_one]
  omega
theorem kj {sl:Addr} {t:Tok} {n:Nat} {Q:Int×Int×Nat->Shared->Prop} (hs:s.heap.IsSliceOf sl .none .none (.int (-1) t))
  (h:Q ((n:Int) - 1,-1,n) s):wpAny (model prog w) A (Builtin.Slice.sliceApplied (.ref sl) (pure (n:Int))) Q E s:=by
 obtain ⟨os,hos,hcs,hds⟩:=id hs
 unfold Builtin.Slice.sliceApplied Builtin.Slice.sliceFields
 refine wpAny_bind (wpAny_bind (wpAny_field hos hds (x:=.none) rfl (wpAny_bind (wpAny_field hos hds (x:=.none) rfl (wpAny_bind (wpAny_field hos hds (x:=.int (-1) t) rfl (wpAny_pure ?_)))))))
 refine wpAny_bind (slicePart_int ?_)
 show wpAny _ _ (if ((-1:Int) == 0)=true then _ else _) _ _ s
 rw [if_neg (by decide)]
 refine wpAny_bind (slicePart_none (wpAny_bind (slicePart_none (wpAny_bind (wpAny_pure ?_)))))
 show wpAny _ _ (match Builtin.Slice.sliceAdjust none none (-1) (n:Int) with | (lo,hi)=>pure (lo,(-1:Int),Builtin.Slice.slicePlaces lo hi (-1))) _ _ s
 rw [uP n]
 show wpAny _ _ (pure ((n:Int) - 1,(-1:Int),Builtin.Slice.slicePlaces ((n:Int) - 1) (-1) (-1))) _ _ s
 rw [uE]
 exact wpAny_pure h
theorem Bb (xs:Array Value):((List.range xs.size).filterMap fun (m:Nat)=>xs[((xs.size:Int) - 1+(m:Int) * (-1)).toNat]?).toArray=xs.toList.reverse.toArray:=by
 have e:(fun (m:Nat)=>xs[((xs.size:Int) - 1+(m:Int) * (-1)).toNat]?)=(fun x=>xs[x]?) ∘ fun k=>xs.size - 1 - k:=by
  funext m
  have:((xs.size:Int) - 1+(m:Int) * (-1)).toNat=xs.size - 1 - m:=by omega
  show xs[((xs.size:Int) - 1+(m:Int) * (-1)).toNat]?=xs[xs.size - 1 - m]?
  rw [this]
 rw [e,<- List.filterMap_map,PySem.W.krv_range,List.filterMap_reverse,PySem.W.krv_all]
theorem jW {t sl:Addr} {items:Array Value} {tk:Tok} {Q:Value->Shared->Prop} (ht:IsTup s.heap t items) (hs:s.heap.IsSliceOf sl .none .none (.int (-1) tk))
  (h:Q (.ref s.heap.objs.size) { s with heap:=s.heap.push { cls:=.type "tuple",data:=.seq items.toList.reverse.toArray } })
  (hsz:items.size<=sizeLine):wpAny (model prog w) A (getItem (.ref t) (.ref sl)) Q E s:=by
 have htake:sizeOk (.seq items.toList.reverse.toArray):=by
  show items.toList.reverse.toArray.size<=sizeLine
  rw [List.size_toArray,List.length_reverse,Array.length_toList]
  exact hsz
 obtain ⟨os,hos,hcs,hds⟩:=id hs
 have hTs:s.TypeIs (.ref sl) "slice" := ⟨os,hos,hcs⟩
 unfold getItem
 try with_reducible refine wpAny_holding ?_
 first | refine wpAny_bind (wpAny_pure ?_) | skip
 refine wpAny_bind (wpAny_sequenceKey ht.typeIs (by decide) ?_)
 refine wpAny_bind (wpAny_callSpecial?_slot (name:=Str.ofString "__getitem__") ht.typeIs PyProof.Rows.slot_tuple_getitem
  (wpAny_call_entry PyProof.Rows.slot_tuple_getitem ht.typeIs entry_tuple_getitem ?_ (args_tuple_getitem _ _)))
 show wpAny _ _ (Builtin.Tuple.tupleItemsOf (.ref t) >>= _) _ _ s
 refine wpAny_bind (tupleItemsOf_ ht ?_)
 refine wpAny_bind (wpAny_typeOf hTs ?_)
 rw [if_pos (by decide)]
 refine wpAny_bind (kj hs ?_)
 have hno:¬ ((((items.size:Int) - 1) == 0 && (-1:Int) == 1 && items.size == items.size)=true):=by
  intro q
  rw [Bool.and_eq_true,Bool.and_eq_true] at q
  exact absurd q.1.2 (by decide)
 show wpAny _ _ (if (((items.size:Int) - 1) == 0 && (-1:Int) == 1 && items.size == items.size)=true then _ else _) _ _ s
 rw [if_neg hno,Bb]
 first
  | exact wpAny_bind (m:=Builtin.Tuple.tupleExact _) (wpAny_newObj_type (wpAny_pure ⟨_,rfl,wpAny_pure h⟩) htake)
  | exact wpAny_bind (m:=Builtin.Tuple.tupleExact _) (wpAny_newObj_type (wpAny_bind (wpAny_pure (wpAny_pure ⟨_,rfl,wpAny_pure h⟩))) htake)
  | exact wpAny_bind (wpAny_bind (m:=Builtin.Tuple.tupleExact _) (wpAny_newObj_type (wpAny_pure (wpAny_pure ⟨_,rfl,wpAny_pure h⟩)) htake))
  | exact wpAny_bind (wpAny_bind (m:=Builtin.Tuple.tupleExact _) (wpAny_newObj_type (wpAny_pure ⟨_,rfl,wpAny_pure h⟩) htake))
end
section
variable {X:Cx}
noncomputable def JD (K:PySem.W.Frag) (te:TE):TE:=fun σ H Q=>te σ H fun x H1=>∃ a xs,x=.ref a/\cI K H1 a xs/\∀ p,H1 p=none->Q (.ref p) (upd H1 p (.tup xs.reverse))
theorem yg {e:Expr} {te:TE} {p2 pos up cp:Pos} {kk:Nat} (he:PE X e te):PE X (.Subscript e (.Slice none none (some (.UnaryOp .USub (.Constant (.int 1) kk cp) up)) p2) pos) (JD X.K te):=by
 intro pins s σ H Q I h
 refine Subscript_ (bO (he pins s σ H _ I h) fun v s1 ⟨x,H1,I1,r1,a,xs,ex,hq,q⟩=>?_)
 subst ex
 cases r1
 refine wpAny_Slice ?_
 rw [evalPart_none]
 refine wpAny_pure ?_
 refine wpAny_pure ?_
 rw [evalPart_some]
 refine bO ((FU (a:=.Constant (.int 1) kk cp) zL t6) pins s1 σ H1 (fun v H'=>v=.int (-1)/\H'=H1) I1 ⟨1,rfl,rfl,rfl⟩) fun vs s3 ⟨y,H3,I3,r3,ey,eH⟩=>?_
 subst ey eH
 obtain ⟨t,rfl⟩:=r3
 have I4:Inv X pins σ H3 { s3 with heap:=s3.heap.push { cls:=.type "slice",data:=.fields #[.none,.none,.int (-1) t] } }:=I3.kept (t':=s3.toks) fun b ob q=>Heap.get?_push_of_some _ q
 obtain ⟨its,rv,pl,hz⟩:=I4.tuple hq
 show wpAny (model X.prog X.w) X.A (subscriptTail e (.Slice none none (some (.UnaryOp .USub (.Constant (.int 1) kk cp) up)) p2) (.ref a) (.ref s3.heap.objs.size)) (EP X pins σ Q) X.xe { s3 with heap:=s3.heap.push { cls:=.type "slice",data:=.fields #[.none,.none,.int (-1) t] } }
 refine tail_any (ops:=[.ref a,.ref s3.heap.objs.size]) pl.typeIs PyProof.Rows.slot_tuple_getitem.lookup ?_ (by with_unfolding_all rfl)
 have hlen:=rv.length
 refine jW pl (Heap.IsSliceOf.new ..) ?_ (by rw [List.size_toArray] <;> omega)
 refine ⟨.ref _,_,I4.laid (t':=s3.toks) (o:=.tup xs.reverse) (fun b o e=>Heap.get?_push_of_some _ e) (Nat.le_refl _) ⟨by rw [List.length_reverse];exact hz,its.reverse,rv.reverse,?_⟩,rfl,q _ I4.fresh⟩
 exact dW.new _ _
noncomputable def J1 (K:PySem.W.Frag):V->V->Hp->VK->Prop:=fun o i H Q=>∃ p xs k v,o=.ref p/\i=.int k/\dQ K H p xs/\0<=k/\xs[k.toNat]?=some v/\Q v H
theorem C4:ID X (J1 X.K):=by
 intro pins s σ H o i ov iv Q I ro ri h
 obtain ⟨p,xs,k,v,rfl,rfl,hq,h0,hv,q⟩:=h
 cases ro
 obtain ⟨t,rfl⟩:=ri
 obtain ⟨its,r,pl,hz⟩:=I.list hq
 obtain ⟨u,eu,ru⟩:=r.get hv
 have hl:=r.length
 have hn:=iB
 have hk:k.toNat < xs.length:=(List.getElem?_eq_some_iff.mp hv).1
 exact wpAny_getItem_list pl.isList h0 (by omega) (by simpa using eu) ⟨v,H,I,ru,q⟩
end
theorem pR (elt t1 i1 t2 i2:Expr) (f1 f2:List Expr) (scope:Scope) (pos:Pos) (it acc:Value) (env:Env) :
  compTurn (.ListComp elt [⟨t1,i1,f1,0⟩,⟨t2,i2,f2,0⟩] scope pos) 0 it acc env=(do
   standAt i1.pos
   match <- pyNext it with
   | none=>pure (.done .next)
   | some v=>
    letOwnedTupleGo t1 it v
    assign t1 env v
    let mut ok:=true
    for c in f1 do
     if ok then ok <- isTrue c env (eval c env)
    if ok then
     let x <- eval i2 env
     standAt i2.pos
     let x <- foldedSetIterable i2 env x
     let _ <- runOwn (.compStart (.ListComp elt [⟨t1,i1,f1,0⟩,⟨t2,i2,f2,0⟩] scope pos) 1 (<- holding [x] (pyIter x)) acc env) env
    again (.compLoop (.ListComp elt [⟨t1,i1,f1,0⟩,⟨t2,i2,f2,0⟩] scope pos) 0 it acc env)):=by rfl
theorem pZ (elt t1 i1 t2 i2:Expr) (f1 f2:List Expr) (scope:Scope) (pos:Pos) (it acc:Value) (env:Env) :
  compTurn (.ListComp elt [⟨t1,i1,f1,0⟩,⟨t2,i2,f2,0⟩] scope pos) 1 it acc env=(do
   standAt i2.pos
   match <- pyNext it with
   | none=>pure (.done .next)
   | some v=>
    letOwnedTupleGo t2 it v
    assign t2 env v
    let mut ok:=true
    for c in f2 do
     if ok then ok <- isTrue c env (eval c env)
    if ok then
     (do let _ <- call (.builtin "list.append") [acc,<- eval elt env])
    again (.compLoop (.ListComp elt [⟨t1,i1,f1,0⟩,⟨t2,i2,f2,0⟩] scope pos) 1 it acc env)):=by rfl
section
variable {prog:Program} {w:World} {A:Around} {R:Result->Shared->Prop} {s:Shared}
theorem gU {elt t1 i1 t2 i2:Expr} {f1 f2:List Expr} {scope:Scope} {pos:Pos} {it acc:Value} {env:Env}
  (h0:codeAny (model prog w) A (.compLoop (.ListComp elt [⟨t1,i1,f1,0⟩,⟨t2,i2,f2,0⟩] scope pos) 1 it acc env) R s)
  (h:wpAny (model prog w) A (pyIter it) (fun it' s'=>codeAny (model prog w) A (.compLoop (.ListComp elt [⟨t1,i1,f1,0⟩,⟨t2,i2,f2,0⟩] scope pos) 1 it' acc env) R s')
   (notedBy (model prog w) A env fun x s'=>R (.error x) s') s) :
  codeAny (model prog w) A (.compStart (.ListComp elt [⟨t1,i1,f1,0⟩,⟨t2,i2,f2,0⟩] scope pos) 1 it acc env) R s:=by
 refine codeAny_of_tree ?_
 show wpAny _ _ ((compStart (.ListComp elt [⟨t1,i1,f1,0⟩,⟨t2,i2,f2,0⟩] scope pos) 1 it acc env).onRaise (fun x=>do noteFrame x env;standAt theWindowsPlace)) _ _ s
 refine wpAny_notedAt ?_
 unfold compStart
 show wpAny _ _ (ask >>= _) _ _ s
 refine wpAny_bind (wpAny_askSetting (wpAny_ite ?_))
 split
 ·first
   | exact wpAny_bind (wpAny_pure (wpAny_pure (And.intro rfl h0)))
   | exact wpAny_pure (And.intro rfl h0)
 ·first
   | exact wpAny_bind (wpAny_rule (wpAny_bind (wpAny_standAt (wpAny_bind (wpAny_mono h (fun it' s' h'=>wpAny_pure (And.intro rfl h')) fun _ _ x=>x)))))
   | (refine wpAny_bind (wpAny_rule ?_);show wpAny _ _ (standAt i2.pos >>= _) _ _ s;exact wpAny_bind (wpAny_standAt (wpAny_bind (wpAny_mono h (fun it' s' h'=>wpAny_pure (And.intro rfl h')) fun _ _ x=>x))))
end
noncomputable def Ct (g:TG) (tc:TT) (te:TE) (D:Addr) (Nn:L2.St->Hp->Prop) (σ:L2.St) (J:It) (H1:Hp):Prop:=
 ∃ V:Nat->Nat->L2.St->Hp->Prop,(∃ m,V 0 m σ H1)/\∀ i m σ' H',V i m σ' H' ->
  (J.stop i H'/\Nn σ' H')\/(J.go i H'/\∀ x H2,J.yld i H' x H2->g x σ' H2 fun σ3 H3=>tc σ3 H3 fun b H4=>
   if b=true then te σ3 H4 fun y H5=>∃ ys,H5 D=some (.lst ys)/\ys.length < sizeLine/\∃ m',m' < m/\V (i+1) m' σ3 (upd H5 D (.lst (ys++[y])))
   else ∃ m',m' < m/\V (i+1) m' σ3 H4)
theorem tP {Z:Cx} {t1 i1 tg i2 elt:Expr} {f1 ifs:List Expr} {scope:Scope} {pos:Pos} {J:It} {fp:List Addr} {it D:Addr} {tn:Nat->Heap->Prop} {pins:List (Addr×Obj)} {σ:L2.St} {H:Hp} {s:Shared} {g:TG} {tc:TT} {te:TE} {Nn:L2.St->Hp->Prop}
  (hc:Z.calm=true) (hxe:Z.xe=fun _ _=>False) (T:Turn Z.prog Z.w Z.K tg J fp it tn) (I:Inv Z pins σ H s) (st:tn 0 s.heap) (hf:∀ b∈fp,iT Z pins H b) (hg:PG Z tg g) (ht:E8 Z ifs tc) (he:PE Z elt te) (goal:Ct g tc te D Nn σ J H) :
  codeAny (model Z.prog Z.w) Z.A (.compLoop (.ListComp elt [⟨t1,i1,f1,0⟩,⟨tg,i2,ifs,0⟩] scope pos) 1 (.ref it) (.ref D) Z.env) (fun r s'=>r=.ok .next/\∃ σ' H',Inv Z pins σ' H' s'/\Nn σ' H') s:=by
 obtain ⟨V,⟨m0,v0⟩,turn⟩:=goal
 have stat:∀ {H':Hp},(∀ b∈fp,H' b=none)->∀ b∈fp,iT Z pins H' b:=fun hn b hb=>⟨hn b hb,(hf b hb).2⟩
 refine codeAny_loop rfl (fun n s'=>∃ i σ' H',Inv Z pins σ' H' s'/\tn i s'.heap/\(∀ b∈fp,H' b=none)/\V i n σ' H') (fun n s5 hI=>?_) m0 ⟨0,σ,H,I,st,fun b hb=>(hf b hb).1,v0⟩
 obtain ⟨i,σ5,H5,I5,st5,fr5,w5⟩:=hI
 show wpAny _ Z.A ((compTurn (.ListComp elt [⟨t1,i1,f1,0⟩,⟨tg,i2,ifs,0⟩] scope pos) 1 (.ref it) (.ref D) Z.env).onRaise (fun x=>do noteFrame x _;theTreesLotGoes x)) _ _ s5
 refine wpAny_noted ?_
 rw [pZ]
 refine wpAny_bind (wpAny_standAt (wpAny_bind ?_))
 rcases turn i n σ5 H5 w5 with ⟨stop,q⟩ | ⟨go,step⟩
 ·refine bO (T.done Z rfl rfl rfl hc i pins s5 σ5 H5 _ I5 (stat fr5) st5 stop) fun r s6 ⟨hr,I6⟩=>?_
  subst hr
  exact wpAny_pure ⟨rfl,σ5,H5,I6,q⟩
 ·refine bO (T.item Z rfl rfl rfl hc i pins s5 σ5 H5 _ I5 (stat fr5) st5 go) fun r s6 ⟨u,hr,h6⟩=>?_
  subst hr
  refine wpAny_bind (bO h6 fun _ s7 ⟨x,H7,I7,r7,y7,st7,fr7⟩=>?_)
  have I7':=I7.pinned (stat fr7) (T.obj _ _ st7)
  have toF:∀ {α:Type} {t:Sem α} {Q Q':α->Shared->Prop} {E:Value->Shared->Prop} {s:Shared},wpAny (model Z.prog Z.w) Z.A t Q Z.xe s->(∀ a s,Q a s->Q' a s)->wpAny (model Z.prog Z.w) Z.A t Q' E s:=fun h hQ=>by
   rw [hxe] at h
   exact qa h hQ
  refine wpAny_bind (toF (hg _ s7 σ5 H7 x u _ I7' r7 (step x H7 y7)) fun _ s8 ⟨σ8,H8,I8,q8⟩=>?_)
  refine wpAny_bind (toF (ht _ s8 σ8 H8 _ I8 q8) fun ok s9 ⟨H9,I9,q9⟩=>?_)
  have again:∀ {s10:Shared} {H10:Hp},Inv Z (pins++jv fp s7.heap) σ8 H10 s10->(∃ m',m' < n/\V (i+1) m' σ8 H10) ->
    ∃ m,m < n/\∃ i σ' H',Inv Z pins σ' H' s10/\tn i s10.heap/\(∀ b∈fp,H' b=none)/\V i m σ' H':=fun {s10 H10} I10 ⟨m',hm,w10⟩=>by
   refine ⟨m',hm,i+1,σ8,H10,I10.gq,T.keep _ _ _ st7 fun b hb o e=>(I10.pin (b,o) (List.mem_append_right _ (List.mem_append_right _ (cS hb e)))).1,fun b hb=>?_,w10⟩
   obtain ⟨o,e,d⟩:=T.obj _ _ st7 b hb
   exact (I10.pin (b,o) (List.mem_append_right _ (List.mem_append_right _ (cS hb e)))).2.1
  cases ok with
  | false=>
   rw [if_neg Bool.false_ne_true] at q9
   exact wpAny_pure ⟨rfl,again I9 q9⟩
  | true=>
   rw [if_pos rfl] at q9
   refine wpAny_bind (wpAny_bind (toF (he _ s9 σ8 H9 _ I9 q9) fun y s10 ⟨v10,H10,I10,r10,ys,hD,hz,w10⟩=>?_))
   refine wpAny_bind (toF (j8 _ s10 σ8 H10 (.ref D) [v10] _ [y] (fun _ H'=>H'=upd H10 D (.lst (ys++[v10]))) I10 rfl (.cons r10 .nil) ⟨_,ys,v10,rfl,rfl,hD,hz,rfl⟩) fun _ s11 ⟨_,H11,I11,_,e11⟩=>?_)
   subst e11
   exact wpAny_pure (wpAny_pure ⟨rfl,again I11 w10⟩)
noncomputable def EA (cap:List (Option Nat)) (g:TG) (tc:TT) (wi2:TI) (g2:TG) (tc2:TT) (te:TE) (σ:L2.St) (Q:VK) (J:It) (H1:Hp):Prop:=∀ D,H1 D=none ->
 ∃ W:Nat->Nat->L2.St->Hp->Prop,(∃ m,W 0 m (cap.map (Dk σ)) (upd H1 D (.lst [])))/\∀ i m σ' H',W i m σ' H' ->
  (J.stop i H'/\Q (.ref D) H')\/(J.go i H'/\∀ x H2,J.yld i H' x H2->g x σ' H2 fun σ3 H3=>tc σ3 H3 fun b H4=>
   if b=true then wi2 σ3 H4 (Ct g2 tc2 te D (fun σ5 H5=>∃ m',m' < m/\W (i+1) m' σ5 H5) σ3)
   else ∃ m',m' < m/\W (i+1) m' σ3 H4)
noncomputable def Mc (cap:List (Option Nat)) (wi:TI) (g:TG) (tc:TT) (wi2:TI) (g2:TG) (tc2:TT) (te:TE):TE:=fun σ H Q=>wi σ H (EA cap g tc wi2 g2 tc2 te σ Q)
theorem HD {X:Cx} {tg iter tg2 iter2 elt:Expr} {ifs ifs2:List Expr} {scope:Scope} {pos:Pos} {N:List Str} {cap:List (Option Nat)} {wi wi2:TI} {g g2:TG} {tc tc2:TT} {te:TE} (hc:X.calm=true) (S:CpScope X scope N cap) (hi:PI X tg iter wi)
  (hg:∀ C s₀ H₀ ex,PG (cO X scope N C s₀ H₀ ex) tg g) (ht:∀ C s₀ H₀ ex,E8 (cO X scope N C s₀ H₀ ex) ifs tc) (hi2:∀ C s₀ H₀ ex,PI (cO X scope N C s₀ H₀ ex) tg2 iter2 wi2)
  (hg2:∀ C s₀ H₀ ex,PG (cO X scope N C s₀ H₀ ex) tg2 g2) (ht2:∀ C s₀ H₀ ex,E8 (cO X scope N C s₀ H₀ ex) ifs2 tc2) (he:∀ C s₀ H₀ ex,PE (cO X scope N C s₀ H₀ ex) elt te)
  (hs:∀ x,foldedSetIterable iter X.env x=pure x:=by intro _;rfl) (hs2:∀ env x,foldedSetIterable iter2 env x=pure x:=by intro _ _;rfl):PE X (.ListComp elt [⟨tg,iter,ifs,0⟩,⟨tg2,iter2,ifs2,0⟩] scope pos) (Mc cap wi g tc wi2 g2 tc2 te):=by
 intro pins s σ H Q I h
 have hfree:∀ y∈scope.names,y.2=.free->∃ c,X.env.cells.lookup y.1=some c:=fun y hy e=>I.ok.has _ (S.fr y hy e)
 rw [eval_ListComp]
 refine wpAny_comprehension_free (use:=none) rfl hs (mT hfree) S.kind S.nm (bO (hi pins s σ H _ I h) fun xv s1 h1=>bO h1 fun itv s2 h2=>?_)
 obtain ⟨it,fp,tn,J,H2,rfl,I2,T,st2,f2,h2⟩:=h2
 refine wpAny_newObj_type (wpAny_newFunctionEnv S.nocell (by intro y hy;simp at hy) (fun h₁ hns₁ hsb₁=>?_) S.kind)
 obtain ⟨W,⟨m0,w0⟩,turn⟩:=h2 s2.heap.objs.size I2.fresh
 dsimp only at hns₁ hsb₁ ⊢
 have I3:Inv X pins σ (upd H2 s2.heap.objs.size (.lst [])) { s2 with heap:=s2.heap.push { cls:=.type "list",data:=.seq ([]:List Value).toArray } }:=I2.zO (t':=s2.toks) (its:=[]) .nil (Nat.zero_le _)
 have hfp:∀ b∈fp,∃ o,s2.heap.get? b=some o:=fun b hb=>by
  obtain ⟨o,e,_⟩:=T.obj 0 _ st2 b hb
  exact ⟨o,e⟩
 have neD:∀ b∈fp,b≠s2.heap.objs.size:=fun b hb=>by
  obtain ⟨o,e⟩:=hfp b hb
  exact Nat.ne_of_lt (Heap.lt_size e)
 have f3:∀ b∈fp,iT X pins (upd H2 s2.heap.objs.size (.lst [])) b:=fun b hb=>⟨by rw [aI (neD b hb)];exact (f2 b hb).1,(f2 b hb).2⟩
 have hDC:s2.heap.objs.size≠(s2.heap.push { cls:=.type "list",data:=.seq ([]:List Value).toArray }).objs.size:=by rw [Heap.size_push];exact Nat.ne_of_lt (Nat.lt_succ_self _)
 have old:∀ b o,(s2.heap.push { cls:=.type "list",data:=.seq ([]:List Value).toArray }).get? b=some o->h₁.get? b=some o:=fun b o e=>hsb₁.extBut b o (Nat.ne_of_lt (Heap.lt_size e)) (Heap.get?_push_of_some _ e)
 have I4:=zm (tk:=s2.toks+([]:List (Str×Value)).length) (fp:=fp) S I3 f3 (fun b hb=>by
  obtain ⟨o,e⟩:=hfp b hb
  exact ⟨o,Heap.get?_push_of_some _ e⟩) hns₁ old
 have st4:tn 0 h₁:=T.keep _ _ _ st2 fun b hb o e=>old b o (Heap.get?_push_of_some _ e)
 have stat:∀ {H':Hp},(∀ b∈fp,H' b=none)->∀ b∈fp,iT (cO X scope N (s2.heap.push { cls:=.type "list",data:=.seq ([]:List Value).toArray }).objs.size { s2 with heap:=s2.heap.push { cls:=.type "list",data:=.seq ([]:List Value).toArray } } (upd H2 s2.heap.objs.size (.lst [])) fp) [] H' b:=fun hn b hb=>by
  have ok:=I4.ok
  refine ⟨hn b hb,(ok.exf b hb).1,ok.exfs b hb,.inl hb,fun x c e=>(ok.exf b hb).2 x c e,fun p hp=>nomatch hp⟩
 have loop:∀ s4:Shared,s4={ s2 with heap:=h₁,toks:=s2.toks+([]:List (Str×Value)).length } ->
   codeAny (model X.prog X.w) X.A (.compLoop (.ListComp elt [⟨tg,iter,ifs,0⟩,⟨tg2,iter2,ifs2,0⟩] scope pos) 0 (.ref it) (.ref s2.heap.objs.size) (compEnvC scope (iS X.env scope.names []) (s2.heap.push { cls:=.type "list",data:=.seq ([]:List Value).toArray }).objs.size X.env))
    (compPost (model X.prog X.w) X.A X.xe none (EP X pins σ Q) (.ref s2.heap.objs.size) (s2.heap.push { cls:=.type "list",data:=.seq ([]:List Value).toArray }).objs.size) s4:=by
  rintro s4 rfl
  refine codeAny_loop rfl (fun n s'=>∃ i σ' H',Inv (cO X scope N (s2.heap.push { cls:=.type "list",data:=.seq ([]:List Value).toArray }).objs.size { s2 with heap:=s2.heap.push { cls:=.type "list",data:=.seq ([]:List Value).toArray } } (upd H2 s2.heap.objs.size (.lst [])) fp) [] σ' H' s'/\tn i s'.heap/\(∀ b∈fp,H' b=none)/\W i n σ' H') (fun n s5 hI=>?_) m0 ⟨0,_,_,I4,st4,fun b hb=>(f3 b hb).1,w0⟩
  obtain ⟨i,σ5,H5,I5,st5,fr5,w5⟩:=hI
  show wpAny _ X.A ((compTurn (.ListComp elt [⟨tg,iter,ifs,0⟩,⟨tg2,iter2,ifs2,0⟩] scope pos) 0 (.ref it) (.ref s2.heap.objs.size) (compEnvC scope (iS X.env scope.names []) (s2.heap.push { cls:=.type "list",data:=.seq ([]:List Value).toArray }).objs.size X.env)).onRaise (fun x=>do noteFrame x _;theTreesLotGoes x)) _ _ s5
  refine wpAny_noted ?_
  rw [pR]
  refine wpAny_bind (wpAny_standAt (wpAny_bind ?_))
  rcases turn i n σ5 H5 w5 with ⟨stop,q⟩ | ⟨go,step⟩
  ·refine bO (T.done (cO X scope N (s2.heap.push { cls:=.type "list",data:=.seq ([]:List Value).toArray }).objs.size { s2 with heap:=s2.heap.push { cls:=.type "list",data:=.seq ([]:List Value).toArray } } (upd H2 s2.heap.objs.size (.lst [])) fp) rfl rfl rfl hc i [] s5 σ5 H5 _ I5 (stat fr5) st5 stop) fun r s6 ⟨hr,I6⟩=>?_
   subst hr
   obtain ⟨m6,hn6,_⟩:=I6.loc
   refine wpAny_pure ⟨m6,hn6,fun h' sb=>?_⟩
   have u6:=I6.base
   have nC:∀ b o,(s2.heap.push { cls:=.type "list",data:=.seq ([]:List Value).toArray }).get? b=some o->b≠(s2.heap.push { cls:=.type "list",data:=.seq ([]:List Value).toArray }).objs.size:=fun b o e=>Nat.ne_of_lt (Heap.lt_size e)
   refine ⟨.ref s2.heap.objs.size,H5,?_,rfl,q⟩
   refine I3.FT (ch:=fp) I6.os ⟨fun b o e n hb hx=>?_,fun b o e n hb hx=>?_,fun b o e n hx=>?_,fun b o e hx=>?_,u6.tups,u6.frzs,u6.tbls⟩ ?_ I6.bare ?_
   ·exact sb.extBut b o (nC b o e) (u6.keep b o e n hb hx)
   ·obtain ⟨sl,z⟩:=u6.slot b o e n hb hx
    exact ⟨sl,sb.extBut b _ (nC b o e) z⟩
   ·exact u6.free b o e n hx
   ·obtain ⟨o',z⟩:=u6.there b o e hx
    exact ⟨o',sb.extBut b _ (nC b o e) z⟩
   ·intro b o e
    have hb:∀ c v,H5 c=some v->c≠(s2.heap.push { cls:=.type "list",data:=.seq ([]:List Value).toArray }).objs.size:=fun c v e z=>by
     rw [z] at e
     have:=I6.free
     rw [show H5 (s2.heap.push { cls:=.type "list",data:=.seq ([]:List Value).toArray }).objs.size=none from this] at e
     cases e
    refine (I6.hok b o e).stay (fun c v hc q=>sb.extBut c v ?_ q) (fun _ q=>q) fun _ _ q=>q
    rcases hc with z | z
    ·rw [z];exact hb b o e
    ·exact hb c _ z
   ·intro b hb
    obtain ⟨_,z1,_,z3,z4,z5⟩:=f3 b hb
    exact ⟨z3,z1,z4,z5⟩
  ·refine bO (T.item (cO X scope N (s2.heap.push { cls:=.type "list",data:=.seq ([]:List Value).toArray }).objs.size { s2 with heap:=s2.heap.push { cls:=.type "list",data:=.seq ([]:List Value).toArray } } (upd H2 s2.heap.objs.size (.lst [])) fp) rfl rfl rfl hc i [] s5 σ5 H5 _ I5 (stat fr5) st5 go) fun r s6 ⟨u,hr,h6⟩=>?_
   subst hr
   refine wpAny_bind (bO h6 fun _ s7 ⟨x,H7,I7,r7,y7,st7,fr7⟩=>?_)
   have I7':=I7.pinned (stat fr7) (T.obj _ _ st7)
   refine wpAny_bind (qa (hg _ _ _ fp _ s7 σ5 H7 x u _ I7' r7 (step x H7 y7)) fun _ s8 ⟨σ8,H8,I8,q8⟩=>?_)
   refine wpAny_bind (qa (ht _ _ _ fp _ s8 σ8 H8 _ I8 q8) fun ok s9 ⟨H9,I9,q9⟩=>?_)
   have again:∀ {s10:Shared} {H10:Hp} {σ10:L2.St},Inv (cO X scope N (s2.heap.push { cls:=.type "list",data:=.seq ([]:List Value).toArray }).objs.size { s2 with heap:=s2.heap.push { cls:=.type "list",data:=.seq ([]:List Value).toArray } } (upd H2 s2.heap.objs.size (.lst [])) fp) ([]++jv fp s7.heap) σ10 H10 s10->(∃ m',m' < n/\W (i+1) m' σ10 H10) ->
     ∃ m,m < n/\∃ i σ' H',Inv (cO X scope N (s2.heap.push { cls:=.type "list",data:=.seq ([]:List Value).toArray }).objs.size { s2 with heap:=s2.heap.push { cls:=.type "list",data:=.seq ([]:List Value).toArray } } (upd H2 s2.heap.objs.size (.lst [])) fp) [] σ' H' s10/\tn i s10.heap/\(∀ b∈fp,H' b=none)/\W i m σ' H':=fun {s10 H10 σ10} I10 ⟨m',hm,w10⟩=>by
    refine ⟨m',hm,i+1,σ10,H10,I10.gq,T.keep _ _ _ st7 fun b hb o e=>(I10.pin (b,o) (List.mem_append_right _ (List.mem_append_right _ (cS hb e)))).1,fun b hb=>?_,w10⟩
    obtain ⟨o,e,d⟩:=T.obj _ _ st7 b hb
    exact (I10.pin (b,o) (List.mem_append_right _ (List.mem_append_right _ (cS hb e)))).2.1
   cases ok with
   | false=>
    rw [if_neg Bool.false_ne_true] at q9
    exact wpAny_pure ⟨rfl,again I9 q9⟩
   | true=>
    rw [if_pos rfl] at q9
    refine wpAny_bind (qa (hi2 _ _ _ fp _ s9 σ8 H9 _ I9 q9) fun xv s10 h10=>wpAny_bind (wpAny_standAt ?_))
    rw [hs2]
    refine wpAny_bind (wpAny_pure (wpAny_bind (wpAny_holding (qa h10 fun itv s11 h11=>?_))))
    obtain ⟨it2,fp2,tn2,J2,H11,rfl,I11,T2,st11,f11,goal⟩:=h11
    have hcz:=hc
    have loop2:=(fun (Z:Cx) (h1:Z.calm=true) (h2:Z.xe=fun _ _=>False) T2 I11=>tP (Z:=Z) (t1:=tg) (i1:=iter) (f1:=ifs) (i2:=iter2) (scope:=scope) (pos:=pos) h1 h2 T2 I11) _ (show (cO X scope N _ _ _ fp).calm=true from hcz) rfl T2 I11 st11 f11 (hg2 _ _ _ fp) (ht2 _ _ _ fp) (he _ _ _ fp) goal
    refine wpAny_bind (wpAny_runOwn (codeAny_mono (gU loop2 (T2.self _ 0 _ _ _ st11 loop2)) fun r s12 hr12=>?_))
    obtain ⟨hr,σ12,H12,I12,n12⟩:=hr12
    subst hr
    exact wpAny_pure ⟨rfl,again I12 n12⟩
 exact codeAny_compStart_list (loop _ rfl) (T.self _ 0 _ _ _ st4 (loop _ rfl))
end L2
namespace L2
open PySem PySem.Spec PyProof.Rows
open PySem.SeqAt
open PySem.AutoSeq1 (wpAny_loadPart')
open PySem.MeetsSeq PySem.MeetsSeq2 PySem.MeetsSeq3 PySem.SeqAt
section
variable {prog:Program} {w:World} {A:Around} {E:Value->Shared->Prop} {s:Shared}
end
section
variable {X:Cx}
theorem AQ:d7 X (binaryOp .FloorDiv) (rI (fun _ j=>0 < j/\j < 18446744073709551616) fun i j=>.int (i / j)):=Ls fun i j _ _ _ _ _ hc q=>by
 have h1:(0:Int) < j:=hc.1
 have h2:j < 18446744073709551616:=hc.2
 refine floordiv_int (by omega) (by rw [Int.fdiv_eq_ediv_of_nonneg i (by omega)];exact q) (.inl (PyProof.noPylong_of_log2 ?_))
 exact Nat.lt_of_lt_of_le ((Nat.log2_lt (by omega)).mpr (show j.natAbs < 2 ^ 64 by omega)) (by decide)
noncomputable def ND (K:PySem.W.Frag):R2:=fun x y H Q=>∃ a b ns ms,x=.ref a/\y=.ref b/\dQ K H a (ns.map V.int)/\dQ K H b (ms.map V.int)/\Q (.bl (HT.lexLt ms ns)) H
end
end L2
namespace L2
open PySem PySem.Spec PyProof.Rows
noncomputable def MG (x:Str):It:=⟨fun i _=>i < x.cps.size,fun i H v H'=>H'=H/\∃ c,x.cps[i]?=some c/\v=.str ⟨#[c]⟩,fun i _=>i=x.cps.size⟩
theorem Aw {P:Program} {w:World} {K:PySem.W.Frag} {tg:Expr} (x:Str) (t:Tok) (it:Addr):Turn P w K tg (MG x) [it] it (fun i h=>h.IsStrIter it "str_ascii_iterator" x t i) where
 mem:=by simp
 obj:=fun i h st b hb=>by
  have e:b=it:=by simpa using hb
  subst e
  obtain ⟨o,e,c,d⟩:=st
  exact ⟨o,e,fun v z=>by rw [d] at z;cases z⟩
 keep:=fun i h h' st k=>let ⟨o,ho,r⟩:=st;⟨o,k it (by simp) o ho,r⟩
 item:=by
  intro X hP hw hK hc i pins s σ H E I hf st hg
  subst hP hw hK
  obtain ⟨f0,f1,f2,f3,f4,f5⟩:=hf it (by simp)
  have W:=Walks.strAscii (prog:=X.prog) (w:=X.w) (I.ok.hd hc) it x t
  refine W.item i s _ _ hg st fun v h' tk hv st' kk=>?_
  obtain ⟨c,u,hcx,rfl⟩:=hv
  have I1:Inv X pins σ H { s with heap:=h',toks:=tk }:=I.turned (fun b o hb e=>kk b o (by simpa using hb) e) f0 f1 f3 f4 f5
  obtain ⟨o,e,cc,d⟩:=id st'
  exact ⟨_,rfl,wD (s:={ s with heap:=h',toks:=tk }) e cc d (by decide) ⟨.str ⟨#[c]⟩,H,I1,⟨u,rfl⟩,⟨rfl,c,hcx,rfl⟩,st',fun b hb=>(hf b hb).1⟩⟩
 done:=by
  intro X hP hw hK hc i pins s σ H E I hf st hg
  subst hP hw hK
  obtain ⟨f0,f1,f2,f3,f4,f5⟩:=hf it (by simp)
  have hg:i=x.cps.size:=hg
  subst hg
  have W:=Walks.strAscii (prog:=X.prog) (w:=X.w) (I.ok.hd hc) it x t
  exact W.done s _ _ st fun h' tk kk=>⟨rfl,I.turned (fun b o hb e=>kk b o (by simpa using hb) e) f0 f1 f3 f4 f5⟩
 self:=fun _ _ _ _ _ st h=>wpAny_pyIter_striter_ascii st h
section
variable {X:Cx} {tg:Expr}
noncomputable def L4 (tl:TE):TI:=fun σ H R=>tl σ H fun x H1=>∃ y:Str,x=.str y/\y.cps.all (· < 128)=true/\R (MG y) H1
theorem Hl {l:Expr} {tl:TE} (hl:PE X l tl):PI X tg l (L4 tl):=by
 intro pins s σ H R I h
 refine bO (hl pins s σ H _ I h) fun v s1 ⟨x,H1,I1,r1,q1⟩=>?_
 obtain ⟨y,e,ha,q⟩:=q1
 subst e
 obtain ⟨t,rfl⟩:=r1
 refine wpAny_pyIter_ascii ha ?_
 refine ⟨s1.heap.objs.size,[s1.heap.objs.size],_,_,H1,rfl,I1.kept (t':=s1.toks) fun b o e=>Heap.get?_push_of_some _ e,Aw y t _,⟨_,Heap.get?_push_size _ rfl,rfl,rfl⟩,fun b hb=>?_,q⟩
 have e:b=s1.heap.objs.size:=by simpa using hb
 subst e
 exact I1.CM (Nat.le_refl _) (I1.hok.fresh (Nat.le_refl _))
theorem yF:br X (.type "int") (fun xs H Q=>∃ (y:Str) (n:Int),xs=[.str y]/\y.length<=640/\PySem.intText? y=some n/\Q (.int n) H):=by
 intro pins s σ H xs us Q I rv h
 obtain ⟨y,n,rfl,hl,hn,q⟩:=h
 obtain ⟨w,rfl,rw'⟩:=vals1 rv
 obtain ⟨u,rfl⟩:=rw'
 exact PySem.W.KIN.call_text hn hl ⟨.int n,H,I.tok _,⟨_,rfl⟩,q⟩
end
section
variable {κ:Type} [DecidableEq κ]
noncomputable def jL (kvs:List (κ×V)) (k:κ):Option V:=(kvs.find? fun kv=>decide (kv.1=k)).map (·.2)
noncomputable def putK (kvs:List (κ×V)) (k:κ) (v:V):List (κ×V):=
 if (kvs.any fun kv=>decide (kv.1=k))=true then kvs.map (fun kv=>if kv.1=k then (kv.1,v) else kv) else kvs++[(k,v)]
theorem jQ {p:κ×V} {r:List (κ×V)} {k:κ} (e:p.1=k):jL (p::r) k=some p.2:=by simp [jL,List.find?_cons,e]
theorem jS {p:κ×V} {r:List (κ×V)} {k:κ} (e:¬ p.1=k):jL (p::r) k=jL r k:=by simp [jL,List.find?_cons,e]
theorem nq (k:κ):∀ kvs:List (κ×V),(kvs.any fun kv=>decide (kv.1=k))=(jL kvs k).isSome
 | []=>rfl
 | p::r=>by
  rw [List.any_cons]
  by_cases e:p.1=k
  ·simp only [jQ e,decide_eq_true e,Bool.true_or,Option.isSome_some]
  ·rw [jS e,decide_eq_false e,Bool.false_or];exact nq k r
theorem kG (kvs:List (κ×V)) (k:κ) (v:V):(putK kvs k v).length<=kvs.length+1:=by
 unfold putK
 split
 ·rw [List.length_map];omega
 ·rw [List.length_append,List.length_cons,List.length_nil];omega
theorem nj.kC {o:Option V} {u:Option Value} (r:nj o u):o.isSome=u.isSome:=by
 cases o with
 | none=>cases u with
  | none=>rfl
  | some _=>exact (show False from r).elim
 | some _=>cases u with
  | none=>exact (show False from r).elim
  | some _=>rfl
theorem KV.val {kvs:List (κ×V)} {vs:List (κ×Value)} (r:KV kvs vs) (k:κ):nj (jL kvs k) (valueAt vs k):=by
 unfold KV at r
 induction r with
 | nil=>exact True.intro
 | @cons p q ps qs h t ih=>
  obtain ⟨h1,h2⟩:=h
  by_cases e:p.1=k
  ·have e':q.1=k:=h1.symm.trans e
   have b:valueAt (q::qs) k=some q.2:=by simp [valueAt,List.find?_cons,e']
   rw [jQ e,b];exact h2
  ·have e':¬ q.1=k:=fun z=>e (h1.trans z)
   have b:valueAt (q::qs) k=valueAt qs k:=by simp [valueAt,List.find?_cons,e']
   rw [jS e,b];exact ih
theorem KV.any {kvs:List (κ×V)} {vs:List (κ×Value)} (r:KV kvs vs) (k:κ):(kvs.any fun kv=>decide (kv.1=k))=vs.any fun kv=>decide (kv.1=k):=by
 unfold KV at r
 induction r with
 | nil=>rfl
 | cons h t ih=>rw [List.any_cons,List.any_cons,ih,h.1]
theorem KV.repl {kvs:List (κ×V)} {vs:List (κ×Value)} (r:KV kvs vs) (k:κ) {y:V} {u:Value} (ry:RelV y u) :
  KV (kvs.map fun kv=>if kv.1=k then (kv.1,y) else kv) (vs.map fun kv=>if kv.1=k then (kv.1,u) else kv):=by
 unfold KV at r ⊢
 induction r with
 | nil=>exact .nil
 | @cons p q ps qs h t ih=>
  rw [List.map_cons,List.map_cons]
  refine .cons ?_ ih
  obtain ⟨h1,h2⟩:=h
  by_cases e:p.1=k
  ·rw [if_pos e,if_pos (h1.symm.trans e)];exact ⟨h1,ry⟩
  ·rw [if_neg e,if_neg (fun z=>e (h1.trans z))];exact ⟨h1,h2⟩
theorem KV.put {kvs:List (κ×V)} {vs:List (κ×Value)} (r:KV kvs vs) (k:κ) {y:V} {u:Value} (ry:RelV y u):KV (putK kvs k y) (stored vs k u):=by
 unfold putK stored
 rw [r.any k]
 by_cases e:(vs.any fun kv=>decide (kv.1=k))=true
 ·rw [if_pos e,if_pos e];exact r.repl k ry
 ·rw [if_neg e,if_neg e];exact Paired.snoc r ⟨rfl,ry⟩
theorem KV.length {kvs:List (κ×V)} {vs:List (κ×Value)} (r:KV kvs vs):kvs.length=vs.length:=Paired.length r
end
theorem w4 {P:Program} {w:World} {k:Key} {u:Value} (r:RelV (kV k) u):(b_ P w).is k u=true:=by
 cases k with
 | inl i=>obtain ⟨t,e⟩:=(show ∃ t,u=Value.int i t from r);subst e;exact su P w i t
 | inr x=>obtain ⟨t,e⟩:=(show ∃ t,u=Value.str x t from r);subst e;exact qE P w x t
theorem oS {P:Program} {w:World}:∀ {ks:List Key} {us:List Value},Vals (ks.map kV) us->ItemsAre (b_ P w) ks us
 | [],_,r=>by rw [List.map_nil] at r;cases r;exact .nil
 | k::ks,_,r=>by
  rw [List.map_cons] at r
  cases r with
  | cons h t=>exact .cons (w4 h) (oS t)
noncomputable abbrev KT (H:Hp):List (List Key×V)->List (List Key×Addr×Value)->Prop:=Paired fun p q=>p.1=q.1/\H q.2.1=some (.tup (p.1.map kV))/\RelV p.2 q.2.2
theorem KT.val {H:Hp} {kvs:List (List Key×V)} {xs:List (List Key×Addr×Value)} (r:KT H kvs xs) (k:List Key):nj (jL kvs k) ((atKey xs k).map (·.2)):=by
 induction r with
 | nil=>exact True.intro
 | @cons p q ps qs h t ih=>
  obtain ⟨h1,_,h2⟩:=h
  by_cases e:p.1=k
  ·have e':q.1=k:=h1.symm.trans e
   have b:atKey (q::qs) k=some q.2:=by simp [atKey,List.find?_cons,e']
   rw [jQ e,b];exact h2
  ·have e':¬ q.1=k:=fun z=>e (h1.trans z)
   have b:atKey (q::qs) k=atKey qs k:=by simp [atKey,List.find?_cons,e']
   rw [jS e,b];exact ih
theorem KT.repl {H:Hp} {kvs:List (List Key×V)} {xs:List (List Key×Addr×Value)} (r:KT H kvs xs) (k:List Key) {y:V} {u:Value} (ry:RelV y u) :
  KT H (kvs.map fun kv=>if kv.1=k then (kv.1,y) else kv) (xs.map (putAt k u)):=by
 induction r with
 | nil=>exact .nil
 | @cons p q ps qs h t ih=>
  rw [List.map_cons,List.map_cons]
  refine .cons ?_ ih
  obtain ⟨h1,h2,h3⟩:=h
  unfold putAt
  by_cases e:p.1=k
  ·rw [if_pos e,if_pos (h1.symm.trans e)];exact ⟨h1,h2,ry⟩
  ·rw [if_neg e,if_neg (fun z=>e (h1.trans z))];exact ⟨h1,h2,h3⟩
theorem KT.put {H:Hp} {kvs:List (List Key×V)} {xs:List (List Key×Addr×Value)} (r:KT H kvs xs) (k:List Key) {b:Addr} {y:V} {u:Value} (hb:H b=some (.tup (k.map kV))) (ry:RelV y u) :
  KT H (putK kvs k y) (storedH xs k b u):=by
 have e:(kvs.any fun kv=>decide (kv.1=k))=(atKey xs k).isSome:=by
  rw [nq,(r.val k).kC,Option.isSome_map]
 unfold putK storedH
 rw [e]
 by_cases q:(atKey xs k).isSome=true
 ·rw [if_pos q,if_pos q];exact r.repl k ry
 ·rw [if_neg q,if_neg q];exact Paired.snoc r ⟨rfl,hb,ry⟩
theorem KT.keeps {H H':Hp} {kvs:List (List Key×V)} {xs:List (List Key×Addr×Value)} (r:KT H kvs xs) (ht:∀ b ys,H b=some (.tup ys)->H' b=some (.tup ys)):KT H' kvs xs:=
 Paired.Ip r fun _ _ z=>⟨z.1,ht _ _ z.2.1,z.2.2⟩
section
variable {P:Program} {w:World} {H:Hp} {h:Heap} {a:Addr}
theorem FH {u:HO} (ok:iU P w H h) (e:Rd H a u):bM P w H h a u:=e.ok ok
theorem vh {kvs:List (Key×V)} (ok:iU P w H h) (e:Rd H a (.dK kvs)):kvs.length<=sizeLine/\(a == sysModules)=false/\∃ vs,KV kvs vs/\h.DictOf (b_ P w) a vs:=
 show bM P w H h a (.dK kvs) from FH ok e
theorem K5 {kvs:List (Key×V)} (ok:iU P w H h) (e:H a=some (.dK kvs)):kvs.length<=sizeLine/\(a == sysModules)=false/\∃ vs,KV kvs vs/\h.DictOf (b_ P w) a vs:=vh ok (.inl e)
theorem mY {ks:List Key} (ok:iU P w H h) (e:H a=some (.tup (ks.map kV))):(tupleKind (b_ P w)).is h ks a:=by
 obtain ⟨_,its,r,o,h1,h2,_,n,h3⟩:=(show bM P w H h a (.tup (ks.map kV)) from ok a _ e)
 exact ⟨o,its.toArray,n,h1,h2,h3,by simpa using oS r⟩
theorem vH {kvs:List (List Key×V)} (ok:iU P w H h) (e:Rd H a (.dT kvs)):kvs.length<=sizeLine/\(a == sysModules)=false /\
  ∃ xs,KT H kvs xs/\h.DictOfH (tupleKind (b_ P w)) a xs:=by
 obtain ⟨z,y,xs,r,o,es,ep,h1,h2,h3,h4,h5⟩:=(show bM P w H h a (.dT kvs) from FH ok e)
 refine ⟨z,y,xs,r,o,es,ep,h1,h2,h3,h4,fun x hx=>?_,h5⟩
 have all:∀ {l:List (List Key×V)} {m:List (List Key×Addr×Value)},KT H l m->∀ x∈m,(tupleKind (b_ P w)).is h x.1 x.2.1:=by
  intro l m q
  induction q with
  | nil=>intro x hx;exact nomatch hx
  | @cons p q ps qs hq t ih=>
   intro x hx
   rcases List.mem_cons.mp hx with e | hx
   ·subst e
    exact mY ok (by rw [<- hq.1];exact hq.2.1)
   ·exact ih x hx
 exact all r x hx
theorem AR {kvs:List (List Key×V)} (ok:iU P w H h) (e:H a=some (.dT kvs)):kvs.length<=sizeLine/\(a == sysModules)=false /\
  ∃ xs,KT H kvs xs/\h.DictOfH (tupleKind (b_ P w)) a xs:=vH ok (.inl e)
end
noncomputable def p5 (H:Hp) (a:Addr) (y:V) (r:Option V):Prop:=
 (∃ kvs k,Rd H a (.dK kvs)/\y=kV k/\r=jL kvs k)\/∃ kvs k b,Rd H a (.dT kvs)/\y=.ref b/\H b=some (.tup (k.map kV))/\r=jL kvs k
noncomputable def AD (H:Hp) (a:Addr) (y v:V) (H':Hp):Prop:=
 (∃ kvs k,H a=some (.dK kvs)/\y=kV k/\kvs.length < sizeLine/\H'=upd H a (.dK (putK kvs k v))) \/
 ∃ kvs k b,H a=some (.dT kvs)/\y=.ref b/\H b=some (.tup (k.map kV))/\kvs.length < sizeLine/\H'=upd H a (.dT (putK kvs k v))
theorem p5.t {H:Hp} {a b:Addr} {kvs:List (List Key×V)} {k:List Key} (e:H a=some (.dT kvs)) (eb:H b=some (.tup (k.map kV))):p5 H a (.ref b) (jL kvs k):=.inr ⟨kvs,k,b,.inl e,rfl,eb,rfl⟩
theorem AD.t {H:Hp} {a b:Addr} {kvs:List (List Key×V)} {k:List Key} {v:V} (e:H a=some (.dT kvs)) (eb:H b=some (.tup (k.map kV))) (hl:kvs.length < sizeLine) :
  AD H a (.ref b) v (upd H a (.dT (putK kvs k v))):=.inr ⟨kvs,k,b,e,rfl,eb,hl,rfl⟩
section
variable {X:Cx} {pins:List (Addr×Obj)} {σ:St} {H:Hp} {s:Shared} {a:Addr} {y v:V} {u r:Value} {o:Option V} {A:Around} {E:Value->Shared->Prop}
theorem Inv.big (I:Inv X pins σ H s):sysModules < s.heap.objs.size:=by
 have h:mainGlobals < s.heap.objs.size:=(I.mod.glob.keeps I.bk).lt
 exact Nat.lt_trans (by decide) h
theorem yO {Q:Value->Shared->Prop} (hu:A.units+1 < cLine) (I:Inv X pins σ H s) (g:p5 H a y (some v)) (ry:RelV y u) (h:∀ w' s',Inv X pins σ H s'->RelV v w'->Q w' s') :
  wpAny (model X.prog X.w) A (getItem (.ref a) u) Q E s:=by
 rcases g with ⟨kvs,k,e,ey,l⟩ | ⟨kvs,k,b,e,ey,eb,l⟩
 ·subst ey
  obtain ⟨z,hd,vs,rel,dd⟩:=vh I.hok e
  obtain ⟨w',hw,rw'⟩:=nj.some_of (v:=v) (o:=valueAt vs k) (by rw [l];exact rel.val k)
  exact wpAny_getItem_of (w4 ry) dd.mapOf hw (h w' _ (I.tok _) rw')
 ·subst ey
  cases (show u=Value.ref b from ry)
  obtain ⟨z,hd,xs,rel,dd⟩:=vH I.hok e
  obtain ⟨w',hw,rw'⟩:=nj.some_of (v:=v) (o:=(atKey xs k).map (·.2)) (by rw [l];exact rel.val k)
  obtain ⟨p,hp,hp2⟩:=Option.map_eq_some_iff.mp hw
  refine wpAny_getItem_heap (tupleKind_room_in1 hu) (mY I.hok eb) dd hp ?_
  rw [hp2]
  exact h w' _ (I.tok _) rw'
theorem Et {Q:Value->Shared->Prop} (hu:A.units+1 < cLine) (I:Inv X pins σ H s) (g:p5 H a y o) (ry:RelV y u) (h:∀ s',Inv X pins σ H s'->Q (.bool (!o.isSome)) s') :
  wpAny (model X.prog X.w) A (compareOp .NotIn u (.ref a)) Q E s:=by
 rcases g with ⟨kvs,k,e,ey,l⟩ | ⟨kvs,k,b,e,ey,eb,l⟩
 ·subst ey
  obtain ⟨z,hd,vs,rel,dd⟩:=vh I.hok e
  refine wpAny_notIn_of (w4 ry) hd dd.mapOf ?_
  rw [<- (rel.val k).kC,<- l]
  exact h _ (I.tok _)
 ·subst ey
  cases (show u=Value.ref b from ry)
  obtain ⟨z,hd,xs,rel,dd⟩:=vH I.hok e
  refine wpAny_notIn_heap (tupleKind_room_in1 hu) (mY I.hok eb) hd dd ?_
  have q:=(rel.val k).kC
  rw [Option.isSome_map] at q
  rw [<- q,<- l]
  exact h _ (I.tok _)
theorem kY {h':Heap} {t':Nat} {ob:HO} (I:Inv X pins σ H s) (mu:JS (H a)) (hs:Heap.SameBut a s.heap h') (he:∃ q,h'.get? a=some q) (new:bM X.prog X.w (upd H a ob) h' a ob) :
  Inv X pins σ (upd H a ob) { s with heap:=h',toks:=t' }:=
 I.write (x:=a) (e:=a) mu (.inl rfl) (fun b q hb z=>(hs.2 b hb).trans z) he new
theorem Jj {P:Program} {w:World} {H':Hp} {h':Heap} {kvs:List (Key×V)} {vs:List (Key×Value)} (z:kvs.length<=sizeLine) (hd:(a == sysModules)=false) (rel:KV kvs vs) (dd:h'.DictOf (b_ P w) a vs) :
  bM P w H' h' a (.dK kvs):=⟨z,hd,vs,rel,dd⟩
theorem yY {H':Hp} {Q:Unit->Shared->Prop} (hu:A.units+1 < cLine) (I:Inv X pins σ H s) (g:AD H a y v H') (ry:RelV y u) (rv:RelV v r) (h:∀ s',Inv X pins σ H' s'->Q () s') :
  wpAny (model X.prog X.w) A (setItem (.ref a) u r) Q E s:=by
 rcases g with ⟨kvs,k,e,ey,l,eH⟩ | ⟨kvs,k,b,e,ey,eb,l,eH⟩
 ·subst ey eH
  obtain ⟨z,hd,vs,rel,dd⟩:=K5 I.hok e
  have hz:vs.length<=sizeLine:=by rw [<- rel.length];exact z
  have hl:(putK kvs k v).length<=sizeLine:=by have:=kG kvs k v;omega
  refine wpAny_setItem_pairs (hsz:=hz) (w4 ry) dd fun h' dd' hs=>h _ ?_
  have he:∃ q,h'.get? a=some q:=let ⟨q,_,_,hq,_⟩:=dd';⟨q,hq⟩
  exact kY I (by rw [e];exact True.intro) hs he (Jj hl hd (rel.put k rv) dd')
 ·subst ey eH
  cases (show u=Value.ref b from ry)
  obtain ⟨z,hd,xs,rel,dd⟩:=AR I.hok e
  have hz:xs.length<=sizeLine:=by rw [<- Paired.length rel];exact z
  have hl:(putK kvs k v).length<=sizeLine:=by have:=kG kvs k v;omega
  refine wpAny_setItem_heap (hsz:=hz) (tupleKind_room_in1 hu) (mY I.hok eb) dd fun h' dd' hs=>h _ ?_
  obtain ⟨q,es,ep,hq,h2,h3,h4,_,h5⟩:=dd'
  refine kY I (by rw [e];exact True.intro) hs ⟨q,hq⟩ ⟨hl,hd,_,(rel.put k eb rv).keeps fun c ys ec=>?_,q,es,ep,hq,h2,h3,h4,h5⟩
  rw [aI (zK ec e (fun z=>nomatch z))]
  exact ec
end
section
variable {X:Cx} {pins:List (Addr×Obj)} {σ:St} {H:Hp} {s:Shared} {a:Addr} {kvs:List (Key×V)} {k:Key} {u:Value} {A:Around} {E:Value->Shared->Prop}
end
theorem qQ {X:Cx} {pins:List (Addr×Obj)} {σ:St} {H:Hp} {s:Shared} {a:Addr} {y:V} {o:Option V} (I:Inv X pins σ H s) (g:p5 H a y o):s.TypeIs (.ref a) "dict" := by
 rcases g with ⟨kvs,k,e,_,_⟩ | ⟨kvs,k,b,e,_,_,_⟩
 ·obtain ⟨_,_,vs,_,dd⟩:=vh I.hok e
  exact dd.typeIs
 ·obtain ⟨_,_,xs,_,dd⟩:=vH I.hok e
  exact dd.typeIs
section
variable {X:Cx} {o i e value:Expr} {pos pos' tpos:Pos} {td ty tv:TE}
end
theorem BY {P:Program} {w:World} {H:Hp} (h:Heap) (hb:sysModules < h.objs.size):bM P w H (h.push { cls:=.type "dict",data:=.dict #[] }) h.objs.size (.dT []):=
 ⟨Nat.zero_le _,beq_eq_false_iff_ne.mpr (Ne.symm (Nat.ne_of_lt hb)),[],.nil,_,#[],0,Heap.get?_push_size _ rfl,⟨rfl,rfl,rfl⟩,rfl,rfl,List.nodup_nil⟩
section
variable {X:Cx} {pos:Pos}
end
structure M1 (X:Cx) (o:Expr) (m:Str) (apos:Pos) (e:Expr) (cpos:Pos):Prop where
 base:attributeBase o m X.env (eval o X.env)=eval o X.env
 few:((backTo cpos (starEach [e] X.env)).all (fun x=>!x.1) && (backToKw cpos (keywordEach [] X.env)).all (fun x=>x.1.isSome)
  && decide (([e]:List Expr).length+([]:List Keyword).length+(if ([]:List Keyword).isEmpty then 0 else 1) < 30))=true
 line:(apos.endLine == cpos.line)=true
 trees:backTo cpos (starEach [e] X.env)=[(false,eval e X.env)]
structure M2 (X:Cx) (o:Expr) (m:Str) (apos:Pos) (e f:Expr) (cpos:Pos):Prop where
 base:attributeBase o m X.env (eval o X.env)=eval o X.env
 few:((backTo cpos (starEach [e,f] X.env)).all (fun x=>!x.1) && (backToKw cpos (keywordEach [] X.env)).all (fun x=>x.1.isSome)
  && decide (([e,f]:List Expr).length+([]:List Keyword).length+(if ([]:List Keyword).isEmpty then 0 else 1) < 30))=true
 line:(apos.endLine == cpos.line)=true
 trees:backTo cpos (starEach [e,f] X.env)=[(false,eval e X.env),(false,eval f X.env)]
section
variable {X:Cx} {pins:List (Addr×Obj)} {σ:St} {H:Hp} {s:Shared} {a:Addr} {y d:V} {u r:Value} {o:Option V} {A:Around} {E:Value->Shared->Prop}
end
section
variable {X:Cx} {o e f:Expr} {apos cpos:Pos} {td ty tx:TE}
end
section
variable {X:Cx} {pins:List (Addr×Obj)} {σ:St} {H:Hp} {s:Shared} {a:Addr} {kvs:List (Key×V)} {A:Around} {E:Value->Shared->Prop}
end
section
variable {X:Cx} {pins:List (Addr×Obj)} {σ:St} {H:Hp} {s:Shared} {a:Addr} {y:V} {u:Value} {A:Around} {E:Value->Shared->Prop}
end
section
variable {X:Cx}
theorem Dw (hu:X.A.units+1 < cLine):Hj X (fun x y H Q=>∃ a v,x=.ref a/\p5 H a y (some v)/\Q v H):=by
 intro value slice pins s σ H x y v u Q I rx ry h hs
 obtain ⟨a,z,rfl,g,q⟩:=h
 cases rx
 have hT:=qQ I g
 unfold subscriptTail
 refine wpAny_bind ?_
 rw [getitemInPython_of_ne hT.not_modules]
 refine wpAny_bind (wpAny_specialOf hT PySem.F.slot_dict_getitem.lookup ?_)
 have fin:wpAny (model X.prog X.w) X.A (subscripted slice false (.ref a) u) (fun r s₃=>wpAny (model X.prog X.w) X.A (letTemporaryGo value (.ref a) r >>= fun _=>pure r) (EP X pins σ Q) X.xe s₃) X.xe s:=by
  rw [hs]
  exact wpAny_operating (yO hu I g ry fun w' s3 I3 rw'=>wpAny_bind (wpAny_letTemporaryGo (wpAny_pure ⟨z,H,I3,rw',q⟩)))
 first
  | exact wpAny_pure (wpAny_bind fin)
  | exact wpAny_bind (wpAny_pure (wpAny_bind fin))
  | exact wpAny_bind fin
theorem y9 (hu:X.A.units+1 < cLine):d7 X (compareOp .NotIn) (fun y x H Q=>∃ a o,x=.ref a/\p5 H a y o/\Q (.bl (!o.isSome)) H):=by
 intro pins s σ H y x v u Q I ry rx h
 obtain ⟨a,o,rfl,g,q⟩:=h
 cases rx
 exact Et hu I g ry fun s3 I3=>⟨.bl (!o.isSome),H,I3,rfl,q⟩
theorem set_dict (hu:X.A.units+1 < cLine):yy X (fun o i v H Q=>∃ a H',o=.ref a/\AD H a i v H'/\Q H'):=by
 intro pins s σ H o i v ov iv u Q I ro ri rv h
 obtain ⟨a,H',rfl,g,q⟩:=h
 cases ro
 exact yY hu I g ri rv fun s4 I4=>⟨H',I4,q⟩
noncomputable def Ja (tk tv:TE):TE:=fun σ H Q=>∀ p,H p=none->tk σ (upd H p (.dT [])) fun x H1=>tv σ H1 fun y H2=>H2 p=some (.dT [])/\∃ b ks,x=.ref b/\H2 b=some (.tup (ks.map kV))/\Q (.ref p) (upd H2 p (.dT [(ks,y)]))
theorem z9 {k v:Expr} {pos:Pos} {tk tv:TE} (hu:X.A.units+1 < cLine) (hk:PE X k tk) (hv:PE X v tv):PE X (.Dict [some k] [v] pos) (Ja tk tv):=by
 intro pins s σ H Q I q
 have hn:=I.hok.fresh (Nat.le_refl s.heap.objs.size)
 have I1:=I.laid (a:=s.heap.objs.size) (o:=.dT []) (h':=s.heap.push { cls:=.type "dict",data:=.dict #[] }) (t':=s.toks) (fun _ _ q=>Heap.get?_push_of_some _ q) (Nat.le_refl _) (BY s.heap I.big)
 refine wpAny_Dict_any rfl rfl (by simp) (show 1<=15 by decide) ?_
 refine pairTrees_cons_walk (bO (hk pins _ σ _ _ I1 (q _ hn)) fun kv s1 ⟨x,H1,I2,rx,q1⟩=>bO (hv pins s1 σ H1 _ I2 q1) fun vv s2 ⟨y,H2,I3,ry,e,b,ks,ex,eb,q2⟩=>pairTrees_nil_walk ?_)
 subst ex
 cases rx
 obtain ⟨z,hd,xs,rel,dd⟩:=AR I3.hok e
 cases rel
 unfold storeAll
 rw [List.forIn_cons]
 refine wpAny_bind (wpAny_bind (wpAny_dictSet_heap (hsz:=by simp) (show X.A.units < cLine by omega) (mY I3.hok eb) dd fun h' dd' hs=>wpAny_pure ?_))
 dsimp only
 rw [List.forIn_nil]
 refine wpAny_pure ⟨.ref s.heap.objs.size,_,?_,rfl,q2⟩
 obtain ⟨q',es,ep,hq,h2,h3,h4,_,h5⟩:=dd'
 refine kY I3 (by rw [e];exact True.intro) hs ⟨q',hq⟩ ⟨by show 1<=sizeLine;decide,hd,_,(KT.put (kvs:=[]) .nil ks eb ry).keeps fun c ys ec=>?_,q',es,ep,hq,h2,h3,h4,h5⟩
 rw [aI (zK ec e (fun z=>nomatch z))]
 exact ec
end
section
variable {P:Program} {w:World} {A:Around} {E:Value->Shared->Prop} {s:Shared} {it d:Addr} {i ep:Nat} {es:Array DictEntry} {o:Obj} {k0 v0:Value}
theorem Ez {Q:Option Value->Shared->Prop} (hi:IsItemIter s.heap it d i es.size ep k0 v0) (ho:s.heap.get? d=some o) (hd:o.data=.dict es ep) (lt:i < es.size)
  (q:∀ h',IsItemIterOut h' it d (i+1) es.size ep es[i].key es[i].val s.heap.objs.size->h'.get? s.heap.objs.size=some { cls:=.type "tuple",data:=.seq #[es[i].key,es[i].val] }->h'.objs.size=s.heap.objs.size+1 ->
   (∀ b ob,b≠it->s.heap.get? b=some ob->h'.get? b=some ob)->Q (some (.ref s.heap.objs.size)) { s with heap:=h' }) :
  wpAny (model P w) A (pyNext (.ref it)) Q E s:=by
 obtain ⟨hp,gn,dr,tk,os⟩:=s
 have ty:Shared.TypeIs ⟨hp,gn,dr,tk,os⟩ (.ref it) "dict_itemiterator" := ⟨_,hi,rfl⟩
 have own:Builtin.Dict_items.ownsTuple "dict_itemiterator" = true:=by decide
 have nn:¬ ((Value.ref d == Value.none)=true):=Bool.false_ne_true
 have n0:¬ ((i:Int) < 0):=by omega
 unfold pyNext
 refine wpAny_bind (wpAny_attempt (wpAny_callSpecial?_slot (name:=Str.ofString "__next__") ty PySem.F.slot_dict_itemiterator_next (wpAny_call_entry PySem.F.slot_dict_itemiterator_next ty PySem.F.entry_dict_itemiterator_next ?_ (PySem.F.args_dict_itemiterator_next_1 _))))
 refine wpAny_bind (wpAny_pure (wpAny_bind (wpAny_bind ?_)))
 first
  | refine wpAny_bind (wpAny_typeNameOfWhole_itemiter ty (wpAny_pure (wpAny_bind (wpAny_fieldsOf hi rfl ?_))))
  | refine wpAny_bind (wpAny_typeNameOf_itemiter ty (wpAny_pure (wpAny_bind (wpAny_fieldsOf hi rfl ?_))))
 simp only [own,if_true]
 show wpAny (model P w) _ (if (Value.ref d == Value.none)=true then _ else _) _ _ ⟨hp,gn,dr,tk,os⟩
 rw [if_neg nn]
 refine wpAny_bind (wpAny_pure (wpAny_bind (wpAny_dictEntries ho hd ?_)))
 rw [if_neg (show ¬ _ by simp)]
 refine wpAny_bind (wpAny_pure (wpAny_bind (wpAny_dictEpoch ho hd ?_)))
 rw [if_neg (show ¬ _ by simp)]
 refine wpAny_pure ?_
 simp only [n0,if_false,Int.toNat_natCast,Array.getElem?_eq_getElem lt]
 refine wpAny_bind ?_
 first
  | refine wpAny_bind (wpAny_typeNameOfWhole_itemiter ty (wpAny_pure (wpAny_bind (wpAny_isOneOf_itemiter ty ?_))))
  | refine wpAny_bind (wpAny_typeNameOf_itemiter ty (wpAny_pure (wpAny_bind (wpAny_isOneOf_itemiter ty ?_))))
 show wpAny (model P w) _ (setField (.ref it) 3 (rawInt ((i:Int)+1)) >>= _) _ _ _
 refine wpAny_bind (wpAny_setField_rec hi (show _ by simp) fun h1 e1 b1=>?_)
 have b1:Heap.SameBut it hp h1:=b1
 have e1:IsItemIter h1 it d (i+1) es.size ep k0 v0:=by
  have z:((i+1:Nat):Int)=(i:Int)+1:=by omega
  unfold IsItemIter
  rw [z]
  simpa [rawInt] using e1
 have ty1:Shared.TypeIs ⟨h1,gn,dr,tk,os⟩ (.ref it) "dict_itemiterator" := ⟨_,e1,rfl⟩
 refine wpAny_bind (wpAny_holding (wpAny_bind (wpAny_isOneOf_itemiter ty1 (wpAny_bind (wpAny_isOneOf_itemiter ty1 ?_)))))
 show wpAny (model P w) _ (Builtin.Dict_items.pairFromOwner (.ref it) 6 es[i].key es[i].val) _ _ ⟨h1,gn,dr,tk,os⟩
 delta Builtin.Dict_items.pairFromOwner
 refine wpAny_bind (wpAny_newTuple (?_))
 have il:it < hp.objs.size:=Heap.lt_size hi
 have sz1:h1.objs.size=hp.objs.size:=b1.1
 obtain ⟨h2,hh2⟩:∃ h2,h2=h1.push { cls:=.type "tuple",data:=.seq #[es[i].key,es[i].val] }:=⟨_,rfl⟩
 have e2:IsItemIter h2 it d (i+1) es.size ep k0 v0:=by rw [hh2];exact Heap.get?_push_of_some _ e1
 have t2:h2.get? hp.objs.size=some { cls:=.type "tuple",data:=.seq #[es[i].key,es[i].val] }:=by rw [hh2,<- sz1];exact Heap.get?_push_size _ rfl
 have sz2:h2.objs.size=hp.objs.size+1:=by rw [hh2,Heap.size_push,sz1]
 have kp2:∀ b ob,b≠it->hp.get? b=some ob->h2.get? b=some ob:=fun b ob nb eb=>by rw [hh2];exact Heap.get?_push_of_some _ (b1.extBut b ob nb eb)
 show wpAny (model P w) _ (Builtin.Dict_items.ownedTupleIsFree (.ref it) >>= _) _ _ ⟨h1.push { cls:=.type "tuple",data:=.seq #[es[i].key,es[i].val] },gn,dr,tk,os⟩
 rw [<- hh2,sz1]
 refine wpAny_bind ?_
 delta Builtin.Dict_items.ownedTupleIsFree
 refine wpAny_bind (wpAny_field e2 rfl (x:=.none) rfl (wpAny_pure ?_))
 simp only [if_true]
 refine wpAny_bind (wpAny_field e2 rfl (x:=k0) rfl (wpAny_bind (wpAny_field e2 rfl (x:=v0) rfl ?_)))
 refine wpAny_bind (wpAny_setField_rec e2 (show _ by simp) fun h3 e3 b3=>?_)
 have b3:Heap.SameBut it h2 h3:=b3
 have e3:IsItemIter h3 it d (i+1) es.size ep es[i].key v0:=e3
 refine wpAny_bind (wpAny_setField_rec e3 (show _ by simp) fun h4 e4 b4=>?_)
 have b4:Heap.SameBut it h3 h4:=b4
 have e4:IsItemIter h4 it d (i+1) es.size ep es[i].key es[i].val:=e4
 refine wpAny_bind (wpAny_setField_rec e4 (show _ by simp) fun h5 e5 b5=>?_)
 have b5:Heap.SameBut it h4 h5:=b5
 have e5:IsItemIterOut h5 it d (i+1) es.size ep es[i].key es[i].val hp.objs.size:=e5
 refine wpAny_bind (wpAny_setField_rec e5 (show _ by simp) fun h6 e6 b6=>?_)
 have b6:Heap.SameBut it h5 h6:=b6
 have e6:IsItemIterOut h6 it d (i+1) es.size ep es[i].key es[i].val hp.objs.size:=e6
 have kp6:∀ b ob,b≠it->h2.get? b=some ob->h6.get? b=some ob:=fun b ob nb eb=>b6.extBut b ob nb (b5.extBut b ob nb (b4.extBut b ob nb (b3.extBut b ob nb eb)))
 refine wpAny_bind (wpAny_letGo (wpAny_pure (wpAny_pure ⟨_,rfl,wpAny_pure (q h6 e6 (kp6 _ _ (Nat.ne_of_gt il) t2) ?_ fun b ob nb eb=>kp6 b ob nb (kp2 b ob nb eb))⟩)))
 show h6.objs.size=hp.objs.size+1
 rw [b6.1,b5.1,b4.1,b3.1,sz2]
theorem Jm {Q:Option Value->Shared->Prop} (hh:A.handled=none) (hi:IsItemIter s.heap it d i es.size ep k0 v0) (ho:s.heap.get? d=some o) (hd:o.data=.dict es ep) (ge:es.size<=i)
  (q:∀ h',Heap.ExtBut it s.heap h'->Q none { s with heap:=h' }):wpAny (model P w) A (pyNext (.ref it)) Q E s:=by
 have ty:s.TypeIs (.ref it) "dict_itemiterator" := ⟨_,hi,rfl⟩
 have own:Builtin.Dict_items.ownsTuple "dict_itemiterator" = true:=by decide
 have nn:¬ ((Value.ref d == Value.none)=true):=Bool.false_ne_true
 have n0:¬ ((i:Int) < 0):=by omega
 unfold pyNext
 refine wpAny_bind (wpAny_attempt (wpAny_callSpecial?_slot (name:=Str.ofString "__next__") ty PySem.F.slot_dict_itemiterator_next (wpAny_call_entry PySem.F.slot_dict_itemiterator_next ty PySem.F.entry_dict_itemiterator_next ?_ (PySem.F.args_dict_itemiterator_next_1 _))))
 refine wpAny_bind (wpAny_pure (wpAny_bind (wpAny_bind ?_)))
 first
  | refine wpAny_bind (wpAny_typeNameOfWhole_itemiter ty (wpAny_pure (wpAny_bind (wpAny_fieldsOf hi rfl ?_))))
  | refine wpAny_bind (wpAny_typeNameOf_itemiter ty (wpAny_pure (wpAny_bind (wpAny_fieldsOf hi rfl ?_))))
 simp only [own,if_true]
 show wpAny (model P w) _ (if (Value.ref d == Value.none)=true then _ else _) _ _ s
 rw [if_neg nn]
 refine wpAny_bind (wpAny_pure (wpAny_bind (wpAny_dictEntries ho hd ?_)))
 rw [if_neg (show ¬ _ by simp)]
 refine wpAny_bind (wpAny_pure (wpAny_bind (wpAny_dictEpoch ho hd ?_)))
 rw [if_neg (show ¬ _ by simp)]
 refine wpAny_pure ?_
 simp only [n0,if_false,Int.toNat_natCast,Array.getElem?_eq_none ge]
 refine wpAny_bind ?_
 first
  | refine wpAny_bind (wpAny_typeNameOfWhole_itemiter ty (wpAny_pure ?_))
  | refine wpAny_bind (wpAny_typeNameOf_itemiter ty (wpAny_pure ?_))
 show wpAny (model P w) _ (setField (.ref it) 2 .none >>= _) _ _ s
 refine wpAny_bind (wpAny_setField hi rfl (show _ by simp) ?_)
 show wpAny (model P w) _ (newExc (.type "StopIteration") [] >>= _) _ _ _
 refine wpAny_bind ?_
 simp only [newExc,newTuple]
 refine wpAny_bind (wpAny_newObj_type (wpAny_bind (m:=firstArgMember _ _) (wpAny_of_eq (a:=Value.none) (by first | rfl | (simp only [firstArgMember];rfl)) (wpAny_newObj_type ?_ (by size_fits)))) (by size_fits))
 simp only [raiseNew]
 have hn:A.in1.handled=none:=hh
 refine wpAny_bind (wpAny_handled (?_))
 rw [hn]
 refine wpAny_bind (wpAny_pure (wpAny_throw (?_)))
 refine wpAny_bind (wpAny_isInstance (b:=true) (T := "StopIteration") ⟨_,Heap.get?_push_size _ rfl,rfl⟩ isSubtype_stop (wpAny_pure (q _ (((Heap.SameBut.update ..).extBut.push _).push _))))
end
theorem EL:entryFor table "dict_itemiterator.__iter__" = some Builtin.«dict_keyiterator.__iter__»:=entryFor_alias (by kernel_rfl) rfl (id' := "dict_keyiterator.__iter__") (by decide +kernel) (by kernel_rfl)
noncomputable def MC (d:Addr) (o:Obj) (u:HO) (ps:List (Addr×V)):It:=
 ⟨fun i H=>∃ a v,ps[i]?=some (a,v)/\H d=some (.frz o u),fun i H x H'=>∃ T,H T=none/\x=.ref T/\∀ a v,ps[i]?=some (a,v)->H'=upd H T (.tup [.ref a,v]),fun i H=>i=ps.length/\H d=some (.frz o u)⟩
theorem uw {P:Program} {w:World} {K:PySem.W.Frag} {elts:List Expr} {x1:Nat} {tpos:Pos} (d it:Addr) {o:Obj} {u:HO} {es:Array DictEntry} {ep:Nat} {ps:List (Addr×V)} (hd:o.data=.dict es ep) (hl:ps.length=es.size)
  (hp:∀ i a v,ps[i]?=some (a,v)->∀ h:i < es.size,es[i].key=.ref a/\RelV v es[i].val):Turn P w K (.Tuple elts x1 tpos) (MC d o u ps) [it] it (fun i h=>∃ k0 v0,IsItemIter h it d i es.size ep k0 v0) where
 mem:=by simp
 obj:=fun i h st b hb=>by
  obtain ⟨k0,v0,st⟩:=st
  have:b=it:=by simpa using hb
  subst this
  exact ⟨_,st,fun v z=>by cases z⟩
 keep:=fun i h h' ⟨k0,v0,st⟩ k=>⟨k0,v0,k it (by simp) _ st⟩
 item:=by
  intro X hP hw hK hc i pins s σ H E I hf st hg
  subst hP hw hK
  obtain ⟨k0,v0,st⟩:=st
  obtain ⟨a,v,hx,hq⟩:=hg
  have ho:s.heap.get? d=some o:=(show bM _ _ H s.heap d (.frz o u) from I.hok d _ hq).1
  have lt:i < es.size:=by rw [<- hl];exact (List.getElem?_eq_some_iff.mp hx).1
  obtain ⟨ek,rv⟩:=hp i a v hx lt
  refine Ez st ho hd lt fun h' hout hT hsz hk=>⟨_,rfl,wpAny_letOwnedTupleGo_items hout fun h2 he2 hs2=>?_⟩
  have fT:H s.heap.objs.size=none:=I.hok.fresh (Nat.le_refl _)
  have hil:it < s.heap.objs.size:=Heap.lt_size st
  have k2:∀ b ob,b≠it->s.heap.get? b=some ob->h2.get? b=some ob:=fun b ob h1 qb=>hs2.extBut b ob h1 (hk b ob h1 qb)
  have hT2:h2.get? s.heap.objs.size=some { cls:=.type "tuple",data:=.seq #[es[i].key,es[i].val] }:=hs2.extBut _ _ (Nat.ne_of_gt hil) hT
  obtain ⟨i0,i1,i2,i3,i4,i5⟩:=hf it (by simp)
  have nT:∀ b ob,s.heap.get? b=some ob->b≠s.heap.objs.size:=fun b ob qb=>Nat.ne_of_lt (Heap.lt_size qb)
  have ne_tr:∀ c y,H c=some y->c≠it:=fun c y qc z=>by rw [z,i0] at qc;cases qc
  have I2:Inv X pins σ (upd H s.heap.objs.size (.tup [.ref a,v])) { s with heap:=h2 }:=by
   refine I.step (g':=s.gens) (d':=s.drawn) (ch:=[it]) (fun b hb=>?_) (fun b ob _ _ hch qb _=>?_) (fun b ob _ _ hch qb _=>?_) (fun b ob hch qb n=>?_) (fun b ob hch qb=>?_) (fun b ys qb=>?_) (fun b ob u' qb=>?_) (fun b ps' qb=>?_) (fun m hm=>?_) (fun b u' qb=>?_) I.bare
   ·have:b=it:=by simpa using hb
    subst this
    exact ⟨i3,i1,i4,i5⟩
   ·exact k2 b ob (fun z=>hch (by simp [z])) qb
   ·exact ⟨ob.slots,k2 b ob (fun z=>hch (by simp [z])) qb⟩
   ·rw [aI (nT b ob qb)];exact n
   ·exact ⟨ob,k2 b ob (fun z=>hch (by simp [z])) qb⟩
   ·rw [aI (aQ qb fT)];exact qb
   ·rw [aI (aQ qb fT)];exact qb
   ·exact ⟨#[],by rw [aI (aQ qb fT),qb];simp⟩
   ·obtain ⟨ob,es',ep',hob,r⟩:=hm
    exact ⟨ob,es',ep',k2 _ ob (Ne.symm i1) hob,r⟩
   ·by_cases z:b=s.heap.objs.size
    ·subst z
     rw [aY] at qb
     cases qb
     exact ⟨by show 2<=sizeLine;decide,[es[i].key,es[i].val],.cons ek (.cons rv .nil),⟨_,hT2,rfl,rfl,0,rfl⟩⟩
    ·rw [aI z] at qb
     refine (I.hok b u' qb).stay (fun c y hc q'=>k2 c y ?_ q') (fun c q'=>?_) fun c ys q'=>?_
     ·rcases hc with z | z
      ·rw [z];exact ne_tr b u' qb
      ·exact ne_tr c _ z
     ·rw [aI (aQ q' fT)];exact q'
     ·rw [aI (aQ q' fT)];exact q'
  refine ⟨.ref s.heap.objs.size,_,I2,rfl,⟨s.heap.objs.size,fT,rfl,fun a' v' hy=>?_⟩,⟨_,_,he2⟩,fun b hb=>?_⟩
  ·rw [hx] at hy
   cases hy
   rfl
  ·have:b=it:=by simpa using hb
   subst this
   rw [aI (Nat.ne_of_lt hil)];exact i0
 done:=by
  intro X hP hw hK hc i pins s σ H E I hf st hg
  subst hP hw hK
  obtain ⟨k0,v0,st⟩:=st
  obtain ⟨hi,hq⟩:=hg
  have ho:s.heap.get? d=some o:=(show bM _ _ H s.heap d (.frz o u) from I.hok d _ hq).1
  refine Jm (I.ok.hd hc) st ho hd (by rw [<- hl];omega) fun h' hx=>⟨rfl,?_⟩
  obtain ⟨i0,i1,i2,i3,i4,i5⟩:=hf it (by simp)
  exact I.turned (t':=s.toks) (fun b ob hb qb=>hx b ob hb qb) i0 i1 i3 i4 i5
 self:=by
  intro A i s Q E st q
  obtain ⟨k0,v0,st⟩:=st
  have ty:s.TypeIs (.ref it) "dict_itemiterator" := ⟨_,st,rfl⟩
  exact wpAny_pyIter_slot ty PySem.F.slot_dict_itemiterator_iter (wpAny_call_entry PySem.F.slot_dict_itemiterator_iter ty EL (wpAny_pure ⟨_,rfl, "dict_itemiterator",_,ty,PySem.F.slot_dict_itemiterator_next.lookup,q⟩) (PySem.F.args_dict_itemiterator_iter_1 _))
section
variable {X:Cx}
theorem qU {A:Around} {E:Value->Shared->Prop} {s:Shared} {d:Addr} {Q:Value->Shared->Prop} (ty:s.TypeIs (.ref d) "dict") (hd:(d == sysModules)=false)
  (q:Q (.ref s.heap.objs.size) { s with heap:=s.heap.push { cls:=.type "dict_items",data:=.fields #[.ref d] } }):wpAny (model X.prog X.w) A (call (.builtin "dict.items") [.ref d]) Q E s:=by
 refine wpAny_call_entry PySem.F.slot_dict_items ty PySem.F.entry_dict_items ?_ (PySem.F.args_dict_items_1 _)
 delta Builtin.«dict.items»
 refine wpAny_bind ?_
 delta Builtin.Dict.noArgs
 refine wpAny_bind (wpAny_notOrdered_dict ty ?_)
 show wpAny (model X.prog X.w) _ (pure d) _ _ s
 refine wpAny_pure ?_
 show wpAny (model X.prog X.w) _ (Builtin.Dict.showsAll d >>= _) _ _ s
 delta Builtin.Dict.showsAll
 have nd:¬ ((d == sysModules)=true):=by rw [hd];exact Bool.false_ne_true
 rw [if_neg nd]
 exact wpAny_bind (wpAny_pure (wpAny_bind (wpAny_newObj_type (wpAny_pure ⟨_,rfl,q⟩))))
theorem qJ {A:Around} {E:Value->Shared->Prop} {s:Shared} {v d:Addr} {o:Obj} {es:Array DictEntry} {ep:Nat} {Q:Value->Shared->Prop} (hv:s.heap.IsItemsView v d) (ho:s.heap.get? d=some o) (hd:o.data=.dict es ep)
  (q:Q (.ref s.heap.objs.size) { s with heap:=s.heap.push { cls:=.type "dict_itemiterator",data:=.fields #[.none,.bool false,.ref d,.int 0 0,.int es.size 0,.int ep 0,.none,.none] } }) :
  wpAny (model X.prog X.w) A (pyIter (.ref v)) Q E s:=by
 obtain ⟨ov,hov,hcv,hdv⟩:=id hv
 have own:Builtin.Dict_items.ownsTuple "dict_itemiterator" = true:=by decide
 refine wpAny_pyIter_slot hv.typeIs PySem.F.slot_dict_items_iter (wpAny_call_entry PySem.F.slot_dict_items_iter hv.typeIs PySem.F.entry_dict_items_iter ?_ (PySem.F.args_dict_items_iter_1 _))
 delta Builtin.«dict_items.__iter__»
 refine wpAny_bind (wpAny_pure (wpAny_bind ?_))
 delta Builtin.Dict_items.dictOf
 refine wpAny_bind (wpAny_field hov hdv (x:=.ref d) rfl (wpAny_pure (wpAny_bind ?_)))
 delta Builtin.Dict_items.newIterator
 refine wpAny_bind (wpAny_dictEntries ho hd (wpAny_bind (wpAny_dictEpoch ho hd ?_)))
 simp only [own,if_true]
 refine wpAny_newObj_type (wpAny_pure ⟨_,rfl, "dict_itemiterator",_,⟨_,Heap.get?_push_size _ rfl,rfl⟩,PySem.F.slot_dict_itemiterator_next.lookup,?_⟩) (by simp only [sizeOk,Builtin.Dict_items.ownedTupleFields,List.size_toArray,List.length_append,List.length_cons,List.length_nil,sizeLine_eq];omega)
 simpa [rawInt,Builtin.Dict_items.ownedTupleFields] using q
end
section
variable {X:Cx}
theorem kt_at {H:Hp}:∀ {kvs:List (List Key×V)} {xs:List (List Key×Addr×Value)},KT H kvs xs->kvs.length=xs.length/\∀ (i:Nat) (p:List Key×V),kvs[i]?=some p->∃ y:List Key×Addr×Value,xs[i]?=some y/\p.1=y.1/\H y.2.1=some (.tup (p.1.map kV))/\RelV p.2 y.2.2
 | [],[],_=>⟨rfl,fun i p h=>by simp at h⟩
 | [],_::_,r=>nomatch r
 | _::_,[],r=>nomatch r
 | a::kvs,b::xs,.cons z r=>by
  obtain ⟨l,q⟩:=kt_at r
  refine ⟨by simp [l],fun i p h=>?_⟩
  cases i with
  | zero=>
   have:a=p:=by simpa using h
   subst this
   exact ⟨b,rfl,z⟩
  | succ i=>exact q i p (by simpa using h)
noncomputable def GH (to:TE):TI:=fun σ H R=>to σ H fun x H1=>∃ d kvs,x=.ref d/\H1 d=some (.dT kvs)/\∀ (o:Obj) (ps:List (Addr×V)),ps.length=kvs.length->(∀ (i:Nat) a v,ps[i]?=some (a,v)->∃ ks:List Key,kvs[i]?=some (ks,v)/\H1 a=some (.tup (ks.map kV)))->R (MC d o (.dT kvs) ps) (upd H1 d (.frz o (.dT kvs)))
theorem zx {elts:List Expr} {x1:Nat} {tpos apos cpos:Pos} {e:Expr} {to:TE} (he:PE X e to) (hbase:attributeBase e "items" X.env (eval e X.env)=eval e X.env:=by rfl) (hline:(apos.endLine == cpos.line)=true:=by rfl) :
  PI X (.Tuple elts x1 tpos) (.Call (.Attribute e "items" apos) [] [] cpos) (GH to):=by
 intro pins s σ H R I h
 refine wpAny_Call_method0_late hbase hline (bO (he pins s σ H _ I h) fun v s1 ⟨x,H1,I1,r1,d,kvs,ex,ed,q1⟩=>?_)
 subst ex
 cases r1
 obtain ⟨z,hd,xs,rel,dd⟩:=AR I1.hok ed
 have ty:=dd.typeIs (s:=s1)
 obtain ⟨ob,es,ep,g1,g2,g3,g4,g5,g6⟩:=id dd
 obtain ⟨kl,kt⟩:=kt_at rel
 refine ⟨"dict", "dict.items",PySem.F.plainAttrs_dict,PySem.F.slot_dict_items,PySem.F.type_dict_items,ty,fun a ea=>?_,Calls.callWith_builtin rfl (PySem.evalArgs_none (qU ty hd ?_))⟩
 ·cases ea
  exact ⟨ob,g1,g2.2.1⟩
 have g1':(s1.heap.push { cls:=.type "dict_items",data:=.fields #[.ref d] }).get? d=some ob:=Heap.get?_push_of_some _ g1
 refine qJ (o:=ob) (es:=es) (ep:=ep) ⟨_,Heap.get?_push_size _ rfl,rfl,rfl⟩ g1' g3 ?_
 have I2:Inv X pins σ H1 { s1 with heap:=(s1.heap.push { cls:=.type "dict_items",data:=.fields #[.ref d] }).push { cls:=.type "dict_itemiterator",data:=.fields #[.none,.bool false,.ref d,.int 0 0,.int es.size 0,.int ep 0,.none,.none] } }:=
  I1.kept (t':=s1.toks) fun b o eb=>Heap.get?_push_of_some _ (Heap.get?_push_of_some _ eb)
 have hnd:∀ b ys,H1 b=some (.tup ys)->upd H1 d (.frz ob (.dT kvs)) b=some (.tup ys):=fun b ys eb=>by
  rw [aI (zK eb ed (fun z=>nomatch z))];exact eb
 have I3:Inv X pins σ (upd H1 d (.frz ob (.dT kvs))) _:=kY (t':=s1.toks) (ob:=.frz ob (.dT kvs)) I2 (by rw [ed];exact True.intro) ⟨rfl,fun _ _=>rfl⟩ ⟨ob,Heap.get?_push_of_some _ g1'⟩ ⟨Heap.get?_push_of_some _ g1',z,hd,xs,rel.keeps hnd,ob,es,ep,Heap.get?_push_of_some _ g1',g2,g3,g4,g6⟩
 have hes:es.size=xs.length:=by have:=congrArg List.length g4;simpa using this
 obtain ⟨ps,hps⟩:∃ ps:List (Addr×V),ps=(List.range kvs.length).map fun i=>((xs.getD i ([],0,.none)).2.1,(kvs.getD i ([],.non)).2):=⟨_,rfl⟩
 have pl:ps.length=kvs.length:=by rw [hps];simp
 have pat:∀ (i:Nat) a v,ps[i]?=some (a,v)->∃ (ks:List Key) (y:List Key×Addr×Value),kvs[i]?=some (ks,v)/\xs[i]?=some y/\y.2.1=a/\H1 a=some (.tup (ks.map kV))/\RelV v y.2.2:=fun i a v e=>by
  have hi:i < kvs.length:=by rw [<- pl];exact (List.getElem?_eq_some_iff.mp e).1
  obtain ⟨y,h1,h2,h3,h4⟩:=kt i kvs[i] (List.getElem?_eq_getElem hi)
  rw [hps,List.getElem?_map,List.getElem?_range hi] at e
  have e':((xs.getD i ([],0,.none)).2.1,(kvs.getD i ([],.non)).2)=(a,v):=Option.some.inj e
  rw [List.getD_eq_getElem?_getD,List.getD_eq_getElem?_getD,h1,List.getElem?_eq_getElem hi] at e'
  have ea:y.2.1=a:=congrArg Prod.fst e'
  have ev:kvs[i].2=v:=congrArg Prod.snd e'
  exact ⟨kvs[i].1,y,by rw [List.getElem?_eq_getElem hi,<- ev],h1,ea,by rw [<- ea];exact h3,by rw [<- ev];exact h4⟩
 refine ⟨(s1.heap.push { cls:=.type "dict_items",data:=.fields #[.ref d] }).objs.size,[(s1.heap.push { cls:=.type "dict_items",data:=.fields #[.ref d] }).objs.size],_,MC d ob (.dT kvs) ps,_,rfl,I3,uw d _ g3 (by rw [pl,kl,hes]) (fun i a v e hlt=>?_),⟨.none,.none,Heap.get?_push_size _ rfl⟩,fun b hb=>?_,q1 ob ps pl fun i a v e=>?_⟩
 ·obtain ⟨ks,y,h1,h2,h3,h4,h5⟩:=pat i a v e
  have:es.toList[i]?=some (entryOfKey (tupleKind (b_ X.prog X.w)) y):=by rw [g4,List.getElem?_map,h2];rfl
  have e2:es[i]=entryOfKey (tupleKind (b_ X.prog X.w)) y:=by
   rw [Array.getElem?_toList,Array.getElem?_eq_getElem hlt] at this
   exact Option.some.inj this
  rw [e2,<- h3]
  exact ⟨rfl,h5⟩
 ·have eb:b=(s1.heap.push { cls:=.type "dict_items",data:=.fields #[.ref d] }).objs.size:=by simpa using hb
  have le:s1.heap.objs.size<=b:=by rw [eb,Heap.size_push];exact Nat.le_succ _
  refine I1.CM le ?_
  have nd:b≠d:=fun w=>absurd (Heap.lt_size g1) (by rw [<- w];exact Nat.not_lt.mpr le)
  rw [aI nd]
  exact I1.hok.fresh le
 ·obtain ⟨ks,y,h1,_,_,h4,_⟩:=pat i a v e
  exact ⟨ks,h1,h4⟩
end
noncomputable def C0 (e:Addr) (h:Heap):Prop:=∃ o vs,h.get? e=some o/\o.data=.fields vs/\vs[2]?=some .none/\o.dict=none
noncomputable def aX (e:Addr) {α:Type} (m:Sem α):Prop:=∀ (M:Model) (Γ:PySem.Ctx) (Q:α->Pos->Shared->Prop) (E:Value->Pos->Shared->Prop) (p:Pos) (s:Shared),Sem.wp M Γ m Q E p s->C0 e s.heap->Sem.wp M Γ m (fun a p s=>Q a p s/\C0 e s.heap) (fun v p s=>E v p s/\C0 e s.heap) p s
section
variable {e:Addr} {α β:Type}
theorem aX.bind {m:Sem α} {f:α->Sem β} (h1:aX e m) (h2:∀ a,aX e (f a)):aX e (m >>= f):=by
 intro M Γ Q E p s h c
 rw [Sem.wp_bind'] at h ⊢
 exact Sem.wp_mono M Γ m (fun a p' s' z=>h2 a M Γ Q E p' s' z.1 z.2) (fun _ _ _ z=>z) p s (h1 M Γ _ _ p s h c)
theorem aX.pure (a:α):aX e (pure a:Sem α):=fun M Γ Q E p s h c=>by rw [Sem.wp_pure'] at h ⊢;exact ⟨h,c⟩
theorem aX.A8 (w:String):aX e (PySem.unsupported w:Sem α):=fun M Γ Q E p s h c=>by
 have h:Sem.wp M Γ (.unsupported w:Sem α) Q E p s:=h
 rw [Sem.wp_unsupported] at h;exact h.elim
theorem aX.load (a:Addr):aX e (PySem.load a):=fun M Γ Q E p s h c=>by
 have h:Sem.wp M Γ (.load a none .pure) Q E p s:=h
 show Sem.wp M Γ (.load a none .pure) _ _ p s
 rw [Sem.wp_load] at h ⊢
 obtain ⟨o,ho,h⟩:=h
 rw [Sem.wp_pure] at h
 exact ⟨o,ho,by rw [Sem.wp_pure];exact ⟨h,c⟩⟩
theorem C0.update {h:Heap} {a:Addr} {f:Obj->Obj} (c:C0 e h) (hf:∀ o vs,o.data=.fields vs->vs[2]?=some .none->∃ ws,(f o).data=.fields ws/\ws[2]?=some .none/\(f o).dict=o.dict):C0 e (h.update a f):=by
 obtain ⟨o,vs,h1,h2,h3,h4⟩:=c
 by_cases z:a=e
 ·subst z
  obtain ⟨ws,w1,w2,w3⟩:=hf o vs h2 h3
  exact ⟨f o,ws,Heap.get?_update_self f h1 (Obj.isFreed_of_fields w1),w1,w2,w3.trans h4⟩
 ·exact ⟨o,vs,by rw [Heap.get?_update_other _ _ z];exact h1,h2,h3,h4⟩
theorem aX.update (a:Addr) (f:Obj->Obj) (hf:∀ o vs,o.data=.fields vs->vs[2]?=some .none->∃ ws,(f o).data=.fields ws/\ws[2]?=some .none/\(f o).dict=o.dict):aX e (PySem.update a f):=fun M Γ Q E p s h c=>by
 have h:Sem.wp M Γ (.update a none f .pure) Q E p s:=h
 show Sem.wp M Γ (.update a none f .pure) _ _ p s
 rw [Sem.wp_update] at h ⊢
 obtain ⟨ho,h⟩:=h
 rw [Sem.wp_pure] at h
 exact ⟨ho,by rw [Sem.wp_pure];exact ⟨h,c.update hf⟩⟩
theorem aX.alloc (o:Obj):aX e (PySem.alloc o):=fun M Γ Q E p s h c=>by
 have h:Sem.wp M Γ (.alloc o .pure) Q E p s:=h
 show Sem.wp M Γ (.alloc o .pure) _ _ p s
 rw [Sem.wp_alloc,Sem.wp_pure] at h ⊢
 obtain ⟨ob,vs,h1,h2,h3,h4⟩:=c
 exact ⟨h,ob,vs,Heap.get?_push_of_some _ h1,h2,h3,h4⟩
theorem aX.stack:aX e PySem.stack:=fun M Γ Q E p s h c=>by
 have h:Sem.wp M Γ (.stack .pure) Q E p s:=h
 show Sem.wp M Γ (.stack .pure) _ _ p s
 rw [Sem.wp_stack,Sem.wp_pure] at h ⊢
 exact ⟨h,c⟩
theorem aX.ite {c:Prop} [Decidable c] {a b:Sem α} (h1:aX e a) (h2:aX e b):aX e (if c then a else b):=by
 split
 ·exact h1
 ·exact h2
theorem aX.field (v:Value) (i:Nat):aX e (PySem.field v i):=by
 unfold PySem.field PySem.fieldsOf
 refine aX.bind ?_ fun vs=>?_
 ·split
  ·refine aX.bind (aX.load _) fun o=>?_
   split
   ·exact aX.pure _
   ·exact aX.A8 _
  ·exact aX.A8 _
 ·split
  ·exact aX.pure _
  ·exact aX.A8 _
theorem aX.setField (v x:Value) (i:Nat) (hi:i≠2):aX e (PySem.setField v i x):=by
 unfold PySem.setField PySem.updateField
 split
 ·refine aX.bind (aX.load _) fun o=>?_
  split
  ·refine aX.ite (aX.update _ _ fun o vs h1 h2=>⟨_,Obj.data_mapFields h1 _,?_,?_⟩) (aX.A8 _)
   ·rw [Array.getElem?_setIfInBounds_ne hi];exact h2
   ·unfold Obj.mapFields;split <;> rfl
  ·exact aX.A8 _
 ·exact aX.A8 _
theorem aX.frameEnvs:aX e PySem.frameEnvs:=by
 unfold PySem.frameEnvs
 exact aX.bind aX.stack fun _=>aX.pure _
theorem aX.behind (env:Env) (outer:List Env):aX e (behindIsImport env outer):=by
 unfold behindIsImport
 refine aX.ite (aX.pure _) (aX.ite (aX.pure _) (aX.bind (aX.field _ _) fun _=>aX.pure _))
theorem aX.under:aX e underTheClaimsCaller:=by
 unfold underTheClaimsCaller
 exact aX.bind aX.stack fun _=>aX.pure _
theorem aX.kept (env:Env) (b:Bool) (l:List Env):aX e (keptBack env b l):=by
 unfold keptBack
 split
 ·refine aX.ite (aX.pure _) (aX.bind aX.under fun _=>aX.pure _)
 ·exact aX.pure _
theorem aX.ready:∀ (l:List Env),aX e (readyFrames l)
 | []=>aX.pure _
 | env::outer=>by
  unfold readyFrames
  split
  ·refine aX.bind (aX.load _) fun o=>?_
   refine aX.ite (aX.pure _) ?_
   refine aX.bind (aX.behind _ _) fun _=>aX.bind (aX.kept _ _ _) fun _=>aX.bind (aX.update _ _ fun o vs h1 h2=>⟨vs,h1,h2,rfl⟩) fun _=>aX.ready outer
  ·exact aX.A8 _
theorem aX.frameOf (env:Env):aX e (PySem.frameOf env):=by
 unfold PySem.frameOf
 refine aX.bind aX.frameEnvs fun l=>aX.bind ?_ fun _=>?_
 ·unfold frameObject
  split
  ·exact aX.pure _
  ·exact aX.bind (aX.ready _) fun _=>aX.pure _
 ·split
  ·exact aX.pure _
  ·exact aX.A8 _
theorem aX.place (f:Addr) (b:Bool):aX e (entryPlaceOf f b):=by
 unfold entryPlaceOf
 refine aX.bind aX.stack fun _=>?_
 split
 ·exact aX.pure _
 ·exact aX.pure _
theorem aX.entry (a b c d f:Value) (l:List Value):aX e (EntryCells.newEntry a b c d f l):=by
 unfold EntryCells.newEntry newFields newObj
 repeat (first | exact aX.pure _ | exact aX.A8 _ | refine aX.bind (aX.alloc _) fun _=>?_ | refine aX.bind (aX.A8 _) fun _=>?_ | refine aX.ite ?_ ?_ | (refine aX.bind ?_ fun _=>?_))
theorem aX.flight (v:Value) (f:Option Addr):aX e (setFlight v f):=by
 unfold setFlight
 refine aX.bind (aX.field _ _) fun _=>aX.ite (aX.setField _ _ _ (by decide)) (aX.pure _)
theorem aX.note (v:Value) (env:Env):aX e (noteFrame v env):=by
 unfold noteFrame
 split
 ·refine aX.bind (aX.field _ _) fun h=>aX.ite ?_ ?_
  ·refine aX.bind (aX.field _ _) fun _=>aX.ite (aX.pure _) ?_
   refine aX.bind (aX.setField _ _ _ (by decide)) fun _=>aX.bind (aX.frameOf _) fun _=>aX.bind (aX.place _ _) fun _=>aX.bind (aX.entry _ _ _ _ _ _) fun _=>aX.setField _ _ _ (by decide)
  ·refine aX.bind (aX.frameOf _) fun _=>aX.bind (aX.place _ _) fun _=>aX.bind (aX.entry _ _ _ _ _ _) fun _=>aX.setField _ _ _ (by decide)
 ·exact aX.A8 _
theorem aX.leave (v:Value) (env:Env):aX e (leaving env v):=by
 unfold leaving
 exact aX.bind (aX.note _ _) fun _=>aX.flight _ _
theorem aX.any {m:Sem α} {M:Model} {A:Around} {Q:α->Shared->Prop} {E:Value->Shared->Prop} {s:Shared} (k:aX e m) (h:wpAny M A m Q E s) (c:C0 e s.heap):wpAny M A m (fun a s'=>Q a s'/\C0 e s'.heap) (fun v s'=>E v s'/\C0 e s'.heap) s:=
 fun Γ p hΓ=>k M Γ _ _ p s (h Γ p hΓ) c
end
theorem bM.here {P:Program} {w:World} {H:Hp} {h:Heap} {a:Addr} {o:HO} (x:bM P w H h a o):∃ ob,h.get? a=some ob:=by
 cases o with
 | lst xs=>obtain ⟨_,_,_,_,e⟩:=x;exact ⟨_,e⟩
 | tup xs=>obtain ⟨_,_,_,p⟩:=x;obtain ⟨o,e,_⟩:=p;exact ⟨_,e⟩
 | dK kvs=>obtain ⟨_,_,_,_,o,_,_,e,_⟩:=x;exact ⟨_,e⟩
 | dT kvs=>obtain ⟨_,_,_,_,o,_,_,e,_⟩:=x;exact ⟨_,e⟩
 | set S n=>obtain ⟨o,_,_,_,e,_⟩:=x;exact ⟨_,e⟩
 | ins C dx fs=>obtain ⟨_,_,_,e,_⟩:=x;exact ⟨_,e⟩
 | own y=>exact x
 | xd fs=>obtain ⟨_,⟨_,_,_,e,_⟩,_⟩:=x;exact ⟨_,e⟩
 | rng lo hi=>obtain ⟨_,_,_,e⟩:=x;exact ⟨_,e⟩
 | frz ob u=>obtain ⟨e,_⟩:=x;exact ⟨_,e⟩
 | tbl ps=>exact ⟨_,(show h.get? a=some _ from x)⟩
 | met f y=>exact ⟨_,(show h.get? a=some _ from x)⟩
 | ext φ=>obtain ⟨_,⟨o,e⟩,_⟩:=x;exact ⟨_,e⟩
structure Fly (l:List Env) (g:Heap) (pn:List (Addr×Obj)) (H:Hp) (e:Addr) (cls:Value) (h:Heap):Prop where
 ex:∃ (B:Heap) (a0:Value),Heap.FlyingW B l e cls a0 h/\(∀ a u,H a=some u->∃ o,B.get? a=some o)/\(∀ b o,g.get? b=some o->b∉frs l->∃ o',B.get? b=some o')/\(∀ p∈pn,∃ o',B.get? p.1=some o')/\C0 e h
structure Made (X:Cx) (H:Hp) (e:Addr) (cls:Value) (g:Heap) (h:Heap):Prop where
 ex:∃ (g':Heap) (vs:List Value),Heap.MadeExcOf g' h e cls vs/\g'.FunFrames X.base X.stack/\(∀ a u,H a=some u->∃ o,g'.get? a=some o)/\(∀ b o,g.get? b=some o->∃ o',g'.get? b=some o')/\(∀ p∈X.pn,∃ o',g'.get? p.1=some o')
theorem wu {g h:Heap} {e:Addr} {cls:Value} {vs:List Value} (M:Heap.MadeExcOf g h e cls vs):C0 e h:=by
 obtain ⟨t,he,_⟩:=M.there
 exact ⟨_,_,he,rfl,rfl,rfl⟩
noncomputable def nK (X:Cx) (H:Hp) (e:Addr) (cls:Value) (s':Shared):Prop:=Made X H e cls X.s₀.heap s'.heap\/Fly X.stack X.s₀.heap X.pn H e cls s'.heap
section
variable {X:Cx} {pins:List (Addr×Obj)} {σ:L2.St} {H:Hp} {s':Shared} {e:Addr} {cls:Value}
theorem mZ (I:Inv X pins σ H s') (hex:X.ex=[]) {B h':Heap} (k1:B.StaysIn s'.heap) (k2:B.StaysIn h') (up:s'.heap.UpToSlots h') (c1:∀ a u,H a=some u->∃ o,B.get? a=some o) (c2:∀ b o,X.s₀.heap.get? b=some o->b∉X.fs->∃ o',B.get? b=some o') :
  Un X.fs [] X.H₀ H X.s₀.heap h'/\iU X.prog X.w H h':=by
 have nx:∀ b:Addr,b∉X.ex:=fun b z=>by rw [hex] at z;cases z
 have cov:∀ b o o',B.get? b=some o'->s'.heap.get? b=some o->h'.get? b=some o:=fun b o o' eb es=>by
  have:=k1 b o' eb
  rw [es] at this;cases this
  exact k2 b o eb
 have slot:∀ b o,X.s₀.heap.get? b=some o->X.H₀ b=none->b∈X.fs->∃ sl,h'.get? b=some { o with slots:=sl }:=fun b o q n hb=>by
  obtain ⟨sl,e1⟩:=I.base.slot b o q n hb (nx b)
  obtain ⟨_,o2,q2,d2⟩:=I.ok.iu.mem hb
  rw [q] at q2;cases q2
  obtain ⟨sl',e2⟩:=up b _ e1 d2
  exact ⟨sl',e2⟩
 refine ⟨⟨fun b o q n hb _=>?_,fun b o q n hb _=>slot b o q n hb,fun b o q n _=>I.base.free b o q n (nx b),fun b o q _=>?_,I.base.tups,I.base.frzs,I.base.tbls⟩,fun a u ea=>?_⟩
 ·obtain ⟨o',eb⟩:=c2 b o q hb
  exact cov b o o' eb (I.base.keep b o q n hb (nx b))
 ·by_cases hb:b∈X.fs
  ·obtain ⟨sl,z⟩:=slot b o q (I.ok.frf b hb) hb
   exact ⟨_,z⟩
  ·obtain ⟨o',eb⟩:=c2 b o q hb
   exact ⟨o',k2 b o' eb⟩
 ·refine (I.hok a u ea).stay (fun b v hb q=>?_) (fun _ q=>q) fun _ _ q=>q
  rcases hb with z | z
  ·subst z
   obtain ⟨o',eb⟩:=c1 _ u ea
   exact cov _ v o' eb q
  ·obtain ⟨o',eb⟩:=c1 b _ z
   exact cov b v o' eb q
theorem tD (I:Inv X pins σ H s') (hst:X.stack=X.env::X.outer) (hf:X.env.frame=some X.env.locals) (hex:X.ex=[]) (R:nK X H e cls s') {Q:Shared->Prop} {E:Value->Shared->Prop}
  (hQ:∀ h',Un X.fs [] X.H₀ H X.s₀.heap h'->iU X.prog X.w H h'->Fly X.outer X.s₀.heap [] H e cls h'->Q { s' with heap:=h' }):wpAny (model X.prog X.w) X.A (leaving X.env (.ref e)) (fun _ s''=>Q s'') E s':=by
 have hfr:X.A.frames=some (X.env::X.outer):=by rw [<- hst];exact I.ok.frames
 have nl:∀ b o,X.s₀.heap.get? b=some o->b∉X.fs->b∉frs (X.env::X.outer):=fun b o q hb z=>by
  unfold frs at z
  rw [List.filterMap_cons,hf] at z
  rcases List.mem_cons.mp z with z | z
  ·rw [z] at q
   exact absurd (Nat.lt_of_lt_of_le (Heap.lt_size q) I.ok.above) (Nat.lt_irrefl _)
  ·exact hb z
 rcases R with ⟨g',vs,M,ffg,m1,m2,_⟩ | ⟨B,a0,F,c1,c2,_,k0⟩
 ·
  rw [hst] at ffg
  have hin:∀ env∈(X.env::X.outer),∀ b,env.frame=some b->b∈frs (X.env::X.outer):=fun env he b hb=>List.mem_filterMap.mpr ⟨env,he,hb⟩
  refine wpAny_mono (aX.any (e:=e) (aX.leave _ _) (wpAny_leaves_madeW (Q:=fun _ s''=>∃ h' t,s''={ s' with heap:=h' }/\Heap.FlyingW (PySem.W.hideAll g' (frs (X.env::X.outer))) X.outer e cls (.ref t) h'/\s'.heap.UpToSlots h') (E:=fun _ _=>False) (base:=PySem.W.hideAll g' (frs (X.env::X.outer))) hfr hf (fun b o q=>PySem.W.of_hideAll _ q) (PySem.W.funFrames_hide ffg hin) M fun h' t x1 x2 x3 x4=>⟨h',t,rfl,x1,x4⟩) (wu M)) (fun _ s'' z=>?_) fun _ _ z=>z.1.elim
  obtain ⟨⟨h',t,rfl,x1,x4⟩,k0⟩:=z
  have k1:(PySem.W.hideAll g' (frs (X.env::X.outer))).StaysIn s'.heap:=fun b o q=>M.keeps b o (PySem.W.of_hideAll _ q)
  have c1:∀ a u,H a=some u->∃ o,(PySem.W.hideAll g' (frs (X.env::X.outer))).get? a=some o:=fun a u ea=>by
   obtain ⟨o,q⟩:=m1 a u ea
   refine ⟨o,PySem.W.hideAll_get _ q fun z=>?_⟩
   rw [<- hst] at z
   rw [I.lq a z] at ea;cases ea
  have c2:∀ b o,X.s₀.heap.get? b=some o->b∉X.fs->∃ o',(PySem.W.hideAll g' (frs (X.env::X.outer))).get? b=some o':=fun b o q hb=>by
   obtain ⟨o',q'⟩:=m2 b o q
   exact ⟨o',PySem.W.hideAll_get _ q' (nl b o q hb)⟩
  obtain ⟨un,hok⟩:=mZ I hex k1 x1.1 x4 c1 c2
  exact hQ h' un hok ⟨_,_,x1,c1,fun b o q hb=>c2 b o q hb,fun p hp=>absurd hp (by simp),k0⟩
 ·rw [hst] at F c2
  refine wpAny_mono (aX.any (e:=e) (aX.leave _ _) (wpAny_leaves_onW (Q:=fun _ s''=>∃ h',s''={ s' with heap:=h' }/\Heap.FlyingW B X.outer e cls a0 h'/\s'.heap.UpToSlots h') (E:=fun _ _=>False) hfr hf F fun h' x1 x4=>⟨h',rfl,x1,x4⟩) k0) (fun _ s'' z=>?_) fun _ _ z=>z.1.elim
  obtain ⟨⟨h',rfl,x1,x4⟩,k0'⟩:=z
  have c2':∀ b o,X.s₀.heap.get? b=some o->b∉X.fs->∃ o',B.get? b=some o':=fun b o q hb=>c2 b o q (nl b o q hb)
  obtain ⟨un,hok⟩:=mZ I hex F.1 x1.1 x4 c1 c2'
  exact hQ h' un hok ⟨_,_,x1,c1,c2',fun p hp=>absurd hp (by simp),k0'⟩
end
noncomputable def uJ (P:Program) (w:World):ze:=fun outer H s E e s''=>∃ ea cls H',e=.ref ea/\s''.os=s.os/\AllBare s''.gens/\Un (frs outer) [] H H' s.heap s''.heap/\iU P w H' s''.heap/\Fly outer s.heap [] H' ea cls s''.heap/\E cls none H'
section
variable {P:Program} {w:World} {K:PySem.W.Frag} {mg:Str->Option Value} {base:Heap} {N:List Str} {qual:Str} {scope:Scope} {f:Addr} {cd:Value} {A:Around} {outer:List Env} {s:Shared} {H:Hp} {E:XK}
theorem yL {pins:List (Addr×Obj)} {σ':L2.St} {H':Hp} {s':Shared} {ea:Addr} {cls:Value} (I:Inv (kP (uJ P w) P w K mg base N qual scope f cd A outer s H E) pins σ' H' s')
  (hf:(envOfC qual scope s.heap.objs.size f cd).frame=some (envOfC qual scope s.heap.objs.size f cd).locals)
  (R:nK (kP (uJ P w) P w K mg base N qual scope f cd A outer s H E) H' ea cls s') (hE:E cls none H'):(kP (uJ P w) P w K mg base N qual scope f cd A outer s H E).xe (.ref ea) s':=by
 refine tD I rfl hf rfl R (Q:=fun s''=>uJ P w outer H s E (.ref ea) s'') fun h' un hok fl=>?_
 exact ⟨ea,cls,H',rfl,I.os,I.bare,un,hok,fl,hE⟩
noncomputable def EX (X:Cx):XK:=fun cls _ H'=>X.ex=[]/\∀ pins σ' s' e,Inv X pins σ' H' s'->nK X H' e cls s'->X.xe (.ref e) s'
theorem BO {X:Cx} (hP:X.prog=P) (hw:X.w=w):Passes (uJ P w) X (EX X):=by
 intro pins σ H s e s' I ⟨ea,cls,H',he,os,bare,un,hok,⟨B,a0,F,c1,c2,_,k0⟩,hE⟩
 subst he hP hw
 obtain ⟨hh,g,d,t,os'⟩:=s'
 obtain rfl:os'=s.os:=os
 refine hE.2 pins σ _ ea (I.call (h':=hh) (g':=g) (d':=d) (t':=t) (ch:=[]) un hok bare (fun b z=>absurd z (by simp))) (.inr ⟨B,a0,F,c1,fun b o q hb=>?_,fun p hp=>?_,k0⟩)
 ·obtain ⟨o',q'⟩:=I.base.there b o q (by rw [hE.1];simp)
  exact c2 b o' q' hb
 ·obtain ⟨q,_,n1,n2,_⟩:=I.pin p (List.mem_append_left _ hp)
  exact c2 p.1 _ q fun z=>(List.mem_cons.mp (I.nA _ z)).elim n1 n2
noncomputable def Hf (X:Cx) (C:Addr) (t:TA):TS:=fun _ σ H=>t σ H fun vs H'=>vs.length<=sizeLine/\EX X (.ref C) none H'
theorem rJ {X:Cx} {x:Str} {C:Addr} {bmB:List Value} {newId B initId:String} {e:Expr} {es:List Expr} {t:TA} {np cpos pos:Pos} (O:OwnCls x C bmB newId X.mg X.base) (FB:ExcBaseFacts B newId initId bmB) (hh:X.A.handled=none) (ha:PA X (e::es) t) (hg:Gl X x:=by rfl)
  (hs:starEach (e::es) X.env=(false,eval e X.env)::starEach es X.env:=by rfl) (hplain:(backTo cpos (starEach es X.env)).any (·.1)=false:=by rfl) (hd:(x == ("__debug__" : Str))=false:=by decide) :
  PS X (.Raise (some (.Call (.Name x np) (e::es) [] cpos)) none pos) (Hf X C t):=by
 intro pins s σ H D I h
 obtain ⟨tl,N,nm,q,bs,hdct,sn,sub,ab,col,dd,k0,k1,k2,k3,k5,mN,hC,hN,hni,T⟩:=O.obj
 refine wpAny_Raise_call_subU (C:=C) (nm:=nm) (q:=q) (N:=N) (bs:=bs) (bm:=tl) (hdct:=hdct) (sn:=sn) (sub:=sub) (ab:=ab) (col:=col) (dd:=dd) (k0:=k0) (k1:=k1) (k2:=k2) (k3:=k3) (k5:=k5)
  FB FB.hasB FB (mN:=mN) (T.hasType FB.hasBase) hh (by rw [hs];show (false || (backTo cpos (starEach es X.env)).any (·.1))=false;rw [hplain];rfl) hni (lJ I hg O.bound ⟨rfl,?_⟩ hd)
 have hA:=ha cpos pins s σ H _ I h
 rw [hs] at hA ⊢
 refine Calls.evalArgs_plain (bO hA fun us s2 ⟨vs,H2,I2,r2,hl,hex,q2⟩=>?_)
 refine ⟨rfl,by rw [<- r2.length];exact hl,I2.bk _ _ hC,hN.keeps I2.bk,T.keeps I2.bk,fun h' ea M=>?_⟩
 refine q2 pins σ { s2 with heap:=h' } ea ?_ (.inl ⟨s2.heap,us,M,I2.stack,fun a u ea=>?_,fun b o q=>?_,fun p hp=>⟨_,(I2.pin p (List.mem_append_left _ hp)).1⟩⟩)
 ·exact I2.kept (t':=s2.toks) M.keeps
 ·exact (I2.hok a u ea).here
 ·exact I2.base.there b o q (by rw [hex];simp)
end
noncomputable def mq:List (Str ⊕ TE)->St->Hp->(Hp->Prop)->Prop
 | [],_,H,k=>k H
 | .inl x::ps,σ,H,k=>x.length<=1000/\mq ps σ H k
 | .inr t::ps,σ,H,k=>t σ H fun v H'=>∃ i,v=.int i/\i.natAbs.log2 < 64/\mq ps σ H' k
inductive FParts (X:Cx):List Expr->List (Str ⊕ TE)->Prop
 | nil:FParts X [] []
 | txt {x:Str} {j pos} {es:List Expr} {ps:List (Str ⊕ TE)} (h:FParts X es ps):FParts X (.Constant (.str x) j pos::es) (.inl x::ps)
 | val {e:Expr} {pos:Pos} {t:TE} {es:List Expr} {ps:List (Str ⊕ TE)} (he:PE X e t) (h:FParts X es ps):FParts X (.FormattedValue e (-1) none pos::es) (.inr t::ps)
theorem je {X:Cx} {pins:List (Addr×Obj)} {σ:St} {Q:VK}:∀ {es:List Expr} {ps:List (Str ⊕ TE)},FParts X es ps->∀ (H:Hp) (s:Shared) (out:Str),Inv X pins σ H s->out.length+2000 * es.length<=sizeLine ->
  mq ps σ H (fun H'=>∀ x:Str,x.length<=sizeLine->Q (.str x) H')->wpAny (model X.prog X.w) X.A (joinParts out (evalEach es X.env)) (EP X pins σ Q) X.xe s
 | _,_,.nil,H,s,out,I,hl,h=>joinParts_nilE (joinParts_nil (show EP X pins σ Q _ _ from ⟨.str out,H,I.tok _,⟨_,rfl⟩,h out (by simpa using hl)⟩) (by simpa using hl))
 | _,_,.txt (x:=x) hp,H,s,out,I,hl,h=>by
  refine joinParts_consE (joinParts_cons (Calls.Constant_str ?_))
  rw [List.length_cons] at hl
  have hx:=h.1
  have hz:(out++x).length=out.length+x.length:=strLen_append ..
  exact ⟨by rw [hz];omega,je hp H _ _ (I.tok _) (by rw [hz];omega) h.2⟩
 | _,_,.val (e:=e) (t:=t) he hp,H,s,out,I,hl,h=>by
  rw [List.length_cons] at hl
  refine joinParts_consE (joinParts_cons (FormattedValue_plain (bO (he pins s σ H _ I h) fun v s1 ⟨x,H1,I1,r1,i,hx,hi,h1⟩=>?_)))
  subst hx
  obtain ⟨tk,rfl⟩:=r1
  refine formatField_int_small (by omega) ?_
  have ht:(Str.ofString (toString i)).length<=65:=by
   have:=int_text_length_le (a:=i) (k:=64) (by decide) hi
   rw [PySem.ofString_length];exact this
  have hz:(out++Str.ofString (toString i)).length=out.length+(Str.ofString (toString i)).length:=strLen_append ..
  exact ⟨by rw [hz];omega,je hp H1 _ _ (I1.tok _) (by rw [hz];omega) h1⟩
noncomputable def Nr (ps:List (Str ⊕ TE)):TE:=fun σ H Q=>mq ps σ H fun H'=>∀ x:Str,x.length<=sizeLine->Q (.str x) H'
theorem Ke {X:Cx} {e1 e2:Expr} {es:List Expr} {ps:List (Str ⊕ TE)} {pos:Pos} (h:FParts X (e1::e2::es) ps) (hl:2000 * (e1::e2::es).length<=sizeLine:=by decide):PE X (.JoinedStr (e1::e2::es) pos) (Nr ps):=
 fun pins s σ H Q I q=>JoinedStr_many (je h H s Str.empty I (by rw [show Str.empty.length=0 from rfl,Nat.zero_add];exact hl) q)
noncomputable def Cx.nY (X:Cx) (pn':List (Addr×Obj)) (xe':Value->Shared->Prop):Cx:={ X with xe:=xe',pn:=pn' }
noncomputable def xu:HO:=.ext fun _=>True
noncomputable def Cx.hand (X:Cx) (pn':List (Addr×Obj)) (e:Addr) (oe:Obj):Cx:={ X with A:=X.A.mark (some (.ref e)),calm:=false,xe:=fun _ _=>False,pn:=pn',H₀:=upd X.H₀ e (.frz oe xu) }
structure XO (C:Addr) (o:Obj):Prop where
 cls:o.cls=.ref C
 dict:o.dict=none
 ctx:∃ vs,o.data=.fields vs/\vs[2]?=some .none
structure Fr0 (X:Cx) (e:Addr):Prop where
 no:∀ o,X.s₀.heap.get? e≠some o
 tup:∀ xs,X.H₀ e≠some (.tup xs)
 frz:∀ o u,X.H₀ e≠some (.frz o u)
 tbl:∀ ps,X.H₀ e≠some (.tbl ps)
section
variable {X:Cx} {pins:List (Addr×Obj)} {σ:L2.St} {H:Hp} {s':Shared} {e:Addr} {cls:Value}
theorem yv (I:Inv X pins σ H s') (hst:X.stack=X.env::X.outer) (hf:X.env.frame=some X.env.locals) (R:nK X H e cls s') {Q:Unit->Shared->Prop} {E:Value->Shared->Prop}
  (hQ:∀ h' B a0,Heap.HeldW B (X.env::X.outer) e cls a0 X.env.locals h'->B.StaysIn s'.heap->s'.heap.UpToSlots h'->(∀ a u,H a=some u->∃ o,B.get? a=some o)->(∀ b o,X.s₀.heap.get? b=some o->b∉X.fs->∃ o',B.get? b=some o')->(∀ p∈X.pn,∃ o',B.get? p.1=some o')->C0 e h'->Q () { s' with heap:=h' }) :
  wpAny (model X.prog X.w) X.A (noteFrame (.ref e) X.env) Q E s':=by
 have hfr:X.A.frames=some (X.env::X.outer):=by rw [<- hst];exact I.ok.frames
 have nl:∀ b o,X.s₀.heap.get? b=some o->b∉X.fs->b∉frs (X.env::X.outer):=fun b o q hb z=>by
  unfold frs at z
  rw [List.filterMap_cons,hf] at z
  rcases List.mem_cons.mp z with z | z
  ·rw [z] at q
   exact absurd (Nat.lt_of_lt_of_le (Heap.lt_size q) I.ok.above) (Nat.lt_irrefl _)
  ·exact hb z
 rcases R with ⟨g',vs,M,ffg,m1,m2,m3⟩ | ⟨B,a0,F,c1,c2,c3,k0⟩
 ·rw [hst] at ffg
  have hin:∀ env∈(X.env::X.outer),∀ b,env.frame=some b->b∈frs (X.env::X.outer):=fun env he b hb=>List.mem_filterMap.mpr ⟨env,he,hb⟩
  have hl:=PySem.W.funFrames_hide ffg hin
  obtain ⟨t,he,htn,ht⟩:=M.there
  have bn:(PySem.W.hideAll g' (frs (X.env::X.outer))).get? e=none:=by
   cases hq:(PySem.W.hideAll g' (frs (X.env::X.outer))).get? e with
   | none=>rfl
   | some o'=>have:=PySem.W.of_hideAll _ hq;rw [M.new] at this;cases this
  have k1:(PySem.W.hideAll g' (frs (X.env::X.outer))).StaysIn s'.heap:=fun b o q=>M.keeps b o (PySem.W.of_hideAll _ q)
  have go:wpAny (model X.prog X.w) X.A (noteFrame (.ref e) X.env) (fun _ s''=>∃ h',s''={ s' with heap:=h' }/\Heap.HeldW (PySem.W.hideAll g' (frs (X.env::X.outer))) (X.env::X.outer) e cls (.ref t) X.env.locals h'/\s'.heap.UpToSlots h') (fun _ _=>False) s':=by
   unfold noteFrame
   simp only [hf]
   refine wpAny_bind (wpAny_field he rfl (x:=.none) rfl ?_)
   rw [if_neg (by decide)]
   refine wpAny_entryW (base:=PySem.W.hideAll g' (frs (X.env::X.outer))) (a0:=.ref t) hfr (hl.of_keeps fun b o hb _=>⟨o,M.keeps b o hb,rfl⟩) hf he k1 bn rfl (by simp) rfl fun h' hL=>?_
   obtain ⟨x1,x2,x3,x4⟩:=hL
   exact ⟨h',rfl,⟨x1,bn,x2,x3⟩,x4⟩
  refine wpAny_mono (aX.any (e:=e) (aX.note _ _) go (wu M)) (fun _ s'' z=>?_) fun _ _ z=>z.1.elim
  obtain ⟨⟨h',rfl,x1,x4⟩,k0⟩:=z
  refine hQ h' _ _ x1 k1 x4 (fun a u ea=>?_) (fun b o q hb=>?_) (fun p hp=>?_) k0
  ·obtain ⟨o,q⟩:=m1 a u ea
   refine ⟨o,PySem.W.hideAll_get _ q fun z=>?_⟩
   rw [<- hst] at z
   rw [I.lq a z] at ea;cases ea
  ·obtain ⟨o',q'⟩:=m2 b o q
   exact ⟨o',PySem.W.hideAll_get _ q' (nl b o q hb)⟩
  ·obtain ⟨o',q'⟩:=m3 p hp
   obtain ⟨q,_,n1,n2,_⟩:=I.pin p (List.mem_append_left _ hp)
   refine ⟨o',PySem.W.hideAll_get _ q' fun z=>?_⟩
   rw [<- hst] at z
   exact (List.mem_cons.mp (I.nA _ z)).elim n1 n2
 ·rw [hst] at F c2
  refine wpAny_mono (aX.any (e:=e) (aX.note _ _) (wpAny_looks_onW (Q:=fun _ s''=>∃ h',s''={ s' with heap:=h' }/\Heap.HeldW B (X.env::X.outer) e cls a0 X.env.locals h'/\s'.heap.UpToSlots h') (E:=fun _ _=>False) hfr hf F fun h' x1 x4=>⟨h',rfl,x1,x4⟩) k0) (fun _ s'' z=>?_) fun _ _ z=>z.1.elim
  obtain ⟨⟨h',rfl,x1,x4⟩,k0'⟩:=z
  exact hQ h' B a0 x1 F.1 x4 c1 (fun b o q hb=>c2 b o q (nl b o q hb)) c3 k0'
end
section
variable {X:Cx} {pn' pins:List (Addr×Obj)} {xe':Value->Shared->Prop} {σ:L2.St} {H:Hp} {s':Shared} {e C:Addr} {B h6:Heap} {a0:Value}
theorem oZ (I:Inv (X.nY pn' xe') pins σ H s') (hex:X.ex=[]) (F:Heap.FlyingW B (X.env::X.outer) e (.ref C) a0 h6) (k1:B.StaysIn s'.heap) (up:s'.heap.UpToSlots h6)
  (c1:∀ a u,H a=some u->∃ o,B.get? a=some o) (c2:∀ b o,X.s₀.heap.get? b=some o->b∉X.fs->∃ o',B.get? b=some o') (c3:∀ p∈pn',∃ o',B.get? p.1=some o') (k0:C0 e h6) :
  Fr0 X e/\H e=none/\∃ oe,XO C oe/\Inv (X.hand pn' e oe) [] σ (upd H e (.frz oe xu)) { s' with heap:=h6 }:=by
 obtain ⟨un,hok⟩:=mZ I hex k1 F.1 up c1 c2
 have hn:H e=none:=by
  cases q:H e with
  | none=>rfl
  | some u=>obtain ⟨o,z⟩:=c1 e u q;rw [F.2.1] at z;cases z
 obtain ⟨o0,vs0,g1,g2,g3,g5⟩:=k0
 have ns:∀ o,X.s₀.heap.get? e≠some o:=fun o q=>by
  by_cases hb:e∈X.fs
  ·obtain ⟨_,o2,q2,d2⟩:=I.ok.iu.mem hb
   have q2:X.s₀.heap.get? e=some o2:=q2
   rw [q] at q2;cases q2
   obtain ⟨sl,z⟩:=un.slot e o q (I.ok.frf e hb) hb (by simp)
   rw [g1] at z
   have z:o0=_:=Option.some.inj z
   rw [z] at g2
   exact d2 _ g2
  ·obtain ⟨o',z⟩:=c2 e o q hb
   rw [F.2.1] at z;cases z
 have hs0:∀ (b:Addr) (ob:Obj),s'.heap.get? b=some ob->(∀ vs,ob.data≠.fields vs)->b≠e:=fun b ob q d z=>by
  obtain ⟨sl,z'⟩:=up b ob q d
  rw [z,g1] at z'
  have z':o0=_:=Option.some.inj z'
  rw [z'] at g2
  exact d _ g2
 obtain ⟨m,hm,hl⟩:=id I.loc
 have hm':s'.heap.Ns X.env.locals m:=hm
 have cel:∀ c v,s'.heap.IsCell c v->h6.IsCell c v:=fun c v ⟨oc,q,d⟩=>by
  obtain ⟨sl,z⟩:=up c oc q fun vs y=>by rw [d] at y;cases y
  exact ⟨_,z,d⟩
 have lne:X.env.locals≠e:=by
  obtain ⟨oL,es,ep,q,d,_⟩:=id hm'
  exact hs0 _ oL q fun vs y=>by rw [d] at y;cases y
 have xo:XO C o0:=by
  obtain ⟨_,_,_,oe,vs,T,oT,ts,he,⟨hc,_⟩,hd,_⟩:=F
  rw [g1] at he
  have he:o0=oe:=Option.some.inj he
  subst he
  exact ⟨hc,g5,vs0,g2,g3⟩
 have no:∀ u,H e≠some u:=fun u q=>by rw [hn] at q;cases q
 have fr:Fr0 X e:=⟨ns,fun xs q=>no _ (un.tups e xs q),fun o u q=>no _ (un.frzs e o u q),fun ps q=>let ⟨_,z⟩:=un.tbls e ps q;no _ z⟩
 refine ⟨fr,hn,o0,xo,⟨I.ok.mod,I.ok.kind,I.ok.glob,I.ok.blt,I.ok.above,I.ok.inj,I.ok.has,I.ok.cab,fun h=>(by cases h),I.ok.frames,I.ok.stk,I.ok.exf,fun b o q=>⟨(I.ok.bs b o q).1,?_⟩,I.ok.bsz,I.ok.noex,I.ok.exfs,I.ok.iu,fun b hb=>?_⟩,I.os,I.bare,?_,⟨m,up.ns hm',fun i x v h1 h2 h3=>?_⟩,fun x c h=>?_,?_,fun x c h=>?_,fun p hp=>?_,fun b u q=>?_,I.len⟩
 ·show upd X.H₀ e _ b=none
  rw [aI (fun z=>ns o (by rw [<- z];exact (I.ok.bs b o q).1))];exact (I.ok.bs b o q).2
 ·show upd X.H₀ e _ b=none
  obtain ⟨_,o2,q2,d2⟩:=I.ok.iu.mem hb
  rw [aI (fun z=>ns o2 (by rw [<- z];exact q2))];exact I.ok.frf b hb
 ·have h0:∀ b o,X.s₀.heap.get? b=some o->upd X.H₀ e (.frz o0 xu) b=none->X.H₀ b=none:=fun b o q n=>by
   rwa [aI (fun z=>ns o (by rw [<- z];exact q))] at n
  refine ⟨fun b o q n h _=>un.keep b o q (h0 b o q n) h (by simp),fun b o q n h _=>un.slot b o q (h0 b o q n) h (by simp),fun b o q n _=>?_,fun b o q _=>un.there b o q (by simp),fun b xs q=>?_,fun b o u q=>?_,fun b ps q=>?_⟩
  ·rw [aI (fun z=>ns o (by rw [<- z];exact q))]
   exact un.free b o q (h0 b o q n) (by simp)
  ·have q:upd X.H₀ e (.frz o0 xu) b=some (.tup xs):=q
   by_cases hb:b=e
   ·rw [hb,aY] at q;cases q
   ·rw [aI hb] at q ⊢
    exact un.tups b xs q
  ·have q:upd X.H₀ e (.frz o0 xu) b=some (.frz o u):=q
   by_cases hb:b=e
   ·rw [hb,aY] at q ⊢;exact q
   ·rw [aI hb] at q ⊢
    exact un.frzs b o u q
  ·have q:upd X.H₀ e (.frz o0 xu) b=some (.tbl ps):=q
   by_cases hb:b=e
   ·rw [hb,aY] at q;cases q
   ·rw [aI hb] at q ⊢
    exact un.tbls b ps q
 ·obtain ⟨u,r,lk⟩:=hl i x v h1 h2 h3
  refine ⟨u,r,?_⟩
  rcases lk with ⟨k,z⟩ | ⟨k,c,z,y⟩
  ·exact .inl ⟨k,z⟩
  ·exact .inr ⟨k,c,z,cel c _ y⟩
 ·obtain ⟨v,z⟩:=I.cell x c h
  exact ⟨v,cel c v z⟩
 ·show upd H e _ X.env.locals=none
  rw [aI lne];exact I.free
 ·obtain ⟨v,oc,q,d⟩:=I.cell x c h
  rw [aI (hs0 c oc q fun vs y=>by rw [d] at y;cases y)]
  exact I.freeC x c h
 ·have hp:p∈pn':=by
   have hp:p∈pn'++[]:=hp
   rwa [List.append_nil] at hp
  obtain ⟨q,n,n1,n2,d⟩:=I.pin p (List.mem_append_left _ hp)
  obtain ⟨o',z⟩:=c3 p hp
  have z1:=k1 _ _ z
  rw [q] at z1
  have z1:p.2=o':=Option.some.inj z1
  refine ⟨by rw [z1];exact F.1 _ _ z,?_,n1,n2,d⟩
  rw [aI (fun y=>by rw [y,F.2.1] at z;cases z)]
  exact n
 ·by_cases hb:b=e
  ·subst hb
   rw [aY] at q;cases q
   exact ⟨g1,trivial,⟨o0,g1⟩,fun _ _ _ _=>trivial⟩
  ·rw [aI hb] at q
   exact (hok b u q).stay (fun _ _ _ z=>z) (fun c z=>by rw [aI (aQ z hn)];exact z) fun c xs z=>by rw [aI (aQ z hn)];exact z
end
section
variable {X:Cx} {pins:List (Addr×Obj)} {σ:L2.St} {H:Hp} {s:Shared}
theorem za {M:Model} {A:Around} {E:Value->Shared->Prop} {i:Nat} {n:Str} {v:V} {Q:Unit->Shared->Prop} (I:Inv X pins σ H s) (hN:X.N.Nodup) (hi:X.N[i]?=some n) (hlo:X.env.scope.names.lookup n=some .local) (hv:σ[i]?=some (some v))
  (h:∀ s',Inv X pins (σ.set i none) H s'->Q () s'):wpAny M A (unbindName X.env n) Q E s:=by
 obtain ⟨m,hn,hl⟩:=id I.loc
 obtain ⟨u,r,lk⟩:=hl i n v hi hv (.inl hlo)
 have hm:m n=some u:=by
  rcases lk with ⟨_,z⟩ | ⟨k,_⟩
  ·exact z
  ·exfalso
   have hk:X.env.kindOf n=some .local:=hlo
   rcases k with k | k <;> (rw [hk] at k;cases k)
 have hcl:(X.env.scope.kind == .class || (X.env.scope.kind == .module && X.env.locals != X.env.globals))=false:=by rw [I.ok.kind];rfl
 refine wpAny_unbindName_local hlo hn hm hcl fun h' u' hn' hs=>?_
 have far:∀ b o,X.s₀.heap.get? b=some o->h'.get? b=s.heap.get? b:=fun b o q=>hs.2 b (Nat.ne_of_lt (Nat.lt_of_lt_of_le (Heap.lt_size q) I.ok.above))
 obtain ⟨oL,_,_,hoL,_⟩:=id hn
 refine h _ ⟨I.ok,I.os,I.bare,⟨fun b o q a1 a2 a3=>(far b o q).trans (I.base.keep b o q a1 a2 a3),fun b o q a1 a2 a3=>?_,I.base.free,fun b o q a3=>?_,I.base.tups,I.base.frzs,I.base.tbls⟩,⟨_,hn',fun j y v' e1 e2 e3=>?_⟩,fun y c q=>?_,I.free,I.freeC,fun p hp=>?_,fun b ob q=>?_,by rw [List.length_set];exact I.len⟩
 ·obtain ⟨sl,z⟩:=I.base.slot b o q a1 a2 a3
  exact ⟨sl,(far b o q).trans z⟩
 ·obtain ⟨o',z⟩:=I.base.there b o q a3
  exact ⟨o',(far b o q).trans z⟩
 ·by_cases hj:j=i
  ·subst hj
   have:j < σ.length:=(List.getElem?_eq_some_iff.mp hv).1
   rw [List.getElem?_set_self this] at e2
   cases e2
  ·rw [List.getElem?_set_ne (Ne.symm hj)] at e2
   obtain ⟨w,r',q⟩:=hl j y v' e1 e2 e3
   refine ⟨w,r',?_⟩
   rcases q with ⟨k,z⟩ | ⟨k,c,z,y'⟩
   ·have:y≠n:=fun z=>hj (ny hN e1 (z ▸ hi))
    exact .inl ⟨k,by simp [this,z]⟩
   ·exact .inr ⟨k,c,z,y'.sameBut hs (I.Ey y c z)⟩
 ·obtain ⟨w,z⟩:=I.cell y c q
  exact ⟨w,z.sameBut hs (I.Ey y c q)⟩
 ·obtain ⟨z,n0,ne,nf,d⟩:=I.pin p hp
  exact ⟨(hs.2 p.1 ne).trans z,n0,ne,nf,d⟩
 ·refine (I.hok b ob q).stay (fun c w hc z=>(hs.2 c ?_).trans z) (fun _ z=>z) fun _ _ z=>z
  intro y
  rcases hc with hc | hc
  ·rw [<- hc,y,I.free] at q;cases q
  ·rw [y,I.free] at hc;cases hc
theorem Inv.nY (I:Inv X pins σ H s) (xe':Value->Shared->Prop):Inv (X.nY (X.pn++pins) xe') [] σ H s:=
 ⟨⟨I.ok.mod,I.ok.kind,I.ok.glob,I.ok.blt,I.ok.above,I.ok.inj,I.ok.has,I.ok.cab,I.ok.hd,I.ok.frames,I.ok.stk,I.ok.exf,I.ok.bs,I.ok.bsz,I.ok.noex,I.ok.exfs,I.ok.iu,I.ok.frf⟩,I.os,I.bare,I.base,I.loc,I.cell,I.free,I.freeC,fun p hp=>I.pin p (by
  have hp:p∈(X.pn++pins)++[]:=hp
  rwa [List.append_nil] at hp),I.hok,I.len⟩
theorem Inv.uU {xe':Value->Shared->Prop} {pins':List (Addr×Obj)} (I:Inv (X.nY (X.pn++pins) xe') pins' σ H s):Inv X pins σ H s:=
 ⟨⟨I.ok.mod,I.ok.kind,I.ok.glob,I.ok.blt,I.ok.above,I.ok.inj,I.ok.has,I.ok.cab,I.ok.hd,I.ok.frames,I.ok.stk,I.ok.exf,I.ok.bs,I.ok.bsz,I.ok.noex,I.ok.exfs,I.ok.iu,I.ok.frf⟩,I.os,I.bare,I.base,I.loc,I.cell,I.free,I.freeC,fun p hp=>I.pin p (List.mem_append_left _ hp),I.hok,I.len⟩
theorem Inv.Ih {e:Addr} {oe:Obj} {pins':List (Addr×Obj)} (I:Inv (X.hand (X.pn++pins) e oe) pins' σ H s) (ok:X.Ok) (f0:Fr0 X e):Inv X pins σ H s:=
 have h0:∀ b o,X.s₀.heap.get? b=some o->X.H₀ b=none->upd X.H₀ e (.frz oe xu) b=none:=fun b o q n=>by
  rw [aI (fun z=>f0.no o (by rw [<- z];exact q))];exact n
 ⟨ok,I.os,I.bare,⟨fun b o q n=>I.base.keep b o q (h0 b o q n),fun b o q n=>I.base.slot b o q (h0 b o q n),fun b o q n=>I.base.free b o q (h0 b o q n),I.base.there,fun b xs q=>I.base.tups b xs (show upd X.H₀ e (.frz oe xu) b=_ by rw [aI (fun z=>f0.tup xs (by rw [<- z];exact q))];exact q),fun b o u q=>I.base.frzs b o u (show upd X.H₀ e (.frz oe xu) b=_ by rw [aI (fun z=>f0.frz o u (by rw [<- z];exact q))];exact q),fun b ps q=>I.base.tbls b ps (show upd X.H₀ e (.frz oe xu) b=_ by rw [aI (fun z=>f0.tbl ps (by rw [<- z];exact q))];exact q)⟩,I.loc,I.cell,I.free,I.freeC,fun p hp=>I.pin p (List.mem_append_left _ hp),I.hok,I.len⟩
end
section
variable {M:Model} {A:Around} {E:Value->Shared->Prop} {h:Heap} {g:Array GenState} {d:Drawn} {t:Nat} {os:OsState} {C N D N':Addr} {nm q nm' q':Str} {bs bm bs' bm':List Value} {hdct hdct':Bool} {sn sn':List Str} {sub sub':List Value} {ab ab':Bool} {col col':Option Bool} {dd dd':Option Addr} {k0 k1 k2 k3 k5 k0' k1' k2' k3' k5':Option Value} {newId newId':String}
theorem n8 {e:Addr} {oe:Obj} {Q:Bool->Shared->Prop} (hC:h.get? C=some (excClassObj nm q C N bs bm hdct sn sub ab col dd k0 k1 k2 k3 k5 newId)) (hD:h.get? D=some (excClassObj nm' q' D N' bs' bm' hdct' sn' sub' ab' col' dd' k0' k1' k2' k3' k5' newId'))
  (he:h.get? e=some oe) (hcls:oe.cls=.ref C) (hbase:bm'.contains (.type "BaseException")=true) (hq:Q ((Value.ref C::bm).contains (.ref D)) ⟨h,g,d,t,os⟩):wpAny M A (excMatches (.ref e) (.ref D)) Q E ⟨h,g,d,t,os⟩:=by
 have hcB:(Value.ref D::bm').contains (.type "BaseException")=true:=by rw [List.contains_cons,hbase,Bool.or_true]
 have f:=tc_notTuple
 unfold excMatches
 repeat (first | (with_reducible refine wpAny_loadPart_at he ?_;rw [hcls]) | with_reducible refine wpAny_loadPart_at hD ?_ | (with_reducible refine wpAny_isSubtype_exc hD ?_;rw [hcB]) | with_reducible refine wpAny_isSubtype_exc hC ?_ | wp_step)
 cases hb:(Value.ref C::bm).contains (.ref D) <;> (rw [hb] at hq;wp_walk;exact hq)
end
noncomputable def mroIn (K:PySem.W.Frag) (C:Addr):Option (List Value):=match K.lookup C with
 | some ⟨.type "type",_,.cls cd,sl⟩=>(match cd.mro,sl.toList with
  | .ref C'::bm,[_,_,_,_,some (.builtin _),_]=>if C'=C/\cd.hasDel=false then some bm else none
  | _,_=>none)
 | _=>none
structure ClsAt (h:Heap) (C:Addr) (bm:List Value):Prop where
 ex:∃ nm q N bs hdct sn sub ab col dd k0 k1 k2 k3 k5 newId,h.get? C=some (excClassObj nm q C N bs bm hdct sn sub ab col dd k0 k1 k2 k3 k5 newId)
theorem BB {K:PySem.W.Frag} {h:Heap} {C:Addr} {bm:List Value} (X:K.In h) (e:mroIn K C=some bm):ClsAt h C bm:=by
 unfold mroIn at e
 split at e
 ·rename_i dd cd sl ho
  split at e
  ·rename_i C' bm' k0 k1 k2 k3 n k5 hm hs
   split at e
   ·rename_i hc
    cases e
    obtain ⟨rfl,hdel⟩:=hc
    obtain ⟨nm,bs,mro,ns,qn,hd,sn,sub,ab,col,del⟩:=cd
    dsimp only at hm hdel
    subst hm hdel
    have hsl:sl=#[k0,k1,k2,k3,some (.builtin n),k5]:=by
     obtain ⟨l⟩:=sl
     simp only at hs
     rw [hs]
    subst hsl
    exact ⟨nm,qn,ns,bs,hd,sn,sub,ab,col,dd,k0,k1,k2,k3,k5,n,X _ _ ho⟩
   ·cases e
  ·cases e
 ·cases e
noncomputable def LH (i:Nat) (D:Ends):Ends:=⟨fun σ H=>D.nx (σ.set i none) H,D.rt,fun σ H=>D.bk (σ.set i none) H,fun σ H=>D.ct (σ.set i none) H⟩
section
variable {X:Cx} {pins pins':List (Addr×Obj)} {xe':Value->Shared->Prop} {σ:L2.St} {H:Hp} {s':Shared} {e C Dc:Addr} {bm bmD:List Value} {x n:Str} {i:Nat} {De:Ends} {b0:Stmt} {suite:List Stmt} {np hp:Pos}
theorem qI {f:Flow} {s2:Shared} {pos:Pos} (hN:X.N.Nodup) (hi:X.N[i]?=some n) (hlo:X.env.scope.names.lookup n=some .local) {oe:Obj} (ok:X.Ok) (f0:Fr0 X e) (h:SP (X.hand (X.pn++pins) e oe) [] (LH i De) f s2) :
  wpAny (model X.prog X.w) X.A (do bindName X.env n .none;unbindBehindTheSuite X.env n pos) (fun _ s3=>SP X pins De f s3) X.xe s2:=by
 have hl:∀ {σ':L2.St} {H':Hp},Inv (X.hand (X.pn++pins) e oe) [] σ' H' s2->(∀ s3,Inv X pins (σ'.set i none) H' s3->SP X pins De f s3)->wpAny (model X.prog X.w) X.A (do bindName X.env n .none;unbindBehindTheSuite X.env n pos) (fun _ s3=>SP X pins De f s3) X.xe s2:=fun {σ' H'} J k=>by
  have J:=J.Ih ok f0
  have hiσ:i < σ'.length:=by rw [J.len];exact (List.getElem?_eq_some_iff.mp hi).1
  refine wpAny_bind (wpAny_bindName (iw (v:=.non) J hN hi (.inl hlo) rfl (fun s3 J3=>?_) (.inr hlo)))
  unfold unbindBehindTheSuite
  refine wpAny_onRaise (za (v:=.non) J3 hN hi hlo (List.getElem?_set_self hiσ) fun s4 J4=>k s4 ?_)
  rwa [List.set_set] at J4
 cases f with
 | next=>obtain ⟨σ',H',J,q⟩:=h;exact hl J fun s3 J3=>⟨_,_,J3,q⟩
 | brk=>obtain ⟨σ',H',J,q⟩:=h;exact hl J fun s3 J3=>⟨_,_,J3,q⟩
 | cont=>obtain ⟨σ',H',J,q⟩:=h;exact hl J fun s3 J3=>⟨_,_,J3,q⟩
 | ret u=>obtain ⟨v,σ',H',J,r,q⟩:=h;exact hl J fun s3 J3=>⟨v,_,_,J3,r,q⟩
theorem A9 (hst:X.stack=X.env::X.outer) (hf:X.env.frame=some X.env.locals) (hex:X.ex=[]) (hN:X.N.Nodup) (hi:X.N[i]?=some n) (hlo:X.env.scope.names.lookup n=some .local) (hg:Gl X x) (hm:X.mg x=some (.ref Dc)) (mD:mroIn X.K Dc=some bmD) (hbD:bmD.contains (.type "BaseException")=true)
  (I:Inv (X.nY (X.pn++pins) xe') pins' σ H s') (R:nK (X.nY (X.pn++pins) xe') H e (.ref C) s') (mC:mroIn X.K C=some bm) (hCD:(Value.ref C::bm).contains (.ref Dc)=true)
  (k:∀ oe s6,XO C oe->H e=none->Inv (X.hand (X.pn++pins) e oe) [] (σ.set i (some (.ref e))) (upd H e (.frz oe xu)) s6->wpAny (model X.prog X.w) (X.A.mark (some (.ref e))) (execs (b0::suite) X.env) (SP (X.hand (X.pn++pins) e oe) [] (LH i De)) (fun _ _=>False) s6)
  (ok:X.Ok) (hdb:(x == ("__debug__" : Str))=false) :
  wpAny (model X.prog X.w) X.A (noteFrame (.ref e) X.env) (fun _ s2=>wpAny (model X.prog X.w) X.A (setFlight (.ref e) none) (fun _ s3=>wpAny (model X.prog X.w) X.A (handleBy (.ref e) X.env [.ExceptHandler (some (.Name x np)) (some n) (b0::suite) hp]) (SP X pins De) X.xe s3) X.xe s2) X.xe s':=by
 refine yv I hst hf R fun h4 B a0 held k1 up4 c1 c2 c3 z4=>?_
 refine wpAny_mono (aX.any (e:=e) (aX.flight _ _) (wpAny_landsW (Q:=fun _ s''=>∃ h',s''={ s' with heap:=h' }/\Heap.FlyingW B (X.env::X.outer) e (.ref C) a0 h'/\h4.UpToSlots h') (E:=fun _ _=>False) held fun h' y1 y2=>⟨h',rfl,y1,y2⟩) z4) (fun _ s'' z=>?_) fun _ _ z=>z.1.elim
 obtain ⟨⟨h5,rfl,F5,up5⟩,z5⟩:=z
 obtain ⟨_,_,o5,x5,I5⟩:=oZ I hex F5 k1 (up4.trans up5) c1 c2 c3 z5
 refine wpAny_handleBy_cons (codeAny_handlers_test (lJ (X:=X.hand (X.pn++pins) e o5) I5 hg hm ?_ hdb)) (by intro q;cases q)
 obtain ⟨g1,_⟩:=I5.hok e _ aY
 obtain ⟨_,_,_,_,_,_,_,_,_,_,_,_,_,_,_,_,hC⟩:=(BB I5.nU mC).ex
 obtain ⟨_,_,_,_,_,_,_,_,_,_,_,_,_,_,_,_,hD⟩:=(BB I5.nU mD).ex
 refine n8 hC hD g1 x5.cls hbD ?_
 rw [hCD]
 refine codeAny_handlers_suite_as ?_
 refine wpAny_mono (aX.any (e:=e) (aX.flight _ _) (lands_againW (Q:=fun _ s''=>∃ h',s''={ s' with heap:=h' }/\Heap.FlyingW B (X.env::X.outer) e (.ref C) a0 h'/\h5.UpToSlots h') (E:=fun _ _=>False) F5 fun h' y1 y2=>⟨h',rfl,y1,y2⟩) z5) (fun _ s'' z=>?_) fun _ _ z=>z.1.elim
 obtain ⟨⟨h6,rfl,F6,up6⟩,z6⟩:=z
 obtain ⟨f0,n6,o6,x6,I6⟩:=oZ I hex F6 k1 ((up4.trans up5).trans up6) c1 c2 c3 z6
 refine iw (X:=X.hand (X.pn++pins) e o6) (v:=.ref e) I6 hN hi (.inl hlo) rfl (fun s7 I7=>?_) (.inr hlo)
 exact wpAny_mono (k o6 s7 x6 n6 I7) (fun f s8 h8=>qI hN hi hlo ok f0 h8) fun _ _ z=>z.elim
end
open PySem.W in
structure XCls (K:PySem.W.Frag) (C:Addr):Prop where
 ga:findIn K (.ref C) "__getattribute__" = some (some (.builtin "BaseException.__getattribute__"))
 gt:findIn K (.ref C) "__getattr__" = some none
 fc:findObj K C none "__class__" = some (.bind (.builtin "getset_descriptor.__get__") (.builtin "object.__class__"))
 ob:PySem.W.mroIn K C (.type "object")=some true
 bs:subIn K (.ref C) (.type "BaseException")=some true
section
open PySem.W
variable {K:PySem.W.Frag} {C a:Addr} {ox:Obj} {prog:Program} {w:World} {A:Around} {E:Value->Shared->Prop} {h:Heap} {g:Array GenState} {d:Drawn} {t:Nat} {os:OsState}
theorem Cq {tk:Tok} {Q:Fin->Shared->Prop} (x:XCls K C) (X:K.In h) (I:PySem.W.InstAt h a ox C none) (hq:Q (.done (.ret (.ref C))) ⟨h,g,d,t,os⟩) :
  wpAny (model prog w) A (Builtin.«object.__getattribute__» ⟨[.ref a,.str "__class__" tk],[]⟩) Q E ⟨h,g,d,t,os⟩:=by
 have L0:=I.type (M:=model prog w)
 have L1:=looks_find (M:=model prog w) X I x.fc
 unfold Builtin.«object.__getattribute__»
 repeat (first | with_reducible refine wpAny_bind (wpAny_call ?_) | with_reducible refine wpAny_call ?_ | lk)
 refine class_get X I x.ob ?_
 repeat lk
 exact hq
theorem CG {M:Model} {nv:Value} {Q:Unit->Shared->Prop} (x:XCls K C) (X:K.In h) (I:PySem.W.InstAt h a ox C none) (hq:Q () ⟨h,g,d,t,os⟩):wpAny M A (checkBuiltinCall "BaseException.__getattribute__" ⟨[.ref a,nv],[]⟩) Q E ⟨h,g,d,t,os⟩:=by
 have hk:builtinKind "BaseException.__getattribute__" = some .slot:=by decide +kernel
 have hs:splitId "BaseException.__getattribute__" = some ("BaseException", "__getattribute__"):=by decide +kernel
 have LI:Looks M h (isInstance (.ref a) (.type "BaseException")) true:=(I.type (M:=M)).andThen (looks_subIn X x.bs)
 have hA:=F.args_bexc_ga (.ref a) nv
 simp only [checkBuiltinCall,hk,hs]
 refine wpAny_bind (LI.at ?_)
 show wpAny M A (match Manifest.signature? "BaseException.__getattribute__" with
  | some sig=>Bind.checkArgs "BaseException.__getattribute__" sig { pos:=[Value.ref a,nv] }
  | x=>pure ()) Q E _
 cases hsig:Manifest.signature? "BaseException.__getattribute__" with
 | none=>exact wpAny_pure hq
 | some sig=>
  simp only [argsOk,hsig] at hA
  have h2:Bind.checkArgs "BaseException.__getattribute__" sig ⟨[.ref a,nv],[]⟩=pure ():=hA
  show wpAny M A (Bind.checkArgs "BaseException.__getattribute__" sig ⟨[.ref a,nv],[]⟩) Q E _
  rw [h2]
  exact wpAny_pure hq
theorem EU (self:Value):bindSpecial (.builtin "BaseException.__getattribute__") self=pure (.builtin "BaseException.__getattribute__",[self]):=by
 have h1:withoutEnding? "BaseException.__getattribute__" "#opaque" = none:=by decide +kernel
 have h2:withoutEnding? "BaseException.__getattribute__" "#data" = none:=by decide +kernel
 have hk:builtinKind "BaseException.__getattribute__" = some .slot:=by decide +kernel
 simp only [bindSpecial,typeOf,builtinType,h1,h2,hk];rfl
theorem JW {tk:Tok} {Q:Value->Shared->Prop} (x:XCls K C) (X:K.In h) (I:PySem.W.InstAt h a ox C none) (hq:Q (.ref C) ⟨h,g,d,t,os⟩):wpAny (model prog w) A (getAttrBy (.ref a) (.str "__class__" tk) false) Q E ⟨h,g,d,t,os⟩:=by
 have L0:=I.type (M:=model prog w)
 have L1:=looks_findIn (M:=model prog w) X x.ga
 have L2:=looks_findIn (M:=model prog w) X x.gt
 unfold getAttrBy
 refine wpAny_holding (wpAny_bind (L0.at (wpAny_bind (L1.at ?_))))
 show wpAny _ _ (if (onTheHeap (Value.ref C) && Value.builtin "BaseException.__getattribute__" == Value.builtin "object.__getattribute__")=true then _ else getAttrByItsOwn (.ref a) (.str "__class__" tk) (.ref C) (.builtin "BaseException.__getattribute__") false false) _ _ _
 have ne:(Value.builtin "BaseException.__getattribute__" == Value.builtin "object.__getattribute__")=false:=by decide +kernel
 rw [ne,Bool.and_false,if_neg Bool.false_ne_true]
 unfold getAttrByItsOwn hookBefore
 rw [if_pos (show onTheHeap (Value.ref C)=true from rfl)]
 refine wpAny_bind (L2.at (wpAny_bind (wpAny_attempt (wpAny_holding ?_))))
 unfold callGetattribute boundAndCalled
 show wpAny _ _ (bindSpecial (.builtin "BaseException.__getattribute__") (.ref a) >>= fun x=>call x.1 (x.2++[.str "__class__" tk])) _ _ _
 rw [EU,pure_bind]
 refine wpAny_call (codeAny_call_builtin (by decide +kernel) F.entry_bexc_ga (CG x X I (Cq x X I ?_)))
 exact wpAny_pure hq
theorem BA {Q:Option Value->Shared->Prop} (x:XCls K C) (X:K.In h) (I:PySem.W.InstAt h a ox C none) (hq:Q (some (.ref C)) ⟨h,g,d,t+1,os⟩):wpAny (model prog w) A (getAttr? (.ref a) "__class__") Q E ⟨h,g,d,t,os⟩:=by
 unfold getAttr? getAttrBy?
 refine wpAny_bind (wpAny_mkText (wpAny_bind (wpAny_attempt (JW x X I ?_))))
 exact wpAny_pure hq
noncomputable def Ny (C a:Addr):Heap->Prop:=fun h=>∃ ox,PySem.W.InstAt h a ox C none
theorem Av (x:XCls K C) (hc:(clsIn K C).isSome=true):KitX K (.ref a) (.ref C) (Ny C a) where
 ty:=fun _ _ _ ⟨_,I⟩=>I.type
 it:=fun _ _ X _=>by
  unfold clsIn at hc
  split at hc
  ·rename_i ho
   intro A' Q' E' s' k q
   unfold isType loadHead
   exact wpAny_bind (wpAny_loadPart (k _ _ (X _ _ ho)) (wpAny_pure q))
  ·cases hc
 ne:=fun h tp dd its n sl X htp=>by
  refine Bool.eq_false_iff.mpr fun q=>?_
  have e:C=tp:=Value.ref.inj (beq_iff_eq.mp q)
  subst e
  unfold clsIn at hc
  split at hc
  ·rename_i ho
   have z:=(X _ _ ho).symm.trans htp
   cases z
  ·cases hc
 ca:=fun {_ _ _ _ _ s} X ⟨_,I⟩ k=>by
  obtain ⟨hh,gg,dd,tt,oo⟩:=s
  exact BA x X I k
end
section
variable {X:Cx} {C:Addr} {pins:List (Addr×Obj)} {σ:L2.St} {H:Hp} {s:Shared}
theorem tZ {A:Around} {E:Value->Shared->Prop} {Q:Value->Shared->Prop} {a:Addr} {c:Value} {b:Bool} (x:XCls X.K C) (hc:(PySem.W.clsIn X.K C).isSome=true) (I:Inv X pins σ H s) {oe:Obj} (ha:H a=some (.frz oe xu)) (hx:XO C oe) (e:PySem.W.kitOne X.K (.ref C) c=some b) (h:∀ tk,Q (.bool b) { s with toks:=tk }) :
  wpAny (model X.prog X.w) A (call (.builtin "isinstance") [.ref a,c]) Q E s:=by
 obtain ⟨g1,_⟩:=I.hok a _ ha
 obtain ⟨g2,g5,vs,g3,g4⟩:=hx
 refine PySem.W.kia_one (Av x hc) I.nU ⟨oe,g1,g2,?_,?_⟩ e (fun z=>nomatch z) h
 ·unfold PySem.W.notCls;rw [g3]
 ·rw [g5];trivial
end
end L2
namespace L2
open PySem PySem.Spec PyProof.Rows
section
variable {prog:Program} {w:World} {A:Around} {E:Value->Shared->Prop} {s:Shared} {e n:Addr} {oe on:Obj} {vs ns:Array Value}
end
section
variable {X:Cx} {e C:Addr} {oe:Obj}
end
noncomputable def HK (A:Around):Around:={ A with handled:=none }
noncomputable def Kz (k:Nat) (A:Around):Prop:=Room k (HK A)
structure Hnd (A:Around) (H:Hp) (e:Addr) (oe:Obj) (C:Addr):Prop where
 hh:A.handled=some (.ref e)
 h0:H e=some (.frz oe xu)
 xo:XO C oe
structure FnOkH (P:Program) (w:World) (K:PySem.W.Frag) (mg:Str->Option Value) (base:Heap) (k:Nat) (f:Addr) (fd:FuncData) (ps:List Str) (sp:Sp):Prop where
 len:∀ vs H Q E,sp vs H Q E->vs.length=ps.length
 run:∀ (A:Around) (outer:List Env) (s:Shared) (H:Hp) (args:Args) (us:List Value) (vs:List V) (Q:VK) (e:Addr) (oe:Obj) (C:Addr),Kz k A->Hnd A H e oe C->Env0 P w K mg base A outer s H->BindsTo s fd args (ps.zip us)->Vals vs us->sp vs H Q E0 ->
  codeAny (model P w) A (.call (.ref f) args) (CR kJ outer P w H s Q E0) s
end L2
namespace L2
open PySem PySem.Spec PyProof.Rows PySem.SeqAt
theorem m7 {prog:Program} {w:World} {A:Around} {E:Value->Shared->Prop} {β:Type} {b:Nat} {f:Nat->β->Sem (ForInStep β)} (I:Nat->β->Shared->Prop) (Q:β->Shared->Prop)
  (turn:∀ i c s,i < b->I i c s->wpAny (model prog w) A (f i c) (fun r s'=>match r with | .done c'=>Q c' s' | .yield c'=>I (i+1) c' s') E s)
  (fin:∀ c s,I b c s->Q c s) {c:β} {s:Shared} (h:I 0 c s):wpAny (model prog w) A (forIn [0:b] c f) Q E s:=by
 rw [Std.Legacy.Range.forIn_eq_forIn_range']
 simp only [Std.Legacy.Range.size,Nat.sub_zero,Nat.add_sub_cancel,Nat.div_one]
 refine wpAny_forIn_list f (fun l c s=>∃ i,i<=b/\l=List.range' i (b - i) 1/\I i c s) Q ?_ ?_ _ _ ⟨0,Nat.zero_le _,rfl,h⟩
 ·rintro x rest c s ⟨i,hib,hl,hI⟩
  have hlt:i < b:=by
   rcases Nat.lt_or_ge i b with h' | h'
   ·exact h'
   ·rw [show b - i=0 by omega] at hl;simp at hl
  obtain ⟨n,hn⟩:∃ n,b - i=n+1:=⟨b - i - 1,by omega⟩
  rw [hn,List.range'_succ] at hl
  obtain ⟨rfl,rfl⟩:=List.cons.inj hl
  refine wpAny_mono (turn x c s hlt hI) (fun r s' h'=>?_) fun _ _ q=>q
  cases r with
  | done c'=>exact h'
  | yield c'=>exact ⟨x+1,hlt,by congr 1;omega,h'⟩
 ·rintro c s ⟨i,hib,hl,hI⟩
  have:b - i=0:=by
   rcases Nat.eq_zero_or_pos (b - i) with z | z
   ·exact z
   ·obtain ⟨n,hn⟩:∃ n,b - i=n+1:=⟨b - i - 1,by omega⟩
    rw [hn,List.range'_succ] at hl;cases hl
  have:i=b:=by omega
  subst this
  exact fin c s hI
theorem nV (l:Addr) (items:Array Value) (n:Nat) (dd:Option Addr) (sl:Array (Option Value)) (x:Value) (e:Value->Bool) (j:Nat) (hj:j < items.size) (hit:e items[j]=true) (hno:∀ m (hm:m < items.size),m < j->e items[m]=false) :
  Meets (Builtin.«tuple.index» ⟨[.ref l,x],[]⟩)
   (fun A R s=>s.heap.get? l=some { cls:=.type "tuple",dict:=dd,data:=.seq items n,slots:=sl }/\(∀ y,y∈items->EqAt A.in1 s y x (e y))/\R (.ok (.ret (.int j s.toks))) { s with toks:=s.toks+1 }):=
 .of_wp fun prog w A R s h=>by
  obtain ⟨hp,g,d,tk,os⟩:=s;obtain ⟨hl,he,h⟩:=h
  wp_walk using wpAny_loadPart' hl,m7 (fun i b s'=>b.1=none/\s'=⟨hp,g,d,tk,os⟩/\i<=j) _
  case turn=>
   rintro i b s' hi ⟨hb,rfl,hij⟩
   have hi':i < items.size:=by omega
   rw [Array.getElem?_eq_getElem hi']
   refine wpAny_bind (he _ (Array.getElem_mem hi') prog w _ _ ?_)
   rcases Nat.lt_or_ge i j with q | q
   ·rw [hno i hi' q]
    wp_walk
    exact ⟨rfl,rfl,q⟩
   ·have:i=j:=by omega
    subst this
    rw [hit]
    wp_walk
    exact ⟨_,rfl,h⟩
  case fin=>
   rintro ⟨b1,b2⟩ s' ⟨hb,rfl,hij⟩
   omega
  case h=>exact ⟨rfl,rfl,Nat.zero_le _⟩
noncomputable def GQ (K:PySem.W.Frag) (tup:Bool):V->List V->Hp->VK->Prop:=fun x vs H Q=>∃ (p:Addr) (y:V) (xs:List V) (k:Nat) (z:V),x=.ref p/\vs=[y]/\(if tup=true then cI K H p xs else dQ K H p xs)/\gR y=true/\xs.all gR=true/\xs[k]?=some z/\sZ z y=true/\(∀ (m:Nat) (z':V),m < k->xs[m]?=some z'->sZ z' y=false)/\Q (.int k) H
section
variable {X:Cx}
theorem Bt {y:V} {xs:List V} {its:List Value} {k:Nat} {z:V} (r:Vals xs its) (f:xs.all gR=true) (hk:xs[k]?=some z) (hz:sZ z y=true) (hno:∀ m z',m < k->xs[m]?=some z'->sZ z' y=false) :
  ∃ hj:k < its.toArray.size,JA y its.toArray[k]=true/\∀ m (hm:m < its.toArray.size),m < k->JA y its.toArray[m]=false:=by
 have fl:∀ m z',xs[m]?=some z'->gR z'=true:=fun m z' h=>List.all_eq_true.mp f z' (List.mem_of_getElem? h)
 obtain ⟨u,hu,ru⟩:=r.get hk
 obtain ⟨hj,e⟩:=List.getElem?_eq_some_iff.mp hu
 refine ⟨by simpa using hj,?_,fun m hm hmk=>?_⟩
 ·rw [List.getElem_toArray,e,uf ru (fl k z hk)];exact hz
 ·have hm':m < xs.length:=by have:=(List.getElem?_eq_some_iff.mp hk).1;omega
  obtain ⟨u',hu',ru'⟩:=r.get (List.getElem?_eq_getElem hm')
  obtain ⟨_,e'⟩:=List.getElem?_eq_some_iff.mp hu'
  rw [List.getElem_toArray,e',uf ru' (fl m _ (List.getElem?_eq_getElem hm'))]
  exact hno m _ hmk (List.getElem?_eq_getElem hm')
theorem Dl:Di X "tuple.index" (GQ X.K true):=by
 intro pins s σ H x vs v us Q I rx rv ⟨p,y,xs,k,z,hx,hvs,hq,fy,fs,hk,hz,hno,q⟩
 subst hx hvs
 cases rx
 obtain ⟨u,rfl,ru⟩:=rv.one
 obtain ⟨its,r,pl,hsz⟩:=I.tuple hq
 obtain ⟨hj,h1,h2⟩:=Bt r fs hk hz hno
 obtain ⟨⟨cls,dd,data,sl⟩,ho,hc,n,hd⟩:=id pl
 simp only at hc hd
 subst hc hd
 exact call_meets F.slot_tuple_index ⟨_,ho,rfl⟩ F.entry_tuple_index (F.args_tuple_index_2 _ _) (nV p its.toArray n dd sl u (JA y) k hj h1 h2) ⟨ho,fun w hw=>mw ru fy r fs w (by simpa using hw),.int k,H,I.tok _,⟨_,rfl⟩,q⟩
theorem ES:Di X "list.index" (GQ X.K false):=by
 intro pins s σ H x vs v us Q I rx rv ⟨p,y,xs,k,z,hx,hvs,hq,fy,fs,hk,hz,hno,q⟩
 subst hx hvs
 cases rx
 obtain ⟨u,rfl,ru⟩:=rv.one
 obtain ⟨its,r,pl,hsz⟩:=I.list hq
 obtain ⟨hj,h1,h2⟩:=Bt r fs hk hz hno
 obtain ⟨⟨cls,dd,data,sl⟩,ho,hc,n,hd⟩:=id pl.isList
 simp only at hc hd
 subst hc hd
 have:=iB
 have hz':k < xs.length:=(List.getElem?_eq_some_iff.mp hk).1
 exact call_meets F.slot_list_index ⟨_,ho,rfl⟩ F.entry_list_index (F.args_list_index_2 _ _) (SeqAt.list_indexAt p its.toArray n dd sl u (JA y) k hj (by omega) h1 h2) ⟨ho,fun w hw=>mw ru fy r fs w (by simpa using hw),.int k,H,I.tok _,⟨_,rfl⟩,q⟩
noncomputable def LY (K:PySem.W.Frag) (to:TE) (t:TA):TE:=fun σ H Q=>to σ H fun x H1=>∃ (b:Bool) (p:Addr) (xs:List V),x=.ref p/\(if b=true then cI K H1 p xs else dQ K H1 p xs)/\t σ H1 fun vs H2=>GQ K b x vs H2 Q
theorem IE {o e:Expr} {es:List Expr} {to:TE} {t:TA} {apos cpos:Pos} (ho:PE X o to) (ha:PA X (e::es) t)
  (hbase:attributeBase o "index" X.env (eval o X.env)=eval o X.env:=by rfl)
  (hfew:((backTo cpos (starEach (e::es) X.env)).all (fun x=>!x.1) && (backToKw cpos (keywordEach [] X.env)).all (fun x=>x.1.isSome)
   && decide ((e::es).length+([]:List Keyword).length+(if ([]:List Keyword).isEmpty then 0 else 1) < 30))=true:=by rfl)
  (hline:(apos.endLine == cpos.line)=true:=by rfl) (hs:starEach (e::es) X.env=(false,eval e X.env)::starEach es X.env:=by rfl) (hplain:(backTo cpos (starEach es X.env)).any (·.1)=false:=by rfl) :
  PE X (.Call (.Attribute o "index" apos) (e::es) [] cpos) (LY X.K to t):=by
 intro pins s σ H Q I h
 refine wpAny_Call_method_late hbase hfew hline rfl (bO (ho pins s σ H _ I h) fun v s1 ⟨x,H1,I1,r1,b,p,xs,hx,hq,q1⟩=>?_)
 subst hx
 cases r1
 cases b with
 | true=>
  obtain ⟨ob,g1,g2,g3⟩:=I1.HB hq
  refine ⟨"tuple", "tuple.index",PySem.F.plainAttrs_tuple,PySem.F.slot_tuple_index,PySem.F.type_tuple_index,⟨ob,g1,g2⟩,fun a e=>by cases e;exact ⟨ob,g1,g3⟩,?_⟩
  have hA:=ha cpos pins s1 σ H1 _ I1 q1
  rw [hs] at hA ⊢
  refine Calls.callWith_builtin (by show (false || (backTo cpos (starEach es X.env)).any (·.1))=false;rw [hplain] <;> rfl) (Calls.evalArgs_plain ?_)
  exact bO hA fun us s2 ⟨vs,H2,I2,r2,q2⟩=>Dl pins s2 σ H2 (.ref p) vs _ us Q I2 rfl r2 q2
 | false=>
  obtain ⟨its,r,⟨ob,n,g1,g2,g3,g4⟩,hz⟩:=I1.list hq
  refine ⟨"list", "list.index",PySem.F.plainAttrs_list,PySem.F.slot_list_index,PySem.F.type_list_index,⟨ob,g1,g2⟩,fun a e=>by cases e;exact ⟨ob,g1,g3⟩,?_⟩
  have hA:=ha cpos pins s1 σ H1 _ I1 q1
  rw [hs] at hA ⊢
  refine Calls.callWith_builtin (by show (false || (backTo cpos (starEach es X.env)).any (·.1))=false;rw [hplain] <;> rfl) (Calls.evalArgs_plain ?_)
  exact bO hA fun us s2 ⟨vs,H2,I2,r2,q2⟩=>ES pins s2 σ H2 (.ref p) vs _ us Q I2 rfl r2 q2
end
section
variable {X:Cx} {pos:Pos} {a b:Expr}
end
section
variable {X:Cx}
end
section
variable {prog:Program} {w:World} {A:Around} {E:Value->Shared->Prop} {s:Shared}
end
section
variable {prog:Program} {w:World} {A:Around} {E:Value->Shared->Prop} {s:Shared}
end
section
variable {X:Cx}
end
end L2
namespace L2
open PySem PySem.Spec PyProof.Rows
section
variable {X:Cx}
end
section
variable {X:Cx} {tg:Expr}
end
section
variable {prog:Program} {w:World} {A:Around} {E:Value->Shared->Prop} {s:Shared}
end
section
variable {X:Cx} {o e:Expr} {to:TE} {tl:TO} {p2 spos pos:Pos}
end
end L2
namespace Sx
open PySem PyProof.Rows
structure Ord where
 lt:Nat->Nat->Bool
 Eo:∀ i,lt i i=false
 tr:∀ i j k,lt i j=true->lt j k=true->lt i k=true
 neg:∀ i j k,lt i k=true->lt i j=true\/lt j k=true
noncomputable def P (o:Ord) (i j:Nat):Prop:=o.lt i j=true\/(o.lt j i=false/\i < j)
theorem Ord.MD (o:Ord) {i j:Nat} (h:o.lt i j=true):o.lt j i=false:=by
 cases e:o.lt j i with
 | false=>rfl
 | true=>have:=o.tr _ _ _ h e;rw [o.Eo] at this;cases this
theorem P.Eo {o:Ord} {i:Nat} (h:P o i i):False:=by
 rcases h with h | ⟨_,h⟩
 ·rw [o.Eo] at h;cases h
 ·omega
theorem P.trans {o:Ord} {i j k:Nat} (a:P o i j) (b:P o j k):P o i k:=by
 rcases a with a | ⟨a,a'⟩
 ·rcases b with b | ⟨b,b'⟩
  ·exact .inl (o.tr _ _ _ a b)
  ·rcases o.neg i k j a with z | z
   ·exact .inl z
   ·rw [b] at z;cases z
 ·rcases b with b | ⟨b,b'⟩
  ·rcases o.neg j i k b with z | z
   ·rw [a] at z;cases z
   ·exact .inl z
  ·refine .inr ⟨?_,by omega⟩
   cases e:o.lt k i with
   | false=>rfl
   | true=>
    rcases o.neg k j i e with z | z
    ·rw [b] at z;cases z
    ·rw [a] at z;cases z
theorem P.of_lt {o:Ord} {i j:Nat} (h:o.lt i j=true):P o i j:=.inl h
theorem P.kO {o:Ord} {i j:Nat} (h:o.lt j i=false) (hij:i < j):P o i j:=.inr ⟨h,hij⟩
theorem P.lt {o:Ord} {i j:Nat} (h:P o i j) (hij:j < i):o.lt i j=true:=by
 rcases h with h | ⟨_,h⟩
 ·exact h
 ·omega
theorem P.ge {o:Ord} {i j:Nat} (h:P o i j):o.lt j i=false:=by
 rcases h with h | ⟨h,_⟩
 ·exact o.MD h
 ·exact h
noncomputable def So (o:Ord) (g:Nat->Nat) (a b:Nat):Prop:=∀ i j,a<=i->i < j->j < b->P o (g i) (g j)
noncomputable def Cl (g:Nat->Nat) (a b:Nat):Prop:=∀ i,a<=i->i < b->a<=g i/\g i < b
noncomputable def rev (g:Nat->Nat) (i j:Nat):Nat->Nat:=fun k=>if i<=k/\k < j then g (i+j - 1 - k) else g k
noncomputable def mv (g:Nat->Nat) (src dst:Nat):Nat->Nat:=fun k=>if k=dst then g src else if dst < k/\k<=src then g (k - 1) else g k
theorem nN {g:Nat->Nat} {i j k:Nat} (h:i<=k) (h2:k < j):rev g i j k=g (i+j - 1 - k):=if_pos ⟨h,h2⟩
theorem eT {g:Nat->Nat} {i j k:Nat} (h:k < i\/j<=k):rev g i j k=g k:=if_neg (by omega)
theorem A3 {g:Nat->Nat} {s d:Nat}:mv g s d d=g s:=if_pos rfl
theorem sN {g:Nat->Nat} {s d k:Nat} (h:d < k) (h2:k<=s):mv g s d k=g (k - 1):=by
 unfold mv;rw [if_neg (by omega),if_pos ⟨h,h2⟩]
theorem qy {g:Nat->Nat} {s d k:Nat} (hd:d<=s) (h:k < d\/s < k):mv g s d k=g k:=by
 unfold mv;rw [if_neg (by omega),if_neg (by omega)]
section
variable {prog:Program} {w:World} {A:Around} {E:Value->Shared->Prop} {s:Shared} {o:Ord} {N:Nat} {f:Nat->Keyed} {kd:SortKind} {g:Nat->Nat} {p:Array (Nat×Nat×Nat)} {st:SortSt}
noncomputable def oJ (prog:Program) (w:World) (A:Around) (s:Shared) (o:Ord) (N:Nat) (f:Nat->Keyed) (kd:SortKind):Prop:=
 ∀ i j,i < N->j < N->∀ (E':Value->Shared->Prop) (Q:Bool->Shared->Prop),Q (o.lt i j) s->wpAny (model prog w) A (keyLt' kd (f i).1 (f j).1) Q E' s
structure Sg (N:Nat) (f:Nat->Keyed) (kd:SortKind) (g:Nat->Nat) (p:Array (Nat×Nat×Nat)) (st:SortSt):Prop where
 size:(arrOf st).size=N
 get:∀ i,i < N->(arrOf st)[i]?=some (f (g i))
 lt:∀ i,i < N->g i < N
 kind:kindOf st=kd
 failed:failedOf st=none
 pend:pendingOf st=p
theorem lU (C:oJ prog w A s o N f kd) (hk:kindOf st=kd) {i j:Nat} (hi:i < N) (hj:j < N) {Q:Option Bool->SortSt->Prop} (q:Q (some (o.lt i j)) st):wpS (model prog w) A E s (lt' (f i) (f j)) Q st:=by
 rw [lt'_eq]
 refine wpS_bind (wpS_get ?_)
 rw [hk]
 refine wpS_bind (wpS_lift (wpAny_attempt (C i j hi hj _ _ ⟨rfl,?_⟩)))
 exact wpS_pure q
theorem bf {xs:Array Keyed} {i:Nat} {x:Keyed} (e:xs[i]?=some x) {Q:Keyed->SortSt->Prop} (q:Q x st):wpS (model prog w) A E s (elem' xs i) Q st:=by
 rw [elem'_eq,e];exact wpS_pure q
theorem jE (C:oJ prog w A s o N f kd) (h:Sg N f kd g p st) {i j:Nat} (hi:i < N) (hj:j < N) {Q:Option Bool->SortSt->Prop} (q:Q (some (o.lt (g i) (g j))) st):wpS (model prog w) A E s (ltAt' i j) Q st:=by
 rw [ltAt'_eq]
 refine wpS_bind (wpS_get ?_)
 show wpS _ _ _ _ (do let u <- elem' (arrOf st) i;let v <- elem' (arrOf st) j;lt' u v) Q st
 exact wpS_bind (bf (h.get i hi) (wpS_bind (bf (h.get j hj) (lU C h.kind (h.lt i hi) (h.lt j hj) q))))
theorem Sg.arr (h:Sg N f kd g p st) {xs:Array Keyed} {g':Nat->Nat} (hs:xs.size=N) (hg:∀ i,i < N->xs[i]?=some (f (g' i))) (hl:∀ i,i < N->g' i < N):Sg N f kd g' p (setArr st xs):=⟨hs,hg,hl,h.kind,h.failed,h.pend⟩
theorem lI (h:Sg N f kd g p st) {i j:Nat} (hj:j<=N) {Q:Unit->SortSt->Prop} (q:∀ st',Sg N f kd (rev g i j) p st'->Q () st'):wpS (model prog w) A E s (reverseSlice' i j) Q st:=by
 rw [reverseSlice'_eq]
 refine wpS_modify (q _ (h.arr (by rw [mirror_size];exact h.size) (fun k hk=>?_) fun k hk=>?_))
 ·rw [getElem?_mirror_all (by rw [h.size];exact hj)]
  unfold rev
  by_cases c:i<=k/\k < j
  ·rw [if_pos c,if_pos c];exact h.get _ (by omega)
  ·rw [if_neg c,if_neg c];exact h.get _ hk
 ·unfold rev
  by_cases c:i<=k/\k < j
  ·rw [if_pos c];exact h.lt _ (by omega)
  ·rw [if_neg c];exact h.lt _ hk
theorem Jo (h:Sg N f kd g p st) {a b:Nat} (ha:a < N) (hb:b<=a) {Q:Unit->SortSt->Prop} (q:∀ st',Sg N f kd (mv g a b) p st'->Q () st'):wpS (model prog w) A E s (moveDown' a b) Q st:=by
 rw [moveDown'_eq]
 refine wpS_modify (q _ (h.arr (by rw [bubble_size];exact h.size) (fun k hk=>?_) fun k hk=>?_))
 ·rw [getElem?_bubble (by rw [h.size];exact ha) _ (by omega),show a - (a - b)=b by omega]
  unfold mv
  by_cases c:k=b
  ·rw [if_pos c,if_pos c];exact h.get _ ha
  ·rw [if_neg c,if_neg c]
   by_cases c2:b < k/\k<=a
   ·rw [if_pos c2,if_pos c2];exact h.get _ (by omega)
   ·rw [if_neg c2,if_neg c2];exact h.get _ hk
 ·unfold mv
  by_cases c:k=b
  ·rw [if_pos c];exact h.lt _ ha
  ·rw [if_neg c]
   by_cases c2:b < k/\k<=a
   ·rw [if_pos c2];exact h.lt _ (by omega)
   ·rw [if_neg c2];exact h.lt _ hk
structure Rn (o:Ord) (g0 g:Nat->Nat) (a b:Nat):Prop where
 out:∀ i,i < a\/b<=i->g i=g0 i
 cl:Cl g a b
 so:So o g a b
theorem IU {g0:Nat->Nat} {lo k l:Nat} (R:Rn o g0 g lo (lo+k)) (hk:g (lo+k)=lo+k) (hl:l<=k) (h1:∀ i,i < l->P o (g (lo+i)) (lo+k)) (h2:∀ i,l<=i->i < k->P o (lo+k) (g (lo+i))):Rn o g0 (mv g (lo+k) (lo+l)) lo (lo+(k+1)) where
 out i hi:=by rw [qy (by omega) (by omega)];exact R.out i (by omega)
 cl i a b:=by
  by_cases c:i=lo+l
  ·subst c;rw [A3,hk];omega
  ·by_cases c2:lo+l < i
   ·rw [sN c2 (by omega)]
    have:=R.cl (i - 1) (by omega) (by omega)
    omega
   ·rw [qy (by omega) (by omega)]
    have:=R.cl i (by omega) (by omega)
    omega
 so i j a b d:=by
  by_cases c:i=lo+l
  ·subst c
   rw [A3,sN b (by omega),hk]
   have:=h2 (j - 1 - lo) (by omega) (by omega)
   rwa [show lo+(j - 1 - lo)=j - 1 by omega] at this
  ·by_cases c2:lo+l < i
   ·rw [sN c2 (by omega),sN (by omega) (by omega)]
    exact R.so _ _ (by omega) (by omega) (by omega)
   ·rw [qy (k:=i) (by omega) (by omega)]
    by_cases c3:j=lo+l
    ·subst c3
     rw [A3,hk]
     have:=h1 (i - lo) (by omega)
     rwa [show lo+(i - lo)=i by omega] at this
    ·by_cases c4:lo+l < j
     ·rw [sN c4 (by omega)]
      exact R.so _ _ (by omega) (by omega) (by omega)
     ·rw [qy (by omega) (by omega)]
      exact R.so _ _ (by omega) (by omega) (by omega)
theorem GG (C:oJ prog w A s o N f kd) {g0:Nat->Nat} {lo n ok:Nat} (h:Sg N f kd g p st) (hn:lo+n<=N) (h1:1<=ok) (hok:ok<=n) (R:Rn o g0 g lo (lo+ok)) (hid:∀ i,lo+ok<=i->i < lo+n->g0 i=i)
  {Q:Bool->SortSt->Prop} (q:∀ g' st',Sg N f kd g' p st'->Rn o g0 g' lo (lo+n)->Q true st'):wpS (model prog w) A E s (binarySort' lo n ok) Q st:=by
 rw [binarySort'_eq,show max ok 1=ok by omega]
 refine wpS_bind (wpS_mono (wpS_forRange (I:=fun k c st'=>c=(none,())/\∃ g',Sg N f kd g' p st'/\Rn o g0 g' lo (lo+min k n))
  (Q:=fun c st'=>c=(none,())/\∃ g',Sg N f kd g' p st'/\Rn o g0 g' lo (lo+n)) ?step ?fin ?init) ?post)
 case post=>
  rintro c st' ⟨rfl,g',h',R'⟩
  exact wpS_pure (q g' st' h' R')
 case init=>exact ⟨rfl,g,h,by rw [show min ok n=ok by omega];exact R⟩
 case fin=>
  rintro c st' ⟨hc,g',h',R'⟩
  exact ⟨hc,g',h',by rwa [show min (max ok n) n=n by omega] at R'⟩
 case step=>
  rintro k c st' hak hkn ⟨rfl,g',h',R'⟩
  rw [show min k n=k by omega] at R'
  have gk:g' (lo+k)=lo+k:=by rw [R'.out _ (by omega)];exact hid _ (by omega) (by omega)
  refine wpS_bind (wpS_mono (wpS_forRange (I:=fun x c s2=>s2=st'/\∃ u v,c=(none,u,v)/\u<=v/\v<=k/\v - u<=k - x /\
    (∀ i,i < u->P o (g' (lo+i)) (lo+k))/\(∀ i,v<=i->i < k->P o (lo+k) (g' (lo+i))))
   (Q:=fun c s2=>s2=st'/\∃ u v,c=(none,u,v)/\u<=k /\
    (∀ i,i < u->P o (g' (lo+i)) (lo+k))/\(∀ i,u<=i->i < k->P o (lo+k) (g' (lo+i)))) ?istep ?ifin ?iinit) ?ipost)
  case iinit=>exact ⟨rfl,0,k,rfl,by omega,by omega,by omega,fun i hi=>by omega,fun i h1 h2=>by omega⟩
  case ifin=>
   rintro c s2 ⟨rfl,u,v,rfl,huv,hvk,hm,low,top⟩
   have:u=v:=by omega
   subst this
   exact ⟨rfl,u,u,rfl,hvk,low,top⟩
  case istep=>
   rintro x c s2 _ hxk ⟨rfl,u,v,rfl,huv,hvk,hm,low,top⟩
   dsimp only
   by_cases hge:u>=v
   ·rw [if_pos hge]
    have:u=v:=by omega
    subst this
    exact wpS_pure ⟨rfl,u,u,rfl,hvk,low,top⟩
   ·rw [if_neg hge]
    have hmk:(u+v) / 2 < k:=by omega
    have gm:=R'.cl (lo+(u+v) / 2) (by omega) (by omega)
    refine wpS_bind (jE C h' (by omega) (by omega) ?_)
    rw [gk]
    cases hless:o.lt (lo+k) (g' (lo+(u+v) / 2))
    case true=>
     simp only [if_true]
     refine wpS_pure ⟨rfl,u,(u+v) / 2,rfl,by omega,by omega,by omega,low,fun i h1 h2=>?_⟩
     by_cases c:i=(u+v) / 2
     ·subst c;exact .inl hless
     ·exact (P.of_lt hless).trans (R'.so _ _ (by omega) (by omega) (by omega))
    case false=>
     simp only [Bool.false_eq_true,if_false]
     refine wpS_pure ⟨rfl,(u+v) / 2+1,v,rfl,by omega,by omega,by omega,fun i h1=>?_,top⟩
     have last:=P.kO hless gm.2
     by_cases c:i=(u+v) / 2
     ·subst c;exact last
     ·exact (R'.so _ _ (by omega) (by omega) (by omega)).trans last
  case ipost=>
   rintro c s2 ⟨rfl,u,v,rfl,huk,low,top⟩
   dsimp only
   refine wpS_bind (Jo h' (by omega) (by omega) fun st3 h3=>?_)
   refine wpS_pure ⟨rfl,_,h3,?_⟩
   rw [show min (k+1) n=k+1 by omega]
   exact IU R' gk huk low top
end
noncomputable abbrev As:=Option (Option Nat)×Nat
noncomputable abbrev Ds:=Option (Option Nat)×Nat×Nat
noncomputable def Bo (lo a nrem:Nat):StateT SortSt Sem As:=
 forIn [a:nrem] ((none,a):As) fun _ c=>do
  let x <- ltAt' (lo+c.2) (lo+c.2 - 1)
  match x with
  | some b=>if b=true then pure (ForInStep.done (none,c.2)) else pure (ForInStep.yield (none,c.2+1))
  | _=>pure (ForInStep.done (some none,c.2))
noncomputable def rC (lo n nrem:Nat):StateT SortSt Sem (Option Nat):=do
 reverseSlice' lo (lo+n)
 let c <- Bo lo n nrem
 match c.1 with
 | some r=>pure r
 | none=>pure (some c.2)
noncomputable def EH (lo n nrem:Nat):StateT SortSt Sem Ds:=
 forIn [n:nrem] ((none,n,0):Ds) fun _ c=>do
  let x <- ltAt' (lo+c.2.1) (lo+c.2.1 - 1)
  match x with
  | some b=>
   if b=true then
    if c.2.2 > 0 then do
     reverseSlice' (lo+c.2.1 - (c.2.2+1)) (lo+c.2.1)
     pure (ForInStep.yield (none,c.2.1+1,0))
    else pure (ForInStep.yield (none,c.2.1+1,0))
   else do
    let x <- ltAt' (lo+c.2.1 - 1) (lo+c.2.1)
    match x with
    | some b=>
     if b=true then pure (ForInStep.done (none,c.2.1,c.2.2))
     else pure (ForInStep.yield (none,c.2.1+1,c.2.2+1))
    | _=>pure (ForInStep.done (some none,c.2.1,c.2.2))
  | _=>pure (ForInStep.done (some none,c.2.1,c.2.2))
noncomputable def C9 (lo n nrem:Nat):StateT SortSt Sem (Option Nat):=do
 liftM (rule "list.sort.descending-run")
 let c <- EH lo (n+1) nrem
 match c.1 with
 | some r=>pure r
 | none=>
  if c.2.2 > 0 then do
   reverseSlice' (lo+c.2.1 - (c.2.2+1)) (lo+c.2.1)
   rC lo c.2.1 nrem
  else rC lo c.2.1 nrem
theorem count_eq (lo nrem:Nat):countRun' lo nrem=(do
  let c <- Bo lo 1 nrem
  match c.1 with
  | some r=>pure r
  | none=>
   if (c.2 == nrem)=true then pure (some c.2)
   else if c.2 > 1 then do
    let x <- ltAt' lo (lo+c.2 - 1)
    match x with
    | some b=>if b=true then pure (some c.2) else do
      reverseSlice' lo (lo+c.2)
      C9 lo c.2 nrem
    | _=>pure none
   else C9 lo c.2 nrem):=by
 rw [countRun'_eq]
 dsimp only
 unfold C9 rC EH Bo
 congr 1
 funext c
 obtain ⟨r,n⟩:=c
 cases r with
 | some r=>rfl
 | none=>
  dsimp only
  split
  ·rfl
  ·split
   ·congr 1
    funext x
    cases x with
    | none=>rfl
    | some b=>
     dsimp only
     split
     ·rfl
     ·congr 1
      funext _r
      congr 1
      funext _u
      congr 1
      congr 1
      funext s2
      obtain ⟨r2,n2,q2⟩:=s2
      cases r2 with
      | some r2=>rfl
      | none=>
       dsimp only
       split
       ·congr 1
        funext _v
        congr 1
        funext _w
        congr 1
        funext s3
        obtain ⟨r3,n3⟩:=s3
        cases r3 <;> rfl
       ·congr 1
        funext _w
        congr 1
        funext s3
        obtain ⟨r3,n3⟩:=s3
        cases r3 <;> rfl
   ·congr 1
    funext _u
    congr 1
    congr 1
    funext s2
    obtain ⟨r2,n2,q2⟩:=s2
    cases r2 with
    | some r2=>rfl
    | none=>
     dsimp only
     split
     ·congr 1
      funext _v
      congr 1
      funext _w
      congr 1
      funext s3
      obtain ⟨r3,n3⟩:=s3
      cases r3 <;> rfl
     ·congr 1
      funext _w
      congr 1
      funext s3
      obtain ⟨r3,n3⟩:=s3
      cases r3 <;> rfl
section
variable {prog:Program} {w:World} {A:Around} {E:Value->Shared->Prop} {s:Shared} {o:Ord} {N:Nat} {f:Nat->Keyed} {kd:SortKind} {g g0:Nat->Nat} {p:Array (Nat×Nat×Nat)} {st:SortSt}
theorem Rn.snoc {a b:Nat} (R:Rn o g0 g a b) (hab:a < b) (hb:g b=b) (h:o.lt b (g (b - 1))=false):Rn o g0 g a (b+1) where
 out i hi:=R.out i (by omega)
 cl i h1 h2:=by
  by_cases c:i=b
  ·subst c;omega
  ·have:=R.cl i h1 (by omega);omega
 so i j h1 h2 h3:=by
  by_cases c:j=b
  ·subst c
   rw [hb]
   have l:=R.cl (j - 1) (by omega) (by omega)
   have last:P o (g (j - 1)) j:=P.kO h l.2
   by_cases c2:i=j - 1
   ·subst c2;exact last
   ·exact (R.so i (j - 1) h1 (by omega) (by omega)).trans last
  ·exact R.so i j h1 h2 (by omega)
theorem z0 (C:oJ prog w A s o N f kd) {lo a nrem:Nat} (h:Sg N f kd g p st) (hn:lo+nrem<=N) (h1:1<=a) (han:a<=nrem) (R:Rn o g0 g lo (lo+a)) (hid:∀ i,lo+a<=i->i < lo+nrem->g0 i=i)
  {Q:As->SortSt->Prop} (q:∀ n,a<=n->n<=nrem->Rn o g0 g lo (lo+n)->(n=nrem\/o.lt (lo+n) (g (lo+n - 1))=true)->Q (none,n) st):wpS (model prog w) A E s (Bo lo a nrem) Q st:=by
 unfold Bo
 refine wpS_forRange (I:=fun x c st'=>st'=st/\c=(none,x)/\Rn o g0 g lo (lo+x)) ?step ?fin ⟨rfl,rfl,R⟩
 case fin=>
  rintro c st' ⟨rfl,rfl,R'⟩
  rw [show max a nrem=nrem by omega] at R' ⊢
  exact q nrem han (Nat.le_refl _) R' (.inl rfl)
 case step=>
  rintro x c st' hax hxn ⟨rfl,rfl,R'⟩
  dsimp only
  have gx:g (lo+x)=lo+x:=by rw [R'.out _ (by omega)];exact hid _ (by omega) (by omega)
  refine wpS_bind (jE C h (by omega) (by omega) ?_)
  rw [gx]
  cases hl:o.lt (lo+x) (g (lo+x - 1))
  case true=>
   simp only [if_true]
   exact wpS_pure (q x hax (by omega) R' (.inr hl))
  case false=>
   simp only [Bool.false_eq_true,if_false]
   exact wpS_pure ⟨rfl,rfl,R'.snoc (by omega) gx hl⟩
structure Dc (o:Ord) (g0 g:Nat->Nat) (a b q:Nat):Prop where
 out:∀ i,i < a\/b<=i->g i=g0 i
 cl:Cl g a b
 few:a+(q+1)<=b
 dn:∀ i j,a<=i->i < j->j < b->i < b - (q+1)->P o (g j) (g i)
 id:∀ i,b - (q+1)<=i->i < b->g i=i
 al:∀ i j,b - (q+1)<=i->i < b->b - (q+1)<=j->j < b->o.lt i j=false
theorem Dc.turn {a b q:Nat} (D:Dc o g0 g a b q):(∀ i,i < a\/b<=i->rev g (b - (q+1)) b i=g0 i)/\Cl (rev g (b - (q+1)) b) a b/\(∀ i j,a<=i->i < j->j < b->P o (rev g (b - (q+1)) b j) (rev g (b - (q+1)) b i))/\(∀ i,b - (q+1)<=i->i < b->∃ k,rev g (b - (q+1)) b i=k/\b - (q+1)<=k/\k < b):=by
 have few:=D.few
 have inn:∀ i,b - (q+1)<=i->i < b->rev g (b - (q+1)) b i=b - (q+1)+b - 1 - i:=fun i h1 h2=>by
  rw [nN h1 h2]
  exact D.id _ (by omega) (by omega)
 refine ⟨fun i hi=>?_,fun i h1 h2=>?_,fun i j h1 h2 h3=>?_,fun i h1 h2=>⟨_,inn i h1 h2,by omega,by omega⟩⟩
 ·rw [eT (by omega)];exact D.out i hi
 ·by_cases c:i < b - (q+1)
  ·rw [eT (by omega)];exact D.cl i h1 h2
  ·rw [inn i (by omega) h2];omega
 ·by_cases c:i < b - (q+1)
  ·rw [eT (k:=i) (by omega)]
   by_cases c2:j < b - (q+1)
   ·rw [eT (by omega)];exact D.dn i j h1 h2 h3 c
   ·rw [inn j (by omega) h3]
    have:=D.dn i (b - (q+1)+b - 1 - j) h1 (by omega) (by omega) c
    rwa [D.id _ (by omega) (by omega)] at this
  ·rw [inn i (by omega) (by omega),inn j (by omega) h3]
   exact P.kO (D.al _ _ (by omega) (by omega) (by omega) (by omega)) (by omega)
noncomputable def Fin (o:Ord) (g0 g:Nat->Nat) (a b:Nat):Prop:=(∀ i,i < a\/b<=i->g i=g0 i)/\Cl g a b/\(∀ i j,a<=i->i < j->j < b->P o (g j) (g i))
theorem Dc.qV {a b:Nat} (D:Dc o g0 g a b 0):Fin o g0 g a b:=⟨D.out,D.cl,fun i j h1 h2 h3=>D.dn i j h1 h2 h3 (by omega)⟩
theorem Fin.rn {a b:Nat} (D:Fin o g0 g a b):Rn o g0 (rev g a b) a b where
 out i hi:=by rw [eT hi];exact D.1 i hi
 cl i h1 h2:=by
  rw [nN h1 h2];exact D.2.1 _ (by omega) (by omega)
 so i j h1 h2 h3:=by
  rw [nN h1 (by omega),nN (by omega) h3]
  exact D.2.2 _ _ (by omega) (by omega) (by omega)
theorem Fin.add {a b:Nat} (D:Fin o g0 g a b) (hb:g b=b) (hab:a < b) (h:∀ i,a<=i->i < b->P o b (g i)):Dc o g0 g a (b+1) 0 where
 out i hi:=D.1 i (by omega)
 cl i h1 h2:=by
  by_cases c:i=b
  ·subst c;omega
  ·have:=D.2.1 i h1 (by omega);omega
 few:=by omega
 dn i j h1 h2 h3 _:=by
  by_cases c:j=b
  ·subst c;rw [hb];exact h i h1 h2
  ·exact D.2.2 i j h1 h2 (by omega)
 id i h1 h2:=by
  have:i=b:=by omega
  rw [this,hb]
 al i j h1 h2 h3 h4:=by
  have:i=j:=by omega
  rw [this];exact o.Eo _
theorem wU (C:oJ prog w A s o N f kd) {lo n nrem:Nat} (h:Sg N f kd g p st) (hn:lo+nrem<=N) (h1:1<=n) (han:n<=nrem) (D:Fin o g0 g lo (lo+n)) (hid:∀ i,lo<=i->i < lo+nrem->g0 i=i)
  {Q:Option Nat->SortSt->Prop} (q:∀ m g' st',Sg N f kd g' p st'->1<=m->m<=nrem->Rn o g0 g' lo (lo+m)->Q (some m) st'):wpS (model prog w) A E s (rC lo n nrem) Q st:=by
 unfold rC
 refine wpS_bind (lI h (by omega) fun st2 h2=>?_)
 exact wpS_bind (z0 C h2 hn h1 han D.rn (fun i a b=>hid i (by omega) b) fun m hm1 hm2 R _=>wpS_pure (q m _ _ h2 (by omega) hm2 R))
theorem Hh (C:oJ prog w A s o N f kd) {lo n nrem:Nat} (h:Sg N f kd g p st) (hn:lo+nrem<=N) (h1:1<=n) (han:n<=nrem) (D:Dc o g0 g lo (lo+n) 0) (hid:∀ i,lo<=i->i < lo+nrem->g0 i=i)
  {Q:Ds->SortSt->Prop} (q:∀ m e g' st',Sg N f kd g' p st'->1<=m->m<=nrem->Dc o g0 g' lo (lo+m) e->Q (none,m,e) st'):wpS (model prog w) A E s (EH lo n nrem) Q st:=by
 unfold EH
 refine wpS_forRange (I:=fun x c st'=>∃ e g',c=(none,x,e)/\Sg N f kd g' p st'/\Dc o g0 g' lo (lo+x) e) ?step ?fin ⟨0,g,rfl,h,D⟩
 case fin=>
  rintro c st' ⟨e,g',rfl,h',D'⟩
  rw [show max n nrem=nrem by omega] at D' ⊢
  exact q nrem e g' st' h' (by omega) (Nat.le_refl _) D'
 case step=>
  rintro x c st' hax hxn ⟨e,g',rfl,h',D'⟩
  dsimp only
  have few:=D'.few
  have gx:g' (lo+x)=lo+x:=by rw [D'.out _ (by omega)];exact hid _ (by omega) (by omega)
  have gy:g' (lo+x - 1)=lo+x - 1:=D'.id _ (by omega) (by omega)
  refine wpS_bind (jE C h' (by omega) (by omega) ?_)
  rw [gx,gy]
  cases hl:o.lt (lo+x) (lo+x - 1)
  case true=>
   simp only [if_true]
   by_cases he:e > 0
   ·rw [if_pos he]
    obtain ⟨t1,t2,t3,t4⟩:=D'.turn
    refine wpS_bind (lI h' (by omega) fun st2 h2=>wpS_pure ⟨0,_,rfl,h2,?_⟩)
    refine Fin.add (b:=lo+x) ⟨t1,t2,t3⟩ (by rw [eT (by omega)];exact gx) (by omega) fun i a b=>?_
    by_cases c:lo+x - (e+1)<=i
    ·obtain ⟨k,ek,k1,k2⟩:=t4 i c b
     rw [ek]
     rcases o.neg _ k _ hl with z | z
     ·exact .inl z
     ·rw [D'.al _ _ k1 k2 (by omega) (by omega)] at z;cases z
    ·rw [eT (by omega)]
     have:=D'.dn i (lo+x - 1) a (by omega) (by omega) (by omega)
     rw [gy] at this
     exact (P.of_lt hl).trans this
   ·rw [if_neg he]
    have:e=0:=by omega
    subst this
    refine wpS_pure ⟨0,_,rfl,h',Fin.add (b:=lo+x) D'.qV gx (by omega) fun i a b=>?_⟩
    by_cases c:i=lo+x - 1
    ·subst c;rw [gy];exact .inl hl
    ·have:=D'.dn i (lo+x - 1) a (by omega) (by omega) (by omega)
     rw [gy] at this
     exact (P.of_lt hl).trans this
  case false=>
   simp only [Bool.false_eq_true,if_false]
   refine wpS_bind (jE C h' (by omega) (by omega) ?_)
   rw [gx,gy]
   cases hg:o.lt (lo+x - 1) (lo+x)
   case true=>
    simp only [if_true]
    exact wpS_pure (q x e g' st' h' (by omega) (by omega) D')
   case false=>
    simp only [Bool.false_eq_true,if_false]
    refine wpS_pure ⟨e+1,g',rfl,h',?_⟩
    have eq1:∀ i,lo+x - (e+1)<=i->i < lo+x->o.lt i (lo+x)=false/\o.lt (lo+x) i=false:=fun i a b=>by
     constructor
     ·cases z:o.lt i (lo+x) with
      | false=>rfl
      | true=>
       rcases o.neg _ (lo+x - 1) _ z with y | y
       ·rw [D'.al _ _ a b (by omega) (by omega)] at y;cases y
       ·rw [hg] at y;cases y
     ·cases z:o.lt (lo+x) i with
      | false=>rfl
      | true=>
       rcases o.neg _ (lo+x - 1) _ z with y | y
       ·rw [hl] at y;cases y
       ·rw [D'.al _ _ (by omega) (by omega) a b] at y;cases y
    exact {
     out:=fun i hi=>D'.out i (by omega)
     cl:=fun i a b=>by
      by_cases c:i=lo+x
      ·subst c;omega
      ·have:=D'.cl i a (by omega);omega
     few:=by omega
     dn:=fun i j a b c d=>by
      by_cases z:j=lo+x
      ·subst z
       rw [gx]
       have y:=D'.dn i (lo+x - 1) a (by omega) (by omega) (by omega)
       rw [gy] at y
       have gi:=D'.cl i a (by omega)
       rcases y with y | ⟨_,y⟩
       ·rcases o.neg _ (lo+x) _ y with v | v
        ·rw [hg] at v;cases v
        ·exact .inl v
       ·omega
      ·exact D'.dn i j a b (by omega) (by omega)
     id:=fun i a b=>by
      by_cases z:i=lo+x
      ·subst z;exact gx
      ·exact D'.id i (by omega) (by omega)
     al:=fun i j a b c d=>by
      by_cases z:i=lo+x
      ·subst z
       by_cases y:j=lo+x
       ·subst y;exact o.Eo _
       ·exact (eq1 j (by omega) (by omega)).2
      ·by_cases y:j=lo+x
       ·subst y;exact (eq1 i (by omega) (by omega)).1
       ·exact D'.al i j (by omega) (by omega) (by omega) (by omega) }
theorem xM (C:oJ prog w A s o N f kd) {lo n nrem:Nat} (h:Sg N f kd g p st) (hn:lo+nrem<=N) (han:n+1<=nrem) (D:Dc o g0 g lo (lo+(n+1)) 0) (hid:∀ i,lo<=i->i < lo+nrem->g0 i=i)
  {Q:Option Nat->SortSt->Prop} (q:∀ m g' st',Sg N f kd g' p st'->1<=m->m<=nrem->Rn o g0 g' lo (lo+m)->Q (some m) st'):wpS (model prog w) A E s (C9 lo n nrem) Q st:=by
 unfold C9
 refine wpS_bind (wpS_lift (wpAny_rule ⟨rfl,?_⟩))
 refine wpS_bind (Hh C h hn (by omega) han D hid fun m e g' st' h' m1 m2 D'=>?_)
 dsimp only
 by_cases he:e > 0
 ·rw [if_pos he]
  obtain ⟨t1,t2,t3,_⟩:=D'.turn
  exact wpS_bind (lI h' (by omega) fun st2 h2=>wU C h2 hn m1 m2 ⟨t1,t2,t3⟩ hid q)
 ·rw [if_neg he]
  have:e=0:=by omega
  subst this
  exact wU C h' hn m1 m2 D'.qV hid q
theorem Ar (C:oJ prog w A s o N f kd) {lo nrem:Nat} (h:Sg N f kd g p st) (hn:lo+nrem<=N) (h1:1<=nrem) (hid:∀ i,lo<=i->i < lo+nrem->g i=i)
  {Q:Option Nat->SortSt->Prop} (q:∀ m g' st',Sg N f kd g' p st'->1<=m->m<=nrem->Rn o g g' lo (lo+m)->Q (some m) st'):wpS (model prog w) A E s (countRun' lo nrem) Q st:=by
 rw [count_eq]
 refine wpS_bind (z0 C h hn (Nat.le_refl 1) h1 (g0:=g) ⟨fun _ _=>rfl,fun i a b=>?_,fun i j a b c=>by omega⟩ (fun i a b=>hid i (by omega) b) fun n n1 n2 R hor=>?_)
 ·have:i=lo:=by omega
  subst this
  rw [hid i (Nat.le_refl _) (by omega)];omega
 dsimp only
 by_cases hnn:n=nrem
 ·rw [if_pos (by simpa using hnn)]
  exact wpS_pure (q n g st h n1 n2 R)
 ·rw [if_neg (by simpa using hnn)]
  have hlt:=hor.resolve_left hnn
  rw [hid (lo+n - 1) (by omega) (by omega)] at hlt
  have gn:g (lo+n)=lo+n:=hid _ (by omega) (by omega)
  by_cases hgt:n > 1
  ·rw [if_pos hgt]
   refine wpS_bind (jE C h (by omega) (by omega) ?_)
   rw [hid lo (by omega) (by omega),hid (lo+n - 1) (by omega) (by omega)]
   cases hr:o.lt lo (lo+n - 1)
   case true=>
    simp only [if_true]
    exact wpS_pure (q n g st h n1 n2 R)
   case false=>
    simp only [Bool.false_eq_true,if_false]
    have id':∀ i,lo<=i->i < lo+n->g i=i:=fun i a b=>hid i a (by omega)
    have pp:∀ i j,lo<=i->i < j->j < lo+n->o.lt i j=false/\o.lt j i=false:=fun i j a b c=>by
     have r:=R.so i j a b c
     rw [id' i a (by omega),id' j (by omega) c] at r
     refine ⟨?_,r.ge⟩
     cases z:o.lt i j with
     | false=>rfl
     | true=>
      rcases o.neg _ lo _ z with y | y
      ·by_cases x:i=lo
       ·subst x;rw [o.Eo] at y;cases y
       ·have r2:=R.so lo i (by omega) (by omega) (by omega)
        rw [id' i a (by omega),id' lo (by omega) (by omega)] at r2
        rw [r2.ge] at y;cases y
      ·rcases o.neg _ (lo+n - 1) _ y with x | x
       ·rw [hr] at x;cases x
       ·by_cases v:j=lo+n - 1
        ·subst v;rw [o.Eo] at x;cases x
        ·have r2:=R.so j (lo+n - 1) (by omega) (by omega) (by omega)
         rw [id' j (by omega) c,id' (lo+n - 1) (by omega) (by omega)] at r2
         rw [r2.ge] at x;cases x
    refine wpS_bind (lI h (by omega) fun st2 h2=>xM C h2 hn (by omega) ?_ hid q)
    have rin:∀ i,lo<=i->i < lo+n->rev g lo (lo+n) i=lo+(lo+n) - 1 - i:=fun i a b=>by rw [nN a b];exact id' _ (by omega) (by omega)
    refine Fin.add (b:=lo+n) ⟨fun i hi=>eT hi,fun i a b=>by rw [rin i a b];omega,fun i j a b c=>?_⟩ (by rw [eT (by omega)];exact gn) (by omega) fun i a b=>?_
    ·rw [rin i a (by omega),rin j (by omega) c]
     exact P.kO (pp _ _ (by omega) (by omega) (by omega)).2 (by omega)
    ·rw [rin i a b]
     by_cases x:lo+(lo+n) - 1 - i=lo+n - 1
     ·rw [x];exact .inl hlt
     ·rcases o.neg _ (lo+(lo+n) - 1 - i) _ hlt with z | z
      ·exact .inl z
      ·rw [(pp _ _ (by omega) (by omega) (by omega)).1] at z;cases z
  ·rw [if_neg hgt]
   have:n=1:=by omega
   subst this
   refine xM C h hn (by omega) ?_ hid q
   refine Fin.add (b:=lo+1) ⟨fun i hi=>rfl,R.cl,fun i j a b c=>by omega⟩ gn (by omega) fun i a b=>?_
   have:i=lo:=by omega
   subst this
   rw [hid i (by omega) (by omega)]
   rw [show i+1 - 1=i by omega] at hlt
   exact .inl hlt
end
noncomputable def cY:Bool->Keyed->Array Keyed->Nat->Nat->Nat->StateT SortSt Sem (Option Nat):=sortPriv% PySem.Builtin.gallop
noncomputable def Ib (ask:Nat->StateT SortSt Sem (Option Bool)) (n at0:Nat):StateT SortSt Sem (Option Nat):=do
 let mut was:=0
 let mut far:=1
 let mut low:=0
 let mut top:=0
 let some yes <- ask at0 | return none
 if yes then
  let most:=n - at0
  for _ in [0:n] do
   if far>=most then break
   let some ok <- ask (at0+far) | return none
   if !ok then break
   was:=far
   far:=2 * far+1
  low:=at0+was+1
  top:=at0+min far most
 else
  let most:=at0+1
  for _ in [0:n] do
   if far>=most then break
   let some hit <- ask (at0 - far) | return none
   if hit then break
   was:=far
   far:=2 * far+1
  low:=at0+1 - min far most
  top:=at0 - was
 for _ in [0:n] do
  if low>=top then break
  let m:=low+(top - low) / 2
  let some ok <- ask m | return none
  if ok then low:=m+1 else top:=m
 return some top
theorem oA (left:Bool) (key:Keyed) (arr:Array Keyed) (base n hint:Nat):cY left key arr base n hint=Ib (fun i=>do
  let x <- elem' arr (base+i)
  if left then lt' x key else return (<- lt' key x).map (!·)) n hint:=rfl
section
variable {prog:Program} {w:World} {A:Around} {E:Value->Shared->Prop} {s:Shared} {st:SortSt}
noncomputable def Lc (be:Nat->StateT SortSt Sem (Option Bool)) (n l0 h0:Nat):StateT SortSt Sem (Option Nat):=do
 let mut low:=l0
 let mut top:=h0
 for _ in [0:n] do
  if low>=top then break
  let m:=low+(top - low) / 2
  let some ok <- be m | return none
  if ok then low:=m+1 else top:=m
 return some top
theorem Fb {be:Nat->StateT SortSt Sem (Option Bool)} {n l0 h0:Nat} (b:Nat->Bool) (hbe:∀ i,i < n->∀ Q:Option Bool->SortSt->Prop,Q (some (b i)) st->wpS (model prog w) A E s (be i) Q st) (hb:∀ i j,i<=j->j < n->b j=true->b i=true)
  (hlh:l0<=h0) (hn:h0<=n) (hl:∀ i,i < l0->b i=true) (hh:∀ i,h0<=i->i < n->b i=false)
  {Q:Option Nat->SortSt->Prop} (q:∀ k,k<=n->(∀ i,i < k->b i=true)->(∀ i,k<=i->i < n->b i=false)->Q (some k) st):wpS (model prog w) A E s (Lc be n l0 h0) Q st:=by
 unfold Lc
 refine wpS_bind (wpS_mono (wpS_forRange (I:=fun x c st'=>st'=st/\∃ lo hi,c=(none,lo,hi)/\lo<=hi/\hi<=n/\hi - lo<=n - x/\(∀ i,i < lo->b i=true)/\(∀ i,hi<=i->i < n->b i=false))
  (Q:=fun c st'=>st'=st/\∃ k,c=(none,k,k)/\k<=n/\(∀ i,i < k->b i=true)/\(∀ i,k<=i->i < n->b i=false)) ?step ?fin ⟨rfl,l0,h0,rfl,hlh,hn,by omega,hl,hh⟩) ?post)
 case post=>
  rintro c st' ⟨rfl,k,rfl,h1,h2,h3⟩
  exact wpS_pure (q k h1 h2 h3)
 case fin=>
  rintro c st' ⟨rfl,lo,hi,rfl,h1,h2,h3,h4,h5⟩
  have:lo=hi:=by omega
  subst this
  exact ⟨rfl,lo,rfl,h2,h4,h5⟩
 case step=>
  rintro x c st' _ hx ⟨rfl,lo,hi,rfl,h1,h2,h3,h4,h5⟩
  dsimp only
  by_cases hge:lo>=hi
  ·rw [if_pos hge]
   have:lo=hi:=by omega
   subst this
   exact wpS_pure ⟨rfl,lo,rfl,h2,h4,h5⟩
  ·rw [if_neg hge]
   have hm:lo+(hi - lo) / 2 < hi:=by omega
   obtain ⟨m,hm'⟩:∃ m,m=lo+(hi - lo) / 2:=⟨_,rfl⟩
   rw [<- hm'] at hm ⊢
   refine wpS_bind (hbe m (by omega) _ ?_)
   cases hv:b m
   ·simp only [Bool.false_eq_true,if_false]
    refine wpS_pure ⟨rfl,lo,m,rfl,by omega,by omega,by omega,h4,fun i a c=>?_⟩
    cases z:b i with
    | false=>rfl
    | true=>rw [hb m i a c z] at hv;cases hv
   ·simp only [if_true]
    exact wpS_pure ⟨rfl,m+1,hi,rfl,by omega,h2,by omega,fun i a=>hb i m (by omega) (by omega) hv,h5⟩
theorem wQ {be:Nat->StateT SortSt Sem (Option Bool)} {n hint:Nat} (b:Nat->Bool) (hbe:∀ i,i < n->∀ Q:Option Bool->SortSt->Prop,Q (some (b i)) st->wpS (model prog w) A E s (be i) Q st) (hb:∀ i j,i<=j->j < n->b j=true->b i=true) (hh:hint < n)
  {Q:Option Nat->SortSt->Prop} (q:∀ k,k<=n->(∀ i,i < k->b i=true)->(∀ i,k<=i->i < n->b i=false)->Q (some k) st):wpS (model prog w) A E s (Ib be n hint) Q st:=by
 unfold Ib
 have hb':∀ i j,i<=j->j < n->b i=false->b j=false:=fun i j a c d=>by
  cases z:b j with
  | false=>rfl
  | true=>rw [hb i j a c z] at d;cases d
 refine wpS_bind (hbe hint hh _ ?_)
 cases hr:b hint
 ·dsimp only
  simp only [Bool.false_eq_true,if_false]
  refine wpS_bind (wpS_mono (wpS_forRange (I:=fun x c st'=>st'=st/\∃ l u,c=(none,l,u)/\x+1<=u/\l < u/\l<=hint/\b (hint - l)=false)
   (Q:=fun c st'=>st'=st/\∃ l u,c=(none,l,u)/\l < u/\l<=hint/\b (hint - l)=false/\(u>=hint+1\/b (hint - u)=true)) ?step ?fin ⟨rfl,0,1,rfl,by omega,by omega,by omega,hr⟩) ?post)
  case post=>
   rintro c st' ⟨rfl,l,u,rfl,h1,h2,h3,h4⟩
   dsimp only
   refine (Fb b hbe hb (l0:=hint+1 - min u (hint+1)) (h0:=hint - l) (by omega) (by omega) (fun i a=>?_) (fun i a c=>hb' _ _ a c h3) q:wpS (model prog w) A E s (Lc be n _ _) Q st')
   rcases h4 with h4 | h4
   ·omega
   ·exact hb i (hint - u) (by omega) (by omega) h4
  case fin=>
   rintro c st' ⟨rfl,l,u,rfl,h1,h2,h3,h4⟩
   exact ⟨rfl,l,u,rfl,h2,h3,h4,.inl (by omega)⟩
  case step=>
   rintro x c st' _ hx ⟨rfl,l,u,rfl,h1,h2,h3,h4⟩
   dsimp only
   by_cases hge:u>=hint+1
   ·rw [if_pos hge]
    exact wpS_pure ⟨rfl,l,u,rfl,h2,h3,h4,.inl hge⟩
   ·rw [if_neg hge]
    refine wpS_bind (hbe _ (by omega) _ ?_)
    cases hv:b (hint - u)
    ·simp only [Bool.false_eq_true,if_false]
     exact wpS_pure ⟨rfl,u,2 * u+1,rfl,by omega,by omega,by omega,hv⟩
    ·simp only [if_true]
     exact wpS_pure ⟨rfl,l,u,rfl,h2,h3,h4,.inr hv⟩
 ·dsimp only
  simp only [if_true]
  refine wpS_bind (wpS_mono (wpS_forRange (I:=fun x c st'=>st'=st/\∃ l u,c=(none,l,u)/\x+1<=u/\l < u/\hint+l < n/\b (hint+l)=true)
   (Q:=fun c st'=>st'=st/\∃ l u,c=(none,l,u)/\l < u/\hint+l < n/\b (hint+l)=true/\(u>=n - hint\/b (hint+u)=false)) ?FA ?fin2 ⟨rfl,0,1,rfl,by omega,by omega,by omega,hr⟩) ?post2)
  case post2=>
   rintro c st' ⟨rfl,l,u,rfl,h1,h2,h3,h4⟩
   dsimp only
   refine (Fb b hbe hb (l0:=hint+l+1) (h0:=hint+min u (n - hint)) (by omega) (by omega) (fun i a=>hb i _ (by omega) h2 h3) (fun i a c=>?_) q:wpS (model prog w) A E s (Lc be n _ _) Q st')
   rcases h4 with h4 | h4
   ·omega
   ·exact hb' (hint+u) i (by omega) c h4
  case fin2=>
   rintro c st' ⟨rfl,l,u,rfl,h1,h2,h3,h4⟩
   exact ⟨rfl,l,u,rfl,h2,h3,h4,.inl (by omega)⟩
  case FA=>
   rintro x c st' _ hx ⟨rfl,l,u,rfl,h1,h2,h3,h4⟩
   dsimp only
   by_cases hge:u>=n - hint
   ·rw [if_pos hge]
    exact wpS_pure ⟨rfl,l,u,rfl,h2,h3,h4,.inl hge⟩
   ·rw [if_neg hge]
    refine wpS_bind (hbe _ (by omega) _ ?_)
    cases hv:b (hint+u)
    ·simp only [Bool.not_false,if_true]
     exact wpS_pure ⟨rfl,l,u,rfl,h2,h3,h4,.inr hv⟩
    ·simp only [Bool.not_true,Bool.false_eq_true,if_false]
     exact wpS_pure ⟨rfl,u,2 * u+1,rfl,by omega,by omega,by omega,hv⟩
end
section
variable {prog:Program} {w:World} {A:Around} {E:Value->Shared->Prop} {s:Shared} {o:Ord} {N:Nat} {f:Nat->Keyed} {kd:SortKind} {st:SortSt}
theorem Af (C:oJ prog w A s o N f kd) (hk:kindOf st=kd) {key base n hint:Nat} {arr:Array Keyed} {h:Nat->Nat} (ha:∀ i,i < n->arr[base+i]?=some (f (h i))) (hN:∀ i,i < n->h i < key) (hkN:key < N) (so:So o h 0 n) (hh:hint < n)
  {Q:Option Nat->SortSt->Prop} (q:∀ k,k<=n->(∀ i,i < k->P o (h i) key)->(∀ i,k<=i->i < n->P o key (h i))->Q (some k) st):wpS (model prog w) A E s (cY false (f key) arr base n hint) Q st:=by
 rw [oA]
 refine wQ (fun i=>!o.lt key (h i)) (fun i hi Q' q'=>?_) (fun i j a b c=>?_) hh fun k h1 h2 h3=>q k h1 (fun i a=>?_) fun i a b=>?_
 ·refine wpS_bind (bf (ha i hi) ?_)
  simp only [Bool.false_eq_true,if_false]
  exact wpS_bind (lU C hk hkN (by have:=hN i hi;omega) (wpS_pure q'))
 ·by_cases z:i=j
  ·subst z;exact c
  ·have r:=so i j (Nat.zero_le _) (by omega) b
   have c':o.lt key (h j)=false:=by simpa using c
   cases e:o.lt key (h i) with
   | false=>rfl
   | true=>
    have:=(P.of_lt e).trans r
    rw [this.lt (hN j b)] at c';cases c'
 ·have:=h2 i a
  exact P.kO (by simpa using this) (hN i (by omega))
 ·have:=h3 i a b
  exact .inl (by simpa using this)
theorem CY (C:oJ prog w A s o N f kd) (hk:kindOf st=kd) {key base n hint:Nat} {arr:Array Keyed} {h:Nat->Nat} (ha:∀ i,i < n->arr[base+i]?=some (f (h i))) (hN:∀ i,i < n->key < h i/\h i < N) (so:So o h 0 n) (hh:hint < n)
  {Q:Option Nat->SortSt->Prop} (q:∀ k,k<=n->(∀ i,i < k->P o (h i) key)->(∀ i,k<=i->i < n->P o key (h i))->Q (some k) st):wpS (model prog w) A E s (cY true (f key) arr base n hint) Q st:=by
 rw [oA]
 refine wQ (fun i=>o.lt (h i) key) (fun i hi Q' q'=>?_) (fun i j a b c=>?_) hh fun k h1 h2 h3=>q k h1 (fun i a=>?_) fun i a b=>?_
 ·refine wpS_bind (bf (ha i hi) ?_)
  simp only [if_true]
  exact lU C hk (hN i hi).2 (by have:=hN i hi;omega) q'
 ·by_cases z:i=j
  ·subst z;exact c
  ·have r:=so i j (Nat.zero_le _) (by omega) b
   exact (r.trans (P.of_lt c)).lt (hN i (by omega)).1
 ·exact .inl (h2 i a)
 ·exact P.kO (h3 i a b) (hN i b).1
end
noncomputable def nO:Array Keyed->Array Keyed->StateT SortSt Sem (Array Keyed):=sortPriv% PySem.Builtin.mergeLo
noncomputable def nE:Array Keyed->Array Keyed->StateT SortSt Sem (Array Keyed):=sortPriv% PySem.Builtin.mergeHi
noncomputable def kF:Nat->StateT SortSt Sem Unit:=sortPriv% PySem.Builtin.setMinGallop
theorem Dr (m:Nat):kF m=modify fun s=>SortSt.mk' (kindOf s) (arrOf s) (pendingOf s) m (failedOf s):=rfl
theorem tF (a b:Array Keyed):nO a b=(do
 rule "list.sort.merge-lo"
 let all_:=a.size+b.size
 let end1 (acc:Array Keyed) (p q:Nat):=acc++a.extract p a.size++b.extract q b.size
 let end2 (acc:Array Keyed) (p q:Nat):=acc++b.extract q b.size++a.extract p a.size
 let mut acc:Array Keyed:=#[<- elem' b 0]
 let mut p:=0
 let mut q:=1
 if q == b.size then return end1 acc p q
 if p+1 == a.size then return end2 acc p q
 let mut mg:=gallopOf (<- get)
 for _ in [0:all_] do
  let mut ca:=0
  let mut cb:=0
  for _ in [0:all_] do
   let some won <- lt' (<- elem' b q) (<- elem' a p) | return end1 acc p q
   if won then
    acc:=acc.push (<- elem' b q);q:=q+1;cb:=cb+1;ca:=0
    if q == b.size then return end1 acc p q
    if cb>=mg then break
   else
    acc:=acc.push (<- elem' a p);p:=p+1;ca:=ca+1;cb:=0
    if p+1 == a.size then return end2 acc p q
    if ca>=mg then break
  rule "list.sort.gallop"
  mg:=mg+1
  for _ in [0:all_] do
   if mg > 1 then mg:=mg - 1
   kF mg
   let some k <- cY false (<- elem' b q) a p (a.size - p) 0 | return end1 acc p q
   ca:=k
   if k > 0 then
    acc:=acc++a.extract p (p+k);p:=p+k
    if p+1 == a.size then return end2 acc p q
    if p == a.size then return end1 acc p q
   acc:=acc.push (<- elem' b q);q:=q+1
   if q == b.size then return end1 acc p q
   let some k <- cY true (<- elem' a p) b q (b.size - q) 0 | return end1 acc p q
   cb:=k
   if k > 0 then
    acc:=acc++b.extract q (q+k);q:=q+k
    if q == b.size then return end1 acc p q
   acc:=acc.push (<- elem' a p);p:=p+1
   if p+1 == a.size then return end2 acc p q
   if ca < 7 && cb < 7 then break
  mg:=mg+1
  kF mg
 unsupported "internal:list.sort.merge-bound"):=rfl
section
variable {o:Ord} {N:Nat} {f:Nat->Keyed} {A B hs:List Nat} {ia ib:Nat}
noncomputable def fa (f:Nat->Keyed) (l:List Nat):Array Keyed:=(l.map f).toArray
theorem iJ (l:List Nat):(fa f l).size=l.length:=by unfold fa;rw [List.size_toArray,List.length_map]
theorem zG (l:List Nat) (i:Nat):(fa f l)[i]?=(l[i]?).map f:=by unfold fa;rw [List.getElem?_toArray,List.getElem?_map]
theorem c_ {l:List Nat} {i x:Nat} (h:l[i]?=some x):(fa f l)[i]?=some (f x):=by rw [zG,h];rfl
theorem jT (l:List Nat) (x:Nat):(fa f l).push (f x)=fa f (l++[x]):=by
 unfold fa;rw [List.push_toArray,List.map_append];rfl
theorem fF (l m:List Nat):fa f l++fa f m=fa f (l++m):=by
 unfold fa;rw [List.append_toArray,List.map_append]
theorem kg (l:List Nat) (i j:Nat):(fa f l).extract i j=fa f ((l.drop i).take (j - i)):=by
 unfold fa;rw [List.extract_toArray,List.extract_eq_take_drop,List.map_take,List.map_drop]
theorem k_ (l:List Nat) (i:Nat):(fa f l).extract i l.length=fa f (l.drop i):=by
 rw [kg,List.take_of_length_le (by rw [List.length_drop];omega)]
structure Ab (o:Ord) (N:Nat) (A B:List Nat):Prop where
 sa:A.Pairwise (P o)
 sb:B.Pairwise (P o)
 lt:∀ x∈A,∀ y∈B,x < y
 nb:∀ y∈B,y < N
 na:∀ x∈A,x < N
structure Mg (o:Ord) (A B hs:List Nat) (ia ib:Nat):Prop where
 la:ia<=A.length
 lb:ib<=B.length
 len:hs.length=ia+ib
 so:hs.Pairwise (P o)
 mem:∀ x∈hs,x∈A\/x∈B
 ua:∀ x∈hs,∀ y∈A.drop ia,P o x y
 ub:∀ x∈hs,∀ y∈B.drop ib,P o x y
noncomputable def Res (o:Ord) (f:Nat->Keyed) (A B:List Nat) (out:Array Keyed):Prop:=∃ hs:List Nat,out=fa f hs/\hs.length=A.length+B.length/\hs.Pairwise (P o)/\∀ x∈hs,x∈A\/x∈B
theorem iA {l:List Nat} (h:l.Pairwise (P o)) {i j x y:Nat} (hx:l[i]?=some x) (hy:l[j]?=some y) (hij:i < j):P o x y:=by
 obtain ⟨h1,e1⟩:=List.getElem?_eq_some_iff.mp hx
 obtain ⟨h2,e2⟩:=List.getElem?_eq_some_iff.mp hy
 rw [<- e1,<- e2]
 exact List.pairwise_iff_getElem.mp h i j h1 h2 hij
theorem jI {l:List Nat} {i y:Nat} (h:y∈l.drop i):∃ j,i<=j/\l[j]?=some y:=by
 obtain ⟨k,hk⟩:=List.getElem?_of_mem h
 rw [List.getElem?_drop] at hk
 exact ⟨i+k,by omega,hk⟩
theorem Mg.kI (ab:Ab o N A B) (m:Mg o A B hs ia ib) {x:Nat} (hx:A[ia]?=some x) (h:∀ y∈B.drop ib,P o x y):Mg o A B (hs++[x]) (ia+1) ib:=by
 obtain ⟨h1,e1⟩:=List.getElem?_eq_some_iff.mp hx
 have hd:A.drop ia=x::A.drop (ia+1):=by rw [<- e1];exact List.drop_eq_getElem_cons h1
 refine ⟨by omega,m.lb,by rw [List.length_append,m.len];show ia+ib+1=_;omega,?_,fun z hz=>?_,fun z hz y hy=>?_,fun z hz y hy=>?_⟩
 ·rw [List.pairwise_append]
  exact ⟨m.so,List.pairwise_singleton ..,fun a ha b hb=>by rw [List.mem_singleton.mp hb];exact m.ua a ha x (by rw [hd];exact List.mem_cons_self ..)⟩
 ·rcases List.mem_append.mp hz with z' | z'
  ·exact m.mem z z'
  ·rw [List.mem_singleton.mp z'];exact .inl (List.mem_of_getElem? hx)
 ·rcases List.mem_append.mp hz with z' | z'
  ·exact m.ua z z' y (by rw [hd];exact List.mem_cons_of_mem _ hy)
  ·rw [List.mem_singleton.mp z']
   obtain ⟨j,hj,ej⟩:=jI hy
   exact iA ab.sa hx ej (by omega)
 ·rcases List.mem_append.mp hz with z' | z'
  ·exact m.ub z z' y hy
  ·rw [List.mem_singleton.mp z'];exact h y hy
theorem Ab.kX (ab:Ab o N A B) (m:Mg o A B hs ia ib) {x:Nat} (hx:B[ib]?=some x) (h:∀ y∈A.drop ia,P o x y):Mg o A B (hs++[x]) ia (ib+1):=by
 obtain ⟨h1,e1⟩:=List.getElem?_eq_some_iff.mp hx
 have hd:B.drop ib=x::B.drop (ib+1):=by rw [<- e1];exact List.drop_eq_getElem_cons h1
 refine ⟨m.la,by omega,by rw [List.length_append,m.len];rfl,?_,fun z hz=>?_,fun z hz y hy=>?_,fun z hz y hy=>?_⟩
 ·rw [List.pairwise_append]
  exact ⟨m.so,List.pairwise_singleton ..,fun a ha b hb=>by rw [List.mem_singleton.mp hb];exact m.ub a ha x (by rw [hd];exact List.mem_cons_self ..)⟩
 ·rcases List.mem_append.mp hz with z' | z'
  ·exact m.mem z z'
  ·rw [List.mem_singleton.mp z'];exact .inr (List.mem_of_getElem? hx)
 ·rcases List.mem_append.mp hz with z' | z'
  ·exact m.ua z z' y hy
  ·rw [List.mem_singleton.mp z'];exact h y hy
 ·rcases List.mem_append.mp hz with z' | z'
  ·exact m.ub z z' y (by rw [hd];exact List.mem_cons_of_mem _ hy)
  ·rw [List.mem_singleton.mp z']
   obtain ⟨j,hj,ej⟩:=jI hy
   exact iA ab.sb hx ej (by omega)
theorem gv {l:List Nat} (h:l.Pairwise (P o)) {i x y:Nat} (hx:l[i]?=some x) (hxy:P o y x):∀ z∈l.drop i,P o y z:=fun z hz=>by
 obtain ⟨j,hj,ej⟩:=jI hz
 by_cases c:j=i
 ·subst c;rw [hx] at ej;cases ej;exact hxy
 ·exact hxy.trans (iA h hx ej (by omega))
theorem take_snoc {l:List Nat} {i k x:Nat} (h:l[i+k]?=some x):(l.drop i).take (k+1)=(l.drop i).take k++[x]:=by
 have h':(l.drop i)[k]?=some x:=by rw [List.getElem?_drop];exact h
 obtain ⟨h1,e1⟩:=List.getElem?_eq_some_iff.mp h'
 rw [List.take_succ_eq_append_getElem h1,e1]
theorem Mg.mW (ab:Ab o N A B) (m:Mg o A B hs ia ib) {y:Nat} (hy:B[ib]?=some y):∀ k,ia+k<=A.length->(∀ i x,i < k->A[ia+i]?=some x->P o x y)->Mg o A B (hs++(A.drop ia).take k) (ia+k) ib
 | 0,_,_=>by rw [List.take_zero,List.append_nil];exact m
 | k+1,hk,h=>by
  have ih:=Mg.mW ab m hy k (by omega) fun i x hi=>h i x (by omega)
  have hx:A[ia+k]?=some (A[ia+k]'(by omega)):=List.getElem?_eq_getElem _
  rw [take_snoc hx,<- List.append_assoc]
  exact ih.kI ab hx (gv ab.sb hy (h k _ (by omega) hx))
theorem Mg.nB (ab:Ab o N A B) (m:Mg o A B hs ia ib) {y:Nat} (hy:A[ia]?=some y):∀ k,ib+k<=B.length->(∀ i x,i < k->B[ib+i]?=some x->P o x y)->Mg o A B (hs++(B.drop ib).take k) ia (ib+k)
 | 0,_,_=>by rw [List.take_zero,List.append_nil];exact m
 | k+1,hk,h=>by
  have ih:=Mg.nB ab m hy k (by omega) fun i x hi=>h i x (by omega)
  have hx:B[ib+k]?=some (B[ib+k]'(by omega)):=List.getElem?_eq_getElem _
  rw [take_snoc hx,<- List.append_assoc]
  exact ab.kX ih hx (gv ab.sa hy (h k _ (by omega) hx))
theorem lg {l:List Nat} (h:l.Pairwise (P o)) (i:Nat):(l.drop i).Pairwise (P o):=h.sublist (List.drop_sublist ..)
theorem Mg.fin (ab:Ab o N A B) (m:Mg o A B hs ia ib) (h:∀ x∈A.drop ia,∀ y∈B.drop ib,P o x y):Res o f A B (fa f hs++(fa f A).extract ia A.length++(fa f B).extract ib B.length):=by
 rw [k_,k_,fF,fF]
 have la:=m.la
 have lb:=m.lb
 refine ⟨_,rfl,by rw [List.length_append,List.length_append,m.len,List.length_drop,List.length_drop];omega,?_,fun x hx=>?_⟩
 ·rw [List.pairwise_append,List.pairwise_append]
  refine ⟨⟨m.so,lg ab.sa _,m.ua⟩,lg ab.sb _,fun x hx y hy=>?_⟩
  rcases List.mem_append.mp hx with z | z
  ·exact m.ub x z y hy
  ·exact h x z y hy
 ·rcases List.mem_append.mp hx with z | z
  ·rcases List.mem_append.mp z with z | z
   ·exact m.mem x z
   ·exact .inl (List.mem_of_mem_drop z)
  ·exact .inr (List.mem_of_mem_drop z)
theorem Mg.Iq (ab:Ab o N A B) (m:Mg o A B hs ia ib) (h:∀ x∈A.drop ia,∀ y∈B.drop ib,P o y x):Res o f A B (fa f hs++(fa f B).extract ib B.length++(fa f A).extract ia A.length):=by
 rw [k_,k_,fF,fF]
 have la:=m.la
 have lb:=m.lb
 refine ⟨_,rfl,by rw [List.length_append,List.length_append,m.len,List.length_drop,List.length_drop];omega,?_,fun x hx=>?_⟩
 ·rw [List.pairwise_append,List.pairwise_append]
  refine ⟨⟨m.so,lg ab.sb _,m.ub⟩,lg ab.sa _,fun x hx y hy=>?_⟩
  rcases List.mem_append.mp hx with z | z
  ·exact m.ua x z y hy
  ·exact h y hy x z
 ·rcases List.mem_append.mp hx with z | z
  ·rcases List.mem_append.mp z with z | z
   ·exact m.mem x z
   ·exact .inr (List.mem_of_mem_drop z)
  ·exact .inl (List.mem_of_mem_drop z)
theorem drop_nil {l:List Nat} {i:Nat} (h:l.length<=i):l.drop i=[]:=List.drop_eq_nil_of_le h
theorem vJ {l:List Nat} (h:l.Pairwise (P o)) (b n:Nat) (hn:b+n<=l.length):So o (fun i=>l.getD (b+i) 0) 0 n:=fun i j _ hij hj=>
 iA h (i:=b+i) (j:=b+j) (by show _=some (l.getD (b+i) 0);rw [List.getD_eq_getElem?_getD,List.getElem?_eq_getElem (show b+i < l.length by omega)];rfl) (by show _=some (l.getD (b+j) 0);rw [List.getD_eq_getElem?_getD,List.getElem?_eq_getElem (show b+j < l.length by omega)];rfl) (by omega)
theorem getD_at {l:List Nat} {i:Nat} (h:i < l.length):l[i]?=some (l.getD i 0):=by
 rw [List.getD_eq_getElem?_getD,List.getElem?_eq_getElem h];rfl
end
structure Sm (st st':SortSt):Prop where
 a:arrOf st'=arrOf st
 k:kindOf st'=kindOf st
 p:pendingOf st'=pendingOf st
 f:failedOf st'=failedOf st
theorem Sm.refl {st:SortSt}:Sm st st:=⟨rfl,rfl,rfl,rfl⟩
theorem Sm.trans {st st' st'':SortSt} (a:Sm st st') (b:Sm st' st''):Sm st st'':=⟨b.a.trans a.a,b.k.trans a.k,b.p.trans a.p,b.f.trans a.f⟩
noncomputable abbrev G:=Option (Array Keyed)×Array Keyed×Nat×Nat×Nat×Nat×Nat
noncomputable def T3 (a b out:Array Keyed) (ia ib mg ac bc:Nat):StateT SortSt Sem (ForInStep G):=do
 let x <- elem' a ia
 if (ia+1+1 == a.size)=true then pure (ForInStep.done (some (out.push x++b.extract ib b.size++a.extract (ia+1) a.size),out.push x,ia+1,ib,mg,ac,bc))
 else if (decide (ac < 7) && decide (bc < 7))=true then pure (ForInStep.done (none,out.push x,ia+1,ib,mg,ac,bc))
 else pure (ForInStep.yield (none,out.push x,ia+1,ib,mg,ac,bc))
noncomputable def T2 (a b out:Array Keyed) (ia ib mg ac bc:Nat):StateT SortSt Sem (ForInStep G):=do
 let x <- elem' b ib
 if (ib+1 == b.size)=true then pure (ForInStep.done (some (out.push x++a.extract ia a.size++b.extract (ib+1) b.size),out.push x,ia,ib+1,mg,ac,bc))
 else
  let y <- elem' a ia
  let r <- cY true y b (ib+1) (b.size - (ib+1)) 0
  match r with
  | some k=>
   if k > 0 then
    if (ib+1+k == b.size)=true then pure (ForInStep.done (some (out.push x++b.extract (ib+1) (ib+1+k)++a.extract ia a.size++b.extract (ib+1+k) b.size),out.push x++b.extract (ib+1) (ib+1+k),ia,ib+1+k,mg,ac,k))
    else T3 a b (out.push x++b.extract (ib+1) (ib+1+k)) ia (ib+1+k) mg ac k
   else T3 a b (out.push x) ia (ib+1) mg ac k
  | _=>pure (ForInStep.done (some (out.push x++a.extract ia a.size++b.extract (ib+1) b.size),out.push x,ia,ib+1,mg,ac,bc))
noncomputable def T1 (a b out:Array Keyed) (ia ib mg ac bc:Nat):StateT SortSt Sem (ForInStep G):=do
 kF mg
 let x <- elem' b ib
 let r <- cY false x a ia (a.size - ia) 0
 match r with
 | some k=>
  if k > 0 then
   if (ia+k+1 == a.size)=true then pure (ForInStep.done (some (out++a.extract ia (ia+k)++b.extract ib b.size++a.extract (ia+k) a.size),out++a.extract ia (ia+k),ia+k,ib,mg,k,bc))
   else if (ia+k == a.size)=true then pure (ForInStep.done (some (out++a.extract ia (ia+k)++a.extract (ia+k) a.size++b.extract ib b.size),out++a.extract ia (ia+k),ia+k,ib,mg,k,bc))
   else T2 a b (out++a.extract ia (ia+k)) (ia+k) ib mg k bc
  else T2 a b out ia ib mg k bc
 | _=>pure (ForInStep.done (some (out++a.extract ia a.size++b.extract ib b.size),out,ia,ib,mg,ac,bc))
section
variable {prog:Program} {w:World} {A:Around} {E:Value->Shared->Prop} {s:Shared} {o:Ord} {N:Nat} {f:Nat->Keyed} {kd:SortKind} {st st0:SortSt} {X Y hs:List Nat} {ia ib:Nat}
theorem jz {m:Nat} (h:Sm st0 st) {Q:Unit->SortSt->Prop} (q:∀ st',Sm st0 st'->Q () st'):wpS (model prog w) A E s (kF m) Q st:=by
 rw [Dr];exact wpS_modify (q _ (h.trans ⟨rfl,rfl,rfl,rfl⟩))
noncomputable def On (o:Ord) (f:Nat->Keyed) (X Y:List Nat) (n:Nat) (hs:List Nat) (ia ib:Nat):Prop:=Mg o X Y hs ia ib/\ia+1 < X.length/\ib < Y.length/\n<=ia+ib
noncomputable def G2 (o:Ord) (f:Nat->Keyed) (X Y:List Nat) (n:Nat) (st0:SortSt):ForInStep G->SortSt->Prop:=fun r st'=>Sm st0 st'/\match r with
 | .done c=>(∃ r z,c=(some r,z)/\Res o f X Y r)\/∃ hs ia ib mg ac bc,c=(none,fa f hs,ia,ib,mg,ac,bc)/\On o f X Y n hs ia ib
 | .yield c=>∃ hs ia ib mg ac bc,c=(none,fa f hs,ia,ib,mg,ac,bc)/\On o f X Y n hs ia ib
noncomputable def Top (o:Ord) (X Y:List Nat):Prop:=∀ i x,X[i]?=some x->i+1=X.length->∀ y∈Y,P o y x
theorem M3 {α β γ δ κ:Type} {S:Prop} {g:α->β->γ->δ->κ} {O:α->β->γ->δ->Prop} {T:κ->Prop} (k:S->∀ a b c d,O a b c d->T (g a b c d)):∀ q,(S/\∃ a b c d,q=g a b c d/\O a b c d)->T q:=by
 rintro q ⟨s,a,b,c,d,rfl,o⟩;exact k s a b c d o
theorem M7 {α β γ δ ε κ:Type} {S:Prop} {g:α->β->γ->δ->ε->κ} {O:α->β->γ->δ->ε->Prop} {T:κ->Prop} (k:S->∀ a b c d e,O a b c d e->T (g a b c d e)):∀ q,(S/\∃ a b c d e,q=g a b c d e/\O a b c d e)->T q:=by
 rintro q ⟨s,a,b,c,d,e,rfl,o⟩;exact k s a b c d e o
theorem MR {α β γ δ ε ζ κ:Type} {S:Prop} {g:α->β->γ->δ->ε->ζ->κ} {O:α->β->γ->δ->ε->ζ->Prop} {T:κ->Prop} (k:S->∀ a b c d e f,O a b c d e f->T (g a b c d e f)):∀ q,(S/\∃ a b c d e f,q=g a b c d e f/\O a b c d e f)->T q:=by
 rintro q ⟨s,a,b,c,d,e,f,rfl,o⟩;exact k s a b c d e f o
theorem MT {α β γ δ ε κ ρ σ:Type} {S:Prop} {j:ρ->σ->κ} {R:ρ->Prop} {g:α->β->γ->δ->ε->κ} {O:α->β->γ->δ->ε->Prop} {T:κ->Prop} (k1:S->∀ r z,R r->T (j r z)) (k:S->∀ a b c d e,O a b c d e->T (g a b c d e)):∀ q,(S/\((∃ r z,q=j r z/\R r)\/∃ a b c d e,q=g a b c d e/\O a b c d e))->T q:=by
 rintro q ⟨s,⟨r,z,rfl,hr⟩ | ⟨a,b,c,d,e,rfl,o⟩⟩
 ·exact k1 s r z hr
 ·exact k s a b c d e o
theorem M5 {α β γ δ ε ζ κ ρ σ:Type} {S:Prop} {j:ρ->σ->κ} {R:ρ->Prop} {g:α->β->γ->δ->ε->ζ->κ} {O:α->β->γ->δ->ε->ζ->Prop} {T:κ->Prop} (k1:S->∀ r z,R r->T (j r z)) (k:S->∀ a b c d e f,O a b c d e f->T (g a b c d e f)):∀ q,(S/\((∃ r z,q=j r z/\R r)\/∃ a b c d e f,q=g a b c d e f/\O a b c d e f))->T q:=by
 rintro q ⟨s,⟨r,z,rfl,hr⟩ | ⟨a,b,c,d,e,f,rfl,o⟩⟩
 ·exact k1 s r z hr
 ·exact k s a b c d e f o
theorem jK (ab:Ab o N X Y) (tp:Top o X Y) (m:Mg o X Y hs ia ib) (h:ia+1=X.length):Res o f X Y (fa f hs++(fa f Y).extract ib Y.length++(fa f X).extract ia X.length):=
 m.Iq ab fun x hx y hy=>by
  obtain ⟨j,hj,ej⟩:=jI hx
  have:=(List.getElem?_eq_some_iff.mp ej).1
  exact tp j x ej (by omega) y (List.mem_of_mem_drop hy)
theorem FL (ab:Ab o N X Y) (tp:Top o X Y) (hm:Sm st0 st) {n mg ac bc x y:Nat} (m:Mg o X Y hs ia ib) (ha:ia+1 < X.length) (hb:ib < Y.length) (hn:n<=ia+ib) (hx:X[ia]?=some x) (hy:Y[ib]?=some y) (hxy:P o x y) :
  wpS (model prog w) A E s (T3 (fa f X) (fa f Y) (fa f hs) ia ib mg ac bc) (G2 o f X Y n st0) st:=by
 unfold T3
 simp only [iJ]
 refine wpS_bind (bf (c_ hx) ?_)
 have m2:=m.kI ab hx (gv ab.sb hy hxy)
 rw [jT]
 by_cases c:ia+1+1=X.length
 ·rw [if_pos (by rw [c];exact beq_self_eq_true _)]
  exact wpS_pure ⟨hm,.inl ⟨_,_,rfl,jK ab tp m2 c⟩⟩
 ·rw [if_neg (by simpa using c)]
  by_cases c2:(decide (ac < 7) && decide (bc < 7))=true
  ·rw [if_pos c2]
   exact wpS_pure ⟨hm,.inr ⟨_,_,_,_,_,_,rfl,m2,by omega,hb,by omega⟩⟩
  ·rw [if_neg c2]
   exact wpS_pure ⟨hm,⟨_,_,_,_,_,_,rfl,m2,by omega,hb,by omega⟩⟩
theorem Fx (C:oJ prog w A s o N f kd) (hk:kindOf st=kd) (ab:Ab o N X Y) (tp:Top o X Y) (hm:Sm st0 st) {n mg ac bc x y:Nat} (m:Mg o X Y hs ia ib) (ha:ia+1 < X.length) (hb:ib < Y.length) (hn:n<=ia+ib) (hx:X[ia]?=some x) (hy:Y[ib]?=some y) (hxy:P o y x) :
  wpS (model prog w) A E s (T2 (fa f X) (fa f Y) (fa f hs) ia ib mg ac bc) (G2 o f X Y n st0) st:=by
 unfold T2
 simp only [iJ]
 refine wpS_bind (bf (c_ hy) ?_)
 have m2:=ab.kX m hy (gv ab.sa hx hxy)
 rw [jT]
 by_cases c:ib+1=Y.length
 ·rw [if_pos (by rw [c];exact beq_self_eq_true _)]
  exact wpS_pure ⟨hm,.inl ⟨_,_,rfl,m2.fin ab fun x _ y hy=>by rw [drop_nil (by omega)] at hy;cases hy⟩⟩
 ·rw [if_neg (by simpa using c)]
  refine wpS_bind (bf (c_ hx) ?_)
  refine wpS_bind (CY C hk (h:=fun i=>Y.getD (ib+1+i) 0) (fun i hi=>c_ (getD_at (by omega))) (fun i hi=>?_) (vJ ab.sb _ _ (by omega)) (by omega) fun k k1 k2 k3=>?_)
  ·have:=List.mem_of_getElem? (getD_at (l:=Y) (i:=ib+1+i) (by omega))
   exact ⟨ab.lt x (List.mem_of_getElem? hx) _ this,ab.nb _ this⟩
  ·dsimp only
   have m3:=m2.nB ab hx k (by omega) fun i z hi ez=>by
    have:=k2 i hi
    rw [List.getD_eq_getElem?_getD,ez] at this
    exact this
   by_cases c2:k > 0
   ·rw [if_pos c2,kg,show ib+1+k - (ib+1)=k by omega,fF]
    by_cases c3:ib+1+k=Y.length
    ·rw [if_pos (by rw [c3];exact beq_self_eq_true _)]
     exact wpS_pure ⟨hm,.inl ⟨_,_,rfl,m3.fin ab fun x _ y hy=>by rw [drop_nil (by omega)] at hy;cases hy⟩⟩
    ·rw [if_neg (by simpa using c3)]
     exact FL ab tp hm m3 ha (by omega) (by omega) hx (getD_at (by omega)) (k3 k (Nat.le_refl _) (by omega))
   ·rw [if_neg c2]
    have:k=0:=by omega
    subst this
    exact FL ab tp hm m2 ha (by omega) (by omega) hx (getD_at (by omega)) (k3 0 (Nat.le_refl _) (by omega))
theorem KN (C:oJ prog w A s o N f kd) (hk:kindOf st0=kd) (ab:Ab o N X Y) (tp:Top o X Y) (hm:Sm st0 st) {n mg ac bc:Nat} (m:Mg o X Y hs ia ib) (ha:ia+1 < X.length) (hb:ib < Y.length) (hn:n<=ia+ib) :
  wpS (model prog w) A E s (T1 (fa f X) (fa f Y) (fa f hs) ia ib mg ac bc) (G2 o f X Y n st0) st:=by
 unfold T1
 simp only [iJ]
 refine wpS_bind (jz hm fun st1 hm1=>?_)
 have hy:=getD_at (l:=Y) (i:=ib) hb
 have yB:=List.mem_of_getElem? hy
 refine wpS_bind (bf (c_ hy) ?_)
 refine wpS_bind (Af C (by rw [hm1.k];exact hk) (h:=fun i=>X.getD (ia+i) 0) (fun i hi=>c_ (getD_at (by omega))) (fun i hi=>ab.lt _ (List.mem_of_getElem? (getD_at (l:=X) (i:=ia+i) (by omega))) _ yB) (ab.nb _ yB) (vJ ab.sa _ _ (by omega)) (by omega) fun k k1 k2 k3=>?_)
 dsimp only
 have m3:=m.mW ab hy k (by omega) fun i z hi ez=>by
  have:=k2 i hi
  rw [List.getD_eq_getElem?_getD,ez] at this
  exact this
 by_cases c2:k > 0
 ·rw [if_pos c2,kg,show ia+k - ia=k by omega,fF]
  by_cases c3:ia+k+1=X.length
  ·rw [if_pos (by rw [c3];exact beq_self_eq_true _)]
   exact wpS_pure ⟨hm1,.inl ⟨_,_,rfl,jK ab tp m3 c3⟩⟩
  ·rw [if_neg (by simpa using c3)]
   by_cases c4:ia+k=X.length
   ·rw [if_pos (by rw [c4];exact beq_self_eq_true _)]
    exact wpS_pure ⟨hm1,.inl ⟨_,_,rfl,m3.fin ab fun x hx y _=>by rw [drop_nil (by omega)] at hx;cases hx⟩⟩
   ·rw [if_neg (by simpa using c4)]
    exact Fx C (by rw [hm1.k];exact hk) ab tp hm1 m3 (by omega) hb (by omega) (getD_at (by omega)) hy (k3 k (Nat.le_refl _) (by omega))
 ·rw [if_neg c2]
  have:k=0:=by omega
  subst this
  exact Fx C (by rw [hm1.k];exact hk) ab tp hm1 m ha hb hn (getD_at (by omega)) hy (k3 0 (Nat.le_refl _) (by omega))
theorem JJ (C:oJ prog w A s o N f kd) (hk:kindOf st=kd) (ab:Ab o N X Y) (tp:Top o X Y) (h1:1<=X.length) {y0:Nat} (hy0:Y[0]?=some y0) (h0:∀ x∈X,P o y0 x)
  {Q:Array Keyed->SortSt->Prop} (q:∀ out st',Sm st st'->Res o f X Y out->Q out st'):wpS (model prog w) A E s (nO (fa f X) (fa f Y)) Q st:=by
 rw [tF]
 refine wpS_bind (wpS_lift (wpAny_rule ⟨rfl,?_⟩))
 dsimp only
 simp only [iJ]
 have hY:=(List.getElem?_eq_some_iff.mp hy0).1
 refine wpS_bind (bf (c_ hy0) ?_)
 have m0:Mg o X Y [] 0 0:=⟨Nat.zero_le _,Nat.zero_le _,rfl,List.Pairwise.nil,(fun _ h=>nomatch h),(fun _ h=>nomatch h),(fun _ h=>nomatch h)⟩
 have m1:Mg o X Y [y0] 0 1:=ab.kX m0 hy0 h0
 have e1:(#[f y0]:Array Keyed)=fa f [y0]:=rfl
 rw [e1]
 by_cases c:1=Y.length
 ·rw [if_pos (by rw [<- c];rfl)]
  exact wpS_pure (q _ _ Sm.refl (m1.fin ab fun x _ y hy=>by rw [drop_nil (by omega)] at hy;cases hy))
 ·rw [if_neg (by simpa using c)]
  by_cases c2:0+1=X.length
  ·rw [if_pos (by rw [<- c2];rfl)]
   exact wpS_pure (q _ _ Sm.refl (jK ab tp m1 c2))
  ·rw [if_neg (by simpa using c2)]
   refine wpS_bind (wpS_get ?_)
   refine wpS_bind (wpS_mono (wpS_forRange (I:=fun x c st'=>Sm st st'/\∃ hs ia ib mg,c=(none,fa f hs,ia,ib,mg)/\On o f X Y (x+1) hs ia ib)
    (Q:=fun c st'=>Sm st st'/\∃ r z,c=(some r,z)/\Res o f X Y r) ?step ?fin ⟨Sm.refl,_,_,_,_,rfl,m1,by omega,by omega,Nat.le_refl _⟩) ?post)
   case post=>
    rintro c st' ⟨hm,r,z,rfl,hr⟩
    exact wpS_pure (q _ _ hm hr)
   case fin=>
    rintro c st' ⟨hm,hs,ia,ib,mg,rfl,m,a1,a2,a3⟩
    exfalso
    omega
   case step=>
    intro x c st' _ hx hh
    revert hh;revert c
    refine M3 fun hm hs ia ib mg ho=>?_
    have m:=ho.1;have a1:=ho.2.1;have a2:=ho.2.2.1;have a3:=ho.2.2.2
    clear ho
    dsimp only
    refine wpS_bind (wpS_mono (wpS_forRange (I:=fun x' c st''=>Sm st st''/\∃ hs ia ib ac bc,c=(none,fa f hs,ia,ib,ac,bc)/\On o f X Y (x+1+min x' 1) hs ia ib)
     (Q:=fun c st''=>Sm st st''/\((∃ r z,c=(some r,z)/\Res o f X Y r)\/∃ hs ia ib ac bc,c=(none,fa f hs,ia,ib,ac,bc)/\On o f X Y (x+1+1) hs ia ib)) ?istep ?ifin ⟨hm,_,_,_,_,_,rfl,m,a1,a2,a3⟩) ?ipost)
    case ifin=>
     rintro c st'' ⟨hm',hs,ia,ib,ac,bc,rfl,m,a1,a2,a3⟩
     exact ⟨hm',.inr ⟨_,_,_,_,_,rfl,m,a1,a2,by omega⟩⟩
    case istep=>
     intro x' c st'' _ hx' hh
     revert hh;revert c
     refine M7 fun hm' hs ia ib ac bc ho=>?_
     have m:=ho.1;have a1:=ho.2.1;have a2:=ho.2.2.1;have a3:=ho.2.2.2
     clear ho
     dsimp only
     have hy:=getD_at (l:=Y) (i:=ib) a2
     have hxx:=getD_at (l:=X) (i:=ia) (by omega)
     have yB:=List.mem_of_getElem? hy
     have xA:=List.mem_of_getElem? hxx
     have lt:=ab.lt _ xA _ yB
     refine wpS_bind (bf (c_ hy) ?_)
     refine wpS_bind (bf (c_ hxx) ?_)
     refine wpS_bind (lU C (by rw [hm'.k];exact hk) (ab.nb _ yB) (ab.na _ xA) ?_)
     cases hl:o.lt (Y.getD ib 0) (X.getD ia 0)
     ·simp only [Bool.false_eq_true,if_false]
      refine wpS_bind (bf (c_ hxx) ?_)
      have m2:=m.kI ab hxx (gv ab.sb hy (P.kO hl lt))
      rw [jT]
      by_cases c3:ia+1+1=X.length
      ·rw [if_pos (by rw [c3];exact beq_self_eq_true _)]
       exact wpS_pure ⟨hm',.inl ⟨_,_,rfl,jK ab tp m2 c3⟩⟩
      ·rw [if_neg (by simpa using c3)]
       by_cases c4:ac+1>=mg
       ·rw [if_pos c4]
        exact wpS_pure ⟨hm',.inr ⟨_,_,_,_,_,rfl,m2,by omega,a2,by omega⟩⟩
       ·rw [if_neg c4]
        exact wpS_pure ⟨hm',_,_,_,_,_,rfl,m2,by omega,a2,by omega⟩
     ·simp only [if_true]
      refine wpS_bind (bf (c_ hy) ?_)
      have m2:=ab.kX m hy (gv ab.sa hxx (P.of_lt hl))
      rw [jT]
      by_cases c3:ib+1=Y.length
      ·rw [if_pos (by rw [c3];exact beq_self_eq_true _)]
       exact wpS_pure ⟨hm',.inl ⟨_,_,rfl,m2.fin ab fun x _ y hy=>by rw [drop_nil (by omega)] at hy;cases hy⟩⟩
      ·rw [if_neg (by simpa using c3)]
       by_cases c4:bc+1>=mg
       ·rw [if_pos c4]
        exact wpS_pure ⟨hm',.inr ⟨_,_,_,_,_,rfl,m2,a1,by omega,by omega⟩⟩
       ·rw [if_neg c4]
        exact wpS_pure ⟨hm',_,_,_,_,_,rfl,m2,a1,by omega,by omega⟩
    case ipost=>
     intro c st'' hh
     revert hh;revert c
     refine MT (fun hm' r z hr=>?_) fun hm' hs ia ib ac bc ho=>?_
     ·dsimp only
      exact wpS_pure ⟨hm',r,_,rfl,hr⟩
     ·have m:=ho.1;have a1:=ho.2.1;have a2:=ho.2.2.1;have a3:=ho.2.2.2
      clear ho
      dsimp only
      refine wpS_bind (wpS_lift (wpAny_rule ⟨rfl,?_⟩))
      refine wpS_bind (wpS_mono (wpS_forRange (I:=fun x' c st''=>Sm st st''/\∃ hs ia ib mg ac bc,c=(none,fa f hs,ia,ib,mg,ac,bc)/\On o f X Y (x+1+1) hs ia ib)
       (Q:=fun c st''=>Sm st st''/\((∃ r z,c=(some r,z)/\Res o f X Y r)\/∃ hs ia ib mg ac bc,c=(none,fa f hs,ia,ib,mg,ac,bc)/\On o f X Y (x+1+1) hs ia ib)) ?jstep ?jfin ⟨hm',_,_,_,_,_,_,rfl,m,a1,a2,a3⟩) ?jpost)
      case jfin=>
       rintro c st3 ⟨hm3,hh⟩
       exact ⟨hm3,.inr hh⟩
      case jstep=>
       intro x' c st3 _ hx' hh
       revert hh;revert c
       refine MR fun hm3 hs ia ib mg ac bc ho=>?_
       have m:=ho.1;have a1:=ho.2.1;have a2:=ho.2.2.1;have a3:=ho.2.2.2
       clear ho
       dsimp only
       have t1:=fun mg=>KN (n:=x+1+1) (mg:=mg) (ac:=ac) (bc:=bc) (E:=E) C hk ab tp hm3 m a1 a2 a3
       unfold T1 T2 T3 at t1
       simp only [iJ] at t1
       refine wpS_mono (Q:=G2 o f X Y (x+1+1) st) ?_ ?_
       ·by_cases c3:mg > 1
        ·rw [if_pos c3]
         exact t1 (mg - 1)
        ·rw [if_neg c3]
         exact t1 mg
       ·rintro r st4 ⟨hm4,hr⟩
        cases r with
        | done c=>exact ⟨hm4,hr⟩
        | yield c=>exact ⟨hm4,hr⟩
      case jpost=>
       intro c st3 hh
       revert hh;revert c
       refine M5 (fun hm3 r z hr=>?_) fun hm3 hs ia ib mg ac bc ho=>?_
       ·dsimp only
        exact wpS_pure ⟨hm3,r,_,rfl,hr⟩
       ·have m:=ho.1;have a1:=ho.2.1;have a2:=ho.2.2.1;have a3:=ho.2.2.2
        clear ho
        dsimp only
        refine wpS_bind (jz hm3 fun st4 hm4=>?_)
        exact wpS_pure ⟨hm4,_,_,_,_,rfl,m,a1,a2,a3⟩
end
theorem um (a b:Array Keyed):nE a b=(do
 rule "list.sort.merge-hi"
 let all_:=a.size+b.size
 let end1 (acc:Array Keyed) (p q:Nat):=a.extract 0 p++b.extract 0 q++acc.reverse
 let end2 (acc:Array Keyed) (p q:Nat):=b.extract 0 q++a.extract 0 p++acc.reverse
 let mut p:=a.size - 1
 let mut q:=b.size
 let mut acc:Array Keyed:=#[<- elem' a p]
 if p == 0 then return end1 acc p q
 if q == 1 then return end2 acc p q
 let mut mg:=gallopOf (<- get)
 for _ in [0:all_] do
  let mut ca:=0
  let mut cb:=0
  for _ in [0:all_] do
   let some won <- lt' (<- elem' b (q - 1)) (<- elem' a (p - 1)) | return end1 acc p q
   if won then
    p:=p - 1;acc:=acc.push (<- elem' a p);ca:=ca+1;cb:=0
    if p == 0 then return end1 acc p q
    if ca>=mg then break
   else
    q:=q - 1;acc:=acc.push (<- elem' b q);cb:=cb+1;ca:=0
    if q == 1 then return end2 acc p q
    if cb>=mg then break
  rule "list.sort.gallop"
  mg:=mg+1
  for _ in [0:all_] do
   if mg > 1 then mg:=mg - 1
   kF mg
   let some t <- cY false (<- elem' b (q - 1)) a 0 p (p - 1) | return end1 acc p q
   let k:=p - t
   ca:=k
   if k > 0 then
    acc:=acc++(a.extract t p).reverse;p:=t
    if p == 0 then return end1 acc p q
   q:=q - 1;acc:=acc.push (<- elem' b q)
   if q == 1 then return end2 acc p q
   let some t <- cY true (<- elem' a (p - 1)) b 0 q (q - 1) | return end1 acc p q
   let k:=q - t
   cb:=k
   if k > 0 then
    acc:=acc++(b.extract t q).reverse;q:=t
    if q == 1 then return end2 acc p q
    if q == 0 then return end1 acc p q
   p:=p - 1;acc:=acc.push (<- elem' a p)
   if p == 0 then return end1 acc p q
   if ca < 7 && cb < 7 then break
  mg:=mg+1
  kF mg
 unsupported "internal:list.sort.merge-bound"):=rfl
section
variable {o:Ord} {N:Nat} {f:Nat->Keyed} {A B ts:List Nat} {na nb:Nat}
theorem Br (l:List Nat):(fa f l).reverse=fa f l.reverse:=by
 unfold fa;rw [List.reverse_toArray,List.map_reverse]
theorem kT (l:List Nat) (i:Nat):(fa f l).extract 0 i=fa f (l.take i):=by
 rw [kg,List.drop_zero,Nat.sub_zero]
structure Mh (o:Ord) (A B ts:List Nat) (na nb:Nat):Prop where
 la:na<=A.length
 lb:nb<=B.length
 len:ts.length+na+nb=A.length+B.length
 so:ts.Pairwise (P o)
 mem:∀ x∈ts,x∈A\/x∈B
 ua:∀ y∈A.take na,∀ x∈ts,P o y x
 ub:∀ y∈B.take nb,∀ x∈ts,P o y x
theorem jC {l:List Nat} {i y:Nat} (h:y∈l.take i):∃ j,j < i/\l[j]?=some y:=by
 obtain ⟨k,hk⟩:=List.getElem?_of_mem h
 have:=(List.getElem?_eq_some_iff.mp hk).1
 rw [List.length_take] at this
 rw [List.getElem?_take_of_lt (by omega)] at hk
 exact ⟨k,by omega,hk⟩
theorem take_one {l:List Nat} {i x:Nat} (h:l[i]?=some x):l.take (i+1)=l.take i++[x]:=by
 obtain ⟨h1,e1⟩:=List.getElem?_eq_some_iff.mp h
 rw [List.take_succ_eq_append_getElem h1,e1]
theorem Mh.kI (ab:Ab o N A B) (m:Mh o A B ts (na+1) nb) {x:Nat} (hx:A[na]?=some x) (h:∀ y∈B.take nb,P o y x):Mh o A B (x::ts) na nb:=by
 have la:=m.la
 have len:=m.len
 have ht:=take_one hx
 have xin:x∈A.take (na+1):=by rw [ht];exact List.mem_append_right _ (List.mem_singleton.mpr rfl)
 refine ⟨by omega,m.lb,by rw [List.length_cons];omega,List.pairwise_cons.mpr ⟨fun y hy=>m.ua x xin y hy,m.so⟩,fun z hz=>?_,fun y hy z hz=>?_,fun y hy z hz=>?_⟩
 ·rcases List.mem_cons.mp hz with rfl | z'
  ·exact .inl (List.mem_of_getElem? hx)
  ·exact m.mem z z'
 ·rcases List.mem_cons.mp hz with rfl | z'
  ·obtain ⟨j,hj,ej⟩:=jC hy
   exact iA ab.sa ej hx hj
  ·exact m.ua y (by rw [ht];exact List.mem_append_left _ hy) z z'
 ·rcases List.mem_cons.mp hz with rfl | z'
  ·exact h y hy
  ·exact m.ub y hy z z'
theorem Mh.Cn (ab:Ab o N A B) (m:Mh o A B ts na (nb+1)) {x:Nat} (hx:B[nb]?=some x) (h:∀ y∈A.take na,P o y x):Mh o A B (x::ts) na nb:=by
 have lb:=m.lb
 have len:=m.len
 have ht:=take_one hx
 have xin:x∈B.take (nb+1):=by rw [ht];exact List.mem_append_right _ (List.mem_singleton.mpr rfl)
 refine ⟨m.la,by omega,by rw [List.length_cons];omega,List.pairwise_cons.mpr ⟨fun y hy=>m.ub x xin y hy,m.so⟩,fun z hz=>?_,fun y hy z hz=>?_,fun y hy z hz=>?_⟩
 ·rcases List.mem_cons.mp hz with rfl | z'
  ·exact .inr (List.mem_of_getElem? hx)
  ·exact m.mem z z'
 ·rcases List.mem_cons.mp hz with rfl | z'
  ·exact h y hy
  ·exact m.ua y hy z z'
 ·rcases List.mem_cons.mp hz with rfl | z'
  ·obtain ⟨j,hj,ej⟩:=jC hy
   exact iA ab.sb ej hx hj
  ·exact m.ub y (by rw [ht];exact List.mem_append_left _ hy) z z'
theorem gC {l:List Nat} (h:l.Pairwise (P o)) {i x y:Nat} (hx:l[i]?=some x) (hxy:P o x y):∀ z∈l.take (i+1),P o z y:=fun z hz=>by
 obtain ⟨j,hj,ej⟩:=jC hz
 by_cases c:j=i
 ·subst c;rw [hx] at ej;cases ej;exact hxy
 ·exact (iA h ej hx (by omega)).trans hxy
theorem Mh.mW (ab:Ab o N A B) {y:Nat} {mb:Nat} (hy:B[mb]?=some y):∀ (k:Nat) {ts:List Nat} {at_:Nat},Mh o A B ts (at_+k) (mb+1)->(∀ i x,at_<=i->i < at_+k->A[i]?=some x->P o y x)->Mh o A B ((A.drop at_).take k++ts) at_ (mb+1)
 | 0,ts,at_,m,_=>by rw [List.take_zero];exact m
 | k+1,ts,at_,m,h=>by
  have la:=m.la
  have hx:A[at_+k]?=some (A[at_+k]'(by omega)):=List.getElem?_eq_getElem _
  have m2:=Mh.kI ab (show Mh o A B ts (at_+k+1) (mb+1) from m) hx (gC ab.sb hy (h _ _ (by omega) (by omega) hx))
  have m3:=Mh.mW ab hy k m2 fun i x h1 h2=>h i x h1 (by omega)
  rw [take_snoc hx,List.append_assoc]
  exact m3
theorem Mh.nB (ab:Ab o N A B) {y:Nat} {ma:Nat} (hy:A[ma]?=some y):∀ (k:Nat) {ts:List Nat} {at_:Nat},Mh o A B ts (ma+1) (at_+k)->(∀ i x,at_<=i->i < at_+k->B[i]?=some x->P o y x)->Mh o A B ((B.drop at_).take k++ts) (ma+1) at_
 | 0,ts,at_,m,_=>by rw [List.take_zero];exact m
 | k+1,ts,at_,m,h=>by
  have lb:=m.lb
  have hx:B[at_+k]?=some (B[at_+k]'(by omega)):=List.getElem?_eq_getElem _
  have m2:=Mh.Cn ab (show Mh o A B ts (ma+1) (at_+k+1) from m) hx (gC ab.sa hy (h _ _ (by omega) (by omega) hx))
  have m3:=Mh.nB ab hy k m2 fun i x h1 h2=>h i x h1 (by omega)
  rw [take_snoc hx,List.append_assoc]
  exact m3
theorem lz {l:List Nat} (h:l.Pairwise (P o)) (i:Nat):(l.take i).Pairwise (P o):=h.sublist (List.take_sublist ..)
theorem Mh.fin (ab:Ab o N A B) (m:Mh o A B ts na nb) (h:∀ x∈A.take na,∀ y∈B.take nb,P o x y):Res o f A B ((fa f A).extract 0 na++(fa f B).extract 0 nb++fa f ts):=by
 rw [kT,kT,fF,fF]
 have la:=m.la
 have lb:=m.lb
 have len:=m.len
 refine ⟨_,rfl,by rw [List.length_append,List.length_append,List.length_take,List.length_take];omega,?_,fun x hx=>?_⟩
 ·rw [List.pairwise_append,List.pairwise_append]
  refine ⟨⟨lz ab.sa _,lz ab.sb _,h⟩,m.so,fun x hx y hy=>?_⟩
  rcases List.mem_append.mp hx with z | z
  ·exact m.ua x z y hy
  ·exact m.ub x z y hy
 ·rcases List.mem_append.mp hx with z | z
  ·rcases List.mem_append.mp z with z | z
   ·exact .inl (List.mem_of_mem_take z)
   ·exact .inr (List.mem_of_mem_take z)
  ·exact m.mem x z
theorem Mh.Iq (ab:Ab o N A B) (m:Mh o A B ts na nb) (h:∀ x∈A.take na,∀ y∈B.take nb,P o y x):Res o f A B ((fa f B).extract 0 nb++(fa f A).extract 0 na++fa f ts):=by
 rw [kT,kT,fF,fF]
 have la:=m.la
 have lb:=m.lb
 have len:=m.len
 refine ⟨_,rfl,by rw [List.length_append,List.length_append,List.length_take,List.length_take];omega,?_,fun x hx=>?_⟩
 ·rw [List.pairwise_append,List.pairwise_append]
  refine ⟨⟨lz ab.sb _,lz ab.sa _,fun x hx y hy=>h y hy x hx⟩,m.so,fun x hx y hy=>?_⟩
  rcases List.mem_append.mp hx with z | z
  ·exact m.ub x z y hy
  ·exact m.ua x z y hy
 ·rcases List.mem_append.mp hx with z | z
  ·rcases List.mem_append.mp z with z | z
   ·exact .inr (List.mem_of_mem_take z)
   ·exact .inl (List.mem_of_mem_take z)
  ·exact m.mem x z
noncomputable def J8 (o:Ord) (X Y:List Nat):Prop:=∀ y,Y[0]?=some y->∀ x∈X,P o y x
theorem iP (ab:Ab o N A B) (bt:J8 o A B) (m:Mh o A B ts na nb) (h:nb=1):Res o f A B ((fa f B).extract 0 nb++(fa f A).extract 0 na++fa f ts):=
 m.Iq ab fun x hx y hy=>by
  obtain ⟨j,hj,ej⟩:=jC hy
  have:j=0:=by omega
  subst this
  exact bt y ej x (List.mem_of_mem_take hx)
theorem Mh.qV (ab:Ab o N A B) (m:Mh o A B ts na nb) (h:na=0\/nb=0):Res o f A B ((fa f A).extract 0 na++(fa f B).extract 0 nb++fa f ts):=
 m.fin ab fun x hx y hy=>by
  rcases h with rfl | rfl
  ·rw [List.take_zero] at hx;cases hx
  ·rw [List.take_zero] at hy;cases hy
theorem lN (l:List Nat) (x:Nat):(fa f l.reverse).push (f x)=fa f (x::l).reverse:=by rw [jT,List.reverse_cons]
theorem CA (l m:List Nat):fa f l.reverse++(fa f m).reverse=fa f (m++l).reverse:=by rw [Br,fF,List.reverse_append]
theorem jd (l:List Nat):(fa f l.reverse).reverse=fa f l:=by rw [Br,List.reverse_reverse]
end
noncomputable abbrev H:=Option (Array Keyed)×Nat×Nat×Array Keyed×Nat×Nat×Nat
noncomputable def U3 (a b out:Array Keyed) (na nb mg ac bc:Nat):StateT SortSt Sem (ForInStep H):=do
 let x <- elem' a (na - 1)
 if (na - 1 == 0)=true then pure (ForInStep.done (some (a.extract 0 (na - 1)++b.extract 0 nb++(out.push x).reverse),na - 1,nb,out.push x,mg,ac,bc))
 else if (decide (ac < 7) && decide (bc < 7))=true then pure (ForInStep.done (none,na - 1,nb,out.push x,mg,ac,bc))
 else pure (ForInStep.yield (none,na - 1,nb,out.push x,mg,ac,bc))
noncomputable def U2 (a b out:Array Keyed) (na nb mg ac bc:Nat):StateT SortSt Sem (ForInStep H):=do
 let x <- elem' b (nb - 1)
 if (nb - 1 == 1)=true then pure (ForInStep.done (some (b.extract 0 (nb - 1)++a.extract 0 na++(out.push x).reverse),na,nb - 1,out.push x,mg,ac,bc))
 else
  let y <- elem' a (na - 1)
  let r <- cY true y b 0 (nb - 1) (nb - 1 - 1)
  match r with
  | some t=>
   if nb - 1 - t > 0 then
    if (t == 1)=true then pure (ForInStep.done (some (b.extract 0 t++a.extract 0 na++(out.push x++(b.extract t (nb - 1)).reverse).reverse),na,t,out.push x++(b.extract t (nb - 1)).reverse,mg,ac,nb - 1 - t))
    else if (t == 0)=true then pure (ForInStep.done (some (a.extract 0 na++b.extract 0 t++(out.push x++(b.extract t (nb - 1)).reverse).reverse),na,t,out.push x++(b.extract t (nb - 1)).reverse,mg,ac,nb - 1 - t))
    else U3 a b (out.push x++(b.extract t (nb - 1)).reverse) na t mg ac (nb - 1 - t)
   else U3 a b (out.push x) na (nb - 1) mg ac (nb - 1 - t)
  | _=>pure (ForInStep.done (some (a.extract 0 na++b.extract 0 (nb - 1)++(out.push x).reverse),na,nb - 1,out.push x,mg,ac,bc))
noncomputable def U1 (a b out:Array Keyed) (na nb mg ac bc:Nat):StateT SortSt Sem (ForInStep H):=do
 kF mg
 let x <- elem' b (nb - 1)
 let r <- cY false x a 0 na (na - 1)
 match r with
 | some t=>
  if na - t > 0 then
   if (t == 0)=true then pure (ForInStep.done (some (a.extract 0 t++b.extract 0 nb++(out++(a.extract t na).reverse).reverse),t,nb,out++(a.extract t na).reverse,mg,na - t,bc))
   else U2 a b (out++(a.extract t na).reverse) t nb mg (na - t) bc
  else U2 a b out na nb mg (na - t) bc
 | _=>pure (ForInStep.done (some (a.extract 0 na++b.extract 0 nb++out.reverse),na,nb,out,mg,ac,bc))
section
variable {prog:Program} {w:World} {A:Around} {E:Value->Shared->Prop} {s:Shared} {o:Ord} {N:Nat} {f:Nat->Keyed} {kd:SortKind} {st st0:SortSt} {X Y ts:List Nat} {na nb:Nat}
noncomputable def Oh (o:Ord) (X Y:List Nat) (n:Nat) (ts:List Nat) (na nb:Nat):Prop:=Mh o X Y ts na nb/\1<=na/\2<=nb/\na+nb+n<=X.length+Y.length
noncomputable def H2 (o:Ord) (f:Nat->Keyed) (X Y:List Nat) (n:Nat) (st0:SortSt):ForInStep H->SortSt->Prop:=fun r st'=>Sm st0 st'/\match r with
 | .done c=>(∃ r z,c=(some r,z)/\Res o f X Y r)\/∃ ts na nb mg ac bc,c=(none,na,nb,fa f ts.reverse,mg,ac,bc)/\Oh o X Y n ts na nb
 | .yield c=>∃ ts na nb mg ac bc,c=(none,na,nb,fa f ts.reverse,mg,ac,bc)/\Oh o X Y n ts na nb
theorem Fi (ab:Ab o N X Y) (hm:Sm st0 st) {n mg ac bc x y:Nat} (m:Mh o X Y ts (na+1) (nb+1)) (hb:1<=nb) (hn:na+1+(nb+1)+n<=X.length+Y.length) (hx:X[na]?=some x) (hy:Y[nb]?=some y) (hxy:P o y x) :
  wpS (model prog w) A E s (U3 (fa f X) (fa f Y) (fa f ts.reverse) (na+1) (nb+1) mg ac bc) (H2 o f X Y n st0) st:=by
 unfold U3
 rw [show na+1 - 1=na by omega]
 refine wpS_bind (bf (c_ hx) ?_)
 have m2:=m.kI ab hx (gC ab.sb hy hxy)
 rw [lN,jd]
 by_cases c:na=0
 ·rw [if_pos (by rw [c];rfl)]
  exact wpS_pure ⟨hm,.inl ⟨_,_,rfl,m2.qV ab (.inl c)⟩⟩
 ·rw [if_neg (by simpa using c)]
  by_cases c2:(decide (ac < 7) && decide (bc < 7))=true
  ·rw [if_pos c2]
   exact wpS_pure ⟨hm,.inr ⟨_,_,_,_,_,_,rfl,m2,by omega,by omega,by omega⟩⟩
  ·rw [if_neg c2]
   exact wpS_pure ⟨hm,⟨_,_,_,_,_,_,rfl,m2,by omega,by omega,by omega⟩⟩
theorem Gk (C:oJ prog w A s o N f kd) (hk:kindOf st=kd) (ab:Ab o N X Y) (bt:J8 o X Y) (hm:Sm st0 st) {n mg ac bc x y:Nat} (m:Mh o X Y ts (na+1) (nb+1)) (hb:1<=nb) (hn:na+1+(nb+1)+n<=X.length+Y.length) (hx:X[na]?=some x) (hy:Y[nb]?=some y) (hxy:P o x y) :
  wpS (model prog w) A E s (U2 (fa f X) (fa f Y) (fa f ts.reverse) (na+1) (nb+1) mg ac bc) (H2 o f X Y n st0) st:=by
 unfold U2
 rw [show nb+1 - 1=nb by omega,show na+1 - 1=na by omega]
 refine wpS_bind (bf (c_ hy) ?_)
 have m2:=m.Cn ab hy (gC ab.sa hx hxy)
 have lb:=m.lb
 rw [lN,jd]
 by_cases c:nb=1
 ·rw [if_pos (by rw [c];rfl)]
  exact wpS_pure ⟨hm,.inl ⟨_,_,rfl,iP ab bt m2 c⟩⟩
 ·rw [if_neg (by simpa using c)]
  refine wpS_bind (bf (c_ hx) ?_)
  refine wpS_bind (CY C hk (h:=fun i=>Y.getD (0+i) 0) (fun i hi=>c_ (getD_at (by omega))) (fun i hi=>?_) (vJ ab.sb _ _ (by omega)) (by omega) fun t t1 t2 t3=>?_)
  ·have:=List.mem_of_getElem? (getD_at (l:=Y) (i:=0+i) (by omega))
   exact ⟨ab.lt x (List.mem_of_getElem? hx) _ this,ab.nb _ this⟩
  ·dsimp only
   have m3:=Mh.nB ab hx (nb - t) (at_:=t) (by rw [show t+(nb - t)=nb by omega];exact m2) fun i z hi1 hi2 ez=>by
    have:=t3 i hi1 (by omega)
    rw [Nat.zero_add,List.getD_eq_getElem?_getD (l:=Y),ez] at this
    exact this
   by_cases c2:nb - t > 0
   ·rw [if_pos c2,kg Y t nb,CA,jd]
    by_cases c3:t=1
    ·rw [if_pos (by rw [c3];rfl)]
     exact wpS_pure ⟨hm,.inl ⟨_,_,rfl,iP ab bt m3 c3⟩⟩
    ·rw [if_neg (by simpa using c3)]
     by_cases c4:t=0
     ·rw [if_pos (by rw [c4];rfl)]
      exact wpS_pure ⟨hm,.inl ⟨_,_,rfl,m3.qV ab (.inr c4)⟩⟩
     ·rw [if_neg (by simpa using c4)]
      obtain ⟨u,rfl⟩:∃ u,t=u+1:=⟨t - 1,by omega⟩
      have:=t2 u (by omega)
      rw [Nat.zero_add] at this
      exact Fi ab hm m3 (by omega) (by omega) hx (getD_at (by omega)) this
   ·rw [if_neg c2]
    have:t=nb:=by omega
    subst this
    obtain ⟨u,rfl⟩:∃ u,t=u+1:=⟨t - 1,by omega⟩
    have:=t2 u (by omega)
    rw [Nat.zero_add] at this
    exact Fi ab hm m2 (by omega) (by omega) hx (getD_at (by omega)) this
theorem K7 (C:oJ prog w A s o N f kd) (hk:kindOf st0=kd) (ab:Ab o N X Y) (bt:J8 o X Y) (hm:Sm st0 st) {n mg ac bc:Nat} (m:Mh o X Y ts (na+1) (nb+1)) (hb:1<=nb) (hn:na+1+(nb+1)+n<=X.length+Y.length) :
  wpS (model prog w) A E s (U1 (fa f X) (fa f Y) (fa f ts.reverse) (na+1) (nb+1) mg ac bc) (H2 o f X Y n st0) st:=by
 unfold U1
 refine wpS_bind (jz hm fun st1 hm1=>?_)
 have lb:=m.lb
 have la:=m.la
 rw [show nb+1 - 1=nb by omega,show na+1 - 1=na by omega]
 have hy:=getD_at (l:=Y) (i:=nb) (by omega)
 have yB:=List.mem_of_getElem? hy
 refine wpS_bind (bf (c_ hy) ?_)
 refine wpS_bind (Af C (by rw [hm1.k];exact hk) (h:=fun i=>X.getD (0+i) 0) (fun i hi=>c_ (getD_at (by omega))) (fun i hi=>ab.lt _ (List.mem_of_getElem? (getD_at (l:=X) (i:=0+i) (by omega))) _ yB) (ab.nb _ yB) (vJ ab.sa _ _ (by omega)) (by omega) fun t t1 t2 t3=>?_)
 dsimp only
 have m3:=Mh.mW ab hy (na+1 - t) (at_:=t) (by rw [show t+(na+1 - t)=na+1 by omega];exact m) fun i z hi1 hi2 ez=>by
  have:=t3 i hi1 (by omega)
  rw [Nat.zero_add,List.getD_eq_getElem?_getD (l:=X),ez] at this
  exact this
 by_cases c2:na+1 - t > 0
 ·rw [if_pos c2,kg X t (na+1),CA,jd]
  by_cases c4:t=0
  ·rw [if_pos (by rw [c4];rfl)]
   exact wpS_pure ⟨hm1,.inl ⟨_,_,rfl,m3.qV ab (.inl c4)⟩⟩
  ·rw [if_neg (by simpa using c4)]
   obtain ⟨u,rfl⟩:∃ u,t=u+1:=⟨t - 1,by omega⟩
   have:=t2 u (by omega)
   rw [Nat.zero_add] at this
   exact Gk C (by rw [hm1.k];exact hk) ab bt hm1 m3 hb (by omega) (getD_at (by omega)) hy this
 ·rw [if_neg c2]
  have:t=na+1:=by omega
  subst this
  have:=t2 na (by omega)
  rw [Nat.zero_add] at this
  exact Gk C (by rw [hm1.k];exact hk) ab bt hm1 m hb hn (getD_at (by omega)) hy this
theorem KR (C:oJ prog w A s o N f kd) (hk:kindOf st=kd) (ab:Ab o N X Y) (tp:Top o X Y) (bt:J8 o X Y) (h1:1<=X.length) (h2:1<=Y.length)
  {Q:Array Keyed->SortSt->Prop} (q:∀ out st',Sm st st'->Res o f X Y out->Q out st'):wpS (model prog w) A E s (nE (fa f X) (fa f Y)) Q st:=by
 rw [um]
 refine wpS_bind (wpS_lift (wpAny_rule ⟨rfl,?_⟩))
 dsimp only
 simp only [iJ]
 have hx0:=getD_at (l:=X) (i:=X.length - 1) (by omega)
 refine wpS_bind (bf (c_ hx0) ?_)
 have m0:Mh o X Y [] (X.length - 1+1) Y.length:=⟨by omega,Nat.le_refl _,by rw [List.length_nil];omega,List.Pairwise.nil,(fun _ h=>nomatch h),(fun _ _ _ h=>nomatch h),(fun _ _ _ h=>nomatch h)⟩
 have m1:=m0.kI ab hx0 fun y hy=>tp _ _ hx0 (by omega) y (List.mem_of_mem_take hy)
 obtain ⟨x0,ex0⟩:∃ x0,x0=X.getD (X.length - 1) 0:=⟨_,rfl⟩
 rw [<- ex0] at m1 ⊢
 have e1:(#[f x0]:Array Keyed)=fa f [x0].reverse:=rfl
 rw [e1,jd]
 by_cases c:X.length - 1=0
 ·rw [if_pos (by rw [c];rfl)]
  exact wpS_pure (q _ _ Sm.refl (m1.qV ab (.inl c)))
 ·rw [if_neg (by simpa using c)]
  by_cases c2:Y.length=1
  ·rw [if_pos (by rw [c2];rfl)]
   exact wpS_pure (q _ _ Sm.refl (iP ab bt m1 c2))
  ·rw [if_neg (by simpa using c2)]
   refine wpS_bind (wpS_get ?_)
   refine wpS_bind (wpS_mono (wpS_forRange (I:=fun x c st'=>Sm st st'/\∃ ts na nb mg,c=(none,na,nb,fa f ts.reverse,mg)/\Oh o X Y (x+1) ts na nb)
    (Q:=fun c st'=>Sm st st'/\∃ r z,c=(some r,z)/\Res o f X Y r) ?step ?fin ⟨Sm.refl,_,_,_,_,rfl,m1,by omega,by omega,by omega⟩) ?post)
   case post=>
    rintro c st' ⟨hm,r,z,rfl,hr⟩
    exact wpS_pure (q _ _ hm hr)
   case fin=>
    rintro c st' ⟨hm,ts,na,nb,mg,rfl,m,a1,a2,a3⟩
    exfalso
    omega
   case step=>
    intro x c st' _ hx hh
    revert hh;revert c
    refine M3 fun hm ts na nb mg ho=>?_
    have m:=ho.1;have a1:=ho.2.1;have a2:=ho.2.2.1;have a3:=ho.2.2.2
    clear ho
    dsimp only
    refine wpS_bind (wpS_mono (wpS_forRange (I:=fun x' c st''=>Sm st st''/\∃ ts na nb ac bc,c=(none,na,nb,fa f ts.reverse,ac,bc)/\Oh o X Y (x+1+min x' 1) ts na nb)
     (Q:=fun c st''=>Sm st st''/\((∃ r z,c=(some r,z)/\Res o f X Y r)\/∃ ts na nb ac bc,c=(none,na,nb,fa f ts.reverse,ac,bc)/\Oh o X Y (x+1+1) ts na nb)) ?istep ?ifin ⟨hm,_,_,_,_,_,rfl,m,a1,a2,a3⟩) ?ipost)
    case ifin=>
     rintro c st'' ⟨hm',ts,na,nb,ac,bc,rfl,m,a1,a2,a3⟩
     exact ⟨hm',.inr ⟨_,_,_,_,_,rfl,m,a1,a2,by omega⟩⟩
    case istep=>
     intro x' c st'' _ hx' hh
     revert hh;revert c
     refine M7 fun hm' ts na nb ac bc ho=>?_
     have m:=ho.1;have a1:=ho.2.1;have a2:=ho.2.2.1;have a3:=ho.2.2.2
     clear ho
     dsimp only
     obtain ⟨u,rfl⟩:∃ u,na=u+1:=⟨na - 1,by omega⟩
     obtain ⟨v,rfl⟩:∃ v,nb=v+1:=⟨nb - 1,by omega⟩
     have la:=m.la
     have lb:=m.lb
     rw [show u+1 - 1=u by omega,show v+1 - 1=v by omega]
     have hy:=getD_at (l:=Y) (i:=v) (by omega)
     have hxx:=getD_at (l:=X) (i:=u) (by omega)
     have yB:=List.mem_of_getElem? hy
     have xA:=List.mem_of_getElem? hxx
     have lt:=ab.lt _ xA _ yB
     refine wpS_bind (bf (c_ hy) ?_)
     refine wpS_bind (bf (c_ hxx) ?_)
     refine wpS_bind (lU C (by rw [hm'.k];exact hk) (ab.nb _ yB) (ab.na _ xA) ?_)
     cases hl:o.lt (Y.getD v 0) (X.getD u 0)
     ·simp only [Bool.false_eq_true,if_false]
      refine wpS_bind (bf (c_ hy) ?_)
      have m2:=m.Cn ab hy (gC ab.sa hxx (P.kO hl lt))
      rw [lN,jd]
      by_cases c3:v=1
      ·rw [if_pos (by rw [c3];rfl)]
       exact wpS_pure ⟨hm',.inl ⟨_,_,rfl,iP ab bt m2 c3⟩⟩
      ·rw [if_neg (by simpa using c3)]
       by_cases c4:bc+1>=mg
       ·rw [if_pos c4]
        exact wpS_pure ⟨hm',.inr ⟨_,_,_,_,_,rfl,m2,a1,by omega,by omega⟩⟩
       ·rw [if_neg c4]
        exact wpS_pure ⟨hm',_,_,_,_,_,rfl,m2,a1,by omega,by omega⟩
     ·simp only [if_true]
      refine wpS_bind (bf (c_ hxx) ?_)
      have m2:=m.kI ab hxx (gC ab.sb hy (P.of_lt hl))
      rw [lN,jd]
      by_cases c3:u=0
      ·rw [if_pos (by rw [c3];rfl)]
       exact wpS_pure ⟨hm',.inl ⟨_,_,rfl,m2.qV ab (.inl c3)⟩⟩
      ·rw [if_neg (by simpa using c3)]
       by_cases c4:ac+1>=mg
       ·rw [if_pos c4]
        exact wpS_pure ⟨hm',.inr ⟨_,_,_,_,_,rfl,m2,by omega,a2,by omega⟩⟩
       ·rw [if_neg c4]
        exact wpS_pure ⟨hm',_,_,_,_,_,rfl,m2,by omega,a2,by omega⟩
    case ipost=>
     intro c st'' hh
     revert hh;revert c
     refine MT (fun hm' r z hr=>?_) fun hm' ts na nb ac bc ho=>?_
     ·dsimp only
      exact wpS_pure ⟨hm',r,_,rfl,hr⟩
     ·have m:=ho.1;have a1:=ho.2.1;have a2:=ho.2.2.1;have a3:=ho.2.2.2
      clear ho
      dsimp only
      refine wpS_bind (wpS_lift (wpAny_rule ⟨rfl,?_⟩))
      refine wpS_bind (wpS_mono (wpS_forRange (I:=fun x' c st''=>Sm st st''/\∃ ts na nb mg ac bc,c=(none,na,nb,fa f ts.reverse,mg,ac,bc)/\Oh o X Y (x+1+1) ts na nb)
       (Q:=fun c st''=>Sm st st''/\((∃ r z,c=(some r,z)/\Res o f X Y r)\/∃ ts na nb mg ac bc,c=(none,na,nb,fa f ts.reverse,mg,ac,bc)/\Oh o X Y (x+1+1) ts na nb)) ?jstep ?jfin ⟨hm',_,_,_,_,_,_,rfl,m,a1,a2,a3⟩) ?jpost)
      case jfin=>
       rintro c st3 ⟨hm3,hh⟩
       exact ⟨hm3,.inr hh⟩
      case jstep=>
       intro x' c st3 _ hx' hh
       revert hh;revert c
       refine MR fun hm3 ts na nb mg ac bc ho=>?_
       have m:=ho.1;have a1:=ho.2.1;have a2:=ho.2.2.1;have a3:=ho.2.2.2
       clear ho
       dsimp only
       obtain ⟨u,rfl⟩:∃ u,na=u+1:=⟨na - 1,by omega⟩
       obtain ⟨v,rfl⟩:∃ v,nb=v+1:=⟨nb - 1,by omega⟩
       have t1:=fun mg=>K7 (n:=x+1+1) (mg:=mg) (ac:=ac) (bc:=bc) (E:=E) C hk ab bt hm3 m (by omega) a3
       unfold U1 U2 U3 at t1
       refine wpS_mono (Q:=H2 o f X Y (x+1+1) st) ?_ ?_
       ·by_cases c3:mg > 1
        ·rw [if_pos c3]
         exact t1 (mg - 1)
        ·rw [if_neg c3]
         exact t1 mg
       ·rintro r st4 ⟨hm4,hr⟩
        cases r with
        | done c=>exact ⟨hm4,hr⟩
        | yield c=>exact ⟨hm4,hr⟩
      case jpost=>
       intro c st3 hh
       revert hh;revert c
       refine M5 (fun hm3 r z hr=>?_) fun hm3 ts na nb mg ac bc ho=>?_
       ·dsimp only
        exact wpS_pure ⟨hm3,r,_,rfl,hr⟩
       ·have m:=ho.1;have a1:=ho.2.1;have a2:=ho.2.2.1;have a3:=ho.2.2.2
        clear ho
        dsimp only
        refine wpS_bind (jz hm3 fun st4 hm4=>?_)
        exact wpS_pure ⟨hm4,_,_,_,_,rfl,m,a1,a2,a3⟩
end
theorem tU (i:Nat):mergeAt' i=(do
 let s <- get
 let (some (a1,n1,pw),some (a2,n2,_)):=((pendingOf s)[i]?,(pendingOf s)[i+1]?) | unsupported "internal:list.sort.pending"
 set (setPending s (((pendingOf s).setIfInBounds i (a1,n1+n2,pw)).eraseIdxIfInBounds (i+1)))
 let some k <- cY false (<- elem' (arrOf s) a2) (arrOf s) a1 n1 0 | return false
 let (a1,n1):=(a1+k,n1 - k)
 if n1 == 0 then return true
 let some n2 <- cY true (<- elem' (arrOf s) (a1+n1 - 1)) (arrOf s) a2 n2 (n2 - 1) | return false
 if n2 == 0 then return true
 let x:=(arrOf s).extract a1 a2
 let y:=(arrOf s).extract a2 (a2+n2)
 let both <- if n1<=n2 then nO x y else nE x y
 modify fun s=>setArr s (both.toList.zipIdx.foldl (fun a (p,j)=>a.setIfInBounds (a1+j) p) (arrOf s))
 return (failedOf (<- get)).isNone):=rfl
noncomputable def seg (g:Nat->Nat) (a n:Nat):List Nat:=(List.range n).map fun i=>g (a+i)
section
variable {o:Ord} {N:Nat} {f:Nat->Keyed} {g:Nat->Nat}
theorem d_ (g:Nat->Nat) (a n:Nat):(seg g a n).length=n:=by unfold seg;rw [List.length_map,List.length_range]
theorem gJ {a n i:Nat} (h:i < n):(seg g a n)[i]?=some (g (a+i)):=by unfold seg;rw [List.getElem?_map,List.getElem?_range h];rfl
theorem fH {a n x:Nat} (h:x∈seg g a n):∃ i,i < n/\x=g (a+i):=by
 obtain ⟨i,hi,rfl⟩:=List.mem_map.mp h
 exact ⟨i,List.mem_range.mp hi,rfl⟩
theorem AJ {a n:Nat} (h:So o g a (a+n)):(seg g a n).Pairwise (P o):=by
 rw [List.pairwise_iff_getElem]
 intro i j hi hj hij
 rw [d_] at hi hj
 have e1:=gJ (g:=g) (a:=a) hi
 have e2:=gJ (g:=g) (a:=a) hj
 rw [List.getElem?_eq_getElem (by rw [d_];exact hi)] at e1
 rw [List.getElem?_eq_getElem (by rw [d_];exact hj)] at e2
 rw [Option.some.inj e1,Option.some.inj e2]
 exact h _ _ (by omega) (by omega) (by omega)
theorem xP {arr:Array Keyed} (hs:arr.size=N) (hg:∀ i,i < N->arr[i]?=some (f (g i))) {a n:Nat} (h:a+n<=N):arr.extract a (a+n)=fa f (seg g a n):=by
 apply Array.ext_getElem?
 intro i
 rw [zG,Array.getElem?_extract]
 by_cases c:i < n
 ·rw [if_pos (by omega),gJ c,hg _ (by omega)];rfl
 ·rw [if_neg (by omega),List.getElem?_eq_none (by rw [d_];omega)];rfl
theorem oW {α:Type} (b:Nat):∀ (l:List α) (n:Nat) (arr:Array α),((l.zipIdx n).foldl (fun a (p,j)=>a.setIfInBounds (b+j) p) arr).size=arr.size
 | [],_,_=>rfl
 | x::l,n,arr=>by
  rw [List.zipIdx_cons,List.foldl_cons,oW b l (n+1)]
  exact Array.size_setIfInBounds ..
theorem sU {α:Type} (b:Nat):∀ (l:List α) (n:Nat) (arr:Array α) (k:Nat),b+n+l.length<=arr.size->((l.zipIdx n).foldl (fun a (p,j)=>a.setIfInBounds (b+j) p) arr)[k]?=if b+n<=k/\k < b+n+l.length then l[k - (b+n)]? else arr[k]?
 | [],n,arr,k,h=>by rw [if_neg (by rw [List.length_nil];omega)];rfl
 | x::l,n,arr,k,h=>by
  rw [List.length_cons] at h
  rw [List.zipIdx_cons,List.foldl_cons,sU b l (n+1) _ k (by rw [Array.size_setIfInBounds];omega),List.length_cons]
  by_cases c:k=b+n
  ·subst c
   rw [if_neg (by omega),if_pos (by omega),Nat.sub_self]
   show (arr.setIfInBounds (b+n) x)[b+n]?=some x
   rw [Array.getElem?_setIfInBounds_self_of_lt (by omega)]
  ·by_cases c2:b+n<=k/\k < b+n+(l.length+1)
   ·rw [if_pos (by omega),if_pos c2,show k - (b+n)=k - (b+(n+1))+1 by omega,List.getElem?_cons_succ]
   ·rw [if_neg (by omega),if_neg c2]
    show (arr.setIfInBounds (b+n) x)[k]?=arr[k]?
    rw [Array.getElem?_setIfInBounds_ne (by omega)]
end
section
variable {prog:Program} {w:World} {A:Around} {E:Value->Shared->Prop} {s:Shared} {o:Ord} {N:Nat} {f:Nat->Keyed} {kd:SortKind} {g:Nat->Nat} {st:SortSt}
theorem Dn {st':SortSt} {Q:PUnit->SortSt->Prop} (h:Q ⟨⟩ st'):wpS (model prog w) A E s (set st':StateT SortSt Sem PUnit) Q st:=by
 unfold wpS;rw [StateT.run_set];exact wpAny_pure ⟨rfl,h⟩
theorem K6 (C:oJ prog w A s o N f kd) {l1 l2:List (Nat×Nat×Nat)} {sa na nb pw pv:Nat} (h:Sg N f kd g (l1++(sa,na,pw)::(sa+na,nb,pv)::l2).toArray st) (ha:1<=na) (hb:1<=nb) (hN:sa+na+nb<=N)
  (c1:Cl g sa (sa+na)) (s1:So o g sa (sa+na)) (c2:Cl g (sa+na) (sa+na+nb)) (s2:So o g (sa+na) (sa+na+nb))
  {Q:Bool->SortSt->Prop} (q:∀ g' st',Sg N f kd g' (l1++(sa,na+nb,pw)::l2).toArray st'->Rn o g g' sa (sa+na+nb)->Q true st'):wpS (model prog w) A E s (mergeAt' l1.length) Q st:=by
 rw [tU]
 refine wpS_bind (wpS_get ?_)
 have e1:(pendingOf st)[l1.length]?=some (sa,na,pw):=by rw [h.pend];simp
 have e2:(pendingOf st)[l1.length+1]?=some (sa+na,nb,pv):=by rw [h.pend];simp
 have e3:((pendingOf st).setIfInBounds l1.length (sa,na+nb,pw)).eraseIdxIfInBounds (l1.length+1)=(l1++(sa,na+nb,pw)::l2).toArray:=by
  rw [h.pend,List.setIfInBounds_toArray,List.eraseIdxIfInBounds_toArray]
  congr 1
  rw [List.set_append_right _ _ (Nat.le_refl _),Nat.sub_self,List.eraseIdx_append_of_length_le (by omega),show l1.length+1 - l1.length=1 by omega]
  rfl
 rw [e1,e2]
 dsimp only
 rw [e3]
 refine wpS_bind (Dn ?_)
 have h':Sg N f kd g (l1++(sa,na+nb,pw)::l2).toArray (setPending st (l1++(sa,na+nb,pw)::l2).toArray):=⟨h.size,h.get,h.lt,h.kind,h.failed,rfl⟩
 obtain ⟨st1,hst1⟩:∃ st1,st1=setPending st (l1++(sa,na+nb,pw)::l2).toArray:=⟨_,rfl⟩
 rw [<- hst1] at h' ⊢
 refine wpS_bind (bf (h.get (sa+na) (by omega)) ?_)
 have b0:=c2 (sa+na) (by omega) (by omega)
 refine wpS_bind (Af C h'.kind (h:=fun i=>g (sa+i)) (fun i hi=>h.get _ (by omega)) (fun i hi=>by have:=c1 (sa+i) (by omega) (by omega);omega) (by omega) (fun i j _ a b=>s1 _ _ (by omega) (by omega) (by omega)) (by omega) fun k k1 k2 k3=>?_)
 dsimp only
 by_cases cz:na - k=0
 ·rw [if_pos (by rw [cz];rfl)]
  refine wpS_pure (q g st1 h' ⟨fun _ _=>rfl,fun i a b=>?_,fun i j a b c=>?_⟩)
  ·by_cases d:i < sa+na
   ·have:=c1 i a d;omega
   ·have:=c2 i (by omega) b;omega
  ·by_cases d:j < sa+na
   ·exact s1 i j a b d
   ·by_cases d2:sa+na<=i
    ·exact s2 i j d2 b c
    ·have r:=k2 (i - sa) (by omega)
     rw [show sa+(i - sa)=i by omega] at r
     by_cases d3:j=sa+na
     ·subst d3;exact r
     ·exact r.trans (s2 _ _ (by omega) (by omega) c)
 ·rw [if_neg (by simpa using cz)]
  have hlast:sa+k+(na - k) - 1=sa+na - 1:=by omega
  rw [hlast]
  refine wpS_bind (bf (h.get (sa+na - 1) (by omega)) ?_)
  have a0:=c1 (sa+na - 1) (by omega) (by omega)
  refine wpS_bind (CY C h'.kind (h:=fun i=>g (sa+na+i)) (fun i hi=>h.get _ (by omega)) (fun i hi=>by have:=c2 (sa+na+i) (by omega) (by omega);omega) (fun i j _ a b=>s2 _ _ (by omega) (by omega) (by omega)) (by omega) fun t t1 t2 t3=>?_)
  dsimp only
  by_cases cy:t=0
  ·rw [if_pos (by rw [cy];rfl)]
   subst cy
   refine wpS_pure (q g st1 h' ⟨fun _ _=>rfl,fun i a b=>?_,fun i j a b c=>?_⟩)
   ·by_cases d:i < sa+na
    ·have:=c1 i a d;omega
    ·have:=c2 i (by omega) b;omega
   ·by_cases d:j < sa+na
    ·exact s1 i j a b d
    ·by_cases d2:sa+na<=i
     ·exact s2 i j d2 b c
     ·have r:=t3 (j - (sa+na)) (by omega) (by omega)
      rw [show sa+na+(j - (sa+na))=j by omega] at r
      by_cases d3:i=sa+na - 1
      ·subst d3;exact r
      ·exact (s1 i (sa+na - 1) a (by omega) (by omega)).trans r
  ·rw [if_neg (by simpa using cy)]
   have x1:(arrOf st).extract (sa+k) (sa+na)=fa f (seg g (sa+k) (na - k)):=by
    have:=xP (f:=f) (g:=g) h.size h.get (a:=sa+k) (n:=na - k) (by omega)
    rwa [show sa+k+(na - k)=sa+na by omega] at this
   have x2:(arrOf st).extract (sa+na) (sa+na+t)=fa f (seg g (sa+na) t):=xP h.size h.get (by omega)
   rw [x1,x2]
   have sx:So o g (sa+k) (sa+k+(na - k)):=fun i j a b c=>s1 i j (by omega) b (by omega)
   have sy:So o g (sa+na) (sa+na+t):=fun i j a b c=>s2 i j a b (by omega)
   have ab:Ab o N (seg g (sa+k) (na - k)) (seg g (sa+na) t):={
    sa:=AJ sx
    sb:=AJ sy
    lt:=fun x hx y hy=>by
     obtain ⟨i,hi,rfl⟩:=fH hx
     obtain ⟨j,hj,rfl⟩:=fH hy
     have:=c1 (sa+k+i) (by omega) (by omega)
     have:=c2 (sa+na+j) (by omega) (by omega)
     omega
    nb:=fun y hy=>by
     obtain ⟨j,hj,rfl⟩:=fH hy
     exact h.lt _ (by omega)
    na:=fun y hy=>by
     obtain ⟨j,hj,rfl⟩:=fH hy
     exact h.lt _ (by omega) }
   have tp:Top o (seg g (sa+k) (na - k)) (seg g (sa+na) t):=fun i x hx hi y hy=>by
    rw [d_] at hi
    rw [gJ (by omega)] at hx
    cases hx
    obtain ⟨j,hj,rfl⟩:=fH hy
    rw [show sa+k+i=sa+na - 1 by omega]
    exact t2 j hj
   have bt:J8 o (seg g (sa+k) (na - k)) (seg g (sa+na) t):=fun y hy x hx=>by
    rw [gJ (by omega)] at hy
    cases hy
    obtain ⟨i,hi,rfl⟩:=fH hx
    have:=k3 (k+i) (by omega) (by omega)
    rwa [<- Nat.add_assoc] at this
   have fin:∀ out st2,Sm st1 st2->Res o f (seg g (sa+k) (na - k)) (seg g (sa+na) t) out->wpS (model prog w) A E s (do
     modify fun s=>setArr s (out.toList.zipIdx.foldl (fun a (p,j)=>a.setIfInBounds (sa+k+j) p) (arrOf s))
     let s <- get
     pure (failedOf s).isNone) Q st2:=by
    rintro out st2 hm ⟨hs,rfl,hlen,hso,hmem⟩
    rw [d_,d_] at hlen
    refine wpS_bind (wpS_modify (wpS_bind (wpS_get ?_)))
    have hf:(failedOf st2)=none:=by rw [hm.f];exact h'.failed
    have hmx:∀ j x,hs[j]?=some x->(∃ i,i < na - k/\x=g (sa+k+i))\/∃ i,i < t/\x=g (sa+na+i):=fun j x e=>by
     rcases hmem x (List.mem_of_getElem? e) with z | z
     ·exact .inl (fH z)
     ·exact .inr (fH z)
    have ez:(fa f hs).toList=hs.map f:=by unfold fa;rfl
    have hsz:sa+k+0+(hs.map f).length<=(arrOf st2).size:=by rw [List.length_map,hlen,hm.a,h'.size];omega
    refine wpS_pure ?_
    show Q (failedOf st2).isNone _
    rw [hf]
    refine q (fun i=>if sa+k<=i/\i < sa+k+(na - k+t) then hs.getD (i - (sa+k)) 0 else g i) _ ⟨?_,fun i hi=>?_,fun i hi=>?_,by rw [show kindOf (setArr st2 _)=kindOf st2 from rfl,hm.k];exact h'.kind,hf,by rw [show pendingOf (setArr st2 _)=pendingOf st2 from rfl,hm.p];exact h'.pend⟩ ?_
    ·have:=oW (sa+k) (fa f hs).toList 0 (arrOf st2)
     rw [hm.a,h'.size] at this
     rw [<- this,<- hm.a]
    ·show (List.foldl _ _ _)[i]?=_
     rw [ez,sU _ _ _ _ _ hsz,List.length_map,hlen,hm.a]
     by_cases d:sa+k<=i/\i < sa+k+(na - k+t)
     ·rw [if_pos (by omega),if_pos d,List.getElem?_map,Nat.add_zero,getD_at (l:=hs) (by omega)];rfl
     ·rw [if_neg (by omega),if_neg d]
      exact h'.get i hi
    ·by_cases d:sa+k<=i/\i < sa+k+(na - k+t)
     ·rw [if_pos d]
      rcases hmx _ _ (getD_at (l:=hs) (i:=i - (sa+k)) (by omega)) with ⟨j,hj,e⟩ | ⟨j,hj,e⟩
      ·rw [e];exact h.lt _ (by omega)
      ·rw [e];exact h.lt _ (by omega)
     ·rw [if_neg d];exact h.lt i hi
    ·have gin:∀ i,sa+k<=i->i < sa+na+t->(if sa+k<=i/\i < sa+k+(na - k+t) then hs.getD (i - (sa+k)) 0 else g i)=hs.getD (i - (sa+k)) 0:=fun i a b=>if_pos (by omega)
     have gout:∀ i,i < sa+k\/sa+na+t<=i->(if sa+k<=i/\i < sa+k+(na - k+t) then hs.getD (i - (sa+k)) 0 else g i)=g i:=fun i a=>if_neg (by omega)
     refine ⟨fun i hi=>gout i (by omega),fun i a b=>?_,fun i j a b c=>?_⟩
     ·by_cases d:sa+k<=i/\i < sa+na+t
      ·show _<=ite _ _ _/\ite _ _ _ < _
       rw [gin i d.1 d.2]
       rcases hmx _ _ (getD_at (l:=hs) (i:=i - (sa+k)) (by omega)) with ⟨j,hj,e⟩ | ⟨j,hj,e⟩
       ·rw [e];have:=c1 (sa+k+j) (by omega) (by omega);omega
       ·rw [e];have:=c2 (sa+na+j) (by omega) (by omega);omega
      ·show _<=ite _ _ _/\ite _ _ _ < _
       rw [gout i (by omega)]
       by_cases d2:i < sa+na
       ·have:=c1 i a d2;omega
       ·have:=c2 i (by omega) b;omega
     ·show P o (ite _ _ _) (ite _ _ _)
      by_cases d1:i < sa+k
      ·rw [gout i (.inl d1)]
       have r:=k2 (i - sa) (by omega)
       rw [show sa+(i - sa)=i by omega] at r
       by_cases d2:j < sa+k
       ·rw [gout j (.inl d2)];exact s1 i j a b (by omega)
       ·by_cases d3:j < sa+na+t
        ·rw [gin j (by omega) d3]
         rcases hmx _ _ (getD_at (l:=hs) (i:=j - (sa+k)) (by omega)) with ⟨v,hv,e⟩ | ⟨v,hv,e⟩
         ·rw [e];exact s1 _ _ a (by omega) (by omega)
         ·rw [e]
          by_cases d4:v=0
          ·subst d4;exact r
          ·exact r.trans (s2 _ _ (by omega) (by omega) (by omega))
        ·rw [gout j (by omega)]
         exact r.trans (s2 _ _ (by omega) (by omega) c)
      ·by_cases d2:i < sa+na+t
       ·rw [gin i (by omega) d2]
        by_cases d3:j < sa+na+t
        ·rw [gin j (by omega) d3]
         exact iA hso (getD_at (by omega)) (getD_at (by omega)) (by omega)
        ·rw [gout j (by omega)]
         rcases hmx _ _ (getD_at (l:=hs) (i:=i - (sa+k)) (by omega)) with ⟨v,hv,e⟩ | ⟨v,hv,e⟩
         ·rw [e]
          have r:=t3 (j - (sa+na)) (by omega) (by omega)
          rw [show sa+na+(j - (sa+na))=j by omega] at r
          by_cases d4:sa+k+v=sa+na - 1
          ·rw [d4];exact r
          ·exact (s1 _ (sa+na - 1) (by omega) (by omega) (by omega)).trans r
         ·rw [e];exact s2 _ _ (by omega) (by omega) c
       ·rw [gout i (by omega),gout j (by omega)]
        exact s2 i j (by omega) b c
   by_cases cl:na - k<=t
   ·rw [if_pos cl]
    exact wpS_bind (JJ C h'.kind ab tp (by rw [d_];omega) (gJ (by omega)) (bt _ (gJ (by omega))) fin)
   ·rw [if_neg cl]
    exact wpS_bind (KR C h'.kind ab tp bt (by rw [d_];omega) (by rw [d_];omega) fin)
end
noncomputable abbrev pr (x:Nat×Nat×Nat):Nat×Nat:=(x.1,x.2.1)
noncomputable def gA (o:Ord) (g:Nat->Nat):List (Nat×Nat)->Nat->Nat->Prop
 | [],a,b=>a=b
 | x::l,a,b=>x.1=a/\1<=x.2/\Cl g a (a+x.2)/\So o g a (a+x.2)/\gA o g l (a+x.2) b
noncomputable def PA (o:Ord) (g:Nat->Nat) (p:Array (Nat×Nat×Nat)) (b:Nat):Prop:=gA o g (p.toList.map pr) 0 b
section
variable {o:Ord} {g:Nat->Nat}
theorem gA.le:∀ {l:List (Nat×Nat)} {a b:Nat},gA o g l a b->a+l.length<=b
 | [],a,b,h=>by have h:a=b:=h;rw [List.length_nil];omega
 | x::l,a,b,h=>by
  have:=h.2.2.2.2.le
  have:=h.2.1
  rw [List.length_cons];omega
theorem gA.congr {g':Nat->Nat}:∀ {l:List (Nat×Nat)} {a b:Nat},gA o g l a b->(∀ i,a<=i->i < b->g' i=g i)->gA o g' l a b
 | [],a,b,h,_=>h
 | x::l,a,b,h,e=>by
  have hb:=h.2.2.2.2.le
  refine ⟨h.1,h.2.1,fun i h1 h2=>?_,fun i j h1 h2 h3=>?_,h.2.2.2.2.congr fun i h1 h2=>e i (by omega) h2⟩
  ·rw [e i h1 (by omega)];exact h.2.2.1 i h1 h2
  ·rw [e i h1 (by omega),e j (by omega) (by omega)];exact h.2.2.2.1 i j h1 h2 h3
theorem gA.app:∀ {l m:List (Nat×Nat)} {a b:Nat},gA o g (l++m) a b ↔ ∃ c,gA o g l a c/\gA o g m c b
 | [],m,a,b=>⟨fun h=>⟨a,rfl,h⟩,fun ⟨c,h1,h2⟩=>by have h1:a=c:=h1;subst h1;exact h2⟩
 | x::l,m,a,b=>by
  constructor
  ·rintro ⟨h1,h2,h3,h4,h5⟩
   obtain ⟨c,h6,h7⟩:=gA.app.mp h5
   exact ⟨c,⟨h1,h2,h3,h4,h6⟩,h7⟩
  ·rintro ⟨c,⟨h1,h2,h3,h4,h5⟩,h6⟩
   exact ⟨h1,h2,h3,h4,gA.app.mpr ⟨c,h5,h6⟩⟩
theorem zC {p:Array (Nat×Nat×Nat)} {i:Nat} (h:i+1 < p.size):∃ l1 x y l2,p=(l1++x::y::l2).toArray/\l1.length=i:=by
 have h':i+1 < p.toList.length:=h
 refine ⟨p.toList.take i,p.toList[i],p.toList[i+1],p.toList.drop (i+2),?_,by rw [List.length_take];omega⟩
 apply Array.toList_inj.mp
 show p.toList=_
 conv=>lhs;rw [<- List.take_append_drop i p.toList,List.drop_eq_getElem_cons (show i < p.toList.length by omega),List.drop_eq_getElem_cons h']
end
section
variable {prog:Program} {w:World} {A:Around} {E:Value->Shared->Prop} {s:Shared} {o:Ord} {N:Nat} {f:Nat->Keyed} {kd:SortKind} {g:Nat->Nat} {p:Array (Nat×Nat×Nat)} {st:SortSt}
theorem ux (C:oJ prog w A s o N f kd) (h:Sg N f kd g p st) {lo i:Nat} (hp:PA o g p lo) (hlo:lo<=N) (hi:i+1 < p.size)
  {Q:Bool->SortSt->Prop} (q:∀ g' p' st',Sg N f kd g' p' st'->PA o g' p' lo->p'.size+1=p.size->(∀ k,lo<=k->g' k=g k)->Q true st'):wpS (model prog w) A E s (mergeAt' i) Q st:=by
 obtain ⟨l1,⟨sa,na,pw⟩,⟨sb,nb,pv⟩,l2,rfl,rfl⟩:=zC hi
 unfold PA at hp
 rw [show (l1++(sa,na,pw)::(sb,nb,pv)::l2).toArray.toList=l1++(sa,na,pw)::(sb,nb,pv)::l2 from rfl,List.map_append] at hp
 obtain ⟨c,h1,h2⟩:=gA.app.mp hp
 obtain ⟨e1,n1,cl1,so1,e2,n2,cl2,so2,rest⟩:=h2
 have e1:sa=c:=e1
 subst e1
 have e2:sb=sa+na:=e2
 subst e2
 have l2b:=rest.le
 have n1:1<=na:=n1
 have n2:1<=nb:=n2
 have l2b:sa+na+nb<=lo:=by
  have:sa+na+nb+(List.map pr l2).length<=lo:=l2b
  omega
 refine K6 C h n1 n2 (by omega) cl1 so1 cl2 so2 fun g' st' h' R=>q g' _ st' h' ?_ (by simp;omega) fun k hk=>R.out k (by omega)
 unfold PA
 rw [show (l1++(sa,na+nb,pw)::l2).toArray.toList=l1++(sa,na+nb,pw)::l2 from rfl,List.map_append]
 refine gA.app.mpr ⟨sa,h1.congr fun i a b=>R.out i (by omega),rfl,by show 1<=na+nb;omega,?_,?_,?_⟩
 ·show Cl g' sa (sa+(na+nb));rw [<- Nat.add_assoc];exact R.cl
 ·show So o g' sa (sa+(na+nb));rw [<- Nat.add_assoc];exact R.so
 ·show gA o g' _ (sa+(na+nb)) lo
  rw [<- Nat.add_assoc]
  exact rest.congr fun i a b=>R.out i (.inr a)
theorem oh {p:Array (Nat×Nat×Nat)} {i lo:Nat} {u:Nat×Nat×Nat->Nat×Nat×Nat} (hu:∀ x,pr (u x)=pr x) (h:PA o g p lo):PA o g (p.modify i u) lo:=by
 unfold PA at h ⊢
 have:(p.modify i u).toList.map pr=p.toList.map pr:=by
  rw [Array.toList_modify]
  apply List.ext_getElem?
  intro k
  rw [List.getElem?_map,List.getElem?_map,List.getElem?_modify]
  cases p.toList[k]? with
  | none=>rfl
  | some x=>
   show some (pr (if i=k then u x else x))=some (pr x)
   by_cases c:i=k
   ·rw [if_pos c,hu x]
   ·rw [if_neg c]
 rw [this];exact h
theorem lH {p:Array (Nat×Nat×Nat)} {lo n v:Nat} (h:PA o g p lo) (hn:1<=n) (c:Cl g lo (lo+n)) (d:So o g lo (lo+n)):PA o g (p.push (lo,n,v)) (lo+n):=by
 unfold PA at h ⊢
 rw [Array.toList_push,List.map_append]
 exact gA.app.mpr ⟨lo,h,rfl,hn,c,d,rfl⟩
theorem Sg.JB (h:Sg N f kd g p st) (p':Array (Nat×Nat×Nat)):Sg N f kd g p' (setPending st p'):=⟨h.size,h.get,h.lt,h.kind,h.failed,rfl⟩
theorem Es (C:oJ prog w A s o N f kd) (h:Sg N f kd (fun i=>i) #[] st) (hN:1<=N)
  {Q:Unit->SortSt->Prop} (q:∀ g' p' st',Sg N f kd g' p' st'->Cl g' 0 N->So o g' 0 N->Q () st'):wpS (model prog w) A E s sortRuns' Q st:=by
 rw [sortRuns'_eq]
 refine wpS_bind (wpS_get ?_)
 dsimp only
 rw [h.size]
 refine wpS_bind (wpS_mono (wpS_forRange
  (I:=fun x c st'=>∃ lo g p,c=(none,lo)/\lo<=N/\(x<=lo\/lo=N)/\Sg N f kd g p st'/\PA o g p lo/\(∀ i,lo<=i->g i=i))
  (Q:=fun c st'=>∃ g p,c=(none,N)/\Sg N f kd g p st'/\PA o g p N) ?step ?fin ⟨0,_,_,rfl,Nat.zero_le _,.inl (Nat.le_refl _),h,rfl,fun _ _=>rfl⟩) ?post)
 case fin=>
  rintro c st' ⟨lo,g,p,rfl,h1,h2,h3,h4,h5⟩
  have:lo=N:=by omega
  subst this
  exact ⟨g,p,rfl,h3,h4⟩
 case step=>
  rintro x c st' _ hx ⟨lo,g,p,rfl,h1,h2,h3,h4,h5⟩
  dsimp only
  by_cases hge:lo>=N
  ·rw [if_pos hge]
   have:lo=N:=by omega
   subst this
   exact wpS_pure ⟨g,p,rfl,h3,h4⟩
  ·rw [if_neg hge]
   refine wpS_bind (Ar C h3 (by omega) (by omega) (fun i a b=>h5 i a) fun m g1 st1 s1 m1 m2 R1=>?_)
   dsimp only
   by_cases c2:m < minRun' N N 0
   ·rw [if_pos c2]
    refine wpS_bind (wpS_lift (wpAny_rule ⟨rfl,?_⟩))
    refine wpS_bind (GG C s1 (by omega) m1 (by omega) R1 (fun i a b=>h5 i (by omega)) fun g2 st2 s2 R2=>?_)
    rw [if_neg (by decide)]
    have n2:1<=min (N - lo) (minRun' N N 0):=by omega
    have n3:lo+min (N - lo) (minRun' N N 0)<=N:=by omega
    refine wpS_bind (wpS_get ?_)
    rw [s2.pend]
    have hp2:=gA.congr h4 fun i a b=>R2.out i (.inl b)
    cases e:p.back? with
    | none=>
     dsimp only
     refine wpS_bind (wpS_modify (wpS_pure ⟨_,_,_,rfl,n3,by omega,s2.JB _,?_,fun i hi=>by rw [R2.out i (.inr hi),h5 i (by omega)]⟩))
     rw [s2.pend]
     exact lH hp2 n2 R2.cl R2.so
    | some y=>
     obtain ⟨y1,y2,y3⟩:=y
     dsimp only
     refine wpS_bind (wpS_mono (wpS_forRange (I:=fun _ c st'=>c=(none,())/\∃ g' p',Sg N f kd g' p' st'/\PA o g' p' lo/\(∀ k,lo<=k->g' k=g2 k)) (Q:=fun c st'=>c=(none,())/\∃ g' p',Sg N f kd g' p' st'/\PA o g' p' lo/\(∀ k,lo<=k->g' k=g2 k)) ?vstep (fun _ _ h=>h) ⟨rfl,_,_,s2,hp2,fun _ _=>rfl⟩) ?vpost)
     case vstep=>
      rintro x c st' _ hx ⟨rfl,g',p',h1,h2,h3⟩
      refine wpS_bind (wpS_get ?_)
      rw [h1.pend]
      by_cases c:p'.size > 1
      ·rw [if_pos c]
       cases e:p'[p'.size - 2]? with
       | none=>exact wpS_pure ⟨rfl,g',p',h1,h2,h3⟩
       | some y=>
        obtain ⟨y1,y2,y3⟩:=y
        dsimp only
        split
        ·exact wpS_pure ⟨rfl,g',p',h1,h2,h3⟩
        ·refine wpS_bind (ux C h1 h2 (by omega) (by omega) fun g3 p3 st3 s3 q3 _ z3=>?_)
         exact wpS_pure ⟨rfl,g3,p3,s3,q3,fun k hk=>by rw [z3 k hk,h3 k hk]⟩
      ·rw [if_neg c]
       exact wpS_pure ⟨rfl,g',p',h1,h2,h3⟩
     case vpost=>
      rintro c st' ⟨rfl,g',p',h1,h2,h3⟩
      dsimp only
      refine wpS_bind (wpS_modify (wpS_bind (wpS_modify (wpS_pure ⟨_,_,_,rfl,n3,by omega,(h1.JB _).JB _,?_,fun i hi=>by rw [h3 i (by omega),R2.out i (.inr hi),h5 i (by omega)]⟩))))
      show PA o g' (((pendingOf st').modify _ _).push _) _
      rw [h1.pend]
      exact lH (oh (fun _=>rfl) h2) n2 (fun i a b=>by rw [h3 i a];exact R2.cl i a b) (fun i j a b c=>by rw [h3 i a,h3 j (by omega)];exact R2.so i j a b c)
   ·rw [if_neg c2]
    have n3:lo+m<=N:=by omega
    obtain ⟨g2,hg2⟩:∃ g2,g2=g1:=⟨_,rfl⟩
    rw [<- hg2] at R1 s1
    have R2:=R1
    have s2:=s1
    have n2:=m1
    refine wpS_bind (wpS_get ?_)
    rw [s2.pend]
    have hp2:=gA.congr h4 fun i a b=>R2.out i (.inl b)
    cases e:p.back? with
    | none=>
     dsimp only
     refine wpS_bind (wpS_modify (wpS_pure ⟨_,_,_,rfl,n3,by omega,s2.JB _,?_,fun i hi=>by rw [R2.out i (.inr hi),h5 i (by omega)]⟩))
     rw [s2.pend]
     exact lH hp2 n2 R2.cl R2.so
    | some y=>
     obtain ⟨y1,y2,y3⟩:=y
     dsimp only
     refine wpS_bind (wpS_mono (wpS_forRange (I:=fun _ c st'=>c=(none,())/\∃ g' p',Sg N f kd g' p' st'/\PA o g' p' lo/\(∀ k,lo<=k->g' k=g2 k)) (Q:=fun c st'=>c=(none,())/\∃ g' p',Sg N f kd g' p' st'/\PA o g' p' lo/\(∀ k,lo<=k->g' k=g2 k)) ?vstep (fun _ _ h=>h) ⟨rfl,_,_,s2,hp2,fun _ _=>rfl⟩) ?vpost)
     case vstep=>
      rintro x c st' _ hx ⟨rfl,g',p',h1,h2,h3⟩
      refine wpS_bind (wpS_get ?_)
      rw [h1.pend]
      by_cases c:p'.size > 1
      ·rw [if_pos c]
       cases e:p'[p'.size - 2]? with
       | none=>exact wpS_pure ⟨rfl,g',p',h1,h2,h3⟩
       | some y=>
        obtain ⟨y1,y2,y3⟩:=y
        dsimp only
        split
        ·exact wpS_pure ⟨rfl,g',p',h1,h2,h3⟩
        ·refine wpS_bind (ux C h1 h2 (by omega) (by omega) fun g3 p3 st3 s3 q3 _ z3=>?_)
         exact wpS_pure ⟨rfl,g3,p3,s3,q3,fun k hk=>by rw [z3 k hk,h3 k hk]⟩
      ·rw [if_neg c]
       exact wpS_pure ⟨rfl,g',p',h1,h2,h3⟩
     case vpost=>
      rintro c st' ⟨rfl,g',p',h1,h2,h3⟩
      dsimp only
      refine wpS_bind (wpS_modify (wpS_bind (wpS_modify (wpS_pure ⟨_,_,_,rfl,n3,by omega,(h1.JB _).JB _,?_,fun i hi=>by rw [h3 i (by omega),R2.out i (.inr hi),h5 i (by omega)]⟩))))
      show PA o g' (((pendingOf st').modify _ _).push _) _
      rw [h1.pend]
      exact lH (oh (fun _=>rfl) h2) n2 (fun i a b=>by rw [h3 i a];exact R2.cl i a b) (fun i j a b c=>by rw [h3 i a,h3 j (by omega)];exact R2.so i j a b c)
 case post=>
  rintro c st' ⟨g,p,rfl,h1,h2⟩
  dsimp only
  refine wpS_bind (wpS_mono (wpS_forRange
   (I:=fun x c st''=>c=(none,())/\∃ g p,Sg N f kd g p st''/\PA o g p N/\(p.size<=1\/p.size+x<=N))
   (Q:=fun c st''=>c=(none,())/\∃ g p,Sg N f kd g p st''/\PA o g p N/\p.size<=1) ?fstep ?ffin ⟨rfl,g,p,h1,h2,.inr ?finit⟩) ?fpost)
  case finit=>
   have:=gA.le h2
   rw [List.length_map] at this
   show p.toList.length+0<=N
   omega
  case ffin=>
   rintro c st'' ⟨rfl,g,p,h1,h2,h3⟩
   exact ⟨rfl,g,p,h1,h2,by omega⟩
  case fstep=>
   rintro x c st'' _ hx ⟨rfl,g,p,h1,h2,h3⟩
   refine wpS_bind (wpS_get ?_)
   rw [h1.pend]
   by_cases c:p.size<=1
   ·rw [if_pos c]
    exact wpS_pure ⟨rfl,g,p,h1,h2,c⟩
   ·rw [if_neg c]
    have il:∀ (d:Prop) [Decidable d],(if d then p.size - 2 - 1 else p.size - 2)+1 < p.size:=fun d _=>by
     by_cases hd:d
     ·rw [if_pos hd];omega
     ·rw [if_neg hd];omega
    refine wpS_bind (ux C h1 h2 (Nat.le_refl _) (il _) fun g' p' st3 s3 q3 z3 _=>?_)
    exact wpS_pure ⟨rfl,g',p',s3,q3,by omega⟩
  case fpost=>
   rintro c st'' ⟨rfl,g,p,h1,h2,h3⟩
   dsimp only
   refine wpS_pure ?_
   unfold PA at h2
   have h3:p.toList.length<=1:=h3
   match hl:p.toList,h3 with
   | [],_=>
    rw [hl] at h2
    have:0=N:=h2
    omega
   | [x],_=>
    rw [hl] at h2
    obtain ⟨e1,e2,e3,e4,e5⟩:=h2
    have e5:0+x.2.1=N:=e5
    have e3:Cl g 0 (0+x.2.1):=e3
    have e4:So o g 0 (0+x.2.1):=e4
    rw [e5] at e3 e4
    exact q g p st'' h1 e3 e4
end
noncomputable abbrev uM (h:Heap) (a:Addr) (vs:List Value):Heap:=((h.update a (Obj.mapSeq fun _=>#[])).push (seqObj "tuple" vs.toArray 0)).push (seqObj "list" #[] 0)
theorem Dp {h:Heap} {a b:Addr} {vs:List Value} (hb:b≠a) (hlt:b < h.objs.size):(uM h a vs).get? b=h.get? b:=by
 rw [Heap.get?_push_ne _ _ _ (by rw [size_push',Heap.size_update];exact Nat.ne_of_lt (Nat.lt_succ_of_lt hlt)),
  Heap.get?_push_ne _ _ _ (by rw [Heap.size_update];exact Nat.ne_of_lt hlt),Heap.get?_update_ne _ _ _ _ hb]
noncomputable abbrev vv (vs:List Value) (i:Nat):Keyed:=(vs.getD i .none,vs.getD i .none)
theorem zip_get (vs:List Value) {i:Nat} (h:i < vs.length):(vs.toArray.zip vs.toArray)[i]?=some (vv vs i):=by
 have e:vs[i]?=some (vs.getD i .none):=by rw [List.getD_eq_getElem?_getD,List.getElem?_eq_getElem h];rfl
 rw [Array.getElem?_zip_eq_some]
 exact ⟨by rw [List.getElem?_toArray];exact e,by rw [List.getElem?_toArray];exact e⟩
section
variable {prog:Program} {w:World} {A:Around} {E:Value->Shared->Prop} {s:Shared} {o:Ord} {kd:SortKind}
theorem yp {a:Addr} {vs:List Value} {n:Nat} {P:PySem.Fin->Shared->Prop} (hL:s.heap.get? a=some (seqObj "list" vs.toArray n)) (hsz:vs.length<=sizeLine)
  (hkk:2<=vs.length->∀ Q:SortKind->Shared->Prop,Q kd { s with heap:=uM s.heap a vs }->wpAny (model prog w) A (keyKind' vs.toArray) Q E { s with heap:=uM s.heap a vs })
  (C:2<=vs.length->oJ prog w A { s with heap:=uM s.heap a vs } o vs.length (vv vs) kd)
  (h:∀ g,Cl g 0 vs.length->So o g 0 vs.length->P (.done (.ret .none)) { s with heap:=sortedHeap s.heap a vs ((List.range vs.length).map fun i=>vs.getD (g i) .none).toArray }) :
  wpAny (model prog w) A (Builtin.«list.sort» ⟨[.ref a],[]⟩) P E s:=by
 rw [list_sort_plain]
 have lta:a < s.heap.objs.size:=Heap.lt_size hL
 refine wpAny_bind (listItems_at hL rfl ?_)
 refine wpAny_bind (listUpdate_at hL rfl ?_ (by rw [List.size_toArray];exact hsz) (Nat.zero_le _))
 obtain ⟨ep,hL1⟩:∃ ep,(s.heap.update a (Obj.mapSeq fun _=>#[])).get? a=some (seqObj "list" #[] ep):=⟨_,get?_update_seq hL (fun _=>#[])⟩
 refine wpAny_bind (seqEpoch_at hL1 rfl ?_)
 refine wpAny_bind (wpAny_newTuple ?_)
 refine wpAny_bind (wpAny_newList ?_)
 refine wpAny_holding ?_
 have hL6:(uM s.heap a vs).get? a=some (seqObj "list" #[] ep):=by
  rw [Heap.get?_push_ne _ _ _ (by rw [size_push',Heap.size_update];exact Nat.ne_of_lt (Nat.lt_succ_of_lt lta)),Heap.get?_push_ne _ _ _ (by rw [Heap.size_update];exact Nat.ne_of_lt lta)]
  exact hL1
 show wpAny (model prog w) A _ P E { s with heap:=uM s.heap a vs }
 dsimp only
 have hz:vs.toArray.size=vs.length:=by simp
 have getE:∀ i,i < vs.length->vs[i]?=some (vs.getD i .none):=fun i hi=>by rw [List.getD_eq_getElem?_getD,List.getElem?_eq_getElem hi];rfl
 have outE:∀ (arr:Array Keyed) (g:Nat->Nat),arr.size=vs.length->(∀ i,i < vs.length->arr[i]?=some (vv vs (g i)))->arr.map (·.2)=((List.range vs.length).map fun i=>vs.getD (g i) .none).toArray:=fun arr g h1 two=>by
  apply Array.ext_getElem?
  intro i
  have e0:((List.range vs.length).map fun i=>vs.getD (g i) Value.none).toArray[i]?=((List.range vs.length).map fun i=>vs.getD (g i) Value.none)[i]?:=List.getElem?_toArray ..
  rw [Array.getElem?_map,e0,List.getElem?_map]
  by_cases c:i < vs.length
  ·rw [two i c,List.getElem?_range c];rfl
  ·rw [Array.getElem?_eq_none (by omega),List.getElem?_eq_none (by rw [List.length_range];omega)];rfl
 by_cases two:vs.toArray.size < 2
 ·rw [if_pos two,if_pos two]
  refine wpAny_bind (wpAny_pure ?_)
  rw [StateT.run_pure]
  refine wpAny_bind (wpAny_pure ?_)
  dsimp only
  refine wpAny_bind (seqEpoch_at hL6 rfl ?_)
  have oe:=outE (vs.toArray.zip vs.toArray) (fun i=>i) (by rw [Array.size_zip,hz];omega) fun i hi=>zip_get vs hi
  refine wpAny_bind (listUpdate_at hL6 rfl ?_ (by simp) (hsz2:=by rw [Array.size_map];show (vs.toArray.zip vs.toArray).size<=_;rw [Array.size_zip,hz];omega))
  simp only [bne_self_eq_false,Bool.false_eq_true,if_false]
  refine wpAny_pure ?_
  have:=h (fun i=>i) (fun i a b=>⟨a,b⟩) (fun i j a b c=>by omega)
  rw [<- oe] at this
  exact this
 ·rw [if_neg two,if_neg two]
  have h2':2<=vs.length:=by omega
  refine wpAny_bind (hkk h2' _ ?_)
  refine wpAny_bind (wpAny_mono (Es (f:=vv vs) (N:=vs.length) (C h2') (st:=SortSt.mk' kd (vs.toArray.zip vs.toArray) #[] 7 none)
   (Q:=fun _ st'=>∃ g p,Sg vs.length (vv vs) kd g p st'/\Cl g 0 vs.length/\So o g 0 vs.length)
   ⟨by show (vs.toArray.zip vs.toArray).size=_;rw [Array.size_zip,hz];omega,fun i hi=>zip_get vs hi,fun i hi=>hi,rfl,rfl,rfl⟩ (by omega) fun g' p' st' a1 a2 a3=>⟨g',p',a1,a2,a3⟩) ?_ fun _ _ e=>e)
  rintro ⟨⟨⟩,st'⟩ s' ⟨rfl,g,p,hS,hc,hso⟩
  dsimp only
  refine wpAny_bind (seqEpoch_at hL6 rfl ?_)
  have oe:=outE (arrOf st') g hS.size hS.get
  refine wpAny_bind (listUpdate_at hL6 rfl ?_ (by simp) (hsz2:=by have hh:(arrOf st').size=vs.length:=hS.size;show ((arrOf st').map (·.2)).size<=_;rw [Array.size_map,hh];omega))
  rw [hS.failed]
  simp only [bne_self_eq_false,Bool.false_eq_true,if_false]
  have:=h g hc hso
  rw [<- oe] at this
  exact wpAny_pure this
end
section
variable {prog:Program} {w:World} {A:Around} {E:Value->Shared->Prop} {s:Shared}
theorem zc (b:Bool) (x y:Value):keyLt' (tuples' b) x y=(do
  let us <- Builtin.List.listItems x
  let vs <- Builtin.List.listItems y
  for ((u,v),k) in (us.toList.zip vs.toList).zipIdx do
   if !(<- eqBool u v) then return <- oneLt' (b && k == 0) u v
  return us.size < vs.size):=rfl
theorem D8 (b:Bool) {x y:Int} {t u:Tok} {Q:Bool->Shared->Prop} (h:Q (decide (x < y)) s):wpAny (model prog w) A (oneLt' b (.int x t) (.int y u)) Q E s:=by
 cases b with
 | true=>exact oneLt_int h
 | false=>
  rw [oneLt'_eq]
  simp only [Bool.false_eq_true,if_false]
  exact wpAny_bind (PySem.P.lt_int (wpAny_truthy_bool h))
theorem ud (b:Bool) {l k:Addr} {xs ys:List Value} {ns ms:List Int} {Q:Bool->Shared->Prop} (hl:IsTup s.heap l xs.toArray) (hk:IsTup s.heap k ys.toArray) (hi:IntsAre xs ns) (hj:IntsAre ys ms) (h:Q (HT.lexLt ns ms) s) :
  wpAny (model prog w) A (keyLt' (tuples' b) (.ref l) (.ref k)) Q E s:=by
 rw [zc]
 obtain ⟨o1,ho1,_,n1,hd1⟩:=hl
 obtain ⟨o2,ho2,_,n2,hd2⟩:=hk
 refine wpAny_bind (listItems_at ho1 hd1 ?_)
 refine wpAny_bind (listItems_at ho2 hd2 ?_)
 have key:∀ (xs ys:List Value) (ns ms:List Int) (n:Nat),IntsAre xs ns->IntsAre ys ms->∀ Q':Option Bool×Unit->Shared->Prop,(∀ r,(r=some (HT.lexLt ns ms)\/(r=none/\HT.lexLt ns ms=decide (xs.length < ys.length)))->Q' (r,()) s) ->
   wpAny (model prog w) A (forIn ((xs.zip ys).zipIdx n) ((none,()):Option Bool×Unit) fun x c=>match x with
      | ((p,q),i)=>do
       let e <- eqBool p q
       if (!e)=true then do
         let r <- oneLt' (b && i == 0) p q
         pure (ForInStep.done (some r,()))
        else pure (ForInStep.yield (none,()))) Q' E s:=by
  intro xs
  induction xs with
  | nil=>
   intro ys ns ms n h1 h2 Q' q
   cases h1
   rw [List.zip_nil_left,List.zipIdx_nil,List.forIn_nil]
   refine wpAny_pure (q none (.inr ⟨rfl,?_⟩))
   cases h2 with
   | nil=>rw [HT.fS];rfl
   | cons a t h2=>rw [HT.dM,decide_eq_true (by simp)]
  | cons v vs ih=>
   intro ys ns ms n h1 h2 Q' q
   cases h1 with
   | cons a t h1=>
    cases h2 with
    | nil=>
     rw [List.zip_nil_right,List.zipIdx_nil,List.forIn_nil]
     exact wpAny_pure (q none (.inr ⟨rfl,by rw [HT.fB,decide_eq_false (by simp)]⟩))
    | cons c u h2=>
     rw [List.zip_cons_cons,List.zipIdx_cons,List.forIn_cons]
     rw [HT.gF] at q
     dsimp only
     refine wpAny_bind (wpAny_bind (wpAny_eqBool_int ?_))
     by_cases e:a=c
     ·rw [if_pos e] at q
      subst e
      simp only [beq_self_eq_true,Bool.not_true,Bool.false_eq_true,if_false]
      refine wpAny_pure (ih _ _ _ _ h1 h2 _ fun r hr=>q r ?_)
      rcases hr with hr | ⟨hr,hz⟩
      ·exact .inl hr
      ·exact .inr ⟨hr,by rw [hz];simp⟩
     ·rw [if_neg e] at q
      have e':(a == c)=false:=by simpa using e
      simp only [e',Bool.not_false,if_true]
      exact wpAny_bind (D8 _ (wpAny_pure (wpAny_pure (q _ (.inl rfl)))))
 refine wpAny_bind (key xs ys ns ms 0 hi hj _ fun r hr=>?_)
 rcases hr with rfl | ⟨rfl,hz⟩
 ·exact wpAny_pure h
 ·dsimp only
  rw [List.size_toArray,List.size_toArray,<- hz]
  exact wpAny_pure h
end
theorem pW:∀ a:List Int,HT.lexLt a a=false
 | []=>HT.fS
 | x::a=>by rw [HT.gF,if_pos rfl];exact pW a
theorem qw:∀ {a b c:List Int},HT.lexLt a b=true->HT.lexLt b c=true->HT.lexLt a c=true
 | [],[],_,h,_=>by rw [HT.fS] at h;cases h
 | x::a,[],_,h,_=>by rw [HT.fB] at h;cases h
 | _,y::b,[],_,h=>by rw [HT.fB] at h;cases h
 | [],y::b,z::c,_,_=>HT.dM ..
 | x::a,y::b,z::c,h1,h2=>by
  rw [HT.gF] at h1 h2 ⊢
  by_cases e1:x=y
  ·rw [if_pos e1] at h1
   by_cases e2:y=z
   ·rw [if_pos e2] at h2
    rw [if_pos (e1.trans e2)];exact qw h1 h2
   ·rw [if_neg e2] at h2
    have:=of_decide_eq_true h2
    rw [if_neg (by omega)];exact decide_eq_true (by omega)
  ·rw [if_neg e1] at h1
   have l1:=of_decide_eq_true h1
   by_cases e2:y=z
   ·rw [if_neg (by omega)];exact decide_eq_true (by omega)
   ·rw [if_neg e2] at h2
    have:=of_decide_eq_true h2
    rw [if_neg (by omega)];exact decide_eq_true (by omega)
theorem qg:∀ {a b:List Int},HT.lexLt a b=false->HT.lexLt b a=false->a=b
 | [],[],_,_=>rfl
 | [],y::b,h,_=>by rw [HT.dM] at h;cases h
 | x::a,[],_,h=>by rw [HT.dM] at h;cases h
 | x::a,y::b,h1,h2=>by
  rw [HT.gF] at h1 h2
  by_cases e:x=y
  ·rw [if_pos e] at h1
   rw [if_pos e.symm] at h2
   rw [e,qg h1 h2]
  ·rw [if_neg e] at h1
   rw [if_neg (fun z=>e z.symm)] at h2
   have:=of_decide_eq_false h1
   have:=of_decide_eq_false h2
   omega
theorem xj {a b c:List Int} (h:HT.lexLt a c=true):HT.lexLt a b=true\/HT.lexLt b c=true:=by
 cases e:HT.lexLt a b with
 | true=>exact .inl rfl
 | false=>
  right
  cases e2:HT.lexLt b a with
  | true=>exact qw e2 h
  | false=>rw [<- qg e e2];exact h
noncomputable def Dv (kss:List (List Int)):Ord where
 lt i j:=HT.lexLt (kss.getD i []) (kss.getD j [])
 Eo i:=pW _
 tr i j k:=qw
 neg i j k:=xj
section
variable {prog:Program} {w:World} {A:Around} {E:Value->Shared->Prop} {s:Shared}
theorem xH {α β:Type} {M:Model} {f:α->Sem β} (r:α->β):∀ (l:List α),(∀ a∈l,∀ Q:β->Shared->Prop,Q (r a) s->wpAny M A (f a) Q E s)->∀ Q:List β->Shared->Prop,Q (l.map r) s->wpAny M A (l.mapM f) Q E s
 | [],_,Q,q=>by rw [List.mapM_nil];exact wpAny_pure q
 | a::l,h,Q,q=>by
  rw [List.mapM_cons]
  refine wpAny_bind (h a (List.mem_cons_self ..) _ (wpAny_bind (xH r l (fun b hb=>h b (List.mem_cons_of_mem _ hb)) _ (wpAny_pure q))))
theorem wI {α β:Type} {M:Model} {f:α->Sem β} (r:α->β) (l:List α) (h:∀ a∈l,∀ Q:β->Shared->Prop,Q (r a) s->wpAny M A (f a) Q E s) (Q:Array β->Shared->Prop) (q:Q (l.map r).toArray s):wpAny M A (l.toArray.mapM f) Q E s:=by
 rw [List.mapM_toArray,map_eq_pure_bind]
 exact wpAny_bind (xH r l h _ (wpAny_pure q))
theorem BF (u:Value):firstOfTuple' u=(do
  if (<- typeOf u) != .type "tuple" then return none
  return (<- Builtin.List.listItems u)[0]?):=rfl
theorem yi {vs:List Value} (h0:vs≠[]) (ht:∀ v∈vs,∃ (l:Addr) (xs:List Value) (n:Int) (t:Tok),v=.ref l/\IsTup s.heap l (.int n t::xs).toArray) {Q:SortKind->Shared->Prop} (q:Q (tuples' true) s) :
  wpAny (model prog w) A (keyKind' vs.toArray) Q E s:=by
 have ch:∀ v,∃ x:Int×Tok,v∈vs->∃ (l:Addr) (xs:List Value),v=.ref l/\IsTup s.heap l (.int x.1 x.2::xs).toArray:=fun v=>by
  by_cases c:v∈vs
  ·obtain ⟨l,xs,n,t,e1,e2⟩:=ht v c
   exact ⟨(n,t),fun _=>⟨l,xs,e1,e2⟩⟩
  ·exact ⟨(0,0),fun z=>absurd z c⟩
 obtain ⟨F,hF⟩:=Classical.axiomOfChoice ch
 rw [keyKind'_eq]
 refine wpAny_bind (wI (fun v=>some (Value.int (F v).1 (F v).2)) vs (fun v hv Q' q'=>?_) _ ?_)
 ·obtain ⟨l,xs,rfl,o,ho,hc,n,hd⟩:=hF v hv
  rw [BF]
  refine wpAny_bind (wpAny_typeOf (T := "tuple") ⟨o,ho,hc⟩ ?_)
  rw [if_neg (by decide)]
  exact wpAny_bind (listItems_at ho hd (wpAny_pure q'))
 ·rw [if_pos (by simp)]
  refine wpAny_bind (wpAny_rule ?_)
  have e1:(vs.map fun v=>some (Value.int (F v).1 (F v).2)).toArray.filterMap id=(vs.map fun v=>Value.int (F v).1 (F v).2).toArray:=by
   rw [List.filterMap_toArray,List.filterMap_map]
   congr 1
   rw [show (id ∘ fun v=>some (Value.int (F v).1 (F v).2))=fun v=>some (Value.int (F v).1 (F v).2) from rfl]
   exact congrFun List.filterMap_eq_map' vs
  rw [e1,oneTypeOnly'_eq]
  refine wpAny_bind (wpAny_bind (wI (fun _=>Value.type "int") _ (fun v hv Q' q'=>?_) _ ?_))
  ·obtain ⟨u,_,rfl⟩:=List.mem_map.mp hv
   exact wpAny_pure q'
  ·rw [List.map_map]
   obtain ⟨v0,vs',rfl⟩:∃ v0 vs',vs=v0::vs':=by
    cases vs with
    | nil=>exact absurd rfl h0
    | cons a b=>exact ⟨a,b,rfl⟩
   have ha:((List.map ((fun _=>Value.type "int") ∘ fun v=>Value.int (F v).1 (F v).2) (v0::vs')).toArray.all fun x=>x == Value.type "int")=true:=by
    simp only [List.all_toArray,List.all_map,List.all_eq_true]
    intro _ _
    rfl
   have hz:(List.map ((fun _=>Value.type "int") ∘ fun v=>Value.int (F v).1 (F v).2) (v0::vs')).toArray[0]?=some (Value.type "int"):=by simp
   rw [hz]
   simp only [ha,if_true]
   exact wpAny_pure (wpAny_pure q)
end
end Sx
namespace L2
open PySem PySem.Spec PyProof.Rows
section
variable {X:Cx}
theorem oO:∀ {rs:List Addr} {its:List Value},Vals (rs.map V.ref) its->its=rs.map Value.ref
 | [],_,r=>by cases r;rfl
 | a::rs,_,r=>by
  cases r with
  | cons h t=>
   have e:_=Value.ref a:=h
   rw [e,oO t];rfl
theorem pH:∀ (rs:List Addr),Vals (rs.map V.ref) (rs.map Value.ref)
 | []=>.nil
 | a::rs=>.cons (show RelV (.ref a) (.ref a) from rfl) (pH rs)
theorem pY:br X (.builtin "sorted") (fun xs H Q=>∃ (p:Addr) (rs:List Addr) (kss:List (List Int)),xs=[.ref p]/\dQ X.K H p (rs.map V.ref)/\rs.length=kss.length /\
  (∀ (i:Nat) (r:Addr) (ks:List Int),rs[i]?=some r->kss[i]?=some ks->cI X.K H r (ks.map V.int)/\ks≠[]) /\
  ∀ l g,H l=none->Sx.Cl g 0 kss.length->Sx.So (Sx.Dv kss) g 0 kss.length->Q (.ref l) (upd H l (.lst (((List.range kss.length).map fun i=>rs.getD (g i) 0).map V.ref)))):=by
 intro pins s σ H xs us Q I r h
 obtain ⟨p,rs,kss,rfl,hq,hlen,hT,q⟩:=h
 obtain ⟨u,rfl,rx⟩:=vals1 r
 cases rx
 obtain ⟨its,rv,pl,hz⟩:=I.list hq
 have ei:=oO rv
 subst ei
 obtain ⟨o,ho,hcl,n,hd⟩:=pl.isList
 rw [List.length_map] at hz
 have hN:(rs.map Value.ref).length=kss.length:=by rw [List.length_map,hlen]
 refine Calls.call_function_entry kind_sorted plain_sorted entry_sorted (args_sorted1 _) ?_
 unfold Builtin.«sorted»
 refine wpAny_bind (m:=checkCount "sorted" 1 1 _) (wpAny_pure ?_)
 refine wpAny_bind (wpAny_collect_seq p (.inl rfl) ho hcl hd (fun h' hk=>?_) (by rw [List.size_toArray,hN];omega))
 refine wpAny_bind (wpAny_newList ?_)
 have hoL:(h'.push (seqObj "list" (rs.map Value.ref).toArray 0)).get? h'.objs.size=some (seqObj "list" (rs.map Value.ref).toArray 0):=Heap.get?_push_size _ rfl
 show wpAny _ _ _ _ _ { s with heap:=h'.push (seqObj "list" (rs.map Value.ref).toArray 0) }
 have I1:Inv X pins σ H { s with heap:=h' }:=I.kept (t':=s.toks) hk
 have tup:∀ (i:Nat) (r:Addr) (ks:List Int),rs[i]?=some r->kss[i]?=some ks->∃ its:List Value,IntsAre its ks/\IsTup (Sx.uM (h'.push (seqObj "list" (rs.map Value.ref).toArray 0)) h'.objs.size (rs.map Value.ref)) r its.toArray:=fun i r ks e1 e2=>by
  obtain ⟨its,rv,⟨o,ho,hc,n,hd⟩,_⟩:=I1.tuple (hT i r ks e1 e2).1
  refine ⟨its,intsAre_of rv,o,?_,hc,n,hd⟩
  have lt:r < h'.objs.size:=Heap.lt_size ho
  rw [Sx.Dp (Nat.ne_of_lt lt) (by rw [Heap.size_push];exact Nat.lt_succ_of_lt lt)]
  exact Heap.get?_push_of_some _ ho
 refine wpAny_bind (wpAny_holding (wpAny_call_entry slot_list_sort ⟨_,hoL,rfl⟩ entry_list_sort (Sx.yp (o:=Sx.Dv kss) (kd:=tuples' true) hoL (by rw [hN];omega) (fun h2 Q' q'=>?_) (fun h2 i j hi hj E' Q' q'=>?_) fun g hc hs=>⟨_,rfl,?_⟩) (args_list_sort _)))
 ·refine Sx.yi (fun z=>by rw [z] at h2;simp at h2) (fun v hv=>?_) q'
  obtain ⟨i,hi⟩:=List.getElem?_of_mem hv
  rw [List.getElem?_map] at hi
  obtain ⟨r,hr,rfl⟩:=Option.map_eq_some_iff.mp hi
  have lt:=(List.getElem?_eq_some_iff.mp hr).1
  have e2:kss[i]?=some kss[i]:=List.getElem?_eq_getElem (by omega)
  obtain ⟨its,h1,h3⟩:=tup i r _ hr e2
  have hne:=(hT i r _ hr e2).2
  generalize kss[i]=ks at h1 hne
  cases h1 with
  | nil=>exact absurd rfl hne
  | cons a t h1=>exact ⟨r,_,a,t,rfl,h3⟩
 ·rw [hN] at hi hj
  have e1:rs[i]?=some (rs[i]'(by omega)):=List.getElem?_eq_getElem _
  have e2:rs[j]?=some (rs[j]'(by omega)):=List.getElem?_eq_getElem _
  have k1:kss[i]?=some kss[i]:=List.getElem?_eq_getElem hi
  have k2:kss[j]?=some kss[j]:=List.getElem?_eq_getElem hj
  obtain ⟨x1,a1,b1⟩:=tup i _ _ e1 k1
  obtain ⟨x2,a2,b2⟩:=tup j _ _ e2 k2
  have v1:(rs.map Value.ref).getD i .none=.ref (rs[i]'(by omega)):=by rw [List.getD_eq_getElem?_getD,List.getElem?_map,e1];rfl
  have v2:(rs.map Value.ref).getD j .none=.ref (rs[j]'(by omega)):=by rw [List.getD_eq_getElem?_getD,List.getElem?_map,e2];rfl
  show wpAny _ _ (keyLt' (tuples' true) ((rs.map Value.ref).getD i .none) ((rs.map Value.ref).getD j .none)) Q' E' _
  rw [v1,v2]
  refine Sx.ud true b1 b2 a1 a2 ?_
  have d1:kss.getD i []=kss[i]:=by rw [List.getD_eq_getElem?_getD,k1];rfl
  have d2:kss.getD j []=kss[j]:=by rw [List.getD_eq_getElem?_getD,k2];rfl
  have:(Sx.Dv kss).lt i j=HT.lexLt kss[i] kss[j]:=by show HT.lexLt _ _=_;rw [d1,d2]
  rw [<- this];exact q'
 ·rw [hN] at hc hs ⊢
  obtain ⟨e,he⟩:=sortedHeap_at (out:=((List.range kss.length).map fun i=>(rs.map Value.ref).getD (g i) .none).toArray) hoL
  have old:∀ b ob,h'.get? b=some ob->(sortedHeap (h'.push (seqObj "list" (rs.map Value.ref).toArray 0)) h'.objs.size (rs.map Value.ref) ((List.range kss.length).map fun i=>(rs.map Value.ref).getD (g i) .none).toArray).get? b=some ob:=fun b ob eb=>by
   rw [sortedHeap_old (Nat.ne_of_lt (Heap.lt_size eb)) (by rw [Heap.size_push];exact Nat.lt_succ_of_lt (Heap.lt_size eb))]
   exact Heap.get?_push_of_some _ eb
  refine wpAny_pure ⟨_,rfl,.ref h'.objs.size,_,I1.laid (t':=s.toks) (o:=.lst (((List.range kss.length).map fun i=>rs.getD (g i) 0).map V.ref)) old (Nat.le_refl _) ?_,rfl,q _ g (I1.hok.fresh (Nat.le_refl _)) hc hs⟩
  refine ⟨by rw [List.length_map,List.length_map,List.length_range];omega,((List.range kss.length).map fun i=>rs.getD (g i) 0).map Value.ref,e,pH _,?_⟩
  rw [he]
  congr 2
  rw [List.map_map]
  congr 1
  refine List.map_congr_left fun i hi=>?_
  have:=(hc i (Nat.zero_le _) (List.mem_range.mp hi)).2
  have lt:g i < rs.length:=by omega
  show (rs.map Value.ref).getD (g i) .none=Value.ref (rs.getD (g i) 0)
  rw [List.getD_eq_getElem?_getD,List.getElem?_map,List.getElem?_eq_getElem lt,List.getD_eq_getElem?_getD,List.getElem?_eq_getElem lt];rfl
end
end L2
namespace Sx
open PySem PyProof.Rows
open PySem.AutoSeq1 (wpAny_loadPart')
open PySem.MeetsSeq PySem.MeetsSeq2 PySem.MeetsSeq3
section
variable {prog:Program} {w:World} {A:Around} {E:Value->Shared->Prop} {s:Shared}
end
end Sx
namespace L2
open PySem PySem.Spec PyProof.Rows
section
variable {X:Cx}
end
end L2
namespace Am
open PySem
inductive A where
 | unb | non | bl (b:Bool) | int (i:Int) | str (x:Str) | tup (xs:List A) | frz (xs:List A) | rng (lo hi:Int) | ref (n:Nat) | exn (c:Str) | ty (n:String)
inductive O where
 | lst (xs:List A) | dct (kvs:List (List Int×A)) | dki (kvs:List (Int×A)) | ins (c:Str) (fs:List (Str×A))
noncomputable abbrev aA:=List O
inductive R (α:Type) where
 | ok (a:α) (S:aA) | ex (c:Str) (S:aA) | no
noncomputable def R.bind {α β:Type} (r:R α) (f:α->aA->R β):R β:=match r with
 | .ok a S=>f a S
 | .ex c S=>.ex c S
 | .no=>.no
noncomputable def R.post {α:Type} (r:R α) (P:α->aA->Prop) (E:Str->aA->Prop):Prop:=match r with
 | .ok a S=>P a S
 | .ex c S=>E c S
 | .no=>False
theorem aH {α β:Type} {r:R α} {f:α->aA->R β} {P:β->aA->Prop} {E:Str->aA->Prop} (h:(r.bind f).post P E):r.post (fun a S=>(f a S).post P E) E:=by
 cases r <;> exact h
theorem kB {α:Type} {r:R α} {P P':α->aA->Prop} {E E':Str->aA->Prop} (h:r.post P E) (hp:∀ a S,P a S->P' a S) (he:∀ c S,E c S->E' c S):r.post P' E':=by
 cases r with
 | ok a S=>exact hp _ _ h
 | ex c S=>exact he _ _ h
 | no=>exact h.elim
noncomputable def gd {α:Type} (c:Prop) [Decidable c] (r:R α):R α:=if c then r else .no
noncomputable def opt {α β:Type} (o:Option β) (f:β->R α):R α:=match o with
 | some b=>f b
 | none=>.no
theorem aW {α:Type} {c:Prop} [Decidable c] {r:R α} {P:α->aA->Prop} {E:Str->aA->Prop} (h:(gd c r).post P E):c/\r.post P E:=by
 unfold gd at h
 by_cases hc:c
 ·rw [if_pos hc] at h;exact ⟨hc,h⟩
 ·rw [if_neg hc] at h;exact h.elim
theorem aG {α β:Type} {o:Option β} {f:β->R α} {P:α->aA->Prop} {E:Str->aA->Prop} (h:(opt o f).post P E):∃ b,o=some b/\(f b).post P E:=by
 cases o with
 | none=>exact h.elim
 | some b=>exact ⟨b,rfl,h⟩
theorem GF {α:Type} {c:Prop} [Decidable c] {r:R α} (h:c):gd c r=r:=if_pos h
noncomputable def ak (S:aA) (n:Nat):Option (List A):=match S[n]? with
 | some (.lst xs)=>some xs
 | _=>none
theorem aO {S:aA} {n:Nat} {xs:List A} (h:ak S n=some xs):S[n]?=some (.lst xs):=by
 unfold ak at h
 split at h
 ·rename_i e;cases h;exact e
 ·cases h
theorem jM {S:aA} {n:Nat} {xs:List A} (h:S[n]?=some (.lst xs)):ak S n=some xs:=by
 unfold ak;rw [h]
inductive RS where
 | nx (τ:List A) (S:aA) | rt (a:A) (S:aA) | bk (τ:List A) (S:aA) | ct (τ:List A) (S:aA) | ex (c:Str) (S:aA) | no
noncomputable abbrev Ex:=List A->aA->R A
noncomputable abbrev gp:=List A->aA->R (List A)
noncomputable abbrev Te:=List A->aA->R Bool
noncomputable abbrev Sm:=List A->aA->RS
noncomputable abbrev Tg:=A->List A->aA->R (List A)
end Am
namespace Am
open PySem L2
section
variable (K:PySem.W.Frag) (ρ:List Addr) (H:Hp)
noncomputable def s_ (K:PySem.W.Frag) (c:Str) (C:Addr):Prop:=PySem.W.nsIn K mainGlobals c=some (some (.ref C))
noncomputable def Fz (K:PySem.W.Frag) (H:Hp) (a:Addr) (vs:List V):Prop:=
 (∃ o,H a=some (.frz o (.lst vs)))\/∃ (o:Obj) (its:Array Value) (n:Nat),K.lookup a=some o/\o.cls=.type "list" /\ o.dict=none/\o.data=.seq its n/\its.size<=sizeLine/\Vals vs its.toList
mutual
inductive AV:A->V->Prop
 | non:AV .non .non
 | bl (b:Bool):AV (.bl b) (.bl b)
 | int (i:Int):AV (.int i) (.int i)
 | str (x:Str):AV (.str x) (.str x)
 | ty (n:String):AV (.ty n) (.ty n)
 | tup {a:Addr} {xs:List A} {vs:List V} (h:H a=some (.tup vs)) (r:AVs xs vs):AV (.tup xs) (.ref a)
 | frz {a:Addr} {xs:List A} {vs:List V} (h:Fz K H a vs) (r:AVs xs vs):AV (.frz xs) (.ref a)
 | rng {a:Addr} {lo hi:Int} (h:H a=some (.rng lo hi)):AV (.rng lo hi) (.ref a)
 | ref {a:Addr} {n:Nat} (h:ρ[n]?=some a):AV (.ref n) (.ref a)
 | exn {a C:Addr} {c:Str} {oe:Obj} (n:s_ K c C) (h:H a=some (.frz oe xu)) (x:XO C oe):AV (.exn c) (.ref a)
inductive AVs:List A->List V->Prop
 | nil:AVs [] []
 | cons {x:A} {v:V} {xs:List A} {vs:List V} (h:AV x v) (t:AVs xs vs):AVs (x::xs) (v::vs)
end
noncomputable def DV:List (List Int×A)->List (List Key×V)->Prop
 | [],[]=>True
 | p::r,q::r'=>(q.1=p.1.map Sum.inl/\AV K ρ H p.2 q.2)/\DV r r'
 | _,_=>False
noncomputable def DI:List (Int×A)->List (Key×V)->Prop
 | [],[]=>True
 | p::r,q::r'=>(q.1=Sum.inl p.1/\AV K ρ H p.2 q.2)/\DI r r'
 | _,_=>False
noncomputable def OR (a:Addr):O->Prop
 | .lst xs=>∃ vs,H a=some (.lst vs)/\AVs K ρ H xs vs
 | .dct kvs=>∃ ks,H a=some (.dT ks)/\DV K ρ H kvs ks
 | .dki kvs=>∃ ks,H a=some (.dK ks)/\DI K ρ H kvs ks
 | .ins _ _=>∃ o u,H a=some (.frz o u)
structure Rel (S:aA):Prop where
 len:ρ.length=S.length
 nd:ρ.Nodup
 «at»:∀ (n:Nat) (a:Addr) (o:O),ρ[n]?=some a->S[n]?=some o->OR K ρ H a o
end
noncomputable def Np:HO->Prop
 | .tup _=>True
 | .rng _ _=>True
 | .frz _ _=>True
 | _=>False
structure Ext0 (ρ ρ':List Addr) (H H':Hp):Prop where
 pre:ρ <+: ρ'
 im:∀ a u,Np u->H a=some u->H' a=some u
structure Ext (ρ ρ':List Addr) (H H':Hp):Prop extends Ext0 ρ ρ' H H' where
 fr:∀ a u,H a=some u->a∉ρ->H' a=some u
 nw:∀ a,a∈ρ'->a∈ρ\/H a=none
theorem Ext.refl {ρ:List Addr} {H:Hp}:Ext ρ ρ H H:=⟨⟨List.prefix_refl _,fun _ _ _ h=>h⟩,fun _ _ h _=>h,fun _ h=>.inl h⟩
theorem Ext.trans {ρ ρ1 ρ2:List Addr} {H H1 H2:Hp} (a:Ext ρ ρ1 H H1) (b:Ext ρ1 ρ2 H1 H2):Ext ρ ρ2 H H2:=⟨⟨a.pre.trans b.pre,fun x u i h=>b.im x u i (a.im x u i h)⟩,fun x u h n=>b.fr x u (a.fr x u h n) fun z=>(a.nw x z).elim n fun z=>by (rw [z] at h;cases h),fun x h=>by
 by_cases hx:x∈ρ
 ·exact .inl hx
 ·right
  cases q:H x with
  | none=>rfl
  | some u=>
   rcases b.nw x h with z | z
   ·exact ((a.nw x z).elim hx fun z=>by (rw [z] at q;cases q)).elim
   ·rw [a.fr x u q hx] at z;cases z⟩
theorem Ext0.get {ρ ρ':List Addr} {H H':Hp} (e:Ext0 ρ ρ' H H') {n:Nat} {a:Addr} (h:ρ[n]?=some a):ρ'[n]?=some a:=by
 obtain ⟨t,rfl⟩:=e.pre
 rw [List.getElem?_append_left (List.getElem?_eq_some_iff.mp h).1]
 exact h
section
variable {K:PySem.W.Frag} {ρ ρ':List Addr} {H H':Hp}
theorem Ext0.Nd (e:Ext0 ρ ρ' H H') {a:Addr} {vs:List V} (h:cI K H a vs):cI K H' a vs:=by
 rcases h with (h | ⟨o,h⟩) | h
 ·exact .inl (.inl (e.im _ _ trivial h))
 ·exact .inl (.inr ⟨o,e.im _ _ trivial h⟩)
 ·exact .inr h
theorem Ext0.fz (e:Ext0 ρ ρ' H H') {a:Addr} {vs:List V} (h:Fz K H a vs):Fz K H' a vs:=by
 rcases h with ⟨o,h⟩ | h
 ·exact .inl ⟨o,e.im _ _ trivial h⟩
 ·exact .inr h
theorem Fz.zA {a:Addr} {vs:List V} (h:Fz K H a vs):dQ K H a vs:=by
 rcases h with ⟨o,h⟩ | h
 ·exact .inl (.inr ⟨o,h⟩)
 ·exact .inr h
mutual
theorem AV.cX (e:Ext0 ρ ρ' H H'):∀ {x:A} {v:V},AV K ρ H x v->AV K ρ' H' x v
 | _,_,.non=>.non
 | _,_,.bl b=>.bl b
 | _,_,.int i=>.int i
 | _,_,.str x=>.str x
 | _,_,.ty x=>.ty x
 | _,_,.tup h r=>.tup (e.im _ _ trivial h) (AVs.cX e r)
 | _,_,.frz h r=>.frz (e.fz h) (AVs.cX e r)
 | _,_,.rng h=>.rng (e.im _ _ trivial h)
 | _,_,.ref h=>.ref (e.get h)
 | _,_,.exn n h x=>.exn n (e.im _ _ trivial h) x
theorem AVs.cX (e:Ext0 ρ ρ' H H'):∀ {xs:List A} {vs:List V},AVs K ρ H xs vs->AVs K ρ' H' xs vs
 | _,_,.nil=>.nil
 | _,_,.cons h t=>.cons (AV.cX e h) (AVs.cX e t)
end
theorem DV.cX (e:Ext0 ρ ρ' H H'):∀ {xs:List (List Int×A)} {vs:List (List Key×V)},DV K ρ H xs vs->DV K ρ' H' xs vs
 | [],[],_=>trivial
 | _::_,_::_,⟨⟨a,b⟩,r⟩=>⟨⟨a,AV.cX e b⟩,DV.cX e r⟩
theorem DV.ext {x:List (List Int×A)} {v:List (List Key×V)} (h:DV K ρ H x v) (e:Ext ρ ρ' H H'):DV K ρ' H' x v:=DV.cX e.toExt0 h
theorem DI.cX (e:Ext0 ρ ρ' H H'):∀ {xs:List (Int×A)} {vs:List (Key×V)},DI K ρ H xs vs->DI K ρ' H' xs vs
 | [],[],_=>trivial
 | _::_,_::_,⟨⟨a,b⟩,r⟩=>⟨⟨a,AV.cX e b⟩,DI.cX e r⟩
theorem DI.ext {x:List (Int×A)} {v:List (Key×V)} (h:DI K ρ H x v) (e:Ext ρ ρ' H H'):DI K ρ' H' x v:=DI.cX e.toExt0 h
theorem AV.ext {x:A} {v:V} (h:AV K ρ H x v) (e:Ext ρ ρ' H H'):AV K ρ' H' x v:=AV.cX e.toExt0 h
theorem AVs.ext {x:List A} {v:List V} (h:AVs K ρ H x v) (e:Ext ρ ρ' H H'):AVs K ρ' H' x v:=AVs.cX e.toExt0 h
theorem AVs.length:∀ {xs:List A} {vs:List V},AVs K ρ H xs vs->xs.length=vs.length
 | _,_,.nil=>rfl
 | _,_,.cons _ t=>congrArg (·+1) (AVs.length t)
theorem AVs.append:∀ {xs ys:List A} {vs ws:List V},AVs K ρ H xs vs->AVs K ρ H ys ws->AVs K ρ H (xs++ys) (vs++ws)
 | _,_,_,_,.nil,s=>s
 | _,_,_,_,.cons h t,s=>.cons h (AVs.append t s)
theorem AVs.take:∀ {xs:List A} {vs:List V} (n:Nat),AVs K ρ H xs vs->AVs K ρ H (xs.take n) (vs.take n)
 | _,_,0,_=>.nil
 | _,_,_+1,.nil=>.nil
 | _,_,n+1,.cons h t=>.cons h (AVs.take n t)
theorem AVs.drop:∀ {xs:List A} {vs:List V} (n:Nat),AVs K ρ H xs vs->AVs K ρ H (xs.drop n) (vs.drop n)
 | _,_,0,r=>r
 | _,_,_+1,.nil=>.nil
 | _,_,n+1,.cons _ t=>AVs.drop n t
theorem AVs.reverse:∀ {xs:List A} {vs:List V},AVs K ρ H xs vs->AVs K ρ H xs.reverse vs.reverse
 | _,_,.nil=>.nil
 | _,_,.cons h t=>by rw [List.reverse_cons,List.reverse_cons];exact (AVs.reverse t).append (.cons h .nil)
theorem AVs.get:∀ {xs:List A} {vs:List V} {i:Nat} {x:A},AVs K ρ H xs vs->xs[i]?=some x->∃ v,vs[i]?=some v/\AV K ρ H x v
 | _,_,_,_,.nil,e=>by simp at e
 | _,_,0,_,.cons h _,e=>by simp at e;subst e;exact ⟨_,rfl,h⟩
 | _,_,i+1,x,.cons _ t,e=>by
  obtain ⟨u,h1,h2⟩:=AVs.get (i:=i) (x:=x) t (by simpa using e)
  exact ⟨u,by simpa using h1,h2⟩
theorem AVs.set {x:A} {v:V} (h:AV K ρ H x v):∀ {xs:List A} {vs:List V} (i:Nat),AVs K ρ H xs vs->AVs K ρ H (xs.set i x) (vs.set i v)
 | _,_,_,.nil=>.nil
 | _,_,0,.cons _ t=>.cons h t
 | _,_,i+1,.cons q t=>.cons q (AVs.set h i t)
theorem AVs.one {x:A} {v:V} (h:AV K ρ H x v):AVs K ρ H [x] [v]:=.cons h .nil
theorem fj:∀ (ns:List Int),AVs K ρ H (ns.map .int) (ns.map .int)
 | []=>.nil
 | n::ns=>.cons (.int n) (fj ns)
theorem Rel.lay {S:aA} {p:Addr} {xs:List A} {vs:List V} (R:Rel K ρ H S) (hp:H p=none) (r:AVs K ρ H xs vs):Ext ρ (ρ++[p]) H (upd H p (.lst vs))/\Rel K (ρ++[p]) (upd H p (.lst vs)) (S++[.lst xs])/\(ρ++[p])[S.length]?=some p:=by
 have ex:Ext ρ (ρ++[p]) H (upd H p (.lst vs)):=⟨⟨List.prefix_append _ _,fun a u _ h=>by rw [aI (aQ h hp)];exact h⟩,fun a u h _=>by rw [aI (aQ h hp)];exact h,fun a h=>by
  rcases List.mem_append.mp h with z | z
  ·exact .inl z
  ·have e:a=p:=by simpa using z
   rw [e];exact .inr hp⟩
 have np:∀ (n:Nat) (a:Addr),ρ[n]?=some a->a≠p:=by
  intro n a e z
  subst z
  have hn:n < S.length:=by rw [<- R.len];exact (List.getElem?_eq_some_iff.mp e).1
  have:=R.at n a S[n] e (List.getElem?_eq_getElem hn)
  cases ho:S[n] with
  | lst xs=>rw [ho] at this;obtain ⟨vs,h,_⟩:=this;rw [hp] at h;cases h
  | dct _ | dki _=>rw [ho] at this;obtain ⟨vs,h,_⟩:=this;rw [hp] at h;cases h
  | ins _ _=>rw [ho] at this;obtain ⟨_,_,h⟩:=this;rw [hp] at h;cases h
 have last:(ρ++[p])[S.length]?=some p:=by rw [<- R.len];simp
 refine ⟨ex,⟨by simp [R.len],?_,?_⟩,last⟩
 ·rw [List.nodup_append]
  refine ⟨R.nd,by simp,fun a ha b hb e=>?_⟩
  have:b=p:=by simpa using hb
  obtain ⟨n,hn,e'⟩:=List.mem_iff_getElem.mp ha
  exact np n a (by rw [List.getElem?_eq_getElem hn,e']) (e.trans this)
 ·intro n a o h1 h2
  by_cases hn:n < S.length
  ·rw [List.getElem?_append_left (by rw [R.len];exact hn)] at h1
   rw [List.getElem?_append_left hn] at h2
   have:=R.at n a o h1 h2
   cases o with
   | lst ys=>obtain ⟨ws,e,q⟩:=this;exact ⟨ws,by rw [aI (np n a h1)];exact e,q.ext ex⟩
   | dct _ | dki _=>obtain ⟨ws,e,q⟩:=this;exact ⟨ws,by rw [aI (np n a h1)];exact e,q.ext ex⟩
   | ins _ _=>obtain ⟨oo,uu,e⟩:=this;exact ⟨oo,uu,by rw [aI (np n a h1)];exact e⟩
  ·have e:n=S.length:=by
    have:=(List.getElem?_eq_some_iff.mp h2).1
    simp at this
    omega
   subst e
   rw [last] at h1
   cases h1
   simp at h2
   subst h2
   exact ⟨vs,aY,r.ext ex⟩
theorem Rel.im {S:aA} {p:Addr} {u:HO} (R:Rel K ρ H S) (hp:H p=none):Ext ρ ρ H (upd H p u)/\Rel K ρ (upd H p u) S:=by
 have ex:Ext ρ ρ H (upd H p u):=⟨⟨List.prefix_refl _,fun a u _ h=>by rw [aI (aQ h hp)];exact h⟩,fun a u h _=>by rw [aI (aQ h hp)];exact h,fun _ h=>.inl h⟩
 refine ⟨ex,R.len,R.nd,fun n a o h1 h2=>?_⟩
 have:=R.at n a o h1 h2
 cases o with
 | lst ys=>obtain ⟨ws,e,q⟩:=this;exact ⟨ws,by rw [aI (aQ e hp)];exact e,q.ext ex⟩
 | dct _ | dki _=>obtain ⟨ws,e,q⟩:=this;exact ⟨ws,by rw [aI (aQ e hp)];exact e,q.ext ex⟩
 | ins _ _=>obtain ⟨oo,uu,e⟩:=this;exact ⟨oo,uu,by rw [aI (aQ e hp)];exact e⟩
theorem Rel.put {S:aA} {n:Nat} {a:Addr} {xs ys:List A} {ws:List V} (R:Rel K ρ H S) (ha:ρ[n]?=some a) (hS:S[n]?=some (.lst xs)) (r:AVs K ρ H ys ws):Ext ρ ρ H (upd H a (.lst ws))/\Rel K ρ (upd H a (.lst ws)) (S.set n (.lst ys)):=by
 obtain ⟨vs,e,_⟩:=R.at n a _ ha hS
 have ex:Ext ρ ρ H (upd H a (.lst ws)):=⟨⟨List.prefix_refl _,fun b u i h=>by
  have:b≠a:=by
   intro z;subst z;rw [e] at h;cases h;exact i
  rw [aI this];exact h⟩,fun b u h n=>by
  rw [aI (fun z=>n (by rw [z];exact List.mem_of_getElem? ha))];exact h,fun _ h=>.inl h⟩
 refine ⟨ex,by rw [List.length_set];exact R.len,R.nd,fun m b o h1 h2=>?_⟩
 by_cases hm:m=n
 ·subst hm
  rw [ha] at h1;cases h1
  rw [List.getElem?_set_self (List.getElem?_eq_some_iff.mp hS).1] at h2
  cases h2
  exact ⟨ws,aY,r.ext ex⟩
 ·rw [List.getElem?_set_ne (Ne.symm hm)] at h2
  have nb:b≠a:=fun z=>by
   subst z
   obtain ⟨l1,e1⟩:=List.getElem?_eq_some_iff.mp ha
   obtain ⟨l2,e2⟩:=List.getElem?_eq_some_iff.mp h1
   exact hm ((List.getElem_inj R.nd).mp (e2.trans e1.symm))
  have:=R.at m b o h1 h2
  cases o with
  | lst ys=>obtain ⟨ws',e',q⟩:=this;exact ⟨ws',by rw [aI nb];exact e',q.ext ex⟩
  | dct _ | dki _=>obtain ⟨ws',e',q⟩:=this;exact ⟨ws',by rw [aI nb];exact e',q.ext ex⟩
  | ins _ _=>obtain ⟨oo,uu,e'⟩:=this;exact ⟨oo,uu,by rw [aI nb];exact e'⟩
theorem Rel.lst {S:aA} {n:Nat} {a:Addr} {xs:List A} (R:Rel K ρ H S) (ha:ρ[n]?=some a) (hS:S[n]?=some (.lst xs)):∃ vs,H a=some (.lst vs)/\AVs K ρ H xs vs:=R.at n a _ ha hS
structure SR (K:PySem.W.Frag) (ρ:List Addr) (H:Hp) (τ:List A) (σ:St):Prop where
 len:τ.length=σ.length
 «at»:∀ (i:Nat) (a:A),τ[i]?=some a->a=.unb\/∃ v,σ[i]?=some (some v)/\AV K ρ H a v
theorem SR.cX {τ:List A} {σ:St} (s:SR K ρ H τ σ) (e:Ext0 ρ ρ' H H'):SR K ρ' H' τ σ:=⟨s.len,fun i a h=>by
 rcases s.at i a h with z | ⟨v,h1,h2⟩
 ·exact .inl z
 ·exact .inr ⟨v,h1,AV.cX e h2⟩⟩
theorem SR.ext {τ:List A} {σ:St} (s:SR K ρ H τ σ) (e:Ext ρ ρ' H H'):SR K ρ' H' τ σ:=s.cX e.toExt0
theorem Rel.out {S:aA} {D:Addr} {vs ws:List V} (R:Rel K ρ H S) (hD:H D=some (.lst vs)) (hn:D∉ρ):Ext0 ρ ρ H (upd H D (.lst ws))/\Rel K ρ (upd H D (.lst ws)) S:=by
 have ex:Ext0 ρ ρ H (upd H D (.lst ws)):=⟨List.prefix_refl _,fun b u i h=>by
  have:b≠D:=by
   intro z;subst z;rw [hD] at h;cases h;exact i
  rw [aI this];exact h⟩
 refine ⟨ex,R.len,R.nd,fun n a o h1 h2=>?_⟩
 have na:a≠D:=fun z=>hn (by rw [<- z];exact List.mem_of_getElem? h1)
 have:=R.at n a o h1 h2
 cases o with
 | lst ys=>obtain ⟨ws',e,q⟩:=this;exact ⟨ws',by rw [aI na];exact e,AVs.cX ex q⟩
 | dct _ | dki _=>obtain ⟨ws',e,q⟩:=this;exact ⟨ws',by rw [aI na];exact e,q.cX ex⟩
 | ins _ _=>obtain ⟨oo,uu,e⟩:=this;exact ⟨oo,uu,by rw [aI na];exact e⟩
theorem Rel.take {S:aA} {D:Addr} {xs:List A} {vs:List V} (R:Rel K ρ H S) (hD:H D=some (.lst vs)) (hn:D∉ρ) (r:AVs K ρ H xs vs):Rel K (ρ++[D]) H (S++[.lst xs])/\(ρ++[D])[S.length]?=some D:=by
 have ex:Ext0 ρ (ρ++[D]) H H:=⟨List.prefix_append _ _,fun _ _ _ h=>h⟩
 have last:(ρ++[D])[S.length]?=some D:=by rw [<- R.len];simp
 refine ⟨⟨by simp [R.len],?_,fun n a o h1 h2=>?_⟩,last⟩
 ·rw [List.nodup_append]
  refine ⟨R.nd,by simp,fun a ha b hb e=>?_⟩
  have:b=D:=by simpa using hb
  exact hn (by rw [<- this,<- e];exact ha)
 ·by_cases hs:n < S.length
  ·rw [List.getElem?_append_left (by rw [R.len];exact hs)] at h1
   rw [List.getElem?_append_left hs] at h2
   have:=R.at n a o h1 h2
   cases o with
   | lst ys=>obtain ⟨ws,e,q⟩:=this;exact ⟨ws,e,AVs.cX ex q⟩
   | dct _ | dki _=>obtain ⟨ws,e,q⟩:=this;exact ⟨ws,e,q.cX ex⟩
   | ins _ _=>obtain ⟨oo,uu,e⟩:=this;exact ⟨oo,uu,e⟩
  ·have e:n=S.length:=by
    have:=(List.getElem?_eq_some_iff.mp h2).1
    simp at this
    omega
   subst e
   rw [last] at h1
   cases h1
   simp at h2
   subst h2
   exact ⟨vs,hD,AVs.cX ex r⟩
theorem SR.set {τ:List A} {σ:St} {i:Nat} {a:A} {v:V} (s:SR K ρ H τ σ) (h:AV K ρ H a v):SR K ρ H (τ.set i a) (σ.set i (some v)):=by
 refine ⟨by simp [s.len],fun j b e=>?_⟩
 by_cases hj:j=i
 ·subst hj
  have hl:j < τ.length:=by
   have:=(List.getElem?_eq_some_iff.mp e).1
   simpa using this
  rw [List.getElem?_set_self hl] at e
  cases e
  exact .inr ⟨v,List.getElem?_set_self (by rw [<- s.len];exact hl),h⟩
 ·rw [List.getElem?_set_ne (Ne.symm hj)] at e
  rw [List.getElem?_set_ne (Ne.symm hj)]
  exact s.at j b e
end
end Am
namespace Am
open PySem PySem.Spec PyProof.Rows L2
noncomputable def XE (X:Cx) (ρ:List Addr) (H:Hp):Str->aA->Prop:=fun c S'=>∀ (C:Addr) (ρ':List Addr) (H':Hp),s_ X.K c C->Ext ρ ρ' H H'->Rel X.K ρ' H' S'->EX X (.ref C) none H'
theorem XE.ext {X:Cx} {ρ ρ':List Addr} {H H':Hp} {c:Str} {S:aA} (h:XE X ρ H c S) (e:Ext ρ ρ' H H'):XE X ρ' H' c S:=fun C ρ2 H2 n e2=>h C ρ2 H2 n (e.trans e2)
noncomputable def lA (X:Cx) (ρ:List Addr) (H:Hp) (Q:VK):A->aA->Prop:=fun a S'=>∀ ρ' H' v,Ext ρ ρ' H H'->Rel X.K ρ' H' S'->AV X.K ρ' H' a v->Q v H'
noncomputable def Lq (X:Cx) (ρ:List Addr) (H:Hp) (Q:Bool->Hp->Prop):Bool->aA->Prop:=fun b S'=>∀ ρ' H',Ext ρ ρ' H H'->Rel X.K ρ' H' S'->Q b H'
noncomputable def Nh (X:Cx) (ρ:List Addr) (H:Hp) (Q:List V->Hp->Prop):List A->aA->Prop:=fun as S'=>∀ ρ' H' vs,Ext ρ ρ' H H'->Rel X.K ρ' H' S'->AVs X.K ρ' H' as vs->Q vs H'
theorem lA.ext {X:Cx} {ρ ρ':List Addr} {H H':Hp} {Q:VK} {a:A} {S:aA} (h:lA X ρ H Q a S) (e:Ext ρ ρ' H H'):lA X ρ' H' Q a S:=fun ρ2 H2 v e2=>h ρ2 H2 v (e.trans e2)
theorem Lq.ext {X:Cx} {ρ ρ':List Addr} {H H':Hp} {Q:Bool->Hp->Prop} {a:Bool} {S:aA} (h:Lq X ρ H Q a S) (e:Ext ρ ρ' H H'):Lq X ρ' H' Q a S:=fun ρ2 H2 e2=>h ρ2 H2 (e.trans e2)
theorem au {α:Type} {X:Cx} {ρ ρ':List Addr} {H H':Hp} {r:R α} {P P':α->aA->Prop} (h:r.post P (XE X ρ H)) (e:Ext ρ ρ' H H') (hp:∀ a S,P a S->P' a S):r.post P' (XE X ρ' H'):=kB h hp fun _ _ z=>z.ext e
noncomputable def tE (X:Cx) (c:Ex):TE:=fun σ H Q=>∃ ρ S τ,Rel X.K ρ H S/\SR X.K ρ H τ σ/\(c τ S).post (lA X ρ H Q) (XE X ρ H)
noncomputable def tT (X:Cx) (c:Te):TT:=fun σ H Q=>∃ ρ S τ,Rel X.K ρ H S/\SR X.K ρ H τ σ/\(c τ S).post (Lq X ρ H Q) (XE X ρ H)
noncomputable def tL (X:Cx) (c:gp):TA:=fun σ H Q=>∃ ρ S τ,Rel X.K ρ H S/\SR X.K ρ H τ σ/\(c τ S).post (Nh X ρ H Q) (XE X ρ H)
noncomputable def AE (X:Cx) (e:Expr) (c:Ex):Prop:=PE X e (tE X c)
noncomputable def AT (X:Cx) (e:Expr) (c:Te):Prop:=PT X e (tT X c)
noncomputable def AW (X:Cx) (e:Expr) (c:Te):Prop:=PW X e (tT X c)
noncomputable def AL (X:Cx) (es:List Expr) (c:gp):Prop:=PA X es (tL X c)
theorem PE.imp {X:Cx} {e:Expr} {t t':TE} (h:PE X e t) (i:∀ σ H Q,t' σ H Q->t σ H Q):PE X e t':=fun pins s σ H Q I q=>h pins s σ H Q I (i σ H Q q)
theorem PT.imp {X:Cx} {e:Expr} {t t':TT} (h:PT X e t) (i:∀ σ H Q,t' σ H Q->t σ H Q):PT X e t':=fun pins s σ H Q I q=>h pins s σ H Q I (i σ H Q q)
theorem PW.imp {X:Cx} {e:Expr} {t t':TT} (h:PW X e t) (i:∀ σ H Q,t' σ H Q->t σ H Q):PW X e t':=fun w pins s σ H Q I q=>h w pins s σ H Q I (i σ H Q q)
theorem PA.imp {X:Cx} {e:List Expr} {t t':TA} (h:PA X e t) (i:∀ σ H Q,t' σ H Q->t σ H Q):PA X e t':=fun p pins s σ H Q I q=>h p pins s σ H Q I (i σ H Q q)
theorem AW.at {X:Cx} {e:Expr} {c:Te} (h:AW X e c):AT X e c:=h _
noncomputable def A.dP:A->Bool
 | .unb=>true
 | _=>false
noncomputable def ah (i:Nat):Ex:=fun τ S=>if (τ.getD i .unb).dP then .no else .ok (τ.getD i .unb) S
noncomputable def eC (a:A):Ex:=fun _ S=>.ok a S
section
variable {X:Cx} {pos:Pos} {a b:Expr}
theorem aa (i:Nat) {x:Str} (hN:X.N[i]?=some x:=by rfl) (hv:Jv X.env.scope x:=by first | exact Or.inl rfl | exact Or.inr (Or.inl rfl) | exact Or.inr (Or.inr rfl)) (hd:(x == ("__debug__" : Str))=false:=by decide)
  (hcd:(x == ("__classdict__" : Str))=false:=by decide):AE X (.Name x pos) (ah i):=PE.imp (zP hN hv hd hcd) fun σ H Q ⟨ρ,S,τ,R,r,h⟩=>by
 unfold ah at h
 cases hi:τ[i]? with
 | none=>
  rw [List.getD_eq_getElem?_getD,hi] at h
  exact h.elim
 | some x=>
  rw [List.getD_eq_getElem?_getD,hi] at h
  rcases r.at i x hi with z | ⟨v,e,q⟩
  ·subst z;exact h.elim
  ·refine ⟨v,e,?_⟩
   cases x <;> first | (exact h ρ H v .refl R q) | exact h.elim
theorem aL {i:Int} {j pos}:AE X (.Constant (.int i) j pos) (eC (.int i)):=PE.imp t6 fun σ H Q ⟨ρ,S,τ,R,r,h⟩=>h ρ H _ .refl R (.int i)
theorem o4 {i:Bool} {j pos}:AE X (.Constant (.bool i) j pos) (eC (.bl i)):=PE.imp Kc fun σ H Q ⟨ρ,S,τ,R,r,h⟩=>h ρ H _ .refl R (.bl i)
theorem p8 {j pos}:AE X (.Constant .none j pos) (eC .non):=PE.imp G6 fun σ H Q ⟨ρ,S,τ,R,r,h⟩=>h ρ H _ .refl R .non
theorem j_ {x:Str} {j pos}:AE X (.Constant (.str x) j pos) (eC (.str x)):=PE.imp AH fun σ H Q ⟨ρ,S,τ,R,r,h⟩=>h ρ H _ .refl R (.str x)
theorem nh {x:Str} {i:Int} {t:Tok} (hm:X.mg x=some (.int i t)) (hg:Gl X x:=by rfl) (hd:(x == ("__debug__" : Str))=false:=by decide):AE X (.Name x pos) (eC (.int i)):=
 PE.imp (xN (v:=.int i) hg hm ⟨t,rfl⟩ hd) fun σ H Q ⟨ρ,S,τ,R,r,h⟩=>h ρ H _ .refl R (.int i)
noncomputable def aK (f:A->A->aA->R A) (ca cb:Ex):Ex:=fun τ S=>(ca τ S).bind fun a S1=>(cb τ S1).bind fun b S2=>f a b S2
noncomputable def r2 (X:Cx) (f:A->A->aA->R A):R2:=fun x y H Q=>∃ ρ S a b,Rel X.K ρ H S/\AV X.K ρ H a x/\AV X.K ρ H b y/\(f a b S).post (lA X ρ H Q) (XE X ρ H)
noncomputable def r1 (X:Cx) (f:A->aA->R A):V->Hp->VK->Prop:=fun x H Q=>∃ ρ S a,Rel X.K ρ H S/\AV X.K ρ H a x/\(f a S).post (lA X ρ H Q) (XE X ρ H)
noncomputable def rN (X:Cx) (f:List A->aA->R A):List V->Hp->VK->Prop:=fun xs H Q=>∃ ρ S as,Rel X.K ρ H S/\AVs X.K ρ H as xs/\(f as S).post (lA X ρ H Q) (XE X ρ H)
theorem d7.imp {f:Value->Value->Sem Value} {r r':R2} (h:d7 X f r) (i:∀ x y H Q,r' x y H Q->r x y H Q):d7 X f r':=fun pins s σ H x y v u Q I rx ry q=>h pins s σ H x y v u Q I rx ry (i _ _ _ _ q)
theorem br.imp {f:Value} {r r':List V->Hp->VK->Prop} (h:br X f r) (i:∀ x H Q,r' x H Q->r x H Q):br X f r':=fun pins s σ H x v Q I rx q=>h pins s σ H x v Q I rx (i _ _ _ q)
theorem jV {f:A->A->aA->R A} {ca cb:Ex} {σ:L2.St} {H:Hp} {Q:VK} (h:tE X (aK f ca cb) σ H Q):JE (r2 X f) (tE X ca) (tE X cb) σ H Q:=by
 obtain ⟨ρ,S,τ,R,r,h⟩:=h
 refine ⟨ρ,S,τ,R,r,au (aH h) .refl fun a S1 h1 ρ1 H1 x e1 R1 v1=>⟨ρ1,S1,τ,R1,r.ext e1,au (aH h1) e1 fun b S2 h2 ρ2 H2 y e2 R2 v2=>?_⟩⟩
 exact ⟨ρ2,S2,a,b,R2,v1.ext e2,v2,au h2 (e1.trans e2) fun c S3 h3=>h3.ext (e1.trans e2)⟩
theorem aP {op:Operator} {f:A->A->aA->R A} {ca cb:Ex} (ho:d7 X (binaryOp op) (r2 X f)) (ha:AE X a ca) (hb:AE X b cb):AE X (.BinOp a op b pos) (aK f ca cb):=
 PE.imp (Ku ho ha hb) fun σ H Q h=>jV h
theorem l_ {op:CmpOp} {f:A->A->aA->R A} {ca cb:Ex} (ho:d7 X (compareOp op) (r2 X f)) (ha:AE X a ca) (hb:AE X b cb) (hm:behindInMarks op b=false:=by first | exact BV _ | with_unfolding_all rfl):AE X (.Compare a [op] [b] pos) (aK f ca cb):=
 PE.imp (DX ho ha hb hm) fun σ H Q h=>jV h
noncomputable def A.Iu:A->aA->Option Bool
 | .non,_=>some false
 | .bl b,_=>some b
 | .int i,_=>some (i != 0)
 | .str x,_=>if x.length<=sizeLine then some ((x.length:Int) != 0) else none
 | .tup xs,_=>some (!xs.isEmpty)
 | .frz xs,_=>some (!xs.isEmpty)
 | .ref n,S=>(ak S n).map fun xs=>!xs.isEmpty
 | _,_=>none
noncomputable def jo (c:Ex):Te:=fun τ S=>(c τ S).bind fun a S1=>opt (a.Iu S1) fun b=>.ok b S1
noncomputable def jw (c:Ex):Te:=fun τ S=>(c τ S).bind fun a S1=>match a with
 | .bl b=>.ok b S1
 | _=>.no
theorem oN {K:PySem.W.Frag} {ρ:List Addr} {H:Hp} {b:Bool} {v:V} (h:AV K ρ H (.bl b) v):v=.bl b:=by cases h;rfl
theorem bX {op:CmpOp} {f:A->A->aA->R A} {ca cb:Ex} (ho:d7 X (compareOp op) (r2 X f)) (ha:AE X a ca) (hb:AE X b cb) (hm:behindInMarks op b=false:=by first | exact BV _ | with_unfolding_all rfl):AT X (.Compare a [op] [b] pos) (jw (aK f ca cb)):=
 PT.imp (Ep ho ha hb hm) fun σ H Q ⟨ρ,S,τ,R,r,h⟩=>by
  refine jV ⟨ρ,S,τ,R,r,au (aH h) .refl fun c S1 h1 ρ1 H1 x e1 R1 v1=>?_⟩
  cases c with
  | bl k=>cases oN v1;exact ⟨k,rfl,h1 ρ1 H1 e1 R1⟩
  | _=>exact h1.elim
theorem G1 {K:PySem.W.Frag} {ρ:List Addr} {H:Hp} {S:aA} {x:A} {v:V} {b:Bool} (R:Rel K ρ H S) (h:AV K ρ H x v) (e:x.Iu S=some b):GO K v H b:=by
 have emp:∀ {xs:List A} {vs:List V},AVs K ρ H xs vs->(!xs.isEmpty)=!vs.isEmpty:=fun r=>by cases r <;> rfl
 cases h with
 | non=>exact (Option.some.inj e).symm
 | bl b=>exact (Option.some.inj e).symm
 | int i=>exact (Option.some.inj e).symm
 | str x=>
  by_cases hx:x.length<=sizeLine
  ·exact ⟨hx,by have:=(if_pos hx).symm.trans e;exact (Option.some.inj this).symm⟩
  ·have:=(if_neg hx).symm.trans e;cases this
 | tup h r=>exact .inr (.inl ⟨_,cI.of h,by rw [<- emp r];exact (Option.some.inj e).symm⟩)
 | frz h r=>exact .inl ⟨_,h.zA,by rw [<- emp r];exact (Option.some.inj e).symm⟩
 | rng h=>cases e
 | ty n=>cases e
 | exn n h x=>cases e
 | @ref a n h=>
  have e:(ak S n).map (fun xs=>!xs.isEmpty)=some b:=e
  obtain ⟨xs,hn,e⟩:=Option.map_eq_some_iff.mp e
  obtain ⟨vs,h1,h2⟩:=R.lst h (aO hn)
  exact .inl ⟨vs,dQ.of h1,by rw [<- emp h2];exact e.symm⟩
theorem jn {ca:Ex} (ha:AE X a ca) (he:∀ whole,isTrue a X.env whole=(do let v <- whole;standAt a.pos;holding [v] (truthy v)):=by intro _;rfl):AT X a (jo ca):=
 PT.imp (BQ ha he) fun σ H Q ⟨ρ,S,τ,R,r,h⟩=>⟨ρ,S,τ,R,r,au (aH h) .refl fun c S1 h1 ρ1 H1 x e1 R1 v1=>by
  obtain ⟨b,hb,h1⟩:=aG h1
  exact ⟨b,G1 R1 v1 hb,h1 ρ1 H1 e1 R1⟩⟩
noncomputable def Ak (c:Te):Te:=fun τ S=>(c τ S).bind fun b S1=>.ok (!b) S1
noncomputable def Mx (c d:Te):Te:=fun τ S=>(c τ S).bind fun b S1=>match b with | true=>d τ S1 | false=>.ok false S1
noncomputable def Gq (c d:Te):Te:=fun τ S=>(c τ S).bind fun b S1=>match b with | true=>.ok true S1 | false=>d τ S1
theorem uc {c:Te} (h:AT X a c):AT X (.UnaryOp .Not a pos) (Ak c):=PT.imp (Jc h) fun σ H Q ⟨ρ,S,τ,R,r,h⟩=>⟨ρ,S,τ,R,r,au (aH h) .refl fun b S1 h1=>h1⟩
theorem or_imp {c d:Te} {σ:L2.St} {H:Hp} {Q:Bool->Hp->Prop} (h:tT X (Gq c d) σ H Q):Nb (tT X c) (tT X d) σ H Q:=by
 obtain ⟨ρ,S,τ,R,r,h⟩:=h
 refine ⟨ρ,S,τ,R,r,au (aH h) .refl fun b S1 h1 ρ1 H1 e1 R1=>?_⟩
 cases b with
 | false=>
  rw [if_neg Bool.false_ne_true]
  exact ⟨ρ1,S1,τ,R1,r.ext e1,au h1 e1 fun _ _ z=>z.ext e1⟩
 | true=>
  rw [if_pos rfl]
  exact h1 ρ1 H1 e1 R1
variable {rest:List Expr}
theorem t9 {c:Te} (h:AT X a c):AW X (.BoolOp .Or [a] pos) c:=G3 h
theorem xW {c d:Te} (h:AT X a c) (h2:AW X (.BoolOp .Or (b::rest) pos) d):AW X (.BoolOp .Or (a::b::rest) pos) (Gq c d):=PW.imp (JF h h2) fun _ _ _ q=>or_imp q
noncomputable def DL (c d:Ex):Ex:=fun τ S=>(c τ S).bind fun a S1=>match a with | .bl true=>d τ S1 | .bl false=>.ok (.bl false) S1 | _=>.no
noncomputable def Lf (c d:Ex):Ex:=fun τ S=>(c τ S).bind fun a S1=>match a with | .bl true=>.ok (.bl true) S1 | .bl false=>d τ S1 | _=>.no
noncomputable def GZ (c:Ex):Ex:=fun τ S=>(c τ S).bind fun a S1=>match a with | .bl b=>.ok (.bl !b) S1 | _=>.no
theorem CZ {op} {c:Ex} (h:AE X a c):AE X (.BoolOp op [a] pos) c:=Ii h
theorem GN {c d:Ex} (h:AE X a c) (h2:AE X (.BoolOp .And (b::rest) pos) d):AE X (.BoolOp .And (a::b::rest) pos) (DL c d):=PE.imp (Hy h h2) fun σ H Q ⟨ρ,S,τ,R,r,h⟩=>by
 refine ⟨ρ,S,τ,R,r,au (aH h) .refl fun b S1 h1 ρ1 H1 x e1 R1 v1=>?_⟩
 cases b with
 | bl k=>
  cases oN v1
  refine ⟨k,rfl,?_⟩
  cases k with
  | true=>
   rw [if_pos rfl]
   exact ⟨ρ1,S1,τ,R1,r.ext e1,au h1 e1 fun _ _ z=>z.ext e1⟩
  | false=>
   rw [if_neg Bool.false_ne_true]
   exact h1 ρ1 H1 _ e1 R1 (.bl false)
 | _=>exact h1.elim
theorem Kl {c d:Ex} (h:AE X a c) (h2:AE X (.BoolOp .Or (b::rest) pos) d):AE X (.BoolOp .Or (a::b::rest) pos) (Lf c d):=PE.imp (KI h h2) fun σ H Q ⟨ρ,S,τ,R,r,h⟩=>by
 refine ⟨ρ,S,τ,R,r,au (aH h) .refl fun b S1 h1 ρ1 H1 x e1 R1 v1=>?_⟩
 cases b with
 | bl k=>
  cases oN v1
  refine ⟨k,rfl,?_⟩
  cases k with
  | false=>
   rw [if_neg Bool.false_ne_true]
   exact ⟨ρ1,S1,τ,R1,r.ext e1,au h1 e1 fun _ _ z=>z.ext e1⟩
  | true=>
   rw [if_pos rfl]
   exact h1 ρ1 H1 _ e1 R1 (.bl true)
 | _=>exact h1.elim
theorem HR {c:Ex} (h:AE X a c):AE X (.UnaryOp .Not a pos) (GZ c):=PE.imp (Hi h) fun σ H Q ⟨ρ,S,τ,R,r,h⟩=>by
 refine ⟨ρ,S,τ,R,r,au (aH h) .refl fun b S1 h1 ρ1 H1 x e1 R1 v1=>?_⟩
 cases b with
 | bl k=>
  cases oN v1
  exact ⟨k,rfl,h1 ρ1 H1 _ e1 R1 (.bl _)⟩
 | _=>exact h1.elim
noncomputable def NB (t:Te) (c d:Ex):Ex:=fun τ S=>(t τ S).bind fun b S1=>match b with | true=>c τ S1 | false=>d τ S1
noncomputable def aM:gp:=fun _ S=>.ok [] S
noncomputable def aj (c:Ex) (d:gp):gp:=fun τ S=>(c τ S).bind fun a S1=>(d τ S1).bind fun as S2=>.ok (a::as) S2
theorem aE:AL X [] aM:=PA.imp kc fun σ H Q ⟨ρ,S,τ,R,r,h⟩=>h ρ H _ .refl R .nil
theorem af {e:Expr} {es:List Expr} {c:Ex} {d:gp} (ha:AE X e c) (hr:AL X es d) (hs:starEach (e::es) X.env=(false,eval e X.env)::starEach es X.env:=by rfl):AL X (e::es) (aj c d):=
 PA.imp (fM ha hr hs) fun σ H Q ⟨ρ,S,τ,R,r,h⟩=>by
  refine ⟨ρ,S,τ,R,r,au (aH h) .refl fun a S1 h1 ρ1 H1 x e1 R1 v1=>⟨ρ1,S1,τ,R1,r.ext e1,au (aH h1) e1 fun as S2 h2 ρ2 H2 xs e2 R2 v2=>?_⟩⟩
  exact h2 ρ2 H2 _ (e1.trans e2) R2 (.cons (v1.ext e2) v2)
noncomputable def iQ (d:gp):Ex:=fun τ S=>(d τ S).bind fun as S1=>gd (as.length<=sizeLine) (.ok (.tup as) S1)
noncomputable def newL (as:List A) (S:aA):R A:=gd (as.length<=sizeLine) (.ok (.ref S.length) (S++[.lst as]))
noncomputable def jx (d:gp):Ex:=fun τ S=>(d τ S).bind fun as S1=>newL as S1
theorem gE {ρ ρ0:List Addr} {H H0:Hp} {S:aA} {as:List A} {vs:List V} {Q:VK} (R:Rel X.K ρ H S) (r:AVs X.K ρ H as vs) (e:Ext ρ0 ρ H0 H) (h:lA X ρ0 H0 Q (.tup as) S):∀ p,H p=none->Q (.ref p) (upd H p (.tup vs)):=fun p hp=>by
 obtain ⟨ex,R'⟩:=R.im (u:=.tup vs) hp
 exact h ρ _ _ (e.trans ex) R' (.tup aY (r.ext ex))
theorem dj {ρ ρ0:List Addr} {H H0:Hp} {S:aA} {as:List A} {vs:List V} {Q:VK} (R:Rel X.K ρ H S) (r:AVs X.K ρ H as vs) (e:Ext ρ0 ρ H0 H) (h:lA X ρ0 H0 Q (.ref S.length) (S++[.lst as])):∀ p,H p=none->Q (.ref p) (upd H p (.lst vs)):=fun p hp=>by
 obtain ⟨ex,R',g⟩:=R.lay hp r
 exact h _ _ _ (e.trans ex) R' (.ref g)
theorem Du {ρ ρ0:List Addr} {H H0:Hp} {S:aA} {as:List A} {vs:List V} {Q:VK} (R:Rel X.K ρ H S) (r:AVs X.K ρ H as vs) (e:Ext ρ0 ρ H0 H) (h:(newL as S).post (lA X ρ0 H0 Q) (XE X ρ0 H0)):vs.length<=sizeLine/\∀ p,H p=none->Q (.ref p) (upd H p (.lst vs)):=by
 obtain ⟨hl,h⟩:=aW h
 exact ⟨by rw [<- r.length];exact hl,dj R r e h⟩
theorem jg {es:List Expr} {d:gp} {x1} (h:AL X es d):AE X (.Tuple es x1 pos) (iQ d):=PE.imp (I0 h) fun σ H Q ⟨ρ,S,τ,R,r,h⟩=>by
 refine ⟨ρ,S,τ,R,r,au (aH h) .refl fun as S1 h1 ρ1 H1 xs e1 R1 v1=>?_⟩
 obtain ⟨hl,h1⟩:=aW h1
 exact ⟨by rw [<- v1.length];exact hl,gE R1 v1 e1 h1⟩
theorem fk {es:List Expr} {d:gp} (h:AL X es d):AE X (.List es pos) (jx d):=PE.imp (GU h) fun σ H Q ⟨ρ,S,τ,R,r,h⟩=>
 ⟨ρ,S,τ,R,r,au (aH h) .refl fun as S1 h1 ρ1 H1 xs e1 R1 v1=>Du R1 v1 e1 h1⟩
end
section
variable {X:Cx} {pos:Pos} {a b:Expr}
noncomputable def aSub (a b:A) (S:aA):R A:=match a,b with
 | .int i,.int j=>.ok (.int (i - j)) S
 | _,_=>.no
theorem eL:d7 X (binaryOp .Sub) (r2 X aSub):=d7.imp HS fun x y H Q ⟨ρ,S,a,b,R,va,vb,h⟩=>by
 cases va <;> first | exact h.elim | (cases vb <;> first | exact h.elim | exact ⟨_,_,rfl,rfl,h _ _ _ .refl R (.int _)⟩)
noncomputable def sq (i j:Int):Bool:=(decide (-(2 ^ 64) < i) && decide (i < 2 ^ 64)) || (decide (-(2 ^ 64) < j) && decide (j < 2 ^ 64))
theorem mulOk_of {i j:Int} (h:sq i j=true):Eg i j:=by
 unfold sq at h
 simp only [Bool.or_eq_true,Bool.and_eq_true,decide_eq_true_eq] at h
 exact h
noncomputable def gQ (a b:A) (S:aA):R A:=match a,b with
 | .int i,.int j=>gd (sq i j) (.ok (.int (i * j)) S)
 | .ref n,.int k=>opt (ak S n) fun xs=>gd (-(2 ^ 63)<=k/\k < 2 ^ 63/\xs.length * k.toNat<=sizeLine) (.ok (.ref S.length) (S++[.lst (List.replicate k.toNat xs).flatten]))
 | _,_=>.no
theorem AVs.rep {K:PySem.W.Frag} {ρ:List Addr} {H:Hp} {xs:List A} {vs:List V} (r:AVs K ρ H xs vs):∀ k:Nat,AVs K ρ H (List.replicate k xs).flatten (List.replicate k vs).flatten
 | 0=>.nil
 | k+1=>by rw [List.replicate_succ,List.replicate_succ,List.flatten_cons,List.flatten_cons];exact r.append (AVs.rep r k)
theorem mP:d7 X (binaryOp .Mult) (r2 X gQ):=fun pins s σ H x y v u Q I rx ry ⟨ρ,S,a,b,R,va,vb,h⟩=>by
 cases va with
 | int i=>
  cases vb with
  | int j=>
   obtain ⟨hm,h⟩:=aW h
   exact IF pins s σ H _ _ v u Q I rx ry ⟨i,j,rfl,rfl,mulOk_of hm,h _ _ _ .refl R (.int _)⟩
  | _=>exact h.elim
 | @ref p n hp=>
  cases vb with
  | int k=>
   obtain ⟨xs,hn,h⟩:=aG h
   obtain ⟨hc,h⟩:=aW h
   obtain ⟨vs,h1,h2⟩:=R.lst hp (aO hn)
   exact Hg pins s σ H _ _ v u Q I rx ry ⟨p,k,vs,rfl,rfl,h1,hc.1,hc.2.1,by rw [<- h2.length];exact hc.2.2,dj R (h2.rep _) .refl h⟩
  | _=>exact h.elim
 | _=>exact h.elim
noncomputable def sA (a b:A) (S:aA):R A:=match a,b with
 | .int i,.int j=>gd (0 < j/\j < 18446744073709551616) (.ok (.int (i / j)) S)
 | _,_=>.no
theorem tW:d7 X (binaryOp .FloorDiv) (r2 X sA):=d7.imp AQ fun x y H Q ⟨ρ,S,a,b,R,va,vb,h⟩=>by
 cases va <;> first | exact h.elim | (cases vb <;> first | exact h.elim | exact ⟨_,_,rfl,rfl,(aW h).1,(aW h).2 _ _ _ .refl R (.int _)⟩)
noncomputable def kQ (a b:A) (S:aA):R A:=match a,b with
 | .int i,.int j=>gd (0 < j) (.ok (.int (i % j)) S)
 | _,_=>.no
theorem oK:d7 X (binaryOp .Mod) (r2 X kQ):=d7.imp HZ fun x y H Q ⟨ρ,S,a,b,R,va,vb,h⟩=>by
 cases va <;> first | exact h.elim | (cases vb <;> first | exact h.elim | exact ⟨_,_,rfl,rfl,(aW h).1,(aW h).2 _ _ _ .refl R (.int _)⟩)
noncomputable def E2 (a b:A) (S:aA):R A:=match a,b with
 | .int i,.int j=>gd (0<=j/\j<=1000000/\i.natAbs < 2 ^ 64) (.ok (.int (i ^ j.toNat)) S)
 | _,_=>.no
theorem KA:d7 X (binaryOp .Pow) (r2 X E2):=d7.imp G5 fun x y H Q ⟨ρ,S,a,b,R,va,vb,h⟩=>by
 cases va <;> first | exact h.elim | (cases vb <;> first | exact h.elim | exact ⟨_,_,rfl,rfl,(aW h).1,(aW h).2 _ _ _ .refl R (.int _)⟩)
noncomputable def dc (a b:A) (S:aA):R A:=match a,b with
 | .int i,.int j=>.ok (.int (i+j)) S
 | .tup xs,.tup ys=>gd (xs.length+ys.length<=sizeLine) (.ok (.tup (xs++ys)) S)
 | .str x,.str y=>gd (x.length+y.length<=sizeLine) (.ok (.str (x++y)) S)
 | .ref n,.ref m=>opt (ak S n) fun xs=>opt (ak S m) fun ys=>gd (xs.length+ys.length<=sizeLine) (.ok (.ref S.length) (S++[.lst (xs++ys)]))
 | _,_=>.no
theorem AVs.nil_inv {K:PySem.W.Frag} {ρ:List Addr} {H:Hp} {xs:List A} {vs:List V} (r:AVs K ρ H xs vs):xs=[] ↔ vs=[]:=by cases r <;> simp
theorem dR:d7 X (binaryOp .Add) (r2 X dc):=fun pins s σ H x y v u Q I rx ry ⟨ρ,S,a,b,R,va,vb,h⟩=>by
 cases va with
 | int i=>
  cases vb with
  | int j=>exact GX pins s σ H _ _ v u Q I rx ry ⟨i,j,rfl,rfl,h _ _ _ .refl R (.int _)⟩
  | _=>exact h.elim
 | str x=>
  cases vb with
  | str y=>
   obtain ⟨hc,h⟩:=aW h
   exact tX pins s σ H _ _ v u Q I rx ry ⟨x,y,rfl,rfl,hc,h _ _ _ .refl R (.str _)⟩
  | _=>exact h.elim
 | @tup p xs vs h1 r1=>
  cases vb with
  | @tup q ys ws h2 r2=>
   obtain ⟨hc,h⟩:=aW h
   by_cases hv:vs=[]
   ·have hx:=r1.nil_inv.mpr hv
    subst hv hx
    exact AA pins s σ H _ _ v u Q I rx ry ⟨p,q,ws,rfl,rfl,cI.of h1,cI.of h2,h _ _ _ .refl R (.tup h2 r2)⟩
   ·refine EF pins s σ H _ _ v u Q I rx ry ⟨p,q,vs,ws,rfl,rfl,cI.of h1,cI.of h2,hv,by rw [<- r1.length,<- r2.length];exact hc,fun e=>?_,fun _=>gE R (r1.append r2) .refl h⟩
    have hy:=r2.nil_inv.mpr e
    subst hy
    rw [List.append_nil] at h
    exact h _ _ _ .refl R (.tup h1 r1)
  | _=>exact h.elim
 | @ref p n hp=>
  cases vb with
  | @ref q m hq=>
   obtain ⟨xs,hn,h⟩:=aG h
   obtain ⟨ys,hm,h⟩:=aG h
   obtain ⟨hc,h⟩:=aW h
   obtain ⟨vs,h1,h2⟩:=R.lst hp (aO hn)
   obtain ⟨ws,h3,h4⟩:=R.lst hq (aO hm)
   exact G8 pins s σ H _ _ v u Q I rx ry ⟨p,q,vs,ws,rfl,rfl,h1,h3,by rw [<- h2.length,<- h4.length];exact hc,dj R (h2.append h4) .refl h⟩
  | _=>exact h.elim
 | _=>exact h.elim
noncomputable def A.ints:List A->Option (List Int)
 | []=>some []
 | .int i::xs=>(A.ints xs).map (i::·)
 | _=>none
theorem iI {K:PySem.W.Frag} {ρ:List Addr} {H:Hp}:∀ {xs:List A} {vs:List V} {bs:List Int},AVs K ρ H xs vs->A.ints xs=some bs->vs=bs.map V.int
 | _,_,_,.nil,e=>by cases e;rfl
 | _,_,_,.cons (x:=.int b) h t,e=>by
  obtain ⟨cs,e1,rfl⟩:=Option.map_eq_some_iff.mp e
  cases h
  rw [iI t e1];rfl
 | _,_,_,.cons (x:=.unb) h t,e=>nomatch e
 | _,_,_,.cons (x:=.non) h t,e=>nomatch e
 | _,_,_,.cons (x:=.bl _) h t,e=>nomatch e
 | _,_,_,.cons (x:=.str _) h t,e=>nomatch e
 | _,_,_,.cons (x:=.tup _) h t,e=>nomatch e
 | _,_,_,.cons (x:=.frz _) h t,e=>nomatch e
 | _,_,_,.cons (x:=.rng _ _) h t,e=>nomatch e
 | _,_,_,.cons (x:=.ref _) h t,e=>nomatch e
 | _,_,_,.cons (x:=.exn _) h t,e=>nomatch e
 | _,_,_,.cons (x:=.ty _) h t,e=>nomatch e
noncomputable def zh (a b:A) (S:aA):R A:=match a,b with
 | .int i,.int j=>.ok (.bl (decide (i < j))) S
 | _,_=>.no
theorem DR (hu:X.A.units+64 < cLine):d7 X (compareOp .Lt) (r2 X zh):=fun pins s σ H x y v u Q I rx ry ⟨ρ,S,a,b,R,va,vb,h⟩=>by
 cases va with
 | int i=>
  cases vb with
  | int j=>exact K0 pins s σ H _ _ v u Q I rx ry ⟨i,j,rfl,rfl,h _ _ _ .refl R (.bl _)⟩
  | _=>exact h.elim
 | _=>exact h.elim
noncomputable def Lr (a b:A) (S:aA):R A:=match a,b with
 | .int i,.int j=>.ok (.bl (decide (i<=j))) S
 | _,_=>.no
theorem JK:d7 X (compareOp .LtE) (r2 X Lr):=d7.imp KZ fun x y H Q ⟨ρ,S,a,b,R,va,vb,h⟩=>by
 cases va <;> first | exact h.elim | (cases vb <;> first | exact h.elim | exact ⟨_,_,rfl,rfl,h _ _ _ .refl R (.bl _)⟩)
noncomputable def sY (a b:A) (S:aA):R A:=match a,b with
 | .int i,.int j=>.ok (.bl (decide (j < i))) S
 | _,_=>.no
theorem mL (hu:X.A.units+64 < cLine):d7 X (compareOp .Gt) (r2 X sY):=fun pins s σ H x y v u Q I rx ry ⟨ρ,S,a,b,R,va,vb,h⟩=>by
 cases va with
 | int i=>
  cases vb with
  | int j=>exact Ks pins s σ H _ _ v u Q I rx ry ⟨i,j,rfl,rfl,h _ _ _ .refl R (.bl _)⟩
  | _=>exact h.elim
 | _=>exact h.elim
noncomputable def Lm (a b:A) (S:aA):R A:=match a,b with
 | .int i,.int j=>.ok (.bl (decide (j<=i))) S
 | _,_=>.no
theorem LW:d7 X (compareOp .GtE) (r2 X Lm):=d7.imp JI fun x y H Q ⟨ρ,S,a,b,R,va,vb,h⟩=>by
 cases va <;> first | exact h.elim | (cases vb <;> first | exact h.elim | exact ⟨_,_,rfl,rfl,h _ _ _ .refl R (.bl _)⟩)
noncomputable def Dh (neg:Bool) (a b:A) (S:aA):R A:=match a,b with
 | .bl i,.bl j=>.ok (.bl (if neg then i != j else i == j)) S
 | .non,.non=>.ok (.bl (!neg)) S
 | .unb,.non=>.no
 | .exn _,.non=>.no
 | _,.non=>.ok (.bl neg) S
 | _,_=>.no
theorem Mb:d7 X (compareOp .Is) (r2 X (Dh false)):=fun pins s σ H x y v u Q I rx ry ⟨ρ,S,a,b,R,va,vb,h⟩=>by
 cases vb with
 | non=>
  refine HQ pins s σ H _ _ v u Q I rx ry ⟨rfl,?_⟩
  cases va <;> first | exact h _ _ _ .refl R (.bl _) | exact h.elim
 | bl j=>
  cases va with
  | bl i=>exact GD pins s σ H _ _ v u Q I rx ry ⟨i,j,rfl,rfl,h _ _ _ .refl R (.bl _)⟩
  | _=>exact h.elim
 | _=>cases va <;> exact h.elim
noncomputable def Ml (f:A->aA->R A) (c:Ex):Ex:=fun τ S=>(c τ S).bind fun a S1=>f a S1
noncomputable def MF (a:A) (S:aA):R A:=match a with
 | .int i=>.ok (.int (-i)) S
 | _=>.no
noncomputable def fQ (a b:A) (S:aA):R A:=match a,b with
 | .tup xs,.int i=>opt (fG xs i) fun x=>.ok x S
 | .frz xs,.int i=>opt (fG xs i) fun x=>.ok x S
 | .ref n,.int i=>opt (ak S n) fun xs=>opt (fG xs i) fun x=>.ok x S
 | .str z,.int i=>gd (z.length<=sizeLine) (opt (fG z.cps.toList i) fun c=>.ok (.str ⟨#[c]⟩) S)
 | _,_=>.no
theorem AVs.fG {K:PySem.W.Frag} {ρ:List Addr} {H:Hp} {xs:List A} {vs:List V} {i:Int} {x:A} (r:AVs K ρ H xs vs) (h:L2.fG xs i=some x):∃ v,L2.fG vs i=some v/\AV K ρ H x v:=by
 unfold L2.fG at h ⊢
 rw [<- r.length]
 cases hj:qt xs.length i with
 | none=>rw [hj] at h;cases h
 | some j=>
  rw [hj] at h
  exact r.get h
theorem JQ:Hj X (r2 X fQ):=fun value slice pins s σ H x y v u Q I rx ry ⟨ρ,S,a,b,R,va,vb,h⟩ hs=>by
 cases va with
 | @tup p xs vs h1 r1=>
  cases vb with
  | int i=>
   obtain ⟨x,hx,h⟩:=aG h
   obtain ⟨z,e,q⟩:=r1.fG hx
   exact IX value slice pins s σ H _ _ v u Q I rx ry ⟨p,vs,i,z,rfl,rfl,cI.of h1,e,h _ _ _ .refl R q⟩ hs
  | _=>exact h.elim
 | @frz p xs vs h1 r1=>
  cases vb with
  | int i=>
   obtain ⟨x,hx,h⟩:=aG h
   obtain ⟨z,e,q⟩:=r1.fG hx
   exact xY value slice pins s σ H _ _ v u Q I rx ry ⟨p,vs,i,z,rfl,rfl,h1.zA,e,h _ _ _ .refl R q⟩ hs
  | _=>exact h.elim
 | @ref p n hp=>
  cases vb with
  | int i=>
   obtain ⟨xs,hn,h⟩:=aG h
   obtain ⟨x,hx,h⟩:=aG h
   obtain ⟨vs,h1,r1⟩:=R.lst hp (aO hn)
   obtain ⟨z,e,q⟩:=r1.fG hx
   exact xY value slice pins s σ H _ _ v u Q I rx ry ⟨p,vs,i,z,rfl,rfl,dQ.of h1,e,h _ _ _ .refl R q⟩ hs
  | _=>exact h.elim
 | str z=>
  cases vb with
  | int i=>
   obtain ⟨hz,h⟩:=aW h
   obtain ⟨c,hc,h⟩:=aG h
   exact Gy value slice pins s σ H _ _ v u Q I rx ry ⟨z,i,c,rfl,rfl,hz,hc,h _ _ _ .refl R (.str _)⟩ hs
  | _=>exact h.elim
 | _=>exact h.elim
theorem bZ {ca cb:Ex} (ha:AE X a ca) (hb:AE X b cb) (hs:qm b:=by exact fun _ _=>rfl):AE X (.Subscript a b pos) (aK fQ ca cb):=PE.imp (Fc JQ ha hb hs) fun σ H Q h=>jV h
end
noncomputable def ng (f:A->A->Option Bool):List A->List A->Option Bool
 | [],[]=>some true
 | x::xs,y::ys=>(f x y).bind fun p=>(ng f xs ys).map fun q=>p && q
 | _,_=>some false
noncomputable def uK (S:aA):Nat->A->A->Option Bool
 | 0,_,_=>none
 | n+1,a,b=>match a,b with
  | .non,.non=>some true
  | .bl x,.bl y=>some (x == y)
  | .bl x,.int y=>some ((if x then 1 else 0) == y)
  | .int x,.bl y=>some (x == (if y then 1 else 0))
  | .int x,.int y=>some (x == y)
  | .str x,.str y=>some (x == y)
  | .non,.bl _=>some false
  | .non,.int _=>some false
  | .non,.str _=>some false
  | .bl _,.non=>some false
  | .bl _,.str _=>some false
  | .int _,.non=>some false
  | .int _,.str _=>some false
  | .str _,.non=>some false
  | .str _,.bl _=>some false
  | .str _,.int _=>some false
  | .tup xs,.tup ys=>ng (uK S n) xs ys
  | .ref i,.ref j=>(ak S i).bind fun xs=>(ak S j).bind fun ys=>ng (uK S n) xs ys
  | .ref i,.tup _=>(ak S i).map fun _=>false
  | .tup _,.ref j=>(ak S j).map fun _=>false
  | .ref i,.non=>(ak S i).map fun _=>false
  | .ref i,.int _=>(ak S i).map fun _=>false
  | .ref i,.bl _=>(ak S i).map fun _=>false
  | .ref i,.str _=>(ak S i).map fun _=>false
  | .non,.ref i=>(ak S i).map fun _=>false
  | .int _,.ref i=>(ak S i).map fun _=>false
  | .bl _,.ref i=>(ak S i).map fun _=>false
  | .str _,.ref i=>(ak S i).map fun _=>false
  | .tup _,.non=>some false
  | .tup _,.int _=>some false
  | .tup _,.bl _=>some false
  | .tup _,.str _=>some false
  | .non,.tup _=>some false
  | .int _,.tup _=>some false
  | .bl _,.tup _=>some false
  | .str _,.tup _=>some false
  | _,_=>none
section
variable {X:Cx} {pins:List (Addr×Obj)} {σ:L2.St} {H:Hp} {s:Shared} {ρ:List Addr} {S:aA}
theorem vP {a:Addr} {vs ws:List V} (I:Inv X pins σ H s) (h:cI X.K H a vs) (h':H a=some (.lst ws)):False:=by
 rcases h with (h | ⟨o,h⟩) | ⟨o,its,n,hk,_⟩
 ·rw [h] at h';cases h'
 ·rw [h] at h';cases h'
 ·rw [(I.bs a o (I.mod.kin a o hk)).2] at h';cases h'
theorem nF {f:A->A->Option Bool} (hf:∀ a b x k,AV X.K ρ H a x->AV X.K ρ H b x->f a b=some k->k=true):∀ {xs ys:List A} {vs:List V} {k:Bool},AVs X.K ρ H xs vs->AVs X.K ρ H ys vs->ng f xs ys=some k->k=true
 | _,_,_,_,.nil,.nil,h=>(Option.some.inj h).symm
 | _,_,_,_,.cons (x:=x) h t,.cons (x:=y) h' t',e=>by
  unfold ng at e
  cases e1:f x y with
  | none=>rw [e1] at e;cases e
  | some p=>
   rw [e1] at e
   obtain ⟨q,e2,e3⟩:=Option.map_eq_some_iff.mp e
   rw [<- e3,hf _ _ _ p h h' e1,nF hf t t' e2];rfl
theorem qB (I:Inv X pins σ H s) (R:Rel X.K ρ H S):∀ (n:Nat) (a b:A) (x:V) (k:Bool),AV X.K ρ H a x->AV X.K ρ H b x->uK S n a b=some k->k=true
 | 0,_,_,_,_,_,_,e=>nomatch e
 | n+1,a,b,x,k,ha,hb,e=>by
  cases ha with
  | non=>cases hb;exact (Option.some.inj e).symm
  | bl i=>cases hb;exact (Option.some.inj e).symm.trans (beq_self_eq_true i)
  | int i=>cases hb;exact (Option.some.inj e).symm.trans (beq_self_eq_true i)
  | str i=>cases hb;exact (Option.some.inj e).symm.trans (beq_self_eq_true i)
  | ty i=>cases hb;cases e
  | @tup p xs vs h1 r1=>
   cases hb with
   | @tup _ ys ws h2 r2=>
    have:=I.om (cI.of h1) (cI.of h2)
    subst this
    exact nF (qB I R n) r1 r2 e
   | frz _ _=>cases e
   | rng _=>cases e
   | exn _ _ _=>cases e
   | @ref _ m h2=>
    obtain ⟨ys,e1,_⟩:=Option.map_eq_some_iff.mp e
    obtain ⟨vs',h3,_⟩:=R.lst h2 (aO e1)
    exact (vP I (cI.of h1) h3).elim
  | frz h1 r1=>cases hb <;> cases e
  | rng h1=>cases hb <;> cases e
  | exn n1 h1 x1=>cases hb <;> cases e
  | @ref p i h1=>
   cases hb with
   | @tup _ ys ws h2 r2=>
    obtain ⟨ys,e1,_⟩:=Option.map_eq_some_iff.mp e
    obtain ⟨vs',h3,_⟩:=R.lst h1 (aO e1)
    exact (vP I (cI.of h2) h3).elim
   | frz _ _=>cases e
   | rng _=>cases e
   | exn _ _ _=>cases e
   | @ref _ m h2=>
    obtain ⟨xs,e1,e⟩:=Option.bind_eq_some_iff.mp e
    obtain ⟨ys,e2,e⟩:=Option.bind_eq_some_iff.mp e
    obtain ⟨vs,h3,r1⟩:=R.lst h1 (aO e1)
    obtain ⟨ws,h4,r2⟩:=R.lst h2 (aO e2)
    rw [h3] at h4
    cases h4
    exact nF (qB I R n) r1 r2 e
noncomputable def nZ (f:A->A->Option Bool) (xs ys:List A) (j:Nat):Bool:=match xs[j]?,ys[j]? with
 | some x,some y=>(f x y).getD true
 | _,_=>true
theorem iO {f:A->A->Option Bool}:∀ {xs ys:List A} {k:Bool},ng f xs ys=some k->k=((List.range (min xs.length ys.length)).all (nZ f xs ys) && xs.length == ys.length)/\∀ j x y,xs[j]?=some x->ys[j]?=some y->f x y=some (nZ f xs ys j)
 | [],[],k,e=>⟨(Option.some.inj e).symm,fun j x y h=>by simp at h⟩
 | [],_::_,k,e=>⟨(Option.some.inj e).symm,fun j x y h=>by simp at h⟩
 | _::_,[],k,e=>⟨(Option.some.inj e).symm,fun j x y _ h=>by simp at h⟩
 | x::xs,y::ys,k,e=>by
  unfold ng at e
  cases e1:f x y with
  | none=>rw [e1] at e;cases e
  | some p=>
   rw [e1] at e
   obtain ⟨q,e2,e3⟩:=Option.map_eq_some_iff.mp e
   obtain ⟨h1,h2⟩:=iO e2
   have p0:nZ f (x::xs) (y::ys) 0=p:=by simp [nZ,e1]
   have ps:∀ j,nZ f (x::xs) (y::ys) (j+1)=nZ f xs ys j:=fun j=>by simp [nZ]
   refine ⟨?_,fun j a b ha hb=>?_⟩
   ·rw [<- e3,h1,List.length_cons,List.length_cons,Nat.succ_min_succ,List.range_succ_eq_map,List.all_cons,List.all_map,p0]
    have:(nZ f (x::xs) (y::ys) ∘ Nat.succ)=nZ f xs ys:=funext ps
    rw [this,Bool.and_assoc]
    simp
   ·cases j with
    | zero=>
     simp at ha hb
     subst ha hb
     rw [p0];exact e1
    | succ j=>rw [ps];exact h2 j a b (by simpa using ha) (by simpa using hb)
theorem lG {f:A->A->Option Bool} {B:Around} (hf:∀ a b x y u v k,AV X.K ρ H a x->AV X.K ρ H b y->RelV x u->RelV y v->f a b=some k->SeqAt.EqAt B s u v k) {xs ys:List A} {vs ws:List V} {us ts:List Value} {k:Bool}
  (r1:AVs X.K ρ H xs vs) (r2:AVs X.K ρ H ys ws) (q1:Vals vs us) (q2:Vals ws ts) (e:ng f xs ys=some k):∀ j (h1:j < us.toArray.size) (h2:j < ts.toArray.size),SeqAt.EqAt B s us.toArray[j] ts.toArray[j] (nZ f xs ys j):=by
 intro j h1 h2
 have l1:=r1.length
 have l2:=r2.length
 have l3:=q1.length
 have l4:=q2.length
 have hx:j < xs.length:=by simp at h1;omega
 have hy:j < ys.length:=by simp at h2;omega
 have e1:xs[j]?=some xs[j]:=List.getElem?_eq_getElem hx
 have e2:ys[j]?=some ys[j]:=List.getElem?_eq_getElem hy
 obtain ⟨x,ex,ax⟩:=r1.get e1
 obtain ⟨y,ey,ay⟩:=r2.get e2
 obtain ⟨u,eu,ru⟩:=q1.get ex
 obtain ⟨t,et,rt⟩:=q2.get ey
 have a1:us.toArray[j]=u:=by
  have:us[j]?=some us.toArray[j]:=by simp at h1;simp [h1]
  rw [eu] at this;exact (Option.some.inj this).symm
 have a2:ts.toArray[j]=t:=by
  have:ts[j]?=some ts.toArray[j]:=by simp at h2;simp [h2]
  rw [et] at this;exact (Option.some.inj this).symm
 rw [a1,a2]
 exact hf _ _ x y u t _ ax ay ru rt ((iO e).2 j _ _ e1 e2)
theorem in1_units (B:Around):B.in1.units=B.units+1:=rfl
theorem sH (I:Inv X pins σ H s) (R:Rel X.K ρ H S):∀ (n:Nat) (B:Around) (a b:A) (x y:V) (u v:Value) (k:Bool),B.units+n < cLine->AV X.K ρ H a x->AV X.K ρ H b y->RelV x u->RelV y v->uK S n a b=some k->SeqAt.RcAt B s u v k/\SeqAt.EqAt B s u v k
 | 0,_,_,_,_,_,_,_,_,_,_,_,_,_,e=>nomatch e
 | n+1,B,a,b,x,y,u,v,k,hu,ha,hb,rx,ry,e=>by
  have hu0:B.units < cLine:=by omega
  have items:∀ a b x y u v k,AV X.K ρ H a x->AV X.K ρ H b y->RelV x u->RelV y v->uK S n a b=some k->SeqAt.EqAt B.in1 s u v k:=fun a b x y u v k h1 h2 h3 h4 h5=>(sH I R n B.in1 a b x y u v k (by rw [in1_units];omega) h1 h2 h3 h4 h5).2
  have refs:∀ {p q:Addr} {k:Bool},AV X.K ρ H a (.ref p)->AV X.K ρ H b (.ref q)->uK S (n+1) a b=some k->SeqAt.RcAt B s (.ref p) (.ref q) k->SeqAt.RcAt B s (.ref p) (.ref q) k/\SeqAt.EqAt B s (.ref p) (.ref q) k:=by
   intro p q k h1 h2 e h
   refine ⟨h,?_⟩
   by_cases hp:p=q
   ·subst hp
    have:=qB I R (n+1) a b _ k h1 h2 e
    subst this
    exact .same _
   ·exact .of_refs hp h
  have tl:∀ {p:Addr} {xs:List A} {vs:List V},cI X.K H p vs->AVs X.K ρ H xs vs->∃ us:List Value,Vals vs us/\s.heap.IsTuple p us.toArray:=fun h1 r1=>by
   obtain ⟨us,q,p,_⟩:=I.tuple h1
   exact ⟨us,q,p⟩
  have ll:∀ {p:Addr} {i:Nat} {xs:List A},ρ[i]?=some p->ak S i=some xs->∃ (vs:List V) (us:List Value),AVs X.K ρ H xs vs/\Vals vs us/\s.heap.IsList p us.toArray:=fun h1 e1=>by
   obtain ⟨vs,h3,r1⟩:=R.lst h1 (aO e1)
   obtain ⟨us,q,p,_⟩:=I.list (dQ.of h3)
   exact ⟨vs,us,r1,q,p.isList⟩
  cases ha with
  | non=>
   obtain rfl:u=Value.none:=rx
   cases hb with
   | non=>obtain rfl:v=Value.none:=ry;cases Option.some.inj e;exact ⟨.none_none,.same _⟩
   | bl j=>obtain rfl:v=Value.bool j:=ry;cases Option.some.inj e;exact ⟨.none_bool _,.none_bool _⟩
   | int j=>obtain ⟨t,rfl⟩:∃ t,v=Value.int j t:=ry;cases Option.some.inj e;exact ⟨.none_int _ _,.none_int _ _⟩
   | str j=>obtain ⟨t,rfl⟩:∃ t,v=Value.str j t:=ry;cases Option.some.inj e;exact ⟨.none_str _ _,.none_str _ _⟩
   | tup h2 r2=>obtain ⟨us,_,p⟩:=tl (cI.of h2) r2;cases (show v=Value.ref _ from ry);cases Option.some.inj e;exact ⟨.none_tuple p hu0,.none_tuple p hu0⟩
   | ref h2=>obtain ⟨xs,e1,e2⟩:=Option.map_eq_some_iff.mp e;obtain ⟨_,us,_,_,p⟩:=ll h2 e1;cases (show v=Value.ref _ from ry);cases e2;exact ⟨.none_list p hu0,.none_list p hu0⟩
   | _=>cases e
  | bl i=>
   obtain rfl:u=Value.bool i:=rx
   cases hb with
   | non=>obtain rfl:v=Value.none:=ry;cases Option.some.inj e;exact ⟨.bool_none _,.bool_none _⟩
   | bl j=>obtain rfl:v=Value.bool j:=ry;cases Option.some.inj e;exact ⟨.bool_bool _ _,.bool_bool _ _⟩
   | int j=>obtain ⟨t,rfl⟩:∃ t,v=Value.int j t:=ry;cases Option.some.inj e;exact ⟨.bool_int _ _ _,.bool_int _ _ _⟩
   | str j=>obtain ⟨t,rfl⟩:∃ t,v=Value.str j t:=ry;cases Option.some.inj e;exact ⟨.bool_str _ _ _,.bool_str _ _ _⟩
   | tup h2 r2=>obtain ⟨us,_,p⟩:=tl (cI.of h2) r2;cases (show v=Value.ref _ from ry);cases Option.some.inj e;exact ⟨.bool_tuple _ p hu0,.bool_tuple _ p hu0⟩
   | ref h2=>obtain ⟨xs,e1,e2⟩:=Option.map_eq_some_iff.mp e;obtain ⟨_,us,_,_,p⟩:=ll h2 e1;cases (show v=Value.ref _ from ry);cases e2;exact ⟨.bool_list _ p hu0,.bool_list _ p hu0⟩
   | _=>cases e
  | int i=>
   obtain ⟨t0,rfl⟩:∃ t,u=Value.int i t:=rx
   cases hb with
   | non=>obtain rfl:v=Value.none:=ry;cases Option.some.inj e;exact ⟨.int_none _ _,.int_none _ _⟩
   | bl j=>obtain rfl:v=Value.bool j:=ry;cases Option.some.inj e;exact ⟨.int_bool _ _ _,.int_bool _ _ _⟩
   | int j=>obtain ⟨t,rfl⟩:∃ t,v=Value.int j t:=ry;cases Option.some.inj e;exact ⟨.int_int _ _ _ _,.int_int _ _ _ _⟩
   | str j=>obtain ⟨t,rfl⟩:∃ t,v=Value.str j t:=ry;cases Option.some.inj e;exact ⟨.int_str _ _ _ _,.int_str _ _ _ _⟩
   | tup h2 r2=>obtain ⟨us,_,p⟩:=tl (cI.of h2) r2;cases (show v=Value.ref _ from ry);cases Option.some.inj e;exact ⟨.int_tuple _ _ p hu0,.int_tuple _ _ p hu0⟩
   | ref h2=>obtain ⟨xs,e1,e2⟩:=Option.map_eq_some_iff.mp e;obtain ⟨_,us,_,_,p⟩:=ll h2 e1;cases (show v=Value.ref _ from ry);cases e2;exact ⟨.int_list _ _ p hu0,.int_list _ _ p hu0⟩
   | _=>cases e
  | str i=>
   obtain ⟨t0,rfl⟩:∃ t,u=Value.str i t:=rx
   cases hb with
   | non=>obtain rfl:v=Value.none:=ry;cases Option.some.inj e;exact ⟨.str_none _ _,.str_none _ _⟩
   | bl j=>obtain rfl:v=Value.bool j:=ry;cases Option.some.inj e;exact ⟨.str_bool _ _ _,.str_bool _ _ _⟩
   | int j=>obtain ⟨t,rfl⟩:∃ t,v=Value.int j t:=ry;cases Option.some.inj e;exact ⟨.str_int _ _ _ _,.str_int _ _ _ _⟩
   | str j=>obtain ⟨t,rfl⟩:∃ t,v=Value.str j t:=ry;cases Option.some.inj e;exact ⟨.str_str _ _ _ _,.str_str _ _ _ _⟩
   | tup h2 r2=>obtain ⟨us,_,p⟩:=tl (cI.of h2) r2;cases (show v=Value.ref _ from ry);cases Option.some.inj e;exact ⟨.str_tuple _ _ p hu0,.str_tuple _ _ p hu0⟩
   | ref h2=>obtain ⟨xs,e1,e2⟩:=Option.map_eq_some_iff.mp e;obtain ⟨_,us,_,_,p⟩:=ll h2 e1;cases (show v=Value.ref _ from ry);cases e2;exact ⟨.str_list _ _ p hu0,.str_list _ _ p hu0⟩
   | _=>cases e
  | @tup p xs vs h1 r1=>
   obtain rfl:u=Value.ref p:=rx
   obtain ⟨us,q1,p1⟩:=tl (cI.of h1) r1
   cases hb with
   | non=>obtain rfl:v=Value.none:=ry;cases Option.some.inj e;exact ⟨.tuple_none p1 hu0,.tuple_none p1 hu0⟩
   | bl j=>obtain rfl:v=Value.bool j:=ry;cases Option.some.inj e;exact ⟨.tuple_bool _ p1 hu0,.tuple_bool _ p1 hu0⟩
   | int j=>obtain ⟨t,rfl⟩:∃ t,v=Value.int j t:=ry;cases Option.some.inj e;exact ⟨.tuple_int _ _ p1 hu0,.tuple_int _ _ p1 hu0⟩
   | str j=>obtain ⟨t,rfl⟩:∃ t,v=Value.str j t:=ry;cases Option.some.inj e;exact ⟨.tuple_str _ _ p1 hu0,.tuple_str _ _ p1 hu0⟩
   | @tup q ys ws h2 r2=>
    obtain rfl:v=Value.ref q:=ry
    obtain ⟨ts,q2,p2⟩:=tl (cI.of h2) r2
    have e':ng (uK S n) xs ys=some k:=e
    refine refs (.tup h1 r1) (.tup h2 r2) e ?_
    rw [(iO e').1]
    have:=SeqAt.RcAt.tuples p1 p2 hu0 (lG items r1 r2 q1 q2 e')
    rw [List.size_toArray,List.size_toArray,<- q1.length,<- q2.length,<- r1.length,<- r2.length] at this
    exact this
   | @ref q j h2=>
    obtain rfl:v=Value.ref q:=ry
    obtain ⟨ys,e1,e2⟩:=Option.map_eq_some_iff.mp e
    obtain ⟨_,ts,_,_,p2⟩:=ll h2 e1
    refine refs (.tup h1 r1) (.ref h2) e ?_
    rw [<- e2]
    exact .tuple_list p1 p2 hu0
   | _=>cases e
  | @ref p i h1=>
   obtain rfl:u=Value.ref p:=rx
   cases hb with
   | non=>obtain ⟨xs,e1,e2⟩:=Option.map_eq_some_iff.mp e;obtain ⟨_,us,_,_,p1⟩:=ll h1 e1;obtain rfl:v=Value.none:=ry;cases e2;exact ⟨.list_none p1 hu0,.list_none p1 hu0⟩
   | bl j=>obtain ⟨xs,e1,e2⟩:=Option.map_eq_some_iff.mp e;obtain ⟨_,us,_,_,p1⟩:=ll h1 e1;obtain rfl:v=Value.bool j:=ry;cases e2;exact ⟨.list_bool _ p1 hu0,.list_bool _ p1 hu0⟩
   | int j=>obtain ⟨xs,e1,e2⟩:=Option.map_eq_some_iff.mp e;obtain ⟨_,us,_,_,p1⟩:=ll h1 e1;obtain ⟨t,rfl⟩:∃ t,v=Value.int j t:=ry;cases e2;exact ⟨.list_int _ _ p1 hu0,.list_int _ _ p1 hu0⟩
   | str j=>obtain ⟨xs,e1,e2⟩:=Option.map_eq_some_iff.mp e;obtain ⟨_,us,_,_,p1⟩:=ll h1 e1;obtain ⟨t,rfl⟩:∃ t,v=Value.str j t:=ry;cases e2;exact ⟨.list_str _ _ p1 hu0,.list_str _ _ p1 hu0⟩
   | @tup q ys ws h2 r2=>
    obtain rfl:v=Value.ref q:=ry
    obtain ⟨ts,q2,p2⟩:=tl (cI.of h2) r2
    obtain ⟨xs,e1,e2⟩:=Option.map_eq_some_iff.mp e
    obtain ⟨_,us,_,_,p1⟩:=ll h1 e1
    refine refs (.ref h1) (.tup h2 r2) e ?_
    rw [<- e2]
    exact .list_tuple p1 p2 hu0
   | @ref q j h2=>
    obtain rfl:v=Value.ref q:=ry
    have e0:=e
    obtain ⟨xs,e1,e⟩:=Option.bind_eq_some_iff.mp e
    obtain ⟨ys,e2,e'⟩:=Option.bind_eq_some_iff.mp e
    obtain ⟨vs,us,r1,q1,p1⟩:=ll h1 e1
    obtain ⟨ws,ts,r2,q2,p2⟩:=ll h2 e2
    refine refs (.ref h1) (.ref h2) e0 ?_
    have l1:=r1.length
    have l2:=r2.length
    have l3:=q1.length
    have l4:=q2.length
    rw [(iO e').1]
    by_cases hl:xs.length=ys.length
    ·have:=SeqAt.RcAt.lists p1 p2 (by simp;omega) hu0 (lG items r1 r2 q1 q2 e')
     rw [List.size_toArray,<- l3,<- l1] at this
     rw [<- hl,Nat.min_self,beq_self_eq_true,Bool.and_true]
     exact this
    ·have:(xs.length == ys.length)=false:=by simpa using hl
     rw [this,Bool.and_false]
     exact .lists_lengths p1 p2 (by simp;omega) hu0
   | _=>cases e
  | _=>cases hb <;> cases e
theorem GL (I:Inv X pins σ H s) (R:Rel X.K ρ H S):∀ (n:Nat) (B:Around) (a b:A) (x y:V) (u v:Value) (k:Bool),B.units+n < cLine->AV X.K ρ H a x->AV X.K ρ H b y->RelV x u->RelV y v->uK S n a b=some k->SeqAt.RcNeAt B s u v (!k)
 | 0,_,_,_,_,_,_,_,_,_,_,_,_,_,e=>nomatch e
 | n+1,B,a,b,x,y,u,v,k,hu,ha,hb,rx,ry,e=>by
  have hu0:B.units < cLine:=by omega
  have items:∀ a b x y u v k,AV X.K ρ H a x->AV X.K ρ H b y->RelV x u->RelV y v->uK S n a b=some k->SeqAt.EqAt B.in1 s u v k:=fun a b x y u v k h1 h2 h3 h4 h5=>(sH I R n B.in1 a b x y u v k (by rw [in1_units];omega) h1 h2 h3 h4 h5).2
  have tl:∀ {p:Addr} {xs:List A} {vs:List V},cI X.K H p vs->AVs X.K ρ H xs vs->∃ us:List Value,Vals vs us/\s.heap.IsTuple p us.toArray:=fun h1 r1=>by
   obtain ⟨us,q,p,_⟩:=I.tuple h1
   exact ⟨us,q,p⟩
  have ll:∀ {p:Addr} {i:Nat} {xs:List A},ρ[i]?=some p->ak S i=some xs->∃ (vs:List V) (us:List Value),AVs X.K ρ H xs vs/\Vals vs us/\s.heap.IsList p us.toArray:=fun h1 e1=>by
   obtain ⟨vs,h3,r1⟩:=R.lst h1 (aO e1)
   obtain ⟨us,q,p,_⟩:=I.list (dQ.of h3)
   exact ⟨vs,us,r1,q,p.isList⟩
  cases ha with
  | non=>
   obtain rfl:u=Value.none:=rx
   cases hb with
   | non=>obtain rfl:v=Value.none:=ry;cases Option.some.inj e;exact SeqAt.RcNeAt.none_none
   | bl j=>obtain rfl:v=Value.bool j:=ry;cases Option.some.inj e;exact SeqAt.RcNeAt.none_bool _
   | int j=>obtain ⟨t,rfl⟩:∃ t,v=Value.int j t:=ry;cases Option.some.inj e;exact SeqAt.RcNeAt.none_int _ _
   | str j=>obtain ⟨t,rfl⟩:∃ t,v=Value.str j t:=ry;cases Option.some.inj e;exact SeqAt.RcNeAt.none_str _ _
   | tup h2 r2=>obtain ⟨us,_,p⟩:=tl (cI.of h2) r2;cases (show v=Value.ref _ from ry);cases Option.some.inj e;exact SeqAt.RcNeAt.none_tuple p hu0
   | ref h2=>obtain ⟨xs,e1,e2⟩:=Option.map_eq_some_iff.mp e;obtain ⟨_,us,_,_,p⟩:=ll h2 e1;cases (show v=Value.ref _ from ry);cases e2;exact SeqAt.RcNeAt.none_list p hu0
   | _=>cases e
  | bl i=>
   obtain rfl:u=Value.bool i:=rx
   cases hb with
   | non=>obtain rfl:v=Value.none:=ry;cases Option.some.inj e;exact SeqAt.RcNeAt.bool_none _
   | bl j=>obtain rfl:v=Value.bool j:=ry;cases Option.some.inj e;exact SeqAt.RcNeAt.bool_bool _ _
   | int j=>obtain ⟨t,rfl⟩:∃ t,v=Value.int j t:=ry;cases Option.some.inj e;exact SeqAt.RcNeAt.bool_int _ _ _
   | str j=>obtain ⟨t,rfl⟩:∃ t,v=Value.str j t:=ry;cases Option.some.inj e;exact SeqAt.RcNeAt.bool_str _ _ _
   | tup h2 r2=>obtain ⟨us,_,p⟩:=tl (cI.of h2) r2;cases (show v=Value.ref _ from ry);cases Option.some.inj e;exact SeqAt.RcNeAt.bool_tuple _ p hu0
   | ref h2=>obtain ⟨xs,e1,e2⟩:=Option.map_eq_some_iff.mp e;obtain ⟨_,us,_,_,p⟩:=ll h2 e1;cases (show v=Value.ref _ from ry);cases e2;exact SeqAt.RcNeAt.bool_list _ p hu0
   | _=>cases e
  | int i=>
   obtain ⟨t0,rfl⟩:∃ t,u=Value.int i t:=rx
   cases hb with
   | non=>obtain rfl:v=Value.none:=ry;cases Option.some.inj e;exact SeqAt.RcNeAt.int_none _ _
   | bl j=>obtain rfl:v=Value.bool j:=ry;cases Option.some.inj e;exact SeqAt.RcNeAt.int_bool _ _ _
   | int j=>obtain ⟨t,rfl⟩:∃ t,v=Value.int j t:=ry;cases Option.some.inj e;exact SeqAt.RcNeAt.int_int _ _ _ _
   | str j=>obtain ⟨t,rfl⟩:∃ t,v=Value.str j t:=ry;cases Option.some.inj e;exact SeqAt.RcNeAt.int_str _ _ _ _
   | tup h2 r2=>obtain ⟨us,_,p⟩:=tl (cI.of h2) r2;cases (show v=Value.ref _ from ry);cases Option.some.inj e;exact SeqAt.RcNeAt.int_tuple _ _ p hu0
   | ref h2=>obtain ⟨xs,e1,e2⟩:=Option.map_eq_some_iff.mp e;obtain ⟨_,us,_,_,p⟩:=ll h2 e1;cases (show v=Value.ref _ from ry);cases e2;exact SeqAt.RcNeAt.int_list _ _ p hu0
   | _=>cases e
  | str i=>
   obtain ⟨t0,rfl⟩:∃ t,u=Value.str i t:=rx
   cases hb with
   | non=>obtain rfl:v=Value.none:=ry;cases Option.some.inj e;exact SeqAt.RcNeAt.str_none _ _
   | bl j=>obtain rfl:v=Value.bool j:=ry;cases Option.some.inj e;exact SeqAt.RcNeAt.str_bool _ _ _
   | int j=>obtain ⟨t,rfl⟩:∃ t,v=Value.int j t:=ry;cases Option.some.inj e;exact SeqAt.RcNeAt.str_int _ _ _ _
   | str j=>obtain ⟨t,rfl⟩:∃ t,v=Value.str j t:=ry;cases Option.some.inj e;exact SeqAt.RcNeAt.str_str _ _ _ _
   | tup h2 r2=>obtain ⟨us,_,p⟩:=tl (cI.of h2) r2;cases (show v=Value.ref _ from ry);cases Option.some.inj e;exact SeqAt.RcNeAt.str_tuple _ _ p hu0
   | ref h2=>obtain ⟨xs,e1,e2⟩:=Option.map_eq_some_iff.mp e;obtain ⟨_,us,_,_,p⟩:=ll h2 e1;cases (show v=Value.ref _ from ry);cases e2;exact SeqAt.RcNeAt.str_list _ _ p hu0
   | _=>cases e
  | @tup p xs vs h1 r1=>
   obtain rfl:u=Value.ref p:=rx
   obtain ⟨us,q1,p1⟩:=tl (cI.of h1) r1
   cases hb with
   | non=>obtain rfl:v=Value.none:=ry;cases Option.some.inj e;exact SeqAt.RcNeAt.tuple_none p1 hu0
   | bl j=>obtain rfl:v=Value.bool j:=ry;cases Option.some.inj e;exact SeqAt.RcNeAt.tuple_bool _ p1 hu0
   | int j=>obtain ⟨t,rfl⟩:∃ t,v=Value.int j t:=ry;cases Option.some.inj e;exact SeqAt.RcNeAt.tuple_int _ _ p1 hu0
   | str j=>obtain ⟨t,rfl⟩:∃ t,v=Value.str j t:=ry;cases Option.some.inj e;exact SeqAt.RcNeAt.tuple_str _ _ p1 hu0
   | @tup q ys ws h2 r2=>
    obtain rfl:v=Value.ref q:=ry
    obtain ⟨ts,q2,p2⟩:=tl (cI.of h2) r2
    have e':ng (uK S n) xs ys=some k:=e
    rw [(iO e').1]
    have:=SeqAt.RcNeAt.tuples p1 p2 hu0 (lG items r1 r2 q1 q2 e')
    rw [List.size_toArray,List.size_toArray,<- q1.length,<- q2.length,<- r1.length,<- r2.length] at this
    exact this
   | @ref q j h2=>
    obtain rfl:v=Value.ref q:=ry
    obtain ⟨ys,e1,e2⟩:=Option.map_eq_some_iff.mp e
    obtain ⟨_,ts,_,_,p2⟩:=ll h2 e1
    rw [<- e2]
    exact SeqAt.RcNeAt.tuple_list p1 p2 hu0
   | _=>cases e
  | @ref p i h1=>
   obtain rfl:u=Value.ref p:=rx
   cases hb with
   | non=>obtain ⟨xs,e1,e2⟩:=Option.map_eq_some_iff.mp e;obtain ⟨_,us,_,_,p1⟩:=ll h1 e1;obtain rfl:v=Value.none:=ry;cases e2;exact SeqAt.RcNeAt.list_none p1 hu0
   | bl j=>obtain ⟨xs,e1,e2⟩:=Option.map_eq_some_iff.mp e;obtain ⟨_,us,_,_,p1⟩:=ll h1 e1;obtain rfl:v=Value.bool j:=ry;cases e2;exact SeqAt.RcNeAt.list_bool _ p1 hu0
   | int j=>obtain ⟨xs,e1,e2⟩:=Option.map_eq_some_iff.mp e;obtain ⟨_,us,_,_,p1⟩:=ll h1 e1;obtain ⟨t,rfl⟩:∃ t,v=Value.int j t:=ry;cases e2;exact SeqAt.RcNeAt.list_int _ _ p1 hu0
   | str j=>obtain ⟨xs,e1,e2⟩:=Option.map_eq_some_iff.mp e;obtain ⟨_,us,_,_,p1⟩:=ll h1 e1;obtain ⟨t,rfl⟩:∃ t,v=Value.str j t:=ry;cases e2;exact SeqAt.RcNeAt.list_str _ _ p1 hu0
   | @tup q ys ws h2 r2=>
    obtain rfl:v=Value.ref q:=ry
    obtain ⟨ts,q2,p2⟩:=tl (cI.of h2) r2
    obtain ⟨xs,e1,e2⟩:=Option.map_eq_some_iff.mp e
    obtain ⟨_,us,_,_,p1⟩:=ll h1 e1
    rw [<- e2]
    exact SeqAt.RcNeAt.list_tuple p1 p2 hu0
   | @ref q j h2=>
    obtain rfl:v=Value.ref q:=ry
    have e0:=e
    obtain ⟨xs,e1,e⟩:=Option.bind_eq_some_iff.mp e
    obtain ⟨ys,e2,e'⟩:=Option.bind_eq_some_iff.mp e
    obtain ⟨vs,us,r1,q1,p1⟩:=ll h1 e1
    obtain ⟨ws,ts,r2,q2,p2⟩:=ll h2 e2
    have l1:=r1.length
    have l2:=r2.length
    have l3:=q1.length
    have l4:=q2.length
    rw [(iO e').1]
    by_cases hl:xs.length=ys.length
    ·have:=SeqAt.RcNeAt.lists p1 p2 (by simp;omega) hu0 (lG items r1 r2 q1 q2 e')
     rw [List.size_toArray,<- l3,<- l1] at this
     rw [<- hl,Nat.min_self,beq_self_eq_true,Bool.and_true]
     exact this
    ·have:(xs.length == ys.length)=false:=by simpa using hl
     rw [this,Bool.and_false]
     exact SeqAt.RcNeAt.lists_lengths p1 p2 (by simp;omega) hu0
   | _=>cases e
  | _=>cases hb <;> cases e
end
section
variable {X:Cx}
noncomputable def qD (neg:Bool) (a b:A) (S:aA):R A:=opt (uK S 12 a b) fun k=>.ok (.bl (if neg then !k else k)) S
theorem JM (hu:X.A.units+64 < cLine):d7 X (compareOp .Eq) (r2 X (qD false)):=fun pins s σ H x y v u Q I rx ry ⟨ρ,S,a,b,R,va,vb,h⟩=>by
 obtain ⟨k,e,h⟩:=aG h
 exact (sH I R 12 X.A a b x y v u k (by omega) va vb rx ry e).1 _ _ _ _ ⟨.bl _,H,I,rfl,h _ _ _ .refl R (.bl _)⟩
theorem Bg (hu:X.A.units+64 < cLine):d7 X (compareOp .NotEq) (r2 X (qD true)):=fun pins s σ H x y v u Q I rx ry ⟨ρ,S,a,b,R,va,vb,h⟩=>by
 obtain ⟨k,e,h⟩:=aG h
 exact GL I R 12 X.A a b x y v u k (by omega) va vb rx ry e _ _ _ _ ⟨.bl _,H,I,rfl,h _ _ _ .refl R (.bl _)⟩
end
section
variable {X:Cx} {pos:Pos} {a b:Expr}
noncomputable abbrev Pt:=List A->aA->R (Option Int)
noncomputable def rq:Pt:=fun _ S=>.ok none S
noncomputable def jB (c:Ex):Pt:=fun τ S=>(c τ S).bind fun a S1=>match a with
 | .int i=>.ok (some i) S1
 | _=>.no
noncomputable def tO (X:Cx) (c:Pt):TO:=fun σ H Q=>∃ ρ S τ,Rel X.K ρ H S/\SR X.K ρ H τ σ/\(c τ S).post (fun o S'=>∀ ρ' H',Ext ρ ρ' H H'->Rel X.K ρ' H' S'->Q o H') (XE X ρ H)
noncomputable def AO (X:Cx) (e:Option Expr) (c:Pt):Prop:=PO X e (tO X c)
theorem pT:AO X none rq:=fun pins s σ H Q I ⟨ρ,S,τ,R,r,h⟩=>Ej pins s σ H Q I (h ρ H .refl R)
theorem jD {c:Ex} (ha:AE X a c):AO X (some a) (jB c):=fun pins s σ H Q I ⟨ρ,S,τ,R,r,h⟩=>DJ ha pins s σ H Q I ⟨ρ,S,τ,R,r,au (aH h) .refl fun x S1 h1 ρ1 H1 v e1 R1 v1=>by
 cases v1 <;> first | exact h1.elim | exact ⟨_,rfl,h1 ρ1 H1 e1 R1⟩⟩
noncomputable def gD (xs:List A) (lo hi:Option Int):List A:=(xs.drop (HT.dz xs.length 0 lo)).take (HT.dz xs.length xs.length hi - HT.dz xs.length 0 lo)
theorem AVs.cut {K:PySem.W.Frag} {ρ:List Addr} {H:Hp} {xs:List A} {vs:List V} (r:AVs K ρ H xs vs) (lo hi:Option Int):AVs K ρ H (gD xs lo hi) (rV vs lo hi):=by
 unfold gD rV
 rw [r.length]
 exact (r.drop _).take _
noncomputable def Jy (a:A) (lo hi:Option Int) (S:aA):R A:=match a with
 | .ref n=>opt (ak S n) fun xs=>.ok (.ref S.length) (S++[.lst (gD xs lo hi)])
 | .frz xs=>.ok (.ref S.length) (S++[.lst (gD xs lo hi)])
 | .tup xs=>gd (¬ (HT.dz xs.length 0 lo=0/\HT.dz xs.length xs.length hi=xs.length)) (.ok (.tup (gD xs lo hi)) S)
 | _=>.no
noncomputable def Jq (c:Ex) (lo hi:Pt):Ex:=fun τ S=>(c τ S).bind fun a S1=>(lo τ S1).bind fun l S2=>(hi τ S2).bind fun u S3=>Jy a l u S3
noncomputable def rS (X:Cx):V->Option Int->Option Int->Hp->VK->Prop:=fun x lo hi H Q=>∃ ρ S a,Rel X.K ρ H S/\AV X.K ρ H a x/\(Jy a lo hi S).post (lA X ρ H Q) (XE X ρ H)
theorem HA:Lj X (rS X):=fun pins s σ H x v vl vu lo hi sl Q I rx hs pl pu ⟨ρ,S,a,R,va,h⟩=>by
 cases va with
 | @tup p xs vs h1 r1=>
  obtain ⟨hc,h⟩:=aW h
  exact HJ pins s σ H _ v vl vu lo hi sl Q I rx hs pl pu ⟨p,vs,rfl,(cI.of h1),by rw [<- r1.length];exact hc,gE R (r1.cut lo hi) .refl h⟩
 | @frz p xs vs h1 r1=>exact vB pins s σ H _ v vl vu lo hi sl Q I rx hs pl pu ⟨p,vs,rfl,h1.zA,dj R (r1.cut lo hi) .refl h⟩
 | @ref p n hp=>
  obtain ⟨xs,hn,h⟩:=aG h
  obtain ⟨vs,h1,r1⟩:=R.lst hp (aO hn)
  exact vB pins s σ H _ v vl vu lo hi sl Q I rx hs pl pu ⟨p,vs,rfl,dQ.of h1,dj R (r1.cut lo hi) .refl h⟩
 | _=>exact h.elim
theorem wM {e:Expr} {lo hi:Option Expr} {p2:Pos} {c:Ex} {cl ch:Pt} (he:AE X e c) (hl:AO X lo cl) (hh:AO X hi ch):AE X (.Subscript e (.Slice lo hi none p2) pos) (Jq c cl ch):=PE.imp (Ad HA he hl hh) fun σ H Q ⟨ρ,S,τ,R,r,h⟩=>by
 refine ⟨ρ,S,τ,R,r,au (aH h) .refl fun a S1 h1 ρ1 H1 x e1 R1 v1=>⟨ρ1,S1,τ,R1,r.ext e1,au (aH h1) e1 fun l S2 h2 ρ2 H2 e2 R2=>⟨ρ2,S2,τ,R2,r.ext (e1.trans e2),au (aH h2) (e1.trans e2) fun u S3 h3 ρ3 H3 e3 R3=>?_⟩⟩⟩
 exact ⟨ρ3,S3,a,R3,v1.ext (e2.trans e3),au h3 (e1.trans (e2.trans e3)) fun _ _ z=>z.ext (e1.trans (e2.trans e3))⟩
noncomputable def BR (a:A) (S:aA):R A:=match a with
 | .ref n=>opt (ak S n) fun xs=>.ok (.ref S.length) (S++[.lst xs.reverse])
 | .tup xs=>.ok (.tup xs.reverse) S
 | _=>.no
theorem Jf {e:Expr} {p2 up cp:Pos} {kk:Nat} {c:Ex} (he:AE X e c):AE X (.Subscript e (.Slice none none (some (.UnaryOp .USub (.Constant (.int 1) kk cp) up)) p2) pos) (Ml BR c):=fun pins s σ H Q I ⟨ρ,S,τ,R,r,h⟩=>by
 have hb:=aH h
 cases hc:c τ S with
 | no=>rw [hc] at hb;exact hb.elim
 | ex x S1=>
  rw [hc] at hb
  exact yg he pins s σ H Q I ⟨ρ,S,τ,R,r,by rw [hc];exact hb⟩
 | ok a S1=>
  rw [hc] at hb
  have hb:(BR a S1).post (lA X ρ H Q) (XE X ρ H):=hb
  cases a with
  | tup xs=>
   refine yg he pins s σ H Q I ⟨ρ,S,τ,R,r,?_⟩
   rw [hc]
   intro ρ1 H1 x e1 R1 v1
   cases v1 with
   | tup h1 r1=>exact ⟨_,_,rfl,(cI.of h1),gE R1 r1.reverse e1 hb⟩
  | ref n=>
   refine D0 he pins s σ H Q I ⟨ρ,S,τ,R,r,?_⟩
   rw [hc]
   intro ρ1 H1 x e1 R1 v1
   obtain ⟨xs,hn,h⟩:=aG hb
   cases v1 with
   | ref hp=>
    obtain ⟨vs,h1,r1⟩:=R1.lst hp (aO hn)
    exact ⟨_,_,rfl,dQ.of h1,dj R1 r1.reverse e1 h⟩
  | _=>exact hb.elim
noncomputable def aV (f:List A->aA->R A) (d:gp):Ex:=fun τ S=>(d τ S).bind fun as S1=>f as S1
theorem rm {f:List A->aA->R A} {d:gp} {σ:L2.St} {H:Hp} {Q:VK} (h:tE X (aV f d) σ H Q):Ms (rN X f) (tL X d) σ H Q:=by
 obtain ⟨ρ,S,τ,R,r,h⟩:=h
 exact ⟨ρ,S,τ,R,r,au (aH h) .refl fun as S1 h1 ρ1 H1 vs e1 R1 v1=>⟨ρ1,S1,as,R1,v1,au h1 e1 fun _ _ z=>z.ext e1⟩⟩
variable {x:Str} {p:Pos} {e:Expr} {es:List Expr} {id T:String} {f:List A->aA->R A} {d:gp}
theorem aR (hc:br X (.builtin id) (rN X f)) (hm:X.mg x=none) (hv:bootBuiltins x=some (.builtin id)) (ha:AL X (e::es) d) (hg:Gl X x:=by rfl) (hn:x ≠ "__name__" := by decide) (hdb:(x == ("__debug__" : Str))=false:=by decide)
  (he:starEach (e::es) X.env=(false,eval e X.env)::starEach es X.env:=by rfl) (hpl:(backTo pos (starEach es X.env)).any (·.1)=false:=by rfl):AE X (.Call (.Name x p) (e::es) [] pos) (aV f d):=
 PE.imp (sG hc hg hm hv ha hn hdb he hpl) fun _ _ _ h=>rm h
theorem di (hc:br X (.type T) (rN X f)) (hm:X.mg x=none) (hv:bootBuiltins x=some (.type T)) (ha:AL X (e::es) d) (hg:Gl X x:=by rfl) (hn:x ≠ "__name__" := by decide) (hdb:(x == ("__debug__" : Str))=false:=by decide)
  (he:starEach (e::es) X.env=(false,eval e X.env)::starEach es X.env:=by rfl) (hpl:(backTo pos (starEach es X.env)).any (·.1)=false:=by rfl):AE X (.Call (.Name x p) (e::es) [] pos) (aV f d):=
 PE.imp (yE hc hg hm hv ha hn hdb he hpl) fun _ _ _ h=>rm h
theorem Kr (hm:X.mg x=none) (hv:bootBuiltins x=some (.type T)) (hg:Gl X x:=by rfl) (hn:x ≠ "__name__" := by decide) (hdb:(x == ("__debug__" : Str))=false:=by decide):AE X (.Name x pos) (eC (.ty T)):=
 PE.imp (xg (v:=.ty T) hg hm hv rfl hn hdb) fun σ H Q ⟨ρ,S,τ,R,r,h⟩=>h ρ H _ .refl R (.ty T)
noncomputable def A.seq (S:aA):A->Option (List A)
 | .tup xs=>some xs
 | .frz xs=>some xs
 | .ref n=>ak S n
 | _=>none
theorem Cs {K:PySem.W.Frag} {ρ:List Addr} {H:Hp} {S:aA} {x:A} {v:V} {xs:List A} (R:Rel K ρ H S) (h:AV K ρ H x v) (e:x.seq S=some xs):∃ p vs,v=.ref p/\(dQ K H p vs\/cI K H p vs)/\AVs K ρ H xs vs:=by
 cases h with
 | tup h r=>cases Option.some.inj e;exact ⟨_,_,rfl,.inr (cI.of h),r⟩
 | frz h r=>cases Option.some.inj e;exact ⟨_,_,rfl,.inl h.zA,r⟩
 | ref h=>
  obtain ⟨vs,h1,r1⟩:=R.lst h (aO e)
  exact ⟨_,vs,rfl,.inl (dQ.of h1),r1⟩
 | _=>cases e
theorem yN {K:PySem.W.Frag} {ρ:List Addr} {H:Hp} {x:A} {vs:List V} (h:AVs K ρ H [x] vs):∃ v,vs=[v]/\AV K ρ H x v:=by
 cases h with
 | cons h t=>cases t;exact ⟨_,rfl,h⟩
theorem LQ {K:PySem.W.Frag} {ρ:List Addr} {H:Hp} {x y:A} {vs:List V} (h:AVs K ρ H [x,y] vs):∃ v w,vs=[v,w]/\AV K ρ H x v/\AV K ρ H y w:=by
 cases h with
 | cons h t=>obtain ⟨w,rfl,h'⟩:=yN t;exact ⟨_,_,rfl,h,h'⟩
noncomputable def f1 (g:A->aA->R A):List A->aA->R A:=fun as S=>match as with
 | [x]=>g x S
 | _=>.no
noncomputable def f2 (g:A->A->aA->R A):List A->aA->R A:=fun as S=>match as with
 | [x,y]=>g x y S
 | _=>.no
theorem EO {g:A->aA->R A} {as:List A} {S:aA} {P:A->aA->Prop} {E:Str->aA->Prop} (h:(f1 g as S).post P E):∃ x,as=[x]/\(g x S).post P E:=by
 match as,h with
 | [],h=>exact h.elim
 | [x],h=>exact ⟨x,rfl,h⟩
 | _::_::_,h=>exact h.elim
theorem DS {g:A->A->aA->R A} {as:List A} {S:aA} {P:A->aA->Prop} {E:Str->aA->Prop} (h:(f2 g as S).post P E):∃ x y,as=[x,y]/\(g x y S).post P E:=by
 match as,h with
 | [],h=>exact h.elim
 | [_],h=>exact h.elim
 | [x,y],h=>exact ⟨x,y,rfl,h⟩
 | _::_::_::_,h=>exact h.elim
theorem Dj {g:A->aA->R A} {vs:List V} {H:Hp} {Q:VK} (h:rN X (f1 g) vs H Q):∃ v,vs=[v]/\∃ ρ S x,Rel X.K ρ H S/\AV X.K ρ H x v/\(g x S).post (lA X ρ H Q) (XE X ρ H):=by
 obtain ⟨ρ,S,as,R,v,h⟩:=h
 obtain ⟨x,rfl,h⟩:=EO h
 obtain ⟨w,rfl,hv⟩:=yN v
 exact ⟨w,rfl,ρ,S,x,R,hv,h⟩
theorem Ll {g:A->A->aA->R A} {vs:List V} {H:Hp} {Q:VK} (h:rN X (f2 g) vs H Q):∃ v w,vs=[v,w]/\∃ ρ S x y,Rel X.K ρ H S/\AV X.K ρ H x v/\AV X.K ρ H y w/\(g x y S).post (lA X ρ H Q) (XE X ρ H):=by
 obtain ⟨ρ,S,as,R,v,h⟩:=h
 obtain ⟨x,y,rfl,h⟩:=DS h
 obtain ⟨w,w',rfl,hv,hv'⟩:=LQ v
 exact ⟨w,w',rfl,ρ,S,x,y,R,hv,hv',h⟩
noncomputable def dm (x:A) (S:aA):R A:=match x with
 | .str x=>gd (x.length<=sizeLine) (.ok (.int x.length) S)
 | .tup xs=>.ok (.int xs.length) S
 | .frz xs=>.ok (.int xs.length) S
 | .ref n=>opt (ak S n) fun xs=>.ok (.int xs.length) S
 | _=>.no
theorem cZ:br X (.builtin "len") (rN X (f1 dm)):=br.imp Ag fun vs H Q h0=>by
 obtain ⟨w,rfl,ρ,S,x,R,hv,h⟩:=Dj h0
 clear h0
 cases hv with
 | str z=>
  obtain ⟨hz,h⟩:=aW h
  exact ⟨_,_,rfl,⟨hz,rfl⟩,h _ _ _ .refl R (.int _)⟩
 | @tup p xs us h1 r=>exact ⟨_,us.length,rfl,.inr ⟨us,(cI.of h1),rfl⟩,by rw [<- r.length];exact h _ _ _ .refl R (.int _)⟩
 | @frz p xs us h1 r=>exact ⟨_,us.length,rfl,.inl ⟨us,h1.zA,rfl⟩,by rw [<- r.length];exact h _ _ _ .refl R (.int _)⟩
 | ref hp=>
  obtain ⟨xs,hn,h⟩:=aG h
  obtain ⟨us,h1,r⟩:=R.lst hp (aO hn)
  exact ⟨_,us.length,rfl,.inl ⟨us,dQ.of h1,rfl⟩,by rw [<- r.length];exact h _ _ _ .refl R (.int _)⟩
 | _=>exact h.elim
noncomputable def Jd (x:A) (S:aA):R A:=match x with
 | .int i=>.ok (.int (if i < 0 then -i else i)) S
 | _=>.no
theorem J6:br X (.builtin "abs") (rN X (f1 Jd)):=br.imp Ck fun vs H Q h0=>by
 obtain ⟨w,rfl,ρ,S,x,R,hv,h⟩:=Dj h0
 clear h0
 cases hv <;> first | exact h.elim | exact ⟨_,rfl,h _ _ _ .refl R (.int _)⟩
noncomputable def xC (x y:A) (S:aA):R A:=match x,y with
 | .int i,.int j=>.ok (.int (if j > i then j else i)) S
 | _,_=>.no
theorem BH (hc:X.calm=true):br X (.builtin "max") (rN X (f2 xC)):=br.imp (yD hc) fun vs H Q h0=>by
 obtain ⟨w,w',rfl,ρ,S,x,y,R,hv,hv',h⟩:=Ll h0
 clear h0
 cases hv <;> first | exact h.elim | (cases hv' <;> first | exact h.elim | exact ⟨_,_,rfl,h _ _ _ .refl R (.int _)⟩)
noncomputable def xV (x y:A) (S:aA):R A:=match x,y with
 | .int i,.int j=>.ok (.int (if j < i then j else i)) S
 | _,_=>.no
theorem zw (hc:X.calm=true):br X (.builtin "min") (rN X (f2 xV)):=br.imp (yr hc) fun vs H Q h0=>by
 obtain ⟨w,w',rfl,ρ,S,x,y,R,hv,hv',h⟩:=Ll h0
 clear h0
 cases hv <;> first | exact h.elim | (cases hv' <;> first | exact h.elim | exact ⟨_,_,rfl,h _ _ _ .refl R (.int _)⟩)
noncomputable def pq (x:A) (S:aA):R A:=match x with
 | .int i=>.ok (.int i) S
 | .bl k=>.ok (.int (if k then 1 else 0)) S
 | .str y=>opt (PySem.intText? y) fun n=>gd (y.length<=640) (.ok (.int n) S)
 | _=>.no
theorem AU:br X (.type "int") (rN X (f1 pq)):=fun pins s σ H xs us Q I rv h0=>by
 obtain ⟨w,rfl,ρ,S,x,R,hv,h⟩:=Dj h0
 clear h0
 cases hv with
 | int i=>exact oq pins s σ H _ us Q I rv (.inl ⟨i,rfl,h _ _ _ .refl R (.int _)⟩)
 | bl k=>exact oq pins s σ H _ us Q I rv (.inr ⟨k,rfl,h _ _ _ .refl R (.int _)⟩)
 | str y=>
  obtain ⟨n,hn,h⟩:=aG h
  obtain ⟨hl,h⟩:=aW h
  exact yF pins s σ H _ us Q I rv ⟨y,n,rfl,hl,hn,h _ _ _ .refl R (.int _)⟩
 | _=>exact h.elim
noncomputable def lK (x y:A) (S:aA):R A:=match x,y with
 | .int i,.int j=>.ok (.rng i j) S
 | _,_=>.no
theorem qM:br X (.type "range") (rN X (f2 lK)):=br.imp pS fun vs H Q h0=>by
 obtain ⟨w,w',rfl,ρ,S,x,y,R,hv,hv',h⟩:=Ll h0
 clear h0
 cases hv with
 | int i=>
  cases hv' with
  | int j=>
   refine ⟨i,j,rfl,fun p hp=>?_⟩
   obtain ⟨ex,R'⟩:=R.im (u:=.rng i j) hp
   exact h ρ _ _ ex R' (.rng aY)
  | _=>exact h.elim
 | _=>exact h.elim
noncomputable def pC (i j:Int):Prop:=(-(2 ^ 62)<=i/\i < 2 ^ 62/\-(2 ^ 62)<=j/\j < 2 ^ 62)/\(j - i).toNat<=1000
instance (i j:Int):Decidable (pC i j):=by unfold pC;infer_instance
noncomputable def kL (x:A) (S:aA):R A:=match x with
 | .rng i j=>gd (pC i j) (.ok (.ref S.length) (S++[.lst ((bg i j).map .int)]))
 | .tup xs=>.ok (.ref S.length) (S++[.lst xs])
 | .frz xs=>.ok (.ref S.length) (S++[.lst xs])
 | .ref n=>opt (ak S n) fun xs=>.ok (.ref S.length) (S++[.lst xs])
 | _=>.no
theorem ue (hc:X.calm=true):br X (.type "list") (rN X (f1 kL)):=fun pins s σ H vs us Q I rx h0=>by
 obtain ⟨w,rfl,ρ,S,x,R,hv,h⟩:=Dj h0
 clear h0
 cases hv with
 | @rng p i j hp=>
  obtain ⟨hc',h⟩:=aW h
  exact nW hc pins s σ H _ us Q I rx ⟨p,i,j,rfl,hp,hc'.1,hc'.2,dj R (fj _) .refl h⟩
 | @tup p xs vs h1 r=>exact gP pins s σ H _ us Q I rx ⟨p,vs,rfl,.inr (cI.of h1),dj R r .refl h⟩
 | @frz p xs vs h1 r=>exact gP pins s σ H _ us Q I rx ⟨p,vs,rfl,.inl h1.zA,dj R r .refl h⟩
 | @ref p n hp=>
  obtain ⟨xs,hn,h⟩:=aG h
  obtain ⟨vs,h1,r⟩:=R.lst hp (aO hn)
  exact gP pins s σ H _ us Q I rx ⟨p,vs,rfl,.inl (dQ.of h1),dj R r .refl h⟩
 | _=>exact h.elim
noncomputable def gY (x:A) (S:aA):R A:=match x with
 | .rng i j=>gd (pC i j) (.ok (.tup ((bg i j).map .int)) S)
 | .tup xs=>.ok (.tup xs) S
 | .frz xs=>.ok (.tup xs) S
 | .ref n=>opt (ak S n) fun xs=>.ok (.tup xs) S
 | _=>.no
theorem pX (hc:X.calm=true):br X (.type "tuple") (rN X (f1 gY)):=fun pins s σ H vs us Q I rx h0=>by
 obtain ⟨w,rfl,ρ,S,x,R,hv,h⟩:=Dj h0
 clear h0
 cases hv with
 | @rng p i j hp=>
  obtain ⟨hc',h⟩:=aW h
  exact mR hc pins s σ H _ us Q I rx ⟨p,i,j,rfl,hp,hc'.1,hc'.2,gE R (fj _) .refl h⟩
 | @tup p xs vs h1 r=>exact fR pins s σ H _ us Q I rx ⟨p,vs,rfl,.inr ⟨(cI.of h1),h _ _ _ .refl R (.tup h1 r)⟩⟩
 | @frz p xs vs h1 r=>exact fR pins s σ H _ us Q I rx ⟨p,vs,rfl,.inl ⟨h1.zA,gE R r .refl h⟩⟩
 | @ref p n hp=>
  obtain ⟨xs,hn,h⟩:=aG h
  obtain ⟨vs,h1,r⟩:=R.lst hp (aO hn)
  exact fR pins s σ H _ us Q I rx ⟨p,vs,rfl,.inl ⟨dQ.of h1,gE R r .refl h⟩⟩
 | _=>exact h.elim
noncomputable def A.yk:List A->Option (List Bool)
 | []=>some []
 | .bl b::xs=>(A.yk xs).map (b::·)
 | _=>none
theorem A0 {K:PySem.W.Frag} {ρ:List Addr} {H:Hp}:∀ {xs:List A} {vs:List V} {bs:List Bool},AVs K ρ H xs vs->A.yk xs=some bs->vs=bs.map V.bl
 | _,_,_,.nil,e=>by cases e;rfl
 | _,_,_,.cons (x:=.bl b) h t,e=>by
  obtain ⟨cs,e1,rfl⟩:=Option.map_eq_some_iff.mp e
  cases h
  rw [A0 t e1];rfl
 | _,_,_,.cons (x:=.unb) h t,e=>nomatch e
 | _,_,_,.cons (x:=.non) h t,e=>nomatch e
 | _,_,_,.cons (x:=.int _) h t,e=>nomatch e
 | _,_,_,.cons (x:=.str _) h t,e=>nomatch e
 | _,_,_,.cons (x:=.tup _) h t,e=>nomatch e
 | _,_,_,.cons (x:=.frz _) h t,e=>nomatch e
 | _,_,_,.cons (x:=.rng _ _) h t,e=>nomatch e
 | _,_,_,.cons (x:=.ref _) h t,e=>nomatch e
 | _,_,_,.cons (x:=.exn _) h t,e=>nomatch e
 | _,_,_,.cons (x:=.ty _) h t,e=>nomatch e
noncomputable def Nm (x:A) (S:aA):R A:=match x with
 | .ref n=>opt (ak S n) fun xs=>opt (A.yk xs) fun bs=>.ok (.bl (bs.all fun b=>b)) S
 | _=>.no
noncomputable def Hu (x:A) (S:aA):R A:=match x with
 | .ref n=>opt (ak S n) fun xs=>opt (A.yk xs) fun bs=>.ok (.bl (bs.any fun b=>b)) S
 | _=>.no
theorem Ka (hc:X.calm=true):br X (.builtin "any") (rN X (f1 Hu)):=br.imp (zb hc) fun vs H Q h0=>by
 obtain ⟨w,rfl,ρ,S,x,R,hv,h⟩:=Dj h0
 clear h0
 cases hv with
 | @ref p n hp=>
  obtain ⟨xs,hn,h⟩:=aG h
  obtain ⟨bs,hb,h⟩:=aG h
  obtain ⟨vs,h1,r⟩:=R.lst hp (aO hn)
  rw [A0 r hb] at h1
  exact ⟨p,bs,rfl,dQ.of h1,h _ _ _ .refl R (.bl _)⟩
 | _=>exact h.elim
noncomputable def maxOf:List Int->Option Int
 | []=>none
 | [x]=>some x
 | x::xs=>(maxOf xs).map fun m=>if m > x then m else x
theorem mQ:∀ {ns:List Int} {m:Int},maxOf ns=some m->m∈ns/\∀ a∈ns,a<=m
 | [],_,e=>nomatch e
 | [x],m,e=>by cases e;exact ⟨List.mem_cons_self,fun a h=>by rw [List.mem_singleton] at h;omega⟩
 | x::y::xs,m,e=>by
  obtain ⟨m',e1,rfl⟩:=Option.map_eq_some_iff.mp (show (maxOf (y::xs)).map (fun m=>if m > x then m else x)=some m from e)
  obtain ⟨h1,h2⟩:=mQ e1
  by_cases hx:m' > x
  ·rw [if_pos hx]
   exact ⟨List.mem_cons_of_mem _ h1,fun a h=>(List.mem_cons.mp h).elim (fun z=>by omega) (h2 a)⟩
  ·rw [if_neg hx]
   exact ⟨List.mem_cons_self,fun a h=>(List.mem_cons.mp h).elim (fun z=>by omega) fun z=>by have:=h2 a z;omega⟩
noncomputable def CS (x:A) (S:aA):R A:=match x with
 | .ref n=>opt (ak S n) fun xs=>opt (A.ints xs) fun ns=>opt (maxOf ns) fun m=>.ok (.int m) S
 | _=>.no
theorem Hw (hc:X.calm=true):br X (.builtin "max") (rN X (f1 CS)):=br.imp (yu hc) fun vs H Q h0=>by
 obtain ⟨w,rfl,ρ,S,x,R,hv,h⟩:=Dj h0
 clear h0
 cases hv with
 | @ref p n hp=>
  obtain ⟨xs,hn,h⟩:=aG h
  obtain ⟨ns,hb,h⟩:=aG h
  obtain ⟨m,hm,h⟩:=aG h
  obtain ⟨vs,h1,r⟩:=R.lst hp (aO hn)
  rw [iI r hb] at h1
  obtain ⟨g1,g2⟩:=mQ hm
  refine ⟨p,ns,rfl,dQ.of h1,List.length_pos_of_mem g1,fun M hM hG=>?_⟩
  have:M=m:=Int.le_antisymm (g2 M hM) (hG m g1)
  rw [this]
  exact h _ _ _ .refl R (.int _)
 | _=>exact h.elim
noncomputable def insI (x:Int):List Int->List Int
 | []=>[x]
 | y::ys=>if x<=y then x::y::ys else y::insI x ys
noncomputable def sortI:List Int->List Int
 | []=>[]
 | x::xs=>insI x (sortI xs)
theorem insI_perm (x:Int):∀ ys:List Int,(insI x ys).Perm (x::ys)
 | []=>List.Perm.refl _
 | y::ys=>by
  unfold insI
  by_cases h:x<=y
  ·rw [if_pos h]
  ·rw [if_neg h];exact ((insI_perm x ys).cons y).trans (List.Perm.swap x y ys)
theorem sortI_perm:∀ xs:List Int,(sortI xs).Perm xs
 | []=>List.Perm.refl _
 | x::xs=>(insI_perm x (sortI xs)).trans ((sortI_perm xs).cons x)
theorem vK (x:Int):∀ ys:List Int,ys.Pairwise (·<=·)->(insI x ys).Pairwise (·<=·)
 | [],_=>List.pairwise_singleton _ _
 | y::ys,h=>by
  unfold insI
  obtain ⟨h1,h2⟩:=List.pairwise_cons.mp h
  by_cases hx:x<=y
  ·rw [if_pos hx]
   exact List.pairwise_cons.mpr ⟨fun z hz=>(List.mem_cons.mp hz).elim (fun e=>e ▸ hx) fun hz=>Int.le_trans hx (h1 z hz),h⟩
  ·rw [if_neg hx]
   refine List.pairwise_cons.mpr ⟨fun z hz=>?_,vK x ys h2⟩
   rcases List.mem_cons.mp ((insI_perm x ys).mem_iff.mp hz) with e | hz
   ·subst e;omega
   ·exact h1 z hz
theorem se:∀ xs:List Int,(sortI xs).Pairwise (·<=·)
 | []=>List.Pairwise.nil
 | x::xs=>vK x _ (se xs)
noncomputable def B3 (x:A) (S:aA):R A:=opt (x.seq S) fun xs=>opt (A.ints xs) fun ns=>gd (ns.length < 64) (.ok (.ref S.length) (S++[.lst ((sortI ns).map .int)]))
theorem Ef:br X (.builtin "sorted") (rN X (f1 B3)):=br.imp pO fun vs H Q h0=>by
 obtain ⟨w,rfl,ρ,S,x,R,hv,h⟩:=Dj h0
 clear h0
 obtain ⟨xs,hn,h⟩:=aG h
 obtain ⟨ns,hb,h⟩:=aG h
 obtain ⟨hl,h⟩:=aW h
 obtain ⟨p,us,rfl,hs,r⟩:=Cs R hv hn
 rw [iI r hb] at hs
 refine ⟨p,ns,rfl,hs,hl,fun l ns' hl' hp hw=>?_⟩
 have:ns'=sortI ns:=Dt (hp.trans (sortI_perm ns).symm) hw (se ns)
 rw [this]
 exact dj R (fj _) .refl h l hl'
noncomputable def A.kd:A->aA->Option Kd
 | .non,_=>some .non
 | .bl _,_=>some .bl
 | .int _,_=>some .int
 | .str _,_=>some .str
 | .tup _,_=>some .tup
 | .ref n,S=>(ak S n).map fun _=>.lst
 | _,_=>none
theorem DE {K:PySem.W.Frag} (k:Kd):PySem.W.kitOne K k.ty (.type "str")=some (decide (k=.str)):=by cases k <;> rfl
noncomputable def CV (k:Kd) (c:String):Option Bool:=if c = "int" then some (decide (k=.int\/k=.bl)) else if c = "bool" then some (decide (k=.bl)) else if c = "tuple" then some (decide (k=.tup)) else if c = "list" then some (decide (k=.lst)) else if c = "str" then some (decide (k=.str)) else none
theorem ye {K:PySem.W.Frag} {k:Kd} {c:String} {b:Bool} (h:CV k c=some b):PySem.W.kitOne K k.ty (.type c)=some b:=by
 unfold CV at h
 split at h
 ·rename_i e;subst e;rw [<- h];exact EN k
 ·split at h
  ·rename_i e;subst e;rw [<- h];exact BD k
  ·split at h
   ·rename_i e;subst e;rw [<- h];exact kit_tuple k
   ·split at h
    ·rename_i e;subst e;rw [<- h];exact zT k
    ·split at h
     ·rename_i e;subst e;rw [<- h];exact DE k
     ·cases h
noncomputable def Iz (x y:A) (S:aA):R A:=match y with
 | .ty c=>opt (x.kd S) fun k=>opt (CV k c) fun b=>.ok (.bl b) S
 | _=>.no
theorem K8 {K:PySem.W.Frag} {ρ:List Addr} {H:Hp} {S:aA} {x:A} {v:V} {k:Kd} (R:Rel K ρ H S) (h:AV K ρ H x v) (e:x.kd S=some k):(∃ p vs,v=.ref p/\cI K H p vs/\k=.tup)\/GB H v k:=by
 cases h with
 | non=>cases e;exact .inr rfl
 | bl b=>cases e;exact .inr ⟨b,rfl⟩
 | int i=>cases e;exact .inr ⟨i,rfl⟩
 | str i=>cases e;exact .inr ⟨i,rfl⟩
 | tup h r=>cases e;exact .inl ⟨_,_,rfl,(cI.of h),rfl⟩
 | ref h=>
  obtain ⟨xs,e1,e2⟩:=Option.map_eq_some_iff.mp e
  obtain ⟨vs,h1,_⟩:=R.lst h (aO e1)
  cases e2
  exact .inr ⟨_,vs,rfl,h1⟩
 | _=>cases e
theorem KG:br X (.builtin "isinstance") (rN X (f2 Iz)):=fun pins s σ H vs us Q I rx h0=>by
 obtain ⟨w,w',rfl,ρ,S,x,y,R,hv,hv',h⟩:=Ll h0
 clear h0
 cases hv' with
 | ty c=>
  obtain ⟨k,hk,h⟩:=aG h
  obtain ⟨b,hb,hq⟩:=aG h
  have hq:lA X ρ H Q (.bl b) S:=hq
  clear h
  rcases K8 R hv hk with ⟨p,vs,rfl,ht,rfl⟩ | hd
  ·match us,rx with
   | [_,_],.cons r1 (.cons r2 .nil)=>
    obtain ⟨its,q,⟨o,h1,h2,_⟩,_⟩:=I.tuple ht
    cases (show _=Value.ref p from r1)
    cases (show _=Value.type c from r2)
    exact PySem.W.kia_one PySem.W.kitx_tuple I.nU ⟨o,h1,h2⟩ (ye hb) (fun z=>nomatch z) fun tk=>⟨.bl b,H,I.tok _,rfl,hq _ _ _ .refl R (.bl _)⟩
  ·exact rE (c:=c) pins s σ H _ us Q I rx ⟨w,_,b,rfl,hd.Mq,ye hb,hq _ _ _ .refl R (.bl _)⟩
 | _=>exact h.elim
end
noncomputable def yq (x:List Int):List (List Int)->List (List Int)
 | []=>[x]
 | y::ys=>if HT.lexLt y x=true then y::yq x ys else x::y::ys
noncomputable def fL:List (List Int)->List (List Int)
 | []=>[]
 | x::xs=>yq x (fL xs)
noncomputable def zg (a b:List Int):Prop:=HT.lexLt b a=false
theorem zg.trans {a b c:List Int} (h1:zg a b) (h2:zg b c):zg a c:=by
 unfold zg at *
 cases e:HT.lexLt c a with
 | false=>rfl
 | true=>
  rcases Sx.xj (b:=b) e with z | z
  ·rw [h2] at z;cases z
  ·rw [h1] at z;cases z
theorem j6 (x:List Int):∀ ys:List (List Int),(yq x ys).Perm (x::ys)
 | []=>List.Perm.refl _
 | y::ys=>by
  unfold yq
  by_cases h:HT.lexLt y x=true
  ·rw [if_pos h];exact ((j6 x ys).cons y).trans (List.Perm.swap x y ys)
  ·rw [if_neg h]
theorem jj:∀ xs:List (List Int),(fL xs).Perm xs
 | []=>List.Perm.refl _
 | x::xs=>(j6 x (fL xs)).trans ((jj xs).cons x)
theorem uR (x:List Int):∀ ys:List (List Int),ys.Pairwise zg->(yq x ys).Pairwise zg
 | [],_=>List.pairwise_singleton _ _
 | y::ys,h=>by
  unfold yq
  obtain ⟨h1,h2⟩:=List.pairwise_cons.mp h
  by_cases hx:HT.lexLt y x=true
  ·rw [if_pos hx]
   refine List.pairwise_cons.mpr ⟨fun z hz=>?_,uR x ys h2⟩
   rcases List.mem_cons.mp ((j6 x ys).mem_iff.mp hz) with e | hz
   ·subst e
    unfold zg
    cases e:HT.lexLt z y with
    | false=>rfl
    | true=>have:=Sx.qw hx e;rw [Sx.pW] at this;cases this
   ·exact h1 z hz
  ·rw [if_neg hx]
   have hx':zg x y:=by unfold zg;simpa using hx
   exact List.pairwise_cons.mpr ⟨fun z hz=>(List.mem_cons.mp hz).elim (fun e=>e ▸ hx') fun hz=>hx'.trans (h1 z hz),h⟩
theorem sX:∀ xs:List (List Int),(fL xs).Pairwise zg
 | []=>List.Pairwise.nil
 | x::xs=>uR x _ (sX xs)
theorem uC {xs ys:List (List Int)} (p:xs.Perm ys) (h:xs.Pairwise zg):xs=fL ys:=
 List.Perm.eq_of_pairwise (fun a b _ _ h1 h2=>(Sx.qg h1 h2).symm) h (sX ys) (p.trans (jj ys).symm)
theorem MW:∀ (N:Nat) (l:List Nat),l.Nodup->(∀ x∈l,x < N)->l.length<=N
 | 0,l,_,h=>by
  cases l with
  | nil=>exact Nat.le_refl _
  | cons a l=>exact absurd (h a (List.mem_cons_self ..)) (Nat.not_lt_zero _)
 | N+1,l,nd,h=>by
  have h1:=MW N (l.erase N) (nd.erase N) fun x hx=>by
   have:=h x (List.mem_of_mem_erase hx)
   have:x≠N:=fun z=>by
    subst z
    exact (List.Nodup.not_mem_erase nd) hx
   omega
  have:=List.le_length_erase (l:=l) (a:=N)
  omega
theorem tw {N:Nat} {g:Nat->Nat} (h:∀ i,i < N->g i < N) (inj:∀ i j,i < j->j < N->g i≠g j):((List.range N).map g).Perm (List.range N):=by
 have nd:((List.range N).map g).Nodup:=by
  unfold List.Nodup
  rw [List.pairwise_iff_getElem]
  intro i j hi hj hij
  rw [List.length_map,List.length_range] at hi hj
  rw [List.getElem_map,List.getElem_map,List.getElem_range,List.getElem_range]
  exact inj i j hij hj
 have lt:∀ x∈(List.range N).map g,x < N:=fun x hx=>by
  obtain ⟨i,hi,rfl⟩:=List.mem_map.mp hx
  exact h i (List.mem_range.mp hi)
 refine (List.perm_ext_iff_of_nodup nd List.nodup_range).mpr fun a=>⟨fun ha=>List.mem_range.mpr (lt a ha),fun ha=>?_⟩
 refine Classical.byContradiction fun hn=>?_
 have:=MW N (a::(List.range N).map g) (List.nodup_cons.mpr ⟨hn,nd⟩) fun x hx=>by
  rcases List.mem_cons.mp hx with rfl | hx
  ·exact List.mem_range.mp ha
  ·exact lt x hx
 rw [List.length_cons,List.length_map,List.length_range] at this
 omega
theorem range_getD {α:Type} (l:List α) (d:α):(List.range l.length).map (fun i=>l.getD i d)=l:=by
 apply List.ext_getElem?
 intro i
 rw [List.getElem?_map]
 by_cases c:i < l.length
 ·rw [List.getElem?_range c]
  show some (l.getD i d)=_
  rw [List.getD_eq_getElem?_getD,List.getElem?_eq_getElem c];rfl
 ·rw [List.getElem?_eq_none (by rw [List.length_range];omega),List.getElem?_eq_none (by omega)];rfl
theorem Jb {kss:List (List Int)} {g:Nat->Nat} (c:Sx.Cl g 0 kss.length) (so:Sx.So (Sx.Dv kss) g 0 kss.length):(List.range kss.length).map (fun i=>kss.getD (g i) [])=fL kss:=by
 refine uC ?_ ?_
 ·have p:=tw (N:=kss.length) (g:=g) (fun i hi=>(c i (Nat.zero_le _) hi).2) fun i j hij hj z=>by
   have:=so i j (Nat.zero_le _) hij hj
   rw [z] at this
   exact this.Eo
  have:=p.map fun i=>kss.getD i []
  rw [List.map_map,range_getD] at this
  exact this
 ·rw [List.pairwise_iff_getElem]
  intro i j hi hj hij
  rw [List.length_map,List.length_range] at hi hj
  rw [List.getElem_map,List.getElem_map,List.getElem_range,List.getElem_range]
  exact (so i j (Nat.zero_le _) hij hj).ge
noncomputable def Il:List A->Option (List (List Int))
 | []=>some []
 | .tup xs::r=>match A.ints xs with
  | some (k::ks)=>(Il r).map fun rs=>(k::ks)::rs
  | _=>none
 | _=>none
theorem Fj {K:PySem.W.Frag} {ρ:List Addr} {H:Hp}:∀ {xs:List A} {vs:List V} {kss:List (List Int)},AVs K ρ H xs vs->Il xs=some kss ->
  ∃ rs:List Addr,vs=rs.map V.ref/\rs.length=kss.length/\∀ (i:Nat) (r:Addr) (ks:List Int),rs[i]?=some r->kss[i]?=some ks->cI K H r (ks.map V.int)/\ks≠[]/\AV K ρ H (.tup (ks.map .int)) (.ref r)
 | [],_,_,.nil,e=>by cases e;exact ⟨[],rfl,rfl,fun i r ks h=>by simp at h⟩
 | x::xs,_,kss,.cons h t,e=>by
  cases h with
  | tup h r=>
   rename_i a ys us
   unfold Il at e
   cases e1:A.ints ys with
   | none=>rw [e1] at e;cases e
   | some ks=>
    rw [e1] at e
    cases ks with
    | nil=>cases e
    | cons k ks=>
     obtain ⟨kss',e2,rfl⟩:=Option.map_eq_some_iff.mp e
     obtain ⟨rs,rfl,hl,hh⟩:=Fj t e2
     have ev:=iI r e1
     subst ev
     refine ⟨a::rs,rfl,by rw [List.length_cons,List.length_cons,hl],fun i r' ks' h1 h2=>?_⟩
     cases i with
     | zero=>
      cases h1
      cases h2
      exact ⟨cI.of h,(fun z=>nomatch z),.tup h (fj _)⟩
     | succ i=>exact hh i r' ks' (by simpa using h1) (by simpa using h2)
  | _=>cases e
theorem Aj {K:PySem.W.Frag} {ρ:List Addr} {H:Hp} {α:Type} {f:α->A} {h:α->V}:∀ {l:List α},(∀ a∈l,AV K ρ H (f a) (h a))->AVs K ρ H (l.map f) (l.map h)
 | [],_=>.nil
 | a::l,e=>.cons (e a (List.mem_cons_self ..)) (Aj fun b hb=>e b (List.mem_cons_of_mem _ hb))
section
variable {X:Cx}
noncomputable def pK (n:Nat) (S:aA):R A:=opt (ak S n) fun xs=>opt (Il xs) fun kss=>.ok (.ref S.length) (S++[.lst ((fL kss).map fun ks=>.tup (ks.map .int))])
noncomputable def Lg (x:A) (S:aA):Bool:=match x with
 | .ref n=>match ak S n with
  | some (.tup _::_)=>true
  | _=>false
 | _=>false
noncomputable def jJ (x:A) (S:aA):R A:=match Lg x S with
 | false=>B3 x S
 | true=>match x with
  | .ref n=>pK n S
  | _=>.no
theorem DW:br X (.builtin "sorted") (rN X (f1 fun x S=>match x with | .ref n=>pK n S | _=>.no)):=br.imp pY fun vs H Q h0=>by
 obtain ⟨w,rfl,ρ,S,x,R,hv,h⟩:=Dj h0
 clear h0
 cases hv with
 | ref hp=>
  rename_i p n
  obtain ⟨xs,hn,h⟩:=aG h
  obtain ⟨kss,hb,h⟩:=aG h
  obtain ⟨us,h1,r⟩:=R.lst hp (aO hn)
  obtain ⟨rs,rfl,hl,hh⟩:=Fj r hb
  refine ⟨p,rs,kss,rfl,dQ.of h1,hl,fun i r ks e1 e2=>⟨(hh i r ks e1 e2).1,(hh i r ks e1 e2).2.1⟩,fun l g hl' hc hs=>?_⟩
  have av:AVs X.K ρ H ((fL kss).map fun ks=>.tup (ks.map .int)) (((List.range kss.length).map fun i=>rs.getD (g i) 0).map V.ref):=by
   rw [<- Jb hc hs,List.map_map,List.map_map]
   refine Aj fun i hi=>?_
   have lt:=(hc i (Nat.zero_le _) (List.mem_range.mp hi)).2
   have e1:rs[g i]?=some (rs.getD (g i) 0):=by rw [List.getD_eq_getElem?_getD,List.getElem?_eq_getElem (by omega)];rfl
   have e2:kss[g i]?=some (kss.getD (g i) []):=by rw [List.getD_eq_getElem?_getD,List.getElem?_eq_getElem lt];rfl
   exact (hh _ _ _ e1 e2).2.2
  exact dj R av .refl h l hl'
 | _=>exact h.elim
theorem BN:br X (.builtin "sorted") (rN X (f1 jJ)):=fun pins s σ H xs us Q I r h=>by
 obtain ⟨w,rfl,ρ,S,x,R,hv,h⟩:=Dj h
 unfold jJ at h
 cases e:Lg x S with
 | false=>
  rw [e] at h
  exact Ef pins s σ H _ us Q I r ⟨ρ,S,[x],R,.cons hv .nil,h⟩
 | true=>
  rw [e] at h
  exact DW pins s σ H _ us Q I r ⟨ρ,S,[x],R,.cons hv .nil,h⟩
end
section
variable {X:Cx}
end
noncomputable def RS.post (r:RS) (N:List A->aA->Prop) (T:A->aA->Prop) (B C:List A->aA->Prop) (E:Str->aA->Prop):Prop:=match r with
 | .nx τ S=>N τ S
 | .rt a S=>T a S
 | .bk τ S=>B τ S
 | .ct τ S=>C τ S
 | .ex c S=>E c S
 | .no=>False
noncomputable def RS.of {α:Type} (r:R α) (f:α->aA->RS):RS:=match r with
 | .ok a S=>f a S
 | .ex c S=>.ex c S
 | .no=>.no
theorem of_post {α:Type} {r:R α} {f:α->aA->RS} {N B C:List A->aA->Prop} {T:A->aA->Prop} {E:Str->aA->Prop} (h:(RS.of r f).post N T B C E):r.post (fun a S=>(f a S).post N T B C E) E:=by
 cases r <;> exact h
theorem RS.mono {r:RS} {N B C N' B' C':List A->aA->Prop} {T T':A->aA->Prop} {E E':Str->aA->Prop} (h:r.post N T B C E) (hn:∀ τ S,N τ S->N' τ S) (ht:∀ a S,T a S->T' a S) (hb:∀ τ S,B τ S->B' τ S) (hc:∀ τ S,C τ S->C' τ S) (he:∀ c S,E c S->E' c S):r.post N' T' B' C' E':=by
 cases r with
 | nx τ S=>exact hn _ _ h
 | rt a S=>exact ht _ _ h
 | bk τ S=>exact hb _ _ h
 | ct τ S=>exact hc _ _ h
 | ex c S=>exact he _ _ h
 | no=>exact h.elim
noncomputable def wJ (X:Cx) (ρ:List Addr) (H:Hp) (N:L2.St->Hp->Prop):List A->aA->Prop:=fun τ' S'=>∀ ρ' H' σ',Ext ρ ρ' H H'->Rel X.K ρ' H' S'->SR X.K ρ' H' τ' σ'->N σ' H'
theorem wJ.ext {X:Cx} {ρ ρ':List Addr} {H H':Hp} {N:L2.St->Hp->Prop} {τ:List A} {S:aA} (h:wJ X ρ H N τ S) (e:Ext ρ ρ' H H'):wJ X ρ' H' N τ S:=fun ρ2 H2 σ2 e2=>h ρ2 H2 σ2 (e.trans e2)
noncomputable def kZ (X:Cx) (ρ:List Addr) (H:Hp) (D:Ends) (r:RS):Prop:=r.post (wJ X ρ H D.nx) (lA X ρ H D.rt) (wJ X ρ H D.bk) (wJ X ρ H D.ct) (XE X ρ H)
theorem kZ.ext {X:Cx} {ρ ρ':List Addr} {H H':Hp} {D:Ends} {r:RS} (h:kZ X ρ H D r) (e:Ext ρ ρ' H H'):kZ X ρ' H' D r:=RS.mono h (fun _ _ z=>z.ext e) (fun _ _ z=>z.ext e) (fun _ _ z=>z.ext e) (fun _ _ z=>z.ext e) fun _ _ z=>z.ext e
noncomputable def tS (X:Cx) (c:Sm):TS:=fun D σ H=>∃ ρ S τ,Rel X.K ρ H S/\SR X.K ρ H τ σ/\kZ X ρ H D (c τ S)
noncomputable def AS (X:Cx) (st:Stmt) (c:Sm):Prop:=PS X st (tS X c)
noncomputable def zk (X:Cx) (sts:List Stmt) (c:Sm):Prop:=oF X sts (tS X c)
noncomputable def tG (X:Cx) (g:Tg):TG:=fun v σ H Q=>∃ ρ S τ a,Rel X.K ρ H S/\SR X.K ρ H τ σ/\AV X.K ρ H a v/\(g a τ S).post (wJ X ρ H Q) (XE X ρ H)
noncomputable def AG (X:Cx) (e:Expr) (g:Tg):Prop:=PG X e (tG X g)
noncomputable abbrev Dg:=List A->List A->aA->R (List A)
noncomputable def Nv (X:Cx) (g:Dg):FW:=fun vs σ H Q=>∃ ρ S τ as,Rel X.K ρ H S/\SR X.K ρ H τ σ/\AVs X.K ρ H as vs/\(g as τ S).post (wJ X ρ H Q) (XE X ρ H)
noncomputable def Lu (X:Cx) (es:List Expr) (g:Dg):Prop:=KO X es (Nv X g)
section
variable {X:Cx} {pos:Pos} {a b e:Expr} {st:Stmt} {rest:List Stmt} {c d:Sm}
theorem PS.imp {t t':TS} (h:PS X st t) (i:∀ D σ H,t' D σ H->t D σ H):PS X st t':=fun pins s σ H D I q=>h pins s σ H D I (i D σ H q)
theorem oF.imp {t t':TS} (h:oF X rest t) (i:∀ D σ H,t' D σ H->t D σ H):oF X rest t':=fun pins s σ H D I q=>h pins s σ H D I (i D σ H q)
theorem PG.imp {t t':TG} (h:PG X e t) (i:∀ v σ H Q,t' v σ H Q->t v σ H Q):PG X e t':=fun pins s σ H v u Q I r q=>h pins s σ H v u Q I r (i _ _ _ _ q)
noncomputable def bR (i:Nat):Tg:=fun a τ S=>.ok (τ.set i a) S
theorem bJ {i:Nat} {x:Str} (hN:X.N.Nodup) (hi:X.N[i]?=some x:=by rfl) (hx:Loc X.env.scope x:=by first | exact Or.inl rfl | exact Or.inr rfl) (hf:X.fn x=true\/X.env.scope.names.lookup x=some .local:=by first | exact .inl rfl | exact .inr rfl | assumption):AG X (.Name x pos) (bR i):=
 PG.imp (DT hN hi hx hf) fun v σ H Q ⟨ρ,S,τ,a,R,r,va,h⟩=>h ρ H _ .refl R (r.set va)
noncomputable def qu:Dg:=fun as τ S=>match as with
 | []=>.ok τ S
 | _=>.no
noncomputable def gW (g:Tg) (gs:Dg):Dg:=fun as τ S=>match as with
 | a::as=>(g a τ S).bind fun τ1 S1=>gs as τ1 S1
 | []=>.no
theorem iL:Lu X [] qu:=fun pins s σ H vs us Q I r ⟨ρ,S,τ,as,R,sr,va,h⟩=>DP pins s σ H vs us Q I r (by
 cases va with
 | nil=>exact ⟨rfl,h ρ H σ .refl R sr⟩
 | cons _ _=>exact h.elim)
theorem cE {es:List Expr} {g:Tg} {gs:Dg} (h1:AG X e g) (h2:Lu X es gs) (hs:(assignEach (e::es) X.env).map (·.2)=assign e X.env::(assignEach es X.env).map (·.2):=by rfl):Lu X (e::es) (gW g gs):=
 fun pins s σ H vs us Q I r ⟨ρ,S,τ,as,R,sr,va,h⟩=>zI h1 h2 hs pins s σ H vs us Q I r (by
  cases va with
  | nil=>exact h.elim
  | cons ha hr=>exact ⟨_,_,rfl,ρ,S,τ,_,R,sr,ha,au (aH h) .refl fun τ1 S1 h1 ρ1 H1 σ1 e1 R1 sr1=>⟨ρ1,S1,τ1,_,R1,sr1,hr.ext e1,au h1 e1 fun _ _ z=>z.ext e1⟩⟩)
noncomputable def p7 (n:Nat) (gs:Dg):Tg:=fun a τ S=>match a with
 | .tup xs=>gd (xs.length=n) (gs xs τ S)
 | _=>.no
theorem j7 {es:List Expr} {k n:Nat} {gs:Dg} (hc:X.calm=true) (h:Lu X es gs) (hn:(assignEach es X.env).length=n:=by rfl) (hst:(assignEach es X.env).findIdx? (·.1)=none:=by rfl):AG X (.Tuple es k pos) (p7 n gs):=
 PG.imp (Je hc h hn hst) fun v σ H Q ⟨ρ,S,τ,a,R,r,va,h⟩=>by
  cases va with
  | tup h1 r1=>
   obtain ⟨hl,h⟩:=aW h
   exact ⟨_,_,rfl,cI.of h1,by rw [<- r1.length];exact hl,ρ,S,τ,_,R,r,r1,h⟩
  | _=>exact h.elim
noncomputable def sC (o i v:A) (S:aA):R Unit:=match o,i with
 | .ref n,.int k=>opt (ak S n) fun xs=>opt (qt xs.length k) fun j=>.ok () (S.set n (.lst (xs.set j v)))
 | _,_=>.no
noncomputable def Nx (X:Cx):uL:=fun o i v H Q=>∃ ρ S ao ai av,Rel X.K ρ H S/\AV X.K ρ H ao o/\AV X.K ρ H ai i/\AV X.K ρ H av v/\(sC ao ai av S).post (fun _ S'=>∀ ρ' H',Ext ρ ρ' H H'->Rel X.K ρ' H' S'->Q H') (XE X ρ H)
theorem wZ:yy X (Nx X):=fun pins s σ H o i v ov iv u Q I ro ri rv ⟨ρ,S,ao,ai,av,R,h1,h2,h3,h⟩=>by
 cases h1 with
 | @ref p n hp=>
  cases h2 with
  | int k=>
   obtain ⟨xs,hn,h⟩:=aG h
   obtain ⟨j,hj,h⟩:=aG h
   obtain ⟨vs,e,r⟩:=R.lst hp (aO hn)
   obtain ⟨ex,R'⟩:=R.put hp (aO hn) (r.set h3 j)
   exact set_list pins s σ H _ _ v ov iv u Q I ro ri rv ⟨p,vs,k,j,rfl,rfl,e,by rw [<- r.length];exact hj,h _ _ ex R'⟩
  | _=>exact h.elim
 | _=>exact h.elim
noncomputable def Gm (co ci:Ex):Tg:=fun a τ S=>(co τ S).bind fun o S1=>(ci τ S1).bind fun i S2=>(sC o i a S2).bind fun _ S3=>.ok τ S3
theorem ku {o i:Expr} {co ci:Ex} (ho:AE X o co) (hi:AE X i ci)
  (ha:∀ v,assign (.Subscript o i pos) X.env v=(do
   let ov <- holding [v] (eval o X.env)
   let iv <- holding [v,ov] (eval i X.env)
   standAt pos
   holding [v,ov,iv] (setItem ov iv v)
   release [v,ov,iv] []):=by intro _;rfl):AG X (.Subscript o i pos) (Gm co ci):=PG.imp (Bw ho hi wZ ha) fun v σ H Q ⟨ρ,S,τ,a,R,r,va,h⟩=>by
 refine ⟨ρ,S,τ,R,r,au (aH h) .refl fun o S1 h1 ρ1 H1 x e1 R1 v1=>⟨ρ1,S1,τ,R1,r.ext e1,au (aH h1) e1 fun i S2 h2 ρ2 H2 y e2 R2 v2=>?_⟩⟩
 refine ⟨ρ2,S2,o,i,a,R2,v1.ext e2,v2,va.ext (e1.trans e2),au (aH h2) (e1.trans e2) fun _ S3 h3 ρ3 H3 e3 R3=>?_⟩
 exact h3 ρ3 H3 σ ((e1.trans e2).trans e3) R3 (r.ext ((e1.trans e2).trans e3))
noncomputable def gH:Sm:=fun τ S=>.nx τ S
noncomputable def bA (c d:Sm):Sm:=fun τ S=>match c τ S with
 | .nx τ' S'=>d τ' S'
 | r=>r
theorem b9:zk X [] gH:=oF.imp EJ fun D σ H ⟨ρ,S,τ,R,r,h⟩=>h ρ H σ .refl R r
theorem EZ {D:Ends} {σ:L2.St} {H:Hp} (h:tS X (bA c d) D σ H):J_ (tS X c) (tS X d) D σ H:=by
 obtain ⟨ρ,S,τ,R,r,h⟩:=h
 refine ⟨ρ,S,τ,R,r,?_⟩
 unfold bA at h
 cases hc:c τ S with
 | nx τ1 S1=>
  rw [hc] at h
  exact fun ρ1 H1 σ1 e1 R1 r1=>⟨ρ1,S1,τ1,R1,r1,kZ.ext h e1⟩
 | rt a S1=>rw [hc] at h;exact h
 | bk τ1 S1=>rw [hc] at h;exact h
 | ct τ1 S1=>rw [hc] at h;exact h
 | ex x S1=>rw [hc] at h;exact h
 | no=>rw [hc] at h;exact h
theorem aJ (h1:AS X st c) (h2:zk X rest d):zk X (st::rest) (bA c d):=oF.imp (A2 h1 h2) fun D σ H h=>EZ h
theorem aN (h1:AS X st c):zk X [st] c:=DQ h1
noncomputable def I_:Sm:=fun τ S=>.bk τ S
noncomputable def JP:Sm:=fun τ S=>.ct τ S
noncomputable def kN (e:Ex):Sm:=fun τ S=>.of (e τ S) fun _ S1=>.nx τ S1
theorem iM {f:Ex} (he:AE X e f) (hs:swapsWith e none pos.line X.env=pure false:=by rfl):AS X (.Expr e pos) (kN f):=PS.imp (DO he hs) fun D σ H ⟨ρ,S,τ,R,r,h⟩=>
 ⟨ρ,S,τ,R,r,au (of_post h) .refl fun a S1 h1 ρ1 H1 x e1 R1 v1=>h1 ρ1 H1 σ e1 R1 (r.ext e1)⟩
noncomputable def cQ (e:Ex):Sm:=fun τ S=>.of (e τ S) fun a S1=>.rt a S1
theorem bE {f:Ex} (he:AE X e f):AS X (.Return (some e) pos) (cQ f):=PS.imp (IQ he) fun D σ H ⟨ρ,S,τ,R,r,h⟩=>⟨ρ,S,τ,R,r,au (of_post h) .refl fun a S1 h1=>h1⟩
noncomputable def BI:Sm:=fun τ S=>.rt .non S
theorem D4:AS X (.Return none pos) BI:=PS.imp Eh fun D σ H ⟨ρ,S,τ,R,r,h⟩=>h ρ H _ .refl R .non
noncomputable def qd (t:Te) (c d:Sm):Sm:=fun τ S=>.of (t τ S) fun b S1=>match b with | true=>c τ S1 | false=>d τ S1
theorem eK {t:Te} {ca cb:List Stmt} (ht:AT X e t) (ha:zk X ca c) (hb:zk X cb d):AS X (.If e ca cb pos) (qd t c d):=PS.imp (K4 ht ha hb) fun D σ H ⟨ρ,S,τ,R,r,h⟩=>by
 refine ⟨ρ,S,τ,R,r,au (of_post h) .refl fun b S1 h1 ρ1 H1 e1 R1=>?_⟩
 cases b with
 | true=>rw [if_pos rfl];exact ⟨ρ1,S1,τ,R1,r.ext e1,kZ.ext h1 e1⟩
 | false=>rw [if_neg Bool.false_ne_true];exact ⟨ρ1,S1,τ,R1,r.ext e1,kZ.ext h1 e1⟩
noncomputable def bY (e:Ex) (g:Tg):Sm:=fun τ S=>.of (e τ S) fun a S1=>.of (g a τ S1) fun τ' S2=>.nx τ' S2
theorem EK {f:Ex} {g:Tg} {D:Ends} {σ:L2.St} {H:Hp} (h:tS X (bY f g) D σ H):IJ (tE X f) (tG X g) D σ H:=by
 obtain ⟨ρ,S,τ,R,r,h⟩:=h
 exact ⟨ρ,S,τ,R,r,au (of_post h) .refl fun a S1 h1 ρ1 H1 x e1 R1 v1=>⟨ρ1,S1,τ,a,R1,r.ext e1,v1,au (of_post h1) e1 fun τ2 S2 h2=>wJ.ext h2 e1⟩⟩
theorem mK {tg:Expr} {f:Ex} {g:Tg} (he:AE X e f) (hg:AG X tg g) (hs:swapsWithSole [tg] e pos.line X.env=pure false:=by rfl) (hw:swappedStores [tg] e X.env=pure none:=by rfl)
  (h1:(assignEach [tg] X.env).map (·.2)=[assign tg X.env]:=by rfl):AS X (.Assign [tg] e pos) (bY f g):=PS.imp (HE he hg hs hw h1) fun D σ H h=>EK h
theorem bw {i:Nat} {x:Str} {f:Ex} {pos':Pos} (hN:X.N.Nodup) (he:AE X e f) (hi:X.N[i]?=some x:=by rfl) (hx:Loc X.env.scope x:=by first | exact Or.inl rfl | exact Or.inr rfl) (hs:swapsWith e (some (.Name x pos')) pos.line X.env=pure false:=by rfl) (hf:X.fn x=true\/X.env.scope.names.lookup x=some .local:=by first | exact .inl rfl | exact .inr rfl | assumption) :
  AS X (.Assign [.Name x pos'] e pos) (bY f (bR i)):=PS.imp (IY hN hi hx he hs hf) fun D σ H ⟨ρ,S,τ,R,r,h⟩=>
 ⟨ρ,S,τ,R,r,au (of_post h) .refl fun a S1 h1 ρ1 H1 x e1 R1 v1=>h1 ρ1 H1 _ e1 R1 ((r.ext e1).set v1)⟩
noncomputable def Ly (i j:Nat) (c:gp):Sm:=fun τ S=>.of (c τ S) fun as S1=>match as with
 | [a,b]=>.nx ((τ.set i a).set j b) S1
 | _=>.no
noncomputable def ip (X:Cx) (f:A->A->aA->R A):Ij:=fun x y H Q=>∃ ρ S a b,Rel X.K ρ H S/\AV X.K ρ H a x/\AV X.K ρ H b y/\(f a b S).post (lA X ρ H Q) (XE X ρ H)
noncomputable def yZ (a b:A) (S:aA):R A:=match a,b with
 | .int i,.int j=>.ok (.int (i+j)) S
 | _,_=>.no
theorem xq:E3 X .Add (ip X yZ):=fun pins s σ H x y v u Q I r1 r2 ⟨ρ,S,a,b,R,va,vb,h⟩=>by
 cases va with
 | int i=>
  cases vb with
  | int j=>exact HC pins s σ H _ _ v u Q I r1 r2 ⟨i,j,rfl,rfl,h _ _ _ .refl R (.int _)⟩
  | _=>exact h.elim
 | _=>exact h.elim
theorem EE:E3 X .Sub (ip X aSub):=fun pins s σ H x y v u Q I r1 r2 ⟨ρ,S,a,b,R,va,vb,h⟩=>by
 cases va with
 | int i=>
  cases vb with
  | int j=>exact GI pins s σ H _ _ v u Q I r1 r2 ⟨i,j,rfl,rfl,h _ _ _ .refl R (.int _)⟩
  | _=>exact h.elim
 | _=>exact h.elim
noncomputable def CQ (i:Nat) (f:A->A->aA->R A) (e:Ex):Sm:=fun τ S=>if (τ.getD i .unb).dP then .no else .of (e τ S) fun b S1=>.of (f (τ.getD i .unb) b S1) fun c S2=>.nx (τ.set i c) S2
theorem Hv {i:Nat} {x:Str} {c:Ex} {op:Operator} {f:A->A->aA->R A} {pos':Pos} (hN:X.N.Nodup) (he:AE X e c) (ho:E3 X op (ip X f)) (hi:X.N[i]?=some x:=by rfl) (hx:Loc X.env.scope x:=by first | exact Or.inl rfl | exact Or.inr rfl) (hf:X.fn x=true\/X.env.scope.names.lookup x=some .local:=by first | exact .inl rfl | exact .inr rfl | assumption) :
  AS X (.AugAssign (.Name x pos') op e pos) (CQ i f c):=PS.imp (HU hN hi hx he ho hf) fun D σ H ⟨ρ,S,τ,R,r,h⟩=>by
 have key:∀ x,τ[i]?=some x->x.dP=false->(RS.of (c τ S) fun b S1=>.of (f x b S1) fun c S2=>.nx (τ.set i c) S2).post (wJ X ρ H D.nx) (lA X ρ H D.rt) (wJ X ρ H D.bk) (wJ X ρ H D.ct) (XE X ρ H) ->
   ∃ x,σ[i]?=some (some x)/\tE X c σ H fun y H1=>ip X f x y H1 fun z H2=>D.nx (σ.set i (some z)) H2:=by
  intro x hi hx h
  rcases r.at i x hi with z | ⟨v,e,q⟩
  ·subst z;cases hx
  ·refine ⟨v,e,ρ,S,τ,R,r,au (of_post h) .refl fun b S1 h1 ρ1 H1 y e1 R1 v1=>⟨ρ1,S1,x,b,R1,q.ext e1,v1,au (of_post h1) e1 fun w S2 h2 ρ2 H2 z e2 R2 v2=>?_⟩⟩
   exact h2 ρ2 H2 _ (e1.trans e2) R2 ((r.ext (e1.trans e2)).set v2)
 unfold CQ kZ at h
 rw [List.getD_eq_getElem?_getD] at h
 cases hi:τ[i]? with
 | none=>rw [hi] at h;exact h.elim
 | some x=>
  rw [hi] at h
  cases hx:x.dP with
  | true=>rw [show (some x).getD .unb=x from rfl,hx] at h;exact h.elim
  | false=>rw [show (some x).getD .unb=x from rfl,hx] at h;exact key x hi hx h
noncomputable def C_ (a b:A) (S:aA):R A:=match a,b with
 | .ref n,.int i=>opt (ak S n) fun xs=>gd (0<=i) (opt (xs[i.toNat]?) fun x=>.ok x S)
 | _,_=>.no
theorem Ek:ID X (r2 X C_):=fun pins s σ H o i ov iv Q I ro ri ⟨ρ,S,a,b,R,va,vb,h⟩=>by
 cases va with
 | @ref p n hp=>
  cases vb with
  | int k=>
   obtain ⟨xs,hn,h⟩:=aG h
   obtain ⟨h0,h⟩:=aW h
   obtain ⟨x,hx,h⟩:=aG h
   obtain ⟨vs,h1,r1⟩:=R.lst hp (aO hn)
   obtain ⟨z,e,q⟩:=r1.get hx
   exact C4 pins s σ H _ _ ov iv Q I ro ri ⟨p,vs,k,z,rfl,rfl,dQ.of h1,h0,e,h _ _ _ .refl R q⟩
  | _=>exact h.elim
 | _=>exact h.elim
noncomputable def nL (co ci ce:Ex) (f:A->A->aA->R A):Sm:=fun τ S=>.of (co τ S) fun o S1=>.of (ci τ S1) fun i S2=>.of (C_ o i S2) fun x S3=>.of (ce τ S3) fun y S4=>.of (f x y S4) fun z S5=>.of (sC o i z S5) fun _ S6=>.nx τ S6
theorem vU {o i:Expr} {co ci ce:Ex} {op:Operator} {f:A->A->aA->R A} {tpos:Pos} (ho:AE X o co) (hi:AE X i ci) (he:AE X e ce) (hp:E3 X op (ip X f))
  (ha:∀ ov iv new,augStore i ov iv new=(do holding [new,ov,iv] (setItem ov iv new);release [new,ov,iv] [];pure .next):=by intros;rfl):AS X (.AugAssign (.Subscript o i tpos) op e pos) (nL co ci ce f):=
 PS.imp (EW ho hi Ek he hp wZ ha) fun D σ H ⟨ρ,S,τ,R,r,h⟩=>by
  refine ⟨ρ,S,τ,R,r,au (of_post h) .refl fun ao S1 h1 ρ1 H1 vo e1 R1 v1=>⟨ρ1,S1,τ,R1,r.ext e1,au (of_post h1) e1 fun ai S2 h2 ρ2 H2 vi e2 R2 v2=>?_⟩⟩
  refine ⟨ρ2,S2,ao,ai,R2,v1.ext e2,v2,au (of_post h2) (e1.trans e2) fun ax S3 h3 ρ3 H3 vx e3 R3 v3=>?_⟩
  have e13:=(e1.trans e2).trans e3
  refine ⟨ρ3,S3,τ,R3,r.ext e13,au (of_post h3) e13 fun ay S4 h4 ρ4 H4 vy e4 R4 v4=>?_⟩
  refine ⟨ρ4,S4,ax,ay,R4,v3.ext e4,v4,au (of_post h4) (e13.trans e4) fun az S5 h5 ρ5 H5 vz e5 R5 v5=>?_⟩
  have e35:=(e3.trans e4).trans e5
  refine ⟨ρ5,S5,ao,ai,az,R5,v1.ext (e2.trans e35),v2.ext e35,v5,au (of_post h5) ((e13.trans e4).trans e5) fun _ S6 h6 ρ6 H6 e6 R6=>?_⟩
  have e16:=((e13.trans e4).trans e5).trans e6
  exact h6 ρ6 H6 σ e16 R6 (r.ext e16)
noncomputable def dg (t:Te) (c:Sm):Nat->Sm
 | 0=>fun _ _=>.no
 | n+1=>fun τ S=>.of (t τ S) fun b S1=>match b with
  | false=>.nx τ S1
  | true=>match c τ S1 with
   | .nx τ' S'=>dg t c n τ' S'
   | .ct τ' S'=>dg t c n τ' S'
   | .bk τ' S'=>.nx τ' S'
   | r=>r
theorem nH (n:Nat) {t:Te} {body:List Stmt} (hp:PassesOwn (model X.prog X.w) X.A X.env X.xe) (ht:AT X e t) (hb:zk X body c):AS X (.While e body [] pos) (dg t c n):=PS.imp (A6 hp ht hb) fun D σ H ⟨ρ,S,τ,R,r,h⟩=>by
 refine ⟨fun m σ' H'=>∃ ρ' S' τ',Ext ρ ρ' H H'/\Rel X.K ρ' H' S'/\SR X.K ρ' H' τ' σ'/\kZ X ρ' H' D (dg t c m τ' S'),⟨n,ρ,S,τ,.refl,R,r,h⟩,?_⟩
 rintro m σ1 H1 ⟨ρ1,S1,τ1,e1,R1,r1,h1⟩
 cases m with
 | zero=>exact h1.elim
 | succ m=>
  refine ⟨ρ1,S1,τ1,R1,r1,au (of_post h1) .refl fun b S2 h2 ρ2 H2 e2 R2=>?_⟩
  cases b with
  | false=>rw [if_neg Bool.false_ne_true];exact h2 ρ2 H2 σ1 e2 R2 (r1.ext e2)
  | true=>
   rw [if_pos rfl]
   refine ⟨fun σ' H'=>∃ ρ' S' τ',Ext ρ ρ' H H'/\Rel X.K ρ' H' S'/\SR X.K ρ' H' τ' σ'/\kZ X ρ' H' D (dg t c m τ' S'),fun σ' H' z=>⟨m,Nat.lt_succ_self _,z⟩,ρ2,S2,τ1,R2,r1.ext e2,?_⟩
   have h2:kZ X ρ1 H1 D (match c τ1 S2 with
    | .nx τ' S'=>dg t c m τ' S'
    | .ct τ' S'=>dg t c m τ' S'
    | .bk τ' S'=>.nx τ' S'
    | r=>r):=h2
   cases hc:c τ1 S2 with
   | nx τ3 S3=>rw [hc] at h2;exact fun ρ3 H3 σ3 e3 R3 r3=>⟨ρ3,S3,τ3,(e1.trans e2).trans e3,R3,r3,kZ.ext h2 (e2.trans e3)⟩
   | ct τ3 S3=>rw [hc] at h2;exact fun ρ3 H3 σ3 e3 R3 r3=>⟨ρ3,S3,τ3,(e1.trans e2).trans e3,R3,r3,kZ.ext h2 (e2.trans e3)⟩
   | bk τ3 S3=>rw [hc] at h2;exact wJ.ext h2 e2
   | rt a S3=>rw [hc] at h2;exact lA.ext h2 e2
   | ex x S3=>rw [hc] at h2;exact XE.ext h2 e2
   | no=>rw [hc] at h2;exact h2
end
end Am
namespace L2
open PySem PySem.Spec PyProof.Rows
section
variable {X:Cx}
end
end L2
namespace Am
open PySem PySem.Spec PyProof.Rows L2
section
variable {X:Cx}
end
section
variable {X:Cx} {o e:Expr} {p2 spos pos:Pos} {co ci:Ex}
end
structure Src where
 k:Nat
 get:Nat->aA->Option A
 fin:aA->Bool
structure JR (K:PySem.W.Frag) (s:Src) (J:It) (ρ0:List Addr) (H0:Hp):Prop where
 go:∀ (i:Nat) (S:aA) (H:Hp) (ρ:List Addr) (x:A),Ext0 ρ0 ρ H0 H->Rel K ρ H S->s.get i S=some x->J.go i H/\∀ v H',J.yld i H v H'->Ext ρ ρ H H'/\Rel K ρ H' S/\AV K ρ H' x v
 stop:∀ (S:aA) (H:Hp) (ρ:List Addr),Ext0 ρ0 ρ H0 H->Rel K ρ H S->s.fin S=true->J.stop s.k H
noncomputable abbrev Ic:=List A->aA->R Src
noncomputable def tI (X:Cx) (c:Ic):TI:=fun σ H Q=>∃ ρ S τ,Rel X.K ρ H S/\SR X.K ρ H τ σ/\(c τ S).post (fun s S'=>∀ ρ' H' J,Ext ρ ρ' H H'->Rel X.K ρ' H' S'->JR X.K s J ρ' H'->Q J H') (XE X ρ H)
noncomputable def AI (X:Cx) (tg iter:Expr) (c:Ic):Prop:=PI X tg iter (tI X c)
noncomputable def dX (xs:List A):Src:=⟨xs.length,fun i _=>xs[i]?,fun _=>true⟩
noncomputable def dY (n k:Nat):Src:=⟨k,fun i S=>(ak S n).bind (·[i]?),fun S=>match ak S n with
 | some ys=>decide (ys.length<=k)
 | none=>false⟩
noncomputable def cD (lo hi:Int):Src:=⟨(hi - lo).toNat,fun i _=>if i < (hi - lo).toNat then some (.int (lo+i)) else none,fun _=>true⟩
noncomputable def jP (c:Ex):Ic:=fun τ S=>(c τ S).bind fun a S1=>match a with
 | .tup xs=>.ok (dX xs) S1
 | .frz xs=>.ok (dX xs) S1
 | .ref n=>opt (ak S1 n) fun xs=>.ok (dY n xs.length) S1
 | .str x=>gd (x.cps.all (· < 128)=true) (.ok (dX (x.cps.toList.map fun c=>.str ⟨#[c]⟩)) S1)
 | _=>.no
section
variable {X:Cx} {pos:Pos} {tg e a b:Expr}
theorem Im {K:PySem.W.Frag} {ρ0:List Addr} {H0:Hp} {p:Addr} {xs:List A} {vs:List V} (h:cI K H0 p vs) (r:AVs K ρ0 H0 xs vs):JR K (dX xs) (MM K p) ρ0 H0 where
 go:=fun i S H ρ x e R g=>by
  obtain ⟨v,ev,av⟩:=(AVs.cX e r).get g
  have hs:=e.Nd h
  refine ⟨⟨vs,v,hs,ev⟩,fun w H' ⟨e1,y⟩=>?_⟩
  subst e1
  have:=y vs hs
  rw [ev] at this
  cases this
  exact ⟨.refl,R,av⟩
 stop:=fun S H ρ e R _=>⟨vs,e.Nd h,by rw [<- r.length];exact Nat.le_refl _⟩
theorem IA {K:PySem.W.Frag} {ρ0:List Addr} {H0:Hp} {p:Addr} {xs:List A} {vs:List V} (h:Fz K H0 p vs) (r:AVs K ρ0 H0 xs vs):JR K (dX xs) (Le K p) ρ0 H0 where
 go:=fun i S H ρ x e R g=>by
  obtain ⟨v,ev,av⟩:=(AVs.cX e r).get g
  have hs:=(e.fz h).zA
  refine ⟨⟨vs,v,hs,ev⟩,fun w H' ⟨e1,y⟩=>?_⟩
  subst e1
  have:=y vs hs
  rw [ev] at this
  cases this
  exact ⟨.refl,R,av⟩
 stop:=fun S H ρ e R _=>⟨vs,(e.fz h).zA,by rw [<- r.length];exact Nat.le_refl _⟩
theorem GJ {K:PySem.W.Frag} {ρ0:List Addr} {H0:Hp} {p:Addr} {n k:Nat} (h:ρ0[n]?=some p):JR K (dY n k) (Le K p) ρ0 H0 where
 go:=fun i S H ρ x e R g=>by
  obtain ⟨ys,hn,hx⟩:=Option.bind_eq_some_iff.mp (show (ak S n).bind (·[i]?)=some x from g)
  obtain ⟨vs,h1,r⟩:=R.lst (e.get h) (aO hn)
  obtain ⟨v,ev,av⟩:=r.get hx
  refine ⟨⟨vs,v,dQ.of h1,ev⟩,fun w H' ⟨e1,y⟩=>?_⟩
  subst e1
  have:=y vs (dQ.of h1)
  rw [ev] at this
  cases this
  exact ⟨.refl,R,av⟩
 stop:=fun S H ρ e R g=>by
  have g:(match ak S n with
   | some ys=>decide (ys.length<=k)
   | none=>false)=true:=g
  cases hn:ak S n with
  | none=>rw [hn] at g;cases g
  | some ys=>
   rw [hn] at g
   obtain ⟨vs,h1,r⟩:=R.lst (e.get h) (aO hn)
   exact ⟨vs,dQ.of h1,by rw [<- r.length];exact of_decide_eq_true g⟩
theorem BS {K:PySem.W.Frag} {ρ0:List Addr} {H0:Hp} {lo hi:Int}:JR K (cD lo hi) (JZ lo (hi - lo).toNat) ρ0 H0 where
 go:=fun i S H ρ x e R g=>by
  have g:(if i < (hi - lo).toNat then some (A.int (lo+i)) else none)=some x:=g
  by_cases hi':i < (hi - lo).toNat
  ·rw [if_pos hi'] at g
   cases g
   refine ⟨hi',fun w H' ⟨e1,y⟩=>?_⟩
   subst e1 y
   exact ⟨.refl,R,.int _⟩
  ·rw [if_neg hi'] at g;cases g
 stop:=fun S H ρ e R _=>Nat.le_refl _
theorem Hx {K:PySem.W.Frag} {ρ0:List Addr} {H0:Hp} {x:Str}:JR K (dX (x.cps.toList.map fun c=>A.str ⟨#[c]⟩)) (MG x) ρ0 H0 where
 go:=fun i S H ρ y e R g=>by
  have g:(x.cps.toList.map fun c=>A.str ⟨#[c]⟩)[i]?=some y:=g
  rw [List.getElem?_map] at g
  obtain ⟨c,hc,rfl⟩:=Option.map_eq_some_iff.mp g
  rw [Array.getElem?_toList] at hc
  refine ⟨(Array.getElem?_eq_some_iff.mp hc).1,fun w H' ⟨e1,c',hc',y'⟩=>?_⟩
  rw [hc] at hc'
  cases hc'
  subst e1 y'
  exact ⟨.refl,R,.str _⟩
 stop:=fun S H ρ e R _=>by
  show (x.cps.toList.map fun c=>A.str ⟨#[c]⟩).length=x.cps.size
  rw [List.length_map,Array.length_toList]
theorem mV {c:Ex} (he:AE X e c):AI X tg e (jP c):=fun pins s σ H Q I ⟨ρ,S,τ,R,r,h⟩=>by
 have hb:=aH h
 cases hc:c τ S with
 | no=>rw [hc] at hb;exact hb.elim
 | ex x S1=>
  rw [hc] at hb
  exact C3 he pins s σ H Q I ⟨ρ,S,τ,R,r,by rw [hc];exact hb⟩
 | ok a S1=>
  rw [hc] at hb
  cases a with
  | tup xs=>
   refine C3 he pins s σ H Q I ⟨ρ,S,τ,R,r,?_⟩
   rw [hc]
   intro ρ1 H1 x e1 R1 v1
   cases v1 with
   | tup h1 r1=>exact ⟨_,rfl,⟨_,(cI.of h1)⟩,hb ρ1 H1 _ e1 R1 (Im (cI.of h1) r1)⟩
  | frz xs=>
   refine v9 he pins s σ H Q I ⟨ρ,S,τ,R,r,?_⟩
   rw [hc]
   intro ρ1 H1 x e1 R1 v1
   cases v1 with
   | frz h1 r1=>exact ⟨_,rfl,⟨_,h1.zA⟩,hb ρ1 H1 _ e1 R1 (IA h1 r1)⟩
  | ref n=>
   obtain ⟨xs,hn,hb⟩:=aG hb
   refine v9 he pins s σ H Q I ⟨ρ,S,τ,R,r,?_⟩
   rw [hc]
   intro ρ1 H1 x e1 R1 v1
   cases v1 with
   | ref hp=>
    obtain ⟨vs,h1,r1⟩:=R1.lst hp (aO hn)
    exact ⟨_,rfl,⟨_,dQ.of h1⟩,hb ρ1 H1 _ e1 R1 (GJ hp)⟩
  | str x=>
   obtain ⟨ha,hb⟩:=aW hb
   refine Hl he pins s σ H Q I ⟨ρ,S,τ,R,r,?_⟩
   rw [hc]
   intro ρ1 H1 v e1 R1 v1
   cases v1 with
   | str=>exact ⟨x,rfl,ha,hb ρ1 H1 _ e1 R1 Hx⟩
  | _=>exact hb.elim
noncomputable def bnd (i:Int):Prop:=-(2 ^ 62)<=i/\i < 2 ^ 62
instance (i:Int):Decidable (bnd i):=by unfold bnd;infer_instance
noncomputable def ir (c:Ex):Ic:=fun τ S=>(c τ S).bind fun a S1=>match a with
 | .int j=>gd (bnd j) (.ok (cD 0 j) S1)
 | _=>.no
noncomputable def gS (c d:Ex):Ic:=fun τ S=>(c τ S).bind fun a S1=>(d τ S1).bind fun b S2=>match a,b with
 | .int i,.int j=>gd (bnd i/\bnd j) (.ok (cD i j) S2)
 | _,_=>.no
theorem eW {p:Pos} {c:Ex} (hm:X.mg "range" = none) (ha:AE X a c) (hg:Gl X "range" := by rfl) (hs:starEach [a] X.env=[(false,eval a X.env)]:=by rfl):AI X tg (.Call (.Name "range" p) [a] [] pos) (ir c):=fun pins s σ H Q I ⟨ρ,S,τ,R,r,h⟩=>by
 refine yH hg hm (fM ha kc hs) hs pins s σ H Q I ⟨ρ,S,τ,R,r,au (aH h) .refl fun x S1 h1 ρ1 H1 v e1 R1 v1=>?_⟩
 cases v1 with
 | int j=>
  obtain ⟨hb,h1⟩:=aW h1
  exact ⟨_,rfl,hb.1,hb.2,by have:=h1 ρ1 H1 _ e1 R1 BS;rwa [Int.sub_zero] at this⟩
 | _=>exact h1.elim
theorem j4 {p:Pos} {c d:Ex} (hm:X.mg "range" = none) (ha:AE X a c) (hb:AE X b d) (hg:Gl X "range" := by rfl) (hs:starEach [a,b] X.env=[(false,eval a X.env),(false,eval b X.env)]:=by rfl) (hs2:starEach [b] X.env=[(false,eval b X.env)]:=by rfl):AI X tg (.Call (.Name "range" p) [a,b] [] pos) (gS c d):=fun pins s σ H Q I ⟨ρ,S,τ,R,r,h⟩=>by
 refine yl hg hm (fM ha (fM hb kc hs2) (by rw [hs,hs2])) hs hs2 pins s σ H Q I ⟨ρ,S,τ,R,r,au (aH h) .refl fun x S1 h1 ρ1 H1 v e1 R1 v1=>⟨ρ1,S1,τ,R1,r.ext e1,au (aH h1) e1 fun y S2 h2 ρ2 H2 w e2 R2 v2=>?_⟩⟩
 cases v1 with
 | int i=>
  cases v2 with
  | int j=>
   obtain ⟨hb,h2⟩:=aW h2
   exact ⟨_,_,rfl,⟨hb.1.1,hb.1.2,hb.2.1,hb.2.2⟩,h2 ρ2 H2 _ (e1.trans e2) R2 BS⟩
  | _=>exact h2.elim
 | _=>exact h2.elim
noncomputable def fJ (s:Src) (g:Tg) (c:Sm):Nat->Nat->Sm
 | 0,_=>fun τ S=>if s.fin S then .nx τ S else .no
 | k+1,i=>fun τ S=>match s.get i S with
  | none=>.no
  | some x=>.of (g x τ S) fun τ1 S1=>match c τ1 S1 with
   | .nx τ' S'=>fJ s g c k (i+1) τ' S'
   | .ct τ' S'=>fJ s g c k (i+1) τ' S'
   | .bk τ' S'=>.nx τ' S'
   | r=>r
noncomputable def jh (src:Ic) (g:Tg) (c:Sm):Sm:=fun τ S=>.of (src τ S) fun s S1=>fJ s g c s.k 0 τ S1
theorem jf {iter:Expr} {body:List Stmt} {src:Ic} {g:Tg} {c:Sm} (hp:PassesOwn (model X.prog X.w) X.A X.env X.xe) (hc:X.calm=true) (hi:AI X tg iter src) (hg:AG X tg g) (hb:zk X body c)
  (hs:∀ x,foldedSetIterable iter X.env x=pure x:=by intro _;rfl):AS X (.For tg iter body [] pos) (jh src g c):=PS.imp (GR hp hc hi hg hb hs) fun D σ H ⟨ρ,S,τ,R,r,h⟩=>by
 refine ⟨ρ,S,τ,R,r,au (of_post h) .refl fun s S1 h1 ρ1 H1 J e1 R1 jr=>?_⟩
 refine ⟨fun i m σ' H'=>m+i=s.k/\∃ ρ' S' τ',Ext ρ1 ρ' H1 H'/\Rel X.K ρ' H' S'/\SR X.K ρ' H' τ' σ'/\kZ X ρ' H' D (fJ s g c m i τ' S'),⟨s.k,rfl,ρ1,S1,τ,.refl,R1,r.ext e1,kZ.ext h1 e1⟩,?_⟩
 rintro i m σ2 H2 ⟨hm,ρ2,S2,τ2,e2,R2,r2,h2⟩
 cases m with
 | zero=>
  left
  have h2:kZ X ρ2 H2 D (if s.fin S2 then .nx τ2 S2 else .no):=h2
  cases hf:s.fin S2 with
  | false=>rw [hf] at h2;exact h2.elim
  | true=>
   rw [hf] at h2
   refine ⟨by rw [show i=s.k by omega];exact jr.stop S2 H2 ρ2 e2.toExt0 R2 hf,h2 ρ2 H2 σ2 .refl R2 r2⟩
 | succ m=>
  right
  have h2:kZ X ρ2 H2 D (match s.get i S2 with
   | none=>.no
   | some x=>.of (g x τ2 S2) fun τ1 S1=>match c τ1 S1 with
    | .nx τ' S'=>fJ s g c m (i+1) τ' S'
    | .ct τ' S'=>fJ s g c m (i+1) τ' S'
    | .bk τ' S'=>.nx τ' S'
    | r=>r):=h2
  cases hx:s.get i S2 with
  | none=>rw [hx] at h2;exact h2.elim
  | some x=>
   rw [hx] at h2
   obtain ⟨hgo,hy⟩:=jr.go i S2 H2 ρ2 x e2.toExt0 R2 hx
   refine ⟨hgo,fun σ' H'=>m+(i+1)=s.k/\∃ ρ' S' τ',Ext ρ1 ρ' H1 H'/\Rel X.K ρ' H' S'/\SR X.K ρ' H' τ' σ'/\kZ X ρ' H' D (fJ s g c m (i+1) τ' S'),fun σ' H' z=>⟨m,Nat.lt_succ_self _,z⟩,fun v H3 y=>?_⟩
   obtain ⟨e3,R3,v3⟩:=hy v H3 y
   refine ⟨ρ2,S2,τ2,x,R3,r2.ext e3,v3,au (of_post h2) e3 fun τ4 S4 h4 ρ4 H4 σ4 e4 R4 r4=>⟨ρ4,S4,τ4,R4,r4,?_⟩⟩
   have e24:=e3.trans e4
   cases hcc:c τ4 S4 with
   | nx τ5 S5=>rw [hcc] at h4;exact fun ρ5 H5 σ5 e5 R5 r5=>⟨by omega,ρ5,S5,τ5,(e2.trans e24).trans e5,R5,r5,kZ.ext h4 (e24.trans e5)⟩
   | ct τ5 S5=>rw [hcc] at h4;exact fun ρ5 H5 σ5 e5 R5 r5=>⟨by omega,ρ5,S5,τ5,(e2.trans e24).trans e5,R5,r5,kZ.ext h4 (e24.trans e5)⟩
   | bk τ5 S5=>rw [hcc] at h4;exact wJ.ext h4 e24
   | rt x5 S5=>rw [hcc] at h4;exact lA.ext h4 e24
   | ex x5 S5=>rw [hcc] at h4;exact XE.ext h4 e24
   | no=>rw [hcc] at h4;exact h4
end
section
variable {X:Cx} {tg a b c0:Expr} {pos:Pos}
end
noncomputable def R.cR {α β:Type} (r:R α) (f:α->aA->R β):R β:=match r with
 | .ok a S=>f a S
 | _=>.no
theorem cg {α β:Type} {r:R α} {f:α->aA->R β} {b:β} {S2:aA} (h:r.cR f=.ok b S2):∃ a S,r=.ok a S/\f a S=.ok b S2:=by
 cases r with
 | ok a S=>exact ⟨a,S,rfl,h⟩
 | ex _ _=>cases h
 | no=>cases h
theorem lR {α β:Type} {r:R α} {f:α->aA->R β} {P:β->aA->Prop} {E:Str->aA->Prop} (h:(r.cR f).post P E):∃ a S,r=.ok a S/\(f a S).post P E:=by
 cases r with
 | ok a S=>exact ⟨a,S,rfl,h⟩
 | ex _ _=>exact h.elim
 | no=>exact h.elim
theorem ur {α β:Type} {o:Option β} {f:β->R α} {a:α} {S:aA} (h:opt o f=.ok a S):∃ b,o=some b/\f b=.ok a S:=by
 cases o with
 | none=>cases h
 | some b=>exact ⟨b,rfl,h⟩
noncomputable def dN (s:Src) (g:Tg) (t:Te) (e:Ex):Nat->Nat->List A->aA->R (List A)
 | 0,_=>fun _ S=>if s.fin S then .ok [] S else .no
 | k+1,i=>fun τ S=>opt (s.get i S) fun x=>(g x τ S).cR fun τ1 S1=>(t τ1 S1).cR fun b S2=>match b with
  | true=>(e τ1 S2).cR fun y S3=>(dN s g t e k (i+1) τ1 S3).cR fun ys S4=>.ok (y::ys) S4
  | false=>dN s g t e k (i+1) τ1 S2
noncomputable def eB (cap:List (Option Nat)) (τ:List A):List A:=cap.map fun o=>match o with
 | some j=>τ.getD j .unb
 | none=>.unb
noncomputable def cU (cap:List (Option Nat)) (src:Ic) (g:Tg) (t:Te) (e:Ex):Ex:=fun τ S=>(src τ S).bind fun s S1=>(dN s g t e s.k 0 (eB cap τ) S1).cR fun ys S2=>newL ys S2
noncomputable def ql:Te:=fun _ S=>.ok true S
theorem qK {s:Src} {g:Tg} {t:Te} {e:Ex} {k i:Nat} {τ:List A} {S S':aA} {zs:List A} (h:dN s g t e (k+1) i τ S=.ok zs S') :
  ∃ x τ1 S1 b S2,s.get i S=some x/\g x τ S=.ok τ1 S1/\t τ1 S1=.ok b S2/\(b=true->∃ y S3 ws,e τ1 S2=.ok y S3/\dN s g t e k (i+1) τ1 S3=.ok ws S'/\zs=y::ws)/\(b=false->dN s g t e k (i+1) τ1 S2=.ok zs S'):=by
 obtain ⟨x,hx,h⟩:=ur h
 obtain ⟨τ1,S1,h1,h⟩:=cg h
 obtain ⟨b,S2,h2,h⟩:=cg h
 refine ⟨x,τ1,S1,b,S2,hx,h1,h2,fun hb=>?_,fun hb=>?_⟩
 ·subst hb
  obtain ⟨y,S3,h3,h⟩:=cg h
  obtain ⟨ws,S4,h4,h⟩:=cg h
  cases h
  exact ⟨y,S3,ws,h3,h4,rfl⟩
 ·subst hb;exact h
noncomputable def Lp (K:PySem.W.Frag) (c:Ex):TE:=fun σ H Q=>∃ ρ S τ a S',Rel K ρ H S/\SR K ρ H τ σ/\c τ S=.ok a S'/\∀ ρ' H' v,Ext ρ ρ' H H'->Rel K ρ' H' S'->AV K ρ' H' a v->Q v H'
noncomputable def Jz (K:PySem.W.Frag) (c:Te):TT:=fun σ H Q=>∃ ρ S τ a S',Rel K ρ H S/\SR K ρ H τ σ/\c τ S=.ok a S'/\∀ ρ' H',Ext ρ ρ' H H'->Rel K ρ' H' S'->Q a H'
noncomputable def JC (K:PySem.W.Frag) (g:Tg):TG:=fun v σ H Q=>∃ ρ S τ a τ' S',Rel K ρ H S/\SR K ρ H τ σ/\AV K ρ H a v/\g a τ S=.ok τ' S'/\∀ ρ' H' σ',Ext ρ ρ' H H'->Rel K ρ' H' S'->SR K ρ' H' τ' σ'->Q σ' H'
section
variable {X:Cx} {pos:Pos} {tg iter elt e:Expr} {ifs:List Expr} {scope:Scope} {N:List Str} {cap:List (Option Nat)} {src:Ic} {g:Tg} {t:Te} {c:Ex}
theorem AE.e0 {K:PySem.W.Frag} (hK:X.K=K) (h:AE X e c):PE X e (Lp K c):=PE.imp h fun σ H Q ⟨ρ,S,τ,a,S',R,r,hc,q⟩=>⟨ρ,S,τ,by rw [hK];exact R,by rw [hK];exact r,by rw [hc];exact fun ρ' H' v e R' v'=>q ρ' H' v e (by rw [<- hK];exact R') (by rw [<- hK];exact v')⟩
theorem AT.t0 {K:PySem.W.Frag} (hK:X.K=K) (h:AT X e t):PT X e (Jz K t):=PT.imp h fun σ H Q ⟨ρ,S,τ,a,S',R,r,hc,q⟩=>⟨ρ,S,τ,by rw [hK];exact R,by rw [hK];exact r,by rw [hc];exact fun ρ' H' e R'=>q ρ' H' e (by rw [<- hK];exact R')⟩
theorem AG.g0 {K:PySem.W.Frag} (hK:X.K=K) (h:AG X e g):PG X e (JC K g):=PG.imp h fun v σ H Q ⟨ρ,S,τ,a,τ',S',R,r,va,hc,q⟩=>⟨ρ,S,τ,a,by rw [hK];exact R,by rw [hK];exact r,by rw [hK];exact va,by rw [hc];exact fun ρ' H' v e R' v'=>q ρ' H' v e (by rw [<- hK];exact R') (by rw [<- hK];exact v')⟩
noncomputable def JY (X:Cx) (ifs:List Expr) (t:Te):Prop:=E8 X ifs (Jz X.K t)
theorem p6:JY X [] ql:=fun pins s σ H Q I ⟨ρ,S,τ,a,S',R,r,hc,q⟩=>EY pins s σ H Q I (by cases hc;exact q ρ H .refl R)
theorem jR (h:AT X e t):JY X [e] t:=D6 (h.t0 rfl)
theorem FG {K:PySem.W.Frag} {ρ:List Addr} {H:Hp} {τ:List A} {σ:L2.St} (r:SR K ρ H τ σ) (cap:List (Option Nat)):SR K ρ H (eB cap τ) (cap.map (Dk σ)):=by
 refine ⟨by simp [eB],fun i a h=>?_⟩
 unfold eB at h
 rw [List.getElem?_map] at h
 obtain ⟨o,ho,e⟩:=Option.map_eq_some_iff.mp h
 cases o with
 | none=>exact .inl e.symm
 | some j=>
  have e:τ.getD j .unb=a:=e
  cases hj:τ[j]? with
  | none=>rw [List.getD_eq_getElem?_getD,hj] at e;exact .inl e.symm
  | some b=>
   rw [List.getD_eq_getElem?_getD,hj] at e
   have e:b=a:=e
   subst e
   rcases r.at j b hj with z | ⟨v,h1,h2⟩
   ·exact .inl z
   ·exact .inr ⟨v,by rw [List.getElem?_map,ho];show some ((σ[j]?).getD none)=_;rw [h1];rfl,h2⟩
theorem Rel.Cw {K:PySem.W.Frag} {ρ:List Addr} {H:Hp} {S:aA} {p:Addr} (R:Rel K ρ H S) (hp:H p=none):p∉ρ:=fun hm=>by
 obtain ⟨n,hn,e⟩:=List.mem_iff_getElem.mp hm
 have hl:n < S.length:=by rw [<- R.len];exact hn
 have:=R.at n p S[n] (by rw [List.getElem?_eq_getElem hn,e]) (List.getElem?_eq_getElem hl)
 cases ho:S[n] with
 | lst xs=>rw [ho] at this;obtain ⟨vs,h,_⟩:=this;rw [hp] at h;cases h
 | dct _ | dki _=>rw [ho] at this;obtain ⟨vs,h,_⟩:=this;rw [hp] at h;cases h
 | ins _ _=>rw [ho] at this;obtain ⟨_,_,h⟩:=this;rw [hp] at h;cases h
theorem B5 (σ:L2.St) (H:Hp) (Q:VK) (h:tE X (cU cap src g t c) σ H Q):L_ cap (tI X src) (JC X.K g) (Jz X.K t) (Lp X.K c) σ H Q:=by
 obtain ⟨ρ,S,τ,R,r,h⟩:=h
 refine ⟨ρ,S,τ,R,r,au (aH h) .refl fun s S1 h1 ρ1 H1 J e1 R1 jr D hD=>?_⟩
 obtain ⟨ys,S2,hcg,h1⟩:=lR h1
 obtain ⟨hlen,h1⟩:=aW h1
 have h1:lA X ρ H Q (.ref S2.length) (S2++[.lst ys]):=h1
 obtain ⟨eD,RD⟩:=R1.im (u:=.lst []) hD
 have nD:=R1.Cw hD
 refine ⟨fun i m σ' H'=>m+i=s.k/\∃ ρ' S' τ' acc zs accV,Ext0 ρ1 ρ' H1 H'/\(∀ a u,a≠D->H1 a=some u->a∉ρ1->H' a=some u)/\(∀ a∈ρ',a∈ρ1\/H1 a=none)/\D∉ρ'/\H' D=some (.lst accV)/\Rel X.K ρ' H' S'/\SR X.K ρ' H' τ' σ'/\AVs X.K ρ' H' acc accV/\dN s g t c m i τ' S'=.ok zs S2/\acc++zs=ys,
  ⟨s.k,rfl,ρ1,S1,eB cap τ,[],ys,[],eD.toExt0,fun a u na hu _=>by rw [aI na];exact hu,fun a ha=>.inl ha,nD,aY,RD,(FG ((r.ext e1).ext eD) cap),.nil,hcg,rfl⟩,?_⟩
 rintro i m σ3 H3 ⟨hm,ρ3,S3,τ3,acc,zs,accV,e3,fr3,nw3,nD3,hD3,R3,r3,ac3,cg3,eys⟩
 cases m with
 | zero=>
  left
  have cg3:(if s.fin S3 then Am.R.ok [] S3 else .no)=.ok zs S2:=cg3
  cases hf:s.fin S3 with
  | false=>rw [hf] at cg3;cases cg3
  | true=>
   rw [hf] at cg3
   cases cg3
   rw [List.append_nil] at eys
   subst eys
   refine ⟨by rw [show i=s.k by omega];exact jr.stop _ H3 ρ3 e3 R3 hf,?_⟩
   obtain ⟨RT,gt⟩:=R3.take hD3 nD3 ac3
   refine h1 (ρ3++[D]) H3 _ (e1.trans ⟨⟨e3.pre.trans (List.prefix_append _ _),e3.im⟩,fun a u hu na=>fr3 a u (aQ hu hD) hu na,fun a ha=>?_⟩) RT (.ref gt)
   rcases List.mem_append.mp ha with z | z
   ·exact nw3 a z
   ·have:a=D:=by simpa using z
    rw [this];exact .inr hD
 | succ m=>
  right
  obtain ⟨x,τ4,S4,b,S5,hx,hg4,ht5,hT,hF⟩:=qK cg3
  obtain ⟨hgo,hy⟩:=jr.go i S3 H3 ρ3 x e3 R3 hx
  refine ⟨hgo,fun v H4 y=>?_⟩
  obtain ⟨e4,R4,v4⟩:=hy v H4 y
  refine ⟨ρ3,S3,τ3,x,τ4,S4,R4,r3.ext e4,v4,hg4,fun ρ5 H5 σ5 e5 R5 r5=>?_⟩
  refine ⟨ρ5,S4,τ4,b,S5,R5,r5,ht5,fun ρ6 H6 e6 R6=>?_⟩
  have e36:=(e4.trans e5).trans e6
  have stay:∀ {ρ7:List Addr} {H7:Hp},Ext ρ3 ρ7 H3 H7->Ext0 ρ1 ρ7 H1 H7/\(∀ a u,a≠D->H1 a=some u->a∉ρ1->H7 a=some u)/\(∀ a∈ρ7,a∈ρ1\/H1 a=none)/\D∉ρ7/\H7 D=some (.lst accV):=fun {ρ7 H7} e7=>by
   refine ⟨⟨e3.pre.trans e7.pre,fun a u i h=>e7.im a u i (e3.im a u i h)⟩,fun a u na hu nr=>e7.fr a u (fr3 a u na hu nr) fun z=>(nw3 a z).elim nr fun z=>by (rw [z] at hu;cases hu),fun a ha=>?_,fun z=>(e7.nw D z).elim nD3 fun z=>by (rw [hD3] at z;cases z),e7.fr D _ hD3 nD3⟩
   by_cases hr:a∈ρ1
   ·exact .inl hr
   ·right
    cases q:H1 a with
    | none=>rfl
    | some u=>
     have aD:a≠D:=aQ q hD
     rcases e7.nw a ha with z | z
     ·exact ((nw3 a z).elim hr fun z=>by (rw [z] at q;cases q)).elim
     ·rw [fr3 a u aD q hr] at z;cases z
  cases b with
  | false=>
   dsimp only
   rw [if_neg Bool.false_ne_true]
   obtain ⟨g1,g2,g3,g4,g5⟩:=stay e36
   exact ⟨m,Nat.lt_succ_self _,by omega,ρ6,S5,τ4,acc,zs,accV,g1,g2,g3,g4,g5,R6,r5.ext e6,ac3.ext e36,hF rfl,eys⟩
  | true=>
   dsimp only
   rw [if_pos rfl]
   obtain ⟨y,S6,ws,he6,cg6,ezs⟩:=hT rfl
   refine ⟨ρ6,S5,τ4,y,S6,R6,r5.ext e6,he6,fun ρ7 H7 w e7 R7 v7=>?_⟩
   obtain ⟨g1,g2,g3,g4,g5⟩:=stay (e36.trans e7)
   obtain ⟨ex8,R8⟩:=R7.out (ws:=accV++[w]) g5 g4
   have l1:=ac3.length
   refine ⟨accV,g5,?_,m,Nat.lt_succ_self _,by omega,ρ7,S6,τ4,acc++[y],ws,accV++[w],?_,fun a u na hu nr=>by rw [aI na];exact g2 a u na hu nr,g3,g4,aY,R8,(r5.ext (e6.trans e7)).cX ex8,(AVs.cX ex8 ((ac3.ext (e36.trans e7)).append (.one v7))),cg6,?_⟩
   ·have:(acc++zs).length<=sizeLine:=by rw [eys];exact hlen
    rw [ezs,List.length_append,List.length_cons] at this
    omega
   ·exact ⟨g1.pre,fun a u i h=>ex8.im a u i (g1.im a u i h)⟩
   ·rw [List.append_assoc,<- eys,ezs];rfl
theorem iD (hc:X.calm=true) (Sc:CpScope X scope N cap) (hi:AI X tg iter src) (hg:∀ C s₀ H₀ ex,AG (cO X scope N C s₀ H₀ ex) tg g) (ht:∀ C s₀ H₀ ex,JY (cO X scope N C s₀ H₀ ex) ifs t) (he:∀ C s₀ H₀ ex,AE (cO X scope N C s₀ H₀ ex) elt c)
  (hs:∀ x,foldedSetIterable iter X.env x=pure x:=by intro _;rfl):AE X (.ListComp elt [⟨tg,iter,ifs,0⟩] scope pos) (cU cap src g t c):=
 PE.imp (JN hc Sc hi (g:=JC X.K g) (tc:=Jz X.K t) (te:=Lp X.K c) (fun C s₀ H₀ ex=>(hg C s₀ H₀ ex).g0 rfl) (fun C s₀ H₀ ex=>ht C s₀ H₀ ex) (fun C s₀ H₀ ex=>(he C s₀ H₀ ex).e0 rfl) hs) B5
end
noncomputable def A.lst? (S:aA):A->Option (List A)
 | .ref n=>ak S n
 | _=>none
noncomputable def Jx (f:A->List A->aA->R A) (co:Ex) (d:gp):Ex:=fun τ S=>(co τ S).bind fun o S1=>opt (o.lst? S1) fun _=>(d τ S1).bind fun as S2=>f o as S2
noncomputable def Ho (f:A->List A->aA->R A) (co:Ex):Ex:=fun τ S=>(co τ S).bind fun o S1=>opt (o.lst? S1) fun _=>f o [] S1
noncomputable def rM (X:Cx) (f:A->List A->aA->R A):V->List V->Hp->VK->Prop:=fun x vs H Q=>∃ ρ S o as,Rel X.K ρ H S/\AV X.K ρ H o x/\AVs X.K ρ H as vs/\(f o as S).post (lA X ρ H Q) (XE X ρ H)
section
variable {X:Cx} {pos apos cpos:Pos} {o e:Expr} {es:List Expr} {name:Str} {id:String} {f:A->List A->aA->R A} {co:Ex} {d:gp}
theorem lst?_ty {K:PySem.W.Frag} {ρ:List Addr} {H:Hp} {S:aA} {x:A} {v:V} {xs:List A} (R:Rel K ρ H S) (h:AV K ρ H x v) (e:x.lst? S=some xs):Lb K "list" v H:=by
 cases h with
 | ref h=>
  obtain ⟨vs,h1,_⟩:=R.lst h (aO e)
  exact .inl ⟨rfl,vs,dQ.of h1⟩
 | _=>cases e
theorem wR (slot:Slot "list" name id) (hty:typeOf (.builtin id)=pure (.type "method_descriptor")) (hm:Di X id (rM X f)) (ho:AE X o co) (ha:AL X (e::es) d)
  (hbase:attributeBase o name X.env (eval o X.env)=eval o X.env:=by rfl)
  (hfew:((backTo cpos (starEach (e::es) X.env)).all (fun x=>!x.1) && (backToKw cpos (keywordEach [] X.env)).all (fun x=>x.1.isSome)
   && decide ((e::es).length+([]:List Keyword).length+(if ([]:List Keyword).isEmpty then 0 else 1) < 30))=true:=by rfl)
  (hline:(apos.endLine == cpos.line)=true:=by rfl) (hs:starEach (e::es) X.env=(false,eval e X.env)::starEach es X.env:=by rfl) (hplain:(backTo cpos (starEach es X.env)).any (·.1)=false:=by rfl) :
  AE X (.Call (.Attribute o name apos) (e::es) [] cpos) (Jx f co d):=PE.imp (Ky PySem.F.plainAttrs_list slot hty hm ho ha hbase hfew hline hs hplain) fun σ H Q ⟨ρ,S,τ,R,r,h⟩=>by
 refine ⟨ρ,S,τ,R,r,au (aH h) .refl fun x S1 h1 ρ1 H1 v e1 R1 v1=>?_⟩
 obtain ⟨xs,hx,h1⟩:=aG h1
 refine ⟨lst?_ty R1 v1 hx,ρ1,S1,τ,R1,r.ext e1,au (aH h1) e1 fun as S2 h2 ρ2 H2 vs e2 R2 v2=>?_⟩
 exact ⟨ρ2,S2,x,as,R2,v1.ext e2,v2,au h2 (e1.trans e2) fun _ _ z=>z.ext (e1.trans e2)⟩
theorem G9 (slot:Slot "list" name id) (hty:typeOf (.builtin id)=pure (.type "method_descriptor")) (hm:Di X id (rM X f)) (ho:AE X o co)
  (hbase:attributeBase o name X.env (eval o X.env)=eval o X.env:=by rfl) (hline:(apos.endLine == cpos.line)=true:=by rfl):AE X (.Call (.Attribute o name apos) [] [] cpos) (Ho f co):=PE.imp (HY PySem.F.plainAttrs_list slot hty hm ho hbase hline) fun σ H Q ⟨ρ,S,τ,R,r,h⟩=>by
 refine ⟨ρ,S,τ,R,r,au (aH h) .refl fun x S1 h1 ρ1 H1 v e1 R1 v1=>?_⟩
 obtain ⟨xs,hx,h1⟩:=aG h1
 exact ⟨lst?_ty R1 v1 hx,ρ1,S1,x,[],R1,v1,.nil,au h1 e1 fun _ _ z=>z.ext e1⟩
noncomputable def lE (o:A) (as:List A) (S:aA):R A:=match o,as with
 | .ref n,[x]=>opt (ak S n) fun xs=>gd (xs.length < sizeLine) (.ok .non (S.set n (.lst (xs++[x]))))
 | _,_=>.no
theorem sE:Di X "list.append" (rM X lE):=fun pins s σ H x vs v us Q I rx rv ⟨ρ,S,o,as,R,vo,va,h⟩=>by
 cases vo with
 | @ref p n hp=>
  match as,va,h with
  | [],_,h=>exact h.elim
  | _::_::_,_,h=>exact h.elim
  | [y],va,h=>
   obtain ⟨w,rfl,hw⟩:=yN va
   obtain ⟨xs,hn,h⟩:=aG h
   obtain ⟨hl,h⟩:=aW h
   obtain ⟨ws,h1,r⟩:=R.lst hp (aO hn)
   obtain ⟨ex,R'⟩:=R.put hp (aO hn) (r.append (.one hw))
   exact j8 pins s σ H _ _ v us Q I rx rv ⟨p,ws,w,rfl,rfl,h1,by rw [<- r.length];exact hl,h _ _ _ ex R' .non⟩
 | _=>exact h.elim
noncomputable def Ia (o:A) (as:List A) (S:aA):R A:=match o,as with
 | .ref n,[]=>opt (ak S n) fun xs=>opt (xs[xs.length - 1]?) fun x=>.ok x (S.set n (.lst xs.dropLast))
 | _,_=>.no
theorem AVs.dropLast {K:PySem.W.Frag} {ρ:List Addr} {H:Hp} {xs:List A} {vs:List V} (r:AVs K ρ H xs vs):AVs K ρ H xs.dropLast vs.dropLast:=by
 rw [List.dropLast_eq_take,List.dropLast_eq_take,r.length]
 exact r.take _
theorem JT:Di X "list.pop" (rM X Ia):=fun pins s σ H x vs v us Q I rx rv ⟨ρ,S,o,as,R,vo,va,h⟩=>by
 cases vo with
 | @ref p n hp=>
  match as,va,h with
  | _::_,_,h=>exact h.elim
  | [],va,h=>
   cases va
   obtain ⟨xs,hn,h⟩:=aG h
   obtain ⟨y,hy,h⟩:=aG h
   obtain ⟨ws,h1,r⟩:=R.lst hp (aO hn)
   obtain ⟨w,hw,vw⟩:=r.get hy
   obtain ⟨ex,R'⟩:=R.put hp (aO hn) r.dropLast
   exact Ji pins s σ H _ _ v us Q I rx rv ⟨p,ws,w,rfl,rfl,h1,by rw [<- r.length];exact hw,h _ _ _ ex R' (vw.ext ex)⟩
 | _=>exact h.elim
end
noncomputable def dS (N:List Str) (m:Sm) (as:List A) (S:aA):R A:=match m (as++List.replicate (N.length - as.length) .unb) S with
 | .rt a S'=>.ok a S'
 | .nx _ S'=>.ok .non S'
 | .ex c S'=>.ex c S'
 | _=>.no
noncomputable def nS (K:PySem.W.Frag) (n:Nat) (F:List A->aA->R A):Sp:=fun vs H Q _=>vs.length=n/\∃ ρ S as a S',Rel K ρ H S/\AVs K ρ H as vs/\F as S=.ok a S'/\∀ ρ' H' v,Ext ρ ρ' H H'->Rel K ρ' H' S'->AV K ρ' H' a v->Q v H'
theorem uT {K:PySem.W.Frag} {ρ:List Addr} {H:Hp} {as:List A} {vs:List V} (r:AVs K ρ H as vs) (N:List Str):SR K ρ H (as++List.replicate (N.length - as.length) .unb) (L2.start N vs):=by
 have hl:=r.length
 refine ⟨by unfold L2.start;simp [hl],fun i a h=>?_⟩
 by_cases hi:i < as.length
 ·rw [List.getElem?_append_left hi] at h
  obtain ⟨v,hv,av⟩:=r.get h
  exact .inr ⟨v,by unfold L2.start;rw [List.getElem?_append_left (by simp;omega),List.getElem?_map,hv];rfl,av⟩
 ·rw [List.getElem?_append_right (by omega),List.getElem?_replicate] at h
  split at h
  ·exact .inl (Option.some.inj h).symm
  ·cases h
section
variable {P:Program} {w:World} {K:PySem.W.Frag} {mg:Str->Option Value} {base:Heap}
theorem tu {x qual:Str} {st:Stmt} {f:Addr} {fd:FuncData} {N ps:List Str} {k:Nat} {m:Sm} (F:Fun K x qual st f fd) (Sc:FnScope N ps (aF st))
  (body:∀ (cdv:Value) (A:Around) (outer:List Env) (s:Shared) (H:Hp) (E:XK),Room k (A.deeper (envOfC qual (aF st) s.heap.objs.size f cdv))->zk (kP kJ P w K mg base N qual (aF st) f cdv A outer s H E).KH (a_ st) m) :
  FnOk P w K mg base kJ (k+1) f fd ps (nS K ps.length (dS N m)):=by
 refine F.ok Sc (fun vs H Q E h=>h.1) fun cdv B outer s H vs Q E hr ⟨hl,ρ,S,as,a,S',R,va,hF,q⟩=>⟨_,body cdv B outer s H E hr,ρ,S,_,R,uT va N,?_⟩
 unfold dS at hF
 cases hm:m (as++List.replicate (N.length - as.length) .unb) S with
 | rt b S2=>rw [hm] at hF;cases hF;exact q
 | nx τ S2=>rw [hm] at hF;cases hF;exact fun ρ' H' σ' e R' _=>q ρ' H' _ e R' .non
 | bk τ S2=>rw [hm] at hF;cases hF
 | ct τ S2=>rw [hm] at hF;cases hF
 | ex c S2=>rw [hm] at hF;cases hF
 | no=>rw [hm] at hF;cases hF
end
noncomputable abbrev iK (P:Program) (w:World) (K:PySem.W.Frag) (mg:Str->Option Value) (base:Heap) (k:Nat) (x:Str) (ps:List Str) (F:List A->aA->R A):Prop:=Kn P w K mg base k x ps (nS K ps.length F)
noncomputable def eFn (F:List A->aA->R A) (d:gp):Ex:=fun τ S=>(d τ S).bind fun as S1=>match F as S1 with
 | .ok a S2=>.ok a S2
 | _=>.no
section
variable {X:Cx} {pos p:Pos} {e:Expr} {es:List Expr} {x:Str} {ps:List Str} {k:Nat} {F:List A->aA->R A} {d:gp}
theorem bU (G:iK X.prog X.w X.K X.mg X.base k x ps F) (hr:Room k X.A) (ha:AL X (e::es) d) (hl:∀ τ S as S',d τ S=.ok as S'->as.length=ps.length) (hg:Gl X x:=by rfl) (hdb:(x == ("__debug__" : Str))=false:=by decide)
  (hs:starEach (e::es) X.env=(false,eval e X.env)::starEach es X.env:=by rfl) (hplain:(backTo pos (starEach es X.env)).any (·.1)=false:=by rfl):AE X (.Call (.Name x p) (e::es) [] pos) (eFn F d):=
 PE.imp (J9 G hr ha hg hdb hs hplain) fun σ H Q ⟨ρ,S,τ,R,r,h⟩=>by
  refine ⟨ρ,S,τ,R,r,?_⟩
  have hb:=aH h
  cases hd:d τ S with
  | no=>rw [hd] at hb;exact hb
  | ex c S1=>rw [hd] at hb;exact hb
  | ok as S1=>
   rw [hd] at hb
   intro ρ1 H1 vs e1 R1 v1
   rw [List.append_nil]
   refine ⟨by rw [<- v1.length];exact hl τ S as S1 hd,ρ1,S1,as,?_⟩
   have hb:Am.R.post (match F as S1 with
    | .ok a S2=>.ok a S2
    | _=>.no) (lA X ρ H Q) (XE X ρ H):=hb
   cases hF:F as S1 with
   | ok a S2=>rw [hF] at hb;exact ⟨a,S2,R1,v1,rfl,fun ρ2 H2 v e2=>hb ρ2 H2 v (e1.trans e2)⟩
   | ex c S2=>rw [hF] at hb;exact hb.elim
   | no=>rw [hF] at hb;exact hb.elim
theorem aS:∀ τ S as S',aM τ S=.ok as S'->as.length=0:=fun τ S as S' h=>by cases h;rfl
theorem aC {c:Ex} {d:gp} {n:Nat} (h:∀ τ S as S',d τ S=.ok as S'->as.length=n):∀ τ S as S',aj c d τ S=.ok as S'->as.length=n+1:=fun τ S as S' e=>by
 unfold aj at e
 cases hc:c τ S with
 | ok a S1=>
  rw [hc] at e
  cases hd:d τ S1 with
  | ok bs S2=>
   have e:R.bind (d τ S1) (fun as S2=>.ok (a::as) S2)=.ok as S':=e
   rw [hd] at e;cases e;rw [List.length_cons,h τ S1 bs _ hd]
  | ex _ _=>
   have e:R.bind (d τ S1) (fun as S2=>.ok (a::as) S2)=.ok as S':=e
   rw [hd] at e;cases e
  | no=>
   have e:R.bind (d τ S1) (fun as S2=>.ok (a::as) S2)=.ok as S':=e
   rw [hd] at e;cases e
 | ex _ _=>rw [hc] at e;cases e
 | no=>rw [hc] at e;cases e
end
section
variable {X:Cx} {pos:Pos} {a b c d:Expr}
noncomputable def M8 (f':A->A->aA->R A) (cc:Ex) (τ:List A) (b k:A) (S:aA):R A:=match k with
 | .bl true=>(cc τ S).bind fun c S4=>f' b c S4
 | .bl false=>.ok (.bl false) S
 | _=>.no
noncomputable def Dz (f f':A->A->aA->R A) (ca cb cc:Ex):Ex:=fun τ S=>(ca τ S).bind fun a S1=>(cb τ S1).bind fun b S2=>(f a b S2).bind fun k S3=>M8 f' cc τ b k S3
theorem HW {f f':A->A->aA->R A} {ca cb cc:Ex} {σ:L2.St} {H:Hp} {Q:VK} (h:tE X (Dz f f' ca cb cc) σ H Q):Cp (r2 X f) (r2 X f') (tE X ca) (tE X cb) (tE X cc) σ H Q:=by
 obtain ⟨ρ,S,τ,R,r,h⟩:=h
 refine ⟨ρ,S,τ,R,r,au (aH h) .refl fun a S1 h1 ρ1 H1 x e1 R1 v1=>⟨ρ1,S1,τ,R1,r.ext e1,au (aH h1) e1 fun b S2 h2 ρ2 H2 y e2 R2 v2=>?_⟩⟩
 have e12:=e1.trans e2
 refine ⟨ρ2,S2,a,b,R2,v1.ext e2,v2,au (aH h2) e12 fun k S3 h3 ρ3 H3 z e3 R3 v3=>?_⟩
 have e13:=e12.trans e3
 cases k with
 | bl k=>
  cases oN v3
  refine ⟨k,rfl,?_⟩
  cases k with
  | true=>
   rw [if_pos rfl]
   exact ⟨ρ3,S3,τ,R3,r.ext e13,au (aH h3) e13 fun c S4 h4 ρ4 H4 w e4 R4 v4=>⟨ρ4,S4,b,c,R4,v2.ext (e3.trans e4),v4,au h4 (e13.trans e4) fun _ _ q=>q.ext (e13.trans e4)⟩⟩
  | false=>
   rw [if_neg Bool.false_ne_true]
   exact h3 ρ3 H3 _ e13 R3 (.bl false)
 | _=>exact h3.elim
theorem J7 {op op':CmpOp} {f f':A->A->aA->R A} {ca cb cc:Ex} (ho:d7 X (compareOp op) (r2 X f)) (ho':d7 X (compareOp op') (r2 X f')) (ha:AE X a ca) (hb:AE X b cb) (hc:AE X c cc) (hm:lastMarks [op,op'] [b,c]=false:=by with_unfolding_all rfl) :
  AE X (.Compare a [op,op'] [b,c] pos) (Dz f f' ca cb cc):=PE.imp (zR ho ho' ha hb hc hm) fun _ _ _ h=>HW h
noncomputable def A.flat:A->Bool
 | .non=>true
 | .bl _=>true
 | .int _=>true
 | .str _=>true
 | _=>false
noncomputable def Lh:A->A->Bool
 | .non,.non=>true
 | .bl a,.bl b=>a == b
 | .bl a,.int b=>(if a then 1 else 0) == b
 | .int a,.bl b=>a == (if b then 1 else 0)
 | .int a,.int b=>a == b
 | .str a,.str b=>a == b
 | _,_=>false
theorem wK {K:PySem.W.Frag} {ρ:List Addr} {H:Hp} {x:A} {v:V} (h:AV K ρ H x v) (f:x.flat=true):gR v=true:=by cases h <;> first | rfl | cases f
theorem uv {K:PySem.W.Frag} {ρ:List Addr} {H:Hp} {x y:A} {v u:V} (h:AV K ρ H x v) (h':AV K ρ H y u) (f:x.flat=true) (f':y.flat=true):sZ v u=Lh x y:=by
 cases h <;> cases h' <;> first | rfl | (cases f;done) | (cases f';done)
theorem B_ {K:PySem.W.Frag} {ρ:List Addr} {H:Hp} {x:A} {v:V} (h:AV K ρ H x v) (f:x.flat=true):∀ {ys:List A} {us:List V},AVs K ρ H ys us->ys.all A.flat=true->M9 v us=(ys.any fun z=>Lh z x)/\us.all gR=true
 | _,_,.nil,_=>⟨rfl,rfl⟩
 | y::ys,u::us,.cons hy t,fs=>by
  rw [List.all_cons,Bool.and_eq_true] at fs
  obtain ⟨h1,h2⟩:=B_ h f t fs.2
  refine ⟨?_,by rw [List.all_cons,wK hy fs.1,h2];rfl⟩
  show (sZ u v || M9 v us)=_
  rw [h1,uv hy h fs.1 f];rfl
noncomputable def LP (S:aA) (x:A):List A->Option Bool
 | []=>some false
 | z::zs=>(uK S 12 z x).bind fun p=>(LP S x zs).map fun q=>p || q
noncomputable def Ln (neg:Bool) (x y:A) (S:aA):R A:=opt (y.seq S) fun ys=>opt (LP S x ys) fun b=>.ok (.bl (if neg then !b else b)) S
theorem qe {pins:List (Addr×Obj)} {σ:L2.St} {H:Hp} {s:Shared} {ρ:List Addr} {S:aA} {x:A} {vx:V} {v:Value} (I:Inv X pins σ H s) (R:Rel X.K ρ H S) (hu:X.A.units+64 < cLine) (hx:AV X.K ρ H x vx) (rx:RelV vx v) :
  ∀ {ys:List A} {us:List V} {its:List Value} {b:Bool},AVs X.K ρ H ys us->Vals us its->LP S x ys=some b->∃ e:Value->Bool,(∀ w∈its,SeqAt.EqAt X.A.in1 s w v (e w))/\its.any e=b
 | _,_,_,b,.nil,.nil,h=>⟨fun _=>false,(fun w hw=>by cases hw),Option.some.inj h⟩
 | z::zs,u::us,w0::its,b,.cons hz hzs,.cons r rs,h=>by
  classical
  obtain ⟨p,hp,h⟩:=Option.bind_eq_some_iff.mp h
  obtain ⟨q,hq,h⟩:=Option.map_eq_some_iff.mp h
  obtain ⟨e,he,ha⟩:=qe I R hu hx rx hzs rs hq
  have h0:=(sH I R 12 X.A.in1 z x u vx w0 v p (by rw [in1_units];omega) hz hx r rx hp).2
  subst h
  cases p with
  | true=>
   refine ⟨fun w=>if w=w0 then true else e w,fun w hw=>?_,?_⟩
   ·by_cases hww:w=w0
    ·simp only [hww,if_true];exact h0
    ·simp only [hww,if_false]
     rcases List.mem_cons.mp hw with z | z
     ·exact absurd z hww
     ·exact he w z
   ·simp
  | false=>
   by_cases hm:w0∈its
   ·refine ⟨e,fun w hw=>?_,?_⟩
    ·rcases List.mem_cons.mp hw with z | z
     ·rw [z];exact he w0 hm
     ·exact he w z
    ·rw [List.any_cons,ha,Bool.false_or]
     cases q with
     | true=>simp
     | false=>
      have:=List.any_eq_false.mp ha w0 hm
      simpa using this
   ·refine ⟨fun w=>if w=w0 then false else e w,fun w hw=>?_,?_⟩
    ·by_cases hww:w=w0
     ·simp only [hww,if_true];exact h0
     ·simp only [hww,if_false]
      rcases List.mem_cons.mp hw with z | z
      ·exact absurd z hww
      ·exact he w z
    ·rw [List.any_cons,<- ha]
     simp only [if_true,Bool.false_or]
     have:∀ l:List Value,(∀ w∈l,w≠w0)->l.any (fun w=>if w=w0 then false else e w)=l.any e:=fun l hl=>by
      induction l with
      | nil=>rfl
      | cons c l ih=>rw [List.any_cons,List.any_cons,ih fun w hw=>hl w (List.mem_cons_of_mem _ hw),if_neg (hl c (List.mem_cons_self ..))]
     exact this its fun w hw z=>hm (z ▸ hw)
theorem Ea (hu:X.A.units+64 < cLine):d7 X (compareOp .NotIn) (r2 X (Ln true)):=fun pins s σ H x y v u Q I rx ry ⟨ρ,S,a,b,R,va,vb,h⟩=>by
 obtain ⟨ys,hy,h⟩:=aG h
 obtain ⟨k,hk,h⟩:=aG h
 obtain ⟨p,us,rfl,hs,r⟩:=Cs R vb hy
 cases ry
 rcases hs with hs | hs
 ·obtain ⟨its,rv,pl,hz⟩:=I.list hs
  obtain ⟨e,he,ha⟩:=qe I R hu va rx r rv hk
  refine SeqAt.notIn_listAt e pl.isList (fun w hw=>he w (by simpa using hw)) ⟨.bl _,H,I,rfl,?_⟩
  rw [show its.toArray.any e=its.any e by simp,ha]
  exact h _ _ _ .refl R (.bl _)
 ·obtain ⟨its,rv,pl,hz⟩:=I.tuple hs
  obtain ⟨e,he,ha⟩:=qe I R hu va rx r rv hk
  refine SeqAt.notIn_tupleAt e pl (fun w hw=>he w (by simpa using hw)) ⟨.bl _,H,I,rfl,?_⟩
  rw [show its.toArray.any e=its.any e by simp,ha]
  exact h _ _ _ .refl R (.bl _)
noncomputable def IT (o:A) (as:List A) (S:aA):R A:=match as with
 | [x]=>opt (o.seq S) fun ys=>gd (x.flat=true/\ys.all A.flat=true) (opt (ys.findIdx? fun z=>Lh z x) fun k=>.ok (.int (k:Nat)) S)
 | _=>.no
noncomputable def DM (co:Ex) (d:gp):Ex:=fun τ S=>(co τ S).bind fun o S1=>opt (o.seq S1) fun _=>(d τ S1).bind fun as S2=>IT o as S2
noncomputable def A.isTup:A->Bool
 | .tup _=>true
 | _=>false
theorem qT {K:PySem.W.Frag} {ρ:List Addr} {H:Hp} {S:aA} {x:A} {v:V} {xs:List A} (R:Rel K ρ H S) (h:AV K ρ H x v) (e:x.seq S=some xs):∃ p vs,v=.ref p/\(if x.isTup=true then cI K H p vs else dQ K H p vs)/\AVs K ρ H xs vs:=by
 cases h with
 | tup h r=>cases Option.some.inj e;exact ⟨_,_,rfl,(cI.of h),r⟩
 | frz h r=>cases Option.some.inj e;exact ⟨_,_,rfl,h.zA,r⟩
 | ref h=>
  obtain ⟨vs,h1,r1⟩:=R.lst h (aO e)
  exact ⟨_,vs,rfl,dQ.of h1,r1⟩
 | _=>cases e
theorem GC {K:PySem.W.Frag} {ρ:List Addr} {H:Hp} {x:A} {v:V} {ys:List A} {us:List V} {k:Nat} (h:AV K ρ H x v) (f:x.flat=true) (r:AVs K ρ H ys us) (fs:ys.all A.flat=true) (e:(ys.findIdx? fun z=>Lh z x)=some k) :
  us.all gR=true/\∃ z,us[k]?=some z/\sZ z v=true/\∀ (m:Nat) (z':V),m < k->us[m]?=some z'->sZ z' v=false:=by
 rw [List.findIdx?_eq_some_iff_getElem] at e
 obtain ⟨hk,h1,h2⟩:=e
 have fl:∀ m (hm:m < ys.length),ys[m].flat=true:=fun m hm=>List.all_eq_true.mp fs _ (List.getElem_mem hm)
 refine ⟨(B_ h f r fs).2,?_⟩
 obtain ⟨z,hz,vz⟩:=r.get (List.getElem?_eq_getElem hk)
 refine ⟨z,hz,by rw [uv vz h (fl k hk) f];exact h1,fun m z' hm hz'=>?_⟩
 have hm':m < ys.length:=by omega
 obtain ⟨z2,hz2,vz2⟩:=r.get (List.getElem?_eq_getElem hm')
 rw [hz'] at hz2;cases hz2
 rw [uv vz2 h (fl m hm') f]
 have:=h2 m hm
 simpa using this
theorem II {o e:Expr} {es:List Expr} {apos cpos:Pos} {co:Ex} {d:gp} (ho:AE X o co) (ha:AL X (e::es) d)
  (hbase:attributeBase o "index" X.env (eval o X.env)=eval o X.env:=by rfl)
  (hfew:((backTo cpos (starEach (e::es) X.env)).all (fun x=>!x.1) && (backToKw cpos (keywordEach [] X.env)).all (fun x=>x.1.isSome)
   && decide ((e::es).length+([]:List Keyword).length+(if ([]:List Keyword).isEmpty then 0 else 1) < 30))=true:=by rfl)
  (hline:(apos.endLine == cpos.line)=true:=by rfl) (hs:starEach (e::es) X.env=(false,eval e X.env)::starEach es X.env:=by rfl) (hplain:(backTo cpos (starEach es X.env)).any (·.1)=false:=by rfl) :
  AE X (.Call (.Attribute o "index" apos) (e::es) [] cpos) (DM co d):=PE.imp (IE ho ha hbase hfew hline hs hplain) fun σ H Q ⟨ρ,S,τ,R,r,h⟩=>by
 refine ⟨ρ,S,τ,R,r,au (aH h) .refl fun x S1 h1 ρ1 H1 v e1 R1 v1=>?_⟩
 obtain ⟨xs,hx,h1⟩:=aG h1
 obtain ⟨p,vs,hv,hq,_⟩:=qT R1 v1 hx
 refine ⟨x.isTup,p,vs,hv,hq,ρ1,S1,τ,R1,r.ext e1,au (aH h1) e1 fun as S2 h2 ρ2 H2 ws e2 R2 v2=>?_⟩
 unfold IT at h2
 match as,v2,h2 with
 | [],_,h2=>exact h2.elim
 | _::_::_,_,h2=>exact h2.elim
 | [y],v2,h2=>
  obtain ⟨w,rfl,hw⟩:=yN v2
  obtain ⟨ys,hy,h2⟩:=aG h2
  obtain ⟨⟨f1,f2⟩,h2⟩:=aW h2
  obtain ⟨k,hk,h2⟩:=aG h2
  obtain ⟨p',us,hv',hq',rr⟩:=qT R2 (v1.ext e2) hy
  obtain ⟨g1,z,g2,g3,g4⟩:=GC hw f1 rr f2 hk
  exact ⟨p',w,us,k,z,hv',rfl,hq',wK hw f1,g1,g2,g3,g4,h2 _ _ _ (e1.trans e2) R2 (.int _)⟩
noncomputable def pL (o:A) (as:List A) (S:aA):R A:=match o,as with
 | .ref n,[.ref m]=>opt (ak S n) fun xs=>opt (ak S m) fun ys=>gd (xs.length+ys.length<=sizeLine) (.ok .non (S.set n (.lst (xs++ys))))
 | _,_=>.no
theorem zX:Di X "list.extend" (rM X pL):=fun pins s σ H x vs v us Q I rx rv ⟨ρ,S,o,as,R,vo,va,h⟩=>by
 cases vo with
 | @ref p n hp=>
  match as,va,h with
  | [],_,h=>exact h.elim
  | y::_::_,_,h=>exact (by cases y <;> exact h.elim)
  | [y],va,h=>
   obtain ⟨w,rfl,hw⟩:=yN va
   cases hw with
   | @ref q m hq=>
    obtain ⟨xs,hn,h⟩:=aG h
    obtain ⟨ys,hm,h⟩:=aG h
    obtain ⟨hl,h⟩:=aW h
    obtain ⟨ws,h1,r⟩:=R.lst hp (aO hn)
    obtain ⟨zs,h2,r'⟩:=R.lst hq (aO hm)
    obtain ⟨ex,R'⟩:=R.put hp (aO hn) (r.append r')
    exact yx pins s σ H _ _ v us Q I rx rv ⟨p,q,ws,zs,rfl,rfl,h1,h2,by rw [<- r.length,<- r'.length];exact hl,h _ _ _ ex R' .non⟩
   | _=>exact h.elim
 | _=>exact h.elim
end
section
variable {X:Cx}
end
noncomputable def pQ (o:A) (as:List A) (S:aA):R A:=match o,as with
 | .ref n,[x]=>(match x with
  | .bl b=>opt (ak S n) fun xs=>opt (A.yk xs) fun bs=>.ok (.int (bs.countP (· == b):Nat)) S
  | _=>.no)
 | _,_=>.no
theorem qF {K:PySem.W.Frag} {ρ:List Addr} {H:Hp}:∀ {xs:List A} {bs:List Bool} {us:List V} {its:List Value},A.yk xs=some bs->AVs K ρ H xs us->Vals us its->xs=bs.map A.bl/\its=bs.map Value.bool
 | [],bs,_,_,h,.nil,.nil=>by cases Option.some.inj h;exact ⟨rfl,rfl⟩
 | x::xs,bs,_,_,h,.cons hx hxs,.cons r rs=>by
  cases x with
  | bl b=>
   have h:(A.yk xs).map (b::·)=some bs:=h
   obtain ⟨bs',h1,rfl⟩:=Option.map_eq_some_iff.mp h
   obtain ⟨e1,e2⟩:=qF h1 hxs rs
   cases hx
   cases r
   exact ⟨by rw [e1];rfl,by rw [e2];rfl⟩
  | _=>cases h
noncomputable def J5 (b:Bool):Value->Bool
 | .bool c=>c == b
 | _=>false
theorem BG (b:Bool):∀ (bs:List Bool),(bs.map Value.bool).countP (J5 b)=bs.countP (· == b)
 | []=>rfl
 | c::bs=>by rw [List.map_cons,List.countP_cons,List.countP_cons,BG b bs];rfl
section
variable {X:Cx}
theorem DK (hu:X.A.units+64 < cLine):Di X "list.count" (rM X pQ):=fun pins s σ H x vs v us Q I rx rv ⟨ρ,S,o,as,R,vo,va,h⟩=>by
 cases vo with
 | @ref p n hp=>
  match as,va,h with
  | [],_,h=>exact h.elim
  | _::_::_,_,h=>exact h.elim
  | [y],va,h=>
   cases y with
   | bl b=>
    obtain ⟨w,rfl,hw⟩:=yN va
    obtain ⟨xs,hn,h⟩:=aG h
    obtain ⟨bs,hbs,h⟩:=aG h
    obtain ⟨ws,h1,r⟩:=R.lst hp (aO hn)
    cases rx
    obtain ⟨u,rfl,ru⟩:=rv.one
    obtain ⟨its,rv,pl,hsz⟩:=I.list (dQ.of h1)
    obtain ⟨⟨cls,dd,data,sl⟩,ho,hc,nn,hd⟩:=id pl.isList
    simp only at hc hd
    subst hc hd
    obtain ⟨ex,ei⟩:=qF hbs r rv
    subst ei
    refine call_meets F.slot_list_count ⟨_,ho,rfl⟩ F.entry_list_count (F.args_list_count_2 _ _) (SeqAt.list_countAt p (bs.map Value.bool).toArray nn dd sl u (J5 b)) ⟨ho,fun z hz=>?_,.int (bs.countP (· == b):Nat),H,I.tok _,⟨s.toks,by rw [List.toList_toArray,BG]⟩,h _ _ _ .refl R (.int _)⟩
    ·obtain ⟨c,_,rfl⟩:=List.mem_map.mp (List.mem_toArray.mp hz)
     exact (sH I R 12 X.A.in1 (.bl c) (.bl b) (.bl c) w (.bool c) u (c == b) (by rw [in1_units];omega) (.bl c) hw rfl ru rfl).2
   | _=>exact h.elim
 | _=>exact h.elim
end
section
variable {X:Cx} {pos apos cpos:Pos} {a b o e:Expr} {es:List Expr}
end
noncomputable def bG (S:aA) (n:Nat):Option (List (List Int×A)):=match S[n]? with
 | some (.dct xs)=>some xs
 | _=>none
theorem fu {S:aA} {n:Nat} {xs:List (List Int×A)} (h:bG S n=some xs):S[n]?=some (.dct xs):=by
 unfold bG at h
 split at h
 ·rename_i e;cases h;exact e
 ·cases h
theorem jN {S:aA} {n:Nat} {xs:List (List Int×A)} (h:S[n]?=some (.dct xs)):bG S n=some xs:=by
 unfold bG;rw [h]
noncomputable def eF (kvs:List (List Int×A)) (k:List Int):Option A:=(kvs.find? fun kv=>decide (kv.1=k)).map (·.2)
noncomputable def putD (kvs:List (List Int×A)) (k:List Int) (v:A):List (List Int×A):=
 if (eF kvs k).isSome=true then kvs.map (fun kv=>if kv.1=k then (kv.1,v) else kv) else kvs++[(k,v)]
theorem pP:∀ {a b:List Int},a.map (Sum.inl:Int->Key)=b.map Sum.inl->a=b
 | [],[],_=>rfl
 | [],_::_,e=>by simp at e
 | _::_,[],e=>by simp at e
 | x::xs,y::ys,e=>by
  rw [List.map_cons,List.map_cons] at e
  injection e with e1 e2
  injection e1 with e1
  rw [e1,pP e2]
theorem qk (ns:List Int):(ns.map (Sum.inl:Int->Key)).map kV=ns.map V.int:=by rw [List.map_map];rfl
section
variable {K:PySem.W.Frag} {ρ ρ':List Addr} {H H':Hp}
theorem kh {p:List Int×A} {r:List (List Int×A)} {k:List Int} (e:p.1=k):eF (p::r) k=some p.2:=by simp [eF,List.find?_cons,e]
theorem j9 {p:List Int×A} {r:List (List Int×A)} {k:List Int} (e:¬ p.1=k):eF (p::r) k=eF r k:=by simp [eF,List.find?_cons,e]
theorem DV.look:∀ {kvs:List (List Int×A)} {ks:List (List Key×V)} (k:List Int),DV K ρ H kvs ks->(eF kvs k).isSome=(jL ks (k.map Sum.inl)).isSome/\∀ x,eF kvs k=some x->∃ v,jL ks (k.map Sum.inl)=some v/\AV K ρ H x v
 | [],[],k,_=>⟨rfl,fun x h=>nomatch h⟩
 | p::r,q::r',k,⟨⟨e,a⟩,t⟩=>by
  by_cases c:p.1=k
  ·have c':q.1=k.map Sum.inl:=by rw [e,c]
   rw [kh c,jQ c']
   exact ⟨rfl,fun x h=>by cases h;exact ⟨_,rfl,a⟩⟩
  ·have c':¬ q.1=k.map Sum.inl:=fun z=>c (pP (e.symm.trans z))
   rw [j9 c,jS c']
   exact DV.look k t
theorem DV.repl {x:A} {v:V} (h:AV K ρ H x v) (k:List Int):∀ {kvs:List (List Int×A)} {ks:List (List Key×V)},DV K ρ H kvs ks->DV K ρ H (kvs.map fun kv=>if kv.1=k then (kv.1,x) else kv) (ks.map fun kv=>if kv.1=k.map Sum.inl then (kv.1,v) else kv)
 | [],[],_=>trivial
 | p::r,q::r',⟨⟨e,a⟩,t⟩=>by
  refine ⟨?_,DV.repl h k t⟩
  dsimp only
  by_cases c:p.1=k
  ·rw [if_pos c,if_pos (by rw [e,c])];exact ⟨e,h⟩
  ·rw [if_neg c,if_neg (fun z=>c (pP (e.symm.trans z)))];exact ⟨e,a⟩
theorem DV.snoc {x:A} {v:V} (h:AV K ρ H x v) (k:List Int):∀ {kvs:List (List Int×A)} {ks:List (List Key×V)},DV K ρ H kvs ks->DV K ρ H (kvs++[(k,x)]) (ks++[(k.map Sum.inl,v)])
 | [],[],_=>⟨⟨rfl,h⟩,trivial⟩
 | p::r,q::r',⟨a,t⟩=>⟨a,DV.snoc h k t⟩
theorem DV.put {x:A} {v:V} (h:AV K ρ H x v) (k:List Int) {kvs:List (List Int×A)} {ks:List (List Key×V)} (d:DV K ρ H kvs ks):DV K ρ H (putD kvs k x) (putK ks (k.map Sum.inl) v):=by
 unfold putD putK
 rw [nq,<- (d.look k).1]
 by_cases c:(eF kvs k).isSome=true
 ·rw [if_pos c,if_pos c];exact DV.repl h k d
 ·rw [if_neg c,if_neg c];exact DV.snoc h k d
theorem DV.length:∀ {kvs:List (List Int×A)} {ks:List (List Key×V)},DV K ρ H kvs ks->kvs.length=ks.length
 | [],[],_=>rfl
 | _::_,_::_,⟨_,t⟩=>congrArg (·+1) t.length
theorem Rel.dct {S:aA} {n:Nat} {a:Addr} {xs:List (List Int×A)} (R:Rel K ρ H S) (ha:ρ[n]?=some a) (hS:S[n]?=some (.dct xs)):∃ vs,H a=some (.dT vs)/\DV K ρ H xs vs:=R.at n a _ ha hS
theorem Rel.putD {S:aA} {n:Nat} {a:Addr} {xs ys:List (List Int×A)} {ws:List (List Key×V)} (R:Rel K ρ H S) (ha:ρ[n]?=some a) (hS:S[n]?=some (.dct xs)) (r:DV K ρ H ys ws):Ext ρ ρ H (upd H a (.dT ws))/\Rel K ρ (upd H a (.dT ws)) (S.set n (.dct ys)):=by
 obtain ⟨vs,e,_⟩:=R.at n a _ ha hS
 have ex:Ext ρ ρ H (upd H a (.dT ws)):=⟨⟨List.prefix_refl _,fun b u i h=>by
  have:b≠a:=by
   intro z;subst z;rw [e] at h;cases h;exact i
  rw [aI this];exact h⟩,fun b u h n=>by
  rw [aI (fun z=>n (by rw [z];exact List.mem_of_getElem? ha))];exact h,fun _ h=>.inl h⟩
 refine ⟨ex,by rw [List.length_set];exact R.len,R.nd,fun m b o h1 h2=>?_⟩
 by_cases hm:m=n
 ·subst hm
  rw [ha] at h1;cases h1
  rw [List.getElem?_set_self (List.getElem?_eq_some_iff.mp hS).1] at h2
  cases h2
  exact ⟨ws,aY,r.ext ex⟩
 ·rw [List.getElem?_set_ne (Ne.symm hm)] at h2
  have nb:b≠a:=fun z=>by
   subst z
   obtain ⟨l1,e1⟩:=List.getElem?_eq_some_iff.mp ha
   obtain ⟨l2,e2⟩:=List.getElem?_eq_some_iff.mp h1
   exact hm ((List.getElem_inj R.nd).mp (e2.trans e1.symm))
  have:=R.at m b o h1 h2
  cases o with
  | lst ys=>obtain ⟨ws',e',q⟩:=this;exact ⟨ws',by rw [aI nb];exact e',q.ext ex⟩
  | dct _ | dki _=>obtain ⟨ws',e',q⟩:=this;exact ⟨ws',by rw [aI nb];exact e',q.ext ex⟩
  | ins _ _=>obtain ⟨oo,uu,e'⟩:=this;exact ⟨oo,uu,by rw [aI nb];exact e'⟩
end
section
variable {X:Cx} {pos:Pos} {a b:Expr}
theorem qh {ρ:List Addr} {H:Hp} {S:aA} {p q:Addr} {n:Nat} {xs:List A} {vs:List V} {kvs:List (List Int×A)} {ns:List Int} (R:Rel X.K ρ H S) (hp:ρ[n]?=some p) (hn:bG S n=some kvs) (hq:H q=some (.tup vs)) (r:AVs X.K ρ H xs vs) (hi:A.ints xs=some ns) :
  ∃ ks,H p=some (.dT ks)/\DV X.K ρ H kvs ks/\H q=some (.tup ((ns.map (Sum.inl:Int->Key)).map kV))/\p5 H p (.ref q) (jL ks (ns.map Sum.inl)):=by
 obtain ⟨ks,e,d⟩:=R.dct hp (fu hn)
 have z:=iI r hi
 subst z
 rw [<- qk] at hq
 exact ⟨ks,e,d,hq,p5.t e hq⟩
noncomputable def EC (x y:A) (S:aA):R A:=match x,y with
 | .ref n,.tup xs=>opt (bG S n) fun kvs=>opt (A.ints xs) fun ns=>opt (eF kvs ns) fun v=>.ok v S
 | _,_=>.no
theorem K9 (hu:X.A.units+64 < cLine):Hj X (r2 X EC):=fun value slice pins s σ H x y v u Q I rx ry ⟨ρ,S,a,b,R,va,vb,h⟩ hs=>by
 cases va with
 | @ref p n hp=>
  cases vb with
  | @tup q xs vs hq r=>
   obtain ⟨kvs,hn,h⟩:=aG h
   obtain ⟨ns,hi,h⟩:=aG h
   obtain ⟨z,hz,h⟩:=aG h
   obtain ⟨ks,e,d,hq',g⟩:=qh R hp hn hq r hi
   obtain ⟨w,hw,aw⟩:=(d.look ns).2 z hz
   rw [hw] at g
   exact Dw (by omega) value slice pins s σ H _ _ v u Q I rx ry ⟨p,w,rfl,g,h _ _ _ .refl R aw⟩ hs
  | _=>exact h.elim
 | _=>exact h.elim
theorem Ie (hu:X.A.units+64 < cLine) {ca cb:Ex} (ha:AE X a ca) (hb:AE X b cb) (hs:qm b:=by exact fun _ _=>rfl):AE X (.Subscript a b pos) (aK EC ca cb):=PE.imp (Fc (K9 hu) ha hb hs) fun σ H Q h=>jV h
noncomputable def Jk (neg:Bool) (x y:A) (S:aA):R A:=match x,y with
 | .tup xs,.ref n=>opt (bG S n) fun kvs=>opt (A.ints xs) fun ns=>.ok (.bl (if neg then !(eF kvs ns).isSome else (eF kvs ns).isSome)) S
 | _,_=>.no
theorem Cj (hu:X.A.units+64 < cLine):d7 X (compareOp .NotIn) (r2 X (Jk true)):=fun pins s σ H x y v u Q I rx ry ⟨ρ,S,a,b,R,va,vb,h⟩=>by
 cases va with
 | @tup q xs vs hq r=>
  cases vb with
  | @ref p n hp=>
   obtain ⟨kvs,hn,h⟩:=aG h
   obtain ⟨ns,hi,h⟩:=aG h
   obtain ⟨ks,e,d,hq',g⟩:=qh R hp hn hq r hi
   exact y9 (by omega) pins s σ H _ _ v u Q I rx ry ⟨p,_,rfl,g,by rw [<- (d.look ns).1];exact h _ _ _ .refl R (.bl _)⟩
  | _=>exact h.elim
 | _=>exact h.elim
noncomputable def yb (o i v:A) (S:aA):R Unit:=match o,i with
 | .ref n,.tup xs=>opt (bG S n) fun kvs=>opt (A.ints xs) fun ns=>gd (kvs.length < sizeLine) (.ok () (S.set n (.dct (putD kvs ns v))))
 | _,_=>.no
noncomputable def LX (X:Cx):uL:=fun o i v H Q=>∃ ρ S ao ai av,Rel X.K ρ H S/\AV X.K ρ H ao o/\AV X.K ρ H ai i/\AV X.K ρ H av v/\(yb ao ai av S).post (fun _ S'=>∀ ρ' H',Ext ρ ρ' H H'->Rel X.K ρ' H' S'->Q H') (XE X ρ H)
theorem Dm (hu:X.A.units+64 < cLine):yy X (LX X):=fun pins s σ H o i v ov iv u Q I ro ri rv ⟨ρ,S,ao,ai,av,R,h1,h2,h3,h⟩=>by
 cases h1 with
 | @ref p n hp=>
  cases h2 with
  | @tup q xs vs hq r=>
   obtain ⟨kvs,hn,h⟩:=aG h
   obtain ⟨ns,hi,h⟩:=aG h
   obtain ⟨hl,h⟩:=aW h
   obtain ⟨ks,e,d,hq',g⟩:=qh R hp hn hq r hi
   obtain ⟨ex,R'⟩:=R.putD hp (fu hn) (d.put h3 ns)
   exact set_dict (by omega) pins s σ H _ _ v ov iv u Q I ro ri rv ⟨p,_,rfl,AD.t e hq' (by rw [<- d.length];exact hl),h _ _ ex R'⟩
  | _=>exact h.elim
 | _=>exact h.elim
noncomputable def H_ (co ci:Ex):Tg:=fun a τ S=>(co τ S).bind fun o S1=>(ci τ S1).bind fun i S2=>(yb o i a S2).bind fun _ S3=>.ok τ S3
theorem D5 (hu:X.A.units+64 < cLine) {o i:Expr} {co ci:Ex} (ho:AE X o co) (hi:AE X i ci)
  (ha:∀ v,assign (.Subscript o i pos) X.env v=(do
   let ov <- holding [v] (eval o X.env)
   let iv <- holding [v,ov] (eval i X.env)
   standAt pos
   holding [v,ov,iv] (setItem ov iv v)
   release [v,ov,iv] []):=by intro _;rfl):AG X (.Subscript o i pos) (H_ co ci):=PG.imp (Bw ho hi (Dm hu) ha) fun v σ H Q ⟨ρ,S,τ,a,R,r,va,h⟩=>by
 refine ⟨ρ,S,τ,R,r,au (aH h) .refl fun o S1 h1 ρ1 H1 x e1 R1 v1=>⟨ρ1,S1,τ,R1,r.ext e1,au (aH h1) e1 fun i S2 h2 ρ2 H2 y e2 R2 v2=>?_⟩⟩
 refine ⟨ρ2,S2,o,i,a,R2,v1.ext e2,v2,va.ext (e1.trans e2),au (aH h2) (e1.trans e2) fun _ S3 h3 ρ3 H3 e3 R3=>?_⟩
 exact h3 ρ3 H3 σ ((e1.trans e2).trans e3) R3 (r.ext ((e1.trans e2).trans e3))
noncomputable def A5 (ck cv:Ex):Ex:=fun τ S=>(ck τ S).bind fun k S1=>(cv τ S1).bind fun v S2=>match k with
 | .tup xs=>opt (A.ints xs) fun ns=>.ok (.ref S2.length) (S2++[.dct [(ns,v)]])
 | _=>.no
theorem Rel.Kf {K:PySem.W.Frag} {ρ:List Addr} {H:Hp} {S:aA} {D:Addr} {xs:List (List Int×A)} {us vs:List (List Key×V)} (R:Rel K ρ H S) (hD:H D=some (.dT us)) (hn:D∉ρ) (r:DV K ρ H xs vs):Ext0 ρ (ρ++[D]) H (upd H D (.dT vs))/\Rel K (ρ++[D]) (upd H D (.dT vs)) (S++[.dct xs])/\(ρ++[D])[S.length]?=some D:=by
 have ex:Ext0 ρ (ρ++[D]) H (upd H D (.dT vs)):=⟨List.prefix_append _ _,fun b u i h=>by
  have:b≠D:=by
   intro z;subst z;rw [hD] at h;cases h;exact i
  rw [aI this];exact h⟩
 have last:(ρ++[D])[S.length]?=some D:=by rw [<- R.len];simp
 refine ⟨ex,⟨by simp [R.len],?_,fun n a o h1 h2=>?_⟩,last⟩
 ·rw [List.nodup_append]
  refine ⟨R.nd,by simp,fun a ha b hb e=>?_⟩
  have:b=D:=by simpa using hb
  exact hn (by rw [<- this,<- e];exact ha)
 ·by_cases hs:n < S.length
  ·rw [List.getElem?_append_left (by rw [R.len];exact hs)] at h1
   rw [List.getElem?_append_left hs] at h2
   have na:a≠D:=fun z=>hn (by rw [<- z];exact List.mem_of_getElem? h1)
   have:=R.at n a o h1 h2
   cases o with
   | lst ys=>obtain ⟨ws,e,q⟩:=this;exact ⟨ws,by rw [aI na];exact e,AVs.cX ex q⟩
   | dct _ | dki _=>obtain ⟨ws,e,q⟩:=this;exact ⟨ws,by rw [aI na];exact e,q.cX ex⟩
   | ins _ _=>obtain ⟨oo,uu,e⟩:=this;exact ⟨oo,uu,by rw [aI na];exact e⟩
  ·have e:n=S.length:=by
    have:=(List.getElem?_eq_some_iff.mp h2).1
    simp at this
    omega
   subst e
   rw [last] at h1
   cases h1
   simp at h2
   subst h2
   exact ⟨vs,aY,r.cX ex⟩
theorem DN (hu:X.A.units+64 < cLine) {k v:Expr} {ck cv:Ex} (hk:AE X k ck) (hv:AE X v cv):AE X (.Dict [some k] [v] pos) (A5 ck cv):=PE.imp (z9 (by omega) hk hv) fun σ H Q ⟨ρ,S,τ,R,r,h⟩ p hp=>by
 obtain ⟨e0,R0⟩:=R.im (u:=.dT []) hp
 have np:p∉ρ:=R.Cw hp
 refine ⟨ρ,S,τ,R0,r.ext e0,au (aH h) e0 fun a S1 h1 ρ1 H1 x e1 R1 v1=>⟨ρ1,S1,τ,R1,(r.ext e0).ext e1,au (aH h1) (e0.trans e1) fun b S2 h2 ρ2 H2 y e2 R2 v2=>?_⟩⟩
 have e12:=e1.trans e2
 have hp2:H2 p=some (.dT []):=e12.fr p _ aY np
 have np2:p∉ρ2:=fun hm=>(e12.nw p hm).elim np fun z=>by rw [aY] at z;cases z
 cases v1.ext e2 with
 | @tup q xs vs hq rr=>
  obtain ⟨ns,hi,h2⟩:=aG h2
  have z:=iI rr hi
  subst z
  refine ⟨hp2,q,ns.map Sum.inl,rfl,by rw [qk];exact hq,?_⟩
  obtain ⟨e3,R3,hl⟩:=R2.Kf (xs:=[(ns,b)]) (vs:=[(ns.map Sum.inl,y)]) hp2 np2 ⟨⟨rfl,v2⟩,trivial⟩
  refine h2 _ _ _ ⟨⟨(e0.trans e12).pre.trans e3.pre,fun c u i hc=>e3.im c u i ((e0.trans e12).im c u i hc)⟩,fun c u hc nc=>?_,fun c hc=>?_⟩ R3 (.ref hl)
  ·rw [aI (aQ hc hp)]
   exact (e0.trans e12).fr c u hc nc
  ·rcases List.mem_append.mp hc with z | z
   ·exact (e0.trans e12).nw c z
   ·have:c=p:=by simpa using z
    rw [this];exact .inr hp
 | _=>exact h2.elim
end
section
variable {X:Cx} {pos:Pos} {a b:Expr}
end
section
variable {X:Cx} {pos:Pos} {a b tg:Expr}
noncomputable def yS (p:List Int×A):A:=.tup [.tup (p.1.map .int),p.2]
noncomputable def MN (a:A) (S:aA):R Src:=match a with
 | .ref n=>opt (bG S n) fun kvs=>.ok (dX (kvs.map yS)) (S.set n (.ins "" []))
 | _=>.no
noncomputable def yo (c:Ex):Ic:=fun τ S=>(c τ S).bind fun a S1=>MN a S1
theorem Fe {K:PySem.W.Frag} {ρ:List Addr} {H:Hp}:∀ {kvs:List (List Int×A)} {ks:List (List Key×V)} {i:Nat} {p:List Int×A},DV K ρ H kvs ks->kvs[i]?=some p->∃ q,ks[i]?=some q/\q.1=p.1.map Sum.inl/\AV K ρ H p.2 q.2
 | [],[],_,_,_,h=>by simp at h
 | a::kvs,b::ks,0,p,⟨z,_⟩,h=>by
  have:a=p:=by simpa using h
  subst this
  exact ⟨b,rfl,z⟩
 | a::kvs,b::ks,i+1,p,⟨_,t⟩,h=>Fe (kvs:=kvs) (ks:=ks) (i:=i) t (by simpa using h)
theorem Rel.gone {K:PySem.W.Frag} {ρ:List Addr} {H:Hp} {S:aA} {n:Nat} {a:Addr} {xs:List (List Int×A)} {o:Obj} {u:HO} (R:Rel K ρ H S) (ha:ρ[n]?=some a) (hS:S[n]?=some (.dct xs)):Ext ρ ρ H (upd H a (.frz o u))/\Rel K ρ (upd H a (.frz o u)) (S.set n (.ins "" [])):=by
 obtain ⟨vs,e,_⟩:=R.at n a _ ha hS
 have ex:Ext ρ ρ H (upd H a (.frz o u)):=⟨⟨List.prefix_refl _,fun b u' i h=>by
  have:b≠a:=by
   intro z;subst z;rw [e] at h;cases h;exact i
  rw [aI this];exact h⟩,fun b u' h nb=>by
  rw [aI (fun z=>nb (by rw [z];exact List.mem_of_getElem? ha))];exact h,fun _ h=>.inl h⟩
 refine ⟨ex,by rw [List.length_set];exact R.len,R.nd,fun m b ob h1 h2=>?_⟩
 by_cases hm:m=n
 ·subst hm
  rw [ha] at h1;cases h1
  rw [List.getElem?_set_self (List.getElem?_eq_some_iff.mp hS).1] at h2
  cases h2
  exact ⟨o,u,aY⟩
 ·rw [List.getElem?_set_ne (Ne.symm hm)] at h2
  have nb:b≠a:=fun z=>by
   subst z
   obtain ⟨l1,e1⟩:=List.getElem?_eq_some_iff.mp ha
   obtain ⟨l2,e2⟩:=List.getElem?_eq_some_iff.mp h1
   exact hm ((List.getElem_inj R.nd).mp (e2.trans e1.symm))
  have:=R.at m b ob h1 h2
  cases ob with
  | lst ys=>obtain ⟨ws',e',q⟩:=this;exact ⟨ws',by rw [aI nb];exact e',q.ext ex⟩
  | dct _ | dki _=>obtain ⟨ws',e',q⟩:=this;exact ⟨ws',by rw [aI nb];exact e',q.ext ex⟩
  | ins _ _=>obtain ⟨oo,uu,e'⟩:=this;exact ⟨oo,uu,by rw [aI nb];exact e'⟩
theorem Ay {elts:List Expr} {x1:Nat} {tpos apos cpos:Pos} {e:Expr} {c:Ex} (ha:AE X e c) (hbase:attributeBase e "items" X.env (eval e X.env)=eval e X.env:=by rfl) (hline:(apos.endLine == cpos.line)=true:=by rfl) :
  AI X (.Tuple elts x1 tpos) (.Call (.Attribute e "items" apos) [] [] cpos) (yo c):=fun pins s σ H Q I ⟨ρ,S,τ,R,r,h⟩=>by
 refine zx ha hbase hline pins s σ H Q I ⟨ρ,S,τ,R,r,au (aH h) .refl fun x S1 h1 ρ1 H1 v e1 R1 v1=>?_⟩
 cases v1 with
 | @ref p n hp=>
  obtain ⟨kvs,hn,h1⟩:=aG h1
  obtain ⟨ks,g1,dv⟩:=R1.dct hp (fu hn)
  refine ⟨p,ks,rfl,g1,fun o ps pl pat=>?_⟩
  obtain ⟨ex,R2⟩:=R1.gone (o:=o) (u:=.dT ks) hp (fu hn)
  have dl:=dv.length
  refine h1 ρ1 _ _ (e1.trans ex) R2 ⟨fun i S2 H2 ρ2 y e2 R3 g=>?_,fun S2 H2 ρ2 e2 R3 _=>⟨?_,e2.im _ _ trivial aY⟩⟩
  ·have g:(kvs.map yS)[i]?=some y:=g
   rw [List.getElem?_map] at g
   obtain ⟨kv,hk,rfl⟩:=Option.map_eq_some_iff.mp g
   obtain ⟨q,hq,q1,q2⟩:=Fe dv hk
   have hi:i < ps.length:=by rw [pl];exact (List.getElem?_eq_some_iff.mp hq).1
   obtain ⟨k',e3,e4⟩:=pat i ps[i].1 ps[i].2 (List.getElem?_eq_getElem hi)
   rw [hq] at e3
   cases e3
   refine ⟨⟨ps[i].1,ps[i].2,List.getElem?_eq_getElem hi,e2.im _ _ trivial aY⟩,fun w' H' qq=>?_⟩
   obtain ⟨T,hT,rfl,hz⟩:=qq
   have hz':=hz _ _ (List.getElem?_eq_getElem hi)
   subst hz'
   obtain ⟨ex3,R4⟩:=R3.im (u:=.tup [.ref ps[i].1,ps[i].2]) hT
   have ka:H2 ps[i].1=some (.tup (k'.map kV)):=e2.im _ _ trivial (ex.toExt0.im _ _ trivial e4)
   have kk:k'.map kV=kv.1.map V.int:=by rw [show k'=kv.1.map Sum.inl from q1,qk]
   rw [kk] at ka
   exact ⟨ex3,R4,.tup aY (.cons ((AV.tup ka (fj _)).ext ex3) (.cons (((q2.cX ex.toExt0).cX e2).ext ex3) .nil))⟩
  ·show (kvs.map yS).length=ps.length
   rw [List.length_map,dl,pl]
 | _=>exact h1.elim
end
noncomputable def fZ (s:Src) (g:Tg) (t:Te) (e:Ex):Nat->Nat->List A->aA->R (List A×List A)
 | 0,_=>fun τ S=>if s.fin S then .ok ([],τ) S else .no
 | k+1,i=>fun τ S=>opt (s.get i S) fun x=>(g x τ S).cR fun τ1 S1=>(t τ1 S1).cR fun b S2=>match b with
  | true=>(e τ1 S2).cR fun y S3=>(fZ s g t e k (i+1) τ1 S3).cR fun p S4=>.ok (y::p.1,p.2) S4
  | false=>fZ s g t e k (i+1) τ1 S2
noncomputable def eS (s:Src) (g:Tg) (t:Te) (src2:Ic) (g2:Tg) (t2:Te) (e:Ex):Nat->Nat->List A->aA->R (List A)
 | 0,_=>fun _ S=>if s.fin S then .ok [] S else .no
 | k+1,i=>fun τ S=>opt (s.get i S) fun x=>(g x τ S).cR fun τ1 S1=>(t τ1 S1).cR fun b S2=>match b with
  | true=>(src2 τ1 S2).cR fun s2 S3=>(fZ s2 g2 t2 e s2.k 0 τ1 S3).cR fun p S4=>(eS s g t src2 g2 t2 e k (i+1) p.2 S4).cR fun ys S5=>.ok (p.1++ys) S5
  | false=>eS s g t src2 g2 t2 e k (i+1) τ1 S2
noncomputable def uB (cap:List (Option Nat)) (src:Ic) (g:Tg) (t:Te) (src2:Ic) (g2:Tg) (t2:Te) (e:Ex):Ex:=fun τ S=>(src τ S).bind fun s S1=>(eS s g t src2 g2 t2 e s.k 0 (eB cap τ) S1).cR fun ys S2=>newL ys S2
theorem rB {s:Src} {g:Tg} {t:Te} {e:Ex} {k i:Nat} {τ τ':List A} {S S':aA} {zs:List A} (h:fZ s g t e (k+1) i τ S=.ok (zs,τ') S') :
  ∃ x τ1 S1 b S2,s.get i S=some x/\g x τ S=.ok τ1 S1/\t τ1 S1=.ok b S2/\(b=true->∃ y S3 ws,e τ1 S2=.ok y S3/\fZ s g t e k (i+1) τ1 S3=.ok (ws,τ') S'/\zs=y::ws)/\(b=false->fZ s g t e k (i+1) τ1 S2=.ok (zs,τ') S'):=by
 obtain ⟨x,hx,h⟩:=ur h
 obtain ⟨τ1,S1,h1,h⟩:=cg h
 obtain ⟨b,S2,h2,h⟩:=cg h
 refine ⟨x,τ1,S1,b,S2,hx,h1,h2,fun hb=>?_,fun hb=>?_⟩
 ·subst hb
  obtain ⟨y,S3,h3,h⟩:=cg h
  obtain ⟨⟨ws,τ2⟩,S4,h4,h⟩:=cg h
  cases h
  exact ⟨y,S3,ws,h3,h4,rfl⟩
 ·subst hb;exact h
theorem qj {s:Src} {g:Tg} {t:Te} {src2:Ic} {g2:Tg} {t2:Te} {e:Ex} {k i:Nat} {τ:List A} {S S':aA} {zs:List A} (h:eS s g t src2 g2 t2 e (k+1) i τ S=.ok zs S') :
  ∃ x τ1 S1 b S2,s.get i S=some x/\g x τ S=.ok τ1 S1/\t τ1 S1=.ok b S2/\(b=true->∃ s2 S3 ps τ2 S4 ws,src2 τ1 S2=.ok s2 S3/\fZ s2 g2 t2 e s2.k 0 τ1 S3=.ok (ps,τ2) S4/\eS s g t src2 g2 t2 e k (i+1) τ2 S4=.ok ws S'/\zs=ps++ws)/\(b=false->eS s g t src2 g2 t2 e k (i+1) τ1 S2=.ok zs S'):=by
 obtain ⟨x,hx,h⟩:=ur h
 obtain ⟨τ1,S1,h1,h⟩:=cg h
 obtain ⟨b,S2,h2,h⟩:=cg h
 refine ⟨x,τ1,S1,b,S2,hx,h1,h2,fun hb=>?_,fun hb=>?_⟩
 ·subst hb
  obtain ⟨s2,S3,h3,h⟩:=cg h
  obtain ⟨⟨ps,τ2⟩,S4,h4,h⟩:=cg h
  obtain ⟨ws,S5,h5,h⟩:=cg h
  cases h
  exact ⟨s2,S3,ps,τ2,S4,ws,h3,h4,h5,rfl⟩
 ·subst hb;exact h
noncomputable def MU (K:PySem.W.Frag) (c:Ic):TI:=fun σ H Q=>∃ ρ S τ s S',Rel K ρ H S/\SR K ρ H τ σ/\c τ S=.ok s S'/\∀ ρ' H' J,Ext ρ ρ' H H'->Rel K ρ' H' S'->JR K s J ρ' H'->Q J H'
structure Out (ρ1:List Addr) (H1:Hp) (D:Addr) (accV:List V) (ρ:List Addr) (H:Hp):Prop where
 e0:Ext0 ρ1 ρ H1 H
 fr:∀ a u,a≠D->H1 a=some u->a∉ρ1->H a=some u
 nw:∀ a∈ρ,a∈ρ1\/H1 a=none
 nD:D∉ρ
 hD:H D=some (.lst accV)
theorem Out.stay {ρ1 ρ3 ρ7:List Addr} {H1 H3 H7:Hp} {D:Addr} {accV:List V} (o:Out ρ1 H1 D accV ρ3 H3) (hD1:H1 D=none) (e7:Ext ρ3 ρ7 H3 H7):Out ρ1 H1 D accV ρ7 H7:=by
 refine ⟨⟨o.e0.pre.trans e7.pre,fun a u i h=>e7.im a u i (o.e0.im a u i h)⟩,fun a u na hu nr=>e7.fr a u (o.fr a u na hu nr) fun z=>(o.nw a z).elim nr fun z=>by (rw [z] at hu;cases hu),fun a ha=>?_,fun z=>(e7.nw D z).elim o.nD fun z=>by (rw [o.hD] at z;cases z),e7.fr D _ o.hD o.nD⟩
 by_cases hr:a∈ρ1
 ·exact .inl hr
 ·right
  cases q:H1 a with
  | none=>rfl
  | some u=>
   have aD:a≠D:=aQ q hD1
   rcases e7.nw a ha with z | z
   ·exact ((o.nw a z).elim hr fun z=>by (rw [z] at q;cases q)).elim
   ·rw [o.fr a u aD q hr] at z;cases z
section
variable {X:Cx} {pos:Pos} {tg iter tg2 iter2 elt e:Expr} {ifs ifs2:List Expr} {scope:Scope} {N:List Str} {cap:List (Option Nat)} {src src2:Ic} {g g2:Tg} {t t2:Te} {c:Ex}
theorem AI.i0 {K:PySem.W.Frag} (hK:X.K=K) (h:AI X tg e src):PI X tg e (MU K src):=fun pins s σ H Q I ⟨ρ,S,τ,a,S',R,r,hc,q⟩=>h pins s σ H Q I ⟨ρ,S,τ,by rw [hK];exact R,by rw [hK];exact r,by rw [hc];exact fun ρ' H' J e R' v'=>q ρ' H' J e (by rw [<- hK];exact R') (by rw [<- hK];exact v')⟩
theorem zZ (hc:X.calm=true) (Sc:CpScope X scope N cap) (hi:AI X tg iter src) (hg:∀ C s₀ H₀ ex,AG (cO X scope N C s₀ H₀ ex) tg g) (ht:∀ C s₀ H₀ ex,JY (cO X scope N C s₀ H₀ ex) ifs t) (hi2:∀ C s₀ H₀ ex,AI (cO X scope N C s₀ H₀ ex) tg2 iter2 src2)
  (hg2:∀ C s₀ H₀ ex,AG (cO X scope N C s₀ H₀ ex) tg2 g2) (ht2:∀ C s₀ H₀ ex,JY (cO X scope N C s₀ H₀ ex) ifs2 t2) (he:∀ C s₀ H₀ ex,AE (cO X scope N C s₀ H₀ ex) elt c)
  (hs:∀ x,foldedSetIterable iter X.env x=pure x:=by intro _;rfl) (hs2:∀ env x,foldedSetIterable iter2 env x=pure x:=by intro _ _;rfl):AE X (.ListComp elt [⟨tg,iter,ifs,0⟩,⟨tg2,iter2,ifs2,0⟩] scope pos) (uB cap src g t src2 g2 t2 c):=by
 refine PE.imp (HD hc Sc hi (g:=JC X.K g) (tc:=Jz X.K t) (wi2:=MU X.K src2) (g2:=JC X.K g2) (tc2:=Jz X.K t2) (te:=Lp X.K c) (fun C s₀ H₀ ex=>(hg C s₀ H₀ ex).g0 rfl) (fun C s₀ H₀ ex=>ht C s₀ H₀ ex) (fun C s₀ H₀ ex=>(hi2 C s₀ H₀ ex).i0 rfl) (fun C s₀ H₀ ex=>(hg2 C s₀ H₀ ex).g0 rfl) (fun C s₀ H₀ ex=>ht2 C s₀ H₀ ex) (fun C s₀ H₀ ex=>(he C s₀ H₀ ex).e0 rfl) hs hs2) fun σ H Q ⟨ρ,S,τ,R,r,h⟩=>?_
 refine ⟨ρ,S,τ,R,r,au (aH h) .refl fun s S1 h1 ρ1 H1 J e1 R1 jr D hD=>?_⟩
 obtain ⟨ys,S2,hcg,h1⟩:=lR h1
 obtain ⟨hlen,h1⟩:=aW h1
 have h1:lA X ρ H Q (.ref S2.length) (S2++[.lst ys]):=h1
 obtain ⟨eD,RD⟩:=R1.im (u:=.lst []) hD
 have nD:=R1.Cw hD
 refine ⟨fun i m σ' H'=>m+i=s.k/\∃ ρ' S' τ' acc zs accV,Out ρ1 H1 D accV ρ' H'/\Rel X.K ρ' H' S'/\SR X.K ρ' H' τ' σ'/\AVs X.K ρ' H' acc accV/\eS s g t src2 g2 t2 c m i τ' S'=.ok zs S2/\acc++zs=ys,
  ⟨s.k,rfl,ρ1,S1,eB cap τ,[],ys,[],⟨eD.toExt0,fun a u na hu _=>by rw [aI na];exact hu,fun a ha=>.inl ha,nD,aY⟩,RD,(FG ((r.ext e1).ext eD) cap),.nil,hcg,rfl⟩,?_⟩
 rintro i m σ3 H3 ⟨hm,ρ3,S3,τ3,acc,zs,accV,o3,R3,r3,ac3,cg3,eys⟩
 cases m with
 | zero=>
  left
  have cg3:(if s.fin S3 then Am.R.ok [] S3 else .no)=.ok zs S2:=cg3
  cases hf:s.fin S3 with
  | false=>rw [hf] at cg3;cases cg3
  | true=>
   rw [hf] at cg3
   cases cg3
   rw [List.append_nil] at eys
   subst eys
   refine ⟨by rw [show i=s.k by omega];exact jr.stop _ H3 ρ3 o3.e0 R3 hf,?_⟩
   obtain ⟨RT,gt⟩:=R3.take o3.hD o3.nD ac3
   refine h1 (ρ3++[D]) H3 _ (e1.trans ⟨⟨o3.e0.pre.trans (List.prefix_append _ _),o3.e0.im⟩,fun a u hu na=>o3.fr a u (aQ hu hD) hu na,fun a ha=>?_⟩) RT (.ref gt)
   rcases List.mem_append.mp ha with z | z
   ·exact o3.nw a z
   ·have:a=D:=by simpa using z
    rw [this];exact .inr hD
 | succ m=>
  right
  obtain ⟨x,τ4,S4,b,S5,hx,hg4,ht5,hT,hF⟩:=qj cg3
  obtain ⟨hgo,hy⟩:=jr.go i S3 H3 ρ3 x o3.e0 R3 hx
  refine ⟨hgo,fun v H4 y=>?_⟩
  obtain ⟨e4,R4,v4⟩:=hy v H4 y
  refine ⟨ρ3,S3,τ3,x,τ4,S4,R4,r3.ext e4,v4,hg4,fun ρ5 H5 σ5 e5 R5 r5=>?_⟩
  refine ⟨ρ5,S4,τ4,b,S5,R5,r5,ht5,fun ρ6 H6 e6 R6=>?_⟩
  have e36:=(e4.trans e5).trans e6
  cases b with
  | false=>
   dsimp only
   rw [if_neg Bool.false_ne_true]
   exact ⟨m,Nat.lt_succ_self _,by omega,ρ6,S5,τ4,acc,zs,accV,o3.stay hD e36,R6,r5.ext e6,ac3.ext e36,hF rfl,eys⟩
  | true=>
   dsimp only
   rw [if_pos rfl]
   obtain ⟨s2,S6,ps,τ7,S7,ws,hs6,ci7,co7,ezs⟩:=hT rfl
   refine ⟨ρ6,S5,τ4,s2,S6,R6,r5.ext e6,hs6,fun ρ8 H8 J2 e8 R8 jr2=>?_⟩
   have e38:=e36.trans e8
   have o8:=o3.stay hD e38
   refine ⟨fun i2 m2 σ' H'=>m2+i2=s2.k/\∃ ρ' S' τ' acc2 qs accV2,Out ρ1 H1 D accV2 ρ' H'/\Ext0 ρ8 ρ' H8 H'/\Rel X.K ρ' H' S'/\SR X.K ρ' H' τ' σ'/\AVs X.K ρ' H' acc2 accV2/\fZ s2 g2 t2 c m2 i2 τ' S'=.ok (qs,τ7) S7/\acc2++qs=acc++ps,
    ⟨s2.k,rfl,ρ8,S6,τ4,acc,ps,accV,o8,⟨List.prefix_refl _,fun _ _ _ h=>h⟩,R8,r5.ext (e6.trans e8),ac3.ext e38,ci7,rfl⟩,?_⟩
   rintro i2 m2 σ9 H9 ⟨hm2,ρ9,S9,τ9,acc9,qs,accV9,o9,e89,R9,r9,ac9,ci9,eqs⟩
   cases m2 with
   | zero=>
    left
    have ci9:(if s2.fin S9 then Am.R.ok ([],τ9) S9 else .no)=.ok (qs,τ7) S7:=ci9
    cases hf:s2.fin S9 with
    | false=>rw [hf] at ci9;cases ci9
    | true=>
     rw [hf] at ci9
     cases ci9
     rw [List.append_nil] at eqs
     subst eqs
     refine ⟨by rw [show i2=s2.k by omega];exact jr2.stop _ H9 ρ9 e89 R9 hf,m,Nat.lt_succ_self _,by omega,ρ9,_,_,_,ws,accV9,o9,R9,r9,ac9,co7,?_⟩
     rw [List.append_assoc,<- ezs,eys]
   | succ m2=>
    right
    obtain ⟨x9,τ10,S10,b10,S11,hx9,hg10,ht11,hT9,hF9⟩:=rB ci9
    obtain ⟨hgo2,hy2⟩:=jr2.go i2 S9 H9 ρ9 x9 e89 R9 hx9
    refine ⟨hgo2,fun v10 H10 y10=>?_⟩
    obtain ⟨e10,R10,v10'⟩:=hy2 v10 H10 y10
    refine ⟨ρ9,S9,τ9,x9,τ10,S10,R10,r9.ext e10,v10',hg10,fun ρ11 H11 σ11 e11 R11 r11=>?_⟩
    refine ⟨ρ11,S10,τ10,b10,S11,R11,r11,ht11,fun ρ12 H12 e12 R12=>?_⟩
    have e912:=(e10.trans e11).trans e12
    have o12:=o9.stay hD e912
    have e812:Ext0 ρ8 ρ12 H8 H12:=⟨e89.pre.trans e912.pre,fun a u i h=>e912.im a u i (e89.im a u i h)⟩
    cases b10 with
    | false=>
     dsimp only
     rw [if_neg Bool.false_ne_true]
     exact ⟨m2,Nat.lt_succ_self _,by omega,ρ12,S11,τ10,acc9,qs,accV9,o12,e812,R12,r11.ext e12,ac9.ext e912,hF9 rfl,eqs⟩
    | true=>
     dsimp only
     rw [if_pos rfl]
     obtain ⟨y,S13,us,he13,ci13,eus⟩:=hT9 rfl
     refine ⟨ρ12,S11,τ10,y,S13,R12,r11.ext e12,he13,fun ρ14 H14 w e14 R14 v14=>?_⟩
     have o14:=o12.stay hD e14
     obtain ⟨ex15,R15⟩:=R14.out (ws:=accV9++[w]) o14.hD o14.nD
     have l1:=ac9.length
     refine ⟨accV9,o14.hD,?_,m2,Nat.lt_succ_self _,by omega,ρ14,S13,τ10,acc9++[y],us,accV9++[w],⟨⟨o14.e0.pre,fun a u i h=>ex15.im a u i (o14.e0.im a u i h)⟩,fun a u na hu nr=>by rw [aI na];exact o14.fr a u na hu nr,o14.nw,o14.nD,aY⟩,⟨e812.pre.trans e14.pre,fun a u i h=>ex15.im a u i (e14.im a u i (e812.im a u i h))⟩,R15,(r11.ext (e12.trans e14)).cX ex15,(AVs.cX ex15 ((ac9.ext (e912.trans e14)).append (.one v14))),ci13,?_⟩
     ·have:((acc++ps)++ws).length<=sizeLine:=by rw [List.append_assoc,<- ezs,eys];exact hlen
      rw [<- eqs,eus,List.length_append,List.length_append,List.length_cons] at this
      omega
     ·rw [List.append_assoc,<- eqs,eus];rfl
end
noncomputable def Jt (K:PySem.W.Frag) (n:Nat) (F:List A->aA->R A):Sp:=fun vs H Q E=>vs.length=n/\∃ ρ S as,Rel K ρ H S/\AVs K ρ H as vs/\(F as S).post (fun a S'=>∀ ρ' H' v,Ext ρ ρ' H H'->Rel K ρ' H' S'->AV K ρ' H' a v->Q v H') (fun c S'=>∀ C ρ' H',s_ K c C->Ext ρ ρ' H H'->Rel K ρ' H' S'->E (.ref C) none H')
section
variable {P:Program} {w:World} {K:PySem.W.Frag} {mg:Str->Option Value} {base:Heap}
theorem Fun.Nl {x qual:Str} {st:Stmt} {f:Addr} {fd:FuncData} {N ps:List Str} {k:Nat} {sp:Sp} (F:Fun K x qual st f fd) (S:FnScope N ps (aF st)) (len:∀ vs H Q E,sp vs H Q E->vs.length=ps.length)
  (hb:∀ (cdv:Value) (A:Around) (outer:List Env) (s:Shared) (H:Hp) (vs:List V) (Q:VK) (E:XK),Room k (A.deeper (envOfC qual (aF st) s.heap.objs.size f cdv))->sp vs H Q E->∃ t,oF (kP (uJ P w) P w K mg base N qual (aF st) f cdv A outer s H E) (a_ st) t/\t { nx:=fun _ H'=>Q .non H',rt:=Q } (L2.start N vs) H):FnOk P w K mg base (uJ P w) (k+1) f fd ps sp:=by
 obtain ⟨oc,od,kV,doc,pm,an,cdv,ct,osl,rfl,lk,hcd⟩:=F.ex
 exact FJ lk hcd S len fun A outer s H vs Q E hr hsp=>hb cdv A outer s H vs Q E hr hsp
theorem fnX {x qual:Str} {st:Stmt} {f:Addr} {fd:FuncData} {N ps:List Str} {k:Nat} {m:Sm} (F:Fun K x qual st f fd) (Sc:FnScope N ps (aF st))
  (body:∀ (cdv:Value) (A:Around) (outer:List Env) (s:Shared) (H:Hp) (E:XK),Room k (A.deeper (envOfC qual (aF st) s.heap.objs.size f cdv))->zk (kP (uJ P w) P w K mg base N qual (aF st) f cdv A outer s H E) (a_ st) m) :
  FnOk P w K mg base (uJ P w) (k+1) f fd ps (Jt K ps.length (dS N m)):=by
 refine Fun.Nl F Sc (fun vs H Q E h=>h.1) fun cdv B outer s H vs Q E hr ⟨hl,ρ,S,as,R,va,q⟩=>⟨_,body cdv B outer s H E hr,ρ,S,_,R,uT va N,?_⟩
 unfold dS at q
 cases hm:m (as++List.replicate (N.length - as.length) .unb) S with
 | rt b S2=>rw [hm] at q;exact q
 | nx τ S2=>rw [hm] at q;exact fun ρ' H' σ' e R' _=>q ρ' H' _ e R' .non
 | bk τ S2=>rw [hm] at q;exact q.elim
 | ct τ S2=>rw [hm] at q;exact q.elim
 | no=>rw [hm] at q;exact q.elim
 | ex c S2=>
  rw [hm] at q
  intro C ρ' H' n e R'
  exact ⟨rfl,fun pins σ' s' ea I Ra=>yL I rfl Ra (q C ρ' H' n e R')⟩
end
noncomputable def zf (P:Program) (w:World) (K:PySem.W.Frag) (mg:Str->Option Value) (base:Heap) (k:Nat) (x:Str) (ps:List Str) (F:List A->aA->R A):Prop:=
 ∃ (f:Addr) (fd:FuncData),FnOk P w K mg base (uJ P w) k f fd ps (Jt K ps.length F)/\mg x=some (.ref f)/\PySem.W.keepIn K (.ref f)=true/\Binds K fd ps []
noncomputable def qf (F:List A->aA->R A) (d:gp):Ex:=fun τ S=>(d τ S).bind fun as S1=>F as S1
section
variable {X:Cx} {pos p:Pos} {e:Expr} {es:List Expr} {x:Str} {ps:List Str} {k:Nat} {F:List A->aA->R A} {d:gp}
theorem jk (G:zf X.prog X.w X.K X.mg X.base k x ps F) (hr:Room k X.A) (ha:AL X (e::es) d) (hl:∀ τ S as S',d τ S=.ok as S'->as.length=ps.length) (hg:Gl X x:=by rfl) (hdb:(x == ("__debug__" : Str))=false:=by decide)
  (hs:starEach (e::es) X.env=(false,eval e X.env)::starEach es X.env:=by rfl) (hplain:(backTo pos (starEach es X.env)).any (·.1)=false:=by rfl):AE X (.Call (.Name x p) (e::es) [] pos) (qf F d):=by
 obtain ⟨f,fd,Fo,hm,hk,hb⟩:=G
 refine PE.imp (xG Fo hr hg hm hk hb .nil (BO (X:=X) rfl rfl) ha hdb hs hplain) fun σ H Q ⟨ρ,S,τ,R,r,h⟩=>?_
 refine ⟨ρ,S,τ,R,r,?_⟩
 have hq:=aH h
 cases hd:d τ S with
 | no=>rw [hd] at hq;exact hq
 | ex c S1=>rw [hd] at hq;exact hq
 | ok as S1=>
  rw [hd] at hq
  intro ρ1 H1 vs e1 R1 v1
  rw [List.append_nil]
  refine ⟨by rw [<- v1.length];exact hl τ S as S1 hd,ρ1,S1,as,R1,v1,kB hq (fun a S2 q ρ2 H2 v e2=>q ρ2 H2 v (e1.trans e2)) fun c S2 q C ρ2 H2 n e2=>q C ρ2 H2 n (e1.trans e2)⟩
end
noncomputable def zj:List Value:=[.type "ValueError",.type "Exception",.type "BaseException",.type "object"]
theorem Gw {K:PySem.W.Frag} {mg:Str->Option Value} {base:Heap} {x:Str} {C:Addr} {bmB:List Value} {newId:String} (M:Mod K mg base) (e:s_ K x C) (q:PySem.W.excIn K C bmB newId=true):OwnCls x C bmB newId mg base:=by
 refine ⟨PySem.W.mg_of M.kin M.glob e,?_⟩
 unfold PySem.W.excIn at q
 split at q
 ·rename_i dd cd sl ho
  split at q
  ·rename_i C' bm k0 k1 k2 k3 nw k5 hm hs
   rw [Bool.and_eq_true,Bool.and_eq_true,Bool.and_eq_true,Bool.and_eq_true,Bool.and_eq_true] at q
   obtain ⟨⟨⟨⟨⟨q1,q2⟩,q3⟩,q4⟩,q5⟩,q6⟩:=q
   have q1:=beq_iff_eq.mp q1
   have q2:=beq_iff_eq.mp q2
   have q3:cd.hasDel=false:=by simpa using q3
   have q6:=beq_iff_eq.mp q6
   subst q1 q2
   obtain ⟨nm,bs,mro,ns,qn,hd,sn,sub,ab,col,del⟩:=cd
   have hm:mro=_:=hm
   have q3:del=false:=q3
   subst hm q3
   obtain ⟨sl⟩:=sl
   have hs:sl=_:=hs
   subst hs
   exact ⟨bm,ns,nm,qn,bs,hd,sn,sub,ab,col,dd,k0,k1,k2,k3,k5,_,M.kin _ _ ho,.of_isNs (PySem.W.isNs_of_in M.kin q5),PySem.W.nsMap_none_of_in M.kin q5 q6,PySem.W.tail_of_in M.kin q4⟩
  ·cases q
 ·cases q
noncomputable def Bh:List (Str ⊕ Ex)->List A->aA->R Unit
 | [],_,S=>.ok () S
 | .inl _::ps,τ,S=>Bh ps τ S
 | .inr e::ps,τ,S=>(e τ S).bind fun v S1=>match v with
  | .int i=>gd (i.natAbs.log2 < 64) (Bh ps τ S1)
  | _=>.no
noncomputable def D9:List (Str ⊕ Ex)->Bool
 | []=>true
 | .inl x::ps=>decide (x.length<=1000) && D9 ps
 | .inr _::ps=>D9 ps
noncomputable def mE (c:Str) (ps:List (Str ⊕ Ex)):Sm:=fun τ S=>.of (Bh ps τ S) fun _ S1=>.ex c S1
noncomputable def Li (X:Cx):List (Str ⊕ Ex)->List (Str ⊕ TE)
 | []=>[]
 | .inl x::ps=>.inl x::Li X ps
 | .inr e::ps=>.inr (tE X e)::Li X ps
section
variable {X:Cx} {pos np cpos fp:Pos} {x:Str} {C:Addr} {e1 e2:Expr} {es:List Expr} {ps:List (Str ⊕ Ex)}
theorem kq {ρ0:List Addr} {H0:Hp} {σ:L2.St} {τ:List A} {k:Hp->Prop} (c:Str) (hk:∀ ρ H S,Ext ρ0 ρ H0 H->Rel X.K ρ H S->XE X ρ0 H0 c S->k H):∀ (ps:List (Str ⊕ Ex)) (ρ:List Addr) (H:Hp) (S:aA),D9 ps=true->Ext ρ0 ρ H0 H->Rel X.K ρ H S->SR X.K ρ H τ σ ->
  (Bh ps τ S).post (fun _ S'=>XE X ρ0 H0 c S') (XE X ρ0 H0)->mq (Li X ps) σ H k
 | [],ρ,H,S,_,e,R,r,h=>hk ρ H S e R h
 | .inl x::ps,ρ,H,S,ok,e,R,r,h=>by
  obtain ⟨hx,ok⟩:=Bool.and_eq_true_iff.mp ok
  exact ⟨of_decide_eq_true hx,kq c hk ps ρ H S ok e R r h⟩
 | .inr a::ps,ρ,H,S,ok,e,R,r,h=>by
  refine ⟨ρ,S,τ,R,r,?_⟩
  have h:=aH h
  refine kB h (fun v S1 h1 ρ1 H1 u e1 R1 v1=>?_) fun c' S' z=>z.ext e
  cases v with
  | int i=>
   obtain ⟨hi,h1⟩:=aW h1
   cases v1
   exact ⟨i,rfl,hi,kq c hk ps ρ1 H1 S1 ok (e.trans e1) R1 (r.ext e1) h1⟩
  | _=>exact h1.elim
theorem yG (hn:s_ X.K x C) (hq:PySem.W.excIn X.K C zj "ValueError.__new__" = true) (hh:X.A.handled=none) (hp:FParts X (e1::e2::es) (Li X ps)) (hfs:D9 ps=true:=by rfl) (hg:Gl X x:=by rfl) (hl:2000 * (e1::e2::es).length<=sizeLine:=by decide)
  (hs:starEach [.JoinedStr (e1::e2::es) fp] X.env=(false,eval (.JoinedStr (e1::e2::es) fp) X.env)::starEach [] X.env:=by rfl) (hpl:(backTo cpos (starEach [] X.env)).any (·.1)=false:=by rfl) (hd:(x == ("__debug__" : Str))=false:=by decide) :
  AS X (.Raise (some (.Call (.Name x np) [.JoinedStr (e1::e2::es) fp] [] cpos)) none pos) (mE x ps):=by
 intro pins s σ H D I ⟨ρ,S,τ,R,r,h⟩
 refine rJ (Gw I.mod hn hq) PySem.F.excBase_ValueError hh (fM (Ke hp hl) kc hs) hg hs hpl hd pins s σ H D I ?_
 refine kq (X:=X) (ρ0:=ρ) (H0:=H) x (fun ρ1 H1 S1 e1 R1 z y hy=>?_) ps ρ H S hfs .refl R r (of_post h)
 exact ⟨(show 1<=sizeLine by decide),z C ρ1 H1 hn e1 R1⟩
theorem yW {t:Str} {j tp} (hn:s_ X.K x C) (hq:PySem.W.excIn X.K C zj "ValueError.__new__" = true) (hh:X.A.handled=none) (hg:Gl X x:=by rfl)
  (hs:starEach [.Constant (.str t) j tp] X.env=(false,eval (.Constant (.str t) j tp) X.env)::starEach [] X.env:=by rfl) (hpl:(backTo cpos (starEach [] X.env)).any (·.1)=false:=by rfl) (hd:(x == ("__debug__" : Str))=false:=by decide) :
  AS X (.Raise (some (.Call (.Name x np) [.Constant (.str t) j tp] [] cpos)) none pos) (mE x []):=by
 intro pins s σ H D I ⟨ρ,S,τ,R,r,h⟩
 refine rJ (Gw I.mod hn hq) PySem.F.excBase_ValueError hh (fM AH kc hs) hg hs hpl hd pins s σ H D I ?_
 exact ⟨(show 1<=sizeLine by decide),h C ρ H hn .refl R⟩
end
noncomputable def Df (i:Nat):RS->RS
 | .nx τ S=>.nx (τ.set i .unb) S
 | .bk τ S=>.bk (τ.set i .unb) S
 | .ct τ S=>.ct (τ.set i .unb) S
 | .rt a S=>.rt a S
 | _=>.no
noncomputable def qZ (i n:Nat) (cs:List Str) (c d:Sm):Sm:=fun τ S=>match c τ S with
 | .ex x S1=>if x∈cs then Df i (d ((List.replicate n .unb).set i (.exn x)) S1) else .no
 | r=>r
theorem SR.unset {K:PySem.W.Frag} {ρ:List Addr} {H:Hp} {τ:List A} {σ:L2.St} {i:Nat} (s:SR K ρ H τ σ):SR K ρ H (τ.set i .unb) (σ.set i none):=by
 refine ⟨by simp [s.len],fun j b e=>?_⟩
 by_cases hj:j=i
 ·subst hj
  have hl:j < τ.length:=by
   have:=(List.getElem?_eq_some_iff.mp e).1
   simpa using this
  rw [List.getElem?_set_self hl] at e
  cases e
  exact .inl rfl
 ·rw [List.getElem?_set_ne (Ne.symm hj)] at e
  rw [List.getElem?_set_ne (Ne.symm hj)]
  exact s.at j b e
section
variable {X:Cx} {pos np hp:Pos} {y n:Str} {Dc:Addr} {i:Nat} {body suite:List Stmt} {b0:Stmt} {c d:Sm} {cs:List Str}
theorem Jg (hb:∀ pn' xe',zk (X.nY pn' xe') body c) (hh:∀ pn' e oe C,XO C oe->zk (X.hand pn' e oe) (b0::suite) d) (hN:X.N.Nodup) (hD:s_ X.K y Dc) (mD:L2.mroIn X.K Dc=some zj) (hcs:∀ x∈cs,∃ C,s_ X.K x C/\L2.mroIn X.K C=some (.ref Dc::zj))
  {ln:Nat} (hln:X.N.length=ln:=by rfl) (hi:X.N[i]?=some n:=by rfl) (hlo:X.env.scope.names.lookup n=some .local:=by rfl) (hst:X.stack=X.env::X.outer:=by rfl) (hf:X.env.frame=some X.env.locals:=by rfl) (hex:X.ex=[]:=by rfl) (hg:Gl X y:=by rfl) (hdb:(y == ("__debug__" : Str))=false:=by decide) :
  AS X (.Try body [.ExceptHandler (some (.Name y np)) (some n) (b0::suite) hp] [] [] pos) (qZ i ln cs c d):=by
 subst hln
 intro pins s σ H D I ⟨ρ,S,τ,R,r,h⟩
 refine wpAny_Try_except ?_
 have tl:τ.length=X.N.length:=by rw [r.len];exact I.len
 have hgo:∀ xe',(∀ x S1,c τ S=.ex x S1->XE (X.nY (X.pn++pins) xe') ρ H x S1)->kZ (X.nY (X.pn++pins) xe') ρ H D (c τ S):=fun xe' hx=>by
  have h:kZ X ρ H D (qZ i X.N.length cs c d τ S):=h
  unfold qZ at h
  cases hc:c τ S with
  | nx τ' S'=>rw [hc] at h;exact h
  | rt a S'=>rw [hc] at h;exact h
  | bk τ' S'=>rw [hc] at h;exact h
  | ct τ' S'=>rw [hc] at h;exact h
  | no=>rw [hc] at h;exact h
  | ex x S1=>exact hx x S1 hc
 refine wpAny_mono (hb (X.pn++pins) _ [] s σ H D (I.nY _) ⟨ρ,S,τ,R,r,hgo _ fun x S1 hc C ρ1 H1 hn e1 R1=>?_⟩) (fun f s1 hs=>?_) fun e s1 z=>z
 ·refine ⟨hex,fun pins' σ' s' e I' R'=>?_⟩
  have h:kZ X ρ H D (qZ i X.N.length cs c d τ S):=h
  unfold qZ at h
  rw [hc] at h
  have h:kZ X ρ H D (if x∈cs then Df i (d ((List.replicate X.N.length .unb).set i (.exn x)) S1) else .no):=h
  by_cases hx:x∈cs
  ·rw [if_pos hx] at h
   obtain ⟨C',hn',mC⟩:=hcs x hx
   have:C'=C:=by
    have z:=hn'.symm.trans hn
    injection z with z
    injection z with z
    injection z
   subst this
   have hm:X.mg y=some (.ref Dc):=PySem.W.mg_of I.mod.kin I.mod.glob hD
   refine A9 hst hf hex hN hi hlo hg hm mD (by decide) I' R' mC (by simp) (fun oe s6 xo hn0 I6=>?_) I.ok hdb
   obtain ⟨ex,Rn⟩:=R1.im (u:=.frz oe xu) hn0
   refine hh (X.pn++pins) e oe C' xo [] s6 _ _ (LH i D) I6 ⟨ρ1,S1,(List.replicate X.N.length .unb).set i (.exn x),Rn,SR.set ⟨?_,fun j b z=>?_⟩ (.exn hn' aY xo),?_⟩
   ·rw [List.length_replicate];exact I'.len.symm
   ·rw [List.getElem?_replicate] at z
    split at z
    ·exact .inl (Option.some.inj z).symm
    ·cases z
   ·have e2:=e1.trans ex
    cases hd:d ((List.replicate X.N.length .unb).set i (.exn x)) S1 with
    | nx τ' S'=>rw [hd] at h;exact fun ρ' H' σ' e' R' r'=>h ρ' H' _ (e2.trans e') R' r'.unset
    | bk τ' S'=>rw [hd] at h;exact fun ρ' H' σ' e' R' r'=>h ρ' H' _ (e2.trans e') R' r'.unset
    | ct τ' S'=>rw [hd] at h;exact fun ρ' H' σ' e' R' r'=>h ρ' H' _ (e2.trans e') R' r'.unset
    | rt a S'=>rw [hd] at h;exact fun ρ' H' v e' R' r'=>h ρ' H' v (e2.trans e') R' r'
    | ex _ _=>rw [hd] at h;exact h.elim
    | no=>rw [hd] at h;exact h.elim
  ·rw [if_neg hx] at h;exact h.elim
 ·cases f with
  | next=>obtain ⟨σ',H',J,q⟩:=hs;exact wpAny_execs_nil ⟨σ',H',J.uU,q⟩
  | brk=>obtain ⟨σ',H',J,q⟩:=hs;exact ⟨σ',H',J.uU,q⟩
  | cont=>obtain ⟨σ',H',J,q⟩:=hs;exact ⟨σ',H',J.uU,q⟩
  | ret u=>obtain ⟨v,σ',H',J,rv,q⟩:=hs;exact ⟨v,σ',H',J.uU,rv,q⟩
end
noncomputable def kr (f:Str->Option Bool) (c:Ex):Ex:=fun τ S=>(c τ S).bind fun v S1=>match v with
 | .exn x=>opt (f x) fun b=>.ok (.bl b) S1
 | _=>.no
section
variable {X:Cx} {pos p py:Pos} {a:Expr} {y:Str} {vy:V} {cy:Value} {f:Str->Option Bool} {c:Ex}
theorem BJ (ry:∀ u,RelV vy u->u=cy) (hf:∀ x b C,f x=some b->s_ X.K x C->XCls X.K C/\(PySem.W.clsIn X.K C).isSome=true/\PySem.W.kitOne X.K (.ref C) cy=some b) :
  br X (.builtin "isinstance") (fun xs H Q=>∃ ρ S x v b,Rel X.K ρ H S/\xs=[v,vy]/\AV X.K ρ H (.exn x) v/\f x=some b/\Q (.bl b) H):=by
 intro pins s σ H xs us Q I r ⟨ρ,S,x,v,b,R,exs,va,hb,q⟩
 subst exs
 obtain ⟨u,w',rfl,r1,r2⟩:=vals2 r
 have:=ry _ r2
 subst this
 cases va with
 | exn n h xo=>
  obtain ⟨g1,g2,g3⟩:=hf _ _ _ hb n
  cases (show u=Value.ref _ from r1)
  exact tZ g1 g2 I h xo g3 fun tk=>⟨.bl b,H,I.tok tk,rfl,q⟩
theorem A7 (hy:PE X (.Name y py) (tC vy)) (ry:∀ u,RelV vy u->u=cy) (hf:∀ x b C,f x=some b->s_ X.K x C->XCls X.K C/\(PySem.W.clsIn X.K C).isSome=true/\PySem.W.kitOne X.K (.ref C) cy=some b) (ha:AE X a c) (hm:X.mg "isinstance" = none) (hg:Gl X "isinstance" := by rfl)
  (he:starEach [a,.Name y py] X.env=(false,eval a X.env)::starEach [.Name y py] X.env:=by rfl) (he2:starEach [.Name y py] X.env=(false,eval (.Name y py) X.env)::starEach [] X.env:=by rfl) (hpl:(backTo pos (starEach [.Name y py] X.env)).any (·.1)=false:=by rfl) :
  AE X (.Call (.Name "isinstance" p) [a,.Name y py] [] pos) (kr f c):=
 PE.imp (sG (BJ ry hf) hg hm i_ (fM ha (fM hy kc he2) he) (by decide) (by decide) he hpl) fun σ H Q ⟨ρ,S,τ,R,r,h⟩=>by
  refine ⟨ρ,S,τ,R,r,au (aH h) .refl fun v S1 h1 ρ1 H1 x e1 R1 v1=>?_⟩
  cases v with
  | exn n=>
   obtain ⟨b,hb,h1⟩:=aG h1
   exact ⟨ρ1,S1,n,x,b,R1,rfl,v1,hb,h1 ρ1 H1 _ e1 R1 (.bl b)⟩
  | _=>exact h1.elim
end
structure ExcK (K:PySem.W.Frag) (U:Addr) (c:Str) (C:Addr):Prop where
 n:s_ K c C
 q:PySem.W.excIn K C zj "ValueError.__new__" = true
 r:L2.mroIn K C=some (.ref U::zj)
 x:XCls K C
 cl:(PySem.W.clsIn K C).isSome=true
 v:PySem.W.kitOne K (.ref C) (.type "ValueError")=some true
theorem n5:bootBuiltins "ValueError" = some (.type "ValueError"):=by decide +kernel
noncomputable def tH (tb:List (Str×Bool)):Str->Option Bool:=fun x=>tb.lookup x
theorem Fy {K:PySem.W.Frag} {cy:Value} {tb:List (Str×Bool)} (h:∀ p∈tb,∃ C,s_ K p.1 C/\XCls K C/\(PySem.W.clsIn K C).isSome=true/\PySem.W.kitOne K (.ref C) cy=some p.2):∀ x b C,tH tb x=some b->s_ K x C->XCls K C/\(PySem.W.clsIn K C).isSome=true/\PySem.W.kitOne K (.ref C) cy=some b:=fun x b C e n=>by
 obtain ⟨C',n',g⟩:=h (x,b) (PySem.mem_of_lookup e)
 have:C'=C:=by
  have z:=n'.symm.trans n
  injection z with z
  injection z with z
  injection z
 subst this
 exact g
section
variable {X:Cx} {pos p py:Pos} {a:Expr} {y:Str} {Cy:Addr} {tb:List (Str×Bool)} {c:Ex}
theorem g7 (hm:X.mg y=some (.ref Cy)) (h:∀ p∈tb,∃ C,s_ X.K p.1 C/\XCls X.K C/\(PySem.W.clsIn X.K C).isSome=true/\PySem.W.kitOne X.K (.ref C) (.ref Cy)=some p.2) (ha:AE X a c) (hi:X.mg "isinstance" = none) (hg:Gl X "isinstance" := by rfl) (hgy:Gl X y:=by rfl) (hdb:(y == ("__debug__" : Str))=false:=by decide)
  (he:starEach [a,.Name y py] X.env=(false,eval a X.env)::starEach [.Name y py] X.env:=by rfl) (he2:starEach [.Name y py] X.env=(false,eval (.Name y py) X.env)::starEach [] X.env:=by rfl) (hpl:(backTo pos (starEach [.Name y py] X.env)).any (·.1)=false:=by rfl) :
  AE X (.Call (.Name "isinstance" p) [a,.Name y py] [] pos) (kr (tH tb) c):=A7 (vy:=.ref Cy) (cy:=.ref Cy) (xN hgy hm rfl hdb) (fun u r=>r) (Fy h) ha hi hg he he2 hpl
theorem IC (hm:X.mg "ValueError" = none) (h:∀ p∈tb,∃ C,s_ X.K p.1 C/\XCls X.K C/\(PySem.W.clsIn X.K C).isSome=true/\PySem.W.kitOne X.K (.ref C) (.type "ValueError")=some p.2) (ha:AE X a c) (hi:X.mg "isinstance" = none) (hg:Gl X "isinstance" := by rfl) (hgy:Gl X "ValueError" := by rfl)
  (he:starEach [a,.Name "ValueError" py] X.env=(false,eval a X.env)::starEach [.Name "ValueError" py] X.env:=by rfl) (he2:starEach [.Name "ValueError" py] X.env=(false,eval (.Name "ValueError" py) X.env)::starEach [] X.env:=by rfl) (hpl:(backTo pos (starEach [.Name "ValueError" py] X.env)).any (·.1)=false:=by rfl) :
  AE X (.Call (.Name "isinstance" p) [a,.Name "ValueError" py] [] pos) (kr (tH tb) c):=A7 (vy:=.ty "ValueError") (cy:=.type "ValueError") (xg hgy hm n5 rfl (by decide) (by decide)) (fun u r=>r) (Fy h) ha hi hg he he2 hpl
end
section
variable {P:Program} {w:World} {K:PySem.W.Frag} {mg:Str->Option Value} {base:Heap}
end
noncomputable def KU (F:List A->aA->R A) (d:gp):Ex:=fun τ S=>match d τ S with
 | .ok as S1=>F as S1
 | _=>.no
section
variable {X:Cx} {pos p:Pos} {e:Expr} {es:List Expr} {x:Str} {ps:List Str} {k:Nat} {F:List A->aA->R A} {d:gp}
noncomputable def Kv (t:Te) (c d:Sm):Sm:=fun τ S=>match t τ S with
 | .ok true S1=>c τ S1
 | .ok false S1=>d τ S1
 | _=>.no
end
noncomputable def FZ (i:Nat) (cs:List Str) (c d:Sm):Sm:=fun τ S=>match c τ S with
 | .ex x S1=>if x∈cs then Df i (d (τ.set i (.exn x)) S1) else .no
 | r=>r
section
variable {X:Cx} {pos np hp:Pos} {y n:Str} {Dc:Addr} {i:Nat} {suite:List Stmt} {b b0:Stmt} {c d:Sm} {cs:List Str}
end
end Am
namespace L2
open PySem PySem.Spec PyProof.Rows
end L2
namespace Am
open PySem PySem.Spec PyProof.Rows L2
theorem yQ {K:PySem.W.Frag} {H:Hp} {a:Addr} {ns:List Int} {F:List A->aA->R A} (hO:Eu H) (hS:dQ K H a (ns.map V.int)) (h:∃ S',F [.frz (ns.map .int)] []=.ok (.bl true) S'):nS K 1 F [.ref a] H (fun v _=>v=.bl true) fun _ _ _=>False:=by
 obtain ⟨S',h⟩:=h
 have fz:Fz K H a (ns.map V.int):=by
  rcases hS with (h | ⟨o,h⟩) | h
  ·rcases hO a with z | ⟨ob,xs,z⟩
   ·rw [h] at z;cases z
   ·rw [h] at z;cases z
  ·exact .inl ⟨o,h⟩
  ·exact .inr h
 exact ⟨rfl,[],[],_,_,S',⟨rfl,List.nodup_nil,fun n a o h=>by simp at h⟩,.cons (.frz fz (fj ns)) .nil,h,fun ρ' H' v _ _ hv=>oN hv⟩
section
variable {P:Program} {w:World} {K:PySem.W.Frag} {mg:Str->Option Value} {base:Heap} {f:Addr} {fd:FuncData} {ps:List Str} {k n:Nat}
end
theorem GS {P:List Value->Prop} (h:∀ a0,P [a0]):∀ us:List Value,us.length=1->P us
 | [_],_=>h _
theorem Cm {P:List Value->Prop} (h:∀ a0 a1,P [a0,a1]):∀ us:List Value,us.length=2->P us
 | [_,_],_=>h _ _
theorem MX {P:List Value->Prop} (h:∀ a0 a1 a2,P [a0,a1,a2]):∀ us:List Value,us.length=3->P us
 | [_,_,_],_=>h _ _ _
theorem Ni {P:List Value->Prop} (h:∀ a0 a1 a2 a3 a4,P [a0,a1,a2,a3,a4]):∀ us:List Value,us.length=5->P us
 | [_,_,_,_,_],_=>h _ _ _ _ _
end Am
namespace Am
open PySem L2
section
variable {α β:Type} {a b:A} {S S1 S2:aA} {τ:List A} {x:α}
@[simp] theorem R.cB {f:α->aA->R β}:(R.ok x S).bind f=f x S:=rfl
@[simp] theorem R.uV {f:α->aA->R β} {c:Str}:(R.ex c S:R α).bind f=.ex c S:=rfl
@[simp] theorem R.cF {f:α->aA->R β}:(R.ok x S).cR f=f x S:=rfl
@[simp] theorem RS.of_ok {f:α->aA->RS}:RS.of (R.ok x S) f=f x S:=rfl
@[simp] theorem RS.Ga {f:α->aA->RS} {c:Str}:RS.of (R.ex c S:R α) f=.ex c S:=rfl
@[simp] theorem aZ {f:β->R α} {y:β}:opt (some y) f=f y:=rfl
@[simp] theorem vN {r:R α}:gd True r=r:=if_pos trivial
theorem cP {c:Prop} [Decidable c] {r:R α} (h:c):gd c r=r:=if_pos h
@[simp] theorem wO {i:Nat}:ah i τ S=bif (τ.getD i .unb).dP then .no else .ok (τ.getD i .unb) S:=by unfold ah;cases (τ.getD i .unb).dP <;> rfl
@[simp] theorem wk {xs:List A}:A.dP (.tup xs)=false:=rfl
@[simp] theorem xy {xs:List A}:A.dP (.frz xs)=false:=rfl
@[simp] theorem xX {i:Int}:A.dP (.int i)=false:=rfl
@[simp] theorem CF {i:Bool}:A.dP (.bl i)=false:=rfl
@[simp] theorem yc {i:Str}:A.dP (.str i)=false:=rfl
@[simp] theorem yf {i:Nat}:A.dP (.ref i)=false:=rfl
@[simp] theorem wY:A.dP .non=false:=rfl
@[simp] theorem vD {i j:Int}:A.dP (.rng i j)=false:=rfl
@[simp] theorem wo {c:Str}:A.dP (.exn c)=false:=rfl
@[simp] theorem E5:eC a τ S=.ok a S:=rfl
noncomputable def K2 (f:A->A->aA->R A) (cb:Ex) (τ:List A) (a:A) (S:aA):R A:=(cb τ S).bind (f a)
@[simp] theorem wF {f:A->A->aA->R A} {cb:Ex}:K2 f cb τ a S=(cb τ S).bind (f a):=rfl
@[simp] theorem xQ {f:A->A->aA->R A} {ca cb:Ex}:aK f ca cb τ S=(ca τ S).bind (K2 f cb τ):=rfl
@[simp] theorem CH {f:A->aA->R A} {ca:Ex}:Ml f ca τ S=(ca τ S).bind f:=rfl
@[simp] theorem xh {c:Ex}:jo c τ S=(c τ S).bind fun a S1=>opt (a.Iu S1) fun b=>.ok b S1:=rfl
noncomputable def aB (a:A) (S:aA):R Bool:=match a with
 | .bl b=>.ok b S
 | _=>.no
@[simp] theorem Gh {b:Bool}:aB (.bl b) S=.ok b S:=rfl
@[simp] theorem Al {c:Ex}:jw c τ S=(c τ S).bind aB:=rfl
@[simp] theorem xZ {c:Te}:Ak c τ S=(c τ S).bind fun b S1=>.ok (!b) S1:=rfl
noncomputable def HM (d:Te) (τ:List A) (b:Bool) (S:aA):R Bool:=match b with | true=>d τ S | false=>.ok false S
noncomputable def LL (d:Te) (τ:List A) (b:Bool) (S:aA):R Bool:=match b with | true=>.ok true S | false=>d τ S
@[simp] theorem Aq {d:Te}:HM d τ true S=d τ S:=rfl
@[simp] theorem B4 {d:Te}:HM d τ false S=.ok false S:=rfl
@[simp] theorem E7 {d:Te}:LL d τ true S=.ok true S:=rfl
@[simp] theorem Gx {d:Te}:LL d τ false S=d τ S:=rfl
@[simp] theorem x_ {c d:Te}:Mx c d τ S=(c τ S).bind (HM d τ):=rfl
@[simp] theorem BE {c d:Te}:Gq c d τ S=(c τ S).bind (LL d τ):=rfl
@[simp] theorem u7:ql τ S=.ok true S:=rfl
noncomputable def Cf (d:Ex) (τ:List A) (a:A) (S:aA):R A:=match a with | .bl true=>d τ S | .bl false=>.ok (.bl false) S | _=>.no
noncomputable def HN (d:Ex) (τ:List A) (a:A) (S:aA):R A:=match a with | .bl true=>.ok (.bl true) S | .bl false=>d τ S | _=>.no
@[simp] theorem vn {d:Ex}:Cf d τ (.bl true) S=d τ S:=rfl
@[simp] theorem vF {d:Ex}:Cf d τ (.bl false) S=.ok (.bl false) S:=rfl
@[simp] theorem Ca {d:Ex}:HN d τ (.bl true) S=.ok (.bl true) S:=rfl
@[simp] theorem CC {d:Ex}:HN d τ (.bl false) S=d τ S:=rfl
@[simp] theorem vQ {c d:Ex}:DL c d τ S=(c τ S).bind (Cf d τ):=by
 unfold DL
 cases c τ S with
 | ok a S1=>cases a <;> first | rfl | (rename_i b;cases b <;> rfl)
 | _=>rfl
@[simp] theorem CN {c d:Ex}:Lf c d τ S=(c τ S).bind (HN d τ):=by
 unfold Lf
 cases c τ S with
 | ok a S1=>cases a <;> first | rfl | (rename_i b;cases b <;> rfl)
 | _=>rfl
noncomputable def Gs (a:A) (S:aA):R A:=match a with | .bl b=>.ok (.bl !b) S | _=>.no
@[simp] theorem sJ {b:Bool}:Gs (.bl b) S=.ok (.bl !b) S:=rfl
@[simp] theorem uY {c:Ex}:GZ c τ S=(c τ S).bind Gs:=rfl
noncomputable def Iw (c d:Ex) (τ:List A) (b:Bool) (S:aA):R A:=match b with | true=>c τ S | false=>d τ S
@[simp] theorem Ac {c d:Ex}:Iw c d τ true S=c τ S:=rfl
@[simp] theorem zB {c d:Ex}:Iw c d τ false S=d τ S:=rfl
@[simp] theorem AB {t:Te} {c d:Ex}:NB t c d τ S=(t τ S).bind (Iw c d τ):=rfl
@[simp] theorem vL:aM τ S=.ok [] S:=rfl
noncomputable def uz (a:A) (as:List A) (S:aA):R (List A):=.ok (a::as) S
noncomputable def Fq (d:gp) (τ:List A) (a:A) (S:aA):R (List A):=(d τ S).bind (uz a)
@[simp] theorem o_ {as:List A}:uz a as S=.ok (a::as) S:=rfl
@[simp] theorem rK {d:gp}:Fq d τ a S=(d τ S).bind (uz a):=rfl
@[simp] theorem sj {c:Ex} {d:gp}:aj c d τ S=(c τ S).bind (Fq d τ):=rfl
@[simp] theorem xU {d:gp}:iQ d τ S=(d τ S).bind fun as S1=>gd (as.length<=sizeLine) (.ok (.tup as) S1):=rfl
@[simp] theorem ve {d:gp}:jx d τ S=(d τ S).bind newL:=rfl
theorem bN {as:List A} (h:as.length<=16777216):newL as S=.ok (.ref S.length) (S++[.lst as]):=cP (by rw [sizeLine_eq];exact h)
@[simp] theorem sS {f:List A->aA->R A} {d:gp}:aV f d τ S=(d τ S).bind f:=rfl
noncomputable def ME (r:R A):R A:=match r with
 | .ok a S=>.ok a S
 | _=>.no
@[simp] theorem CO:ME (.ok a S)=.ok a S:=rfl
noncomputable def M6 (f:List A->aA->R A) (as:List A) (S:aA):R A:=ME (f as S)
@[simp] theorem B7 {f:List A->aA->R A} {as:List A}:M6 f as S=ME (f as S):=rfl
@[simp] theorem CW {f:List A->aA->R A} {d:gp}:eFn f d τ S=(d τ S).bind (M6 f):=rfl
@[simp] theorem Gr {g:A->aA->R A}:f1 g [a] S=g a S:=rfl
@[simp] theorem FI {g:A->A->aA->R A}:f2 g [a,b] S=g a b S:=rfl
noncomputable def IB (h:Pt) (τ:List A) (a:A) (l:Option Int) (S:aA):R A:=(h τ S).bind (Jy a l)
noncomputable def Nf (l h:Pt) (τ:List A) (a:A) (S:aA):R A:=(l τ S).bind (IB h τ a)
@[simp] theorem xm {h:Pt} {l:Option Int}:IB h τ a l S=(h τ S).bind (Jy a l):=rfl
@[simp] theorem A1 {l h:Pt}:Nf l h τ a S=(l τ S).bind (IB h τ a):=rfl
@[simp] theorem BP {c:Ex} {l h:Pt}:Jq c l h τ S=(c τ S).bind (Nf l h τ):=rfl
@[simp] theorem r6:rq τ S=.ok none S:=rfl
noncomputable def M4 (a:A) (S:aA):R (Option Int):=match a with
 | .int i=>.ok (some i) S
 | _=>.no
@[simp] theorem vO {i:Int}:M4 (.int i) S=.ok (some i) S:=rfl
@[simp] theorem sF {c:Ex}:jB c τ S=(c τ S).bind M4:=rfl
noncomputable def Hz (f:A->List A->aA->R A) (d:gp) (τ:List A) (o:A) (S:aA) (_:List A):R A:=(d τ S).bind (f o)
noncomputable def MP (f:A->List A->aA->R A) (d:gp) (τ:List A) (o:A) (S:aA):R A:=opt (o.lst? S) (Hz f d τ o S)
@[simp] theorem wC {f:A->List A->aA->R A} {d:gp} {xs:List A}:Hz f d τ a S xs=(d τ S).bind (f a):=rfl
@[simp] theorem BW {f:A->List A->aA->R A} {d:gp}:MP f d τ a S=opt (a.lst? S) (Hz f d τ a S):=rfl
@[simp] theorem Ba {f:A->List A->aA->R A} {c:Ex} {d:gp}:Jx f c d τ S=(c τ S).bind (MP f d τ):=rfl
@[simp] theorem vZ {f:A->List A->aA->R A} {c:Ex}:Ho f c τ S=(c τ S).bind fun o S1=>opt (o.lst? S1) fun _=>f o [] S1:=rfl
@[simp] theorem lst?_ref {n:Nat}:A.lst? S (.ref n)=ak S n:=rfl
noncomputable def RS.seq (r:RS) (d:Sm):RS:=match r with
 | .nx τ S=>d τ S
 | r=>r
@[simp] theorem RS.t_ {d:Sm}:RS.seq (.nx τ S) d=d τ S:=rfl
@[simp] theorem RS.Ax {d:Sm}:RS.seq (.rt a S) d=.rt a S:=rfl
@[simp] theorem RS.Be {d:Sm} {c:Str}:RS.seq (.ex c S) d=.ex c S:=rfl
@[simp] theorem RS.AN {d:Sm}:RS.seq (.bk τ S) d=.bk τ S:=rfl
@[simp] theorem RS.Ci {d:Sm}:RS.seq (.ct τ S) d=.ct τ S:=rfl
@[simp] theorem vY {c d:Sm}:bA c d τ S=RS.seq (c τ S) d:=by unfold bA RS.seq;cases c τ S <;> rfl
@[simp] theorem wV:gH τ S=.nx τ S:=rfl
@[simp] theorem oG:I_ τ S=.bk τ S:=rfl
@[simp] theorem rP:JP τ S=.ct τ S:=rfl
@[simp] theorem rA {e:Ex}:kN e τ S=RS.of (e τ S) fun _ S1=>.nx τ S1:=rfl
@[simp] theorem yd {e:Ex}:cQ e τ S=RS.of (e τ S) .rt:=rfl
@[simp] theorem qX:BI τ S=.rt .non S:=rfl
noncomputable def Lo (c d:Sm) (τ:List A) (b:Bool) (S:aA):RS:=match b with | true=>c τ S | false=>d τ S
@[simp] theorem F0 {c d:Sm}:Lo c d τ true S=c τ S:=rfl
@[simp] theorem Fd {c d:Sm}:Lo c d τ false S=d τ S:=rfl
@[simp] theorem AY {t:Te} {c d:Sm}:qd t c d τ S=RS.of (t τ S) (Lo c d τ):=rfl
noncomputable def Kq (g:Tg) (τ:List A) (a:A) (S:aA):RS:=RS.of (g a τ S) .nx
@[simp] theorem xE {g:Tg}:Kq g τ a S=RS.of (g a τ S) .nx:=rfl
@[simp] theorem w_ {e:Ex} {g:Tg}:bY e g τ S=RS.of (e τ S) (Kq g τ):=rfl
@[simp] theorem zQ {i:Nat}:bR i a τ S=.ok (τ.set i a) S:=rfl
noncomputable def Ik (a o:A) (τ:List A) (i:A) (S:aA):R (List A):=(sC o i a S).bind fun _ S3=>.ok τ S3
noncomputable def Nc (ci:Ex) (τ:List A) (a o:A) (S:aA):R (List A):=(ci τ S).bind (Ik a o τ)
@[simp] theorem wA {o i:A}:Ik a o τ i S=(sC o i a S).bind fun _ S3=>.ok τ S3:=rfl
@[simp] theorem An {ci:Ex} {o:A}:Nc ci τ a o S=(ci τ S).bind (Ik a o τ):=rfl
@[simp] theorem Bm {co ci:Ex}:Gm co ci a τ S=(co τ S).bind (Nc ci τ a):=rfl
@[simp] theorem z8 {n:Nat} {gs:Dg} {xs:List A}:p7 n gs (.tup xs) τ S=gd (xs.length=n) (gs xs τ S):=rfl
@[simp] theorem Cg:qu [] τ S=.ok τ S:=rfl
@[simp] theorem AX {g:Tg} {gs:Dg} {as:List A}:gW g gs (a::as) τ S=(g a τ S).bind (gs as):=rfl
noncomputable def MZ (i j:Nat) (τ:List A) (as:List A) (S:aA):RS:=match as with
 | [a,b]=>.nx ((τ.set i a).set j b) S
 | _=>.no
@[simp] theorem AZ {i j:Nat}:MZ i j τ [a,b] S=.nx ((τ.set i a).set j b) S:=rfl
@[simp] theorem uW {i j:Nat} {c:gp}:Ly i j c τ S=RS.of (c τ S) (MZ i j τ):=rfl
noncomputable def zH (i:Nat) (τ:List A) (c:A) (S:aA):RS:=.nx (τ.set i c) S
noncomputable def K1 (i:Nat) (f:A->A->aA->R A) (τ:List A) (b:A) (S:aA):RS:=.of (f (τ.getD i .unb) b S) (zH i τ)
@[simp] theorem rz {i:Nat}:zH i τ a S=.nx (τ.set i a) S:=rfl
@[simp] theorem wG {i:Nat} {f:A->A->aA->R A}:K1 i f τ a S=.of (f (τ.getD i .unb) a S) (zH i τ):=rfl
@[simp] theorem wW {i:Nat} {f:A->A->aA->R A} {e:Ex}:CQ i f e τ S=bif (τ.getD i .unb).dP then .no else .of (e τ S) (K1 i f τ):=by
 unfold CQ;cases (τ.getD i .unb).dP <;> rfl
noncomputable def MK (o i:A) (τ:List A) (z:A) (S:aA):RS:=.of (sC o i z S) fun _ S6=>.nx τ S6
noncomputable def LC (f:A->A->aA->R A) (o i x:A) (τ:List A) (y:A) (S:aA):RS:=.of (f x y S) (MK o i τ)
noncomputable def L3 (ce:Ex) (f:A->A->aA->R A) (o i:A) (τ:List A) (x:A) (S:aA):RS:=.of (ce τ S) (LC f o i x τ)
noncomputable def Mm (ce:Ex) (f:A->A->aA->R A) (o:A) (τ:List A) (i:A) (S:aA):RS:=.of (C_ o i S) (L3 ce f o i τ)
noncomputable def M_ (ci ce:Ex) (f:A->A->aA->R A) (τ:List A) (o:A) (S:aA):RS:=.of (ci τ S) (Mm ce f o τ)
@[simp] theorem AM {o i:A}:MK o i τ a S=.of (sC o i a S) fun _ S6=>.nx τ S6:=rfl
@[simp] theorem zu {f:A->A->aA->R A} {o i x:A}:LC f o i x τ a S=.of (f x a S) (MK o i τ):=rfl
@[simp] theorem CK {ce:Ex} {f:A->A->aA->R A} {o i:A}:L3 ce f o i τ a S=.of (ce τ S) (LC f o i a τ):=rfl
@[simp] theorem Co {ce:Ex} {f:A->A->aA->R A} {o:A}:Mm ce f o τ a S=.of (C_ o a S) (L3 ce f o a τ):=rfl
@[simp] theorem A_ {ci ce:Ex} {f:A->A->aA->R A}:M_ ci ce f τ a S=.of (ci τ S) (Mm ce f a τ):=rfl
@[simp] theorem sR {co ci ce:Ex} {f:A->A->aA->R A}:nL co ci ce f τ S=RS.of (co τ S) (M_ ci ce f τ):=rfl
noncomputable def RS.end (r:RS):R A:=match r with
 | .rt a S'=>.ok a S'
 | .nx _ S'=>.ok .non S'
 | .ex c S'=>.ex c S'
 | _=>.no
@[simp] theorem RS.z7:RS.end (.rt a S)=.ok a S:=rfl
@[simp] theorem RS.C2:RS.end (.nx τ S)=.ok .non S:=rfl
@[simp] theorem RS.zN {c:Str}:RS.end (.ex c S)=.ex c S:=rfl
theorem kW {N:List Str} {m:Sm} {as:List A}:dS N m as S=RS.end (m (as++List.replicate (N.length - as.length) .unb) S):=by
 unfold dS RS.end;cases m (as++List.replicate (N.length - as.length) .unb) S <;> rfl
@[simp] theorem Ah {i j:Int}:dc (.int i) (.int j) S=.ok (.int (i+j)) S:=rfl
@[simp] theorem Dd {i j:Int}:aSub (.int i) (.int j) S=.ok (.int (i - j)) S:=rfl
@[simp] theorem Bx {i j:Int}:yZ (.int i) (.int j) S=.ok (.int (i+j)) S:=rfl
theorem vR {i j:Int} (h:-18446744073709551616 < i) (h':i < 18446744073709551616):gQ (.int i) (.int j) S=.ok (.int (i * j)) S:=cP (by unfold sq;simp;left;exact ⟨by omega,by omega⟩)
theorem mul_r {i j:Int} (h:-18446744073709551616 < j) (h':j < 18446744073709551616):gQ (.int i) (.int j) S=.ok (.int (i * j)) S:=cP (by unfold sq;simp;right;exact ⟨by omega,by omega⟩)
theorem uq {i j:Int} (h:0 < j) (h':j < 1073741824):sA (.int i) (.int j) S=.ok (.int (i / j)) S:=cP ⟨h,by omega⟩
theorem pG {i j:Int} (h:0 < j):kQ (.int i) (.int j) S=.ok (.int (i % j)) S:=cP h
@[simp] theorem Gg {i j:Int}:zh (.int i) (.int j) S=.ok (.bl (decide (i < j))) S:=rfl
@[simp] theorem F_ {i j:Int}:Lr (.int i) (.int j) S=.ok (.bl (decide (i<=j))) S:=rfl
@[simp] theorem E9 {i j:Int}:sY (.int i) (.int j) S=.ok (.bl (decide (j < i))) S:=rfl
@[simp] theorem FN {i j:Int}:Lm (.int i) (.int j) S=.ok (.bl (decide (j<=i))) S:=rfl
@[simp] theorem Gu {i j:Bool}:Dh false (.bl i) (.bl j) S=.ok (.bl (i == j)) S:=rfl
@[simp] theorem zU {i j:Bool}:Dh true (.bl i) (.bl j) S=.ok (.bl (i != j)) S:=rfl
@[simp] theorem AF {i:Int}:MF (.int i) S=.ok (.int (-i)) S:=rfl
@[simp] theorem B9 {xs:List A}:dm (.tup xs) S=.ok (.int xs.length) S:=rfl
@[simp] theorem Ae {xs:List A}:dm (.frz xs) S=.ok (.int xs.length) S:=rfl
@[simp] theorem Bs {n:Nat}:dm (.ref n) S=opt (ak S n) fun xs=>.ok (.int xs.length) S:=rfl
@[simp] theorem Cr {i:Int}:Jd (.int i) S=.ok (.int (if i < 0 then -i else i)) S:=rfl
@[simp] theorem xB {i j:Int}:xC (.int i) (.int j) S=.ok (.int (if j > i then j else i)) S:=rfl
@[simp] theorem u5 {i j:Int}:xV (.int i) (.int j) S=.ok (.int (if j < i then j else i)) S:=rfl
@[simp] theorem xJ {i:Int}:pq (.int i) S=.ok (.int i) S:=rfl
@[simp] theorem vX {i:Bool}:pq (.bl i) S=.ok (.int (if i then 1 else 0)) S:=rfl
@[simp] theorem o7 {i j:Int}:lK (.int i) (.int j) S=.ok (.rng i j) S:=rfl
@[simp] theorem FE {xs:List A} {i:Int}:fQ (.tup xs) (.int i) S=opt (fG xs i) fun x=>.ok x S:=rfl
@[simp] theorem FP {xs:List A} {i:Int}:fQ (.frz xs) (.int i) S=opt (fG xs i) fun x=>.ok x S:=rfl
@[simp] theorem E6 {n:Nat} {i:Int}:fQ (.ref n) (.int i) S=opt (ak S n) fun xs=>opt (fG xs i) fun x=>.ok x S:=rfl
@[simp] theorem BZ {n:Nat} {k:Int}:sC (.ref n) (.int k) a S=opt (ak S n) fun xs=>opt (qt xs.length k) fun j=>.ok () (S.set n (.lst (xs.set j a))):=rfl
@[simp] theorem zl {n:Nat} {i:Int}:C_ (.ref n) (.int i) S=opt (ak S n) fun xs=>gd (0<=i) (opt (xs[i.toNat]?) fun x=>.ok x S):=rfl
theorem oQ {i j:Int} (h:pC i j):kL (.rng i j) S=.ok (.ref S.length) (S++[.lst ((bg i j).map .int)]):=cP h
@[simp] theorem vV {xs:List A}:kL (.tup xs) S=.ok (.ref S.length) (S++[.lst xs]):=rfl
@[simp] theorem v8 {xs:List A}:kL (.frz xs) S=.ok (.ref S.length) (S++[.lst xs]):=rfl
@[simp] theorem we {n:Nat}:kL (.ref n) S=opt (ak S n) fun xs=>.ok (.ref S.length) (S++[.lst xs]):=rfl
@[simp] theorem sQ {xs:List A}:gY (.tup xs) S=.ok (.tup xs) S:=rfl
@[simp] theorem rf {n:Nat}:gY (.ref n) S=opt (ak S n) fun xs=>.ok (.tup xs) S:=rfl
@[simp] theorem BL {xs:List A}:BR (.tup xs) S=.ok (.tup xs.reverse) S:=rfl
@[simp] theorem CI {n:Nat}:BR (.ref n) S=opt (ak S n) fun xs=>.ok (.ref S.length) (S++[.lst xs.reverse]):=rfl
@[simp] theorem FF {n:Nat} {l u:Option Int}:Jy (.ref n) l u S=opt (ak S n) fun xs=>.ok (.ref S.length) (S++[.lst (gD xs l u)]):=rfl
@[simp] theorem nt {n:Nat}:lE (.ref n) [a] S=opt (ak S n) fun xs=>gd (xs.length < sizeLine) (.ok .non (S.set n (.lst (xs++[a])))):=rfl
@[simp] theorem CU {b:Bool}:A.Iu (.bl b) S=some b:=rfl
@[simp] theorem xT {i:Int}:A.Iu (.int i) S=some (i != 0):=rfl
theorem Ht {o:O}:(S++[o])[S.length]?=some o:=by simp
@[simp] theorem aU {xs:List A}:ak (S++[.lst xs]) S.length=some xs:=jM Ht
theorem cV {o:O} {n:Nat} {xs:List A} (h:ak S n=some xs):ak (S++[o]) n=some xs:=by
 have h':=aO h
 exact jM (by rw [List.getElem?_append_left (List.getElem?_eq_some_iff.mp h').1];exact h')
theorem fE {n:Nat} {xs:List A} (h:ak S n=some xs):n < S.length:=(List.getElem?_eq_some_iff.mp (aO h)).1
theorem dI {n:Nat} {ys:List A} (h:n < S.length):ak (S.set n (.lst ys)) n=some ys:=jM (List.getElem?_set_self h)
theorem fq {n m:Nat} {ys:List A} (h:n≠m):ak (S.set n (.lst ys)) m=ak S m:=by unfold ak;rw [List.getElem?_set_ne h]
theorem tY {xs:List A} {i:Int} {k:Nat} {x:A} (h:i=k) (hx:xs[k]?=some x):fG xs i=some x:=by rw [h];exact Dq hx
theorem jq {n:Nat} {i:Int} {k:Nat} (h:i=k) (hk:k < n):qt n i=some k:=by
 subst h
 unfold qt
 rw [if_pos (by omega),if_pos (by omega)]
 simp
end
structure Kp (b:Nat->Prop) (S S':aA):Prop where
 len:S.length<=S'.length
 obj:∀ (n:Nat) (o:O),¬ b n->S[n]?=some o->S'[n]?=some o
noncomputable abbrev gb:=Kp fun _=>False
theorem Kp.lst {b:Nat->Prop} {S S':aA} (h:Kp b S S') (n:Nat) (xs:List A) (hb:¬ b n) (e:ak S n=some xs):ak S' n=some xs:=jM (h.obj n _ hb (aO e))
theorem Kp.dct {b:Nat->Prop} {S S':aA} (h:Kp b S S') (n:Nat) (xs:List (List Int×A)) (hb:¬ b n) (e:bG S n=some xs):bG S' n=some xs:=jN (h.obj n _ hb (fu e))
theorem Kp.refl {b:Nat->Prop} {S:aA}:Kp b S S:=⟨Nat.le_refl _,fun _ _ _ h=>h⟩
theorem Kp.trans {b:Nat->Prop} {S S1 S2:aA} (h:Kp b S S1) (h':Kp b S1 S2):Kp b S S2:=⟨Nat.le_trans h.len h'.len,fun n xs hb e=>h'.obj n xs hb (h.obj n xs hb e)⟩
theorem ug {S:aA} {n:Nat} {o:O} (e:S[n]?=some o):n < S.length:=(List.getElem?_eq_some_iff.mp e).1
theorem Kp.lay {b:Nat->Prop} {S S1:aA} {o:O} (h:Kp b S S1):Kp b S (S1++[o]):=⟨Nat.le_trans h.len (by simp),fun n xs hb e=>by
 have:=h.obj n xs hb e
 rw [List.getElem?_append_left (ug this)];exact this⟩
theorem Kp.IK {b:Nat->Prop} {S S1:aA} {m:Nat} {o:O} (h:Kp b S S1) (hm:b m\/S.length<=m):Kp b S (S1.set m o):=⟨by rw [List.length_set];exact h.len,fun n xs hb e=>by
 have:m≠n:=fun z=>by
  subst z
  rcases hm with z | z
  ·exact hb z
  ·exact absurd (ug e) (by omega)
 rw [List.getElem?_set_ne this]
 exact h.obj n xs hb e⟩
theorem Kp.set {b:Nat->Prop} {S S1:aA} {m:Nat} {ys:List A} (h:Kp b S S1) (hm:b m\/S.length<=m):Kp b S (S1.set m (.lst ys)):=h.IK hm
theorem Kp.old {b c:Nat->Prop} {S S1 S2:aA} (h:Kp b S S1) (h':Kp c S1 S2) (hc:∀ n,n < S.length->¬ b n->¬ c n):Kp b S S2:=⟨Nat.le_trans h.len h'.len,fun n xs hb e=>h'.obj n xs (hc n (ug e) hb) (h.obj n xs hb e)⟩
theorem ig {t:Te} {c:Sm} (Inv:List A->aA->Prop) (μ:List A->aA->Nat) (Post:RS->Prop)
  (h:∀ τ S,Inv τ S->(∃ S1,t τ S=.ok false S1/\Post (.nx τ S1))\/(∃ S1,t τ S=.ok true S1/\((∃ τ' S',c τ S1=.nx τ' S'/\Inv τ' S'/\μ τ' S' < μ τ S)\/(∃ a S',c τ S1=.rt a S'/\Post (.rt a S'))))) :
  ∀ n τ S,Inv τ S->μ τ S < n->Post (dg t c n τ S)
 | 0,_,_,_,hn=>absurd hn (Nat.not_lt_zero _)
 | n+1,τ,S,hi,hn=>by
  unfold dg
  rcases h τ S hi with ⟨S1,e,q⟩ | ⟨S1,e,⟨τ',S',e2,hi',hm⟩ | ⟨a,S',e2,q⟩⟩
  ·rw [e];exact q
  ·rw [e]
   show Post (match c τ S1 with
    | .nx τ' S'=>dg t c n τ' S'
    | .ct τ' S'=>dg t c n τ' S'
    | .bk τ' S'=>.nx τ' S'
    | r=>r)
   rw [e2]
   exact ig Inv μ Post h n τ' S' hi' (by omega)
  ·rw [e]
   show Post (match c τ S1 with
    | .nx τ' S'=>dg t c n τ' S'
    | .ct τ' S'=>dg t c n τ' S'
    | .bk τ' S'=>.nx τ' S'
    | r=>r)
   rw [e2]
   exact q
theorem uy {s:Src} {g:Tg} {c:Sm} (Inv:Nat->List A->aA->Prop) (Post:RS->Prop)
  (step:∀ i τ S,i < s.k->Inv i τ S->∃ x τ1 S1,s.get i S=some x/\g x τ S=.ok τ1 S1/\((∃ τ' S',c τ1 S1=.nx τ' S'/\Inv (i+1) τ' S')\/(∃ a S',c τ1 S1=.rt a S'/\Post (.rt a S'))))
  (fin:∀ τ S,Inv s.k τ S->s.fin S=true/\Post (.nx τ S)):∀ k i τ S,k+i=s.k->Inv i τ S->Post (fJ s g c k i τ S)
 | 0,i,τ,S,hk,hi=>by
  have:i=s.k:=by omega
  subst this
  obtain ⟨hf,q⟩:=fin τ S hi
  unfold fJ
  rw [if_pos hf]
  exact q
 | k+1,i,τ,S,hk,hi=>by
  obtain ⟨x,τ1,S1,hx,hg,h⟩:=step i τ S (by omega) hi
  unfold fJ
  rw [hx]
  show Post (RS.of (g x τ S) fun τ1 S1=>match c τ1 S1 with
   | .nx τ' S'=>fJ s g c k (i+1) τ' S'
   | .ct τ' S'=>fJ s g c k (i+1) τ' S'
   | .bk τ' S'=>.nx τ' S'
   | r=>r)
  rw [hg]
  show Post (match c τ1 S1 with
   | .nx τ' S'=>fJ s g c k (i+1) τ' S'
   | .ct τ' S'=>fJ s g c k (i+1) τ' S'
   | .bk τ' S'=>.nx τ' S'
   | r=>r)
  rcases h with ⟨τ',S',e,hi'⟩ | ⟨a,S',e,q⟩
  ·rw [e];exact uy Inv Post step fin k (i+1) τ' S' (by omega) hi'
  ·rw [e];exact q
theorem jy {lo hi:Int} {j:Nat} {c:Sm} {src:Ic} {τ:List A} {S S1:aA} (hs:src τ S=.ok (cD lo hi) S1) (Inv:Nat->List A->aA->Prop) (Post:RS->Prop) (h0:Inv 0 τ S1)
  (step:∀ (i:Nat) τ S,(i:Int) < hi - lo->Inv i τ S->(∃ τ' S',c (τ.set j (.int (lo+i))) S=.nx τ' S'/\Inv (i+1) τ' S')\/(∃ a S',c (τ.set j (.int (lo+i))) S=.rt a S'/\Post (.rt a S')))
  (fin:∀ τ S,Inv (hi - lo).toNat τ S->Post (.nx τ S)):Post (jh src (bR j) c τ S):=by
 unfold jh
 rw [hs]
 refine uy (s:=cD lo hi) Inv Post (fun i τ S hi' h=>?_) (fun τ S h=>⟨rfl,fin τ S h⟩) _ 0 τ S1 rfl h0
 have hi':i < (hi - lo).toNat:=hi'
 exact ⟨.int (lo+i),_,S,if_pos hi',rfl,step i τ S (by omega) h⟩
theorem DC {n:Nat} {xs:List A} {g:Tg} {c:Sm} {src:Ic} {τ:List A} {S S1:aA} (hs:src τ S=.ok (dY n xs.length) S1) (Inv:Nat->List A->aA->Prop) (Post:RS->Prop) (h0:Inv 0 τ S1) (hl:∀ i τ S,Inv i τ S->ak S n=some xs)
  (step:∀ (i:Nat) x τ S,xs[i]?=some x->Inv i τ S->∃ τ1 S1,g x τ S=.ok τ1 S1/\((∃ τ' S',c τ1 S1=.nx τ' S'/\Inv (i+1) τ' S')\/(∃ a S',c τ1 S1=.rt a S'/\Post (.rt a S'))))
  (fin:∀ τ S,Inv xs.length τ S->Post (.nx τ S)):Post (jh src g c τ S):=by
 unfold jh
 rw [hs]
 refine uy (s:=dY n xs.length) Inv Post (fun i τ S hi' h=>?_) (fun τ S h=>⟨?_,fin τ S h⟩) _ 0 τ S1 rfl h0
 ·have hi':i < xs.length:=hi'
  obtain ⟨τ1,S1,e,q⟩:=step i xs[i] τ S (List.getElem?_eq_getElem hi') h
  exact ⟨xs[i],τ1,S1,by show (ak S n).bind _=_;rw [hl i τ S h];exact List.getElem?_eq_getElem hi',e,q⟩
 ·show (match ak S n with
   | some ys=>decide (ys.length<=xs.length)
   | none=>false)=true
  rw [hl _ τ S h]
  exact decide_eq_true (Nat.le_refl _)
@[simp] theorem gc {c:Ex} {τ:List A} {S S1:aA} {j:Int} (h:c τ S=.ok (.int j) S1) (hb:bnd j):ir c τ S=.ok (cD 0 j) S1:=by
 unfold ir;rw [h];exact cP hb
theorem nR {c d:Ex} {τ:List A} {S S1 S2:aA} {i j:Int} (h:c τ S=.ok (.int i) S1) (h':d τ S1=.ok (.int j) S2) (hb:bnd i) (hb':bnd j):gS c d τ S=.ok (cD i j) S2:=by
 unfold gS;rw [h];show (d τ S1).bind _=_;rw [h'];exact cP ⟨hb,hb'⟩
theorem Ir {c:Ex} {τ:List A} {S S1:aA} {xs:List A} (h:c τ S=.ok (.tup xs) S1):jP c τ S=.ok (dX xs) S1:=by unfold jP;rw [h];rfl
theorem qv {c:Ex} {τ:List A} {S S1:aA} {n:Nat} {xs:List A} (h:c τ S=.ok (.ref n) S1) (hl:ak S1 n=some xs):jP c τ S=.ok (dY n xs.length) S1:=by
 unfold jP;rw [h];show opt (ak S1 n) _=_;rw [hl];rfl
theorem gI {s:Src} {g:Tg} {t:Te} {e:Ex} {P:aA->Prop} {T:List A->Prop} (it:Nat->A) (p:Nat->Bool) (f:Nat->A)
  (hget:∀ i S,i < s.k->P S->s.get i S=some (it i)) (hfin:∀ S,P S->s.fin S=true)
  (step:∀ i τ S,i < s.k->T τ->P S->∃ τ1 S1 S2,g (it i) τ S=.ok τ1 S1/\t τ1 S1=.ok (p i) S2/\T τ1/\(p i=false->P S2)/\(p i=true->∃ S3,e τ1 S2=.ok (f i) S3/\P S3)) :
  ∀ k i τ S,k+i=s.k->T τ->P S->∃ S',dN s g t e k i τ S=.ok (((List.range' i k).filter p).map f) S'/\P S'
 | 0,i,τ,S,hk,hT,hP=>⟨S,by unfold dN;rw [if_pos (hfin S hP)];rfl,hP⟩
 | k+1,i,τ,S,hk,hT,hP=>by
  obtain ⟨τ1,S1,S2,hg,ht,hT1,hF,hTr⟩:=step i τ S (by omega) hT hP
  unfold dN
  rw [hget i S (by omega) hP,aZ,hg,R.cF,ht,R.cF,List.range'_succ,List.filter_cons]
  cases hp:p i with
  | false=>
   obtain ⟨S',h1,h2⟩:=gI it p f hget hfin step k (i+1) τ1 S2 (by omega) hT1 (hF hp)
   exact ⟨S',by simpa using h1,h2⟩
  | true=>
   obtain ⟨S3,he,hP3⟩:=hTr hp
   obtain ⟨S',h1,h2⟩:=gI it p f hget hfin step k (i+1) τ1 S3 (by omega) hT1 hP3
   refine ⟨S',?_,h2⟩
   show (e τ1 S2).cR _=_
   rw [he,R.cF,h1]
   rfl
theorem oz {s:Src} {cap:List (Option Nat)} {src:Ic} {t:Te} {e:Ex} {τ:List A} {S S1:aA} (hs:src τ S=.ok s S1) (it:Nat->A) (p:Nat->Bool) (f:Nat->A) (hget:∀ i,i < s.k->s.get i S1=some (it i)) (hfin:s.fin S1=true)
  (ht:∀ i,i < s.k->t (it i::eB cap τ) S1=.ok (p i) S1) (he:∀ i,i < s.k->p i=true->e (it i::eB cap τ) S1=.ok (f i) S1) (hl:s.k<=16777216) :
  cU (none::cap) src (bR 0) t e τ S=.ok (.ref S1.length) (S1++[.lst (((List.range s.k).filter p).map f)]):=by
 unfold cU
 rw [hs,R.cB]
 obtain ⟨S',h1,h2⟩:=gI (s:=s) (g:=bR 0) (t:=t) (e:=e) (P:=fun S=>S=S1) (T:=fun τ'=>∃ y,τ'=y::eB cap τ) it p f (fun i S hi h=>by subst h;exact hget i hi) (fun S h=>by subst h;exact hfin)
  (fun i τ' S hi ⟨y,hy⟩ h=>by
   subst h hy
   exact ⟨it i::eB cap τ,S,S,rfl,ht i hi,⟨_,rfl⟩,fun _=>rfl,fun hp=>⟨S,he i hi hp,rfl⟩⟩) s.k 0 (eB (none::cap) τ) S1 rfl ⟨_,rfl⟩ rfl
 subst h2
 rw [h1,R.cF,List.range_eq_range']
 refine bN ?_
 rw [List.length_map]
 refine Nat.le_trans (List.length_filter_le _ _) ?_
 rw [List.length_range']
 exact hl
theorem gB {α β:Type} (xs:List α) (p:α->Bool) (f:α->β):∀ (d:α) ,(((List.range xs.length).filter fun i=>p (xs.getD i d)).map fun i=>f (xs.getD i d))=(xs.filter p).map f:=by
 intro d
 induction xs with
 | nil=>rfl
 | cons x xs ih=>
  rw [List.length_cons,List.range_succ_eq_map,List.filter_cons,List.filter_cons]
  have e:((List.filter (fun i=>p ((x::xs).getD i d)) (List.map Nat.succ (List.range xs.length))).map fun i=>f ((x::xs).getD i d))=(xs.filter p).map f:=by
   rw [List.filter_map,List.map_map]
   rw [<- ih]
   rfl
  show List.map _ (if p x=true then _ else _)=List.map f (if p x=true then _ else _)
  by_cases hp:p x=true
  ·rw [if_pos hp,if_pos hp,List.map_cons,List.map_cons,e];rfl
  ·rw [if_neg hp,if_neg hp,e]
theorem zW {xs:List A} {cap:List (Option Nat)} {src:Ic} {t:Te} {e:Ex} {τ:List A} {S S1:aA} (hs:src τ S=.ok (dX xs) S1) (p:A->Bool) (f:A->A)
  (ht:∀ x∈xs,t (x::eB cap τ) S1=.ok (p x) S1) (he:∀ x∈xs,p x=true->e (x::eB cap τ) S1=.ok (f x) S1) (hl:xs.length<=16777216) :
  cU (none::cap) src (bR 0) t e τ S=.ok (.ref S1.length) (S1++[.lst ((xs.filter p).map f)]):=by
 have hm:∀ i,i < xs.length->xs.getD i .unb∈xs:=fun i hi=>by
  rw [List.getD_eq_getElem?_getD,List.getElem?_eq_getElem hi];exact List.getElem_mem hi
 rw [oz hs (fun i=>xs.getD i .unb) (fun i=>p (xs.getD i .unb)) (fun i=>f (xs.getD i .unb)) (fun i hi=>by
  have hi:i < xs.length:=hi
  show xs[i]?=_
  rw [List.getD_eq_getElem?_getD,List.getElem?_eq_getElem hi];rfl) rfl (fun i hi=>ht _ (hm i hi)) (fun i hi=>he _ (hm i hi)) hl]
 have:=gB xs p f .unb
 show R.ok _ (S1++[O.lst (((List.range xs.length).filter _).map _)])=_
 rw [this]
theorem Bd {xs:List A} {cap:List (Option Nat)} {src:Ic} {e:Ex} {τ:List A} {S S1:aA} (hs:src τ S=.ok (dX xs) S1) (f:A->A)
  (he:∀ x∈xs,e (x::eB cap τ) S1=.ok (f x) S1) (hl:xs.length<=16777216) :
  cU (none::cap) src (bR 0) ql e τ S=.ok (.ref S1.length) (S1++[.lst (xs.map f)]):=by
 rw [zW hs (fun _=>true) f (fun _ _=>rfl) (fun x hx _=>he x hx) hl,List.filter_eq_self.mpr (fun _ _=>rfl)]
theorem zD {lo hi:Int} {cap:List (Option Nat)} {src:Ic} {t:Te} {e:Ex} {τ:List A} {S S1:aA} (hs:src τ S=.ok (cD lo hi) S1) (p:Int->Bool) (f:Int->A)
  (ht:∀ k,lo<=k->k < hi->t (.int k::eB cap τ) S1=.ok (p k) S1) (he:∀ k,lo<=k->k < hi->p k=true->e (.int k::eB cap τ) S1=.ok (f k) S1) (hl:(hi - lo).toNat<=16777216) :
  cU (none::cap) src (bR 0) t e τ S=.ok (.ref S1.length) (S1++[.lst (((bg lo hi).filter p).map f)]):=by
 rw [oz hs (fun i=>.int (lo+i)) (fun i=>p (lo+i)) (fun i=>f (lo+i)) (fun i hi'=>if_pos hi') rfl (fun i hi'=>ht _ (by omega) (by have:i < (hi - lo).toNat:=hi';omega)) (fun i hi'=>he _ (by omega) (by have:i < (hi - lo).toNat:=hi';omega)) hl]
 unfold bg
 rw [List.filter_map,List.map_map]
 rfl
@[simp] theorem BU {cap:List (Option Nat)} {τ:List A}:eB (none::cap) τ=.unb::eB cap τ:=rfl
@[simp] theorem CL {cap:List (Option Nat)} {τ:List A} {j:Nat}:eB (some j::cap) τ=τ.getD j .unb::eB cap τ:=rfl
@[simp] theorem qN {τ:List A}:eB [] τ=[]:=rfl
theorem pB {x:A} {xs:List A}:fG (x::xs) 0=some x:=tY (k:=0) rfl rfl
theorem oM {x y:A} {xs:List A}:fG (x::y::xs) 1=some y:=tY (k:=1) rfl rfl
theorem fN {ns:List Int} {i:Int} {k:Nat} {x:Int} (h:i=k) (hx:ns[k]?=some x):fG (ns.map A.int) i=some (.int x):=tY h (by rw [List.getElem?_map,hx];rfl)
theorem eG {j:Int} (h:-4611686018427387904<=j) (h':j < 4611686018427387904):bnd j:=⟨by omega,by omega⟩
theorem q_ {i j:Int} (h1:-1000000<=i) (h2:i<=1000000) (h3:-1000000<=j) (h4:j<=1000000) (h5:j - i<=1000):pC i j:=⟨⟨by omega,by omega,by omega,by omega⟩,by omega⟩
theorem ints_map:∀ (ns:List Int),A.ints (ns.map .int)=some ns
 | []=>rfl
 | n::ns=>by show (A.ints (ns.map .int)).map (n::·)=_;rw [ints_map ns];rfl
theorem yJ (xs:List A) (j:Nat) (h:j < xs.length):gD xs none (some (j:Int))=xs.take j:=by
 unfold gD
 rw [HT.iE,HT.mG,List.drop_zero,Nat.min_eq_left (by omega),Nat.sub_zero]
theorem yC (xs:List A) (j:Nat) (h:j < xs.length):gD xs (some ((j:Int)+1)) none=xs.drop (j+1):=by
 unfold gD
 rw [show ((j:Int)+1)=((j+1:Nat):Int) by omega,HT.iE,HT.mG,Nat.min_eq_left (by omega)]
 exact List.take_of_length_le (by rw [List.length_drop];exact Nat.le_refl _)
@[simp] theorem Ft {S:aA} {x y:Bool}:qD false (.bl x) (.bl y) S=.ok (.bl (x == y)) S:=rfl
@[simp] theorem Fl {S:aA} {x y:Bool}:qD true (.bl x) (.bl y) S=.ok (.bl (!(x == y))) S:=rfl
@[simp] theorem Fg {S:aA} {x y:Int}:qD false (.int x) (.int y) S=.ok (.bl (x == y)) S:=rfl
@[simp] theorem E4 {S:aA} {x y:Int}:qD true (.int x) (.int y) S=.ok (.bl (!(x == y))) S:=rfl
@[simp] theorem vp {S:aA}:Dh false .non .non S=.ok (.bl true) S:=rfl
@[simp] theorem xK {S:aA} {xs:List A}:Dh false (.tup xs) .non S=.ok (.bl false) S:=rfl
@[simp] theorem vm {S:aA} {n:Nat}:Dh false (.ref n) .non S=.ok (.bl false) S:=rfl
@[simp] theorem qW {S:aA}:Dh true .non .non S=.ok (.bl false) S:=rfl
@[simp] theorem qH {S:aA} {xs:List A}:Dh true (.tup xs) .non S=.ok (.bl true) S:=rfl
@[simp] theorem rH {S:aA} {n:Nat}:Dh true (.ref n) .non S=.ok (.bl true) S:=rfl
@[simp] theorem w9 {S:aA} {x:A} {c:String}:Iz x (.ty c) S=opt (x.kd S) fun k=>opt (CV k c) fun b=>.ok (.bl b) S:=rfl
@[simp] theorem FO {S:aA} {b:Bool}:A.kd (.bl b) S=some .bl:=rfl
@[simp] theorem zJ {S:aA} {b:Int}:A.kd (.int b) S=some .int:=rfl
@[simp] theorem Au {S:aA} {b:List A}:A.kd (.tup b) S=some .tup:=rfl
@[simp] theorem C6 {S:aA}:A.kd .non S=some .non:=rfl
@[simp] theorem Aa {S:aA} {b:Str}:A.kd (.str b) S=some .str:=rfl
@[simp] theorem zF {S:aA} {n:Nat}:A.kd (.ref n) S=(ak S n).map fun _=>.lst:=rfl
@[simp] theorem Cb {S:aA}:newL [] S=.ok (.ref S.length) (S++[.lst []]):=bN (by simp)
@[simp] theorem BC {S:aA} {x0:A}:newL [x0] S=.ok (.ref S.length) (S++[.lst [x0]]):=bN (by simp)
@[simp] theorem C8 {S:aA} {x0 x1:A}:newL [x0,x1] S=.ok (.ref S.length) (S++[.lst [x0,x1]]):=bN (by simp)
@[simp] theorem B0 {S:aA} {x0 x1 x2:A}:newL [x0,x1,x2] S=.ok (.ref S.length) (S++[.lst [x0,x1,x2]]):=bN (by simp)
@[simp] theorem CT {S:aA} {x0 x1 x2 x3:A}:newL [x0,x1,x2,x3] S=.ok (.ref S.length) (S++[.lst [x0,x1,x2,x3]]):=bN (by simp)
@[simp] theorem Ao {S:aA} {x0 x1 x2 x3 x4:A}:newL [x0,x1,x2,x3,x4] S=.ok (.ref S.length) (S++[.lst [x0,x1,x2,x3,x4]]):=bN (by simp)
@[simp] theorem Bj {S:aA} {x0 x1 x2 x3 x4 x5:A}:newL [x0,x1,x2,x3,x4,x5] S=.ok (.ref S.length) (S++[.lst [x0,x1,x2,x3,x4,x5]]):=bN (by simp)
@[simp] theorem zY {S:aA} {x0 x1 x2 x3 x4 x5 x6:A}:newL [x0,x1,x2,x3,x4,x5,x6] S=.ok (.ref S.length) (S++[.lst [x0,x1,x2,x3,x4,x5,x6]]):=bN (by simp)
@[simp] theorem Bv {S:aA} {x0 x1 x2 x3 x4 x5 x6 x7:A}:newL [x0,x1,x2,x3,x4,x5,x6,x7] S=.ok (.ref S.length) (S++[.lst [x0,x1,x2,x3,x4,x5,x6,x7]]):=bN (by simp)
@[simp] theorem Bp {S:aA} {x0 x1 x2 x3 x4 x5 x6 x7 x8:A}:newL [x0,x1,x2,x3,x4,x5,x6,x7,x8] S=.ok (.ref S.length) (S++[.lst [x0,x1,x2,x3,x4,x5,x6,x7,x8]]):=bN (by simp)
@[simp] theorem wm {S:aA} {x0 x1 x2 x3 x4 x5 x6 x7 x8 x9:A}:newL [x0,x1,x2,x3,x4,x5,x6,x7,x8,x9] S=.ok (.ref S.length) (S++[.lst [x0,x1,x2,x3,x4,x5,x6,x7,x8,x9]]):=bN (by simp)
theorem kD {α:Type} {n:Nat} {r:R α} (h:n<=16777216):gd (n<=sizeLine) r=r:=cP (by rw [sizeLine_eq];exact h)
theorem Gd {α:Type} {n:Nat} {r:R α} (h:n < 16777216):gd (n < sizeLine) r=r:=cP (by rw [sizeLine_eq];exact h)
theorem Gj {x:A} {xs:List A}:(x::xs).getD 0 .unb=x:=rfl
theorem Fv {x:A} {xs:List A} {n:Nat}:(x::xs).getD (n+1) .unb=xs.getD n .unb:=rfl
theorem Kh {x y:A} {xs:List A}:(x::xs).set 0 y=y::xs:=rfl
theorem sets {x y:A} {xs:List A} {n:Nat}:(x::xs).set (n+1) y=x::xs.set n y:=rfl
theorem rep0 {x:A}:List.replicate 0 x=[]:=rfl
theorem reps {x:A} {n:Nat}:List.replicate (n+1) x=x::List.replicate n x:=rfl
theorem JH {x:A} {xs ys:List A}:(x::xs)++ys=x::(xs++ys):=rfl
theorem KW {ys:List A}:[]++ys=ys:=rfl
theorem Gi {S:aA} {n m:Nat} {xs ys:List A} (h:ak S n=some xs) (h':ak S m=some ys) (hl:xs.length+ys.length<=16777216):dc (.ref n) (.ref m) S=.ok (.ref S.length) (S++[.lst (xs++ys)]):=by
 show opt (ak S n) _=_
 rw [h,aZ,h',aZ]
 exact cP (by rw [sizeLine_eq];exact hl)
theorem bD:type_of% (And.intro @R.cB (And.intro @R.uV (And.intro @R.cF (And.intro @RS.of_ok (And.intro @RS.Ga (And.intro @aZ (And.intro @vN (And.intro @wO (And.intro @wk (And.intro @xy (And.intro @xX (And.intro @CF (And.intro @yc (And.intro @yf (And.intro @wY (And.intro @vD (And.intro @wo (And.intro @E5 (And.intro @xQ (And.intro @CH (And.intro @xh (And.intro @Gh (And.intro @Al (And.intro @xZ (And.intro @x_ (And.intro @BE (And.intro @u7 (And.intro @vn (And.intro @vF (And.intro @Ca (And.intro @CC (And.intro @vQ (And.intro @CN (And.intro @sJ (And.intro @uY (And.intro @AB (And.intro @vL (And.intro @sj (And.intro @xU (And.intro @ve (And.intro @sS (And.intro @CO (And.intro @CW (And.intro @Gr (And.intro @FI (And.intro @BP (And.intro @r6 (And.intro @vO (And.intro @sF (And.intro @Ba (And.intro @vZ (And.intro @lst?_ref (And.intro @RS.t_ (And.intro @RS.Ax (And.intro @RS.Be (And.intro @RS.AN (And.intro @RS.Ci (And.intro @vY (And.intro @wV (And.intro @oG (And.intro @rP (And.intro @rA (And.intro @yd (And.intro @qX (And.intro @AY (And.intro @w_ (And.intro @zQ (And.intro @Bm (And.intro @z8 (And.intro @Cg (And.intro @AX (And.intro @AZ (And.intro @uW (And.intro @wW (And.intro @sR (And.intro @RS.z7 (And.intro @RS.C2 (And.intro @RS.zN (And.intro @Ah (And.intro @Dd (And.intro @Bx (And.intro @Gg (And.intro @F_ (And.intro @E9 (And.intro @FN (And.intro @Gu (And.intro @zU (And.intro @AF (And.intro @B9 (And.intro @Ae (And.intro @Bs (And.intro @Cr (And.intro @xB (And.intro @u5 (And.intro @xJ (And.intro @vX (And.intro @o7 (And.intro @FE (And.intro @FP (And.intro @E6 (And.intro @BZ (And.intro @zl (And.intro @vV (And.intro @v8 (And.intro @we (And.intro @sQ (And.intro @rf (And.intro @BL (And.intro @CI (And.intro @FF (And.intro @nt (And.intro @CU (And.intro @xT (And.intro @aU (And.intro @BU (And.intro @CL (And.intro @qN (And.intro @Ft (And.intro @Fl (And.intro @Fg (And.intro @E4 (And.intro @vp (And.intro @xK (And.intro @vm (And.intro @qW (And.intro @qH (And.intro @rH (And.intro @w9 (And.intro @FO (And.intro @zJ (And.intro @Au (And.intro @C6 (And.intro @Aa (And.intro @zF (And.intro @Cb (And.intro @BC (And.intro @C8 (And.intro @B0 (And.intro @CT (And.intro @Ao (And.intro @Bj (And.intro @zY (And.intro @Bv (And.intro @Bp (And.intro @wm (And.intro @Gj (And.intro @Fv (And.intro @Kh (And.intro @sets (And.intro @rep0 (And.intro @reps (And.intro @JH (And.intro @KW (And.intro @kW (And.intro @wF (And.intro @Aq (And.intro @B4 (And.intro @E7 (And.intro @Gx (And.intro @Ac (And.intro @zB (And.intro @o_ (And.intro @rK (And.intro @B7 (And.intro @xm (And.intro @A1 (And.intro @wC (And.intro @BW (And.intro @F0 (And.intro @Fd (And.intro @xE (And.intro @wA (And.intro @An (And.intro @rz (And.intro @wG (And.intro @A_ (And.intro @Co (And.intro @CK (And.intro @zu (@AM)))))))))))))))))))))))))))))))))))))))))))))))))))))))))))))))))))))))))))))))))))))))))))))))))))))))))))))))))))))))))))))))))))))))))))))))))))))))))))))))))))))))))))))))))))):=And.intro @R.cB (And.intro @R.uV (And.intro @R.cF (And.intro @RS.of_ok (And.intro @RS.Ga (And.intro @aZ (And.intro @vN (And.intro @wO (And.intro @wk (And.intro @xy (And.intro @xX (And.intro @CF (And.intro @yc (And.intro @yf (And.intro @wY (And.intro @vD (And.intro @wo (And.intro @E5 (And.intro @xQ (And.intro @CH (And.intro @xh (And.intro @Gh (And.intro @Al (And.intro @xZ (And.intro @x_ (And.intro @BE (And.intro @u7 (And.intro @vn (And.intro @vF (And.intro @Ca (And.intro @CC (And.intro @vQ (And.intro @CN (And.intro @sJ (And.intro @uY (And.intro @AB (And.intro @vL (And.intro @sj (And.intro @xU (And.intro @ve (And.intro @sS (And.intro @CO (And.intro @CW (And.intro @Gr (And.intro @FI (And.intro @BP (And.intro @r6 (And.intro @vO (And.intro @sF (And.intro @Ba (And.intro @vZ (And.intro @lst?_ref (And.intro @RS.t_ (And.intro @RS.Ax (And.intro @RS.Be (And.intro @RS.AN (And.intro @RS.Ci (And.intro @vY (And.intro @wV (And.intro @oG (And.intro @rP (And.intro @rA (And.intro @yd (And.intro @qX (And.intro @AY (And.intro @w_ (And.intro @zQ (And.intro @Bm (And.intro @z8 (And.intro @Cg (And.intro @AX (And.intro @AZ (And.intro @uW (And.intro @wW (And.intro @sR (And.intro @RS.z7 (And.intro @RS.C2 (And.intro @RS.zN (And.intro @Ah (And.intro @Dd (And.intro @Bx (And.intro @Gg (And.intro @F_ (And.intro @E9 (And.intro @FN (And.intro @Gu (And.intro @zU (And.intro @AF (And.intro @B9 (And.intro @Ae (And.intro @Bs (And.intro @Cr (And.intro @xB (And.intro @u5 (And.intro @xJ (And.intro @vX (And.intro @o7 (And.intro @FE (And.intro @FP (And.intro @E6 (And.intro @BZ (And.intro @zl (And.intro @vV (And.intro @v8 (And.intro @we (And.intro @sQ (And.intro @rf (And.intro @BL (And.intro @CI (And.intro @FF (And.intro @nt (And.intro @CU (And.intro @xT (And.intro @aU (And.intro @BU (And.intro @CL (And.intro @qN (And.intro @Ft (And.intro @Fl (And.intro @Fg (And.intro @E4 (And.intro @vp (And.intro @xK (And.intro @vm (And.intro @qW (And.intro @qH (And.intro @rH (And.intro @w9 (And.intro @FO (And.intro @zJ (And.intro @Au (And.intro @C6 (And.intro @Aa (And.intro @zF (And.intro @Cb (And.intro @BC (And.intro @C8 (And.intro @B0 (And.intro @CT (And.intro @Ao (And.intro @Bj (And.intro @zY (And.intro @Bv (And.intro @Bp (And.intro @wm (And.intro @Gj (And.intro @Fv (And.intro @Kh (And.intro @sets (And.intro @rep0 (And.intro @reps (And.intro @JH (And.intro @KW (And.intro @kW (And.intro @wF (And.intro @Aq (And.intro @B4 (And.intro @E7 (And.intro @Gx (And.intro @Ac (And.intro @zB (And.intro @o_ (And.intro @rK (And.intro @B7 (And.intro @xm (And.intro @A1 (And.intro @wC (And.intro @BW (And.intro @F0 (And.intro @Fd (And.intro @xE (And.intro @wA (And.intro @An (And.intro @rz (And.intro @wG (And.intro @A_ (And.intro @Co (And.intro @CK (And.intro @zu (@AM)))))))))))))))))))))))))))))))))))))))))))))))))))))))))))))))))))))))))))))))))))))))))))))))))))))))))))))))))))))))))))))))))))))))))))))))))))))))))))))))))))))))))))))))))))
theorem bools:(∀ b:Bool,cond false b b=b)/\(∀ (α:Type) (x y:α),cond false x y=y)/\(∀ (α:Type) (x y:α),cond true x y=x):=⟨fun _=>rfl,fun _ _ _=>rfl,fun _ _ _=>rfl⟩
theorem cW:(∀ (x:Str) (xs:List Str),(x::xs).length=xs.length+1)/\([]:List Str).length=0/\(∀ (x:A) (xs:List A),(x::xs).length=xs.length+1)/\([]:List A).length=0:=⟨fun _ _=>rfl,rfl,fun _ _=>rfl,rfl⟩
section
variable {τ:List A} {S:aA}
theorem uZ {f:List A->aA->R A} {d:gp}:qf f d τ S=(d τ S).bind f:=rfl
noncomputable def MY (c:Str):Unit->aA->RS:=fun _ S1=>.ex c S1
theorem Ce {c:Str} {u:Unit}:MY c u S=.ex c S:=rfl
theorem pJ {c:Str} {ps:List (Str ⊕ Ex)}:mE c ps τ S=RS.of (Bh ps τ S) (MY c):=rfl
theorem vj:Bh [] τ S=.ok () S:=rfl
theorem vM {x:Str} {ps:List (Str ⊕ Ex)}:Bh (.inl x::ps) τ S=Bh ps τ S:=rfl
noncomputable def MQ (ps:List (Str ⊕ Ex)) (τ:List A):A->aA->R Unit:=fun v S1=>match v with
 | .int i=>gd (i.natAbs.log2 < 64) (Bh ps τ S1)
 | _=>.no
theorem wB {e:Ex} {ps:List (Str ⊕ Ex)}:Bh (.inr e::ps) τ S=(e τ S).bind (MQ ps τ):=rfl
theorem FY {n:Nat} {ps:List (Str ⊕ Ex)} (h:n < 18446744073709551616):MQ ps τ (.int (n:Int)) S=Bh ps τ S:=by
 show gd ((n:Int).natAbs.log2 < 64) _=_
 refine GF ?_
 rw [Int.natAbs_natCast]
 by_cases z:n=0
 ·subst z;decide
 ·exact (Nat.log2_lt z).mpr h
noncomputable def RS.try (i n:Nat) (cs:List Str) (d:Sm):RS->RS
 | .ex x S1=>if x∈cs then Df i (d ((List.replicate n .unb).set i (.exn x)) S1) else .no
 | r=>r
theorem vf {i n:Nat} {cs:List Str} {c d:Sm}:qZ i n cs c d τ S=RS.try i n cs d (c τ S):=by
 unfold qZ RS.try;cases c τ S <;> rfl
theorem zq {i n:Nat} {cs:List Str} {d:Sm}:RS.try i n cs d (.nx τ S)=.nx τ S:=rfl
theorem Cd {i n:Nat} {cs:List Str} {d:Sm} {a:A}:RS.try i n cs d (.rt a S)=.rt a S:=rfl
theorem uG {i n:Nat} {x:Str} {cs:List Str} {d:Sm}:RS.try i n (x::cs) d (.ex x S)=Df i (d ((List.replicate n .unb).set i (.exn x)) S):=if_pos (.head _)
theorem Cc {i:Nat} {a:A}:Df i (.rt a S)=.rt a S:=rfl
theorem Bq {i:Nat}:Df i (.nx τ S)=.nx (τ.set i .unb) S:=rfl
noncomputable def E1 (f:Str->Option Bool):A->aA->R A:=fun v S1=>match v with
 | .exn x=>opt (f x) fun b=>.ok (.bl b) S1
 | _=>.no
theorem vt {f:Str->Option Bool} {c:Ex}:kr f c τ S=(c τ S).bind (E1 f):=rfl
theorem tR {x:Str} {b:Bool} {tb:List (Str×Bool)}:E1 (tH ((x,b)::tb)) (.exn x) S=.ok (.bl b) S:=by
 show opt (List.lookup x ((x,b)::tb)) _=_
 rw [List.lookup_cons,beq_self_eq_true];rfl
noncomputable def R.CD {α β:Type} (r:R α) (f:α->aA->R β):R β:=match r with
 | .ok a S=>f a S
 | _=>.no
theorem rG {α β:Type} {a:α} {f:α->aA->R β}:R.CD (.ok a S) f=f a S:=rfl
theorem vC {f:List A->aA->R A} {d:gp}:KU f d τ S=R.CD (d τ S) f:=by unfold KU R.CD;cases d τ S <;> rfl
noncomputable def RS.ML {α:Type} (r:R α) (f:α->aA->RS):RS:=match r with
 | .ok a S=>f a S
 | _=>.no
theorem zy {α:Type} {a:α} {f:α->aA->RS}:RS.ML (.ok a S) f=f a S:=rfl
theorem wz {t:Te} {c d:Sm}:Kv t c d τ S=RS.ML (t τ S) (Lo c d τ):=by
 unfold Kv RS.ML
 cases t τ S with
 | ok b S1=>cases b <;> rfl
 | ex _ _=>rfl
 | no=>rfl
noncomputable def RS.C7 (i:Nat) (cs:List Str) (d:Sm) (τ:List A):RS->RS
 | .ex x S1=>if x∈cs then Df i (d (τ.set i (.exn x)) S1) else .no
 | r=>r
theorem sP {i:Nat} {cs:List Str} {c d:Sm}:FZ i cs c d τ S=RS.C7 i cs d τ (c τ S):=by
 unfold FZ RS.C7;cases c τ S <;> rfl
theorem u9 {i:Nat} {cs:List Str} {d:Sm} {τ':List A}:RS.C7 i cs d τ (.nx τ' S)=.nx τ' S:=rfl
theorem wc {i:Nat} {cs:List Str} {d:Sm} {a:A}:RS.C7 i cs d τ (.rt a S)=.rt a S:=rfl
theorem xR {i:Nat} {x:Str} {cs:List Str} {d:Sm}:RS.C7 i (x::cs) d τ (.ex x S)=Df i (d (τ.set i (.exn x)) S):=if_pos (.head _)
theorem rF:A.yk []=some []:=rfl
theorem ki {b:Bool} {xs:List A}:A.yk (.bl b::xs)=(A.yk xs).map (b::·):=rfl
end
theorem fW:type_of% (And.intro @uZ (And.intro @pJ (And.intro @Ce (And.intro @vj (And.intro @vM (And.intro @wB (And.intro @vf (And.intro @zq (And.intro @Cd (And.intro @uG (And.intro @Cc (And.intro @Bq (And.intro @vt (And.intro @tR (And.intro @rF (And.intro @ki (And.intro @rG (And.intro @vC (And.intro @zy (And.intro @wz (And.intro @sP (And.intro @u9 (And.intro @wc (And.intro @xR (trivial))))))))))))))))))))))))):=And.intro @uZ (And.intro @pJ (And.intro @Ce (And.intro @vj (And.intro @vM (And.intro @wB (And.intro @vf (And.intro @zq (And.intro @Cd (And.intro @uG (And.intro @Cc (And.intro @Bq (And.intro @vt (And.intro @tR (And.intro @rF (And.intro @ki (And.intro @rG (And.intro @vC (And.intro @zy (And.intro @wz (And.intro @sP (And.intro @u9 (And.intro @wc (And.intro @xR (trivial))))))))))))))))))))))))
end Am
namespace Bl
open L2
noncomputable def cnt:List Int->Int->Int
 | [],_=>0
 | x::l,j=>(if j<=x then 1 else 0)+cnt l j
noncomputable def Below (xs ys:List Int):Prop:=∀ (i:Nat) (j:Int),cnt (xs.take i) j<=cnt (ys.take i) j
theorem cnt_append (a b:List Int) (j:Int):cnt (a++b) j=cnt a j+cnt b j:=by
 induction a with
 | nil=>simp [cnt]
 | cons x a ih=>rw [List.cons_append,cnt,cnt,ih];omega
theorem rZ {a b:List Int} (p:a.Perm b) (j:Int):cnt a j=cnt b j:=by
 induction p with
 | nil=>rfl
 | cons x _ ih=>rw [cnt,cnt,ih]
 | swap x y l=>rw [cnt,cnt,cnt,cnt];omega
 | trans _ _ h1 h2=>exact h1.trans h2
theorem take_snoc {l:List Int} {i:Nat} (h:i < l.length):l.take (i+1)=l.take i++[l[i]]:=by
 rw [List.take_succ,List.getElem?_eq_getElem h];rfl
theorem qO {l:List Int} {i:Nat} (h:i < l.length) (j:Int):cnt (l.take (i+1)) j=cnt (l.take i) j+(if j<=l[i] then 1 else 0):=by
 rw [take_snoc h,cnt_append,cnt,cnt];omega
theorem wH {l:List Int} {p:Nat} (h:p < l.length) (v:Int) (i:Nat) (j:Int) :
  cnt ((l.set p v).take i) j=cnt (l.take i) j+(if p < i then (if j<=v then 1 else 0) - (if j<=l[p] then 1 else 0) else 0):=by
 induction l generalizing p i with
 | nil=>cases h
 | cons x l ih=>
  cases i with
  | zero=>simp [cnt]
  | succ i=>
   cases p with
   | zero=>
    show (if j<=v then 1 else 0)+cnt (l.take i) j=(if j<=x then 1 else 0)+cnt (l.take i) j+_
    rw [if_pos (Nat.succ_pos _)]
    show _=(if j<=x then 1 else 0)+cnt (l.take i) j+((if j<=v then 1 else 0) - (if j<=x then 1 else 0))
    omega
   | succ p=>
    show (if j<=x then 1 else 0)+cnt ((l.set p v).take i) j=(if j<=x then 1 else 0)+cnt (l.take i) j+_
    have hp:p < l.length:=Nat.lt_of_succ_lt_succ h
    rw [ih hp]
    by_cases z:p < i
    ·rw [if_pos z,if_pos (Nat.succ_lt_succ z)]
     show _=(if j<=x then 1 else 0)+cnt (l.take i) j+((if j<=v then 1 else 0) - (if j<=l[p] then 1 else 0))
     omega
    ·rw [if_neg z,if_neg (fun y=>z (Nat.lt_of_succ_lt_succ y))]
     omega
theorem qP {l:List Int} {p q:Nat} (hp:p < l.length) (hq:q < l.length) (hpq:p < q) (h:l[p] < l[q]):Below l ((l.set p l[q]).set q l[p]):=by
 intro i j
 have hq':q < (l.set p l[q]).length:=by rw [List.length_set];exact hq
 rw [wH hq',wH hp]
 have e:(l.set p l[q])[q]=l[q]:=by rw [List.getElem_set_ne (Nat.ne_of_lt hpq)]
 rw [e]
 (repeat' split) <;> omega
noncomputable def HH (a b:List Int):Prop:=a.length=b.length/\∀ (p:Nat) (h:p < a.length),b[(a[p] - 1).toNat]?=some ((p:Int)+1)
theorem ym {x y:List Int} {n:Nat} (px:x.Perm (bg 1 (n+1))) (py:y.Perm (bg 1 (n+1))):(∀ (i q:Nat),i < n->q < n->cnt (x.take (i+1)) ((q:Int)+1)<=cnt (y.take (i+1)) ((q:Int)+1)) ↔ Below x y:=by
 have lx:x.length=n:=by rw [px.length_eq,bL];omega
 have ly:y.length=n:=by rw [py.length_eq,bL];omega
 constructor
 ·intro h i j
  have rx:∀ z∈x,1<=z/\z < (n:Int)+1:=fun z hz=>eo.mp (px.mem_iff.mp hz)
  have ry:∀ z∈y,1<=z/\z < (n:Int)+1:=fun z hz=>eo.mp (py.mem_iff.mp hz)
  have low:∀ (l:List Int),(∀ z∈l,j<=z)->cnt l j=l.length:=fun l=>by
   induction l with
   | nil=>intro _;rfl
   | cons z l ih=>intro hh;rw [cnt,if_pos (hh z List.mem_cons_self),ih fun y hy=>hh y (List.mem_cons_of_mem _ hy),List.length_cons];omega
  have high:∀ (l:List Int),(∀ z∈l,z < j)->cnt l j=0:=fun l=>by
   induction l with
   | nil=>intro _;rfl
   | cons z l ih=>intro hh;rw [cnt,if_neg (by have:=hh z List.mem_cons_self;omega),ih fun y hy=>hh y (List.mem_cons_of_mem _ hy)];rfl
  by_cases z1:j<=1
  ·rw [low _ fun z hz=>by have:=(rx z (List.mem_of_mem_take hz)).1;omega,low _ fun z hz=>by have:=(ry z (List.mem_of_mem_take hz)).1;omega,List.length_take,List.length_take,lx,ly]
   exact Int.le_refl _
  ·by_cases z2:(n:Int)+1<=j
   ·rw [high _ fun z hz=>by have:=(rx z (List.mem_of_mem_take hz)).2;omega,high _ fun z hz=>by have:=(ry z (List.mem_of_mem_take hz)).2;omega]
    exact Int.le_refl _
   ·obtain ⟨q,rfl⟩:∃ q:Nat,j=(q:Int)+1:=⟨(j - 1).toNat,by omega⟩
    by_cases hi:i<=n
    ·cases i with
     | zero=>simp [cnt]
     | succ i=>exact h i q (by omega) (by omega)
    ·rw [List.take_of_length_le (by omega),List.take_of_length_le (by omega),rZ px,rZ py]
     exact Int.le_refl _
 ·exact fun h i q _ _=>h (i+1) ((q:Int)+1)
end Bl
namespace Am
open PySem L2 Bl
noncomputable def dh:Nat->Int->List Int->List Int
 | 0,_,ms=>ms
 | _+1,_,[]=>[]
 | x+1,d,m::ms=>(m+d)::dh x d ms
theorem j5:∀ (x:Nat) (d:Int) (ms:List Int),(dh x d ms).length=ms.length
 | 0,_,_=>rfl
 | _+1,_,[]=>rfl
 | x+1,d,m::ms=>congrArg (·+1) (j5 x d ms)
theorem iG:∀ (x:Nat) (d:Int) (ms:List Int) (j:Nat),(dh x d ms)[j]?=(ms[j]?).map fun m=>if j < x then m+d else m
 | 0,d,ms,j=>by simp [dh]
 | _+1,_,[],j=>by simp [dh]
 | x+1,d,m::ms,0=>by simp [dh]
 | x+1,d,m::ms,j+1=>by
  show (dh x d ms)[j]?=_
  rw [iG x d ms j]
  simp
theorem lQ:∀ (x:Nat) (d:Int) (ms:List Int) (m:Int),ms[x]?=some m->(dh x d ms).set x (m+d)=dh (x+1) d ms
 | 0,d,[],m,h=>by simp at h
 | 0,d,k::ms,m,h=>by simp at h;subst h;rfl
 | x+1,d,[],m,h=>by simp at h
 | x+1,d,k::ms,m,h=>by
  show (k+d)::(dh x d ms).set x (m+d)=(k+d)::dh (x+1) d ms
  rw [lQ x d ms m (by simpa using h)]
noncomputable def gz (n:Nat) (xs ys:List Int) (t:Nat):List Int:=(List.range n).map fun (j:Nat)=>cnt (xs.take t) ((j:Int)+1) - cnt (ys.take t) ((j:Int)+1)
theorem d8 {n:Nat} {xs ys:List Int} {t:Nat}:(gz n xs ys t).length=n:=by simp [gz]
theorem gr {n:Nat} {xs ys:List Int} {t j:Nat} (h:j < n):(gz n xs ys t)[j]?=some (cnt (xs.take t) ((j:Int)+1) - cnt (ys.take t) ((j:Int)+1)):=by
 unfold gz
 rw [List.getElem?_map,List.getElem?_range h]
 rfl
theorem ET {n:Nat} {xs ys:List Int}:gz n xs ys 0=List.replicate n 0:=by
 unfold gz
 refine List.ext_getElem? fun j=>?_
 rw [List.getElem?_map,List.getElem?_replicate]
 by_cases hj:j < n
 ·rw [List.getElem?_range hj,if_pos hj]
  simp [cnt]
 ·rw [List.getElem?_eq_none (by simpa using hj),if_neg hj];rfl
theorem tV {n:Nat} {xs ys:List Int} {t:Nat} (hx:t < xs.length) (hy:t < ys.length):dh ys[t].toNat (-1) (dh xs[t].toNat 1 (gz n xs ys t))=gz n xs ys (t+1):=by
 refine List.ext_getElem? fun j=>?_
 rw [iG,iG]
 by_cases hj:j < n
 ·rw [gr hj,gr hj,qO hx,qO hy,Option.map_some,Option.map_some]
  congr 1
  have e1:(j < xs[t].toNat)=((j:Int)+1<=xs[t]):=by apply propext;omega
  have e2:(j < ys[t].toNat)=((j:Int)+1<=ys[t]):=by apply propext;omega
  simp only [e1,e2]
  split <;> split <;> omega
 ·rw [List.getElem?_eq_none (by rw [d8];omega),List.getElem?_eq_none (by rw [d8];omega)]
  rfl
theorem nG:∀ {ns:List Int},ns≠[]->∃ m,maxOf ns=some m
 | [],h=>absurd rfl h
 | [x],_=>⟨x,rfl⟩
 | x::y::ys,_=>by
  obtain ⟨m,e⟩:=nG (ns:=y::ys) (by simp)
  exact ⟨if m > x then m else x,by show (maxOf (y::ys)).map _=_;rw [e];rfl⟩
theorem zS {S:aA} {n:Nat} {ns:List Int} (h:ak S n=some (ns.map .int)) (h0:ns≠[]):∃ m,CS (.ref n) S=.ok (.int m) S/\m∈ns/\∀ a∈ns,a<=m:=by
 obtain ⟨m,e⟩:=nG h0
 refine ⟨m,?_,mQ e⟩
 show opt (ak S n) _=_
 rw [h,aZ,ints_map,aZ,e,aZ]
theorem JU {S:aA} {n:Nat} {x:A} {k:Nat} (h:ak S n=some [x]) (hk:k<=16777216):gQ (.ref n) (.int k) S=.ok (.ref S.length) (S++[.lst (List.replicate k x)]):=by
 show opt (ak S n) _=_
 rw [h,aZ]
 have e:(List.replicate k [x]).flatten=List.replicate k x:=by
  induction k with
  | zero=>rfl
  | succ k ih=>rw [List.replicate_succ,List.flatten_cons,ih (by omega)];rfl
 rw [cP ⟨by omega,by omega,by rw [sizeLine_eq,Int.toNat_natCast];simpa using hk⟩,Int.toNat_natCast,e]
theorem r8 {xs:List Int} {n:Int} (h:xs.Perm (bg 1 (n+1))) (hn:0<=n):(xs.length:Int)=n:=by
 rw [h.length_eq,bL];omega
theorem sD {xs:List Int} {n x:Int} (h:xs.Perm (bg 1 (n+1))) (hx:x∈xs):1<=x/\x<=n:=by
 have:=eo.mp (h.mem_iff.mp hx)
 omega
end Am
namespace Tb
noncomputable def fg (r:List Int) (x:Int):Nat:=r.findIdx fun y=>decide (x < y)
noncomputable def put:List (List Int)->Int->List (List Int)
 | [],x=>[[x]]
 | r::rs,x=>if fg r x=r.length then (r++[x])::rs else r.set (fg r x) x::put rs (r.getD (fg r x) 0)
noncomputable def row:List (List Int)->Int->Nat
 | [],_=>0
 | r::rs,x=>if fg r x=r.length then 0 else row rs (r.getD (fg r x) 0)+1
noncomputable def add:List (List Int)->Nat->Int->List (List Int)
 | [],_,k=>[[k]]
 | q::qs,0,k=>(q++[k])::qs
 | q::qs,i+1,k=>q::add qs i k
noncomputable def gs (r:List Int) (x:Int):List Nat:=(List.range r.length).filter fun k=>decide (x < r.getD k 0)
end Tb
namespace Am
open PySem L2
noncomputable def Rows (S:aA):List Nat->List (List Int)->Prop
 | [],[]=>True
 | r::rs,x::T=>ak S r=some (x.map .int)/\Rows S rs T
 | _,_=>False
structure Tab (S:aA) (n:Nat) (rs:List Nat) (T:List (List Int)):Prop where
 top:ak S n=some (rs.map .ref)
 rows:Rows S rs T
 nd:(n::rs).Nodup
theorem eq_nil {S:aA} {a b:Nat} {xs:List A} (h:ak S a=some xs) (h':ak S b=some []):uK S 12 (.ref a) (.ref b)=some xs.isEmpty:=by
 show (ak S a).bind (fun xs=>(ak S b).bind fun ys=>ng (uK S 11) xs ys)=_
 rw [h,Option.bind_some,h',Option.bind_some]
 cases xs <;> rfl
theorem GK {S:aA} {a b:A} {k:Bool} (h:uK S 12 a b=some k):qD true a b S=.ok (.bl (!k)) S:=by unfold qD;rw [h];rfl
theorem getD_at {r:List Int} {k:Nat} (h:k < r.length):r[k]?=some (r.getD k 0):=by rw [List.getD_eq_getElem?_getD,List.getElem?_eq_getElem h];rfl
end Am
namespace Wd
open Bl L2
noncomputable def ex (l:List Int) (k:Nat):List Int:=(l.set (k - 1) (l.getD k 0)).set k (l.getD (k - 1) 0)
noncomputable def led (l:List Int) (w:List Nat):List Int:=w.foldl ex l
theorem uX {l:List Int} {k:Nat} (h:k < l.length):l.getD k 0=l[k]:=by rw [List.getD_eq_getElem?_getD,List.getElem?_eq_getElem h];rfl
theorem Fp {l:List Int} {k:Nat} (h0:1<=k) (h:k < l.length):ex l k=(l.set (k - 1) l[k]).set k (l[k - 1]'(by omega)):=by
 unfold ex
 rw [uX h,uX (show k - 1 < l.length by omega)]
theorem Bc (l:List Int) (k:Nat):(ex l k).length=l.length:=by unfold ex;rw [List.length_set,List.length_set]
theorem xr:∀ (w:List Nat) (l:List Int),(led l w).length=l.length
 | [],_=>rfl
 | k::w,l=>by show (led (ex l k) w).length=_;rw [xr w,Bc]
theorem Dy {l:List Int} {k:Nat} (h0:1<=k) (h:k < l.length):(ex l k).Perm l:=by
 rw [Fp h0 h]
 exact List.set_set_perm (by omega) h
theorem sL:∀ {w:List Nat} {l:List Int},(∀ k∈w,1<=k/\k < l.length)->(led l w).Perm l
 | [],_,_=>List.Perm.refl _
 | k::w,l,h=>by
  have hk:=h k (List.mem_cons_self ..)
  show (led (ex l k) w).Perm l
  exact (sL fun m hm=>by rw [Bc];exact h m (List.mem_cons_of_mem _ hm)).trans (Dy hk.1 hk.2)
theorem up {l:List Int} {k:Nat} (h0:1<=k) (h:k < l.length) (hr:l[k - 1]'(by omega) < l[k]):Below l (ex l k):=by
 rw [Fp h0 h]
 exact qP (by omega) h (by omega) hr
noncomputable def sw (k:Nat) (x:Int):Int:=if x=k then (k:Int)+1 else if x=(k:Int)+1 then k else x
theorem Lv {n p:Nat} (h:p < n):(bg 1 ((n:Int)+1))[p]?=some ((p:Int)+1):=by
 unfold bg
 rw [List.getElem?_map,List.getElem?_range (by omega)]
 simp;omega
theorem lC (n:Nat):(bg 1 ((n:Int)+1)).length=n:=by rw [bL];omega
end Wd
namespace Iv
open L2 Bl
noncomputable def inv:List Int->Nat
 | []=>0
 | x::l=>l.countP (fun y=>decide (y < x))+inv l
noncomputable def bT (a b:List Int):Nat:=(a.map fun x=>b.countP fun y=>decide (y < x)).sum
theorem fh (x:Int) (a b:List Int):bT (x::a) b=b.countP (fun y=>decide (y < x))+bT a b:=rfl
theorem bh:∀ (a b:List Int),inv (a++b)=inv a+inv b+bT a b
 | [],b=>by show inv b=0+inv b+0;omega
 | x::a,b=>by
  show (a++b).countP _+inv (a++b)=(a.countP _+inv a)+inv b+bT (x::a) b
  rw [List.countP_append,bh a b,fh];omega
theorem jH:∀ {a b:List Nat},a.Perm b->a.sum=b.sum
 | _,_,.nil=>rfl
 | _,_,.cons x h=>by rw [List.sum_cons,List.sum_cons,jH h]
 | _,_,.swap x y l=>by rw [List.sum_cons,List.sum_cons,List.sum_cons,List.sum_cons];omega
 | _,_,.trans h k=>(jH h).trans (jH k)
theorem uQ {a a':List Int} (b:List Int) (h:a.Perm a'):bT a b=bT a' b:=jH (h.map _)
theorem vq (a:List Int) {b b':List Int} (h:b.Perm b'):bT a b=bT a b':=by
 unfold bT
 congr 1
 refine List.map_congr_left fun x _=>h.countP_eq _
theorem pU {M:List Int} {x y:Int} (h:∀ m∈M,m < x\/y < m) (hxy:x < y):M.countP (fun m=>decide (m < x))=M.countP (fun m=>decide (m < y)):=by
 refine List.countP_congr fun m hm=>?_
 rw [decide_eq_true_iff,decide_eq_true_iff]
 rcases h m hm with z | z <;> omega
theorem kK:∀ {M:List Int} {x y:Int},(∀ m∈M,m < x\/y < m)->x < y->bT M [x]=bT M [y]
 | [],_,_,_,_=>rfl
 | m::M,x,y,h,hxy=>by
  rw [fh,fh,kK (fun m' hm=>h m' (List.mem_cons_of_mem _ hm)) hxy]
  congr 1
  have:=h m (List.mem_cons_self ..)
  simp only [List.countP_cons,List.countP_nil]
  by_cases c:x < m
  ·rw [decide_eq_true c,decide_eq_true (show y < m by omega)]
  ·rw [decide_eq_false c,decide_eq_false (show ¬ y < m by omega)]
theorem mid {M:List Int} {x y:Int} (h:∀ m∈M,m < x\/y < m) (hxy:x < y):inv ([y]++M++[x])=inv ([x]++M++[y])+1:=by
 rw [bh,bh,bh ([x]++M),bh [x]]
 have e1:bT [y] M=bT [x] M:=by
  show M.countP _+0=M.countP _+0
  rw [pU h hxy]
 have e2:bT ([y]++M) [x]=1+bT M [x]:=by
  show [x].countP _+bT M [x]=_
  rw [List.countP_cons,decide_eq_true hxy];rfl
 have e3:bT ([x]++M) [y]=bT M [y]:=by
  show [y].countP _+bT M [y]=_
  rw [List.countP_cons,decide_eq_false (by omega:¬ y < x)];simp
 rw [e1,e2,e3,kK h hxy]
 show 0+inv M+_+0+_=0+inv M+_+0+_+1
 omega
theorem m8 (M:List Int) (x y:Int):([y]++M++[x]).Perm ([x]++M++[y]):=by
 refine (List.perm_append_comm (l₁:=[y]++M) (l₂:=[x])).trans ?_
 show (x::(y::M)).Perm (x::(M++[y]))
 exact .cons x (List.perm_append_comm (l₁:=[y]) (l₂:=M))
theorem step {P M R:List Int} {x y:Int} (h:∀ m∈M,m < x\/y < m) (hxy:x < y):inv (P++([y]++M++[x])++R)=inv (P++([x]++M++[y])++R)+1:=by
 have p:=m8 M x y
 rw [bh,bh P,bh (P++([x]++M++[y])),bh P,mid h hxy,vq P p,uQ R (p.append_left P)]
 omega
noncomputable def sw (a:List Int) (i j:Nat):List Int:=(a.set i (a.getD j 0)).set j (a.getD i 0)
theorem IV (a:List Int) (i j:Nat):(sw a i j).length=a.length:=by unfold sw;rw [List.length_set,List.length_set]
theorem split {a:List Int} {i j:Nat} (hij:i < j) (hj:j < a.length):∃ P M R:List Int,a=P++([a.getD i 0]++M++[a.getD j 0])++R/\P=a.take i/\(∀ m∈M,∃ k,i < k/\k < j/\a[k]?=some m)/\sw a i j=P++([a.getD j 0]++M++[a.getD i 0])++R:=by
 have gi:a.getD i 0=a[i]:=by rw [List.getD_eq_getElem?_getD,List.getElem?_eq_getElem (by omega)];rfl
 have gj:a.getD j 0=a[j]:=by rw [List.getD_eq_getElem?_getD,List.getElem?_eq_getElem hj];rfl
 obtain ⟨M,hM⟩:∃ M,M=(a.drop (i+1)).take (j - i - 1):=⟨_,rfl⟩
 have lM:M.length=j - i - 1:=by rw [hM,List.length_take,List.length_drop];omega
 have ea:a=a.take i++([a.getD i 0]++M++[a.getD j 0])++a.drop (j+1):=by
  have h1:a.drop i=a[i]::a.drop (i+1):=List.drop_eq_getElem_cons (by omega)
  have h2:a.drop (i+1)=M++a.drop j:=by
   rw [hM]
   have:=List.take_append_drop (j - i - 1) (a.drop (i+1))
   rw [List.drop_drop,show i+1+(j - i - 1)=j by omega] at this
   exact this.symm
  have h3:a.drop j=a[j]::a.drop (j+1):=List.drop_eq_getElem_cons hj
  conv=>lhs;rw [<- List.take_append_drop i a,h1,h2,h3]
  rw [gi,gj];simp
 refine ⟨a.take i,M,a.drop (j+1),ea,rfl,fun m hm=>?_,?_⟩
 ·rw [hM] at hm
  obtain ⟨k,hk⟩:=List.getElem?_of_mem hm
  have hlt:k < j - i - 1:=by
   have:=(List.getElem?_eq_some_iff.mp hk).1
   rw [List.length_take] at this;omega
  rw [List.getElem?_take_of_lt hlt,List.getElem?_drop] at hk
  exact ⟨i+1+k,by omega,by omega,hk⟩
 ·have key:∀ (P R:List Int) (x y x' y':Int),P.length=i->((P++([x]++M++[y])++R).set i y').set j x'=P++([y']++M++[x'])++R:=fun P R x y x' y' lP=>by
   rw [List.append_assoc,List.set_append_right _ _ (by omega),lP,Nat.sub_self]
   show (P++(y'::((M++[y])++R))).set j x'=_
   rw [List.set_append_right _ _ (by omega),lP,show j - i=(j - i - 1)+1 by omega,List.set_cons_succ,List.append_assoc,List.set_append_right _ _ (by omega),lM,Nat.sub_self]
   simp
  have:=key (a.take i) (a.drop (j+1)) (a.getD i 0) (a.getD j 0) (a.getD i 0) (a.getD j 0) (by rw [List.length_take];omega)
  rw [<- ea] at this
  exact this
theorem xD {a:List Int} {i:Nat} (h:i < a.length):a[i]?=some (a.getD i 0):=by rw [List.getD_eq_getElem?_getD,List.getElem?_eq_getElem h];rfl
end Iv
namespace Nu
open PySem L2
noncomputable def jm:Nat->Nat
 | 0=>1
 | n+1=>(n+1) * jm n
theorem xw:∀ n,0 < jm n
 | 0=>Nat.one_pos
 | n+1=>Nat.mul_pos (Nat.succ_pos _) (xw n)
theorem qS (n:Nat):jm n<=jm (n+1):=Nat.le_mul_of_pos_left _ (Nat.succ_pos _)
theorem B6 {a b:Nat} (h:a<=b):jm a<=jm b:=by
 induction h with
 | refl=>exact Nat.le_refl _
 | step _ ih=>exact Nat.le_trans ih (qS _)
noncomputable def rank:List Int->Nat
 | []=>0
 | x::xs=>(xs.filter (· < x)).length * jm xs.length+rank xs
noncomputable def Lw:Nat->List Int->Nat->List Int
 | 0,_,_=>[]
 | n+1,l,m=>l.getD (m / jm n) 0::Lw n (l.eraseIdx (m / jm n)) (m % jm n)
theorem yP {l:List Int} {q:Nat} (hs:l.Pairwise (· < ·)) (h:q < l.length):((l.eraseIdx q).filter (· < l[q])).length=q:=by
 have e:l=l.take q++l[q]::l.drop (q+1):=by rw [List.getElem_cons_drop,List.take_append_drop]
 rw [List.eraseIdx_eq_take_drop_succ,List.filter_append]
 have hs':=hs
 rw [e,List.pairwise_append] at hs'
 obtain ⟨_,h2,h3⟩:=hs'
 rw [List.filter_eq_self.mpr fun a ha=>decide_eq_true (h3 a ha _ (List.mem_cons_self ..)),List.filter_eq_nil_iff.mpr fun a ha z=>?_]
 ·rw [List.append_nil,List.length_take];omega
 ·have z:=of_decide_eq_true z
  have:=(List.pairwise_cons.mp h2).1 a ha
  omega
theorem gG {l:List Int} {i:Nat} (h:i < l.length):(l[i]::l.eraseIdx i).Perm l:=by
 have e:l=l.take i++l[i]::l.drop (i+1):=by rw [List.getElem_cons_drop,List.take_append_drop]
 rw [List.eraseIdx_eq_take_drop_succ]
 exact (List.perm_middle.symm).trans (by rw [<- e])
theorem EB {l:List Int} {q:Nat} (h:q < l.length):l.getD q 0=l[q]:=by rw [List.getD_eq_getElem?_getD,List.getElem?_eq_getElem h];rfl
theorem xF:∀ (n:Nat) (l xs:List Int),l.length=n->l.Pairwise (· < ·)->xs.Perm l->rank xs < jm n/\Lw n l (rank xs)=xs
 | 0,l,xs,hl,_,hp=>by
  have:l=[]:=List.eq_nil_of_length_eq_zero hl
  subst this
  have:=hp.eq_nil
  subst this
  exact ⟨Nat.one_pos,rfl⟩
 | n+1,l,[],hl,_,hp=>by have:=hp.length_eq;rw [hl] at this;cases this
 | n+1,l,x::xs,hl,hs,hp=>by
  have hx:x∈l:=hp.mem_iff.mp (List.mem_cons_self ..)
  obtain ⟨j,hj,ej⟩:=List.getElem_of_mem hx
  have hp':xs.Perm (l.eraseIdx j):=by
   have h1:=gG hj
   rw [ej] at h1
   exact (hp.trans h1.symm).cons_inv
  have le:(l.eraseIdx j).length=n:=by rw [List.length_eraseIdx,if_pos hj];omega
  obtain ⟨h1,h2⟩:=xF n (l.eraseIdx j) xs le (hs.sublist (List.eraseIdx_sublist ..)) hp'
  have hc:(xs.filter (· < x)).length=j:=by
   rw [(hp'.filter _).length_eq,<- ej];exact yP hs hj
  have lx:xs.length=n:=by rw [hp'.length_eq,le]
  have er:rank (x::xs)=j * jm n+rank xs:=by
   show (xs.filter (· < x)).length * jm xs.length+rank xs=_
   rw [hc,lx]
  have ed:(j * jm n+rank xs) / jm n=j:=by
   rw [Nat.mul_comm,Nat.mul_add_div (xw n),Nat.div_eq_of_lt h1];rfl
  have em:(j * jm n+rank xs) % jm n=rank xs:=by
   rw [Nat.mul_comm,Nat.mul_add_mod,Nat.mod_eq_of_lt h1]
  rw [er]
  refine ⟨?_,?_⟩
  ·show _ < (n+1) * jm n
   calc j * jm n+rank xs < j * jm n+jm n:=by omega
    _=(j+1) * jm n:=(Nat.succ_mul _ _).symm
    _<=(n+1) * jm n:=Nat.mul_le_mul_right _ (by omega)
  ·show l.getD ((j * jm n+rank xs) / jm n) 0::Lw n (l.eraseIdx ((j * jm n+rank xs) / jm n)) ((j * jm n+rank xs) % jm n)=_
   rw [ed,em,EB hj,ej,h2]
theorem Hq (i j:Int):(bg i j).Pairwise (· < ·):=by
 unfold bg
 rw [List.pairwise_map]
 exact List.pairwise_lt_range.imp fun h=>by omega
end Nu
namespace Fw
open PySem L2 Bl
open Wd (ex led)
noncomputable abbrev rg (n:Nat):List Int:=bg 1 ((n:Int)+1)
noncomputable def Va (n:Nat) (w:List Nat):Prop:=∀ k∈w,1<=k/\k < n
noncomputable def Nz (l:List Int) (k:Nat):Prop:=1<=k/\k < l.length/\l.getD k 0 < l.getD (k - 1) 0
structure Two (n:Nat) (o u:List Int):Prop where
 po:o.Perm (rg n)
 pu:u.Perm (rg n)
 ou:HH o u
end Fw
namespace Ti
open PySem L2 Bl
open Wd (ex led)
open Fw (rg Va Nz)
inductive Mv:List Nat->List Nat->Prop
 | comm (P R:List Nat) (a b:Nat) (h:a+2<=b\/b+2<=a):Mv (P++a::b::R) (P++b::a::R)
 | braid (P R:List Nat) (a b:Nat) (h:a+1=b\/b+1=a):Mv (P++a::b::a::R) (P++b::a::b::R)
inductive Con:List Nat->List Nat->Prop
 | refl (u:List Nat):Con u u
 | step {u v w:List Nat} (h:Con u v) (m:Mv v w):Con u w
theorem pm {n:Nat} {w:List Nat} (h:Va n w):(led (rg n) w).Perm (rg n):=Wd.sL (by rw [Wd.lC];exact h)
theorem ln {n:Nat} {w:List Nat}:(led (rg n) w).length=n:=by rw [Wd.xr,Wd.lC]
end Ti
namespace Rd
open PySem L2
open Ti (Mv Con)
noncomputable abbrev up (v:List Nat):List Int:=v.map fun k:Nat=>(k:Int)
theorem zC {v:List Nat} {p:Nat} (h:p+1 < v.length):v=v.take p++v.getD p 0::v.getD (p+1) 0::v.drop (p+2):=by
 have g:∀ q,q < v.length->v.getD q 0=v[q]!:=fun q hq=>by simp [List.getD_eq_getElem?_getD,hq]
 rw [show v.getD p 0=v[p] by rw [List.getD_eq_getElem?_getD,List.getElem?_eq_getElem (by omega)];rfl,show v.getD (p+1) 0=v[p+1] by rw [List.getD_eq_getElem?_getD,List.getElem?_eq_getElem h];rfl,
  List.getElem_cons_drop,List.getElem_cons_drop,List.take_append_drop]
theorem jU:∀ (N:Nat) (l:List Nat),l.Nodup->(∀ x∈l,x < N)->l.length<=N
 | 0,l,_,h=>by
  cases l with
  | nil=>exact Nat.le_refl _
  | cons x l=>exact absurd (h x (List.mem_cons_self ..)) (Nat.not_lt_zero _)
 | N+1,l,hn,h=>by
  by_cases c:N∈l
  ·have h1:=jU N (l.erase N) (hn.erase N) fun x hx=>by
    have h1:=(List.Nodup.mem_erase_iff hn).mp hx
    have:=h x h1.2
    have:=h1.1
    omega
   have:=List.length_erase_of_mem c
   have:=List.length_pos_of_mem c
   omega
  ·have:=jU N l hn fun x hx=>by
    have:=h x hx
    have:x≠N:=fun z=>c (z ▸ hx)
    omega
   omega
noncomputable def code:List Nat->Nat
 | []=>0
 | a::r=>(a - 1)+8 * code r
noncomputable def vW (L:Nat) (w:List Nat):Prop:=w.length=L/\∀ k∈w,1<=k/\k<=8
theorem w6:∀ {L:Nat} {w:List Nat},vW L w->code w < 8 ^ L
 | 0,[],_=>by show 0 < 8 ^ 0;decide
 | L+1,a::r,h=>by
  have h1:=w6 (L:=L) (w:=r) ⟨Nat.succ.inj h.1,fun k hk=>h.2 k (List.mem_cons_of_mem _ hk)⟩
  have h2:=h.2 a (List.mem_cons_self ..)
  show (a - 1)+8 * code r < 8 ^ (L+1)
  rw [Nat.pow_succ]
  omega
 | 0,_::_,h=>by cases h.1
 | _+1,[],h=>by cases h.1
theorem code_inj:∀ {L:Nat} {w v:List Nat},vW L w->vW L v->code w=code v->w=v
 | 0,[],[],_,_,_=>rfl
 | L+1,a::r,b::t,h,h',e=>by
  have h2:=h.2 a (List.mem_cons_self ..)
  have h3:=h'.2 b (List.mem_cons_self ..)
  have e:(a - 1)+8 * code r=(b - 1)+8 * code t:=e
  have e1:a=b:=by omega
  have e2:code r=code t:=by omega
  rw [e1,code_inj (L:=L) ⟨Nat.succ.inj h.1,fun k hk=>h.2 k (List.mem_cons_of_mem _ hk)⟩ ⟨Nat.succ.inj h'.1,fun k hk=>h'.2 k (List.mem_cons_of_mem _ hk)⟩ e2]
 | 0,_::_,_,h,_,_=>by cases h.1
 | 0,[],_::_,_,h,_=>by cases h.1
 | _+1,[],_,h,_,_=>by cases h.1
 | _+1,_::_,[],_,h,_=>by cases h.1
theorem few {L:Nat} {ws:List (List Nat)} (hL:L<=8) (hn:ws.Nodup) (h:∀ w∈ws,vW L w):ws.length<=16777216:=by
 have h1:=jU (8 ^ L) (ws.map code) (by
  unfold List.Nodup
  rw [List.pairwise_map]
  exact List.Pairwise.imp_of_mem (fun ha hb hne z=>hne (code_inj (h _ ha) (h _ hb) z)) hn) fun x hx=>by
  obtain ⟨w,hw,rfl⟩:=List.mem_map.mp hx
  exact w6 (h w hw)
 rw [List.length_map] at h1
 exact Nat.le_trans h1 (Nat.le_trans (Nat.pow_le_pow_right (by decide) hL) (by decide))
noncomputable abbrev En:=List Nat×Option (List Nat)
structure Bf (s:List Nat) (es:List En) (done:Nat):Prop where
 nd:(es.map (·.1)).Nodup
 hd:es[0]?=some (s,none)
 pr:∀ i w q,es[i]?=some (w,q)->(i=0/\q=none)\/∃ j r u,j < i/\es[j]?=some (u,r)/\q=some u/\Mv u w
 co:∀ w∈es.map (·.1),Con s w
 cl:∀ i w q,i < done->es[i]?=some (w,q)->∀ w',Mv w w'->w'∈es.map (·.1)
 le:done<=es.length
end Rd
namespace Stp
open PySem L2 Iv
noncomputable def mm (a:List Int) (i j:Nat):List Int:=(a.drop (i+1)).take (j - i - 1)
noncomputable def qL (x y m:Int):Bool:=decide (x < m) && decide (m < y)
theorem JV {x y:Int} (hxy:x < y):∀ {M:List Int},(∀ m∈M,m≠x/\m≠y)->M.countP (fun m=>decide (m < y))=M.countP (fun m=>decide (m < x))+M.countP (qL x y)
 | [],_=>rfl
 | m::M,h=>by
  have ih:=JV hxy (M:=M) fun k hk=>h k (List.mem_cons_of_mem _ hk)
  have hm:=h m (List.mem_cons_self ..)
  rw [List.countP_cons,List.countP_cons,List.countP_cons,ih]
  unfold qL
  by_cases c:m < x
  ·rw [decide_eq_true c,decide_eq_true (show m < y by omega),decide_eq_false (show ¬ x < m by omega)];simp;omega
  ·rw [decide_eq_false c,decide_eq_true (show x < m by omega)]
   by_cases c2:m < y
   ·rw [decide_eq_true c2];simp;omega
   ·rw [decide_eq_false c2];simp
theorem JO {x y:Int} (hxy:x < y):∀ {M:List Int},(∀ m∈M,m≠x/\m≠y)->bT M [x]=bT M [y]+M.countP (qL x y)
 | [],_=>rfl
 | m::M,h=>by
  have ih:=JO hxy (M:=M) fun k hk=>h k (List.mem_cons_of_mem _ hk)
  have hm:=h m (List.mem_cons_self ..)
  rw [fh,fh,ih,List.countP_cons (l:=M)]
  simp only [List.countP_cons,List.countP_nil]
  unfold qL
  by_cases c:x < m
  ·rw [decide_eq_true c]
   by_cases c2:m < y
   ·rw [decide_eq_true c2,decide_eq_false (show ¬ y < m by omega)];simp;omega
   ·rw [decide_eq_false c2,decide_eq_true (show y < m by omega)];simp;omega
  ·rw [decide_eq_false c,decide_eq_false (show ¬ y < m by omega)];simp
theorem LA {M:List Int} {x y:Int} (h:∀ m∈M,m≠x/\m≠y) (hxy:x < y):inv ([y]++M++[x])=inv ([x]++M++[y])+1+2 * M.countP (qL x y):=by
 rw [bh,bh,bh ([x]++M),bh [x]]
 have e1:bT [y] M=bT [x] M+M.countP (qL x y):=by
  show M.countP _+0=M.countP _+0+_
  rw [JV hxy h];omega
 have e2:bT ([y]++M) [x]=1+bT M [x]:=by
  show [x].countP _+bT M [x]=_
  rw [List.countP_cons,decide_eq_true hxy];rfl
 have e3:bT ([x]++M) [y]=bT M [y]:=by
  show [y].countP _+bT M [y]=_
  rw [List.countP_cons,decide_eq_false (by omega:¬ y < x)];simp
 rw [e1,e2,e3,JO hxy h]
 show 0+inv M+_+0+_=0+inv M+_+0+_+1+_
 omega
theorem FA {P M R:List Int} {x y:Int} (h:∀ m∈M,m≠x/\m≠y) (hxy:x < y):inv (P++([y]++M++[x])++R)=inv (P++([x]++M++[y])++R)+1+2 * M.countP (qL x y):=by
 have p:=m8 M x y
 rw [bh,bh P,bh (P++([x]++M++[y])),bh P,LA h hxy,vq P p,uQ R (p.append_left P)]
 omega
theorem parts {a:List Int} {i j:Nat} (hij:i < j) (hj:j < a.length):a=a.take i++([a.getD i 0]++mm a i j++[a.getD j 0])++a.drop (j+1):=by
 have gi:a.getD i 0=a[i]:=by rw [List.getD_eq_getElem?_getD,List.getElem?_eq_getElem (by omega)];rfl
 have gj:a.getD j 0=a[j]:=by rw [List.getD_eq_getElem?_getD,List.getElem?_eq_getElem hj];rfl
 have h1:a.drop i=a[i]::a.drop (i+1):=List.drop_eq_getElem_cons (by omega)
 have h2:a.drop (i+1)=mm a i j++a.drop j:=by
  have:=List.take_append_drop (j - i - 1) (a.drop (i+1))
  rw [List.drop_drop,show i+1+(j - i - 1)=j by omega] at this
  exact this.symm
 have h3:a.drop j=a[j]::a.drop (j+1):=List.drop_eq_getElem_cons hj
 conv=>lhs;rw [<- List.take_append_drop i a,h1,h2,h3]
 rw [gi,gj];simp
theorem LU {a:List Int} {i j:Nat} (hij:i < j) (hj:j < a.length):sw a i j=a.take i++([a.getD j 0]++mm a i j++[a.getD i 0])++a.drop (j+1):=by
 have lM:(mm a i j).length=j - i - 1:=by unfold mm;rw [List.length_take,List.length_drop];omega
 have key:∀ (P R:List Int) (x y x' y':Int),P.length=i->((P++([x]++mm a i j++[y])++R).set i y').set j x'=P++([y']++mm a i j++[x'])++R:=fun P R x y x' y' lP=>by
  rw [List.append_assoc,List.set_append_right _ _ (by omega),lP,Nat.sub_self]
  show (P++(y'::((mm a i j++[y])++R))).set j x'=_
  rw [List.set_append_right _ _ (by omega),lP,show j - i=(j - i - 1)+1 by omega,List.set_cons_succ,List.append_assoc,List.set_append_right _ _ (by omega),lM,Nat.sub_self]
  simp
 have:=key (a.take i) (a.drop (j+1)) (a.getD i 0) (a.getD j 0) (a.getD i 0) (a.getD j 0) (by rw [List.length_take];omega)
 rw [<- parts hij hj] at this
 exact this
noncomputable def Jw (a:List Int) (i j:Nat):Bool:=!(mm a i j).any fun m=>qL (if a.getD j 0 < a.getD i 0 then a.getD j 0 else a.getD i 0) (if a.getD j 0 > a.getD i 0 then a.getD j 0 else a.getD i 0) m
theorem D3 {a:List Int} {i j:Nat} (hij:i < j) (hj:j < a.length):(sw a i j).Perm a:=by
 have e:=parts hij hj
 rw [LU hij hj]
 conv=>rhs;rw [e]
 exact ((m8 _ _ _).append_left _).append_right _
end Stp
namespace K20
open PySem L2 Am
noncomputable def top (i:Nat):Stmt:=PySem.Challenge.pw_undercells_k20_between_refused.main.body.getD i (.Pass ⟨0,0,0,0⟩)
noncomputable abbrev dD:Stmt:=top 11
noncomputable def iC:List Str:=["one", "other"]
noncomputable def fP:Sm:=
 qd (jw (aK (qD true) (aV (f1 dm) (aj (ah 0) (aM))) (aV (f1 dm) (aj (ah 1) (aM)))))
 (mE "NoPair" [.inl "orders of ",.inr (aV (f1 dm) (aj (ah 0) (aM))),.inl " and of ",.inr (aV (f1 dm) (aj (ah 1) (aM))),.inl " things"])
 (gH)
noncomputable def bK:List A->aA->R A:=dS iC fP
noncomputable abbrev bF:Stmt:=top 12
noncomputable def fC:List Str:=["order", "i", "j", "things"]
noncomputable def dw:Sm:=
 bA (bY (aV (f1 kL) (aj (ah 0) (aM))) (bR 3))
 (bA (bY (iQ (aj (aK fQ (ah 3) (aK aSub (ah 2) (eC (.int 1)))) (aj (aK fQ (ah 3) (aK aSub (ah 1) (eC (.int 1)))) (aM)))) (p7 2 (gW (Gm (ah 3) (aK aSub (ah 1) (eC (.int 1)))) (gW (Gm (ah 3) (aK aSub (ah 2) (eC (.int 1)))) (qu)))))
 (cQ (aV (f1 gY) (aj (ah 3) (aM)))))
noncomputable def bq:List A->aA->R A:=dS fC dw
noncomputable abbrev cG:Stmt:=top 13
noncomputable def jc:List Str:=["n"]
noncomputable def fY:Sm:=
 cQ (uB [none,none,some 0] (gS (eC (.int 1)) (ah 0)) (bR 0) (ql) (gS (aK dc (ah 0) (eC (.int 1))) (aK dc (ah 2) (eC (.int 1)))) (bR 1) (ql) (iQ (aj (ah 0) (aj (ah 1) (aM)))))
noncomputable def bC:List A->aA->R A:=dS jc fY
noncomputable abbrev cH:Stmt:=top 14
noncomputable def iY:List Str:=["order"]
noncomputable def f_:Sm:=
 cQ (cU [none,none,some 0] (jP (eFn bC (aj (aV (f1 dm) (aj (ah 0) (aM))) (aM)))) (p7 2 (gW (bR 0) (gW (bR 1) (qu)))) (jw (aK sY (aK fQ (ah 2) (aK aSub (ah 0) (eC (.int 1)))) (aK fQ (ah 2) (aK aSub (ah 1) (eC (.int 1)))))) (iQ (aj (ah 0) (aj (ah 1) (aM)))))
noncomputable def cM:List A->aA->R A:=dS iY f_
noncomputable abbrev gh:Stmt:=top 15
noncomputable def rR:List Str:=["order"]
noncomputable def mF:Sm:=
 cQ (aV (f1 dm) (aj (eFn cM (aj (ah 0) (aM))) (aM)))
noncomputable def ee:List A->aA->R A:=dS rR mF
noncomputable abbrev bB:Stmt:=top 18
noncomputable def eE:List Str:=["numbers", "place"]
noncomputable def dO:Te:=
 jw (aK Lr (aK fQ (ah 0) (aK aSub (ah 1) (eC (.int 1)))) (eC (.int 0)))
noncomputable def dJ:Sm:=
 CQ 1 yZ (eC (.int 1))
noncomputable def cT:Sm:=
 bA (bY (eC (.int 1)) (bR 1))
 (bA (dg (dO)
 (dJ) 1000000)
 (cQ (ah 1)))
noncomputable def bz:List A->aA->R A:=dS eE cT
noncomputable abbrev oY:Stmt:=top 17
noncomputable def Ff:List Str:=["one", "other", "more", "at", "j"]
noncomputable def vA:Ic:=
 ir (aK fQ (ah 0) (ah 3))
noncomputable def vS:Sm:=
 nL (ah 2) (ah 4) (eC (.int 1)) yZ
noncomputable def xS:Ic:=
 ir (aK fQ (ah 1) (ah 3))
noncomputable def uS:Sm:=
 nL (ah 2) (ah 4) (eC (.int 1)) aSub
noncomputable def EM:Ic:=
 ir (aV (f1 dm) (aj (ah 0) (aM)))
noncomputable def vg:Sm:=
 bA (jh (vA) (bR 4)
 (vS))
 (bA (jh (xS) (bR 4)
 (uS))
 (qd (jw (aK sY (aV (f1 CS) (aj (ah 2) (aM))) (eC (.int 0))))
 (cQ (iQ (aj (aK dc (ah 3) (eC (.int 1))) (aj (eFn bz (aj (ah 2) (aM))) (aM)))))
 (gH)))
noncomputable def By:Sm:=
 bA (kN (qf bK (aj (ah 0) (aj (ah 1) (aM)))))
 (bA (bY (aK gQ (jx (aj (eC (.int 0)) (aM))) (aV (f1 dm) (aj (ah 0) (aM)))) (bR 2))
 (bA (jh (EM) (bR 3)
 (vg))
 (cQ (eC .non))))
noncomputable def m9:List A->aA->R A:=dS Ff By
noncomputable abbrev dU:Stmt:=top 19
noncomputable def jl:List Str:=["one", "other"]
noncomputable def gK:Sm:=
 cQ (aK (Dh false) (qf m9 (aj (ah 0) (aj (ah 1) (aM)))) (eC .non))
noncomputable def cC:List A->aA->R A:=dS jl gK
noncomputable abbrev cJ:Stmt:=top 21
noncomputable def iW:List Str:=["one", "other", "free_things", "most_things", "most_pairs"]
noncomputable def fU:Sm:=
 bA (qd (jw (aK Lr (aV (f1 dm) (aj (ah 0) (aM))) (ah 2)))
 (BI)
 (gH))
 (qd (Gq (jw (aK sY (aV (f1 dm) (aj (ah 0) (aM))) (ah 3))) (jw (aK sY (aK aSub (eFn ee (aj (ah 1) (aM))) (eFn ee (aj (ah 0) (aM)))) (ah 4))))
 (mE "TooMany" [])
 (gH))
noncomputable def bW:List A->aA->R A:=dS iW fU
noncomputable abbrev eV:Stmt:=top 26
noncomputable def oV:List Str:=["order", "i", "j", "low", "high"]
noncomputable def j3:Sm:=
 bA (bY (aV (f2 xV) (aj (aK fQ (ah 0) (aK aSub (ah 1) (eC (.int 1)))) (aj (aK fQ (ah 0) (aK aSub (ah 2) (eC (.int 1)))) (aM)))) (bR 3))
 (bA (bY (aV (f2 xC) (aj (aK fQ (ah 0) (aK aSub (ah 1) (eC (.int 1)))) (aj (aK fQ (ah 0) (aK aSub (ah 2) (eC (.int 1)))) (aM)))) (bR 4))
 (cQ (GZ (aV (f1 Hu) (aj (cU [none,some 3,some 4] (jP (Jq (ah 0) (jB (ah 1)) (jB (aK aSub (ah 2) (eC (.int 1)))))) (bR 0) (ql) (Dz zh zh (ah 1) (ah 0) (ah 2))) (aM))))))
noncomputable def dF:List A->aA->R A:=dS oV j3
noncomputable abbrev iH:Stmt:=top 27
noncomputable def v_:List Str:=["order", "pairs"]
noncomputable def qA:Sm:=
 cQ (aV (f1 jJ) (aj (cU [none,none,some 0] (jP (ah 1)) (p7 2 (gW (bR 0) (gW (bR 1) (qu)))) (jo (eFn dF (aj (ah 2) (aj (ah 0) (aj (ah 1) (aM)))))) (eFn bq (aj (ah 2) (aj (ah 0) (aj (ah 1) (aM)))))) (aM)))
noncomputable def iN:List A->aA->R A:=dS v_ qA
noncomputable abbrev cK:Stmt:=top 28
noncomputable def iX:List Str:=["order"]
noncomputable def fX:Sm:=
 cQ (eFn iN (aj (ah 0) (aj (cU [none,none,some 0] (jP (eFn bC (aj (aV (f1 dm) (aj (ah 0) (aM))) (aM)))) (p7 2 (gW (bR 0) (gW (bR 1) (qu)))) (jw (aK zh (aK fQ (ah 2) (aK aSub (ah 0) (eC (.int 1)))) (aK fQ (ah 2) (aK aSub (ah 1) (eC (.int 1)))))) (iQ (aj (ah 0) (aj (ah 1) (aM))))) (aM))))
noncomputable def cL:List A->aA->R A:=dS iX fX
noncomputable abbrev eU:Stmt:=top 29
noncomputable def gf:List Str:=["one", "other", "looked_at", "waiting", "here", "step"]
noncomputable def fO:Ic:=
 jP (eFn cL (aj (ah 4) (aM)))
noncomputable def iy:Sm:=
 qd (jw (aK (Jk true) (ah 5) (ah 2)))
 (bA (bY (qf cC (aj (ah 5) (aj (ah 1) (aM)))) (H_ (ah 2) (ah 5)))
 (qd (jo (aK EC (ah 2) (ah 5)))
 (kN (Jx lE (ah 3) (aj (ah 5) (aM))))
 (gH)))
 (gH)
noncomputable def gX:Te:=
 jo (ah 3)
noncomputable def gZ:Sm:=
 bA (bY (Ho Ia (ah 3)) (bR 4))
 (jh (fO) (bR 5)
 (iy))
noncomputable def eY:Sm:=
 bA (kN (qf bK (aj (ah 0) (aj (ah 1) (aM)))))
 (bA (kN (qf bW (aj (ah 0) (aj (ah 1) (aj (eC (.int 6)) (aj (eC (.int 9)) (aj (eC (.int 4)) (aM))))))))
 (bA (qd (Ak (jo (qf cC (aj (ah 0) (aj (ah 1) (aM))))))
 (cQ (jx (aM)))
 (gH))
 (bA (bY (A5 (ah 0) (eC (.bl true))) (bR 2))
 (bA (bY (jx (aj (ah 0) (aM))) (bR 3))
 (bA (dg (gX)
 (gZ) 1000000)
 (cQ (aV (f1 jJ) (aj (cU [none,none] (yo (ah 2)) (p7 2 (gW (bR 0) (gW (bR 1) (qu)))) (jo (ah 1)) (ah 0)) (aM)))))))))
noncomputable def bH:List A->aA->R A:=dS gf eY
noncomputable abbrev eZ:Stmt:=top 31
noncomputable def oR:List Str:=["_law_script", "_law_k", "_law_cell", "_law_state"]
noncomputable def jY:Sm:=
 bA (bY (eC (.int 0)) (bR 2))
 (bA (qd (jw (aK zh (ah 1) (aV (f1 dm) (aj (ah 0) (aM)))))
 (bY (aV (f1 Jd) (aj (aK fQ (ah 0) (ah 1)) (aM))) (bR 2))
 (gH))
 (bA (bY (aK dc (eC (.int 1)) (aK kQ (aK dc (aK dc (aK dc (aK kQ (ah 2) (eC (.int 2147483647))) (aK gQ (aK gQ (eC (.int 7919)) (ah 1)) (ah 1))) (aK gQ (eC (.int 17)) (ah 1))) (eC (.int 3))) (eC (.int 2147483646)))) (bR 3))
 (cQ (jx (aj (aK gQ (ah 2) (aV (f1 pq) (aj (aK Lm (ah 2) (aK E2 (eC (.int 10)) (eC (.int 18)))) (aM)))) (aj (ah 3) (aM)))))))
noncomputable def eX:List A->aA->R A:=dS oR jY
noncomputable abbrev dH:Stmt:=top 32
noncomputable def h_:List Str:=["_law_bag_here", "_law_many", "_law_found"]
noncomputable def fK:Sm:=
 bA (qd (jw (aK sY (aK fQ (ah 0) (eC (.int 0))) (eC (.int 0))))
 (bA (bY (aK kQ (aK fQ (ah 0) (eC (.int 0))) (ah 1)) (bR 2))
 (bA (bY (aK sA (aK fQ (ah 0) (eC (.int 0))) (ah 1)) (Gm (ah 0) (eC (.int 0))))
 (cQ (ah 2))))
 (gH))
 (bA (bY (aK kQ (aK gQ (aK fQ (ah 0) (eC (.int 1))) (eC (.int 48271))) (eC (.int 2147483647))) (Gm (ah 0) (eC (.int 1))))
 (cQ (aK kQ (aK sA (aK kQ (aK gQ (aK fQ (ah 0) (eC (.int 1))) (aK dc (aK sA (aK fQ (ah 0) (eC (.int 1))) (eC (.int 65536))) (eC (.int 9)))) (eC (.int 2147483629))) (eC (.int 32))) (ah 1))))
noncomputable def aT:List A->aA->R A:=dS h_ fK
noncomputable abbrev e_:Stmt:=top 33
noncomputable def pe:List Str:=["_law_bag_here", "_law_n", "_law_left", "_law_found", "_law_at"]
noncomputable def iz:Te:=
 jw (aK sY (aV (f1 dm) (aj (ah 2) (aM))) (eC (.int 0)))
noncomputable def g8:Sm:=
 bA (bY (eFn aT (aj (ah 0) (aj (aV (f1 dm) (aj (ah 2) (aM))) (aM)))) (bR 4))
 (bA (kN (Jx lE (ah 3) (aj (aK fQ (ah 2) (ah 4)) (aM))))
 (bY (aK dc (Jq (ah 2) rq (jB (ah 4))) (Jq (ah 2) (jB (aK dc (ah 4) (eC (.int 1)))) rq)) (bR 2)))
noncomputable def ko:Sm:=
 bA (bY (aV (f1 kL) (aj (aV (f2 lK) (aj (eC (.int 1)) (aj (aK dc (ah 1) (eC (.int 1))) (aM)))) (aM))) (bR 2))
 (bA (bY (jx (aM)) (bR 3))
 (bA (dg (iz)
 (g8) 1000000)
 (cQ (aV (f1 gY) (aj (ah 3) (aM))))))
noncomputable def e9:List A->aA->R A:=dS pe ko
noncomputable abbrev dG:Stmt:=top 34
noncomputable def kH:List Str:=["_law_bag_here", "_law_n", "_law_way", "_law_found", "_law_k", "_law_i", "_law_j"]
noncomputable def jb:Ic:=
 ir (eFn aT (aj (ah 0) (aj (eC (.int 7)) (aM))))
noncomputable def fV:Sm:=
 bA (bY (eFn aT (aj (ah 0) (aj (ah 1) (aM)))) (bR 5))
 (bA (bY (eFn aT (aj (ah 0) (aj (ah 1) (aM)))) (bR 6))
 (bY (iQ (aj (aK fQ (ah 3) (ah 6)) (aj (aK fQ (ah 3) (ah 5)) (aM)))) (p7 2 (gW (Gm (ah 3) (ah 5)) (gW (Gm (ah 3) (ah 6)) (qu))))))
noncomputable def ie:Sm:=
 bA (bY (eFn aT (aj (ah 0) (aj (eC (.int 4)) (aM)))) (bR 2))
 (bA (qd (jw (aK sY (ah 2) (eC (.int 1))))
 (cQ (eFn e9 (aj (ah 0) (aj (ah 1) (aM)))))
 (gH))
 (bA (bY (aV (f1 kL) (aj (aV (f2 lK) (aj (eC (.int 1)) (aj (aK dc (ah 1) (eC (.int 1))) (aM)))) (aM))) (bR 3))
 (bA (qd (jw (aK (qD false) (ah 2) (eC (.int 1))))
 (bY (Ml BR (ah 3)) (bR 3))
 (gH))
 (bA (jh (jb) (bR 4)
 (fV))
 (cQ (aV (f1 gY) (aj (ah 3) (aM))))))))
noncomputable def cj:List A->aA->R A:=dS kH ie
noncomputable abbrev dB:Stmt:=top 35
noncomputable def kE:List Str:=["_law_order_here", "_law_n", "_law_found", "_law_i"]
noncomputable def iZ:Ic:=
 ir (ah 1)
noncomputable def ja:Sm:=
 kN (Jx pL (ah 2) (aj (cU [none,some 3,some 0] (gS (aK dc (ah 3) (eC (.int 1))) (ah 1)) (bR 0) (jw (aK sY (aK fQ (ah 2) (ah 1)) (aK fQ (ah 2) (ah 0)))) (iQ (aj (aK dc (ah 1) (eC (.int 1))) (aj (aK dc (ah 0) (eC (.int 1))) (aM))))) (aM)))
noncomputable def g9:Sm:=
 bA (bY (aV (f1 dm) (aj (ah 0) (aM))) (bR 1))
 (bA (bY (jx (aM)) (bR 2))
 (bA (jh (iZ) (bR 3)
 (ja))
 (cQ (ah 2))))
noncomputable def cu:List A->aA->R A:=dS kE g9
noncomputable abbrev d9:Stmt:=top 36
noncomputable def ni:List Str:=["_law_one", "_law_other", "_law_found", "e", "_law_some"]
noncomputable def jt:Sm:=
 bA (qZ 3 5 ["NoPair", "TooMany"] (bY (qf bH (aj (ah 0) (aj (ah 1) (aM)))) (bR 2))
 (bA (bY (jx (aj (kr (tH [("NoPair",true),("TooMany",false)]) (ah 3)) (aj (kr (tH [("NoPair",false),("TooMany",true)]) (ah 3)) (aj (kr (tH [("NoPair",false),("TooMany",false)]) (ah 3)) (aj (kr (tH [("NoPair",false),("TooMany",false)]) (ah 3)) (aM)))))) (bR 4))
 (bA (bY (aK dc (ah 4) (jx (aj (kr (tH [("NoPair",false),("TooMany",false)]) (ah 3)) (aj (kr (tH [("NoPair",false),("TooMany",false)]) (ah 3)) (aj (kr (tH [("NoPair",false),("TooMany",false)]) (ah 3)) (aj (kr (tH [("NoPair",false),("TooMany",false)]) (ah 3)) (aM))))))) (bR 4))
 (bA (qd (Gq (Ak (jo (kr (tH [("NoPair",true),("TooMany",true)]) (ah 3)))) (Gq (jw (aK (qD true) (Jx pQ (ah 4) (aj (eC (.bl true)) (aM))) (eC (.int 1)))) (jw (aK (Ln true) (eC (.bl true)) (Jq (ah 4) rq (jB (eC (.int 2))))))))
 (cQ (eC .non))
 (gH))
 (cQ (aK fQ (jx (aj (eC (.str (PySem.Str.ofString "pair"))) (aj (eC (.str (PySem.Str.ofString "many"))) (aM)))) (DM (ah 4) (aj (eC (.bl true)) (aM)))))))))
 (bA (qd (Ak (jo (aV (f2 Iz) (aj (ah 2) (aj (eC (.ty "list")) (aM))))))
 (cQ (eC .non))
 (gH))
 (cQ (eC (.str (PySem.Str.ofString "")))))
noncomputable def bI:List A->aA->R A:=dS ni jt
noncomputable abbrev ff:Stmt:=top 37
noncomputable def jX:List Str:=["_law_one", "_law_other", "_law_more"]
noncomputable def iF:Sm:=
 bA (qd (jw (aK (qD true) (aV (f1 dm) (aj (ah 0) (aM))) (aV (f1 dm) (aj (ah 1) (aM)))))
 (cQ (eC (.str (PySem.Str.ofString "pair"))))
 (gH))
 (bA (bY (aK aSub (aV (f1 dm) (aj (eFn cu (aj (ah 1) (aM))) (aM))) (aV (f1 dm) (aj (eFn cu (aj (ah 0) (aM))) (aM)))) (bR 2))
 (cQ (aK fQ (jx (aj (eC (.str (PySem.Str.ofString ""))) (aj (eC (.str (PySem.Str.ofString "many"))) (aM)))) (aV (f1 pq) (aj (Lf (aK sY (aV (f1 dm) (aj (ah 0) (aM))) (eC (.int 9))) (DL (aK sY (aV (f1 dm) (aj (ah 0) (aM))) (eC (.int 6))) (aK sY (ah 2) (eC (.int 4))))) (aM))))))
noncomputable def bQ:List A->aA->R A:=dS jX iF
noncomputable abbrev jO:Stmt:=top 38
noncomputable def FD:List Str:=["_law_script", "_law_k", "_law_bag_here", "_law_n", "_law_one", "_law_other"]
noncomputable def vc:Ic:=
 ir (aV (f2 xC) (aj (eC (.int 1)) (aj (aV (f2 xV) (aj (eC (.int 2)) (aj (aV (f1 dm) (aj (ah 0) (aM))) (aM)))) (aM))))
noncomputable def wj:Sm:=
 bA (bY (eFn eX (aj (ah 0) (aj (ah 1) (aM)))) (bR 2))
 (bA (bY (aK dc (eC (.int 1)) (eFn aT (aj (ah 2) (aj (aK fQ (jx (aj (eC (.int 5)) (aj (eC (.int 12)) (aj (eC (.int 20)) (aM))))) (eFn aT (aj (ah 2) (aj (eC (.int 3)) (aM))))) (aM))))) (bR 3))
 (bA (bY (eFn cj (aj (ah 2) (aj (ah 3) (aM)))) (bR 4))
 (bA (qd (jw (aK (qD false) (eFn aT (aj (ah 2) (aj (eC (.int 3)) (aM)))) (eC (.int 0))))
 (bY (aK dc (eC (.int 1)) (eFn aT (aj (ah 2) (aj (eC (.int 20)) (aM))))) (bR 3))
 (gH))
 (bA (bY (eFn cj (aj (ah 2) (aj (ah 3) (aM)))) (bR 5))
 (qd (Gq (jw (aK (qD true) (eFn bI (aj (ah 4) (aj (ah 5) (aM)))) (eFn bQ (aj (ah 4) (aj (ah 5) (aM)))))) (jw (aK (qD true) (eFn bI (aj (ah 5) (aj (ah 4) (aM)))) (eFn bQ (aj (ah 5) (aj (ah 4) (aM)))))))
 (cQ (eC (.bl false)))
 (gH))))))
noncomputable def A4:Sm:=
 bA (jh (vc) (bR 1)
 (wj))
 (cQ (eC (.bl true)))
noncomputable def ow:List A->aA->R A:=dS FD A4
section
variable {P:Program} {w:World} {K:PySem.W.Frag} {mg:Str->Option Value} {base:Heap}
theorem qo:FnScope ["one", "other"] ["one", "other"] (aF dD):=⟨rfl,rfl,rfl,by decide +kernel,rfl,by decide +kernel,by decide +kernel⟩
theorem qx {f:Addr} {fd:FuncData} (F:Fun K "need_pair" "need_pair" dD f fd) {U:Addr} {C_NoPair:Addr} (e_NoPair:ExcK K U "NoPair" C_NoPair) (b_len:mg "len" = none):FnOk P w K mg base (uJ P w) 1 f fd ["one", "other"] (Jt K 2 bK):=fnX (m:=fP) F qo fun cdv B outer s H E hr=>
 aN (eK (bX (Bg hr.units) (aR cZ b_len bP (af (aa 0) (aE))) (aR cZ b_len bP (af (aa 1) (aE))))
 (aN (yG (ps:=[.inl "orders of ",.inr (aV (f1 dm) (aj (ah 0) (aM))),.inl " and of ",.inr (aV (f1 dm) (aj (ah 1) (aM))),.inl " things"]) e_NoPair.n e_NoPair.q hr.hd (.txt (.val (aR cZ b_len bP (af (aa 0) (aE))) (.txt (.val (aR cZ b_len bP (af (aa 1) (aE))) (.txt .nil)))))))
 (b9))
theorem eN:FnScope ["order", "i", "j", "things"] ["order", "i", "j"] (aF bF):=⟨rfl,rfl,rfl,by decide +kernel,rfl,by decide +kernel,by decide +kernel⟩
theorem iR {f:Addr} {fd:FuncData} (F:Fun K "exchanged_places" "exchanged_places" bF f fd) (b_list:mg "list" = none) (b_tuple:mg "tuple" = none):FnOk P w K mg base kJ 1 f fd ["order", "i", "j"] (nS K 3 bq):=tu (m:=dw) F eN fun cdv B outer s H E hr=>
 aJ (bw (i:=3) eN.nd (di (ue rfl) b_list lB (af (aa 0) (aE))))
 (aJ (mK (jg (af (bZ (aa 3) (aP eL (aa 2) (aL))) (af (bZ (aa 3) (aP eL (aa 1) (aL))) (aE)))) (j7 rfl (cE (ku (aa 3) (aP eL (aa 1) (aL))) (cE (ku (aa 3) (aP eL (aa 2) (aL))) (iL)))))
 (aN (bE (di (pX rfl) b_tuple nI (af (aa 3) (aE))))))
theorem nM:FnScope ["n"] ["n"] (aF cG):=⟨rfl,rfl,rfl,by decide +kernel,rfl,by decide +kernel,by decide +kernel⟩
theorem nk {f:Addr} {fd:FuncData} (F:Fun K "place_pairs" "place_pairs" cG f fd) (b_range:mg "range" = none):FnOk P w K mg base kJ 1 f fd ["n"] (nS K 1 bC):=tu (m:=fY) F nM fun cdv B outer s H E hr=>
 aN (bE (zZ (N:=["i", "j", "n"]) (cap:=[none,none,some 0]) rfl (mH ["n"] rfl (by decide +kernel) (by decide +kernel) (by decide +kernel) (by decide +kernel) (by decide +kernel) (List.forall_mem_cons.mpr ⟨by first | exact Or.inl rfl | exact Or.inr rfl,(fun _ h=>nomatch h)⟩) ⟨rfl,by decide +kernel,trivial⟩) (j4 b_range (aL) (aa 0)) (fun _ _ _ _=>bJ (i:=0) (show (["i", "j", "n"]:List Str).Nodup by decide +kernel) rfl (Or.inl rfl) (.inr rfl)) (fun _ _ _ _=>p6) (fun _ _ _ _=>j4 b_range (aP dR (aa 0) (aL)) (aP dR (aa 2) (aL))) (fun _ _ _ _=>bJ (i:=1) (show (["i", "j", "n"]:List Str).Nodup by decide +kernel) rfl (Or.inl rfl) (.inr rfl)) (fun _ _ _ _=>p6) (fun _ _ _ _=>jg (af (aa 0) (af (aa 1) (aE))))))
theorem mz:FnScope ["order"] ["order"] (aF cH):=⟨rfl,rfl,rfl,by decide +kernel,rfl,by decide +kernel,by decide +kernel⟩
theorem mX {f:Addr} {fd:FuncData} (F:Fun K "wrong_pairs" "wrong_pairs" cH f fd) (b_len:mg "len" = none) (G_place_pairs:iK P w K mg base 1 "place_pairs" ["n"] bC):FnOk P w K mg base kJ 2 f fd ["order"] (nS K 1 cM):=tu (m:=f_) F mz fun cdv B outer s H E hr=>
 aN (bE (iD (N:=["i", "j", "order"]) (cap:=[none,none,some 0]) rfl (mH ["order"] rfl (by decide +kernel) (by decide +kernel) (by decide +kernel) (by decide +kernel) (by decide +kernel) (List.forall_mem_cons.mpr ⟨by first | exact Or.inl rfl | exact Or.inr rfl,(fun _ h=>nomatch h)⟩) ⟨rfl,by decide +kernel,trivial⟩) (mV (bU G_place_pairs (hr.mono (by decide)) (af (aR cZ b_len bP (af (aa 0) (aE))) (aE)) (aC aS))) (fun _ _ _ _=>j7 rfl (cE (bJ (i:=0) (show (["i", "j", "order"]:List Str).Nodup by decide +kernel) rfl (Or.inl rfl) (.inr rfl)) (cE (bJ (i:=1) (show (["i", "j", "order"]:List Str).Nodup by decide +kernel) rfl (Or.inl rfl) (.inr rfl)) (iL)))) (fun _ _ _ _=>jR (bX (mL hr.units) (bZ (aa 2) (aP eL (aa 0) (aL))) (bZ (aa 2) (aP eL (aa 1) (aL))))) (fun _ _ _ _=>jg (af (aa 0) (af (aa 1) (aE))))))
theorem yI:FnScope ["order"] ["order"] (aF gh):=⟨rfl,rfl,rfl,by decide +kernel,rfl,by decide +kernel,by decide +kernel⟩
theorem yM {f:Addr} {fd:FuncData} (F:Fun K "length" "length" gh f fd) (b_len:mg "len" = none) (G_wrong_pairs:iK P w K mg base 2 "wrong_pairs" ["order"] cM):FnOk P w K mg base kJ 3 f fd ["order"] (nS K 1 ee):=tu (m:=mF) F yI fun cdv B outer s H E hr=>
 aN (bE (aR cZ b_len bP (af (bU G_wrong_pairs (hr.mono (by decide)) (af (aa 0) (aE)) (aC aS)) (aE))))
theorem cN:FnScope ["numbers", "place"] ["numbers"] (aF bB):=⟨rfl,rfl,rfl,by decide +kernel,rfl,by decide +kernel,by decide +kernel⟩
theorem gT {f:Addr} {fd:FuncData} (F:Fun K "first_above_nought" "first_above_nought" bB f fd):FnOk P w K mg base kJ 1 f fd ["numbers"] (nS K 1 bz):=tu (m:=cT) F cN fun cdv B outer s H E hr=>
 aJ (bw (i:=1) cN.nd (aL))
 (aJ (nH 1000000 PassesOwn.never (bX JK (bZ (aa 0) (aP eL (aa 1) (aL))) (aL))
 (aN (Hv (i:=1) cN.nd (aL) xq)))
 (aN (bE (aa 1))))
theorem lZ:FnScope ["one", "other", "more", "at", "j"] ["one", "other"] (aF oY):=⟨rfl,rfl,rfl,by decide +kernel,rfl,by decide +kernel,by decide +kernel⟩
theorem HV {f:Addr} {fd:FuncData} (F:Fun K "bar" "bar" oY f fd) (b_len:mg "len" = none) (b_range:mg "range" = none) (b_max:mg "max" = none) (G_need_pair:zf P w K mg base 1 "need_pair" ["one", "other"] bK) (G_first_above_nought:iK P w K mg base 1 "first_above_nought" ["numbers"] bz):FnOk P w K mg base (uJ P w) 2 f fd ["one", "other"] (Jt K 2 m9):=fnX (m:=By) F lZ fun cdv B outer s H E hr=>
 aJ (iM (jk G_need_pair (hr.mono (by decide)) (af (aa 0) (af (aa 1) (aE))) (aC (aC aS))))
 (aJ (bw (i:=2) lZ.nd (aP mP (fk (af (aL) (aE))) (aR cZ b_len bP (af (aa 0) (aE)))))
 (aJ (jf PassesOwn.leaving rfl (eW b_range (aR cZ b_len bP (af (aa 0) (aE)))) (bJ (i:=3) lZ.nd)
 (aJ (jf PassesOwn.leaving rfl (eW b_range (bZ (aa 0) (aa 3))) (bJ (i:=4) lZ.nd)
 (aN (vU (aa 2) (aa 4) (aL) xq)))
 (aJ (jf PassesOwn.leaving rfl (eW b_range (bZ (aa 1) (aa 3))) (bJ (i:=4) lZ.nd)
 (aN (vU (aa 2) (aa 4) (aL) EE)))
 (aN (eK (bX (mL hr.units) (aR (Hw rfl) b_max t7 (af (aa 2) (aE))) (aL))
 (aN (bE (jg (af (aP dR (aa 3) (aL)) (af (bU G_first_above_nought (hr.mono (by decide)) (af (aa 2) (aE)) (aC aS)) (aE))))))
 (b9))))))
 (aN (bE (p8)))))
theorem rY:FnScope ["one", "other"] ["one", "other"] (aF dU):=⟨rfl,rfl,rfl,by decide +kernel,rfl,by decide +kernel,by decide +kernel⟩
theorem rL {f:Addr} {fd:FuncData} (F:Fun K "is_below" "is_below" dU f fd) (G_bar:zf P w K mg base 2 "bar" ["one", "other"] m9):FnOk P w K mg base (uJ P w) 3 f fd ["one", "other"] (Jt K 2 cC):=fnX (m:=gK) F rY fun cdv B outer s H E hr=>
 aN (bE (l_ Mb (jk G_bar (hr.mono (by decide)) (af (aa 0) (af (aa 1) (aE))) (aC (aC aS))) (p8)))
theorem lX:FnScope ["one", "other", "free_things", "most_things", "most_pairs"] ["one", "other", "free_things", "most_things", "most_pairs"] (aF cJ):=⟨rfl,rfl,rfl,by decide +kernel,rfl,by decide +kernel,by decide +kernel⟩
theorem mh {f:Addr} {fd:FuncData} (F:Fun K "need_bounds" "need_bounds" cJ f fd) {U:Addr} {C_TooMany:Addr} (e_TooMany:ExcK K U "TooMany" C_TooMany) (b_len:mg "len" = none) (G_length:iK P w K mg base 3 "length" ["order"] ee):FnOk P w K mg base (uJ P w) 4 f fd ["one", "other", "free_things", "most_things", "most_pairs"] (Jt K 5 bW):=fnX (m:=fU) F lX fun cdv B outer s H E hr=>
 aJ (eK (bX JK (aR cZ b_len bP (af (aa 0) (aE))) (aa 2))
 (aN (D4))
 (b9))
 (aN (eK (AW.at (xW (bX (mL hr.units) (aR cZ b_len bP (af (aa 0) (aE))) (aa 3)) (t9 (bX (mL hr.units) (aP eL (bU G_length (hr.mono (by decide)) (af (aa 1) (aE)) (aC aS)) (bU G_length (hr.mono (by decide)) (af (aa 0) (aE)) (aC aS))) (aa 4)))))
 (aN (yW e_TooMany.n e_TooMany.q hr.hd))
 (b9)))
theorem ju:FnScope ["order", "i", "j", "low", "high"] ["order", "i", "j"] (aF eV):=⟨rfl,rfl,rfl,by decide +kernel,rfl,by decide +kernel,by decide +kernel⟩
theorem uF {f:Addr} {fd:FuncData} (F:Fun K "is_step" "is_step" eV f fd) (b_min:mg "min" = none) (b_max:mg "max" = none) (b_any:mg "any" = none):FnOk P w K mg base kJ 1 f fd ["order", "i", "j"] (nS K 3 dF):=tu (m:=j3) F ju fun cdv B outer s H E hr=>
 aJ (bw (i:=3) ju.nd (aR (zw rfl) b_min Az (af (bZ (aa 0) (aP eL (aa 1) (aL))) (af (bZ (aa 0) (aP eL (aa 2) (aL))) (aE)))))
 (aJ (bw (i:=4) ju.nd (aR (BH rfl) b_max t7 (af (bZ (aa 0) (aP eL (aa 1) (aL))) (af (bZ (aa 0) (aP eL (aa 2) (aL))) (aE)))))
 (aN (bE (HR (aR (Ka rfl) b_any G0 (af (iD (N:=["thing", "low", "high"]) (cap:=[none,some 3,some 4]) rfl (mH ["low", "high"] rfl (by decide +kernel) (by decide +kernel) (by decide +kernel) (by decide +kernel) (by decide +kernel) (List.forall_mem_cons.mpr ⟨by first | exact Or.inl rfl | exact Or.inr rfl,(List.forall_mem_cons.mpr ⟨by first | exact Or.inl rfl | exact Or.inr rfl,(fun _ h=>nomatch h)⟩)⟩) ⟨rfl,by decide +kernel,⟨rfl,by decide +kernel,trivial⟩⟩) (mV (wM (aa 0) (jD (aa 1)) (jD (aP eL (aa 2) (aL))))) (fun _ _ _ _=>bJ (i:=0) (show (["thing", "low", "high"]:List Str).Nodup by decide +kernel) rfl (Or.inl rfl) (.inr rfl)) (fun _ _ _ _=>p6) (fun _ _ _ _=>J7 (DR hr.units) (DR hr.units) (aa 1) (aa 0) (aa 2))) (aE)))))))
theorem CP:FnScope ["order", "pairs"] ["order", "pairs"] (aF iH):=⟨rfl,rfl,rfl,by decide +kernel,rfl,by decide +kernel,by decide +kernel⟩
theorem C5 {f:Addr} {fd:FuncData} (F:Fun K "steps" "steps" iH f fd) (b_sorted:mg "sorted" = none) (G_is_step:iK P w K mg base 1 "is_step" ["order", "i", "j"] dF) (G_exchanged_places:iK P w K mg base 1 "exchanged_places" ["order", "i", "j"] bq):FnOk P w K mg base kJ 2 f fd ["order", "pairs"] (nS K 2 iN):=tu (m:=qA) F CP fun cdv B outer s H E hr=>
 aN (bE (aR BN b_sorted pD (af (iD (N:=["i", "j", "order"]) (cap:=[none,none,some 0]) rfl (mH ["order"] rfl (by decide +kernel) (by decide +kernel) (by decide +kernel) (by decide +kernel) (by decide +kernel) (List.forall_mem_cons.mpr ⟨by first | exact Or.inl rfl | exact Or.inr rfl,(fun _ h=>nomatch h)⟩) ⟨rfl,by decide +kernel,trivial⟩) (mV (aa 1)) (fun _ _ _ _=>j7 rfl (cE (bJ (i:=0) (show (["i", "j", "order"]:List Str).Nodup by decide +kernel) rfl (Or.inl rfl) (.inr rfl)) (cE (bJ (i:=1) (show (["i", "j", "order"]:List Str).Nodup by decide +kernel) rfl (Or.inl rfl) (.inr rfl)) (iL)))) (fun _ _ _ _=>jR (jn (bU G_is_step (hr.mono (by decide)) (af (aa 2) (af (aa 0) (af (aa 1) (aE)))) (aC (aC (aC aS)))))) (fun _ _ _ _=>bU G_exchanged_places (hr.mono (by decide)) (af (aa 2) (af (aa 0) (af (aa 1) (aE)))) (aC (aC (aC aS))))) (aE))))
theorem mO:FnScope ["order"] ["order"] (aF cK):=⟨rfl,rfl,rfl,by decide +kernel,rfl,by decide +kernel,by decide +kernel⟩
theorem nu {f:Addr} {fd:FuncData} (F:Fun K "steps_above" "steps_above" cK f fd) (b_len:mg "len" = none) (G_steps:iK P w K mg base 2 "steps" ["order", "pairs"] iN) (G_place_pairs:iK P w K mg base 1 "place_pairs" ["n"] bC):FnOk P w K mg base kJ 3 f fd ["order"] (nS K 1 cL):=tu (m:=fX) F mO fun cdv B outer s H E hr=>
 aN (bE (bU G_steps (hr.mono (by decide)) (af (aa 0) (af (iD (N:=["i", "j", "order"]) (cap:=[none,none,some 0]) rfl (mH ["order"] rfl (by decide +kernel) (by decide +kernel) (by decide +kernel) (by decide +kernel) (by decide +kernel) (List.forall_mem_cons.mpr ⟨by first | exact Or.inl rfl | exact Or.inr rfl,(fun _ h=>nomatch h)⟩) ⟨rfl,by decide +kernel,trivial⟩) (mV (bU G_place_pairs (hr.mono (by decide)) (af (aR cZ b_len bP (af (aa 0) (aE))) (aE)) (aC aS))) (fun _ _ _ _=>j7 rfl (cE (bJ (i:=0) (show (["i", "j", "order"]:List Str).Nodup by decide +kernel) rfl (Or.inl rfl) (.inr rfl)) (cE (bJ (i:=1) (show (["i", "j", "order"]:List Str).Nodup by decide +kernel) rfl (Or.inl rfl) (.inr rfl)) (iL)))) (fun _ _ _ _=>jR (bX (DR hr.units) (bZ (aa 2) (aP eL (aa 0) (aL))) (bZ (aa 2) (aP eL (aa 1) (aL))))) (fun _ _ _ _=>jg (af (aa 0) (af (aa 1) (aE))))) (aE))) (aC (aC aS))))
theorem fD:FnScope ["one", "other", "looked_at", "waiting", "here", "step"] ["one", "other"] (aF eU):=⟨rfl,rfl,rfl,by decide +kernel,rfl,by decide +kernel,by decide +kernel⟩
theorem uI {f:Addr} {fd:FuncData} (F:Fun K "between" "between" eU f fd) (b_sorted:mg "sorted" = none) (g_MOST_CLIMBED_PAIRS:∃ t,mg "MOST_CLIMBED_PAIRS" = some (.int 4 t)) (g_MOST_CLIMBED_THINGS:∃ t,mg "MOST_CLIMBED_THINGS" = some (.int 9 t)) (g_MOST_THINGS:∃ t,mg "MOST_THINGS" = some (.int 6 t)) (G_need_pair:zf P w K mg base 1 "need_pair" ["one", "other"] bK) (G_need_bounds:zf P w K mg base 4 "need_bounds" ["one", "other", "free_things", "most_things", "most_pairs"] bW) (G_is_below:zf P w K mg base 3 "is_below" ["one", "other"] cC) (G_steps_above:iK P w K mg base 3 "steps_above" ["order"] cL):FnOk P w K mg base (uJ P w) 5 f fd ["one", "other"] (Jt K 2 bH):=fnX (m:=eY) F fD fun cdv B outer s H E hr=>
 aJ (iM (jk G_need_pair (hr.mono (by decide)) (af (aa 0) (af (aa 1) (aE))) (aC (aC aS))))
 (aJ (iM (jk G_need_bounds (hr.mono (by decide)) (af (aa 0) (af (aa 1) (af (nh g_MOST_THINGS.choose_spec) (af (nh g_MOST_CLIMBED_THINGS.choose_spec) (af (nh g_MOST_CLIMBED_PAIRS.choose_spec) (aE)))))) (aC (aC (aC (aC (aC aS)))))))
 (aJ (eK (uc (jn (jk G_is_below (hr.mono (by decide)) (af (aa 0) (af (aa 1) (aE))) (aC (aC aS)))))
 (aN (bE (fk (aE))))
 (b9))
 (aJ (bw (i:=2) fD.nd (DN hr.units (aa 0) (o4)))
 (aJ (bw (i:=3) fD.nd (fk (af (aa 0) (aE))))
 (aJ (nH 1000000 PassesOwn.leaving (jn (aa 3))
 (aJ (bw (i:=4) fD.nd (G9 PySem.F.slot_list_pop PySem.F.type_list_pop JT (aa 3)))
 (aN (jf PassesOwn.leaving rfl (mV (bU G_steps_above (hr.mono (by decide)) (af (aa 4) (aE)) (aC aS))) (bJ (i:=5) fD.nd)
 (aN (eK (bX (Cj hr.units) (aa 5) (aa 2))
 (aJ (mK (jk G_is_below (hr.mono (by decide)) (af (aa 5) (af (aa 1) (aE))) (aC (aC aS))) (D5 hr.units (aa 2) (aa 5)))
 (aN (eK (jn (Ie hr.units (aa 2) (aa 5)))
 (aN (iM (wR PySem.F.slot_list_append PySem.F.type_list_append sE (aa 3) (af (aa 5) (aE)))))
 (b9))))
 (b9)))))))
 (aN (bE (aR BN b_sorted pD (af (iD (N:=["order", "is_between"]) (cap:=[none,none]) rfl (mH [] rfl (by decide +kernel) (by decide +kernel) (by decide +kernel) (by decide +kernel) (by decide +kernel) (fun _ h=>nomatch h) trivial) (Ay (aa 2)) (fun _ _ _ _=>j7 rfl (cE (bJ (i:=0) (show (["order", "is_between"]:List Str).Nodup by decide +kernel) rfl (Or.inl rfl) (.inr rfl)) (cE (bJ (i:=1) (show (["order", "is_between"]:List Str).Nodup by decide +kernel) rfl (Or.inl rfl) (.inr rfl)) (iL)))) (fun _ _ _ _=>jR (jn (aa 1))) (fun _ _ _ _=>aa 0)) (aE))))))))))
theorem gM:FnScope ["_law_script", "_law_k", "_law_cell", "_law_state"] ["_law_script", "_law_k"] (aF eZ):=⟨rfl,rfl,rfl,by decide +kernel,rfl,by decide +kernel,by decide +kernel⟩
theorem uo {f:Addr} {fd:FuncData} (F:Fun K "_law_bag" "_law_bag" eZ f fd) (b_len:mg "len" = none) (b_abs:mg "abs" = none) (b_int:mg "int" = none):FnOk P w K mg base kJ 1 f fd ["_law_script", "_law_k"] (nS K 2 eX):=tu (m:=jY) F gM fun cdv B outer s H E hr=>
 aJ (bw (i:=2) gM.nd (aL))
 (aJ (eK (bX (DR hr.units) (aa 1) (aR cZ b_len bP (af (aa 0) (aE))))
 (aN (bw (i:=2) gM.nd (aR J6 b_abs HP (af (bZ (aa 0) (aa 1)) (aE)))))
 (b9))
 (aJ (bw (i:=3) gM.nd (aP dR (aL) (aP oK (aP dR (aP dR (aP dR (aP oK (aa 2) (aL)) (aP mP (aP mP (aL) (aa 1)) (aa 1))) (aP mP (aL) (aa 1))) (aL)) (aL))))
 (aN (bE (fk (af (aP mP (aa 2) (di AU b_int CJ (af (l_ LW (aa 2) (aP KA (aL) (aL))) (aE)))) (af (aa 3) (aE))))))))
theorem jG:FnScope ["_law_bag_here", "_law_many", "_law_found"] ["_law_bag_here", "_law_many"] (aF dH):=⟨rfl,rfl,rfl,by decide +kernel,rfl,by decide +kernel,by decide +kernel⟩
theorem p9 {f:Addr} {fd:FuncData} (F:Fun K "_law_digit" "_law_digit" dH f fd):FnOk P w K mg base kJ 1 f fd ["_law_bag_here", "_law_many"] (nS K 2 aT):=tu (m:=fK) F jG fun cdv B outer s H E hr=>
 aJ (eK (bX (mL hr.units) (bZ (aa 0) (aL)) (aL))
 (aJ (bw (i:=2) jG.nd (aP oK (bZ (aa 0) (aL)) (aa 1)))
 (aJ (mK (aP tW (bZ (aa 0) (aL)) (aa 1)) (ku (aa 0) (aL)))
 (aN (bE (aa 2)))))
 (b9))
 (aJ (mK (aP oK (aP mP (bZ (aa 0) (aL)) (aL)) (aL)) (ku (aa 0) (aL)))
 (aN (bE (aP oK (aP tW (aP oK (aP mP (bZ (aa 0) (aL)) (aP dR (aP tW (bZ (aa 0) (aL)) (aL)) (aL))) (aL)) (aL)) (aa 1)))))
theorem fm:FnScope ["_law_bag_here", "_law_n", "_law_left", "_law_found", "_law_at"] ["_law_bag_here", "_law_n"] (aF e_):=⟨rfl,rfl,rfl,by decide +kernel,rfl,by decide +kernel,by decide +kernel⟩
theorem t8 {f:Addr} {fd:FuncData} (F:Fun K "_law_any" "_law_any" e_ f fd) (b_list:mg "list" = none) (b_range:mg "range" = none) (b_len:mg "len" = none) (b_tuple:mg "tuple" = none) (G_law_digit:iK P w K mg base 1 "_law_digit" ["_law_bag_here", "_law_many"] aT):FnOk P w K mg base kJ 2 f fd ["_law_bag_here", "_law_n"] (nS K 2 e9):=tu (m:=ko) F fm fun cdv B outer s H E hr=>
 aJ (bw (i:=2) fm.nd (di (ue rfl) b_list lB (af (di qM b_range sV (af (aL) (af (aP dR (aa 1) (aL)) (aE)))) (aE))))
 (aJ (bw (i:=3) fm.nd (fk (aE)))
 (aJ (nH 1000000 PassesOwn.never (bX (mL hr.units) (aR cZ b_len bP (af (aa 2) (aE))) (aL))
 (aJ (bw (i:=4) fm.nd (bU G_law_digit (hr.mono (by decide)) (af (aa 0) (af (aR cZ b_len bP (af (aa 2) (aE))) (aE))) (aC (aC aS))))
 (aJ (iM (wR PySem.F.slot_list_append PySem.F.type_list_append sE (aa 3) (af (bZ (aa 2) (aa 4)) (aE))))
 (aN (bw (i:=2) fm.nd (aP dR (wM (aa 2) pT (jD (aa 4))) (wM (aa 2) (jD (aP dR (aa 4) (aL))) pT)))))))
 (aN (bE (di (pX rfl) b_tuple nI (af (aa 3) (aE)))))))
theorem cA:FnScope ["_law_bag_here", "_law_n", "_law_way", "_law_found", "_law_k", "_law_i", "_law_j"] ["_law_bag_here", "_law_n"] (aF dG):=⟨rfl,rfl,rfl,by decide +kernel,rfl,by decide +kernel,by decide +kernel⟩
theorem qC {f:Addr} {fd:FuncData} (F:Fun K "_law_order" "_law_order" dG f fd) (b_list:mg "list" = none) (b_range:mg "range" = none) (b_tuple:mg "tuple" = none) (G_law_digit:iK P w K mg base 1 "_law_digit" ["_law_bag_here", "_law_many"] aT) (G_law_any:iK P w K mg base 2 "_law_any" ["_law_bag_here", "_law_n"] e9):FnOk P w K mg base kJ 3 f fd ["_law_bag_here", "_law_n"] (nS K 2 cj):=tu (m:=ie) F cA fun cdv B outer s H E hr=>
 aJ (bw (i:=2) cA.nd (bU G_law_digit (hr.mono (by decide)) (af (aa 0) (af (aL) (aE))) (aC (aC aS))))
 (aJ (eK (bX (mL hr.units) (aa 2) (aL))
 (aN (bE (bU G_law_any (hr.mono (by decide)) (af (aa 0) (af (aa 1) (aE))) (aC (aC aS)))))
 (b9))
 (aJ (bw (i:=3) cA.nd (di (ue rfl) b_list lB (af (di qM b_range sV (af (aL) (af (aP dR (aa 1) (aL)) (aE)))) (aE))))
 (aJ (eK (bX (JM hr.units) (aa 2) (aL))
 (aN (bw (i:=3) cA.nd (Jf (aa 3))))
 (b9))
 (aJ (jf PassesOwn.never rfl (eW b_range (bU G_law_digit (hr.mono (by decide)) (af (aa 0) (af (aL) (aE))) (aC (aC aS)))) (bJ (i:=4) cA.nd)
 (aJ (bw (i:=5) cA.nd (bU G_law_digit (hr.mono (by decide)) (af (aa 0) (af (aa 1) (aE))) (aC (aC aS))))
 (aJ (bw (i:=6) cA.nd (bU G_law_digit (hr.mono (by decide)) (af (aa 0) (af (aa 1) (aE))) (aC (aC aS))))
 (aN (mK (jg (af (bZ (aa 3) (aa 6)) (af (bZ (aa 3) (aa 5)) (aE)))) (j7 rfl (cE (ku (aa 3) (aa 5)) (cE (ku (aa 3) (aa 6)) (iL)))))))))
 (aN (bE (di (pX rfl) b_tuple nI (af (aa 3) (aE)))))))))
theorem eO:FnScope ["_law_order_here", "_law_n", "_law_found", "_law_i"] ["_law_order_here"] (aF dB):=⟨rfl,rfl,rfl,by decide +kernel,rfl,by decide +kernel,by decide +kernel⟩
theorem qi {f:Addr} {fd:FuncData} (F:Fun K "_law_wrong" "_law_wrong" dB f fd) (b_len:mg "len" = none) (b_range:mg "range" = none):FnOk P w K mg base kJ 1 f fd ["_law_order_here"] (nS K 1 cu):=tu (m:=g9) F eO fun cdv B outer s H E hr=>
 aJ (bw (i:=1) eO.nd (aR cZ b_len bP (af (aa 0) (aE))))
 (aJ (bw (i:=2) eO.nd (fk (aE)))
 (aJ (jf PassesOwn.never rfl (eW b_range (aa 1)) (bJ (i:=3) eO.nd)
 (aN (iM (wR PySem.F.slot_list_extend PySem.F.type_list_extend zX (aa 2) (af (iD (N:=["_law_j", "_law_i", "_law_order_here"]) (cap:=[none,some 3,some 0]) rfl (mH ["_law_i", "_law_order_here"] rfl (by decide +kernel) (by decide +kernel) (by decide +kernel) (by decide +kernel) (by decide +kernel) (List.forall_mem_cons.mpr ⟨by first | exact Or.inl rfl | exact Or.inr rfl,(List.forall_mem_cons.mpr ⟨by first | exact Or.inl rfl | exact Or.inr rfl,(fun _ h=>nomatch h)⟩)⟩) ⟨rfl,by decide +kernel,⟨rfl,by decide +kernel,trivial⟩⟩) (j4 b_range (aP dR (aa 3) (aL)) (aa 1)) (fun _ _ _ _=>bJ (i:=0) (show (["_law_j", "_law_i", "_law_order_here"]:List Str).Nodup by decide +kernel) rfl (Or.inl rfl) (.inr rfl)) (fun _ _ _ _=>jR (bX (mL hr.units) (bZ (aa 2) (aa 1)) (bZ (aa 2) (aa 0)))) (fun _ _ _ _=>jg (af (aP dR (aa 1) (aL)) (af (aP dR (aa 0) (aL)) (aE))))) (aE))))))
 (aN (bE (aa 2)))))
theorem eg:FnScope ["_law_one", "_law_other", "_law_found", "e", "_law_some"] ["_law_one", "_law_other"] (aF d9):=⟨rfl,rfl,rfl,by decide +kernel,rfl,by decide +kernel,by decide +kernel⟩
theorem rQ {f:Addr} {fd:FuncData} (F:Fun K "_law_kind" "_law_kind" d9 f fd) {U:Addr} {C_TooMany:Addr} {C_NoPair:Addr} {C_NoName:Addr} {C_NoWord:Addr} {C_NoText:Addr} {C_NoTables:Addr} {C_NoRow:Addr} {C_NoNumber:Addr} (hU:s_ K "UnderError" U) (mU:L2.mroIn K U=some zj) (e_TooMany:ExcK K U "TooMany" C_TooMany) (e_NoPair:ExcK K U "NoPair" C_NoPair) (m_NoName:mg "NoName" = some (.ref C_NoName)) (m_NoWord:mg "NoWord" = some (.ref C_NoWord)) (m_TooMany:mg "TooMany" = some (.ref C_TooMany)) (m_NoPair:mg "NoPair" = some (.ref C_NoPair)) (m_NoText:mg "NoText" = some (.ref C_NoText)) (m_NoTables:mg "NoTables" = some (.ref C_NoTables)) (m_NoRow:mg "NoRow" = some (.ref C_NoRow)) (m_NoNumber:mg "NoNumber" = some (.ref C_NoNumber)) (k_TooMany_NoName:PySem.W.kitOne K (.ref C_TooMany) (.ref C_NoName)=some false) (k_NoPair_NoName:PySem.W.kitOne K (.ref C_NoPair) (.ref C_NoName)=some false) (k_TooMany_NoWord:PySem.W.kitOne K (.ref C_TooMany) (.ref C_NoWord)=some false) (k_NoPair_NoWord:PySem.W.kitOne K (.ref C_NoPair) (.ref C_NoWord)=some false) (k_TooMany_TooMany:PySem.W.kitOne K (.ref C_TooMany) (.ref C_TooMany)=some true) (k_NoPair_TooMany:PySem.W.kitOne K (.ref C_NoPair) (.ref C_TooMany)=some false) (k_TooMany_NoPair:PySem.W.kitOne K (.ref C_TooMany) (.ref C_NoPair)=some false) (k_NoPair_NoPair:PySem.W.kitOne K (.ref C_NoPair) (.ref C_NoPair)=some true) (k_TooMany_NoText:PySem.W.kitOne K (.ref C_TooMany) (.ref C_NoText)=some false) (k_NoPair_NoText:PySem.W.kitOne K (.ref C_NoPair) (.ref C_NoText)=some false) (k_TooMany_NoTables:PySem.W.kitOne K (.ref C_TooMany) (.ref C_NoTables)=some false) (k_NoPair_NoTables:PySem.W.kitOne K (.ref C_NoPair) (.ref C_NoTables)=some false) (k_TooMany_NoRow:PySem.W.kitOne K (.ref C_TooMany) (.ref C_NoRow)=some false) (k_NoPair_NoRow:PySem.W.kitOne K (.ref C_NoPair) (.ref C_NoRow)=some false) (k_TooMany_NoNumber:PySem.W.kitOne K (.ref C_TooMany) (.ref C_NoNumber)=some false) (k_NoPair_NoNumber:PySem.W.kitOne K (.ref C_NoPair) (.ref C_NoNumber)=some false) (b_isinstance:mg "isinstance" = none) (b_ValueError:mg "ValueError" = none) (b_list:mg "list" = none) (G_between:zf P w K mg base 5 "between" ["one", "other"] bH):FnOk P w K mg base kJ 6 f fd ["_law_one", "_law_other"] (nS K 2 bI):=tu (m:=jt) F eg fun cdv B outer s H E hr=>
 aJ (by (refine Jg (i:=3) (cs:=["NoPair", "TooMany"]) ?hb ?hh eg.nd hU mU (List.forall_mem_cons.mpr ⟨⟨_,e_NoPair.n,e_NoPair.r⟩,(List.forall_mem_cons.mpr ⟨⟨_,e_TooMany.n,e_TooMany.r⟩,(fun _ h=>nomatch h)⟩)⟩);(case hb=>exact (fun _ _=>aN (bw (i:=2) eg.nd (jk G_between (hr.mono (by decide)) (af (aa 0) (af (aa 1) (aE))) (aC (aC aS))))));(case hh=>exact (fun _ _ _ _ xo=>aJ (bw (i:=4) eg.nd (fk (af (g7 m_NoPair (tb:=[("NoPair",true),("TooMany",false)]) (List.forall_mem_cons.mpr ⟨⟨_,e_NoPair.n,e_NoPair.x,e_NoPair.cl,k_NoPair_NoPair⟩,(List.forall_mem_cons.mpr ⟨⟨_,e_TooMany.n,e_TooMany.x,e_TooMany.cl,k_TooMany_NoPair⟩,(fun _ h=>nomatch h)⟩)⟩) (aa 3) b_isinstance) (af (g7 m_TooMany (tb:=[("NoPair",false),("TooMany",true)]) (List.forall_mem_cons.mpr ⟨⟨_,e_NoPair.n,e_NoPair.x,e_NoPair.cl,k_NoPair_TooMany⟩,(List.forall_mem_cons.mpr ⟨⟨_,e_TooMany.n,e_TooMany.x,e_TooMany.cl,k_TooMany_TooMany⟩,(fun _ h=>nomatch h)⟩)⟩) (aa 3) b_isinstance) (af (g7 m_NoWord (tb:=[("NoPair",false),("TooMany",false)]) (List.forall_mem_cons.mpr ⟨⟨_,e_NoPair.n,e_NoPair.x,e_NoPair.cl,k_NoPair_NoWord⟩,(List.forall_mem_cons.mpr ⟨⟨_,e_TooMany.n,e_TooMany.x,e_TooMany.cl,k_TooMany_NoWord⟩,(fun _ h=>nomatch h)⟩)⟩) (aa 3) b_isinstance) (af (g7 m_NoName (tb:=[("NoPair",false),("TooMany",false)]) (List.forall_mem_cons.mpr ⟨⟨_,e_NoPair.n,e_NoPair.x,e_NoPair.cl,k_NoPair_NoName⟩,(List.forall_mem_cons.mpr ⟨⟨_,e_TooMany.n,e_TooMany.x,e_TooMany.cl,k_TooMany_NoName⟩,(fun _ h=>nomatch h)⟩)⟩) (aa 3) b_isinstance) (aE)))))))
 (aJ (bw (i:=4) eg.nd (aP dR (aa 4) (fk (af (g7 m_NoNumber (tb:=[("NoPair",false),("TooMany",false)]) (List.forall_mem_cons.mpr ⟨⟨_,e_NoPair.n,e_NoPair.x,e_NoPair.cl,k_NoPair_NoNumber⟩,(List.forall_mem_cons.mpr ⟨⟨_,e_TooMany.n,e_TooMany.x,e_TooMany.cl,k_TooMany_NoNumber⟩,(fun _ h=>nomatch h)⟩)⟩) (aa 3) b_isinstance) (af (g7 m_NoRow (tb:=[("NoPair",false),("TooMany",false)]) (List.forall_mem_cons.mpr ⟨⟨_,e_NoPair.n,e_NoPair.x,e_NoPair.cl,k_NoPair_NoRow⟩,(List.forall_mem_cons.mpr ⟨⟨_,e_TooMany.n,e_TooMany.x,e_TooMany.cl,k_TooMany_NoRow⟩,(fun _ h=>nomatch h)⟩)⟩) (aa 3) b_isinstance) (af (g7 m_NoTables (tb:=[("NoPair",false),("TooMany",false)]) (List.forall_mem_cons.mpr ⟨⟨_,e_NoPair.n,e_NoPair.x,e_NoPair.cl,k_NoPair_NoTables⟩,(List.forall_mem_cons.mpr ⟨⟨_,e_TooMany.n,e_TooMany.x,e_TooMany.cl,k_TooMany_NoTables⟩,(fun _ h=>nomatch h)⟩)⟩) (aa 3) b_isinstance) (af (g7 m_NoText (tb:=[("NoPair",false),("TooMany",false)]) (List.forall_mem_cons.mpr ⟨⟨_,e_NoPair.n,e_NoPair.x,e_NoPair.cl,k_NoPair_NoText⟩,(List.forall_mem_cons.mpr ⟨⟨_,e_TooMany.n,e_TooMany.x,e_TooMany.cl,k_TooMany_NoText⟩,(fun _ h=>nomatch h)⟩)⟩) (aa 3) b_isinstance) (aE))))))))
 (aJ (eK (AW.at (xW (uc (jn (IC b_ValueError (tb:=[("NoPair",true),("TooMany",true)]) (List.forall_mem_cons.mpr ⟨⟨_,e_NoPair.n,e_NoPair.x,e_NoPair.cl,e_NoPair.v⟩,(List.forall_mem_cons.mpr ⟨⟨_,e_TooMany.n,e_TooMany.x,e_TooMany.cl,e_TooMany.v⟩,(fun _ h=>nomatch h)⟩)⟩) (aa 3) b_isinstance))) (xW (bX (Bg hr.units) (wR PySem.F.slot_list_count PySem.F.type_list_count (DK hr.units) (aa 4) (af (o4) (aE))) (aL)) (t9 (bX (Ea hr.units) (o4) (wM (aa 4) pT (jD (aL))))))))
 (aN (bE (p8)))
 (b9))
 (aN (bE (bZ (fk (af (j_) (af (j_) (aE)))) (II (aa 4) (af (o4) (aE))))))))))))
 (aJ (eK (uc (jn (aR KG b_isinstance i_ (af (aa 2) (af (Kr b_list lB) (aE))))))
 (aN (bE (p8)))
 (b9))
 (aN (bE (j_))))
theorem mJ:FnScope ["_law_one", "_law_other", "_law_more"] ["_law_one", "_law_other"] (aF ff):=⟨rfl,rfl,rfl,by decide +kernel,rfl,by decide +kernel,by decide +kernel⟩
theorem tQ {f:Addr} {fd:FuncData} (F:Fun K "_law_due" "_law_due" ff f fd) (b_len:mg "len" = none) (b_int:mg "int" = none) (G_law_wrong:iK P w K mg base 1 "_law_wrong" ["_law_order_here"] cu):FnOk P w K mg base kJ 2 f fd ["_law_one", "_law_other"] (nS K 2 bQ):=tu (m:=iF) F mJ fun cdv B outer s H E hr=>
 aJ (eK (bX (Bg hr.units) (aR cZ b_len bP (af (aa 0) (aE))) (aR cZ b_len bP (af (aa 1) (aE))))
 (aN (bE (j_)))
 (b9))
 (aJ (bw (i:=2) mJ.nd (aP eL (aR cZ b_len bP (af (bU G_law_wrong (hr.mono (by decide)) (af (aa 1) (aE)) (aC aS)) (aE))) (aR cZ b_len bP (af (bU G_law_wrong (hr.mono (by decide)) (af (aa 0) (aE)) (aC aS)) (aE)))))
 (aN (bE (bZ (fk (af (j_) (af (j_) (aE)))) (di AU b_int CJ (af (Kl (l_ (mL hr.units) (aR cZ b_len bP (af (aa 0) (aE))) (aL)) (CZ (GN (l_ (mL hr.units) (aR cZ b_len bP (af (aa 0) (aE))) (aL)) (CZ (l_ (mL hr.units) (aa 2) (aL)))))) (aE)))))))
theorem ji:FnScope ["_law_script", "_law_k", "_law_bag_here", "_law_n", "_law_one", "_law_other"] ["_law_script"] (aF jO):=⟨rfl,rfl,rfl,by decide +kernel,rfl,by decide +kernel,by decide +kernel⟩
theorem G7 {f:Addr} {fd:FuncData} (F:Fun K "law" "law" jO f fd) (b_range:mg "range" = none) (b_max:mg "max" = none) (b_min:mg "min" = none) (b_len:mg "len" = none) (G_law_bag:iK P w K mg base 1 "_law_bag" ["_law_script", "_law_k"] eX) (G_law_digit:iK P w K mg base 1 "_law_digit" ["_law_bag_here", "_law_many"] aT) (G_law_order:iK P w K mg base 3 "_law_order" ["_law_bag_here", "_law_n"] cj) (G_law_kind:iK P w K mg base 6 "_law_kind" ["_law_one", "_law_other"] bI) (G_law_due:iK P w K mg base 2 "_law_due" ["_law_one", "_law_other"] bQ):FnOk P w K mg base kJ 7 f fd ["_law_script"] (nS K 1 ow):=tu (m:=A4) F ji fun cdv B outer s H E hr=>
 aJ (jf PassesOwn.never rfl (eW b_range (aR (BH rfl) b_max t7 (af (aL) (af (aR (zw rfl) b_min Az (af (aL) (af (aR cZ b_len bP (af (aa 0) (aE))) (aE)))) (aE))))) (bJ (i:=1) ji.nd)
 (aJ (bw (i:=2) ji.nd (bU G_law_bag (hr.mono (by decide)) (af (aa 0) (af (aa 1) (aE))) (aC (aC aS))))
 (aJ (bw (i:=3) ji.nd (aP dR (aL) (bU G_law_digit (hr.mono (by decide)) (af (aa 2) (af (bZ (fk (af (aL) (af (aL) (af (aL) (aE))))) (bU G_law_digit (hr.mono (by decide)) (af (aa 2) (af (aL) (aE))) (aC (aC aS)))) (aE))) (aC (aC aS)))))
 (aJ (bw (i:=4) ji.nd (bU G_law_order (hr.mono (by decide)) (af (aa 2) (af (aa 3) (aE))) (aC (aC aS))))
 (aJ (eK (bX (JM hr.units) (bU G_law_digit (hr.mono (by decide)) (af (aa 2) (af (aL) (aE))) (aC (aC aS))) (aL))
 (aN (bw (i:=3) ji.nd (aP dR (aL) (bU G_law_digit (hr.mono (by decide)) (af (aa 2) (af (aL) (aE))) (aC (aC aS))))))
 (b9))
 (aJ (bw (i:=5) ji.nd (bU G_law_order (hr.mono (by decide)) (af (aa 2) (af (aa 3) (aE))) (aC (aC aS))))
 (aN (eK (AW.at (xW (bX (Bg hr.units) (bU G_law_kind (hr.mono (by decide)) (af (aa 4) (af (aa 5) (aE))) (aC (aC aS))) (bU G_law_due (hr.mono (by decide)) (af (aa 4) (af (aa 5) (aE))) (aC (aC aS)))) (t9 (bX (Bg hr.units) (bU G_law_kind (hr.mono (by decide)) (af (aa 5) (af (aa 4) (aE))) (aC (aC aS))) (bU G_law_due (hr.mono (by decide)) (af (aa 5) (af (aa 4) (aE))) (aC (aC aS)))))))
 (aN (bE (o4)))
 (b9)))))))))
 (aN (bE (o4)))
end
end K20
namespace K20
open PySem L2 Am
noncomputable def n_ (S:aA) (b:Nat):Prop:=∃ g st:Int,ak S b=some [.int g,.int st]/\0<=g/\0<=st/\st < 4294967296
theorem n_.kp {S S':aA} {b:Nat} {c:Nat->Prop} (h:n_ S b) (k:Kp c S S') (hb:¬ c b):n_ S' b:=by
 obtain ⟨g,st,e,q⟩:=h
 exact ⟨g,st,k.lst b _ hb e,q⟩
theorem DZ {S:aA} {ns:List Int} {k:Int} (h0:0<=k) (h1:k<=100):∃ S',eX [.frz (ns.map .int),.int k] S=.ok (.ref S.length) S'/\n_ S' S.length/\gb S S':=by
 have e3:E2 (.int 10) (.int 18)=fun S=>R.ok (.int 1000000000000000000) S:=by
  funext S;exact cP ⟨by decide,by decide,by decide⟩
 have go:∀ cell:Int,0<=cell->∃ S',((RS.seq (.nx [A.frz (ns.map .int),.int k,.int cell,.unb] S) (bA (bY (aK dc (eC (.int 1)) (aK kQ (aK dc (aK dc (aK dc (aK kQ (ah 2) (eC (.int 2147483647))) (aK gQ (aK gQ (eC (.int 7919)) (ah 1)) (ah 1))) (aK gQ (eC (.int 17)) (ah 1))) (eC (.int 3))) (eC (.int 2147483646)))) (bR 3))
   (cQ (jx (aj (aK gQ (ah 2) (aV (f1 pq) (aj (aK Lm (ah 2) (aK E2 (eC (.int 10)) (eC (.int 18)))) (aM)))) (aj (ah 3) (aM))))))).end=.ok (.ref S.length) S')/\n_ S' S.length/\gb S S':=by
  intro cell hc
  have m1:kQ (.int cell) (.int 2147483647)=fun S=>R.ok (.int (cell % 2147483647)) S:=by funext S;exact pG (by decide)
  have m2:∀ x:Int,kQ (.int x) (.int 2147483646)=fun S=>R.ok (.int (x % 2147483646)) S:=fun x=>by funext S;exact pG (by decide)
  have m3:∀ x:Int,gQ (.int 7919) (.int x)=fun S=>R.ok (.int (7919 * x)) S:=fun x=>by funext S;exact vR (by decide) (by decide)
  have m4:gQ (.int (7919 * k)) (.int k)=fun S=>R.ok (.int (7919 * k * k)) S:=by funext S;exact mul_r (by omega) (by omega)
  have m5:∀ x:Int,gQ (.int 17) (.int x)=fun S=>R.ok (.int (17 * x)) S:=fun x=>by funext S;exact vR (by decide) (by decide)
  have m6:∀ b:Bool,gQ (.int cell) (.int (if b=true then 1 else 0))=fun S=>R.ok (.int (cell * (if b=true then 1 else 0))) S:=fun b=>by
   funext S
   refine mul_r ?_ ?_ <;> cases b <;> decide
  have s0:0<=1+(cell % 2147483647+7919 * k * k+17 * k+3) % 2147483646:=by
   have:=Int.emod_nonneg (cell % 2147483647+7919 * k * k+17 * k+3) (show (2147483646:Int)≠0 by decide)
   omega
  have s1:1+(cell % 2147483647+7919 * k * k+17 * k+3) % 2147483646 < 4294967296:=by
   have:=Int.emod_lt_of_pos (cell % 2147483647+7919 * k * k+17 * k+3) (show (0:Int) < 2147483646 by decide)
   omega
  refine ⟨S++[.lst [.int (cell * (if decide (1000000000000000000<=cell)=true then 1 else 0)),.int (1+(cell % 2147483647+7919 * k * k+17 * k+3) % 2147483646)]],?_,⟨_,_,aU,?_,s0,s1⟩,Kp.refl.lay⟩
  ·simp only [bD,bools,m1,m2,m3,m4,m5,e3,m6]
  ·refine Int.mul_nonneg hc ?_
   split <;> decide
 have hA:∀ x:Int,0<=(if x < 0 then -x else x):=by intro x;split <;> omega
 unfold eX jY oR
 simp only [bD,bools,cW,Nat.reduceAdd,Nat.reduceSub,List.length_map]
 by_cases hk:k < (ns.length:Int)
 ·have hn:k.toNat < ns.length:=by omega
  have ha:fG (ns.map A.int) k=some (.int ns[k.toNat]):=fN (k:=k.toNat) (by omega) (List.getElem?_eq_getElem hn)
  rw [decide_eq_true hk]
  simp only [bD,bools,ha]
  exact go _ (hA _)
 ·rw [decide_eq_false hk]
  simp only [bD,bools]
  exact go 0 (Int.le_refl 0)
theorem digit {S:aA} {b:Nat} {m:Int} (h:n_ S b) (h1:1<=m) (h2:m < 1073741824):∃ d S',aT [.ref b,.int m] S=.ok (.int d) S'/\0<=d/\d < m/\n_ S' b/\Kp (·=b) S S':=by
 obtain ⟨g,st,hl,hg,hs,hs2⟩:=h
 have hb:=fE hl
 have i0:qt 2 0=some 0:=jq rfl (by decide)
 have i1:qt 2 1=some 1:=jq rfl (by decide)
 have fin:∀ d g' st':Int,0<=d->d < m->0<=g'->0<=st'->st' < 4294967296->aT [.ref b,.int m] S=.ok (.int d) (S.set b (.lst [.int g',.int st']))->∃ d S',aT [.ref b,.int m] S=.ok (.int d) S'/\0<=d/\d < m/\n_ S' b/\Kp (·=b) S S':=
  fun d g' st' a1 a2 a3 a4 a5 e=>⟨d,_,e,a1,a2,⟨g',st',dI hb,a3,a4,a5⟩,Kp.refl.set (.inl rfl)⟩
 by_cases hg0:0 < g
 ·refine fin (g % m) (g / m) st (Int.emod_nonneg _ (by omega)) (Int.emod_lt_of_pos _ (by omega)) (Int.ediv_nonneg hg (by omega)) hs hs2 ?_
  unfold aT fK h_
  rw [kW]
  simp [hl,pB,oM,hg0,pG (show 0 < m by omega),uq (show 0 < m by omega) h2,i0]
 ·have:g=0:=by omega
  subst this
  have e1:0<=st * 48271 % 2147483647:=Int.emod_nonneg _ (by decide)
  have e2:st * 48271 % 2147483647 < 2147483647:=Int.emod_lt_of_pos _ (by decide)
  refine fin ((st * 48271 % 2147483647) * ((st * 48271 % 2147483647) / 65536+9) % 2147483629 / 32 % m) 0 (st * 48271 % 2147483647) (Int.emod_nonneg _ (by omega)) (Int.emod_lt_of_pos _ (by omega)) (by decide) e1 (by omega) ?_
  unfold aT fK h_
  rw [kW]
  simp [hl,pB,oM,pG (show 0 < m by omega),i0,i1,vR (show -18446744073709551616 < st by omega) (by omega),pG (show (0:Int) < 2147483647 by decide),dI hb,uq (show (0:Int) < 65536 by decide) (by decide),vR (show -18446744073709551616 < st * 48271 % 2147483647 by omega) (by omega),pG (show (0:Int) < 2147483629 by decide),uq (show (0:Int) < 32 by decide) (by decide)]
theorem gG:∀ (l:List Int) (j:Nat) (h:j < l.length),(l[j]::l.eraseIdx j).Perm l
 | x::l,0,_=>List.Perm.refl _
 | x::l,j+1,h=>(List.Perm.swap x _ _).trans (List.Perm.cons x (gG l j (Nat.lt_of_succ_lt_succ h)))
theorem yR {ls fs:List Int} {j:Nat} (h:j < ls.length):((fs++[ls[j]])++ls.eraseIdx j).Perm (fs++ls):=by
 rw [List.append_assoc]
 refine List.Perm.append_left fs ?_
 show (ls[j]::ls.eraseIdx j).Perm ls
 exact gG ls j h
theorem Js {S:aA} {b:Nat} {n:Int} (h:n_ S b) (h1:1<=n) (h2:n<=20):∃ (xs:List Int) (S':aA),e9 [.ref b,.int n] S=.ok (.tup (xs.map .int)) S'/\xs.Perm (bg 1 (n+1))/\n_ S' b/\Kp (·=b) S S':=by
 have hbS:b < S.length:=by obtain ⟨_,_,e,_⟩:=h;exact fE e
 unfold e9 ko pe
 simp only [bD,bools,cW,Nat.reduceAdd,Nat.reduceSub,oQ (q_ (show (-1000000:Int)<=1 by decide) (by decide) (show -1000000<=n+1 by omega) (by omega) (by omega)),List.length_append]
 have key:=ig (t:=iz) (c:=g8)
  (fun τ S1=>∃ (L:Nat) (x4:A) (ls fs:List Int),τ=[.ref b,.int n,.ref L,.ref (S.length+1),x4]/\ak S1 L=some (ls.map .int)/\ak S1 (S.length+1)=some (fs.map .int)/\L≠S.length+1/\S.length<=L/\(fs++ls).Perm (bg 1 (n+1))/\n_ S1 b/\Kp (·=b) S S1)
  (fun τ S1=>match τ with
   | [_,_,.ref L,_,_]=>((ak S1 L).getD []).length
   | _=>0)
  (fun r=>∃ (xs:List Int) (S':aA),RS.end (RS.seq r (cQ (aV (f1 gY) (aj (ah 3) aM))))=.ok (.tup (xs.map .int)) S'/\xs.Perm (bg 1 (n+1))/\n_ S' b/\Kp (·=b) S S') ?_ 1000000
 ·refine key _ _ ⟨S.length,.unb,bg 1 (n+1),[],rfl,?_,?_,by omega,Nat.le_refl _,List.Perm.refl _,h.kp (c:=fun _=>False) (Kp.refl.lay.lay) (fun z=>z),Kp.refl.lay.lay⟩ ?_
  ·exact cV aU
  ·have:ak (S++[.lst ((bg 1 (n+1)).map .int)]++[.lst []]) (S++[O.lst ((bg 1 (n+1)).map .int)]).length=some []:=aU
   simpa using this
  ·show ((ak _ S.length).getD []).length < _
   rw [cV aU,Option.getD_some,List.length_map,bL]
   omega
 ·rintro τ S1 ⟨L,x4,ls,fs,rfl,hL,hF,hne,hLS,hp,hb,hk⟩
  have hlen:ls.length<=20:=by
   have:=hp.length_eq
   rw [List.length_append,bL] at this
   omega
  unfold iz g8
  simp only [bD,bools,hL,List.length_map]
  by_cases h0:ls=[]
  ·subst h0
   left
   refine ⟨S1,rfl,fs,S1,?_,by simpa using hp,hb,hk⟩
   simp only [bD,bools,hF]
  ·right
   have hpos:0 < ls.length:=List.length_pos_iff.mpr h0
   refine ⟨S1,by rw [decide_eq_true (by omega)],.inl ?_⟩
   obtain ⟨d,S2,e2,d0,d1,hb2,hk2⟩:=digit (m:=(ls.length:Int)) hb (by omega) (by omega)
   have nLb:¬ L=b:=by omega
   have hL2:=hk2.lst L _ nLb hL
   have hF2:=hk2.lst (S.length+1) _ (by omega) hF
   have hd:d.toNat < ls.length:=by omega
   have ha:fG (ls.map A.int) d=some (.int ls[d.toNat]):=fN (k:=d.toNat) (by omega) (List.getElem?_eq_getElem hd)
   have lF:=fE hF2
   have lL:=fE hL2
   have hfl:fs.length<=20:=by
    have:=hp.length_eq
    rw [List.length_append,bL] at this
    omega
   have hl3:ak (S2.set (S.length+1) (.lst (fs.map .int++[.int ls[d.toNat]]))) L=some (ls.map .int):=by rw [fq (Ne.symm hne)];exact hL2
   have hc1:gD (ls.map A.int) none (some d)=(ls.take d.toNat).map .int:=by
    have:=yJ (ls.map A.int) d.toNat (by rw [List.length_map];exact hd)
    rw [show ((d.toNat:Nat):Int)=d by omega] at this
    rw [this,List.map_take]
   have hc2:gD (ls.map A.int) (some (d+1)) none=(ls.drop (d.toNat+1)).map .int:=by
    have:=yC (ls.map A.int) d.toNat (by rw [List.length_map];exact hd)
    rw [show ((d.toNat:Nat):Int)=d by omega] at this
    rw [this,List.map_drop]
   simp only [bD,bools,hL,List.length_map,e2,hF2,hL2,ha,Gd (show (fs.length) < 16777216 by omega),hl3,hc1,hc2]
   have g1:ak (S2.set (S.length+1) (.lst (fs.map .int++[.int ls[d.toNat]]))++[.lst ((ls.take d.toNat).map .int)]) L=some (ls.map .int):=cV hl3
   simp only [bD,bools,g1,hc2]
   have hcat:=Gi (S:=S2.set (S.length+1) (.lst (fs.map .int++[.int ls[d.toNat]]))++[.lst ((ls.take d.toNat).map .int)]++[.lst ((ls.drop (d.toNat+1)).map .int)]) (cV aU) aU (by rw [List.length_map,List.length_map,List.length_take,List.length_drop];omega)
   rw [hcat]
   simp only [bD,bools]
   have hfin:(ls.take d.toNat).map A.int++(ls.drop (d.toNat+1)).map A.int=(ls.eraseIdx d.toNat).map .int:=by rw [<- List.map_append,<- List.eraseIdx_eq_take_drop_succ]
   rw [hfin]
   have hlen5:(S2.set (S.length+1) (.lst (fs.map .int++[.int ls[d.toNat]]))++[O.lst ((ls.take d.toNat).map .int)]++[O.lst ((ls.drop (d.toNat+1)).map .int)]).length=S2.length+2:=by simp
   have k3:Kp (·=b) S (S2.set (S.length+1) (.lst (fs.map .int++[.int ls[d.toNat]]))):=(hk.trans hk2).set (.inr (by omega))
   have b3:n_ (S2.set (S.length+1) (.lst (fs.map .int++[.int ls[d.toNat]]))) b:=by
    obtain ⟨g,st,e,q⟩:=hb2
    exact ⟨g,st,by rw [fq (by omega)];exact e,q⟩
   refine ⟨_,_,rfl,⟨_,_,ls.eraseIdx d.toNat,fs++[ls[d.toNat]],rfl,aU,?_,?_,?_,?_,b3.kp (c:=fun _=>False) Kp.refl.lay.lay.lay (fun z=>z),k3.lay.lay.lay⟩,?_⟩
   ·rw [List.map_append]
    exact cV (cV (cV (dI (by omega))))
   ·rw [hlen5];omega
   ·rw [hlen5];omega
   ·exact (yR hd).trans hp
   ·simp only [aU,Option.getD_some,List.length_map,List.length_eraseIdx_of_lt hd]
    omega
theorem AK {xs:List Int} {i j:Nat} {x y:Int} (hi:xs[i]?=some x) (hj:xs[j]?=some y):((xs.set i y).set j x).Perm xs:=by
 obtain ⟨li,ei⟩:=List.getElem?_eq_some_iff.mp hi
 obtain ⟨lj,ej⟩:=List.getElem?_eq_some_iff.mp hj
 subst ei ej
 exact List.set_set_perm li lj
theorem rO {S:aA} {b:Nat} {n:Int} (h:n_ S b) (h1:1<=n) (h2:n<=20):∃ (xs:List Int) (S':aA),cj [.ref b,.int n] S=.ok (.tup (xs.map .int)) S'/\xs.Perm (bg 1 (n+1))/\n_ S' b/\Kp (·=b) S S':=by
 unfold cj ie kH
 obtain ⟨d,S1,e1,d0,d1,hb1,hk1⟩:=digit (m:=4) h (by decide) (by decide)
 simp only [bD,bools,cW,Nat.reduceAdd,Nat.reduceSub,e1]
 by_cases hw:1 < d
 ·obtain ⟨xs,S2,e2,hp,hb2,hk2⟩:=Js hb1 h1 h2
  rw [decide_eq_true hw]
  simp only [bD,bools,e2]
  exact ⟨xs,S2,rfl,hp,hb2,hk1.trans hk2⟩
 ·rw [decide_eq_false hw]
  have hbS:b < S.length:=by obtain ⟨_,_,e,_⟩:=h;exact fE e
  have hl1:=hk1.len
  simp only [bD,bools,oQ (q_ (show (-1000000:Int)<=1 by decide) (by decide) (show -1000000<=n+1 by omega) (by omega) (by omega))]
  have go:∀ (L:Nat) (fs:List Int) (S2:aA),ak S2 L=some (fs.map .int)->fs.Perm (bg 1 (n+1))->n_ S2 b->Kp (·=b) S S2->S.length<=L ->
    ∃ (xs:List Int) (S':aA),RS.end (RS.seq (jh jb (bR 4) fV [.ref b,.int n,.int d,.ref L,.unb,.unb,.unb] S2) (cQ (aV (f1 gY) (aj (ah 3) (aM)))))=.ok (.tup (xs.map .int)) S'/\xs.Perm (bg 1 (n+1))/\n_ S' b/\Kp (·=b) S S':=by
   intro L fs S2 hL hp hb2 hk2 hLS
   obtain ⟨m,S3,e3,m0,m1,hb3,hk3⟩:=digit (m:=7) hb2 (by decide) (by decide)
   refine jy (lo:=0) (hi:=m) (S1:=S3) ?_ (fun _ τ S4=>∃ (x4 x5 x6:A) (fs:List Int),τ=[.ref b,.int n,.int d,.ref L,x4,x5,x6]/\ak S4 L=some (fs.map .int)/\fs.Perm (bg 1 (n+1))/\n_ S4 b/\Kp (·=b) S S4) (fun r=>∃ (xs:List Int) (S':aA),RS.end (RS.seq r _)=.ok (.tup (xs.map .int)) S'/\xs.Perm (bg 1 (n+1))/\n_ S' b/\Kp (·=b) S S') ⟨_,_,_,fs,rfl,hk3.lst L _ (by omega) hL,hp,hb3,hk2.trans hk3⟩ ?_ ?_
   ·refine gc ?_ (eG (by omega) (by omega))
    simp only [bD,bools,e3]
   ·rintro i τ S4 hi ⟨x4,x5,x6,fs,rfl,hL4,hp4,hb4,hk4⟩
    left
    obtain ⟨p,S5,e5,p0,p1,hb5,hk5⟩:=digit (m:=n) hb4 h1 (by omega)
    obtain ⟨q,S6,e6,q0,q1,hb6,hk6⟩:=digit (m:=n) hb5 h1 (by omega)
    have hL6:=hk6.lst L _ (by omega) (hk5.lst L _ (by omega) hL4)
    have hlen:(fs.length:Int)=n:=by rw [hp4.length_eq,bL];omega
    have hp':p.toNat < fs.length:=by omega
    have hq':q.toNat < fs.length:=by omega
    have ap:fG (fs.map A.int) p=some (.int fs[p.toNat]):=fN (k:=p.toNat) (by omega) (List.getElem?_eq_getElem hp')
    have aq:fG (fs.map A.int) q=some (.int fs[q.toNat]):=fN (k:=q.toNat) (by omega) (List.getElem?_eq_getElem hq')
    have ip:qt fs.length p=some p.toNat:=jq (by omega) hp'
    have iq:qt fs.length q=some q.toNat:=jq (by omega) hq'
    have lL6:=fE hL6
    unfold fV
    simp only [bD,bools,e5,e6,hL6,ap,aq,kD (show ([_,_]:List A).length<=16777216 by simp),cP (show ([_,_]:List A).length=2 from rfl),List.length_map,ip,iq,dI lL6,List.length_set]
    refine ⟨_,_,rfl,_,_,_,(fs.set p.toNat fs[q.toNat]).set q.toNat fs[p.toNat],rfl,?_,?_,?_,?_⟩
    ·rw [dI (by rw [List.length_set];exact lL6),List.map_set,List.map_set]
    ·exact (AK (List.getElem?_eq_getElem hp') (List.getElem?_eq_getElem hq')).trans hp4
    ·obtain ⟨g,st,e,z⟩:=hb6
     exact ⟨g,st,by rw [fq (by omega),fq (by omega)];exact e,z⟩
    ·exact ((((hk4.trans hk5).trans hk6).set (.inr hLS)).set (.inr hLS))
   ·rintro τ S4 ⟨x4,x5,x6,fs,rfl,hL4,hp4,hb4,hk4⟩
    refine ⟨fs,S4,?_,hp4,hb4,hk4⟩
    simp only [bD,bools,hL4]
  have b2:n_ (S1++[O.lst ((bg 1 (n+1)).map .int)]) b:=hb1.kp (c:=fun _=>False) Kp.refl.lay fun z=>z
  by_cases h1':d=1
  ·subst h1'
   simp only [bD,bools,beq_self_eq_true]
   exact go _ (bg 1 (n+1)).reverse _ (by rw [List.map_reverse];exact aU) (List.reverse_perm _) (b2.kp (c:=fun _=>False) Kp.refl.lay fun z=>z) hk1.lay.lay (by simp;omega)
  ·rw [show (d == 1)=false by simpa using h1']
   simp only [bD,bools]
   exact go _ (bg 1 (n+1)) _ aU (List.Perm.refl _) b2 hk1.lay hl1
theorem K3 {l:List Int} {k:Nat} {i:Int} (h:i=k) (hk:k < l.length):fG (l.map A.int) i=some (.int (l.getD k 0)):=fN h (by rw [List.getD_eq_getElem?_getD,List.getElem?_eq_getElem hk];rfl)
noncomputable def prs (n:Int):List A:=(bg 1 n).flatMap fun i=>(bg (i+1) (n+1)).map fun j=>.tup [.int i,.int j]
theorem wL {n:Int} {x:A}:x∈prs n ↔ ∃ i j:Int,1<=i/\i < j/\j<=n/\x=.tup [.int i,.int j]:=by
 unfold prs
 rw [List.mem_flatMap]
 constructor
 ·rintro ⟨i,hi,hx⟩
  obtain ⟨j,hj,rfl⟩:=List.mem_map.mp hx
  rw [eo] at hi hj
  exact ⟨i,j,by omega,by omega,by omega,rfl⟩
 ·rintro ⟨i,j,h1,h2,h3,rfl⟩
  exact ⟨i,eo.mpr ⟨h1,by omega⟩,List.mem_map.mpr ⟨j,eo.mpr ⟨by omega,by omega⟩,rfl⟩⟩
theorem nP {α β:Type} {f:α->List β} {B:Nat}:∀ (l:List α),(∀ x∈l,(f x).length<=B)->(l.flatMap f).length<=l.length * B
 | [],_=>Nat.zero_le _
 | x::l,h=>by
  rw [List.flatMap_cons,List.length_append,List.length_cons,Nat.add_mul,Nat.one_mul]
  have:=nP l fun y hy=>h y (List.mem_cons_of_mem _ hy)
  have:=h x (List.mem_cons_self ..)
  omega
theorem qp {n:Int} (h0:0<=n) (h1:n<=1000):(prs n).length<=16777216:=by
 have:=nP (B:=1000) (f:=fun i=>(bg (i+1) (n+1)).map fun j=>A.tup [.int i,.int j]) (bg 1 n) fun x hx=>by
  rw [eo] at hx
  rw [List.length_map,bL];omega
 rw [bL] at this
 have h2:(n - 1).toNat * 1000<=1000 * 1000:=Nat.mul_le_mul_right _ (by omega)
 unfold prs
 omega
theorem Ge {S:aA} {i n lo hi:Int}:∀ (k t:Nat) (x1:A),k+t=(hi - lo).toNat->∃ x1',fZ (cD lo hi) (bR 1) ql (iQ (aj (ah 0) (aj (ah 1) (aM)))) k t [.int i,x1,.int n] S=.ok ((List.range' t k).map fun q:Nat=>A.tup [.int i,.int (lo+q)],[.int i,x1',.int n]) S
 | 0,t,x1,_=>⟨x1,rfl⟩
 | k+1,t,x1,h=>by
  obtain ⟨x1',e⟩:=Ge (S:=S) (i:=i) (n:=n) (lo:=lo) (hi:=hi) k (t+1) (.int (lo+t)) (by omega)
  refine ⟨x1',?_⟩
  unfold fZ
  have hg:(cD lo hi).get t S=some (.int (lo+t)):=if_pos (by omega)
  simp only [bD,bools,hg,kD (show ([_,_]:List A).length<=16777216 by simp),e,List.range'_succ,List.map_cons]
theorem zV {S:aA} {n:Int} (h0:0<=n) (h1:n<=1000):∀ (k t:Nat) (x0 x1:A),k+t=(n - 1).toNat->eS (cD 1 n) (bR 0) ql (gS (aK dc (ah 0) (eC (.int 1))) (aK dc (ah 2) (eC (.int 1)))) (bR 1) ql (iQ (aj (ah 0) (aj (ah 1) (aM)))) k t [x0,x1,.int n] S=.ok ((List.range' t k).flatMap fun q:Nat=>(bg (1+q+1) (n+1)).map fun j=>A.tup [.int (1+q),.int j]) S
 | 0,t,x0,x1,_=>rfl
 | k+1,t,x0,x1,h=>by
  have hg:(cD 1 n).get t S=some (.int (1+t)):=if_pos (by omega)
  obtain ⟨x1',e⟩:=Ge (S:=S) (i:=1+t) (n:=n) (lo:=1+t+1) (hi:=n+1) (cD (1+t+1) (n+1)).k 0 x1 rfl
  have hr:((List.range' 0 (cD (1+(t:Int)+1) (n+1)).k).map fun q:Nat=>A.tup [.int (1+t),.int (1+t+1+q)])=(bg (1+t+1) (n+1)).map fun j=>A.tup [.int (1+t),.int j]:=by
   unfold bg
   rw [List.map_map,List.range_eq_range']
   rfl
  rw [hr] at e
  have e2:=zV (S:=S) h0 h1 k (t+1) (.int (1+t)) x1' (by omega)
  have hs:gS (aK dc (ah 0) (eC (.int 1))) (aK dc (ah 2) (eC (.int 1))) [.int (1+t),x1,.int n] S=.ok (cD (1+t+1) (n+1)) S:=
   nR (S1:=S) (by simp only [bD,bools]) (by simp only [bD,bools]) (eG (by omega) (by omega)) (eG (by omega) (by omega))
  unfold eS
  simp only [bD,bools,hg,hs,e,e2,List.range'_succ,List.flatMap_cons]
theorem sO {S:aA} {n:Int} (h0:0<=n) (h1:n<=1000):bC [.int n] S=.ok (.ref S.length) (S++[.lst (prs n)]):=by
 have hs:gS (eC (.int 1)) (ah 0) [.int n] S=.ok (cD 1 n) S:=nR (S1:=S) (by simp only [bD,bools]) (by simp only [bD,bools]) (eG (by omega) (by omega)) (eG (by omega) (by omega))
 have e:=zV (S:=S) h0 h1 (cD 1 n).k 0 .unb .unb rfl
 have hp:((List.range' 0 (cD 1 n).k).flatMap fun q:Nat=>(bg (1+q+1) (n+1)).map fun j=>A.tup [.int (1+q),.int j])=prs n:=by
  unfold prs bg
  rw [List.flatMap_map,<- List.range_eq_range']
  rfl
 rw [hp] at e
 unfold bC fY jc uB
 simp only [bD,bools,cW,Nat.reduceAdd,Nat.reduceSub,hs,e,bN (qp h0 h1)]
noncomputable def wg (xs:List Int) (q:A):Bool:=match q with
 | .tup [.int i,.int j]=>decide (xs.getD (i - 1).toNat 0 > xs.getD (j - 1).toNat 0)
 | _=>false
theorem Ju {xs:List Int} {i:Int} (h1:0<=i) (h2:i < xs.length):fG (xs.map A.int) i=some (.int (xs.getD i.toNat 0)):=K3 (k:=i.toNat) (by omega) (by omega)
theorem JX {S:aA} {n:Nat} {xs:List Int} (hlen:xs.length=n) (h2:n<=20) :
  ∃ (P:Nat) (S':aA),cM [.tup (xs.map .int)] S=.ok (.ref P) S'/\ak S' P=some ((prs n).filter (wg xs))/\gb S S'/\S.length<=P:=by
 have eq:=sO (S:=S) (n:=(n:Int)) (by omega) (by omega)
 have hL:ak (S++[O.lst (prs n)]) S.length=some (prs n):=aU
 obtain ⟨S',g1,g2⟩:=gI (s:=dY S.length (prs n).length) (g:=p7 2 (gW (bR 0) (gW (bR 1) (qu)))) (t:=jw (aK sY (aK fQ (ah 2) (aK aSub (ah 0) (eC (.int 1)))) (aK fQ (ah 2) (aK aSub (ah 1) (eC (.int 1)))))) (e:=iQ (aj (ah 0) (aj (ah 1) (aM))))
  (P:=fun S1=>S1=S++[O.lst (prs n)]) (T:=fun τ'=>∃ y z,τ'=[y,z,.tup (xs.map .int)])
  (fun i=>(prs n).getD i .unb) (fun i=>wg xs ((prs n).getD i .unb)) (fun i=>(prs n).getD i .unb)
  (fun i S1 hi k=>by
   have hi:i < (prs n).length:=hi
   show (ak S1 S.length).bind _=_
   rw [k,hL,Option.bind_some,List.getD_eq_getElem?_getD,List.getElem?_eq_getElem hi];rfl)
  (fun S1 k=>by
   show (match ak S1 S.length with
    | some ys=>decide (ys.length<=(prs n).length)
    | none=>false)=true
   rw [k,hL]
   simp)
  (fun i τ' S1 hi ⟨y,z,hy⟩ k=>by
   have hi:i < (prs n).length:=hi
   subst hy k
   have hm:(prs n).getD i .unb∈prs n:=by rw [List.getD_eq_getElem?_getD,List.getElem?_eq_getElem hi];exact List.getElem_mem hi
   obtain ⟨a,c,q1,q2,q3,eac⟩:=wL.mp hm
   rw [eac]
   have x1:fG (xs.map A.int) (a - 1)=some (.int (xs.getD (a - 1).toNat 0)):=Ju (by omega) (by omega)
   have x2:fG (xs.map A.int) (c - 1)=some (.int (xs.getD (c - 1).toNat 0)):=Ju (by omega) (by omega)
   refine ⟨[.int a,.int c,.tup (xs.map .int)],S++[O.lst (prs n)],S++[O.lst (prs n)],by simp only [bD,bools,cP (show ([_,_]:List A).length=2 from rfl)],by simp only [bD,bools,x1,x2];rfl,⟨_,_,rfl⟩,fun _=>rfl,fun _=>⟨_,by simp only [bD,bools,kD (show ([_,_]:List A).length<=16777216 by simp)],rfl⟩⟩)
  (prs n).length 0 (eB [none,none,some 0] [.tup (xs.map .int)]) (S++[O.lst (prs n)]) rfl ⟨_,_,rfl⟩ rfl
 subst g2
 have ef:=gB (prs n) (wg xs) (fun q=>q) .unb
 rw [List.range_eq_range',List.map_id'] at ef
 rw [ef] at g1
 have ll:=qp (n:=(n:Int)) (by omega) (by omega)
 refine ⟨_,(S++[O.lst (prs n)])++[.lst ((prs n).filter (wg xs))],?_,aU,Kp.refl.lay.lay,by rw [List.length_append];omega⟩
 have ec:cU [none,none,some 0] (jP (eFn bC (aj (aV (f1 dm) (aj (ah 0) (aM))) (aM)))) (p7 2 (gW (bR 0) (gW (bR 1) (qu)))) (jw (aK sY (aK fQ (ah 2) (aK aSub (ah 0) (eC (.int 1)))) (aK fQ (ah 2) (aK aSub (ah 1) (eC (.int 1)))))) (iQ (aj (ah 0) (aj (ah 1) (aM)))) [.tup (xs.map .int)] S=.ok (.ref (S++[O.lst (prs n)]).length) ((S++[O.lst (prs n)])++[.lst ((prs n).filter (wg xs))]):=by
  unfold cU
  rw [qv (S1:=S++[O.lst (prs n)]) (by simp only [bD,bools,List.length_map,hlen,eq]) hL,R.cB]
  show R.cR (dN (dY S.length (prs n).length) _ _ _ (prs n).length 0 _ _) _=_
  rw [g1,R.cF,bN (Nat.le_trans (List.length_filter_le _ _) ll)]
 unfold cM f_ iY
 simp only [bD,bools,cW,Nat.reduceAdd,Nat.reduceSub,ec]
noncomputable def gu (i hi:Int):List A:=(bg (i+1) hi).map fun j=>.tup [.int i,.int j]
theorem rD (a:Int) (u:Nat):bg a (a+((u+1:Nat):Int))=bg a (a+(u:Int))++[a+(u:Int)]:=by
 unfold bg
 rw [show (a+((u+1:Nat):Int) - a).toNat=u+1 by omega,show (a+(u:Int) - a).toNat=u by omega,List.range_succ,List.map_append];rfl
theorem qG (n:Nat):prs n=(bg 1 (n:Int)).flatMap fun i=>gu i ((n:Int)+1):=rfl
theorem yU {xs:List Int} {i n:Int}:(((bg (i+1) n).filter fun j=>decide (xs.getD i.toNat 0 > xs.getD j.toNat 0)).map fun j=>A.tup [.int (i+1),.int (j+1)])=(gu (i+1) (n+1)).filter (wg xs):=by
 unfold gu
 have e:bg (i+1+1) (n+1)=(bg (i+1) n).map (·+1):=by
  unfold bg
  rw [List.map_map,show n+1 - (i+1+1)=n - (i+1) by omega]
  refine List.map_congr_left fun q _=>?_
  show i+1+1+(q:Int)=i+1+(q:Int)+1
  omega
 rw [e,List.map_map,List.filter_map]
 congr 1
 refine List.filter_congr fun j _=>?_
 show _=decide (xs.getD (i+1 - 1).toNat 0 > xs.getD (j+1 - 1).toNat 0)
 rw [show i+1 - 1=i by omega,show j+1 - 1=j by omega]
theorem Jp {S:aA} {n m:Nat} {xs ys:List A} (h1:ak S n=some xs) (h2:ak S m=some ys) (h3:xs.length+ys.length<=16777216):pL (.ref n) [.ref m] S=.ok .non (S.set n (.lst (xs++ys))):=by
 show opt (ak S n) _=_
 rw [h1]
 show opt (ak S m) _=_
 rw [h2]
 exact GF h3
theorem xx {i hi:Int} (h0:0<=i) (h:hi<=21):(gu i hi).length<=20:=by
 unfold gu;rw [List.length_map,bL];omega
theorem GA {S:aA} {n:Nat} {xs:List Int} {v:A} (hu:v.dP=false) (hv:∀ T,gb S T->dm v T=.ok (.int n) T/\∀ (i:Int) (x:A),fG (xs.map A.int) i=some x->fQ v (.int i) T=.ok x T) (hlen:xs.length=n) (h1:1<=n) (h2:n<=20):∃ (D:Nat) (S':aA),cu [v] S=.ok (.ref D) S'/\ak S' D=some ((prs n).filter (wg xs))/\gb S S':=by
 unfold cu g9 kE
 simp only [bD,bools,cW,Nat.reduceAdd,Nat.reduceSub,hu,(hv S Kp.refl).1]
 refine jy (lo:=0) (hi:=(n:Int)) (S1:=S++[.lst []]) (show iZ _ _=_ from gc (by simp only [bD,bools]) (eG (by omega) (by omega)))
  (fun t τ S1=>(∃ a3,τ=[v,.int n,.ref S.length,a3])/\ak S1 S.length=some (((bg 1 (1+(t:Int))).flatMap fun i=>gu i ((n:Int)+1)).filter (wg xs))/\gb S S1)
  (fun r=>∃ (D:Nat) (S':aA),RS.end (RS.seq r _)=.ok (.ref D) S'/\ak S' D=some ((prs n).filter (wg xs))/\gb S S') ⟨⟨_,rfl⟩,?_,Kp.refl.lay⟩ ?_ ?_
 ·rw [aU];rfl
 ·rintro t τ S1 ht ⟨⟨a3,rfl⟩,hL,kp⟩
  left
  have hb:(((bg 1 (1+(t:Int))).flatMap fun i=>gu i ((n:Int)+1)).filter (wg xs)).length<=1000:=by
   have q1:=List.length_filter_le (wg xs) ((bg 1 (1+(t:Int))).flatMap fun i=>gu i ((n:Int)+1))
   have q2:=nP (B:=20) (f:=fun i=>gu i ((n:Int)+1)) (bg 1 (1+(t:Int))) fun x hx=>xx (by have:=eo.mp hx;omega) (by omega)
   rw [bL] at q2
   have q3:(1+(t:Int) - 1).toNat * 20<=20 * 20:=Nat.mul_le_mul_right _ (by omega)
   omega
  have x0:fG (xs.map A.int) (0+(t:Int))=some (.int (xs.getD (0+(t:Int)).toNat 0)):=Ju (by omega) (by omega)
  have ec:=zD (lo:=0+(t:Int)+1) (hi:=(n:Int)) (cap:=[some 3,some 0]) (src:=gS (aK dc (ah 3) (eC (.int 1))) (ah 1)) (t:=jw (aK sY (aK fQ (ah 2) (ah 1)) (aK fQ (ah 2) (ah 0)))) (e:=iQ (aj (aK dc (ah 1) (eC (.int 1))) (aj (aK dc (ah 0) (eC (.int 1))) (aM)))) (τ:=[v,.int n,.ref S.length,.int (0+(t:Int))]) (S:=S1) (S1:=S1)
   (nR (S1:=S1) (by simp only [bD,bools]) (by simp only [bD,bools]) (eG (by omega) (by omega)) (eG (by omega) (by omega)))
   (fun j=>decide (xs.getD (0+(t:Int)).toNat 0 > xs.getD j.toNat 0)) (fun j=>.tup [.int (0+(t:Int)+1),.int (j+1)]) (fun j g1 g2=>by
    have x2:fG (xs.map A.int) j=some (.int (xs.getD j.toNat 0)):=Ju (by omega) (by omega)
    simp only [bD,bools,hu,(hv S1 kp).2 _ _ x0,(hv S1 kp).2 _ _ x2]) (fun j _ _ _=>by simp only [bD,bools,kD (show ([_,_]:List A).length<=16777216 by simp)]) (by omega)
  rw [yU] at ec
  have hr:((gu (0+(t:Int)+1) ((n:Int)+1)).filter (wg xs)).length<=1000:=Nat.le_trans (List.length_filter_le _ _) (Nat.le_trans (xx (by omega) (by omega)) (by decide))
  have lt:=fE hL
  have ex:=Jp (S:=S1++[.lst ((gu (0+(t:Int)+1) ((n:Int)+1)).filter (wg xs))]) (cV hL) aU (by omega)
  unfold ja
  simp only [bD,bools,hu,hL,ec,ex]
  refine ⟨_,_,rfl,⟨_,rfl⟩,?_,kp.lay.set (.inr (Nat.le_refl _))⟩
  rw [dI (by rw [List.length_append];exact Nat.lt_of_lt_of_le lt (Nat.le_add_right _ _)),rD,List.flatMap_append,List.filter_append,show (0:Int)+(t:Int)+1=1+(t:Int) by omega]
  simp
 ·rintro τ S1 ⟨⟨a3,rfl⟩,hL,kp⟩
  simp only [bD,bools]
  refine ⟨_,_,rfl,?_,kp⟩
  rw [hL,show 1+(((n:Int) - 0).toNat:Int)=1+((((n - 1)+1:Nat)):Int) by omega,rD,List.flatMap_append,qG]
  have e:gu (1+((n - 1:Nat):Int)) ((n:Int)+1)=[]:=by
   unfold gu bg
   rw [show ((n:Int)+1 - (1+((n - 1:Nat):Int)+1)).toNat=0 by omega];rfl
  rw [show (1:Int)+((n - 1:Nat):Int)=n by omega] at e ⊢
  simp [e]
open Bl
theorem zM {xs:List Int} {i:Nat} (h:i<=xs.length):(bg ((i:Int)+1) ((xs.length:Int)+1)).map (fun j=>xs.getD (j - 1).toNat 0)=xs.drop i:=by
 apply List.ext_getElem?
 intro p
 rw [List.getElem?_map,List.getElem?_drop]
 by_cases c:i+p < xs.length
 ·have:(bg ((i:Int)+1) ((xs.length:Int)+1))[p]?=some ((i:Int)+1+p):=by
   unfold bg
   rw [List.getElem?_map,List.getElem?_range (by omega)];rfl
  rw [this]
  show some (xs.getD ((i:Int)+1+p - 1).toNat 0)=_
  rw [show ((i:Int)+1+p - 1).toNat=i+p by omega,<- Iv.xD c]
 ·rw [List.getElem?_eq_none (by rw [bL];omega),List.getElem?_eq_none (by omega)];rfl
theorem DF {xs:List Int} {i:Nat} (h:i < xs.length):((gu ((i:Int)+1) ((xs.length:Int)+1)).filter (wg xs)).length=(xs.drop (i+1)).countP fun y=>decide (y < xs.getD i 0):=by
 rw [<- zM (xs:=xs) (i:=i+1) (by omega),List.countP_map,<- List.countP_eq_length_filter]
 unfold gu
 rw [List.countP_map,show (((i+1:Nat):Int))=(i:Int)+1 by omega]
 refine List.countP_congr fun j _=>?_
 show wg xs (.tup [.int ((i:Int)+1),.int j])=true ↔ decide (xs.getD (j - 1).toNat 0 < xs.getD i 0)=true
 show decide (xs.getD ((i:Int)+1 - 1).toNat 0 > xs.getD (j - 1).toNat 0)=true ↔ _
 rw [show ((i:Int)+1 - 1).toNat=i by omega]
theorem rX {xs:List Int}:∀ (k i:Nat),i+k=xs.length->(((List.range' i k).flatMap fun q:Nat=>gu ((q:Int)+1) ((xs.length:Int)+1)).filter (wg xs)).length=Iv.inv (xs.drop i)
 | 0,i,h=>by rw [List.drop_of_length_le (by omega)];rfl
 | k+1,i,h=>by
  have hi:i < xs.length:=by omega
  rw [List.range'_succ,List.flatMap_cons,List.filter_append,List.length_append,DF hi,rX k (i+1) (by omega)]
  have:xs.drop i=xs.getD i 0::xs.drop (i+1):=by
   rw [List.drop_eq_getElem_cons hi]
   congr 1
   have:=Iv.xD hi
   rw [List.getElem?_eq_getElem hi] at this
   exact Option.some.inj this
  rw [this];rfl
theorem Cu {xs:List Int} {n:Nat} (hl:xs.length=n) (h1:1<=n):((prs n).filter (wg xs)).length=Iv.inv xs:=by
 have h:=rX (xs:=xs) n 0 (by omega)
 rw [List.drop_zero] at h
 rw [<- h,qG,hl]
 have e:(bg 1 (n:Int)).flatMap (fun i=>gu i ((n:Int)+1))=(List.range' 0 n).flatMap fun q:Nat=>gu ((q:Int)+1) ((n:Int)+1):=by
  obtain ⟨m,rfl⟩:∃ m,n=m+1:=⟨n - 1,by omega⟩
  rw [List.range'_concat,List.flatMap_append]
  have z:gu (((0+1 * m:Nat):Int)+1) (((m+1:Nat):Int)+1)=[]:=by
   unfold gu bg
   rw [show (((m+1:Nat):Int)+1 - ((((0+1 * m:Nat):Int)+1)+1)).toNat=0 by omega];rfl
  rw [List.flatMap_cons,z]
  unfold bg
  rw [show (((m+1:Nat):Int) - 1).toNat=m by omega,List.flatMap_map,List.range_eq_range']
  simp only [List.flatMap_nil,List.append_nil]
  congr 1
  funext q
  rw [Int.add_comm]
 rw [e]
theorem GP {S:aA} {a:List Int} {i j:Nat} (hij:i < j) (hj:j < a.length) (hl:a.length<=1000):∃ S',bq [.tup (a.map .int),.int ((i:Int)+1),.int ((j:Int)+1)] S=.ok (.tup ((Iv.sw a i j).map .int)) S'/\gb S S':=by
 have a1:fG (a.map A.int) (j:Int)=some (.int (a.getD j 0)):=K3 rfl hj
 have a2:fG (a.map A.int) (i:Int)=some (.int (a.getD i 0)):=K3 rfl (by omega)
 have x1:qt a.length (i:Int)=some i:=jq rfl (by omega)
 have x2:qt a.length (j:Int)=some j:=jq rfl hj
 have hL:ak (S++[O.lst (a.map .int)]) S.length=some (a.map .int):=aU
 have lS:∀ ys,ak ((S++[O.lst (a.map .int)]).set S.length (.lst ys)) S.length=some ys:=fun ys=>dI (by simp)
 have em:((a.map A.int).set i (.int (a.getD j 0))).set j (.int (a.getD i 0))=(Iv.sw a i j).map .int:=by unfold Iv.sw;rw [List.map_set,List.map_set]
 unfold bq dw fC
 simp only [bD,bools,cW,Nat.reduceAdd,Nat.reduceSub,hL,show (j:Int)+1 - 1=j by omega,show (i:Int)+1 - 1=i by omega,a1,a2,cP (show 2<=sizeLine by decide),cP (show 2=2 from rfl),List.length_map,x1,lS,List.length_set,x2,em]
 rw [dI (by simp)]
 simp only [bD,bools]
 exact ⟨_,rfl,((Kp.refl.lay).set (.inr (Nat.le_refl _))).set (.inr (Nat.le_refl _))⟩
open Stp
noncomputable abbrev bx (w:List Int):A:=.tup (w.map .int)
noncomputable def pA (p:Nat×Nat):A:=.tup [.int ((p.1:Int)+1),.int ((p.2:Int)+1)]
noncomputable def DB (n i:Nat):List (Nat×Nat):=(List.range' (i+1) (n - (i+1))).map fun j=>(i,j)
noncomputable def IP (n:Nat):List (Nat×Nat):=(List.range n).flatMap (DB n)
theorem wX {n:Nat} {p:Nat×Nat} (h:p∈IP n):p.1 < p.2/\p.2 < n:=by
 obtain ⟨i,hi,h⟩:=List.mem_flatMap.mp h
 obtain ⟨j,hj,rfl⟩:=List.mem_map.mp h
 have:=List.mem_range.mp hi
 rw [List.mem_range'_1] at hj
 exact ⟨by show i < j;omega,by show j < n;omega⟩
theorem vG {n:Nat} (h1:1<=n):prs n=(IP n).map pA:=by
 have e1:List.range n=List.range (n - 1)++[n - 1]:=by rw [<- List.range_succ,Nat.succ_eq_add_one,show n - 1+1=n by omega]
 have e2:DB n (n - 1)=[]:=by unfold DB;rw [show n - (n - 1+1)=0 by omega];rfl
 unfold IP
 rw [e1,List.flatMap_append,List.flatMap_cons,List.flatMap_nil,e2,List.append_nil,List.append_nil,List.map_flatMap]
 unfold prs
 have e3:bg 1 (n:Int)=(List.range (n - 1)).map fun q:Nat=>(1:Int)+q:=by
  unfold bg
  rw [show ((n:Int) - 1).toNat=n - 1 by omega]
 rw [e3,List.flatMap_map]
 congr 1
 funext i
 unfold DB bg
 rw [List.map_map,List.map_map,List.range'_eq_map_range,List.map_map,show ((n:Int)+1 - (1+(i:Int)+1)).toNat=n - (i+1) by omega]
 refine List.map_congr_left fun q _=>?_
 show A.tup [.int (1+(i:Int)),.int (1+(i:Int)+1+(q:Int))]=A.tup [.int ((i:Int)+1),.int (((i+1+q:Nat):Int)+1)]
 rw [show (1:Int)+(i:Int)=(i:Int)+1 by omega,show ((i:Int)+1+1+(q:Int))=(((i+1+q:Nat):Int)+1) by omega]
theorem Jr {a:List Int} {i j:Nat} (hij:i < j) (hj:j < a.length):gD (a.map A.int) (some ((i:Int)+1)) (some ((j:Int)+1 - 1))=(mm a i j).map .int:=by
 unfold gD mm
 have l:(a.map A.int).length=a.length:=List.length_map ..
 have s1:HT.dz (a.map A.int).length 0 (some ((i:Int)+1))=i+1:=by
  rw [show (i:Int)+1=((i+1:Nat):Int) by omega,HT.iE,l];omega
 have s2:HT.dz (a.map A.int).length (a.map A.int).length (some ((j:Int)+1 - 1))=j:=by
  rw [show (j:Int)+1 - 1=(j:Int) by omega,HT.iE,l];omega
 rw [s1,s2,List.map_take,List.map_drop,show j - (i+1)=j - i - 1 by omega]
theorem LK {f g:A->A->aA->R A} {ca cb cc:Ex} {τ:List A} {S:aA} {a b c:A} (h1:ca τ S=.ok a S) (h2:cb τ S=.ok b S) (h3:f a b S=.ok (.bl true) S) (h4:cc τ S=.ok c S):Dz f g ca cb cc τ S=g b c S:=by
 unfold Dz;rw [h1,R.cB,h2,R.cB,h3,R.cB];unfold M8;show (cc τ S).bind _=_;rw [h4];rfl
theorem MA {f g:A->A->aA->R A} {ca cb cc:Ex} {τ:List A} {S:aA} {a b:A} (h1:ca τ S=.ok a S) (h2:cb τ S=.ok b S) (h3:f a b S=.ok (.bl false) S):Dz f g ca cb cc τ S=.ok (.bl false) S:=by
 unfold Dz;rw [h1,R.cB,h2,R.cB,h3,R.cB];rfl
theorem Hr {S:aA} {n:Nat} {xs:List A} {bs:List Bool} (h:ak S n=some xs) (hb:A.yk xs=some bs):Hu (.ref n) S=.ok (.bl (bs.any fun b=>b)) S:=by
 show opt (ak S n) _=_
 rw [h]
 show opt (A.yk xs) _=_
 rw [hb];rfl
theorem E_ {α:Type} (f:α->Bool):∀ (xs:List α),A.yk (xs.map fun x=>.bl (f x))=some (xs.map f)
 | []=>rfl
 | x::xs=>by rw [List.map_cons,ki,E_ f xs];rfl
theorem D7 {S:aA} {a:List Int} {i j:Nat} (hij:i < j) (hj:j < a.length) (hl:a.length<=20):dF [.tup (a.map .int),.int ((i:Int)+1),.int ((j:Int)+1)] S=.ok (.bl (Jw a i j)) (S++[.lst ((mm a i j).map fun m=>.bl (qL (if a.getD j 0 < a.getD i 0 then a.getD j 0 else a.getD i 0) (if a.getD j 0 > a.getD i 0 then a.getD j 0 else a.getD i 0) m))]):=by
 have a1:fG (a.map A.int) (j:Int)=some (.int (a.getD j 0)):=K3 rfl hj
 have a2:fG (a.map A.int) (i:Int)=some (.int (a.getD i 0)):=K3 rfl (by omega)
 obtain ⟨x,hx⟩:∃ x,x=(if a.getD j 0 < a.getD i 0 then a.getD j 0 else a.getD i 0):=⟨_,rfl⟩
 obtain ⟨y,hy⟩:∃ y,y=(if a.getD j 0 > a.getD i 0 then a.getD j 0 else a.getD i 0):=⟨_,rfl⟩
 have lm:(mm a i j).length<=20:=by unfold mm;rw [List.length_take,List.length_drop];omega
 have ec:=Bd (cap:=[some 3,some 4]) (src:=jP (Jq (ah 0) (jB (ah 1)) (jB (aK aSub (ah 2) (eC (.int 1)))))) (e:=Dz zh zh (ah 1) (ah 0) (ah 2)) (τ:=[.tup (a.map .int),.int ((i:Int)+1),.int ((j:Int)+1),.int x,.int y]) (S:=S) (S1:=S) (xs:=(mm a i j).map .int)
  (Ir (by
   simp only [bD,bools]
   have hg:¬ (HT.dz (a.map A.int).length 0 (some ((i:Int)+1))=0/\HT.dz (a.map A.int).length (a.map A.int).length (some ((j:Int)+1 - 1))=(a.map A.int).length):=by
    rw [show (i:Int)+1=((i+1:Nat):Int) by omega,HT.iE,List.length_map]
    omega
   have hs:Jy (.tup (a.map .int)) (some ((i:Int)+1)) (some ((j:Int)+1 - 1)) S=.ok (.tup (gD (a.map .int) (some ((i:Int)+1)) (some ((j:Int)+1 - 1)))) S:=cP hg
   rw [hs,Jr hij hj]))
  (fun z=>match z with | .int m=>.bl (qL x y m) | _=>.non) (fun z hz=>by
   obtain ⟨m,_,rfl⟩:=List.mem_map.mp hz
   show Dz zh zh (ah 1) (ah 0) (ah 2) [.int m,.int x,.int y] S=.ok (.bl (qL x y m)) S
   unfold qL
   by_cases c:x < m
   ·rw [LK (a:=.int x) (b:=.int m) (c:=.int y) rfl rfl (by simp only [bD,decide_eq_true c]) rfl,decide_eq_true c,Bool.true_and]
    simp only [bD]
   ·rw [MA (a:=.int x) (b:=.int m) rfl rfl (by simp only [bD,decide_eq_false c]),decide_eq_false c];rfl) (by rw [List.length_map];omega)
 rw [List.map_map,show ((fun z=>match z with | .int m=>A.bl (qL x y m) | _=>.non) ∘ A.int:Int->A)=(fun m=>A.bl (qL x y m)) from rfl] at ec
 unfold dF j3 oV
 simp only [bD,bools,cW,Nat.reduceAdd,Nat.reduceSub,show (j:Int)+1 - 1=j by omega,show (i:Int)+1 - 1=i by omega,a1,a2,<- hx,<- hy,ec]
 rw [Hr aU (E_ (qL x y) (mm a i j))]
 simp only [bD,bools]
 unfold Jw
 rw [<- hx,<- hy,List.any_map]
 rfl
end K20
namespace K20
open PySem L2 Am
open Stp
theorem ya:∀ {ls:List (List Int)},(∀ l∈ls,l≠[])->Il (ls.map bx)=some ls
 | [],_=>rfl
 | l::ls,h=>by
  have hl:=h l (List.mem_cons_self ..)
  have ih:=ya fun k hk=>h k (List.mem_cons_of_mem _ hk)
  show Il (.tup (l.map .int)::ls.map bx)=_
  unfold Il
  rw [ints_map]
  cases l with
  | nil=>exact absurd rfl hl
  | cons k ks=>dsimp only;rw [ih];rfl
theorem u_ {S:aA} {n:Nat} {ls:List (List Int)} (h:ak S n=some (ls.map bx)) (hne:∀ l∈ls,l≠[]):jJ (.ref n) S=.ok (.ref S.length) (S++[.lst ((fL ls).map bx)]):=by
 cases ls with
 | nil=>
  have e:Lg (.ref n) S=false:=by
   show (match ak S n with
    | some (.tup _::_)=>true
    | _=>false)=_
   rw [h];rfl
  unfold jJ
  rw [e]
  show opt (ak S n) _=_
  rw [h];rfl
 | cons l ls=>
  have e:Lg (.ref n) S=true:=by
   show (match ak S n with
    | some (.tup _::_)=>true
    | _=>false)=_
   rw [h];rfl
  unfold jJ
  rw [e]
  show pK n S=_
  unfold pK
  rw [h,aZ,ya hne,aZ]
theorem KD {a:List Int} {i j:Nat} (h:1<=a.length):Iv.sw a i j≠[]:=fun z=>by
 have:=Iv.IV a i j
 rw [z,List.length_nil] at this
 omega
theorem uH {α β:Type} (ls:List α) (p:α->Bool) (f:α->β) (d:α):((List.range ls.length).filter fun i=>p (ls.getD i d)).map (fun i=>f (ls.getD i d))=(ls.filter p).map f:=by
 have e:ls=(List.range ls.length).map fun i=>ls.getD i d:=(range_getD ls d).symm
 conv=>rhs;rw [e,List.filter_map,List.map_map]
 rfl
noncomputable def stp (a:List Int) (ps:List (Nat×Nat)):List (List Int):=(ps.filter fun p=>Jw a p.1 p.2).map fun p=>Iv.sw a p.1 p.2
theorem BX {S:aA} {a:List Int} {P:Nat} {ps:List (Nat×Nat)} (hp:ak S P=some (ps.map pA)) (hps:∀ p∈ps,p.1 < p.2/\p.2 < a.length) (h1:1<=a.length) (hl:a.length<=20) (hlen:ps.length<=16777216) :
  ∃ (R:Nat) (S':aA),iN [bx a,.ref P] S=.ok (.ref R) S'/\ak S' R=some ((fL (stp a ps)).map bx)/\gb S S'/\S.length<=R:=by
 have pm:∀ i,i < ps.length->ps.getD i (0,0)∈ps:=fun i hi=>by rw [List.getD_eq_getElem?_getD,List.getElem?_eq_getElem hi];exact List.getElem_mem hi
 have lm:(ps.map pA).length=ps.length:=List.length_map ..
 obtain ⟨S',g1,g2,g3⟩:=gI (s:=dY P (ps.map pA).length) (g:=p7 2 (gW (bR 0) (gW (bR 1) (qu)))) (t:=jo (eFn dF (aj (ah 2) (aj (ah 0) (aj (ah 1) (aM)))))) (e:=eFn bq (aj (ah 2) (aj (ah 0) (aj (ah 1) (aM)))))
  (P:=fun S1=>ak S1 P=some (ps.map pA)/\gb S S1) (T:=fun τ'=>∃ y z,τ'=[y,z,bx a])
  (fun i=>pA (ps.getD i (0,0))) (fun i=>Jw a (ps.getD i (0,0)).1 (ps.getD i (0,0)).2) (fun i=>bx (Iv.sw a (ps.getD i (0,0)).1 (ps.getD i (0,0)).2))
  (fun i S1 hi k=>by
   have hi:i < ps.length:=by rw [<- lm];exact hi
   show (ak S1 P).bind _=_
   rw [k.1,Option.bind_some,List.getElem?_map,List.getD_eq_getElem?_getD,List.getElem?_eq_getElem hi];rfl)
  (fun S1 k=>by
   show (match ak S1 P with
    | some ys=>decide (ys.length<=(ps.map pA).length)
    | none=>false)=true
   rw [k.1]
   simp)
  (fun i τ' S1 hi ⟨y,z,hy⟩ k=>by
   have hi:i < ps.length:=by rw [<- lm];exact hi
   subst hy
   obtain ⟨q1,q2⟩:=hps _ (pm i hi)
   obtain ⟨p,hpe⟩:∃ p,p=ps.getD i (0,0):=⟨_,rfl⟩
   rw [<- hpe] at q1 q2 ⊢
   have s1:=D7 (S:=S1) q1 q2 hl
   have k1:gb S1 (S1++[.lst ((mm a p.1 p.2).map fun m=>.bl (qL (if a.getD p.2 0 < a.getD p.1 0 then a.getD p.2 0 else a.getD p.1 0) (if a.getD p.2 0 > a.getD p.1 0 then a.getD p.2 0 else a.getD p.1 0) m))]):=Kp.refl.lay
   obtain ⟨S2,hS2⟩:∃ S2,S2=S1++[.lst ((mm a p.1 p.2).map fun m=>.bl (qL (if a.getD p.2 0 < a.getD p.1 0 then a.getD p.2 0 else a.getD p.1 0) (if a.getD p.2 0 > a.getD p.1 0 then a.getD p.2 0 else a.getD p.1 0) m))]:=⟨_,rfl⟩
   rw [<- hS2] at s1 k1
   obtain ⟨S3,e3,k3⟩:=GP (S:=S2) q1 q2 (by omega)
   refine ⟨[.int ((p.1:Int)+1),.int ((p.2:Int)+1),bx a],S1,S2,?_,?_,⟨_,_,rfl⟩,fun _=>⟨k1.lst _ _ (fun z=>z) k.1,k.2.trans k1⟩,fun _=>⟨S3,?_,(k1.trans k3).lst _ _ (fun z=>z) k.1,(k.2.trans k1).trans k3⟩⟩
   ·show p7 2 (gW (bR 0) (gW (bR 1) (qu))) (.tup [.int ((p.1:Int)+1),.int ((p.2:Int)+1)]) _ _=_
    simp only [bD,fW,bools,cP (show ([_,_]:List A).length=2 from rfl)]
   ·simp only [bD,fW,bools,s1]
   ·simp only [bD,fW,bools,e3])
  (ps.map pA).length 0 (eB [none,none,some 0] [bx a,.ref P]) S rfl ⟨_,_,rfl⟩ ⟨hp,Kp.refl⟩
 rw [lm,<- List.range_eq_range',uH ps (fun p=>Jw a p.1 p.2) (fun p=>bx (Iv.sw a p.1 p.2)) (0,0)] at g1
 have e1:(ps.filter fun p=>Jw a p.1 p.2).map (fun p=>bx (Iv.sw a p.1 p.2))=(stp a ps).map bx:=by unfold stp;rw [List.map_map];rfl
 rw [e1] at g1
 have ll:((stp a ps).map bx).length<=16777216:=by
  unfold stp
  rw [List.length_map,List.length_map]
  exact Nat.le_trans (List.length_filter_le _ _) hlen
 have ec:cU [none,none,some 0] (jP (ah 1)) (p7 2 (gW (bR 0) (gW (bR 1) (qu)))) (jo (eFn dF (aj (ah 2) (aj (ah 0) (aj (ah 1) (aM)))))) (eFn bq (aj (ah 2) (aj (ah 0) (aj (ah 1) (aM))))) [bx a,.ref P] S=.ok (.ref S'.length) (S'++[.lst ((stp a ps).map bx)]):=by
  unfold cU
  rw [qv (S1:=S) (by simp only [bD,fW,bools]) hp,R.cB]
  show R.cR (dN (dY P (ps.map pA).length) _ _ _ (ps.map pA).length 0 _ _) _=_
  rw [lm,g1,R.cF,bN ll]
 have so:=u_ (S:=S'++[.lst ((stp a ps).map bx)]) (n:=S'.length) aU fun l hl=>by
  unfold stp at hl
  obtain ⟨p,_,rfl⟩:=List.mem_map.mp hl
  exact KD h1
 refine ⟨(S'++[O.lst ((stp a ps).map bx)]).length,(S'++[O.lst ((stp a ps).map bx)])++[.lst ((fL (stp a ps)).map bx)],?_,aU,g3.lay.lay,by have:=g3.len;rw [List.length_append];omega⟩
 unfold iN qA v_
 simp only [bD,fW,bools,cW,Nat.reduceAdd,Nat.reduceSub,ec,so]
theorem Ei {n:Nat} (h1:1<=n) (h:n<=20):(IP n).length<=16777216:=by
 have:=qp (n:=(n:Int)) (by omega) (by omega)
 rw [vG h1,List.length_map] at this
 exact this
theorem Ew {n:Nat} (h1:1<=n) (q:A->Bool):(prs n).filter q=((IP n).filter fun p=>q (pA p)).map pA:=by
 rw [vG h1,List.filter_map];rfl
noncomputable def ups (a:List Int):List (Nat×Nat):=(IP a.length).filter fun p=>decide (a.getD p.1 0 < a.getD p.2 0)
theorem CB {S:aA} {a:List Int} (h1:1<=a.length) (hl:a.length<=20):∃ (R:Nat) (S':aA),cL [bx a] S=.ok (.ref R) S'/\ak S' R=some ((fL (stp a (ups a))).map bx)/\gb S S'/\S.length<=R:=by
 have eq:=sO (S:=S) (n:=(a.length:Int)) (by omega) (by omega)
 have hL:ak (S++[O.lst (prs a.length)]) S.length=some (prs a.length):=aU
 obtain ⟨S',g1,g2⟩:=gI (s:=dY S.length (prs a.length).length) (g:=p7 2 (gW (bR 0) (gW (bR 1) (qu)))) (t:=jw (aK zh (aK fQ (ah 2) (aK aSub (ah 0) (eC (.int 1)))) (aK fQ (ah 2) (aK aSub (ah 1) (eC (.int 1)))))) (e:=iQ (aj (ah 0) (aj (ah 1) (aM))))
  (P:=fun S1=>S1=S++[O.lst (prs a.length)]) (T:=fun τ'=>∃ y z,τ'=[y,z,bx a])
  (fun i=>(prs a.length).getD i .unb) (fun i=>match (prs a.length).getD i .unb with | .tup [.int i,.int j]=>decide (a.getD (i - 1).toNat 0 < a.getD (j - 1).toNat 0) | _=>false) (fun i=>(prs a.length).getD i .unb)
  (fun i S1 hi k=>by
   have hi:i < (prs a.length).length:=hi
   show (ak S1 S.length).bind _=_
   rw [k,hL,Option.bind_some,List.getD_eq_getElem?_getD,List.getElem?_eq_getElem hi];rfl)
  (fun S1 k=>by
   show (match ak S1 S.length with
    | some ys=>decide (ys.length<=(prs a.length).length)
    | none=>false)=true
   rw [k,hL]
   simp)
  (fun i τ' S1 hi ⟨y,z,hy⟩ k=>by
   have hi:i < (prs a.length).length:=hi
   subst hy k
   have hm:(prs a.length).getD i .unb∈prs a.length:=by rw [List.getD_eq_getElem?_getD,List.getElem?_eq_getElem hi];exact List.getElem_mem hi
   obtain ⟨u,c,q1,q2,q3,eac⟩:=wL.mp hm
   rw [eac]
   have x1:fG (a.map A.int) (u - 1)=some (.int (a.getD (u - 1).toNat 0)):=Ju (by omega) (by omega)
   have x2:fG (a.map A.int) (c - 1)=some (.int (a.getD (c - 1).toNat 0)):=Ju (by omega) (by omega)
   refine ⟨[.int u,.int c,bx a],S++[O.lst (prs a.length)],S++[O.lst (prs a.length)],by simp only [bD,fW,bools,cP (show ([_,_]:List A).length=2 from rfl)],by simp only [bD,fW,bools,x1,x2],⟨_,_,rfl⟩,fun _=>rfl,fun _=>⟨_,by simp only [bD,fW,bools,kD (show ([_,_]:List A).length<=16777216 by simp)],rfl⟩⟩)
  (prs a.length).length 0 (eB [none,none,some 0] [bx a]) (S++[O.lst (prs a.length)]) rfl ⟨_,_,rfl⟩ rfl
 subst g2
 rw [<- List.range_eq_range',uH (prs a.length) (fun z=>match z with | .tup [.int i,.int j]=>decide (a.getD (i - 1).toNat 0 < a.getD (j - 1).toNat 0) | _=>false) (fun q=>q) .unb,List.map_id'] at g1
 have ef:(prs a.length).filter (fun z=>match z with | .tup [.int i,.int j]=>decide (a.getD (i - 1).toNat 0 < a.getD (j - 1).toNat 0) | _=>false)=(ups a).map pA:=by
  rw [Ew h1]
  have:(fun p=>(fun z=>match z with | .tup [.int i,.int j]=>decide (a.getD (i - 1).toNat 0 < a.getD (j - 1).toNat 0) | _=>false) (pA p))=fun p:Nat×Nat=>decide (a.getD p.1 0 < a.getD p.2 0):=by
   funext p
   show decide (a.getD ((p.1:Int)+1 - 1).toNat 0 < a.getD ((p.2:Int)+1 - 1).toNat 0)=_
   rw [show ((p.1:Int)+1 - 1).toNat=p.1 by omega,show ((p.2:Int)+1 - 1).toNat=p.2 by omega]
  rw [this];rfl
 rw [ef] at g1
 have lu:(ups a).length<=16777216:=Nat.le_trans (List.length_filter_le _ _) (Ei h1 hl)
 have ec:cU [none,none,some 0] (jP (eFn bC (aj (aV (f1 dm) (aj (ah 0) (aM))) (aM)))) (p7 2 (gW (bR 0) (gW (bR 1) (qu)))) (jw (aK zh (aK fQ (ah 2) (aK aSub (ah 0) (eC (.int 1)))) (aK fQ (ah 2) (aK aSub (ah 1) (eC (.int 1)))))) (iQ (aj (ah 0) (aj (ah 1) (aM)))) [bx a] S=.ok (.ref (S++[O.lst (prs a.length)]).length) ((S++[O.lst (prs a.length)])++[.lst ((ups a).map pA)]):=by
  unfold cU
  rw [qv (S1:=S++[O.lst (prs a.length)]) (by simp only [bD,fW,bools,List.length_map,eq]) hL,R.cB]
  show R.cR (dN (dY S.length (prs a.length).length) _ _ _ (prs a.length).length 0 _ _) _=_
  rw [g1,R.cF,bN (by rw [List.length_map];exact lu)]
 have k1:gb S ((S++[O.lst (prs a.length)])++[.lst ((ups a).map pA)]):=Kp.refl.lay.lay
 have l1:ak ((S++[O.lst (prs a.length)])++[.lst ((ups a).map pA)]) (S++[O.lst (prs a.length)]).length=some ((ups a).map pA):=aU
 obtain ⟨R,S2,e2,g2,k2,b2⟩:=BX (a:=a) l1 (fun p hp=>wX (List.mem_filter.mp hp).1) h1 hl lu
 refine ⟨R,S2,?_,g2,k1.trans k2,Nat.le_trans k1.len b2⟩
 unfold cL fX iX
 simp only [bD,fW,bools,cW,Nat.reduceAdd,Nat.reduceSub,ec,e2]
theorem M0 {S:aA} {a:List Int} (h1:1<=a.length) (hl:a.length<=20):∃ (D:Nat) (S':aA),cu [bx a] S=.ok (.ref D) S'/\(∃ xs,ak S' D=some xs/\xs.length=Iv.inv a)/\gb S S':=by
 obtain ⟨D,S',e,g,k⟩:=GA (S:=S) (n:=a.length) (xs:=a) (v:=bx a) rfl (fun T _=>⟨by simp only [bD,List.length_map],fun i x h=>by simp only [bD,h]⟩) rfl h1 hl
 exact ⟨D,S',e,⟨_,g,Cu rfl h1⟩,k⟩
end K20
namespace K20
open PySem L2 Am
open Bl
theorem gO {S:aA} {xs ys:List Int} (h:xs.length=ys.length):bK [.tup (xs.map .int),.tup (ys.map .int)] S=.ok .non S:=by
 unfold bK fP iC
 simp only [bD,fW,bools,cW,Nat.reduceAdd,Nat.reduceSub,List.length_map,h,beq_self_eq_true,Bool.not_true]
theorem Bu {S:aA} {L:Nat} {ms:List Int} (hL:ak S L=some (ms.map .int)) (hp:∃ m∈ms,0 < m) (hms:ms.length<=1000):∃ j:Nat,bz [.ref L] S=.ok (.int ((j:Int)+1)) S/\(∃ m,ms[j]?=some m/\0 < m)/\∀ (k:Nat) (m:Int),k < j->ms[k]?=some m->m<=0:=by
 unfold bz cT eE
 simp only [bD,fW,bools,cW,Nat.reduceAdd,Nat.reduceSub]
 refine ig (fun τ S'=>S'=S/\∃ p:Nat,p < ms.length/\τ=[.ref L,.int ((p:Int)+1)]/\∀ (k:Nat) (m:Int),k < p->ms[k]?=some m->m<=0)
  (fun τ _=>match τ with
   | [_,.int i]=>(ms.length+1) - i.toNat
   | _=>0)
  (fun r=>∃ j:Nat,RS.end (RS.seq r _)=.ok (.int ((j:Int)+1)) S/\(∃ m,ms[j]?=some m/\0 < m)/\∀ (k:Nat) (m:Int),k < j->ms[k]?=some m->m<=0) ?_ 1000000 _ _ ⟨rfl,0,?_,rfl,fun k m hk=>absurd hk (Nat.not_lt_zero _)⟩ ?_
 ·rintro τ S' ⟨rfl,p,hpl,rfl,hall⟩
  have ha:fG (ms.map A.int) ((p:Int)+1 - 1)=some (.int ms[p]):=fN (k:=p) (by omega) (List.getElem?_eq_getElem hpl)
  unfold dO dJ
  simp only [bD,fW,bools,hL,ha]
  by_cases h0:ms[p]<=0
  ·right
   refine ⟨S',by rw [decide_eq_true h0],.inl ⟨_,_,rfl,⟨rfl,p+1,?_,congrArg (fun z=>[A.ref L,A.int z]) (by omega),fun k m hk hm=>?_⟩,?_⟩⟩
   ·obtain ⟨m,hm,hm0⟩:=hp
    obtain ⟨k,hk,e⟩:=List.mem_iff_getElem.mp hm
    have:¬ k<=p:=fun hkp=>by
     rcases Nat.lt_or_ge k p with h | h
     ·have:=hall k m h (by rw [List.getElem?_eq_getElem hk,e])
      omega
     ·have:k=p:=by omega
      subst this
      omega
    omega
   ·rcases Nat.lt_or_ge k p with h | h
    ·exact hall k m h hm
    ·have:k=p:=by omega
     subst this
     rw [List.getElem?_eq_getElem hpl] at hm
     cases hm
     exact h0
   ·show ms.length+1 - ((p:Int)+1+1).toNat < ms.length+1 - ((p:Int)+1).toNat
    omega
  ·left
   refine ⟨S',by rw [decide_eq_false h0],p,by simp only [bD,fW,bools],⟨ms[p],List.getElem?_eq_getElem hpl,by omega⟩,hall⟩
 ·obtain ⟨m,hm,_⟩:=hp
  exact List.length_pos_of_mem hm
 ·show ms.length+1 - (1:Int).toNat < 1000000
  omega
theorem qR {f:A->A->aA->R A} {d:Int} (hf:∀ (m:Int) S,f (.int m) (.int 1) S=.ok (.int (m+d)) S) {src:Ic} {L:Nat} {ms:List Int} {a0 a1 a3 a4:A} {x:Int} {S:aA} {Post:RS->Prop} (hx0:0<=x) (hx:x<=ms.length)
  (hsrc:src [a0,a1,.ref L,a3,a4] S=.ok (cD 0 x) S) (hL:ak S L=some (ms.map .int)) (fin:∀ a4' S',ak S' L=some ((dh x.toNat d ms).map .int)->Kp (·=L) S S'->Post (.nx [a0,a1,.ref L,a3,a4'] S')) :
  Post (jh src (bR 4) (nL (ah 2) (ah 4) (eC (.int 1)) f) [a0,a1,.ref L,a3,a4] S):=by
 refine jy (lo:=0) (hi:=x) hsrc (fun i τ S'=>∃ a4',τ=[a0,a1,.ref L,a3,a4']/\ak S' L=some ((dh i d ms).map .int)/\Kp (·=L) S S') Post ⟨a4,rfl,hL,Kp.refl⟩ ?_ ?_
 ·rintro i τ S' hi ⟨a4',rfl,hL',hk⟩
  left
  have hi':i < ms.length:=by omega
  have e1:((dh i d ms).map A.int)[((0:Int)+(i:Int)).toNat]?=some (.int ms[i]):=by
   rw [show ((0:Int)+(i:Int)).toNat=i by omega,List.getElem?_map,iG,List.getElem?_eq_getElem hi']
   simp
  have e2:qt (dh i d ms).length (0+(i:Int))=some i:=jq (by omega) (by rw [j5];exact hi')
  have lL:=fE hL'
  simp only [bD,fW,bools,hL',cP (show (0:Int)<=0+(i:Int) by omega),e1,hf,List.length_map,e2]
  refine ⟨_,_,rfl,_,rfl,?_,hk.set (.inl rfl)⟩
  rw [dI lL,<- lQ i d ms ms[i] (List.getElem?_eq_getElem hi'),List.map_set]
 ·rintro τ S' ⟨a4',rfl,hL',hk⟩
  exact fin a4' S' (by rw [Int.sub_zero] at hL';exact hL') hk
noncomputable def Gp (xs ys:List Int) (i j:Nat):Prop:=cnt (ys.take i) j < cnt (xs.take i) j/\(∀ i' j':Nat,i' < i->1<=j'->j'<=xs.length->cnt (xs.take i') j'<=cnt (ys.take i') j')/\∀ j':Nat,1<=j'->j' < j->cnt (xs.take i) j'<=cnt (ys.take i) j'
theorem Io {S:aA} {xs ys:List Int} {n:Nat} (px:xs.Perm (bg 1 ((n:Int)+1))) (py:ys.Perm (bg 1 ((n:Int)+1))) (h1:1<=n) (h2:n<=20):∃ S',((m9 [.tup (xs.map .int),.tup (ys.map .int)] S=.ok .non S'/\Below xs ys) \/
  ∃ i j:Nat,m9 [.tup (xs.map .int),.tup (ys.map .int)] S=.ok (.tup [.int i,.int j]) S'/\1<=i/\i<=n/\1<=j/\j<=n/\Gp xs ys i j)/\gb S S':=by
 have lx:xs.length=n:=by have:=r8 px (by omega);omega
 have ly:ys.length=n:=by have:=r8 py (by omega);omega
 unfold m9 By Ff
 simp only [bD,fW,bools,cW,Nat.reduceAdd,Nat.reduceSub,gO (S:=S) (lx.trans ly.symm),List.length_map,lx]
 rw [JU (k:=n) aU (by omega)]
 simp only [bD,fW,bools]
 have hlen:(S++[O.lst [.int 0]]).length=S.length+1:=by simp
 rw [hlen]
 refine jy (lo:=0) (hi:=(n:Int)) (S1:=S++[O.lst [.int 0]]++[O.lst (List.replicate n (.int 0))]) ?_
  (fun t τ S'=>∃ a3 a4,τ=[.tup (xs.map .int),.tup (ys.map .int),.ref (S.length+1),a3,a4]/\ak S' (S.length+1)=some ((gz n xs ys t).map .int)/\gb S S'/\∀ i' j':Nat,i'<=t->1<=j'->j'<=n->cnt (xs.take i') j'<=cnt (ys.take i') j')
  (fun r=>∃ S',((RS.end (RS.seq r _)=.ok .non S'/\Below xs ys)\/∃ i j:Nat,RS.end (RS.seq r _)=.ok (.tup [.int i,.int j]) S'/\1<=i/\i<=n/\1<=j/\j<=n/\Gp xs ys i j)/\gb S S') ⟨.unb,.unb,rfl,?_,Kp.refl.lay.lay,?_⟩ ?_ ?_
 ·refine gc ?_ (eG (by omega) (by omega))
  simp only [bD,fW,bools,List.length_map,lx]
 ·rw [ET,List.map_replicate,<- hlen];exact aU
 ·intro i' j' hi _ _
  have:i'=0:=by omega
  subst this
  simp [cnt]
 ·rintro t τ S' ht ⟨a3,a4,rfl,hL,hk,hok⟩
  have ht':t < n:=by omega
  have hx:t < xs.length:=by omega
  have hy:t < ys.length:=by omega
  have mx:=sD px (List.getElem_mem hx)
  have my:=sD py (List.getElem_mem hy)
  have ax:fG (xs.map A.int) (0+(t:Int))=some (.int xs[t]):=fN (k:=t) (by omega) (List.getElem?_eq_getElem hx)
  have ay:fG (ys.map A.int) (0+(t:Int))=some (.int ys[t]):=fN (k:=t) (by omega) (List.getElem?_eq_getElem hy)
  unfold vg
  simp only [bD,fW,bools]
  obtain ⟨a4',S2,e2,hL2,hk2⟩:=qR (f:=yZ) (d:=1) (ms:=gz n xs ys t) (x:=xs[t]) (src:=vA) (a0:=.tup (xs.map .int)) (a1:=.tup (ys.map .int)) (a3:=.int (0+(t:Int))) (a4:=a4) (Post:=fun r=>∃ a4' S2,r=.nx [.tup (xs.map .int),.tup (ys.map .int),.ref (S.length+1),.int (0+(t:Int)),a4'] S2/\ak S2 (S.length+1)=some ((dh xs[t].toNat 1 (gz n xs ys t)).map .int)/\Kp (·=S.length+1) S' S2) (fun _ _=>rfl) (by omega) (by rw [d8];omega)
   (gc (by simp only [bD,fW,bools,ax]) (eG (by omega) (by omega))) hL (fun a4' S2 h1 h2=>⟨a4',S2,rfl,h1,h2⟩)
  obtain ⟨a4'',S3,e3,hL3,hk3⟩:=qR (f:=aSub) (d:=-1) (ms:=dh xs[t].toNat 1 (gz n xs ys t)) (x:=ys[t]) (src:=xS) (a0:=.tup (xs.map .int)) (a1:=.tup (ys.map .int)) (a3:=.int (0+(t:Int))) (a4:=a4') (Post:=fun r=>∃ a4'' S3,r=.nx [.tup (xs.map .int),.tup (ys.map .int),.ref (S.length+1),.int (0+(t:Int)),a4''] S3/\ak S3 (S.length+1)=some ((dh ys[t].toNat (-1) (dh xs[t].toNat 1 (gz n xs ys t))).map .int)/\Kp (·=S.length+1) S2 S3) (fun _ _=>rfl) (by omega) (by rw [j5,d8];omega)
   (gc (by simp only [bD,fW,bools,ay]) (eG (by omega) (by omega))) hL2 (fun a4' S2 h1 h2=>⟨a4',S2,rfl,h1,h2⟩)
  rw [tV hx hy] at hL3
  have hk':gb S S3:=(hk.old hk2 fun n hn _=>by omega).old hk3 fun n hn _=>by omega
  obtain ⟨m,em,m1,m2⟩:=zS hL3 (by intro z;have:=congrArg List.length z;rw [d8] at this;simp at this;omega)
  simp only [fW,show vS=nL (ah 2) (ah 4) (eC (.int 1)) yZ from rfl,show uS=nL (ah 2) (ah 4) (eC (.int 1)) aSub from rfl,e2,e3,bD,bools,em]
  by_cases hm:0 < m
  ·right
   rw [decide_eq_true hm]
   obtain ⟨j,ej,⟨mj,hj1,hj2⟩,hj3⟩:=Bu hL3 ⟨m,m1,hm⟩ (by rw [d8];omega)
   simp only [bD,fW,bools,ej,kD (show ([_,_]:List A).length<=16777216 by simp)]
   have hjn:j < n:=by
    have:=(List.getElem?_eq_some_iff.mp hj1).1
    rwa [d8] at this
   refine ⟨_,_,rfl,S3,.inr ⟨t+1,j+1,?_,by omega,by omega,by omega,by omega,?_,?_,?_⟩,hk'⟩
   ·have e5:(0:Int)+(t:Int)+1=((t+1:Nat):Int):=by omega
    have e6:(j:Int)+1=((j+1:Nat):Int):=by omega
    rw [e5,e6]
   ·rw [gr hjn] at hj1
    cases hj1
    have:((j+1:Nat):Int)=(j:Int)+1:=by omega
    rw [this]
    omega
   ·intro i' j' hi' h1' h2'
    exact hok i' j' (by omega) h1' (by omega)
   ·intro j' h1' h2'
    have:=hj3 (j' - 1) _ (by omega) (gr (by omega))
    rw [show (((j' - 1:Nat):Int)+1)=(j':Int) by omega] at this
    omega
  ·left
   rw [decide_eq_false hm]
   simp only [bD,fW,bools]
   refine ⟨_,_,rfl,_,_,rfl,hL3,hk',fun i' j' hi' h1' h2'=>?_⟩
   by_cases hi:i'<=t
   ·exact hok i' j' hi h1' h2'
   ·have:i'=t+1:=by omega
    subst this
    have:=m2 _ (List.mem_of_getElem? (gr (n:=n) (xs:=xs) (ys:=ys) (t:=t+1) (j:=j' - 1) (by omega)))
    rw [show (((j' - 1:Nat):Int)+1)=(j':Int) by omega] at this
    omega
 ·rintro τ S' ⟨a3,a4,rfl,hL,hk,hok⟩
  refine ⟨S',.inl ⟨by simp only [bD,fW,bools],?_⟩,hk⟩
  refine (ym px py).mp fun i q hi hq=>?_
  have:=hok (i+1) (q+1) (by omega) (by omega) (by omega)
  exact this
theorem rj {S:aA} {xs ys:List Int} {n:Nat} (px:xs.Perm (bg 1 ((n:Int)+1))) (py:ys.Perm (bg 1 ((n:Int)+1))) (h1:1<=n) (h2:n<=20):∃ (k:Bool) (S':aA),cC [.tup (xs.map .int),.tup (ys.map .int)] S=.ok (.bl k) S'/\(k=true ↔ Below xs ys)/\gb S S':=by
 obtain ⟨S',h | ⟨i,j,e,i1,i2,j1,j2,h,_⟩,hk⟩:=Io (S:=S) px py h1 h2
 ·refine ⟨true,S',?_,⟨fun _=>h.2,fun _=>rfl⟩,hk⟩
  unfold cC gK jl
  simp only [bD,fW,bools,cW,Nat.reduceAdd,Nat.reduceSub,h.1]
 ·refine ⟨false,S',?_,⟨fun z=>absurd z Bool.false_ne_true,fun z=>?_⟩,hk⟩
  ·unfold cC gK jl
   simp only [bD,fW,bools,cW,Nat.reduceAdd,Nat.reduceSub,e]
  ·have:=z i j
   omega
theorem Ec {S:aA} {xs ys:List Int} (h:xs.length≠ys.length) (h1:xs.length<=1000) (h2:ys.length<=1000):bK [.tup (xs.map .int),.tup (ys.map .int)] S=.ex "NoPair" S:=by
 unfold bK fP iC
 have e:((xs.length:Int) == (ys.length:Int))=false:=by
  rw [beq_eq_false_iff_ne];omega
 simp only [bD,fW,bools,cW,Nat.reduceAdd,Nat.reduceSub,List.length_map,e,Bool.not_false,FY (show xs.length < 18446744073709551616 by omega),FY (show ys.length < 18446744073709551616 by omega)]
end K20
namespace K20
open PySem L2 Am
open Bl
open Stp
open Fw (rg)
section
variable {S:aA}
theorem EG {xs:List (List Int×A)}:bG (S++[.dct xs]) S.length=some xs:=jN (by simp)
theorem EV {o:O} {n:Nat} {xs:List (List Int×A)} (h:bG S n=some xs):bG (S++[o]) n=some xs:=by
 have h':=fu h
 exact jN (by rw [List.getElem?_append_left (List.getElem?_eq_some_iff.mp h').1];exact h')
theorem IL {n:Nat} {xs:List (List Int×A)} (h:bG S n=some xs):n < S.length:=(List.getElem?_eq_some_iff.mp (fu h)).1
theorem Ed {n:Nat} {ys:List (List Int×A)} (h:n < S.length):bG (S.set n (.dct ys)) n=some ys:=jN (List.getElem?_set_self h)
theorem nQ {n m:Nat} {o:O} (h:n≠m):bG (S.set n o) m=bG S m:=by unfold bG;rw [List.getElem?_set_ne h]
theorem sI {n m:Nat} {o:O} (h:n≠m):ak (S.set n o) m=ak S m:=by unfold ak;rw [List.getElem?_set_ne h]
end
noncomputable abbrev Eb:=List (List Int×Bool)
noncomputable def kb (es:Eb):List (List Int×A):=es.map fun e=>(e.1,.bl e.2)
theorem pV:∀ {es:Eb} {w:List Int},(eF (kb es) w).isSome=decide (w∈es.map (·.1))
 | [],w=>rfl
 | e::es,w=>by
  show (eF ((e.1,.bl e.2)::kb es) w).isSome=_
  by_cases c:e.1=w
  ·rw [kh c,decide_eq_true (by rw [<- c];simp)];rfl
  ·rw [j9 c,pV,decide_eq_decide]
   constructor
   ·exact fun z=>List.mem_cons_of_mem _ z
   ·intro z
    rcases List.mem_cons.mp z with z | z
    ·exact absurd z.symm c
    ·exact z
theorem sW:∀ {es:Eb} {w:List Int} {b:Bool},w∉es.map (·.1)->eF (kb (es++[(w,b)])) w=some (.bl b)
 | [],w,b,_=>kh rfl
 | e::es,w,b,h=>by
  show eF ((e.1,.bl e.2)::kb (es++[(w,b)])) w=_
  rw [j9 fun z=>h (by rw [<- z];simp)]
  exact sW fun z=>h (List.mem_cons_of_mem _ z)
theorem EI {es:Eb} {w:List Int} {b:Bool} (h:w∉es.map (·.1)):putD (kb es) w (.bl b)=kb (es++[(w,b)]):=by
 unfold putD
 rw [pV,decide_eq_false h,if_neg Bool.false_ne_true]
 unfold kb
 rw [List.map_append];rfl
theorem jA (w:List Int):A.ints (w.map .int)=some w:=ints_map w
theorem IG {S:aA} {D:Nat} {es:Eb} {w:List Int} (h:bG S D=some (kb es)):Jk true (bx w) (.ref D) S=.ok (.bl (!decide (w∈es.map (·.1)))) S:=by
 show opt (bG S D) _=_
 rw [h,aZ]
 show opt (A.ints (w.map .int)) _=_
 rw [jA,aZ,<- pV];rfl
theorem LJ {S:aA} {D:Nat} {es:Eb} {w:List Int} {v:A} (h:bG S D=some (kb es)) (hl:eF (kb es) w=some v):EC (.ref D) (bx w) S=.ok v S:=by
 show opt (bG S D) _=_
 rw [h,aZ]
 show opt (A.ints (w.map .int)) _=_
 rw [jA,aZ,hl,aZ]
theorem few {n:Nat} (hn:n<=9) {ks:List (List Int)} (nd:ks.Nodup) (h:∀ k∈ks,k.Perm (rg n)):ks.length<=362880:=by
 have hr:∀ k∈ks,Nu.rank k < Nu.jm n/\Nu.Lw n (rg n) (Nu.rank k)=k:=fun k hk=>Nu.xF n (rg n) k (Wd.lC n) (Nu.Hq _ _) (h k hk)
 have h1:(ks.map Nu.rank).Nodup:=by
  unfold List.Nodup
  rw [List.pairwise_map]
  exact List.Pairwise.imp_of_mem (fun {a b} ha hb hab z=>hab (by rw [<- (hr a ha).2,<- (hr b hb).2,z])) nd
 have:=Rd.jU (Nu.jm n) _ h1 fun x hx=>by
  obtain ⟨k,hk,rfl⟩:=List.mem_map.mp hx
  exact (hr k hk).1
 rw [List.length_map] at this
 exact Nat.le_trans this (Nat.le_trans (Nu.B6 hn) (by decide))
structure Lk (n:Nat) (es:Eb) (ws:List (List Int)):Prop where
 nd:(es.map (·.1)).Nodup
 pm:∀ e∈es,e.1.Perm (rg n)
 ws:∀ w∈ws,w.Perm (rg n)
theorem Lk.few {n:Nat} {es:Eb} {ws:List (List Int)} (h:Lk n es ws) (hn:n<=9):es.length<=362880:=by
 have:=K20.few hn h.nd fun k hk=>by
  obtain ⟨e,he,rfl⟩:=List.mem_map.mp hk
  exact h.pm e he
 rwa [List.length_map] at this
theorem C1 {n:Nat} {a:List Int} {q:Nat×Nat->Bool} (pa:a.Perm (rg n)):∀ l∈fL (stp a ((IP a.length).filter q)),l.Perm (rg n):=fun l hl=>by
 have hl:=(jj _).mem_iff.mp hl
 unfold stp at hl
 obtain ⟨p,hp,rfl⟩:=List.mem_map.mp hl
 have:=wX (List.mem_filter.mp (List.mem_filter.mp hp).1).1
 exact (Stp.D3 this.1 this.2).trans pa
theorem looked {S0 S T:aA} {n D W M:Nat} {es:Eb} {ws:List (List Int)} {L:List (List Int)} {oth:List Int} (hn:n<=9) (h1:1<=n) (po:oth.Perm (rg n)) (hD:bG S D=some (kb es)) (hW:ak S W=some (ws.map bx)) (hM:ak S M=some (L.map bx)) (hL:∀ l∈L,l.Perm (rg n)) (lk:Lk n es ws)
  (hDS:S0.length<=D) (hWS:S0.length<=W) (hDW:D≠W) (hDM:D≠M) (hWM:W≠M) (hwe:ws.length<=es.length) (kp:gb S0 S) {a0 a4 a5:A} (hsrc:fO [a0,bx oth,.ref D,.ref W,a4,a5] T=.ok (dY M (L.map bx).length) S) :
  ∃ (es':Eb) (ws':List (List Int)) (b5:A) (S':aA),jh fO (bR 5) iy [a0,bx oth,.ref D,.ref W,a4,a5] T=.nx [a0,bx oth,.ref D,.ref W,a4,b5] S'/\bG S' D=some (kb es')/\ak S' W=some (ws'.map bx)/\Lk n es' ws'/\es.length<=es'.length/\ws'.length+es.length<=ws.length+es'.length/\gb S0 S':=by
 refine DC (n:=M) (xs:=L.map bx) (S1:=S) hsrc
  (fun i τ S'=>∃ (es':Eb) (ws':List (List Int)) (b5:A),τ=[a0,bx oth,.ref D,.ref W,a4,b5]/\bG S' D=some (kb es')/\ak S' W=some (ws'.map bx)/\ak S' M=some (L.map bx)/\Lk n es' ws'/\es.length<=es'.length/\ws'.length+es.length<=ws.length+es'.length/\gb S0 S')
  (fun r=>∃ (es':Eb) (ws':List (List Int)) (b5:A) (S':aA),r=.nx [a0,bx oth,.ref D,.ref W,a4,b5] S'/\bG S' D=some (kb es')/\ak S' W=some (ws'.map bx)/\Lk n es' ws'/\es.length<=es'.length/\ws'.length+es.length<=ws.length+es'.length/\gb S0 S')
  ⟨es,ws,_,rfl,hD,hW,hM,lk,Nat.le_refl _,Nat.le_refl _,kp⟩ (fun i τ S' hh=>by obtain ⟨_,_,_,_,_,_,z,_⟩:=hh;exact z) ?_ ?_
 ·rintro i z τ S' hz ⟨es',ws',b5,rfl,hD',hW',hM',lk',hle,hle2,kp'⟩
  rw [List.getElem?_map] at hz
  obtain ⟨x,hx,rfl⟩:=Option.map_eq_some_iff.mp hz
  have px:=hL x (List.mem_of_getElem? hx)
  refine ⟨[a0,bx oth,.ref D,.ref W,a4,bx x],S',rfl,.inl ?_⟩
  unfold iy
  by_cases c:x∈es'.map (·.1)
  ·simp only [bD,fW,bools,IG hD',decide_eq_true c,Bool.not_true]
   exact ⟨_,_,rfl,es',ws',_,rfl,hD',hW',hM',lk',hle,hle2,kp'⟩
  ·obtain ⟨k,U,e1,_,kU⟩:=rj (S:=S') (n:=n) px po h1 (by omega)
   have hDU:=kU.dct _ _ (fun z=>z) hD'
   have hWU:=kU.lst _ _ (fun z=>z) hW'
   have hMU:=kU.lst _ _ (fun z=>z) hM'
   have fw:=lk'.few hn
   have lkb:(kb es').length=es'.length:=List.length_map ..
   have sd:yb (.ref D) (bx x) (.bl k) U=.ok () (U.set D (.dct (kb (es'++[(x,k)])))):=by
    show opt (bG U D) _=_
    rw [hDU,aZ]
    show opt (A.ints (x.map .int)) _=_
    rw [jA,aZ,GF (by rw [lkb,sizeLine_eq];omega),EI c]
   have gw:H_ (ah 2) (ah 5) (.bl k) [a0,bx oth,.ref D,.ref W,a4,bx x] U=.ok [a0,bx oth,.ref D,.ref W,a4,bx x] (U.set D (.dct (kb (es'++[(x,k)])))):=by
    show (yb (.ref D) (bx x) (.bl k) U).bind _=_
    rw [sd];rfl
   have lD:=IL hDU
   have hD2:bG (U.set D (.dct (kb (es'++[(x,k)])))) D=some (kb (es'++[(x,k)])):=Ed lD
   have hW2:ak (U.set D (.dct (kb (es'++[(x,k)])))) W=some (ws'.map bx):=by rw [sI hDW];exact hWU
   have hM2:ak (U.set D (.dct (kb (es'++[(x,k)])))) M=some (L.map bx):=by rw [sI hDM];exact hMU
   have ix:=LJ hD2 (sW c)
   have k2:gb S0 (U.set D (.dct (kb (es'++[(x,k)])))):=(kp'.trans kU).IK (.inr hDS)
   have lk2:∀ vs,(∀ w∈vs,w.Perm (rg n))->Lk n (es'++[(x,k)]) vs:=fun vs hvs=>by
    refine ⟨?_,fun e he=>?_,hvs⟩
    ·rw [List.map_append,List.nodup_append]
     refine ⟨lk'.nd,by simp,fun a ha b hb zz=>c ?_⟩
     have:b=x:=by simpa using hb
     rw [<- this,<- zz];exact ha
    ·rcases List.mem_append.mp he with z | z
     ·exact lk'.pm e z
     ·have:e=(x,k):=by simpa using z
      rw [this];exact px
   have le2:(es'++[(x,k)]).length=es'.length+1:=by simp
   have e1:cC [bx x,bx oth] S'=.ok (.bl k) U:=e1
   cases k with
   | false=>
    simp only [bD,fW,bools,IG hD',decide_eq_false c,Bool.not_false,e1,gw,ix]
    exact ⟨_,_,rfl,_,ws',_,rfl,hD2,hW2,hM2,lk2 _ lk'.ws,by omega,by omega,k2⟩
   | true=>
    have lW:=fE hW2
    have ew:ws'.map bx++[bx x]=(ws'++[x]).map bx:=by rw [List.map_append];rfl
    simp only [bD,fW,bools,IG hD',decide_eq_false c,Bool.not_false,e1,gw,ix,hW2,Gd (show (ws'.map bx).length < 16777216 by rw [List.length_map];omega),ew]
    refine ⟨_,_,rfl,_,ws'++[x],_,rfl,?_,dI lW,?_,lk2 _ fun w hw=>?_,by omega,?_,k2.set (.inr hWS)⟩
    ·rw [nQ hDW.symm];exact hD2
    ·rw [fq hWM];exact hM2
    ·rcases List.mem_append.mp hw with z | z
     ·exact lk'.ws w z
     ·have:w=x:=by simpa using z
      rw [this];exact px
    ·rw [List.length_append,le2];show _+1+_<=_;omega
 ·rintro τ S' ⟨es',ws',b5,rfl,hD',hW',hM',lk',hle,hle2,kp'⟩
  exact ⟨es',ws',b5,S',rfl,hD',hW',lk',hle,hle2,kp'⟩
end K20
namespace K20
open PySem L2 Am
open Bl
open Stp
open Fw (rg)
theorem GY {S:aA} {n:Nat} {xs:List Int} (hlen:xs.length=n) (h2:n<=20):∃ S',ee [.tup (xs.map .int)] S=.ok (.int (((prs n).filter (wg xs)).length:Int)) S'/\gb S S':=by
 obtain ⟨P,S1,e1,g1,k1,_⟩:=JX (S:=S) hlen h2
 unfold ee mF rR
 simp only [bD,bools,cW,Nat.reduceAdd,Nat.reduceSub,e1,g1]
 exact ⟨_,rfl,k1⟩
theorem Gv {S:aA} {n:Nat} {xs:List A} (h:ak S n=some xs):A.Iu (.ref n) S=some (!xs.isEmpty):=by
 show (ak S n).map _=_
 rw [h];rfl
theorem dZ {n:Nat} {x:List Int} (px:x.Perm (rg n)):x.length=n:=by rw [px.length_eq,Wd.lC]
theorem vE {S:aA} {n:Nat} {x:List Int} (px:x.Perm (rg n)) (h1:1<=n) (h2:n<=20):∃ S',ee [bx x] S=.ok (.int (Iv.inv x:Nat)) S'/\gb S S':=by
 obtain ⟨S',e,k⟩:=GY (S:=S) (dZ px) h2
 rw [Cu (dZ px) h1] at e
 exact ⟨S',e,k⟩
noncomputable def Over (n:Nat) (x y:List Int):Prop:=9 < n\/(6 < n/\Iv.inv x+4 < Iv.inv y)
theorem oU {S:aA} {n:Nat} {x y:List Int} (px:x.Perm (rg n)) (py:y.Perm (rg n)) (h1:1<=n) (h2:n<=20) :
  (¬ Over n x y->∃ S',bW [bx x,bx y,.int 6,.int 9,.int 4] S=.ok .non S'/\gb S S')/\(Over n x y->∃ S',bW [bx x,bx y,.int 6,.int 9,.int 4] S=.ex "TooMany" S'/\gb S S'):=by
 have lx:=dZ px
 obtain ⟨S1,e1,k1⟩:=vE (S:=S) py h1 h2
 obtain ⟨S2,e2,k2⟩:=vE (S:=S1) px h1 h2
 unfold bW fU iW
 by_cases c:n<=6
 ·refine ⟨fun _=>?_,fun h=>absurd h (by unfold Over;omega)⟩
  simp only [bD,fW,bools,cW,Nat.reduceAdd,Nat.reduceSub,List.length_map,lx,decide_eq_true (show (n:Int)<=6 by omega)]
  exact ⟨_,rfl,Kp.refl⟩
 ·by_cases c9:9 < n
  ·refine ⟨fun h=>absurd (.inl c9) h,fun _=>?_⟩
   simp only [bD,fW,bools,cW,Nat.reduceAdd,Nat.reduceSub,List.length_map,lx,decide_eq_false (show ¬ (n:Int)<=6 by omega),decide_eq_true (show (9:Int) < n by omega)]
   exact ⟨_,rfl,Kp.refl⟩
  ·by_cases c4:Iv.inv x+4 < Iv.inv y
   ·refine ⟨fun h=>absurd (.inr ⟨by omega,c4⟩) h,fun _=>?_⟩
    simp only [bD,fW,bools,cW,Nat.reduceAdd,Nat.reduceSub,List.length_map,lx,decide_eq_false (show ¬ (n:Int)<=6 by omega),decide_eq_false (show ¬ (9:Int) < n by omega),e1,e2,decide_eq_true (show (4:Int) < (Iv.inv y:Int) - (Iv.inv x:Int) by omega)]
    exact ⟨_,rfl,k1.trans k2⟩
   ·refine ⟨fun _=>?_,fun h=>absurd h (by unfold Over;omega)⟩
    simp only [bD,fW,bools,cW,Nat.reduceAdd,Nat.reduceSub,List.length_map,lx,decide_eq_false (show ¬ (n:Int)<=6 by omega),decide_eq_false (show ¬ (9:Int) < n by omega),e1,e2,decide_eq_false (show ¬ (4:Int) < (Iv.inv y:Int) - (Iv.inv x:Int) by omega)]
    exact ⟨_,rfl,k1.trans k2⟩
theorem Em {S:aA} {n D:Nat} {es:Eb} {ws:List (List Int)} {a0 a1 a3 a4 a5:A} (hD:bG S D=some (kb es)) (lk:Lk n es ws) (h1:1<=n) (hn:n<=9) :
  ∃ (V:Nat) (xs:List A) (S':aA),RS.end (RS.seq (.nx [a0,a1,.ref D,a3,a4,a5] S) (cQ (aV (f1 jJ) (aj (cU [none,none] (yo (ah 2)) (p7 2 (gW (bR 0) (gW (bR 1) (qu)))) (jo (ah 1)) (ah 0)) (aM)))))=.ok (.ref V) S'/\ak S' V=some xs/\S'=S.set D (.ins "" [])++[.lst ((es.filter (·.2)).map fun e=>bx e.1)]++[.lst xs]:=by
 have hs:yo (ah 2) [a0,a1,.ref D,a3,a4,a5] S=.ok (dX ((kb es).map yS)) (S.set D (.ins "" [])):=by
  show opt (bG S D) _=_
  rw [hD,aZ]
 have lkb:((kb es).map yS).length=es.length:=by unfold kb;rw [List.length_map,List.length_map]
 have fw:=lk.few hn
 obtain ⟨T,g1,g2⟩:=gI (s:=dX ((kb es).map yS)) (g:=p7 2 (gW (bR 0) (gW (bR 1) (qu)))) (t:=jo (ah 1)) (e:=ah 0)
  (P:=fun S1=>S1=S.set D (.ins "" [])) (T:=fun τ=>∃ y z,τ=[y,z]) (fun i=>yS ((es.getD i ([],false)).1,.bl (es.getD i ([],false)).2)) (fun i=>(es.getD i ([],false)).2) (fun i=>bx (es.getD i ([],false)).1)
  (fun i S1 hi _=>by
   have hi:i < ((kb es).map yS).length:=hi
   rw [lkb] at hi
   show ((kb es).map yS)[i]?=_
   unfold kb
   rw [List.map_map,List.getElem?_map,List.getD_eq_getElem?_getD,List.getElem?_eq_getElem hi];rfl)
  (fun S1 _=>rfl)
  (fun i τ S1 hi ⟨y,z,hy⟩ k=>by
   subst hy k
   refine ⟨[bx (es.getD i ([],false)).1,.bl (es.getD i ([],false)).2],S.set D (.ins "" []),S.set D (.ins "" []),?_,by simp only [bD,bools],⟨_,_,rfl⟩,fun _=>rfl,fun _=>⟨_,by simp only [bD,bools],rfl⟩⟩
   unfold yS
   simp only [bD,bools,cP (show ([_,_]:List A).length=2 from rfl)])
  es.length 0 (eB [none,none] [a0,a1,.ref D,a3,a4,a5]) (S.set D (.ins "" [])) (by show es.length+0=((kb es).map yS).length;rw [lkb];rfl) ⟨_,_,rfl⟩ rfl
 subst g2
 have ef:=uH es (fun e=>e.2) (fun e=>bx e.1) ([],false)
 rw [List.range_eq_range'] at ef
 rw [ef] at g1
 obtain ⟨fs,hfs⟩:∃ fs:List (List Int),fs=(es.filter (·.2)).map (·.1):=⟨_,rfl⟩
 have efs:((es.filter (·.2)).map fun e=>bx e.1)=fs.map bx:=by rw [hfs,List.map_map];rfl
 have hne:∀ l∈fs,l≠[]:=fun l hl=>by
  rw [hfs] at hl
  obtain ⟨e,he,rfl⟩:=List.mem_map.mp hl
  have:=dZ (lk.pm e (List.mem_filter.mp he).1)
  intro z
  rw [z] at this
  simp at this
  omega
 have ec:cU [none,none] (yo (ah 2)) (p7 2 (gW (bR 0) (gW (bR 1) (qu)))) (jo (ah 1)) (ah 0) [a0,a1,.ref D,a3,a4,a5] S=.ok (.ref (S.set D (.ins "" [])).length) (S.set D (.ins "" [])++[.lst (fs.map bx)]):=by
  unfold cU
  rw [hs,R.cB]
  show R.cR (dN (dX ((kb es).map yS)) _ _ _ ((kb es).map yS).length 0 _ _) _=_
  rw [lkb,g1,R.cF,bN (by rw [List.length_map];exact Nat.le_trans (List.length_filter_le _ _) (by omega)),efs]
 have so:=u_ (S:=S.set D (.ins "" [])++[.lst (fs.map bx)]) (n:=(S.set D (.ins "" [])).length) aU hne
 simp only [bD,bools,ec,so]
 exact ⟨_,_,_,rfl,aU,by rw [efs]⟩
theorem tM {S:aA} {n:Nat} {x y:List Int} (px:x.Perm (rg n)) (py:y.Perm (rg n)) (h1:1<=n) (h2:n<=20) (ho:¬ Over n x y):∃ (V:Nat) (xs:List A) (S':aA),bH [bx x,bx y] S=.ok (.ref V) S'/\ak S' V=some xs/\gb S S':=by
 have hn:n<=9:=by unfold Over at ho;omega
 have lx:=dZ px
 have ly:=dZ py
 have ep:=gO (S:=S) (xs:=x) (ys:=y) (by omega)
 obtain ⟨S1,e1,k1⟩:=(oU (S:=S) px py h1 h2).1 ho
 obtain ⟨k,S2,e2,_,k2⟩:=rj (S:=S1) (n:=n) px py h1 h2
 have k12:=k1.trans k2
 cases k with
 | false=>
  unfold bH eY gf
  simp only [bD,fW,bools,cW,Nat.reduceAdd,Nat.reduceSub,ep,e1,e2,Bool.not_false]
  exact ⟨_,_,_,rfl,aU,k12.lay⟩
 | true=>
  have ed:A5 (ah 0) (eC (.bl true)) [bx x,bx y,.unb,.unb,.unb,.unb] S2=.ok (.ref S2.length) (S2++[.dct (kb [(x,true)])]):=by
   show opt (A.ints (x.map .int)) _=_
   rw [jA,aZ];rfl
  have l1:(S2++[O.dct (kb [(x,true)])]).length=S2.length+1:=by simp
  have key:=ig (t:=gX) (c:=gZ)
   (fun τ T=>∃ (a4 a5:A) (es:Eb) (ws:List (List Int)),τ=[bx x,bx y,.ref S2.length,.ref (S2.length+1),a4,a5]/\bG T S2.length=some (kb es)/\ak T (S2.length+1)=some (ws.map bx)/\Lk n es ws/\ws.length<=es.length/\gb S2 T)
   (fun _ T=>2 * (362880 - ((bG T S2.length).getD []).length)+((ak T (S2.length+1)).getD []).length)
   (fun r=>∃ (V:Nat) (xs:List A) (S':aA),RS.end (RS.seq r (cQ (aV (f1 jJ) (aj (cU [none,none] (yo (ah 2)) (p7 2 (gW (bR 0) (gW (bR 1) (qu)))) (jo (ah 1)) (ah 0)) (aM)))))=.ok (.ref V) S'/\ak S' V=some xs/\gb S S') ?_ 1000000
  ·unfold bH eY gf
   simp only [bD,fW,bools,cW,Nat.reduceAdd,Nat.reduceSub,ep,e1,e2,Bool.not_true,ed,l1]
   have hd0:bG (S2++[O.dct (kb [(x,true)])]++[O.lst [bx x]]) S2.length=some (kb [(x,true)]):=EV EG
   have hw0:ak (S2++[O.dct (kb [(x,true)])]++[O.lst [bx x]]) (S2.length+1)=some [bx x]:=by rw [<- l1];exact aU
   refine key _ _ ⟨_,_,[(x,true)],[x],rfl,hd0,hw0,⟨by simp,fun e he=>?_,fun w hw=>?_⟩,Nat.le_refl _,Kp.refl.lay.lay⟩ ?_
   ·have:e=(x,true):=by simpa using he
    rw [this];exact px
   ·have:w=x:=by simpa using hw
    rw [this];exact px
   ·rw [hd0,hw0];show 2 * (362880 - 1)+1 < 1000000;decide
  ·rintro τ T ⟨a4,a5,es,ws,rfl,hD,hW,lk,hwe,kp⟩
   have fw:=lk.few hn
   unfold gX
   have lk2:(kb es).length=es.length:=List.length_map ..
   rcases List.eq_nil_or_concat ws with c | ⟨vs,v,c⟩
   ·left
    subst c
    obtain ⟨V,xs,T2,e3,h3,hT2⟩:=Em (a0:=bx x) (a1:=bx y) (a3:=.ref (S2.length+1)) (a4:=a4) (a5:=a5) hD lk h1 hn
    refine ⟨T,by simp only [bD,bools,Gv hW];rfl,V,xs,T2,e3,h3,?_⟩
    rw [hT2]
    exact k12.trans (((kp.IK (.inr (Nat.le_refl _))).lay).lay)
   ·right
    rw [List.concat_eq_append] at c
    subst c
    have tr:A.Iu (.ref (S2.length+1)) T=some true:=by
     rw [Gv hW]
     cases vs <;> rfl
    refine ⟨T,by simp only [bD,bools,tr],.inl ?_⟩
    have pv:=lk.ws v (by simp)
    have lv:=dZ pv
    have pop:Ia (.ref (S2.length+1)) [] T=.ok (bx v) (T.set (S2.length+1) (.lst (vs.map bx))):=by
     show opt (ak T (S2.length+1)) _=_
     rw [hW,aZ,List.map_append]
     show opt ((vs.map bx++[bx v])[(vs.map bx++[bx v]).length - 1]?) _=_
     rw [List.length_append,show (vs.map bx).length+[bx v].length - 1=(vs.map bx).length by simp,List.getElem?_append_right (Nat.le_refl _),Nat.sub_self]
     show R.ok (bx v) (T.set (S2.length+1) (.lst (vs.map bx++[bx v]).dropLast))=_
     rw [List.dropLast_concat]
    have lW:=fE hW
    have hD1:bG (T.set (S2.length+1) (.lst (vs.map bx))) S2.length=some (kb es):=by rw [nQ (by omega)];exact hD
    obtain ⟨M,U,e4,hM,k4,sM⟩:=CB (S:=T.set (S2.length+1) (.lst (vs.map bx))) (a:=v) (by omega) (by omega)
    have hDU:=k4.dct _ _ (fun z=>z) hD1
    have hWU:=k4.lst _ _ (fun z=>z) (dI (ys:=vs.map bx) lW)
    rw [List.length_set] at sM
    have hsrc:fO [bx x,bx y,.ref S2.length,.ref (S2.length+1),bx v,a5] (T.set (S2.length+1) (.lst (vs.map bx)))=.ok (dY M ((fL (stp v (ups v))).map bx).length) U:=
     qv (by simp only [bD,bools,e4]) hM
    have kU:gb S2 U:=(kp.set (.inr (by omega))).trans k4
    rw [List.length_append] at hwe
    have hwe':vs.length+1<=es.length:=hwe
    obtain ⟨es',ws',b5,S',e5,hD',hW',lk',hle,hle2,kp'⟩:=looked (S0:=S2) hn h1 py hDU hWU hM (C1 pv) ⟨lk.nd,lk.pm,fun w hw=>lk.ws w (List.mem_append_left _ hw)⟩ (Nat.le_refl _) (by omega) (by omega) (by omega) (by omega) (by omega) kU hsrc
    unfold gZ
    simp only [bD,fW,bools,hW,pop,e5]
    refine ⟨_,_,rfl,⟨_,_,es',ws',rfl,hD',hW',lk',by omega,kp'⟩,?_⟩
    have fw':=lk'.few hn
    have lk3:(kb es').length=es'.length:=List.length_map ..
    simp only [hD',hW',hD,hW,Option.getD_some,List.length_map,List.length_append,lk2,lk3]
    show 2 * (362880 - es'.length)+ws'.length < 2 * (362880 - es.length)+(vs.length+1)
    omega
end K20
namespace K20
open PySem L2 Am
open Bl
open Stp
open Fw (rg)
theorem zp (xs:List A) (j:Nat):gD xs none (some (j:Int))=xs.take j:=by
 unfold gD
 rw [HT.iE,HT.mG,List.drop_zero,Nat.sub_zero]
 by_cases h:j<=xs.length
 ·rw [Nat.min_eq_left h]
 ·rw [Nat.min_eq_right (by omega),List.take_of_length_le (Nat.le_refl _),List.take_of_length_le (by omega)]
theorem vd {co:Ex} {d:gp} {τ:List A} {S S1:aA} {L:Nat} {xs:List A} {x v:A} (h:co τ S=.ok (.ref L) S) (hL:ak S L=some xs) (hd:d τ S=.ok [x] S) (hi:IT (.ref L) [x] S=.ok v S):DM co d τ S=.ok v S:=by
 unfold DM
 rw [h,R.cB,show A.seq S (.ref L)=ak S L from rfl,hL,aZ,hd,R.cB,hi]
theorem ne_str {S:aA} {t:Str}:qD true (.str t) (.str t) S=.ok (.bl false) S:=GK (k:=true) (by show some (t == t)=_;rw [beq_self_eq_true])
theorem DA {S:aA} {i n:Nat} {x y:Str} {cs:List Str} {d:Sm}:RS.try i n (y::x::cs) d (.ex x S)=Df i (d ((List.replicate n .unb).set i (.exn x)) S):=if_pos (.tail _ (.head _))
theorem G4 {b c:Bool} {S:aA}:E1 (tH [("NoPair",c),("TooMany",b)]) (.exn "TooMany") S=.ok (.bl b) S:=by
 have e:tH [("NoPair",c),("TooMany",b)] "TooMany" = some b:=by
  show List.lookup ("TooMany" : Str) [("NoPair",c),("TooMany",b)]=some b
  rw [List.lookup_cons,show (("TooMany" : Str) == "NoPair")=false from by decide +kernel,List.lookup_cons,beq_self_eq_true]
 unfold E1
 simp only [e,aZ]
theorem kinds {S:aA} {x y:List Int} :
  (∀ T,bH [bx x,bx y] S=.ex "NoPair" T->gb S T->∃ S',bI [bx x,bx y] S=.ok (.str (PySem.Str.ofString "pair")) S'/\gb S S') /\
  (∀ T,bH [bx x,bx y] S=.ex "TooMany" T->gb S T->∃ S',bI [bx x,bx y] S=.ok (.str (PySem.Str.ofString "many")) S'/\gb S S') /\
  (∀ T V xs,bH [bx x,bx y] S=.ok (.ref V) T->ak T V=some xs->gb S T->∃ S',bI [bx x,bx y] S=.ok (.str (PySem.Str.ofString "")) S'/\gb S S'):=by
 have hand:∀ (T:aA) (b1 b2 b3 b4 b5 b6 b7 b8:Bool),∃ T',T'=T++[O.lst [.bl b1,.bl b2,.bl b3,.bl b4]]++[O.lst [.bl b5,.bl b6,.bl b7,.bl b8]]++[O.lst [.bl b1,.bl b2,.bl b3,.bl b4,.bl b5,.bl b6,.bl b7,.bl b8]]/\dc (.ref T.length) (.ref (T++[O.lst [.bl b1,.bl b2,.bl b3,.bl b4]]).length) (T++[O.lst [.bl b1,.bl b2,.bl b3,.bl b4]]++[O.lst [.bl b5,.bl b6,.bl b7,.bl b8]])=.ok (.ref (T++[O.lst [.bl b1,.bl b2,.bl b3,.bl b4]]++[O.lst [.bl b5,.bl b6,.bl b7,.bl b8]]).length) T'/\ak T' (T++[O.lst [.bl b1,.bl b2,.bl b3,.bl b4]]++[O.lst [.bl b5,.bl b6,.bl b7,.bl b8]]).length=some [.bl b1,.bl b2,.bl b3,.bl b4,.bl b5,.bl b6,.bl b7,.bl b8]/\gb T T':=
  fun T b1 b2 b3 b4 b5 b6 b7 b8=>⟨_,rfl,Gi (xs:=[.bl b1,.bl b2,.bl b3,.bl b4]) (ys:=[.bl b5,.bl b6,.bl b7,.bl b8]) (cV aU) aU (show 4+4<=16777216 by decide),aU,Kp.refl.lay.lay.lay⟩
 have o1:((1:Int) == 1)=true:=rfl
 unfold bI jt ni
 refine ⟨fun T e1 k1=>?_,fun T e1 k1=>?_,fun T V xs e1 hV k1=>?_⟩
 ·obtain ⟨T',hT',e2,g2,k2⟩:=hand T true false false false false false false false
  obtain ⟨M,hM⟩:∃ M,M=(T++[O.lst [.bl true,.bl false,.bl false,.bl false]]++[O.lst [.bl false,.bl false,.bl false,.bl false]]).length:=⟨_,rfl⟩
  rw [<- hM] at e2 g2
  have e3:pQ (.ref M) [.bl true] T'=.ok (.int 1) T':=by
   show opt (ak T' _) _=_
   rw [g2];rfl
  have e4:gD [.bl true,.bl false,.bl false,.bl false,.bl false,.bl false,.bl false,.bl false] none (some 2)=[.bl true,.bl false]:=zp _ 2
  have e5:Ln true (.bl true) (.ref T'.length) (T'++[O.lst [.bl true,.bl false]])=.ok (.bl false) (T'++[O.lst [.bl true,.bl false]]):=by
   show opt (ak _ _) _=_
   rw [aU];rfl
  have g3:=cV (o:=.lst [.str (PySem.Str.ofString "pair"),.str (PySem.Str.ofString "many")]) (cV (o:=.lst [.bl true,.bl false]) g2)
  have e7:=vd (co:=ah 4) (d:=aj (eC (.bl true)) (aM)) (τ:=[.unb,.unb,.unb,.exn (PySem.Str.ofString "NoPair"),.ref M]) (v:=.int 0) (S1:=S) (x:=.bl true) (by simp only [bD,bools]) g3 (by simp only [bD,bools]) (by
   show opt (ak _ _) _=_
   rw [g3,aZ,cP ⟨rfl,rfl⟩];rfl)
  simp only [bD,fW,bools,cW,Nat.reduceAdd,Nat.reduceSub,e1,uG,tR,<- hM,e2,Bool.not_true,g2,e3,o1,e4,e5,e7,pB]
  exact ⟨_,rfl,((k1.trans k2).lay).lay⟩
 ·obtain ⟨T',hT',e2,g2,k2⟩:=hand T false true false false false false false false
  obtain ⟨M,hM⟩:∃ M,M=(T++[O.lst [.bl false,.bl true,.bl false,.bl false]]++[O.lst [.bl false,.bl false,.bl false,.bl false]]).length:=⟨_,rfl⟩
  rw [<- hM] at e2 g2
  have e3:pQ (.ref M) [.bl true] T'=.ok (.int 1) T':=by
   show opt (ak T' _) _=_
   rw [g2];rfl
  have e4:gD [.bl false,.bl true,.bl false,.bl false,.bl false,.bl false,.bl false,.bl false] none (some 2)=[.bl false,.bl true]:=zp _ 2
  have e5:Ln true (.bl true) (.ref T'.length) (T'++[O.lst [.bl false,.bl true]])=.ok (.bl false) (T'++[O.lst [.bl false,.bl true]]):=by
   show opt (ak _ _) _=_
   rw [aU];rfl
  have g3:=cV (o:=.lst [.str (PySem.Str.ofString "pair"),.str (PySem.Str.ofString "many")]) (cV (o:=.lst [.bl false,.bl true]) g2)
  have e7:=vd (co:=ah 4) (d:=aj (eC (.bl true)) (aM)) (τ:=[.unb,.unb,.unb,.exn (PySem.Str.ofString "TooMany"),.ref M]) (v:=.int 1) (S1:=S) (x:=.bl true) (by simp only [bD,bools]) g3 (by simp only [bD,bools]) (by
   show opt (ak _ _) _=_
   rw [g3,aZ,cP ⟨rfl,rfl⟩];rfl)
  simp only [bD,fW,bools,cW,Nat.reduceAdd,Nat.reduceSub,e1,DA,G4,<- hM,e2,Bool.not_true,g2,e3,o1,e4,e5,e7,oM]
  exact ⟨_,rfl,((k1.trans k2).lay).lay⟩
 ·simp only [bD,fW,bools,cW,Nat.reduceAdd,Nat.reduceSub,e1,hV,Option.map_some,show CV .lst "list" = some true from rfl,Bool.not_true]
  exact ⟨_,rfl,k1⟩
theorem KP {S:aA} {n m:Nat} {x y:List Int} (px:x.Perm (rg n)) (py:y.Perm (rg m)) (h:n≠m):bQ [bx x,bx y] S=.ok (.str (PySem.Str.ofString "pair")) S:=by
 have lx:=dZ px
 have ly:=dZ py
 unfold bQ iF jX
 simp only [bD,bools,cW,Nat.reduceAdd,Nat.reduceSub,List.length_map,lx,ly,show ((n:Int) == (m:Int))=false from by rw [beq_eq_false_iff_ne];omega,Bool.not_false]
open Classical in
theorem Gb {S:aA} {n:Nat} {x y:List Int} (px:x.Perm (rg n)) (py:y.Perm (rg n)) (h1:1<=n) (h2:n<=20):∃ S',bQ [bx x,bx y] S=.ok (.str (if Over n x y then PySem.Str.ofString "many" else PySem.Str.ofString "")) S'/\gb S S':=by
 have lx:=dZ px
 have ly:=dZ py
 obtain ⟨D,S1,e1,⟨us,g1,l1⟩,k1⟩:=M0 (S:=S) (a:=y) (by omega) (by omega)
 obtain ⟨E,S2,e2,⟨vs,g2,l2⟩,k2⟩:=M0 (S:=S1) (a:=x) (by omega) (by omega)
 have hq:((n:Int) == (n:Int))=true:=by rw [beq_iff_eq]
 unfold bQ iF jX
 by_cases c9:9 < n
 ·rw [if_pos (.inl c9)]
  simp only [bD,bools,cW,Nat.reduceAdd,Nat.reduceSub,List.length_map,lx,ly,hq,Bool.not_true,e1,g1,l1,e2,g2,l2,decide_eq_true (show (9:Int) < n by omega),if_true,oM]
  exact ⟨_,rfl,(k1.trans k2).lay⟩
 ·by_cases c6:6 < n
  ·by_cases c4:Iv.inv x+4 < Iv.inv y
   ·rw [if_pos (.inr ⟨c6,c4⟩)]
    simp only [bD,bools,cW,Nat.reduceAdd,Nat.reduceSub,List.length_map,lx,ly,hq,Bool.not_true,e1,g1,l1,e2,g2,l2,decide_eq_false (show ¬ (9:Int) < n by omega),decide_eq_true (show (6:Int) < n by omega),decide_eq_true (show (4:Int) < (Iv.inv y:Int) - (Iv.inv x:Int) by omega),if_true,oM]
    exact ⟨_,rfl,(k1.trans k2).lay⟩
   ·rw [if_neg (by unfold Over;omega)]
    simp only [bD,bools,cW,Nat.reduceAdd,Nat.reduceSub,List.length_map,lx,ly,hq,Bool.not_true,e1,g1,l1,e2,g2,l2,decide_eq_false (show ¬ (9:Int) < n by omega),decide_eq_true (show (6:Int) < n by omega),decide_eq_false (show ¬ (4:Int) < (Iv.inv y:Int) - (Iv.inv x:Int) by omega),if_false,Bool.false_eq_true,pB]
    exact ⟨_,rfl,(k1.trans k2).lay⟩
  ·rw [if_neg (by unfold Over;omega)]
   simp only [bD,bools,cW,Nat.reduceAdd,Nat.reduceSub,List.length_map,lx,ly,hq,Bool.not_true,e1,g1,l1,e2,g2,l2,decide_eq_false (show ¬ (9:Int) < n by omega),decide_eq_false (show ¬ (6:Int) < n by omega),if_false,Bool.false_eq_true,pB]
   exact ⟨_,rfl,(k1.trans k2).lay⟩
open Classical in
theorem Ai {S:aA} {n m:Nat} {x y:List Int} (px:x.Perm (rg n)) (py:y.Perm (rg m)) (h1:1<=n) (h2:n<=20) (h3:1<=m) (h4:m<=20):∃ t S1 S2,bI [bx x,bx y] S=.ok (.str t) S1/\bQ [bx x,bx y] S1=.ok (.str t) S2/\gb S S2:=by
 obtain ⟨q1,q2,q3⟩:=kinds (S:=S) (x:=x) (y:=y)
 have lx:=dZ px
 have ly:=dZ py
 by_cases c:n=m
 ·subst c
  have ep:=gO (S:=S) (xs:=x) (ys:=y) (by omega)
  by_cases ov:Over n x y
  ·obtain ⟨T,eb,kb⟩:=(oU (S:=S) px py h1 h2).2 ov
   have e:bH [bx x,bx y] S=.ex "TooMany" T:=by
    unfold bH eY gf
    simp only [bD,fW,bools,cW,Nat.reduceAdd,Nat.reduceSub,ep,eb]
   obtain ⟨S1,e1,k1⟩:=q2 T e kb
   obtain ⟨S2,e2,k2⟩:=Gb (S:=S1) px py h1 h2
   rw [if_pos ov] at e2
   exact ⟨_,S1,S2,e1,e2,k1.trans k2⟩
  ·obtain ⟨V,xs,T,e,hV,k⟩:=tM (S:=S) px py h1 h2 ov
   obtain ⟨S1,e1,k1⟩:=q3 T V xs e hV k
   obtain ⟨S2,e2,k2⟩:=Gb (S:=S1) px py h1 h2
   rw [if_neg ov] at e2
   exact ⟨_,S1,S2,e1,e2,k1.trans k2⟩
 ·have ep:=Ec (S:=S) (xs:=x) (ys:=y) (by omega) (by omega) (by omega)
  have e:bH [bx x,bx y] S=.ex "NoPair" S:=by
   unfold bH eY gf
   simp only [bD,fW,bools,cW,Nat.reduceAdd,Nat.reduceSub,ep]
  obtain ⟨S1,e1,k1⟩:=q1 S e Kp.refl
  exact ⟨_,S1,S1,e1,KP px py c,k1⟩
theorem IS (ns:List Int) (hl:ns.length<=63):∃ S',ow [.frz (ns.map .int)] []=.ok (.bl true) S':=by
 unfold ow A4 FD
 simp only [bD,bools,cW,Nat.reduceAdd,Nat.reduceSub]
 refine jy (lo:=0) (hi:=if (if (ns.length:Int) < 2 then (ns.length:Int) else 2) > 1 then (if (ns.length:Int) < 2 then (ns.length:Int) else 2) else 1) (S1:=[]) (show vc _ _=_ from gc (by simp only [bD,bools,List.length_map]) (eG (by split <;> split <;> omega) (by split <;> split <;> omega)))
  (fun _ τ _=>∃ a1 a2 a3 a4 a5:A,τ=[.frz (ns.map .int),a1,a2,a3,a4,a5]) (fun r=>∃ S',RS.end (RS.seq r _)=.ok (.bl true) S') ⟨_,_,_,_,_,rfl⟩ ?_ ?_
 ·rintro i τ S hi ⟨a1,a2,a3,a4,a5,rfl⟩
  left
  have hi6:(i:Int) < 6:=by split at hi <;> split at hi <;> omega
  obtain ⟨S1,e1,b1,kp1⟩:=DZ (S:=S) (ns:=ns) (k:=0+(i:Int)) (by omega) (by omega)
  have b1l:S.length < S1.length:=by obtain ⟨_,_,e,_⟩:=b1;exact fE e
  have n1:newL [.int 5,.int 12,.int 20] S1=.ok (.ref S1.length) (S1++[O.lst [.int 5,.int 12,.int 20]]):=bN (show 3<=16777216 by decide)
  have k1:gb S1 (S1++[O.lst [.int 5,.int 12,.int 20]]):=Kp.refl.lay
  obtain ⟨q,S2,e2,q0,q1,b2,kp2⟩:=digit (m:=3) (b1.kp k1 fun z=>z) (by decide) (by decide)
  have g2:ak S2 S1.length=some [.int 5,.int 12,.int 20]:=kp2.lst _ _ (by omega) aU
  obtain ⟨m,em,m0,m1⟩:∃ m:Int,fG [A.int 5,.int 12,.int 20] q=some (.int m)/\1<=m/\m<=20:=by
   by_cases g0:q=0
   ·exact ⟨5,by rw [g0];exact pB,by decide,by decide⟩
   ·by_cases g1:q=1
    ·exact ⟨12,by rw [g1];exact oM,by decide,by decide⟩
    ·exact ⟨20,by rw [show q=2 by omega];rfl,by decide,by decide⟩
  obtain ⟨d,S3,e3,d0,d1,b3,kp3⟩:=digit (m:=m) b2 m0 (by omega)
  obtain ⟨n,hn⟩:∃ n:Nat,(n:Int)=1+d:=⟨(1+d).toNat,by omega⟩
  obtain ⟨x,S4,e4,px,b4,kp4⟩:=rO (n:=(n:Int)) b3 (by omega) (by omega)
  obtain ⟨c,S5,e5,c0,c1,b5,kp5⟩:=digit (m:=3) b4 (by decide) (by decide)
  have fin:∀ (r:Nat) (S6:aA),1<=r->r<=20->n_ S6 S.length->∃ τ' S',RS.seq (.nx [.frz (ns.map .int),.int (0+(i:Int)),.ref S.length,.int r,.tup (x.map .int),a5] S6) (bA (bY (eFn cj (aj (ah 2) (aj (ah 3) (aM)))) (bR 5))
 (qd (Gq (jw (aK (qD true) (eFn bI (aj (ah 4) (aj (ah 5) (aM)))) (eFn bQ (aj (ah 4) (aj (ah 5) (aM)))))) (jw (aK (qD true) (eFn bI (aj (ah 5) (aj (ah 4) (aM)))) (eFn bQ (aj (ah 5) (aj (ah 4) (aM)))))))
 (cQ (eC (.bl false)))
 (gH)))=.nx τ' S'/\∃ a1 a2 a3 a4 a5:A,τ'=[.frz (ns.map .int),a1,a2,a3,a4,a5]:=fun r S6 r1 r2 b6=>by
   obtain ⟨y,S7,e7,py,b7,kp7⟩:=rO (n:=(r:Int)) b6 (by omega) (by omega)
   obtain ⟨t,T1,T2,f1,f2,_⟩:=Ai (S:=S7) (x:=x) (y:=y) px py (by omega) (by omega) r1 r2
   obtain ⟨u,T3,T4,f3,f4,_⟩:=Ai (S:=T2) (x:=y) (y:=x) py px r1 r2 (by omega) (by omega)
   simp only [bD,bools,e7,f1,f2,ne_str,f3,f4]
   exact ⟨_,_,rfl,_,_,_,_,_,rfl⟩
  unfold wj
  by_cases cz:c=0
  ·subst cz
   obtain ⟨r,S6,e6,r0,r1,b6,kp6⟩:=digit (m:=20) b5 (by decide) (by decide)
   obtain ⟨rn,hr⟩:∃ rn:Nat,(rn:Int)=1+r:=⟨(1+r).toNat,by omega⟩
   obtain ⟨τ',S',ef,hf⟩:=fin rn S6 (by omega) (by omega) b6
   rw [RS.t_] at ef
   simp only [bD,bools,e1,n1,e2,g2,em,e3,<- hn,e4,e5,beq_self_eq_true,e6,<- hr]
   simp only [bD,bools] at ef
   exact ⟨_,_,ef,hf⟩
  ·have f0:(c == 0)=false:=by rw [beq_eq_false_iff_ne];exact cz
   obtain ⟨τ',S',ef,hf⟩:=fin n S5 (by omega) (by omega) b5
   simp only [bD,bools,e1,n1,e2,g2,em,e3,<- hn,e4,e5,f0]
   simp only [bD,bools] at ef
   exact ⟨_,_,ef,hf⟩
 ·rintro τ S ⟨a1,a2,a3,a4,a5,rfl⟩
  simp only [bD,bools]
  exact ⟨_,rfl⟩
end K20
namespace K20
open PySem L2 Am
theorem all_mk {l:PySem.W.OpenLaw} {w:World} {K:PySem.W.Frag} {h:Heap} {mg:Str->Option Value} {fa f1 f2 f3 f4 f5 f6 f7 f8 f9 f10 f11 f12 f13 f14 f15 f16 f17 f18 f19 f20 f21:Addr} (X:K.In h) (G:h.Ns mainGlobals mg) (hfa:mg "law" = some (.ref fa))
  {od1 an1 od2 an2 od3 an3 od4 an4 od5 an5 od6 an6 od7 an7 od8 an8 od9 an9 od10 an10 od11 an11 od12 an12 od13 an13 od14 an14 od15 an15 od16 an16 od17 an17 od18 an18 od19 an19 od20 an20 od21 an21:Option Addr} {sl1 sl2 sl3 sl4 sl5 sl6 sl7 sl8 sl9 sl10 sl11 sl12 sl13 sl14 sl15 sl16 sl17 sl18 sl19 sl20 sl21:Array (Option Value)} {oc1 kV1 dc1 pm1 cd1 ct1 oc2 kV2 dc2 pm2 cd2 ct2 oc3 kV3 dc3 pm3 cd3 ct3 oc4 kV4 dc4 pm4 cd4 ct4 oc5 kV5 dc5 pm5 cd5 ct5 oc6 kV6 dc6 pm6 cd6 ct6 oc7 kV7 dc7 pm7 cd7 ct7 oc8 kV8 dc8 pm8 cd8 ct8 oc9 kV9 dc9 pm9 cd9 ct9 oc10 kV10 dc10 pm10 cd10 ct10 oc11 kV11 dc11 pm11 cd11 ct11 oc12 kV12 dc12 pm12 cd12 ct12 oc13 kV13 dc13 pm13 cd13 ct13 oc14 kV14 dc14 pm14 cd14 ct14 oc15 kV15 dc15 pm15 cd15 ct15 oc16 kV16 dc16 pm16 cd16 ct16 oc17 kV17 dc17 pm17 cd17 ct17 oc18 kV18 dc18 pm18 cd18 ct18 oc19 kV19 dc19 pm19 cd19 ct19 oc20 kV20 dc20 pm20 cd20 ct20 oc21 kV21 dc21 pm21 cd21 ct21:Value}
  (a1:PySem.W.nsIn K mainGlobals "need_pair" = some (some (.ref f1))) (l1:K.lookup f1=some ⟨oc1,od1,.func (PySem.W.fnOf "need_pair" "need_pair" (bu dD) (a_ dD) (aF dD) .none kV1 dc1 pm1 an1 cd1 ct1),sl1⟩) (c1:PySem.W.codeIn K cd1 "need_pair" = true) (k1:PySem.W.keepIn K (.ref f1)=true)
  (a2:PySem.W.nsIn K mainGlobals "exchanged_places" = some (some (.ref f2))) (l2:K.lookup f2=some ⟨oc2,od2,.func (PySem.W.fnOf "exchanged_places" "exchanged_places" (bu bF) (a_ bF) (aF bF) .none kV2 dc2 pm2 an2 cd2 ct2),sl2⟩) (c2:PySem.W.codeIn K cd2 "exchanged_places" = true) (k2:PySem.W.keepIn K (.ref f2)=true)
  (a3:PySem.W.nsIn K mainGlobals "place_pairs" = some (some (.ref f3))) (l3:K.lookup f3=some ⟨oc3,od3,.func (PySem.W.fnOf "place_pairs" "place_pairs" (bu cG) (a_ cG) (aF cG) .none kV3 dc3 pm3 an3 cd3 ct3),sl3⟩) (c3:PySem.W.codeIn K cd3 "place_pairs" = true) (k3:PySem.W.keepIn K (.ref f3)=true)
  (a4:PySem.W.nsIn K mainGlobals "wrong_pairs" = some (some (.ref f4))) (l4:K.lookup f4=some ⟨oc4,od4,.func (PySem.W.fnOf "wrong_pairs" "wrong_pairs" (bu cH) (a_ cH) (aF cH) .none kV4 dc4 pm4 an4 cd4 ct4),sl4⟩) (c4:PySem.W.codeIn K cd4 "wrong_pairs" = true) (k4:PySem.W.keepIn K (.ref f4)=true)
  (a5:PySem.W.nsIn K mainGlobals "length" = some (some (.ref f5))) (l5:K.lookup f5=some ⟨oc5,od5,.func (PySem.W.fnOf "length" "length" (bu gh) (a_ gh) (aF gh) .none kV5 dc5 pm5 an5 cd5 ct5),sl5⟩) (c5:PySem.W.codeIn K cd5 "length" = true) (k5:PySem.W.keepIn K (.ref f5)=true)
  (a6:PySem.W.nsIn K mainGlobals "first_above_nought" = some (some (.ref f6))) (l6:K.lookup f6=some ⟨oc6,od6,.func (PySem.W.fnOf "first_above_nought" "first_above_nought" (bu bB) (a_ bB) (aF bB) .none kV6 dc6 pm6 an6 cd6 ct6),sl6⟩) (c6:PySem.W.codeIn K cd6 "first_above_nought" = true) (k6:PySem.W.keepIn K (.ref f6)=true)
  (a7:PySem.W.nsIn K mainGlobals "bar" = some (some (.ref f7))) (l7:K.lookup f7=some ⟨oc7,od7,.func (PySem.W.fnOf "bar" "bar" (bu oY) (a_ oY) (aF oY) .none kV7 dc7 pm7 an7 cd7 ct7),sl7⟩) (c7:PySem.W.codeIn K cd7 "bar" = true) (k7:PySem.W.keepIn K (.ref f7)=true)
  (a8:PySem.W.nsIn K mainGlobals "is_below" = some (some (.ref f8))) (l8:K.lookup f8=some ⟨oc8,od8,.func (PySem.W.fnOf "is_below" "is_below" (bu dU) (a_ dU) (aF dU) .none kV8 dc8 pm8 an8 cd8 ct8),sl8⟩) (c8:PySem.W.codeIn K cd8 "is_below" = true) (k8:PySem.W.keepIn K (.ref f8)=true)
  (a9:PySem.W.nsIn K mainGlobals "need_bounds" = some (some (.ref f9))) (l9:K.lookup f9=some ⟨oc9,od9,.func (PySem.W.fnOf "need_bounds" "need_bounds" (bu cJ) (a_ cJ) (aF cJ) .none kV9 dc9 pm9 an9 cd9 ct9),sl9⟩) (c9:PySem.W.codeIn K cd9 "need_bounds" = true) (k9:PySem.W.keepIn K (.ref f9)=true)
  (a10:PySem.W.nsIn K mainGlobals "is_step" = some (some (.ref f10))) (l10:K.lookup f10=some ⟨oc10,od10,.func (PySem.W.fnOf "is_step" "is_step" (bu eV) (a_ eV) (aF eV) .none kV10 dc10 pm10 an10 cd10 ct10),sl10⟩) (c10:PySem.W.codeIn K cd10 "is_step" = true) (k10:PySem.W.keepIn K (.ref f10)=true)
  (a11:PySem.W.nsIn K mainGlobals "steps" = some (some (.ref f11))) (l11:K.lookup f11=some ⟨oc11,od11,.func (PySem.W.fnOf "steps" "steps" (bu iH) (a_ iH) (aF iH) .none kV11 dc11 pm11 an11 cd11 ct11),sl11⟩) (c11:PySem.W.codeIn K cd11 "steps" = true) (k11:PySem.W.keepIn K (.ref f11)=true)
  (a12:PySem.W.nsIn K mainGlobals "steps_above" = some (some (.ref f12))) (l12:K.lookup f12=some ⟨oc12,od12,.func (PySem.W.fnOf "steps_above" "steps_above" (bu cK) (a_ cK) (aF cK) .none kV12 dc12 pm12 an12 cd12 ct12),sl12⟩) (c12:PySem.W.codeIn K cd12 "steps_above" = true) (k12:PySem.W.keepIn K (.ref f12)=true)
  (a13:PySem.W.nsIn K mainGlobals "between" = some (some (.ref f13))) (l13:K.lookup f13=some ⟨oc13,od13,.func (PySem.W.fnOf "between" "between" (bu eU) (a_ eU) (aF eU) .none kV13 dc13 pm13 an13 cd13 ct13),sl13⟩) (c13:PySem.W.codeIn K cd13 "between" = true) (k13:PySem.W.keepIn K (.ref f13)=true)
  (a14:PySem.W.nsIn K mainGlobals "_law_bag" = some (some (.ref f14))) (l14:K.lookup f14=some ⟨oc14,od14,.func (PySem.W.fnOf "_law_bag" "_law_bag" (bu eZ) (a_ eZ) (aF eZ) .none kV14 dc14 pm14 an14 cd14 ct14),sl14⟩) (c14:PySem.W.codeIn K cd14 "_law_bag" = true) (k14:PySem.W.keepIn K (.ref f14)=true)
  (a15:PySem.W.nsIn K mainGlobals "_law_digit" = some (some (.ref f15))) (l15:K.lookup f15=some ⟨oc15,od15,.func (PySem.W.fnOf "_law_digit" "_law_digit" (bu dH) (a_ dH) (aF dH) .none kV15 dc15 pm15 an15 cd15 ct15),sl15⟩) (c15:PySem.W.codeIn K cd15 "_law_digit" = true) (k15:PySem.W.keepIn K (.ref f15)=true)
  (a16:PySem.W.nsIn K mainGlobals "_law_any" = some (some (.ref f16))) (l16:K.lookup f16=some ⟨oc16,od16,.func (PySem.W.fnOf "_law_any" "_law_any" (bu e_) (a_ e_) (aF e_) .none kV16 dc16 pm16 an16 cd16 ct16),sl16⟩) (c16:PySem.W.codeIn K cd16 "_law_any" = true) (k16:PySem.W.keepIn K (.ref f16)=true)
  (a17:PySem.W.nsIn K mainGlobals "_law_order" = some (some (.ref f17))) (l17:K.lookup f17=some ⟨oc17,od17,.func (PySem.W.fnOf "_law_order" "_law_order" (bu dG) (a_ dG) (aF dG) .none kV17 dc17 pm17 an17 cd17 ct17),sl17⟩) (c17:PySem.W.codeIn K cd17 "_law_order" = true) (k17:PySem.W.keepIn K (.ref f17)=true)
  (a18:PySem.W.nsIn K mainGlobals "_law_wrong" = some (some (.ref f18))) (l18:K.lookup f18=some ⟨oc18,od18,.func (PySem.W.fnOf "_law_wrong" "_law_wrong" (bu dB) (a_ dB) (aF dB) .none kV18 dc18 pm18 an18 cd18 ct18),sl18⟩) (c18:PySem.W.codeIn K cd18 "_law_wrong" = true) (k18:PySem.W.keepIn K (.ref f18)=true)
  (a19:PySem.W.nsIn K mainGlobals "_law_kind" = some (some (.ref f19))) (l19:K.lookup f19=some ⟨oc19,od19,.func (PySem.W.fnOf "_law_kind" "_law_kind" (bu d9) (a_ d9) (aF d9) .none kV19 dc19 pm19 an19 cd19 ct19),sl19⟩) (c19:PySem.W.codeIn K cd19 "_law_kind" = true) (k19:PySem.W.keepIn K (.ref f19)=true)
  (a20:PySem.W.nsIn K mainGlobals "_law_due" = some (some (.ref f20))) (l20:K.lookup f20=some ⟨oc20,od20,.func (PySem.W.fnOf "_law_due" "_law_due" (bu ff) (a_ ff) (aF ff) .none kV20 dc20 pm20 an20 cd20 ct20),sl20⟩) (c20:PySem.W.codeIn K cd20 "_law_due" = true) (k20:PySem.W.keepIn K (.ref f20)=true)
  (a21:PySem.W.nsIn K mainGlobals "law" = some (some (.ref f21))) (l21:K.lookup f21=some ⟨oc21,od21,.func (PySem.W.fnOf "law" "law" (bu jO) (a_ jO) (aF jO) .none kV21 dc21 pm21 an21 cd21 ct21),sl21⟩) (c21:PySem.W.codeIn K cd21 "law" = true) (k21:PySem.W.keepIn K (.ref f21)=true)
  (z_len:PySem.W.nsIn K mainGlobals "len" = some none)
  (z_list:PySem.W.nsIn K mainGlobals "list" = some none)
  (z_tuple:PySem.W.nsIn K mainGlobals "tuple" = some none)
  (z_range:PySem.W.nsIn K mainGlobals "range" = some none)
  (z_max:PySem.W.nsIn K mainGlobals "max" = some none)
  (z_min:PySem.W.nsIn K mainGlobals "min" = some none)
  (z_any:PySem.W.nsIn K mainGlobals "any" = some none)
  (z_sorted:PySem.W.nsIn K mainGlobals "sorted" = some none)
  (z_abs:PySem.W.nsIn K mainGlobals "abs" = some none)
  (z_int:PySem.W.nsIn K mainGlobals "int" = some none)
  (z_isinstance:PySem.W.nsIn K mainGlobals "isinstance" = some none)
  (z_ValueError:PySem.W.nsIn K mainGlobals "ValueError" = some none)
  {t_MOST_CLIMBED_PAIRS:Tok} (y_MOST_CLIMBED_PAIRS:PySem.W.nsIn K mainGlobals "MOST_CLIMBED_PAIRS" = some (some (.int 4 t_MOST_CLIMBED_PAIRS)))
  {t_MOST_CLIMBED_THINGS:Tok} (y_MOST_CLIMBED_THINGS:PySem.W.nsIn K mainGlobals "MOST_CLIMBED_THINGS" = some (some (.int 9 t_MOST_CLIMBED_THINGS)))
  {t_MOST_THINGS:Tok} (y_MOST_THINGS:PySem.W.nsIn K mainGlobals "MOST_THINGS" = some (some (.int 6 t_MOST_THINGS)))
  {U C_NoPair C_TooMany C_NoName C_NoWord C_NoText C_NoTables C_NoRow C_NoNumber:Addr} (u0:PySem.W.nsIn K mainGlobals "UnderError" = some (some (.ref U))) (u1:L2.mroIn K U=some zj)
  (n_NoPair:PySem.W.nsIn K mainGlobals "NoPair" = some (some (.ref C_NoPair)))
  (n_TooMany:PySem.W.nsIn K mainGlobals "TooMany" = some (some (.ref C_TooMany)))
  (n_NoName:PySem.W.nsIn K mainGlobals "NoName" = some (some (.ref C_NoName)))
  (n_NoWord:PySem.W.nsIn K mainGlobals "NoWord" = some (some (.ref C_NoWord)))
  (n_NoText:PySem.W.nsIn K mainGlobals "NoText" = some (some (.ref C_NoText)))
  (n_NoTables:PySem.W.nsIn K mainGlobals "NoTables" = some (some (.ref C_NoTables)))
  (n_NoRow:PySem.W.nsIn K mainGlobals "NoRow" = some (some (.ref C_NoRow)))
  (n_NoNumber:PySem.W.nsIn K mainGlobals "NoNumber" = some (some (.ref C_NoNumber)))
  (q_NoPair:PySem.W.excIn K C_NoPair zj "ValueError.__new__" = true)
  (r_NoPair:L2.mroIn K C_NoPair=some (.ref U::zj))
  (xa_NoPair:PySem.W.findIn K (.ref C_NoPair) "__getattribute__" = some (some (.builtin "BaseException.__getattribute__")))
  (xb_NoPair:PySem.W.findIn K (.ref C_NoPair) "__getattr__" = some none)
  (xc_NoPair:PySem.W.findObj K C_NoPair none "__class__" = some (.bind (.builtin "getset_descriptor.__get__") (.builtin "object.__class__")))
  (xd_NoPair:PySem.W.mroIn K C_NoPair (.type "object")=some true)
  (xf_NoPair:PySem.W.subIn K (.ref C_NoPair) (.type "BaseException")=some true)
  (cl_NoPair:(PySem.W.clsIn K C_NoPair).isSome=true)
  (v_NoPair:PySem.W.kitOne K (.ref C_NoPair) (.type "ValueError")=some true)
  (q_TooMany:PySem.W.excIn K C_TooMany zj "ValueError.__new__" = true)
  (r_TooMany:L2.mroIn K C_TooMany=some (.ref U::zj))
  (xa_TooMany:PySem.W.findIn K (.ref C_TooMany) "__getattribute__" = some (some (.builtin "BaseException.__getattribute__")))
  (xb_TooMany:PySem.W.findIn K (.ref C_TooMany) "__getattr__" = some none)
  (xc_TooMany:PySem.W.findObj K C_TooMany none "__class__" = some (.bind (.builtin "getset_descriptor.__get__") (.builtin "object.__class__")))
  (xd_TooMany:PySem.W.mroIn K C_TooMany (.type "object")=some true)
  (xf_TooMany:PySem.W.subIn K (.ref C_TooMany) (.type "BaseException")=some true)
  (cl_TooMany:(PySem.W.clsIn K C_TooMany).isSome=true)
  (v_TooMany:PySem.W.kitOne K (.ref C_TooMany) (.type "ValueError")=some true)
  (k_TooMany_NoName:PySem.W.kitOne K (.ref C_TooMany) (.ref C_NoName)=some false)
  (k_NoPair_NoName:PySem.W.kitOne K (.ref C_NoPair) (.ref C_NoName)=some false)
  (k_TooMany_NoWord:PySem.W.kitOne K (.ref C_TooMany) (.ref C_NoWord)=some false)
  (k_NoPair_NoWord:PySem.W.kitOne K (.ref C_NoPair) (.ref C_NoWord)=some false)
  (k_TooMany_TooMany:PySem.W.kitOne K (.ref C_TooMany) (.ref C_TooMany)=some true)
  (k_NoPair_TooMany:PySem.W.kitOne K (.ref C_NoPair) (.ref C_TooMany)=some false)
  (k_TooMany_NoPair:PySem.W.kitOne K (.ref C_TooMany) (.ref C_NoPair)=some false)
  (k_NoPair_NoPair:PySem.W.kitOne K (.ref C_NoPair) (.ref C_NoPair)=some true)
  (k_TooMany_NoText:PySem.W.kitOne K (.ref C_TooMany) (.ref C_NoText)=some false)
  (k_NoPair_NoText:PySem.W.kitOne K (.ref C_NoPair) (.ref C_NoText)=some false)
  (k_TooMany_NoTables:PySem.W.kitOne K (.ref C_TooMany) (.ref C_NoTables)=some false)
  (k_NoPair_NoTables:PySem.W.kitOne K (.ref C_NoPair) (.ref C_NoTables)=some false)
  (k_TooMany_NoRow:PySem.W.kitOne K (.ref C_TooMany) (.ref C_NoRow)=some false)
  (k_NoPair_NoRow:PySem.W.kitOne K (.ref C_NoPair) (.ref C_NoRow)=some false)
  (k_TooMany_NoNumber:PySem.W.kitOne K (.ref C_TooMany) (.ref C_NoNumber)=some false)
  (k_NoPair_NoNumber:PySem.W.kitOne K (.ref C_NoPair) (.ref C_NoNumber)=some false)
  : ∃ fd:FuncData,(∀ (s:Shared) (v:Value),BindsTo s fd ⟨[v],[]⟩ [("_law_script",v)])/\∀ base:Heap,K.In base->base.Ns mainGlobals mg->FnOk l.prog w K mg base kJ 7 fa fd ["_law_script"] (nS K 1 ow):=by
 have e:=hfa.symm.trans (PySem.W.mg_of X G a21)
 cases e
 have e_NoPair:ExcK K U "NoPair" C_NoPair:=⟨n_NoPair,q_NoPair,r_NoPair,⟨xa_NoPair,xb_NoPair,xc_NoPair,xd_NoPair,xf_NoPair⟩,cl_NoPair,v_NoPair⟩
 have e_TooMany:ExcK K U "TooMany" C_TooMany:=⟨n_TooMany,q_TooMany,r_TooMany,⟨xa_TooMany,xb_TooMany,xc_TooMany,xd_TooMany,xf_TooMany⟩,cl_TooMany,v_TooMany⟩
 have m_NoName:=PySem.W.mg_of X G n_NoName
 have m_NoWord:=PySem.W.mg_of X G n_NoWord
 have m_TooMany:=PySem.W.mg_of X G n_TooMany
 have m_NoPair:=PySem.W.mg_of X G n_NoPair
 have m_NoText:=PySem.W.mg_of X G n_NoText
 have m_NoTables:=PySem.W.mg_of X G n_NoTables
 have m_NoRow:=PySem.W.mg_of X G n_NoRow
 have m_NoNumber:=PySem.W.mg_of X G n_NoNumber
 have b_len:=PySem.W.mg_none_of X G z_len
 have b_list:=PySem.W.mg_none_of X G z_list
 have b_tuple:=PySem.W.mg_none_of X G z_tuple
 have b_range:=PySem.W.mg_none_of X G z_range
 have b_max:=PySem.W.mg_none_of X G z_max
 have b_min:=PySem.W.mg_none_of X G z_min
 have b_any:=PySem.W.mg_none_of X G z_any
 have b_sorted:=PySem.W.mg_none_of X G z_sorted
 have b_abs:=PySem.W.mg_none_of X G z_abs
 have b_int:=PySem.W.mg_none_of X G z_int
 have b_isinstance:=PySem.W.mg_none_of X G z_isinstance
 have b_ValueError:=PySem.W.mg_none_of X G z_ValueError
 have g_MOST_CLIMBED_PAIRS:∃ t,mg "MOST_CLIMBED_PAIRS" = some (.int 4 t):=⟨t_MOST_CLIMBED_PAIRS,PySem.W.mg_of X G y_MOST_CLIMBED_PAIRS⟩
 have g_MOST_CLIMBED_THINGS:∃ t,mg "MOST_CLIMBED_THINGS" = some (.int 9 t):=⟨t_MOST_CLIMBED_THINGS,PySem.W.mg_of X G y_MOST_CLIMBED_THINGS⟩
 have g_MOST_THINGS:∃ t,mg "MOST_THINGS" = some (.int 6 t):=⟨t_MOST_THINGS,PySem.W.mg_of X G y_MOST_THINGS⟩
 have F1:=bV (st:=dD) l1 c1 k1
 have i1:=F1.binds (ps:=["one", "other"]) fun _ _ _ _ _ _=>Cm fun _ _=>rfl
 have F2:=bV (st:=bF) l2 c2 k2
 have i2:=F2.binds (ps:=["order", "i", "j"]) fun _ _ _ _ _ _=>MX fun _ _ _=>rfl
 have F3:=bV (st:=cG) l3 c3 k3
 have i3:=F3.binds (ps:=["n"]) fun _ _ _ _ _ _=>GS fun _=>rfl
 have F4:=bV (st:=cH) l4 c4 k4
 have i4:=F4.binds (ps:=["order"]) fun _ _ _ _ _ _=>GS fun _=>rfl
 have F5:=bV (st:=gh) l5 c5 k5
 have i5:=F5.binds (ps:=["order"]) fun _ _ _ _ _ _=>GS fun _=>rfl
 have F6:=bV (st:=bB) l6 c6 k6
 have i6:=F6.binds (ps:=["numbers"]) fun _ _ _ _ _ _=>GS fun _=>rfl
 have F7:=bV (st:=oY) l7 c7 k7
 have i7:=F7.binds (ps:=["one", "other"]) fun _ _ _ _ _ _=>Cm fun _ _=>rfl
 have F8:=bV (st:=dU) l8 c8 k8
 have i8:=F8.binds (ps:=["one", "other"]) fun _ _ _ _ _ _=>Cm fun _ _=>rfl
 have F9:=bV (st:=cJ) l9 c9 k9
 have i9:=F9.binds (ps:=["one", "other", "free_things", "most_things", "most_pairs"]) fun _ _ _ _ _ _=>Ni fun _ _ _ _ _=>rfl
 have F10:=bV (st:=eV) l10 c10 k10
 have i10:=F10.binds (ps:=["order", "i", "j"]) fun _ _ _ _ _ _=>MX fun _ _ _=>rfl
 have F11:=bV (st:=iH) l11 c11 k11
 have i11:=F11.binds (ps:=["order", "pairs"]) fun _ _ _ _ _ _=>Cm fun _ _=>rfl
 have F12:=bV (st:=cK) l12 c12 k12
 have i12:=F12.binds (ps:=["order"]) fun _ _ _ _ _ _=>GS fun _=>rfl
 have F13:=bV (st:=eU) l13 c13 k13
 have i13:=F13.binds (ps:=["one", "other"]) fun _ _ _ _ _ _=>Cm fun _ _=>rfl
 have F14:=bV (st:=eZ) l14 c14 k14
 have i14:=F14.binds (ps:=["_law_script", "_law_k"]) fun _ _ _ _ _ _=>Cm fun _ _=>rfl
 have F15:=bV (st:=dH) l15 c15 k15
 have i15:=F15.binds (ps:=["_law_bag_here", "_law_many"]) fun _ _ _ _ _ _=>Cm fun _ _=>rfl
 have F16:=bV (st:=e_) l16 c16 k16
 have i16:=F16.binds (ps:=["_law_bag_here", "_law_n"]) fun _ _ _ _ _ _=>Cm fun _ _=>rfl
 have F17:=bV (st:=dG) l17 c17 k17
 have i17:=F17.binds (ps:=["_law_bag_here", "_law_n"]) fun _ _ _ _ _ _=>Cm fun _ _=>rfl
 have F18:=bV (st:=dB) l18 c18 k18
 have i18:=F18.binds (ps:=["_law_order_here"]) fun _ _ _ _ _ _=>GS fun _=>rfl
 have F19:=bV (st:=d9) l19 c19 k19
 have i19:=F19.binds (ps:=["_law_one", "_law_other"]) fun _ _ _ _ _ _=>Cm fun _ _=>rfl
 have F20:=bV (st:=ff) l20 c20 k20
 have i20:=F20.binds (ps:=["_law_one", "_law_other"]) fun _ _ _ _ _ _=>Cm fun _ _=>rfl
 have F21:=bV (st:=jO) l21 c21 k21
 have i21:=F21.binds (ps:=["_law_script"]) fun _ _ _ _ _ _=>GS fun _=>rfl
 refine ⟨PySem.W.fnOf "law" "law" (bu jO) (a_ jO) (aF jO) .none kV21 dc21 pm21 an21 cd21 ct21,fun s v=>.of_eq rfl,fun base _ _=>?_⟩
 have G_need_pair:zf l.prog w K mg base 1 "need_pair" ["one", "other"] bK:=⟨f1,_,qx F1 e_NoPair b_len,PySem.W.mg_of X G a1,k1,i1⟩
 have G_exchanged_places:iK l.prog w K mg base 1 "exchanged_places" ["order", "i", "j"] bq:=⟨f2,_,iR F2 b_list b_tuple,PySem.W.mg_of X G a2,k2,i2⟩
 have G_place_pairs:iK l.prog w K mg base 1 "place_pairs" ["n"] bC:=⟨f3,_,nk F3 b_range,PySem.W.mg_of X G a3,k3,i3⟩
 have G_wrong_pairs:iK l.prog w K mg base 2 "wrong_pairs" ["order"] cM:=⟨f4,_,mX F4 b_len G_place_pairs,PySem.W.mg_of X G a4,k4,i4⟩
 have G_length:iK l.prog w K mg base 3 "length" ["order"] ee:=⟨f5,_,yM F5 b_len G_wrong_pairs,PySem.W.mg_of X G a5,k5,i5⟩
 have G_first_above_nought:iK l.prog w K mg base 1 "first_above_nought" ["numbers"] bz:=⟨f6,_,gT F6,PySem.W.mg_of X G a6,k6,i6⟩
 have G_bar:zf l.prog w K mg base 2 "bar" ["one", "other"] m9:=⟨f7,_,HV F7 b_len b_range b_max G_need_pair G_first_above_nought,PySem.W.mg_of X G a7,k7,i7⟩
 have G_is_below:zf l.prog w K mg base 3 "is_below" ["one", "other"] cC:=⟨f8,_,rL F8 G_bar,PySem.W.mg_of X G a8,k8,i8⟩
 have G_need_bounds:zf l.prog w K mg base 4 "need_bounds" ["one", "other", "free_things", "most_things", "most_pairs"] bW:=⟨f9,_,mh F9 e_TooMany b_len G_length,PySem.W.mg_of X G a9,k9,i9⟩
 have G_is_step:iK l.prog w K mg base 1 "is_step" ["order", "i", "j"] dF:=⟨f10,_,uF F10 b_min b_max b_any,PySem.W.mg_of X G a10,k10,i10⟩
 have G_steps:iK l.prog w K mg base 2 "steps" ["order", "pairs"] iN:=⟨f11,_,C5 F11 b_sorted G_is_step G_exchanged_places,PySem.W.mg_of X G a11,k11,i11⟩
 have G_steps_above:iK l.prog w K mg base 3 "steps_above" ["order"] cL:=⟨f12,_,nu F12 b_len G_steps G_place_pairs,PySem.W.mg_of X G a12,k12,i12⟩
 have G_between:zf l.prog w K mg base 5 "between" ["one", "other"] bH:=⟨f13,_,uI F13 b_sorted g_MOST_CLIMBED_PAIRS g_MOST_CLIMBED_THINGS g_MOST_THINGS G_need_pair G_need_bounds G_is_below G_steps_above,PySem.W.mg_of X G a13,k13,i13⟩
 have G_law_bag:iK l.prog w K mg base 1 "_law_bag" ["_law_script", "_law_k"] eX:=⟨f14,_,uo F14 b_len b_abs b_int,PySem.W.mg_of X G a14,k14,i14⟩
 have G_law_digit:iK l.prog w K mg base 1 "_law_digit" ["_law_bag_here", "_law_many"] aT:=⟨f15,_,p9 F15,PySem.W.mg_of X G a15,k15,i15⟩
 have G_law_any:iK l.prog w K mg base 2 "_law_any" ["_law_bag_here", "_law_n"] e9:=⟨f16,_,t8 F16 b_list b_range b_len b_tuple G_law_digit,PySem.W.mg_of X G a16,k16,i16⟩
 have G_law_order:iK l.prog w K mg base 3 "_law_order" ["_law_bag_here", "_law_n"] cj:=⟨f17,_,qC F17 b_list b_range b_tuple G_law_digit G_law_any,PySem.W.mg_of X G a17,k17,i17⟩
 have G_law_wrong:iK l.prog w K mg base 1 "_law_wrong" ["_law_order_here"] cu:=⟨f18,_,qi F18 b_len b_range,PySem.W.mg_of X G a18,k18,i18⟩
 have G_law_kind:iK l.prog w K mg base 6 "_law_kind" ["_law_one", "_law_other"] bI:=⟨f19,_,rQ F19 u0 u1 e_TooMany e_NoPair m_NoName m_NoWord m_TooMany m_NoPair m_NoText m_NoTables m_NoRow m_NoNumber k_TooMany_NoName k_NoPair_NoName k_TooMany_NoWord k_NoPair_NoWord k_TooMany_TooMany k_NoPair_TooMany k_TooMany_NoPair k_NoPair_NoPair k_TooMany_NoText k_NoPair_NoText k_TooMany_NoTables k_NoPair_NoTables k_TooMany_NoRow k_NoPair_NoRow k_TooMany_NoNumber k_NoPair_NoNumber b_isinstance b_ValueError b_list G_between,PySem.W.mg_of X G a19,k19,i19⟩
 have G_law_due:iK l.prog w K mg base 2 "_law_due" ["_law_one", "_law_other"] bQ:=⟨f20,_,tQ F20 b_len b_int G_law_wrong,PySem.W.mg_of X G a20,k20,i20⟩
 exact G7 F21 b_range b_max b_min b_len G_law_bag G_law_digit G_law_order G_law_kind G_law_due
theorem walk {l:PySem.W.OpenLaw} {q:Program} {loose:List Str} {XP:(Str->Option Value)->Heap->Prop} {YP:World->Heap->Prop} {d:DefRec} {K:Params->PySem.W.Frag} (hn:l.most=some 63) (hdf:d.params.defaults=[])
  (hY:∀ (w:World) (h:Heap),YP w h->(K w.params).In h)
  (F:∀ (w:World) (mg:Str->Option Value) (fa:Addr) (h:Heap),(K w.params).In h->h.Ns mainGlobals mg->mg d.name=some (.ref fa) ->
   ∃ fd:FuncData,(∀ (s:Shared) (u:Value),BindsTo s fd ⟨[u],[]⟩ [("_law_script",u)])/\∀ base:Heap,(K w.params).In base->base.Ns mainGlobals mg->FnOk l.prog w (K w.params) mg base kJ 7 fa fd ["_law_script"] (nS (K w.params) 1 ow)) :
  PySem.W.WalkO q loose XP YP l.row.toRowW d [] (fun f vs=>PySem.call f vs):=
 L2.ED (n:=63) (k:=7) (x := "_law_script") (CX:=fun _=>kJ) (sp:=fun w=>nS (K w.params) 1 ow) hn (by decide) hdf ⟨rfl,by decide,by decide⟩ hY F (fun _ H a ns hl hO hS=>yQ hO hS (IS ns hl)) fun _ _ _ _ _ z=>z
end K20
open PySem PySem.W PyProof.Rows
namespace PySem.W.Fast
theorem tw9029581994258263082:True:=trivial
theorem tw11485337915032914882:True:=trivial
theorem tw16168448482292121206:True:=trivial
theorem tw5497979746006082785:True:=trivial
theorem tw280421355090336871:True:=trivial
theorem tw10916854414638161526:True:=trivial
theorem tw2108278822652846897:True:=trivial
theorem tw4592230675441300538:True:=trivial
theorem tw5062825869785086488:True:=trivial
theorem tw9961154060665444236:True:=trivial
theorem tw1066940095981410284:True:=trivial
theorem tw8127709302166047548:True:=trivial
theorem tw1052573160983821054:True:=trivial
theorem tw9866895220087903877:True:=trivial
theorem tw14144342665083323424:True:=trivial
theorem tw12040098192251415114:True:=trivial
theorem tw12846956731933811761:True:=trivial
theorem tw2224964932829028426:True:=trivial
theorem tw18393123568358662792:True:=trivial
theorem tw13865547405696566820:True:=trivial
theorem tw15718925444869808913:True:=trivial
theorem tw5159644105060431508:True:=trivial
theorem tw13134236956377152758:True:=trivial
theorem tw13099937925635791692:True:=trivial
theorem tw15435924000689939637:True:=trivial
theorem tw4196895352401164011:True:=trivial
theorem tw10455411662175981047:True:=trivial
theorem tw2728488706432622224:True:=trivial
theorem tw1910616404495179017:True:=trivial
theorem tw10249284887315173365:True:=trivial
theorem tw10335254928418377972:True:=trivial
theorem tw17735987846791851112:True:=trivial
theorem tw15284676951710369728:True:=trivial
theorem tw16344142803126963528:True:=trivial
theorem tw8999982223037897681:True:=trivial
theorem tw4317716484251391024:True:=trivial
theorem tw1617614847997970984:True:=trivial
theorem tw3997013419994659494:True:=trivial
theorem tw5844180562683027209:True:=trivial
theorem tw11985063532224355889:True:=trivial
theorem tw6676810647096721856:True:=trivial
theorem tw4396901933942561375:True:=trivial
theorem tw9765972239836910070:True:=trivial
theorem tw17269918842148808314:True:=trivial
theorem tw13940324768410876461:True:=trivial
theorem tw16520986638794930461:True:=trivial
theorem tw1771525194803490613:True:=trivial
theorem tw14317725260753431458:True:=trivial
theorem tw5476786853739021359:True:=trivial
theorem tw17320569412285252112:True:=trivial
theorem tw15559238193354643467:True:=trivial
theorem tw9772376315643061873:True:=trivial
theorem tw16627547021288984798:True:=trivial
theorem tw13271496155011091404:True:=trivial
theorem tw10661452997762660558:True:=trivial
theorem tw7945440867354792429:True:=trivial
theorem tw8038446035941420017:True:=trivial
theorem tw12261476578955228490:True:=trivial
theorem tw5621422872878324806:True:=trivial
theorem tw8517269960870758091:True:=trivial
theorem tw5576071641493476492:True:=trivial
theorem tw17654008962756184353:True:=trivial
theorem tw13985478911823107517:True:=trivial
theorem tw2601112861547906507:True:=trivial
theorem tw9753467483778780929:True:=trivial
theorem tw7530079802866338253:True:=trivial
theorem tw4871579810190356571:True:=trivial
theorem tw1607122924204814629:True:=trivial
theorem tw6003490096704682108:True:=trivial
theorem tw5468525757250516788:True:=trivial
theorem tw10923864491406992637:True:=trivial
theorem tw5343200367373113447:True:=trivial
theorem tw17617155936106906971:True:=trivial
theorem tw4414723278306067588:True:=trivial
theorem tw6420646824436920615:True:=trivial
theorem tw9437787911621438647:True:=trivial
theorem tw7197228022309300014:True:=trivial
theorem tw10661029507720650487:True:=trivial
theorem tw9359711647043274226:True:=trivial
theorem tw3527686329897628527:True:=trivial
theorem tw9032245534320222802:True:=trivial
theorem tw4467868509787896883:True:=trivial
theorem tw16773365615530838429:True:=trivial
theorem tw16376228356318315026:True:=trivial
theorem tw11629963341870134532:True:=trivial
theorem tw4978194219393568127:True:=trivial
theorem tw7441877691800768725:True:=trivial
theorem tw10237440843363403200:True:=trivial
theorem tw13342559924925007532:True:=trivial
theorem tw1094661827746422649:True:=trivial
theorem tw5594966328827284442:True:=trivial
theorem tw14603684245012473750:True:=trivial
theorem tw13570436289537498150:True:=trivial
theorem tw18195765702907552424:True:=trivial
theorem tw10240330040305083583:True:=trivial
theorem tw8540994325906126211:True:=trivial
theorem tw11511831044739623943:True:=trivial
theorem tw6663952843962117085:True:=trivial
theorem tw17796038786657990860:True:=trivial
theorem tw9627698402132220417:True:=trivial
theorem tw11739426633428826741:True:=trivial
theorem tw13009050315448615105:True:=trivial
theorem tw8344410759458985463:True:=trivial
theorem tw8835273365529550961:True:=trivial
theorem tw17028493434855545331:True:=trivial
theorem tw15053726939740867953:True:=trivial
theorem tw8833622337582779886:True:=trivial
theorem tw936669098792125617:True:=trivial
theorem tw17923540006831622446:True:=trivial
theorem tw12485088297573827794:True:=trivial
theorem tw17117374332498618514:True:=trivial
theorem tw16408286524428792050:True:=trivial
theorem tw4405740665300806912:True:=trivial
theorem tw446271200674688171:True:=trivial
theorem tw13384923351310019438:True:=trivial
theorem tw988303870443409109:True:=trivial
theorem tw15892227706579320601:True:=trivial
theorem tw12033359012154388746:True:=trivial
theorem tw3301068966315932844:True:=trivial
theorem tw1584614796709168337:True:=trivial
theorem tw14429442509135743063:True:=trivial
theorem tw6190149342936944661:True:=trivial
theorem tw12388478276073706517:True:=trivial
theorem tw711825841094963804:True:=trivial
theorem tw6380947375039076085:True:=trivial
theorem tw2744463694564914136:True:=trivial
theorem tw1906304932029561470:True:=trivial
theorem tw11810828593646768353:True:=trivial
theorem tw7230676044188040182:True:=trivial
theorem tw7947922681933092101:True:=trivial
theorem tw11879012763945889343:True:=trivial
theorem tw18101423147443440740:True:=trivial
theorem tw3073174205904852906:True:=trivial
theorem tw1560910225912250533:True:=trivial
theorem tw5371685619466240457:True:=trivial
theorem tw3357596005240457047:True:=trivial
theorem tw4408392646460762482:True:=trivial
theorem tw13960512789384514936:True:=trivial
theorem tw4070626545968179639:True:=trivial
theorem tw3658042066919939846:True:=trivial
theorem tw9735227137585847378:True:=trivial
theorem tw16599945875557735858:True:=trivial
theorem tw14529956176843023567:True:=trivial
theorem tw313682670735432543:True:=trivial
theorem tw17136085920912666085:True:=trivial
theorem tw15329830635604216929:True:=trivial
theorem tw4968643035617983822:True:=trivial
theorem tw14854452571351542753:True:=trivial
theorem tw15229112162454606060:True:=trivial
theorem tw2447420975418832471:True:=trivial
theorem tw6710167170095063186:True:=trivial
theorem tw17846755312285561202:True:=trivial
theorem tw4874472603301428121:True:=trivial
theorem tw12426335995276418207:True:=trivial
theorem tw251406280386722232:True:=trivial
theorem tw6843966976320891076:True:=trivial
theorem tw12249990790430282586:True:=trivial
theorem tw13395292566078151659:True:=trivial
theorem tw13591463278425306242:True:=trivial
theorem tw12501193609549250212:True:=trivial
theorem tw644005557601639768:True:=trivial
theorem tw4177631154061875613:True:=trivial
theorem tw11703095415161475522:True:=trivial
theorem tw12534909694879807603:True:=trivial
theorem tw11410620971358931633:True:=trivial
theorem tw16397989940516805016:True:=trivial
theorem tw3825059655603796823:True:=trivial
theorem tw14006969648651567209:True:=trivial
theorem tw9201169310845286223:True:=trivial
theorem tw5626047863950071227:True:=trivial
theorem tw2414558249573248560:True:=trivial
theorem tw12405758784757388830:True:=trivial
theorem tw13090256880365791639:True:=trivial
theorem tw10753622740253416540:True:=trivial
theorem tw2750051835233879674:True:=trivial
theorem tw12431439827515695983:True:=trivial
theorem tw9853931957971240481:True:=trivial
theorem tw17395009231162052674:True:=trivial
theorem tw3514217379803077896:True:=trivial
theorem tw11773399934522704256:True:=trivial
theorem tw3077293513444693815:True:=trivial
theorem tw8921535630988392118:True:=trivial
theorem tw1879683701437653427:True:=trivial
theorem tw11135985332643568964:True:=trivial
theorem tw12772967224541919007:True:=trivial
theorem tw5246979980746349705:True:=trivial
theorem tw15607592644203049004:True:=trivial
theorem tw13835321586860265199:True:=trivial
theorem tw12998129180466142718:True:=trivial
theorem tw11257146520368676028:True:=trivial
theorem tw338319517726636812:True:=trivial
theorem tw572196432556144096:True:=trivial
theorem tw9142215639696009354:True:=trivial
theorem tw12151875109401305113:True:=trivial
theorem tw13475350139878542719:True:=trivial
theorem tw8661643826538487440:True:=trivial
theorem tw12249162801683122904:True:=trivial
theorem tw10184304139319526990:True:=trivial
theorem tw13939256338004827569:True:=trivial
theorem tw2250523918891746951:True:=trivial
theorem tw2455073359038128363:True:=trivial
theorem tw15477453526224381438:True:=trivial
theorem tw7429442714135891127:True:=trivial
theorem tw14440173853732754966:True:=trivial
theorem tw8833275421975873579:True:=trivial
theorem tw2100344622739282349:True:=trivial
theorem tw16090174525957517977:True:=trivial
theorem tw4585216614476471299:True:=trivial
theorem tw16810212679363078667:True:=trivial
theorem tw16174673345694907986:True:=trivial
theorem tw458753784643659535:True:=trivial
theorem tw1932156480225646614:True:=trivial
theorem tw13712807170662583805:True:=trivial
theorem tw9203745344290486244:True:=trivial
theorem tw9442615384104155639:True:=trivial
theorem tw991783779169368962:True:=trivial
theorem tw1984156451476700107:True:=trivial
theorem tw11964297113674370719:True:=trivial
theorem tw14942314677206000468:True:=trivial
theorem tw6435685548145934370:True:=trivial
theorem tw11546140194573162455:True:=trivial
theorem tw6424033637410309420:True:=trivial
theorem tw17644168155277521974:True:=trivial
theorem tw8983033166997914436:True:=trivial
theorem tw17704196618183584727:True:=trivial
theorem tw8528096240676937353:True:=trivial
theorem tw13495809952794496631:True:=trivial
theorem tw488050366409714913:True:=trivial
theorem tw11499128976674442889:True:=trivial
theorem tw5761209362484219805:True:=trivial
theorem tw716788039574232831:True:=trivial
theorem tw16850765480135558377:True:=trivial
theorem tw11546167056372653265:True:=trivial
theorem tw12519035237319724828:True:=trivial
theorem tw2091645033140801846:True:=trivial
theorem tw9033710784262782425:True:=trivial
theorem tw1483989609436823066:True:=trivial
theorem tw8859318846207997945:True:=trivial
theorem tw9184485825937311339:True:=trivial
theorem tw4201971480288085644:True:=trivial
theorem tw13364697547653539728:True:=trivial
theorem tw10260608988912773214:True:=trivial
theorem tw3979182594191284271:True:=trivial
theorem tw11737877276330182582:True:=trivial
theorem tw14127473493392779243:True:=trivial
theorem tw6231190562607467422:True:=trivial
theorem tw16527492954065056241:True:=trivial
theorem tw692998176526520764:True:=trivial
theorem tw7447070061590195198:True:=trivial
theorem tw11004693866817276275:True:=trivial
theorem tw12193329677203566402:True:=trivial
theorem tw16257750312326880812:True:=trivial
theorem tw3395843719065420995:True:=trivial
theorem tw2535503971487150929:True:=trivial
theorem tw8867435450518816104:True:=trivial
theorem tw3749794166938598690:True:=trivial
theorem tw9793108694787690066:True:=trivial
theorem tw9477836403857483867:True:=trivial
theorem tw9931736095588623610:True:=trivial
theorem tw1101187930941699533:True:=trivial
theorem tw15907601257538147272:True:=trivial
theorem tw2355916296628222602:True:=trivial
theorem tw17757833594058355456:True:=trivial
theorem tw15773561269281737333:True:=trivial
end PySem.W.Fast
set_option maxRecDepth 100000 in
set_option maxHeartbeats 0 in
theorem PySem.Challenge.cw_undercells_k20_between_refused_holds : PySem.Challenge.rw_undercells_k20_between_refused.Holds := by
 w_on;o_law;k_head;(case hw=>w_witness2)
 k_fill
 refine K20.walk (l:=PySem.Challenge.rw_undercells_k20_between_refused) rfl rfl (fun w h Y=>PySem.W.kIn_of Y) ?F
 case F=>
  intro w mg fa h KX G hmg
  refine' K20.all_mk KX G hmg ?a1 ?l1 ?c1 ?k1 ?a2 ?l2 ?c2 ?k2 ?a3 ?l3 ?c3 ?k3 ?a4 ?l4 ?c4 ?k4 ?a5 ?l5 ?c5 ?k5 ?a6 ?l6 ?c6 ?k6 ?a7 ?l7 ?c7 ?k7 ?a8 ?l8 ?c8 ?k8 ?a9 ?l9 ?c9 ?k9 ?a10 ?l10 ?c10 ?k10 ?a11 ?l11 ?c11 ?k11 ?a12 ?l12 ?c12 ?k12 ?a13 ?l13 ?c13 ?k13 ?a14 ?l14 ?c14 ?k14 ?a15 ?l15 ?c15 ?k15 ?a16 ?l16 ?c16 ?k16 ?a17 ?l17 ?c17 ?k17 ?a18 ?l18 ?c18 ?k18 ?a19 ?l19 ?c19 ?k19 ?a20 ?l20 ?c20 ?k20 ?a21 ?l21 ?c21 ?k21 ?z_len ?z_list ?z_tuple ?z_range ?z_max ?z_min ?z_any ?z_sorted ?z_abs ?z_int ?z_isinstance ?z_ValueError ?y_MOST_CLIMBED_PAIRS ?y_MOST_CLIMBED_THINGS ?y_MOST_THINGS ?u0 ?u1 ?n_NoPair ?n_TooMany ?n_NoName ?n_NoWord ?n_NoText ?n_NoTables ?n_NoRow ?n_NoNumber ?q_NoPair ?r_NoPair ?xa_NoPair ?xb_NoPair ?xc_NoPair ?xd_NoPair ?xf_NoPair ?cl_NoPair ?v_NoPair ?q_TooMany ?r_TooMany ?xa_TooMany ?xb_TooMany ?xc_TooMany ?xd_TooMany ?xf_TooMany ?cl_TooMany ?v_TooMany ?k_TooMany_NoName ?k_NoPair_NoName ?k_TooMany_NoWord ?k_NoPair_NoWord ?k_TooMany_TooMany ?k_NoPair_TooMany ?k_TooMany_NoPair ?k_NoPair_NoPair ?k_TooMany_NoText ?k_NoPair_NoText ?k_TooMany_NoTables ?k_NoPair_NoTables ?k_TooMany_NoRow ?k_NoPair_NoRow ?k_TooMany_NoNumber ?k_NoPair_NoNumber
  (case a1=>k_is)
  (case l1=>k_is)
  (case c1=>k_is)
  (case k1=>k_is)
  (case a2=>k_is)
  (case l2=>k_is)
  (case c2=>k_is)
  (case k2=>k_is)
  (case a3=>k_is)
  (case l3=>k_is)
  (case c3=>k_is)
  (case k3=>k_is)
  (case a4=>k_is)
  (case l4=>k_is)
  (case c4=>k_is)
  (case k4=>k_is)
  (case a5=>k_is)
  (case l5=>k_is)
  (case c5=>k_is)
  (case k5=>k_is)
  (case a6=>k_is)
  (case l6=>k_is)
  (case c6=>k_is)
  (case k6=>k_is)
  (case a7=>k_is)
  (case l7=>k_is)
  (case c7=>k_is)
  (case k7=>k_is)
  (case a8=>k_is)
  (case l8=>k_is)
  (case c8=>k_is)
  (case k8=>k_is)
  (case a9=>k_is)
  (case l9=>k_is)
  (case c9=>k_is)
  (case k9=>k_is)
  (case a10=>k_is)
  (case l10=>k_is)
  (case c10=>k_is)
  (case k10=>k_is)
  (case a11=>k_is)
  (case l11=>k_is)
  (case c11=>k_is)
  (case k11=>k_is)
  (case a12=>k_is)
  (case l12=>k_is)
  (case c12=>k_is)
  (case k12=>k_is)
  (case a13=>k_is)
  (case l13=>k_is)
  (case c13=>k_is)
  (case k13=>k_is)
  (case a14=>k_is)
  (case l14=>k_is)
  (case c14=>k_is)
  (case k14=>k_is)
  (case a15=>k_is)
  (case l15=>k_is)
  (case c15=>k_is)
  (case k15=>k_is)
  (case a16=>k_is)
  (case l16=>k_is)
  (case c16=>k_is)
  (case k16=>k_is)
  (case a17=>k_is)
  (case l17=>k_is)
  (case c17=>k_is)
  (case k17=>k_is)
  (case a18=>k_is)
  (case l18=>k_is)
  (case c18=>k_is)
  (case k18=>k_is)
  (case a19=>k_is)
  (case l19=>k_is)
  (case c19=>k_is)
  (case k19=>k_is)
  (case a20=>k_is)
  (case l20=>k_is)
  (case c20=>k_is)
  (case k20=>k_is)
  (case a21=>k_is)
  (case l21=>k_is)
  (case c21=>k_is)
  (case k21=>k_is)
  (case z_len=>k_is)
  (case z_list=>k_is)
  (case z_tuple=>k_is)
  (case z_range=>k_is)
  (case z_max=>k_is)
  (case z_min=>k_is)
  (case z_any=>k_is)
  (case z_sorted=>k_is)
  (case z_abs=>k_is)
  (case z_int=>k_is)
  (case z_isinstance=>k_is)
  (case z_ValueError=>k_is)
  (case y_MOST_CLIMBED_PAIRS=>k_is)
  (case y_MOST_CLIMBED_THINGS=>k_is)
  (case y_MOST_THINGS=>k_is)
  (case u0=>k_is)
  (case n_NoPair=>k_is)
  (case n_TooMany=>k_is)
  (case n_NoName=>k_is)
  (case n_NoWord=>k_is)
  (case n_NoText=>k_is)
  (case n_NoTables=>k_is)
  (case n_NoRow=>k_is)
  (case n_NoNumber=>k_is)
  (case u1=>kernel_rfl)
  (case q_NoPair=>kernel_rfl)
  (case r_NoPair=>kernel_rfl)
  (case xa_NoPair=>kernel_rfl)
  (case xb_NoPair=>kernel_rfl)
  (case xc_NoPair=>kernel_rfl)
  (case xd_NoPair=>kernel_rfl)
  (case xf_NoPair=>kernel_rfl)
  (case cl_NoPair=>kernel_rfl)
  (case v_NoPair=>kernel_rfl)
  (case q_TooMany=>kernel_rfl)
  (case r_TooMany=>kernel_rfl)
  (case xa_TooMany=>kernel_rfl)
  (case xb_TooMany=>kernel_rfl)
  (case xc_TooMany=>kernel_rfl)
  (case xd_TooMany=>kernel_rfl)
  (case xf_TooMany=>kernel_rfl)
  (case cl_TooMany=>kernel_rfl)
  (case v_TooMany=>kernel_rfl)
  (case k_TooMany_NoName=>kernel_rfl)
  (case k_NoPair_NoName=>kernel_rfl)
  (case k_TooMany_NoWord=>kernel_rfl)
  (case k_NoPair_NoWord=>kernel_rfl)
  (case k_TooMany_TooMany=>kernel_rfl)
  (case k_NoPair_TooMany=>kernel_rfl)
  (case k_TooMany_NoPair=>kernel_rfl)
  (case k_NoPair_NoPair=>kernel_rfl)
  (case k_TooMany_NoText=>kernel_rfl)
  (case k_NoPair_NoText=>kernel_rfl)
  (case k_TooMany_NoTables=>kernel_rfl)
  (case k_NoPair_NoTables=>kernel_rfl)
  (case k_TooMany_NoRow=>kernel_rfl)
  (case k_NoPair_NoRow=>kernel_rfl)
  (case k_TooMany_NoNumber=>kernel_rfl)
  (case k_NoPair_NoNumber=>kernel_rfl)
