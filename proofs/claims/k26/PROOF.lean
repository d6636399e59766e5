import PyProof.Rows.All
import Wide.All
import OpenK.AllK
import Wide.FinOn
import Lean
import PyProof.EqAt
import PyProof.EqKinds
import PyProof.TupleCall
import PySem.Challenge.RW_undercells_k26_sums_added
set_option Elab.async false
set_option linter.all false
set_option maxRecDepth 100000
set_option maxHeartbeats 4000000
namespace L2
open PySem PySem.Spec PyProof.Rows
noncomputable abbrev Key:=Sum Int Str
noncomputable def qY:Key->Value->Bool
 | .inl k,v=>Value.isInt k v
 | .inr x,v=>Value.isStrOf x v
noncomputable def M0 (w:World):Key->Int
 | .inl k=>hashInt k
 | .inr x=>hashStr w x
theorem cC:∀ {k:Key} {v:Value},qY k v=true->(∃ i t,k=Sum.inl i/\v=Value.int i t)\/(∃ x t,k=Sum.inr x/\v=Value.str x t)
 | .inl i,v,h=>by
  obtain ⟨t,e⟩:=Value.isInt_shape (k:=i) (v:=v) h
  exact .inl ⟨i,t,rfl,e⟩
 | .inr x,v,h=>by
  obtain ⟨t,e⟩:=Value.isStrOf_shape (x:=x) (v:=v) h
  exact .inr ⟨x,t,rfl,e⟩
theorem AD (i:Int) (t:Tok):qY (.inl i) (.int i t)=true:=by simp [qY,Value.isInt]
theorem Au (x:Str) (t:Tok):qY (.inr x) (.str x t)=true:=by simp [qY,Value.isStrOf]
theorem Jb (a b:Int):decide ((Sum.inl a:Key)=Sum.inl b)=(a == b):=by
 by_cases e:a=b
 ·subst e;simp
 ·have h:¬ (Sum.inl a:Key)=Sum.inl b:=fun q=>e (Sum.inl.inj q)
  rw [decide_eq_false h]
  exact (beq_eq_false_iff_ne.mpr e).symm
theorem IC (a b:Str):decide ((Sum.inr a:Key)=Sum.inr b)=decide (a=b):=by
 by_cases e:a=b
 ·subst e;simp
 ·have h:¬ (Sum.inr a:Key)=Sum.inr b:=fun q=>e (Sum.inr.inj q)
  rw [decide_eq_false h,decide_eq_false e]
theorem IT (a:Int) (b:Str):decide ((Sum.inl a:Key)=Sum.inr b)=false:=decide_eq_false (fun q=>nomatch q)
theorem JL (a:Str) (b:Int):decide ((Sum.inr a:Key)=Sum.inl b)=false:=decide_eq_false (fun q=>nomatch q)
noncomputable def bN (prog:Program) (w:World):PySem.KeyKind prog w Key where
 is:=qY
 hash:=M0 w
 inj:=fun v a b ha hb=>by
  rcases cC ha with ⟨i,t,rfl,rfl⟩ | ⟨x,t,rfl,rfl⟩
  ·rcases cC hb with ⟨j,u,rfl,e⟩ | ⟨y,u,rfl,e⟩
   ·injection e with e1 _;rw [e1]
   ·exact nomatch e
  ·rcases cC hb with ⟨j,u,rfl,e⟩ | ⟨y,u,rfl,e⟩
   ·exact nomatch e
   ·injection e with e1 _;rw [e1]
 byValue:=fun k v h=>by
  rcases cC h with ⟨i,t,rfl,rfl⟩ | ⟨x,t,rfl,rfl⟩ <;> rfl
 pyHash:=fun hv h=>by
  rcases cC hv with ⟨i,t,rfl,rfl⟩ | ⟨x,t,rfl,rfl⟩
  ·exact wpAny_pyHash_int h
  ·exact wpAny_pyHash_str h
 eqBool:=fun hu hv h=>by
  rcases cC hu with ⟨i,t,rfl,rfl⟩ | ⟨x,t,rfl,rfl⟩
  ·rcases cC hv with ⟨j,u,rfl,rfl⟩ | ⟨y,u,rfl,rfl⟩
   ·rw [Jb] at h;exact wpAny_eqBool_int h
   ·rw [IT] at h;exact SeqAt.EqAt.int_str i t y u _ _ _ _ h
  ·rcases cC hv with ⟨j,u,rfl,rfl⟩ | ⟨y,u,rfl,rfl⟩
   ·rw [JL] at h;exact SeqAt.EqAt.str_int x t j u _ _ _ _ h
   ·rw [IC] at h;exact wpAny_eqBool_str h
 «strs»:=fun k x t v h=>by
  rcases cC h with ⟨i,u,rfl,e⟩ | ⟨y,u,rfl,e⟩
  ·exact nomatch e
  ·injection e with e1 _
   subst e1
   cases v <;> rfl
theorem t_ (prog:Program) (w:World) (i:Int) (t:Tok):(bN prog w).is (.inl i) (.int i t)=true:=AD i t
theorem vc (prog:Program) (w:World) (x:Str) (t:Tok):(bN prog w).is (.inr x) (.str x t)=true:=Au x t
inductive V where
 | non | bl (b:Bool) | int (i:Int) | str (x:Str) | byt (b:Array UInt8) | flt (b:UInt64) | ref (a:Addr) | ty (n:String)
 deriving DecidableEq
noncomputable def RelV:V->Value->Prop
 | .non,u=>u=Value.none
 | .bl b,u=>u=Value.bool b
 | .int i,u=>∃ t,u=Value.int i t
 | .str x,u=>∃ t,u=Value.str x t
 | .byt b,u=>∃ t,u=Value.bytes b t
 | .flt b,u=>∃ t,u=Value.float b t
 | .ref a,u=>u=Value.ref a
 | .ty n,u=>u=Value.type n
noncomputable abbrev Vals:List V->List Value->Prop:=Paired RelV
theorem Vals.length {xs:List V} {us:List Value} (r:Vals xs us):xs.length=us.length:=Paired.length r
theorem Vals.get:∀ {xs:List V} {us:List Value} {i:Nat} {x:V},Vals xs us->xs[i]?=some x->∃ u,us[i]?=some u/\RelV x u
 | _,_,_,_,.nil,e=>by simp at e
 | _,_,0,_,.cons r _,e=>by simp at e;subst e;exact ⟨_,rfl,r⟩
 | _,_,i+1,x,.cons _ t,e=>by
  obtain ⟨u,h1,h2⟩:=Vals.get (i:=i) (x:=x) t (by simpa using e)
  exact ⟨u,by simpa using h1,h2⟩
theorem Vals.set {x:V} {u:Value} (r:RelV x u):∀ {xs:List V} {us:List Value} (i:Nat),Vals xs us->Vals (xs.set i x) (us.set i u)
 | _,_,_,.nil=>.nil
 | _,_,0,.cons _ t=>.cons r t
 | _,_,i+1,.cons q t=>.cons q (Vals.set r i t)
theorem Vals.append:∀ {xs ys:List V} {us ws:List Value},Vals xs us->Vals ys ws->Vals (xs++ys) (us++ws)
 | _,_,_,_,.nil,s=>s
 | _,_,_,_,.cons r t,s=>.cons r (Vals.append t s)
noncomputable def mz:Option V->Option Value->Prop
 | some v,some u=>RelV v u
 | none,none=>True
 | _,_=>False
noncomputable def KV {κ:Type}:List (κ×V)->List (κ×Value)->Prop:=Paired fun (p:κ×V) (q:κ×Value)=>p.1=q.1/\RelV p.2 q.2
noncomputable def kV:Key->V
 | .inl i=>.int i
 | .inr x=>.str x
inductive HO where
 | lst (xs:List V)
 | tup (xs:List V)
 | dK (kvs:List (Key×V)) | dT (kvs:List (List Key×V))
 | set (S:Int->Bool) (n:Nat)
 | ins (C dx:Addr) (fs:List (Str×V))
 | own (x:Addr)
 | xd (fs:List (Str×V))
 | met (f x:Addr)
 | rng (lo hi:Int)
 | frz (o:Obj) (u:HO)
 | tbl (ps:Array Value)
 | ext (φ:Heap->Prop)
noncomputable abbrev Hp:=Addr->Option HO
noncomputable def upd (H:Hp) (a:Addr) (o:HO):Hp:=fun b=>if b=a then some o else H b
theorem bJ {H:Hp} {a:Addr} {o:HO}:upd H a o a=some o:=by unfold upd;rw [if_pos rfl]
theorem aK {H:Hp} {a b:Addr} {o:HO} (h:b≠a):upd H a o b=H b:=by unfold upd;rw [if_neg h]
theorem Mi {H:Hp} {a b:Addr} {o u:HO} (h:H a=some o) (h':H b=some u) (d:o≠u):a≠b:=by
 intro e;subst e;rw [h] at h';exact d (Option.some.inj h')
theorem bf {H:Hp} {a b:Addr} {o:HO} (h:H a=some o) (h':H b=none):a≠b:=by
 intro e;subst e;rw [h] at h';cases h'
noncomputable def fW (h:Heap) (a:Addr) (items:Array Value):Prop:=∃ o,h.get? a=some o/\o.cls=.type "tuple" /\ o.dict=none/\∃ n,o.data=.seq items n
theorem fW.tup {h:Heap} {a:Addr} {items:Array Value}:fW h a items->IsTup h a items:=fun ⟨o,e,c,_,n,d⟩=>⟨o,e,c,n,d⟩
theorem fW.new (h:Heap) (items:Array Value):fW (h.push { cls:=.type "tuple",data:=.seq items }) h.objs.size items:=⟨_,Heap.get?_push_size _ rfl,rfl,rfl,_,rfl⟩
theorem fW.lt {h:Heap} {a:Addr} {items:Array Value} (x:fW h a items):a < h.objs.size:=let ⟨_,ho,_⟩:=x;Heap.lt_size ho
section
variable (P:Program) (w:World)
noncomputable def b_ (H:Hp) (h:Heap) (a:Addr):HO->Prop
 | .lst xs=>xs.length<=sizeLine/\∃ (its:List Value) (n:Nat),Vals xs its/\h.get? a=some { cls:=.type "list",data:=.seq its.toArray n }
 | .tup xs=>xs.length<=sizeLine/\∃ its:List Value,Vals xs its/\fW h a its.toArray
 | .dK kvs=>kvs.length<=sizeLine/\(a == sysModules)=false/\∃ vs,KV kvs vs/\h.DictOf (bN P w) a vs
 | .dT kvs=>kvs.length<=sizeLine/\(a == sysModules)=false/\∃ xs:List (List Key×Addr×Value),
   Paired (fun (p:List Key×V) (q:List Key×Addr×Value)=>p.1=q.1/\H q.2.1=some (.tup (p.1.map kV))/\RelV p.2 q.2.2) kvs xs /\
   ∃ o es ep,h.get? a=some o/\o.ExactDict/\o.data=.dict es ep/\es.toList=xs.map (entryOfKey (tupleKind (bN P w)))/\(xs.map (·.1)).Nodup
 | .set S n=>h.SetOf (intKind P w) a S n
 | .ins C dx fs=>H dx=some (.own a)/\fs.length<=1000/\dx≠a/\h.get? a=some (PySem.W.instObj C dx) /\
   ∃ mA,h.Ns1 dx mA/\(∀ f,mz (fs.lookup f) (mA f))/\PySem.Within mA (fs.map (·.1))
 | .own _=>∃ o,h.get? a=some o
 | .xd fs=>∃ mA,h.Ns1 a mA/\∀ f,mz (fs.lookup f) (mA f)
 | .rng lo hi=>∃ t u v,h.get? a=some { cls:=.type "range",data:=.fields #[.int lo t,.int hi u,.int 1 v] }
 | .frz o u=>h.get? a=some o/\b_ H h a u
 | .tbl ps=>h.get? a=some { cls:=.none,data:=.fields ps }
 | .met f x=>h.get? a=some (PySem.W.methodObj (.ref f) (.ref x))
 | .ext φ=>φ h/\(∃ o,h.get? a=some o)/\∀ h1 h2:Heap,φ h1->(∀ o,h1.get? a=some o->h2.get? a=some o)->φ h2
noncomputable def j_ (H:Hp) (h:Heap):Prop:=∀ a o,H a=some o->b_ P w H h a o
end
section
variable {P:Program} {w:World} {H H':Hp} {h h':Heap} {a:Addr} {o:HO}
theorem b_.lt (x:b_ P w H h a o):a < h.objs.size:=by
 cases o with
 | lst xs=>obtain ⟨_,_,_,_,e⟩:=x;exact Heap.lt_size e
 | tup xs=>obtain ⟨_,_,_,p⟩:=x;exact fW.lt p
 | dK kvs=>obtain ⟨_,_,_,_,o,_,_,e,_⟩:=x;exact Heap.lt_size e
 | dT kvs=>obtain ⟨_,_,_,_,o,_,_,e,_⟩:=x;exact Heap.lt_size e
 | set S n=>obtain ⟨o,_,_,_,e,_⟩:=x;exact Heap.lt_size e
 | ins C dx fs=>obtain ⟨_,_,_,e,_⟩:=x;exact Heap.lt_size e
 | own y=>obtain ⟨_,e⟩:=x;exact Heap.lt_size e
 | xd fs=>obtain ⟨_,⟨_,_,_,e,_⟩,_⟩:=x;exact Heap.lt_size e
 | rng lo hi=>obtain ⟨_,_,_,e⟩:=x;exact Heap.lt_size e
 | frz ob u=>obtain ⟨e,_⟩:=x;exact Heap.lt_size e
 | tbl ps=>exact Heap.lt_size (show h.get? a=some _ from x)
 | met f y=>exact Heap.lt_size (show h.get? a=some _ from x)
 | ext φ=>obtain ⟨_,⟨_,e⟩,_⟩:=x;exact Heap.lt_size e
theorem Paired.Jd {α β:Type} {F G:α->β->Prop}:∀ {l₁:List α} {l₂:List β},Paired F l₁ l₂->(∀ a b,F a b->G a b)->Paired G l₁ l₂
 | _,_,.nil,_=>.nil
 | _,_,.cons r t,f=>.cons (f _ _ r) (Paired.Jd t f)
theorem b_.stay (x:b_ P w H h a o) (k:∀ b u,(b=a\/H b=some (.own a))->h.get? b=some u->h'.get? b=some u)
  (ho:∀ b,H b=some (.own a)->H' b=some (.own a)) (ht:∀ b xs,H b=some (.tup xs)->H' b=some (.tup xs)):b_ P w H' h' a o:=by
 induction o with
 | lst xs=>obtain ⟨z,its,n,r,e⟩:=x;exact ⟨z,its,n,r,k _ _ (.inl rfl) e⟩
 | tup xs=>obtain ⟨z,its,r,ob,e,c⟩:=x;exact ⟨z,its,r,ob,k _ _ (.inl rfl) e,c⟩
 | dK kvs=>obtain ⟨z,y,vs,r,ob,es,ep,e,c⟩:=x;exact ⟨z,y,vs,r,ob,es,ep,k _ _ (.inl rfl) e,c⟩
 | dT kvs=>
  obtain ⟨z,y,xs,r,ob,es,ep,e,c⟩:=x
  exact ⟨z,y,xs,Paired.Jd r fun p q z=>⟨z.1,ht _ _ z.2.1,z.2.2⟩,ob,es,ep,k _ _ (.inl rfl) e,c⟩
 | set S n=>obtain ⟨ob,es,ep,t,e,c⟩:=x;exact ⟨ob,es,ep,t,k _ _ (.inl rfl) e,c⟩
 | ins C dx fs=>
  obtain ⟨d,z,ne,e,mA,⟨od,es,ep,e2,c⟩,r⟩:=x
  exact ⟨ho _ d,z,ne,k _ _ (.inl rfl) e,mA,⟨od,es,ep,k _ _ (.inr d) e2,c⟩,r⟩
 | own y=>obtain ⟨ob,e⟩:=x;exact ⟨ob,k _ _ (.inl rfl) e⟩
 | xd fs=>obtain ⟨mA,⟨od,es,ep,e,c⟩,r⟩:=x;exact ⟨mA,⟨od,es,ep,k _ _ (.inl rfl) e,c⟩,r⟩
 | rng lo hi=>obtain ⟨t,u,v,e⟩:=x;exact ⟨t,u,v,k _ _ (.inl rfl) e⟩
 | frz ob u ih=>obtain ⟨e,q⟩:=x;exact ⟨k _ _ (.inl rfl) e,ih q⟩
 | tbl ps=>
  have e:h.get? a=some { cls:=.none,data:=.fields ps }:=x
  show h'.get? a=some { cls:=.none,data:=.fields ps }
  exact k a _ (.inl rfl) e
 | met f y=>
  have e:h.get? a=some (PySem.W.methodObj (.ref f) (.ref y)):=x
  show h'.get? a=some (PySem.W.methodObj (.ref f) (.ref y))
  exact k a _ (.inl rfl) e
 | ext φ=>obtain ⟨p,⟨o,e⟩,st⟩:=x;exact ⟨st _ _ p fun o q=>k _ _ (.inl rfl) q,⟨o,k _ _ (.inl rfl) e⟩,st⟩
theorem j_.lt (x:j_ P w H h) (e:H a=some o):a < h.objs.size:=(x a o e).lt
theorem j_.fresh (x:j_ P w H h) (e:h.objs.size<=a):H a=none:=by
 cases q:H a with
 | none=>rfl
 | some u=>exact absurd (Nat.lt_of_lt_of_le (x.lt q) e) (Nat.lt_irrefl _)
theorem j_.kept (x:j_ P w H h) (k:∀ b u,h.get? b=some u->h'.get? b=some u):j_ P w H h':=fun a o e=>
 (x a o e).stay (fun b u _ q=>k b u q) (fun _ q=>q) fun _ _ q=>q
theorem j_.laid (x:j_ P w H h) (k:∀ b u,h.get? b=some u->h'.get? b=some u) (hp:h.objs.size<=a) (new:b_ P w (upd H a o) h' a o):j_ P w (upd H a o) h':=fun b u e=>by
 have hn:=x.fresh hp
 by_cases hb:b=a
 ·subst hb;rw [bJ] at e;cases e;exact new
 ·rw [aK hb] at e
  exact (x b u e).stay (fun c v _ q=>k c v q) (fun c q=>by rw [aK (bf q hn)];exact q) fun c xs q=>by rw [aK (bf q hn)];exact q
end
noncomputable def Rd (H:Hp) (a:Addr) (u:HO):Prop:=H a=some u\/∃ o,H a=some (.frz o u)
theorem Rd.ok {P:Program} {w:World} {H:Hp} {h:Heap} {a:Addr} {u:HO} (r:Rd H a u) (x:j_ P w H h):b_ P w H h a u:=by
 rcases r with r | ⟨o,r⟩
 ·exact x a u r
 ·obtain ⟨_,q⟩:=x a _ r
  exact q
noncomputable def LS:Option HO->Prop
 | some (.lst _)=>True
 | some (.dK _)=>True
 | some (.dT _)=>True
 | some (.set _ _)=>True
 | some (.ins _ _ _)=>True
 | some (.ext _)=>True
 | _=>False
section
variable {P:Program} {w:World} {H:Hp} {h h':Heap} {x e:Addr} {o':HO}
theorem j_.write (ok:j_ P w H h) (mu:LS (H x)) (he:e=x\/H e=some (.own x)) (k:∀ b u,b≠e->h.get? b=some u->h'.get? b=some u) (heo:∃ u,h'.get? e=some u)
  (new:b_ P w (upd H x o') h' x o'):j_ P w (upd H x o') h':=fun b u q=>by
 have nown:∀ c y,H c=some (.own y)->c≠x:=fun c y r z=>by subst z;rw [r] at mu;exact mu
 have ntup:∀ c xs,H c=some (.tup xs)->c≠x:=fun c xs r z=>by subst z;rw [r] at mu;exact mu
 by_cases hb:b=x
 ·subst hb;rw [bJ] at q;cases q;exact new
 ·rw [aK hb] at q
  by_cases hbe:b=e
  ·have q':H b=some (.own x):=by
    rcases he with z | z
    ·exact absurd (hbe.trans z) hb
    ·rw [hbe];exact z
   rw [q] at q';cases q'
   obtain ⟨v,hv⟩:=heo
   exact ⟨v,by rw [hbe];exact hv⟩
  ·refine (ok b u q).stay (fun c v hc r=>k c v ?_ r) (fun c r=>by rw [aK (nown c b r)];exact r) fun c xs r=>by rw [aK (ntup c xs r)];exact r
   rcases hc with rfl | hc
   ·exact hbe
   ·rintro rfl
    rcases he with z | z
    ·exact nown c b hc z
    ·rw [hc] at z;cases z;exact hb rfl
end
structure Un (fs ex:List Addr) (H H':Hp) (h h':Heap):Prop where
 keep:∀ b o,h.get? b=some o->H b=none->b∉fs->b∉ex->h'.get? b=some o
 slot:∀ b o,h.get? b=some o->H b=none->b∈fs->b∉ex->∃ sl,h'.get? b=some { o with slots:=sl }
 free:∀ b o,h.get? b=some o->H b=none->b∉ex->H' b=none
 there:∀ b o,h.get? b=some o->b∉ex->∃ o',h'.get? b=some o'
 tups:∀ b xs,H b=some (.tup xs)->H' b=some (.tup xs)
 frzs:∀ b o u,H b=some (.frz o u)->H' b=some (.frz o u)
 tbls:∀ b ps,H b=some (.tbl ps)->∃ more,H' b=some (.tbl (ps++more))
section
variable {fs fs' ex ex':List Addr} {H H1 H2:Hp} {h h1 h2 h':Heap} {a x e:Addr} {o:HO}
theorem Un.any (u:Un fs ex H H1 h h1) {b:Addr} {ob:Obj} (q:h.get? b=some ob) (n:H b=none) (hx:b∉ex):∃ sl,h1.get? b=some { ob with slots:=sl }:=by
 by_cases hb:b∈fs
 ·exact u.slot b ob q n hb hx
 ·exact ⟨ob.slots,u.keep b ob q n hb hx⟩
theorem Un.kept (k:∀ b u,h.get? b=some u->h'.get? b=some u):Un fs ex H H h h':=
 ⟨fun b ob q _ _ _=>k b ob q,fun b ob q _ _ _=>⟨ob.slots,k b ob q⟩,fun _ _ _ n _=>n,fun b ob q _=>⟨ob,k b ob q⟩,fun _ _ q=>q,fun _ _ _ q=>q,fun _ ps q=>⟨#[],by rw [q];simp⟩⟩
theorem Un.refl:Un fs ex H H h h:=Un.kept fun _ _ q=>q
theorem Un.laid (k:∀ b u,h.get? b=some u->h'.get? b=some u) (hp:h.objs.size<=a) (hn:H a=none):Un fs ex H (upd H a o) h h' where
 keep:=fun b u q _ _ _=>k b u q
 slot:=fun b u q _ _ _=>⟨u.slots,k b u q⟩
 free:=fun b u q n _=>by rw [aK (Nat.ne_of_lt (Nat.lt_of_lt_of_le (Heap.lt_size q) hp))];exact n
 there:=fun b u q _=>⟨u,k b u q⟩
 tups:=fun b xs q=>by rw [aK (bf q hn)];exact q
 frzs:=fun b u xs q=>by rw [aK (bf q hn)];exact q
 tbls:=fun b ps q=>⟨#[],by rw [aK (bf q hn),q];simp⟩
theorem Un.write (mu:LS (H x)) (he:e=x\/H e=some (.own x)) (k:∀ b u,b≠e->h.get? b=some u->h'.get? b=some u) (heo:∃ u,h'.get? e=some u):Un fs ex H (upd H x o) h h':=by
 have hx:∀ b,H b=none->b≠x:=fun b n z=>by subst z;rw [n] at mu;exact mu
 have hb:∀ b,H b=none->b≠e:=fun b n z=>by
  subst z
  rcases he with r | r
  ·exact hx b n r
  ·rw [n] at r;cases r
 have hm:∀ b u,H b=some u->¬ LS (some u)->b≠x:=fun b u q nm z=>by subst z;rw [q] at mu;exact nm mu
 refine ⟨fun b u q n _ _=>k b u (hb b n) q,fun b u q n _ _=>⟨u.slots,k b u (hb b n) q⟩,fun b u q n _=>by rw [aK (hx b n)];exact n,fun b u q _=>?_,
  fun b xs q=>by rw [aK (hm b _ q fun z=>z)];exact q,fun b u xs q=>by rw [aK (hm b _ q fun z=>z)];exact q,fun b ps q=>⟨#[],by rw [aK (hm b _ q fun z=>z),q];simp⟩⟩
 by_cases hbe:b=e
 ·subst hbe;exact heo
 ·exact ⟨u,k b u hbe q⟩
end
noncomputable def Mt (h:Heap) (H:Hp):List Addr:=(List.range h.objs.size).filter fun a=>(H a).isSome
noncomputable def sF (h:Heap) (H:Hp):Heap:=PySem.W.hideAll h (Mt h H)
theorem A1 (h:Heap) (H:Hp):(sF h H).objs.size=h.objs.size:=PySem.W.hideAll_size _ _
theorem CZ {h:Heap} {H:Hp} {b:Addr} {o:Obj} (e:h.get? b=some o) (n:H b=none):(sF h H).get? b=some o:=
 PySem.W.hideAll_get _ e fun hm=>by
  have q:(H b).isSome=true:=(List.mem_filter.mp hm).2
  rw [n] at q;simp at q
theorem GJ {h:Heap} {H:Hp} {b:Addr} {o:Obj} (e:(sF h H).get? b=some o):h.get? b=some o/\H b=none:=by
 have e':h.get? b=some o:=PySem.W.of_hideAll (Mt h H) e
 refine ⟨e',?_⟩
 cases q:H b with
 | none=>rfl
 | some x=>
  have hm:b∈Mt h H:=List.mem_filter.mpr ⟨List.mem_range.mpr (Heap.lt_size e'),by simp [q]⟩
  have z:(sF h H).get? b=none:=PySem.W.hideAll_none (Mt h H) hm
  rw [z] at e;cases e
noncomputable def GB (g h:Heap) (L:Addr):List (Addr×Obj):=(List.range h.objs.size).filterMap fun a=>if a=L\/(g.get? a).isSome=true then none else (h.get? a).map fun o=>(a,o)
noncomputable def rest (g h:Heap) (L d:Addr):List (Addr×Obj):=(GB g h L).filter fun p=>decide (p.1≠d)
structure Mod (K:PySem.W.Frag) (mg:Str->Option Value) (base:Heap):Prop where
 kin:K.In base
 glob:base.Ns mainGlobals mg
 blt:∃ mb,base.Ns builtinsNs mb/\∀ x:Str,x ≠ "__name__" -> mb x=bootBuiltins x
 nolimit:base.NoLimit
structure Cx where
 prog:Program
 w:World
 K:PySem.W.Frag
 mg:Str->Option Value
 base:Heap
 A:Around
 N:List Str
 s₀:Shared
 H₀:Hp
 env:Env
 outer:List Env
 stack:List Env
 ex:List Addr
 fn:Str->Bool
 calm:Bool
 pn:List (Addr×Obj)
 xe:Value->Shared->Prop
noncomputable def frs (l:List Env):List Addr:=l.filterMap (·.frame)
noncomputable abbrev Cx.fs (X:Cx):List Addr:=frs X.outer
noncomputable def L4 (sc:Scope) (x:Str):Prop:=sc.names.lookup x=some .local\/sc.names.lookup x=some .cell\/sc.names.lookup x=some .free
noncomputable def Loc (sc:Scope) (x:Str):Prop:=sc.names.lookup x=some .local\/sc.names.lookup x=some .cell
noncomputable def Look (env:Env) (h:Heap) (m:Str->Option Value) (x:Str) (u:Value):Prop:=
 (env.kindOf x=some .local/\m x=some u)\/((env.kindOf x=some .cell\/env.kindOf x=some .free)/\∃ c,env.cells.lookup x=some c/\h.IsCell c (some u))
structure Cx.Ok (X:Cx):Prop where
 mod:Mod X.K X.mg X.base
 kind:X.env.scope.kind=.function
 glob:X.env.globals=mainGlobals
 blt:X.env.builtins=builtinsNs
 above:X.s₀.heap.objs.size<=X.env.locals
 inj:∀ x y c,X.env.cells.lookup x=some c->X.env.cells.lookup y=some c->x=y
 has:∀ x,(X.env.kindOf x=some .cell\/X.env.kindOf x=some .free)->∃ c,X.env.cells.lookup x=some c
 cab:∀ x c,X.fn x=true->X.env.cells.lookup x=some c->X.s₀.heap.objs.size<=c
 hd:X.calm=true->X.A.handled=none
 frames:X.A.frames=some X.stack
 stk:X.stack=X.outer\/(X.stack=X.env::X.outer/\X.env.frame=some X.env.locals)
 exf:∀ b∈X.ex,b≠X.env.locals/\∀ x c,X.env.cells.lookup x=some c->c≠b
 bs:∀ b o,X.base.get? b=some o->X.s₀.heap.get? b=some o/\X.H₀ b=none
 bsz:X.base.objs.size<=X.s₀.heap.objs.size
 noex:∀ b o,X.base.get? b=some o->b∉X.ex
 exfs:∀ b∈X.ex,b∉X.fs
 i_:X.s₀.heap.FunFrames X.base X.outer
 frf:∀ b∈X.fs,X.H₀ b=none
structure Inv (X:Cx) (pins:List (Addr×Obj)) (σ:List (Option V)) (H:Hp) (s:Shared):Prop where
 ok:X.Ok
 os:s.os=X.s₀.os
 bare:AllBare s.gens
 base:Un X.fs X.ex X.H₀ H X.s₀.heap s.heap
 loc:∃ m,s.heap.Ns X.env.locals m/\∀ (i:Nat) (x:Str) (v:V),X.N[i]?=some x->σ[i]?=some (some v)->L4 X.env.scope x->∃ u,RelV v u/\Look X.env s.heap m x u
 cell:∀ x c,X.env.cells.lookup x=some c->∃ v,s.heap.IsCell c v
 free:H X.env.locals=none
 freeC:∀ x c,X.env.cells.lookup x=some c->H c=none
 pin:∀ p∈X.pn++pins,s.heap.get? p.1=some p.2/\H p.1=none/\p.1≠X.env.locals/\p.1∉X.fs/\∀ v,p.2.data≠.cell v
 hok:j_ X.prog X.w H s.heap
 len:σ.length=X.N.length
section
variable {X:Cx} {pins:List (Addr×Obj)} {σ:List (Option V)} {H H':Hp} {s:Shared} {h':Heap}
theorem Cx.Ok.MP (ok:X.Ok) {b:Addr} {o:Obj} (e:X.base.get? b=some o):b∉X.fs:=fun hb=>by
 have:=(ok.i_.mem hb).1
 rw [e] at this;cases this
theorem Inv.bs (I:Inv X pins σ H s):∀ b o,X.base.get? b=some o->s.heap.get? b=some o/\H b=none:=fun b o e=>
 ⟨I.base.keep b o (I.ok.bs b o e).1 (I.ok.bs b o e).2 (I.ok.MP e) (I.ok.noex b o e),I.base.free b o (I.ok.bs b o e).1 (I.ok.bs b o e).2 (I.ok.noex b o e)⟩
theorem Inv.bk (I:Inv X pins σ H s):∀ b o,X.base.get? b=some o->s.heap.get? b=some o:=fun b o e=>(I.bs b o e).1
theorem Inv.mod (I:Inv X pins σ H s):Mod X.K X.mg X.base:=I.ok.mod
theorem Inv.oX (I:Inv X pins σ H s):X.K.In s.heap:=I.ok.mod.kin.keeps I.bk
theorem Inv.lt (I:Inv X pins σ H s):X.env.locals < s.heap.objs.size:=let ⟨_,hn,_⟩:=I.loc;hn.lt
theorem Inv.sz (I:Inv X pins σ H s):X.s₀.heap.objs.size<=s.heap.objs.size:=Nat.le_trans I.ok.above (Nat.le_of_lt I.lt)
theorem Inv.Nu (I:Inv X pins σ H s) {a:Addr} (h:s.heap.objs.size<=a):a∉X.fs:=fun hb=>by
 obtain ⟨_,o,ho,_⟩:=I.ok.i_.mem hb
 exact absurd (Nat.lt_of_lt_of_le (Heap.lt_size ho) (Nat.le_trans I.sz h)) (Nat.lt_irrefl _)
theorem Inv.E2 (I:Inv X pins σ H s):∀ x c,X.env.cells.lookup x=some c->c≠X.env.locals:=fun x c e z=>by
 obtain ⟨v,o,ho,hd⟩:=I.cell x c e
 obtain ⟨m,⟨o',es,ep,ho',hd',_⟩,_⟩:=I.loc
 rw [z,ho'] at ho;cases ho;rw [hd'] at hd;cases hd
theorem Inv.i_ (I:Inv X pins σ H s):s.heap.FunFrames X.base X.outer:=by
 have all:∀ (l:List Env),(∀ b∈frs l,b∈X.fs)->X.s₀.heap.FunFrames X.base l->s.heap.FunFrames X.base l:=by
  intro l
  induction l with
  | nil=>intro _ _;trivial
  | cons env r ih=>
   intro hs hl
   obtain ⟨hk,⟨L,o,hf,hn,ho,hd⟩,hr⟩:=hl
   have hL:L∈X.fs:=hs L (by unfold frs;rw [List.filterMap_cons,hf];exact List.mem_cons_self)
   obtain ⟨sl,e⟩:=I.base.slot L o ho (I.ok.frf L hL) hL fun z=>I.ok.exfs L z hL
   exact ⟨hk,⟨L,_,hf,hn,e,hd⟩,ih (fun b hb=>hs b (by unfold frs;rw [List.filterMap_cons,hf];exact List.mem_cons_of_mem _ hb)) hr⟩
 exact all X.outer (fun _ hb=>hb) I.ok.i_
theorem Inv.stack (I:Inv X pins σ H s):s.heap.FunFrames X.base X.stack:=by
 rcases I.ok.stk with e | ⟨e,hf⟩
 ·rw [e];exact I.i_
 ·rw [e]
  obtain ⟨m,hn,_⟩:=I.loc
  refine .cons (by rw [I.ok.kind];decide) hf hn ?_ I.i_
  exact Heap.get?_none_of_le (Nat.le_trans I.ok.bsz I.ok.above)
theorem Inv.oY (I:Inv X pins σ H s):∀ b∈frs X.stack,b∈X.env.locals::X.fs:=fun b hb=>by
 rcases I.ok.stk with e | ⟨e,hf⟩
 ·rw [e] at hb;exact List.mem_cons_of_mem _ hb
 ·rw [e] at hb
  unfold frs at hb
  rw [List.filterMap_cons,hf] at hb
  exact hb
theorem Inv.nN (I:Inv X pins σ H s):∀ b∈frs X.stack,H b=none:=fun b hb=>by
 rcases List.mem_cons.mp (I.oY b hb) with e | hb
 ·rw [e];exact I.free
 ·obtain ⟨_,o,ho,_⟩:=I.ok.i_.mem hb
  exact I.base.free b o ho (I.ok.frf b hb) fun z=>I.ok.exfs b z hb
theorem Inv.step {g':Array GenState} {t':Nat} {d':Drawn} {ch:List Addr} (I:Inv X pins σ H s)
  (hch:∀ b∈ch,(b∈X.ex\/X.s₀.heap.objs.size<=b)/\b≠X.env.locals/\(∀ x c,X.env.cells.lookup x=some c->c≠b)/\∀ p∈X.pn++pins,p.1≠b)
  (keep:∀ b o,b≠X.env.locals->b∉X.fs->b∉ch->s.heap.get? b=some o->H b=none->h'.get? b=some o)
  (slot:∀ b o,b≠X.env.locals->b∈X.fs->b∉ch->s.heap.get? b=some o->H b=none->∃ sl,h'.get? b=some { o with slots:=sl }) (free:∀ b o,b∉ch->s.heap.get? b=some o->H b=none->H' b=none)
  (there:∀ b o,b∉ch->s.heap.get? b=some o->∃ o',h'.get? b=some o')
  (tups:∀ b xs,H b=some (.tup xs)->H' b=some (.tup xs)) (frzs:∀ b o u,H b=some (.frz o u)->H' b=some (.frz o u)) (tbls:∀ b ps,H b=some (.tbl ps)->∃ more,H' b=some (.tbl (ps++more)))
  (ns:∀ m,s.heap.Ns X.env.locals m->h'.Ns X.env.locals m) (hok:j_ X.prog X.w H' h') (hg:AllBare g') :
  Inv X pins σ H' { s with heap:=h',gens:=g',drawn:=d',toks:=t' }:=by
 have neL:∀ b o,X.s₀.heap.get? b=some o->b≠X.env.locals:=fun b o e=>Nat.ne_of_lt (Nat.lt_of_lt_of_le (Heap.lt_size e) I.ok.above)
 have neC:∀ b o,X.s₀.heap.get? b=some o->b∉X.ex->b∉ch:=fun b o e hx hb=>by
  rcases (hch b hb).1 with z | z
  ·exact hx z
  ·exact absurd (Nat.lt_of_lt_of_le (Heap.lt_size e) z) (Nat.lt_irrefl _)
 have cellK:∀ x c,X.env.cells.lookup x=some c->∀ v,s.heap.IsCell c v->h'.IsCell c v:=fun x c e v ⟨o,ho,hd⟩=>by
  have nch:c∉ch:=fun z=>(hch c z).2.2.1 x c e rfl
  by_cases hc:c∈X.fs
  ·obtain ⟨sl,q⟩:=slot c o (I.E2 x c e) hc nch ho (I.freeC x c e)
   exact ⟨_,q,hd⟩
  ·exact ⟨o,keep c o (I.E2 x c e) hc nch ho (I.freeC x c e),hd⟩
 refine ⟨I.ok,I.os,hg,⟨fun b o e n hb hx=>?_,fun b o e n hb hx=>?_,fun b o e n hx=>?_,fun b o e hx=>?_,fun b xs e=>tups b xs (I.base.tups b xs e),fun b o xs e=>frzs b o xs (I.base.frzs b o xs e),fun b ps e=>?_⟩,?_,fun x c e=>?_,?_,fun x c e=>?_,fun p hp=>?_,hok,I.len⟩
 ·exact keep b o (neL b o e) hb (neC b o e hx) (I.base.keep b o e n hb hx) (I.base.free b o e n hx)
 ·obtain ⟨sl,e1⟩:=I.base.slot b o e n hb hx
  obtain ⟨sl',e2⟩:=slot b _ (neL b o e) hb (neC b o e hx) e1 (I.base.free b o e n hx)
  exact ⟨sl',e2⟩
 ·obtain ⟨o',e1⟩:=I.base.there b o e hx
  exact free b o' (neC b o e hx) e1 (I.base.free b o e n hx)
 ·obtain ⟨o',e1⟩:=I.base.there b o e hx
  exact there b o' (neC b o e hx) e1
 ·obtain ⟨m1,e1⟩:=I.base.tbls b ps e
  obtain ⟨m2,e2⟩:=tbls b _ e1
  exact ⟨m1++m2,by rw [e2,Array.append_assoc]⟩
 ·obtain ⟨m,hn,hl⟩:=I.loc
  refine ⟨m,ns m hn,fun i x v e1 e2 e3=>?_⟩
  obtain ⟨u,r,l⟩:=hl i x v e1 e2 e3
  refine ⟨u,r,?_⟩
  rcases l with l | ⟨k,c,e,z⟩
  ·exact .inl l
  ·exact .inr ⟨k,c,e,cellK x c e _ z⟩
 ·obtain ⟨v,z⟩:=I.cell x c e
  exact ⟨v,cellK x c e v z⟩
 ·obtain ⟨m,⟨o,_,_,ho,_⟩,_⟩:=I.loc
  exact free _ o (fun z=>(hch _ z).2.1 rfl) ho I.free
 ·obtain ⟨v,o,ho,hd⟩:=I.cell x c e
  exact free c o (fun z=>(hch c z).2.2.1 x c e rfl) ho (I.freeC x c e)
 ·obtain ⟨e,n,ne,nf,d⟩:=I.pin p hp
  have nch:p.1∉ch:=fun z=>(hch p.1 z).2.2.2 p hp rfl
  exact ⟨keep p.1 p.2 ne nf nch e n,free p.1 p.2 nch e n,ne,nf,d⟩
theorem Inv.un {t':Nat} (I:Inv X pins σ H s) (u:Un X.fs [] H H' s.heap h') (hok:j_ X.prog X.w H' h'):Inv X pins σ H' { s with heap:=h',toks:=t' }:=by
 obtain ⟨m,⟨o,es,ep,ho,r⟩,_⟩:=id I.loc
 obtain ⟨sl,hL⟩:=u.any ho I.free (by simp)
 exact I.step (g':=s.gens) (d':=s.drawn) (ch:=[]) (fun _ z=>nomatch z) (fun b o _ hb _ e n=>u.keep b o e n hb (by simp)) (fun b o _ hb _ e n=>u.slot b o e n hb (by simp)) (fun b o _ e n=>u.free b o e n (by simp)) (fun b o _ e=>u.there b o e (by simp)) u.tups u.frzs u.tbls (fun m' hm=>by
  obtain ⟨o',es',ep',ho',r'⟩:=hm
  rw [ho] at ho';cases ho'
  exact ⟨_,es',ep',hL,r'⟩) hok I.bare
theorem Inv.call {g':Array GenState} {t':Nat} {d':Drawn} {ch:List Addr} (I:Inv X pins σ H s) (u:Un (frs X.stack) ch H H' s.heap h') (hok:j_ X.prog X.w H' h') (hg:AllBare g')
  (hch:∀ b∈ch,(b∈X.ex\/X.s₀.heap.objs.size<=b)/\b≠X.env.locals/\(∀ x c,X.env.cells.lookup x=some c->c≠b)/\∀ p∈X.pn++pins,p.1≠b) :
  Inv X pins σ H' { s with heap:=h',gens:=g',drawn:=d',toks:=t' }:=by
 obtain ⟨m,⟨o,es,ep,ho,r⟩,_⟩:=id I.loc
 obtain ⟨sl,hL⟩:=u.any ho I.free fun z=>(hch _ z).2.1 rfl
 exact I.step (ch:=ch) hch (fun b o hL hb hc e n=>u.keep b o e n (fun z=>(List.mem_cons.mp (I.oY b z)).elim hL hb) hc) (fun b o _ _ hc e n=>u.any e n hc) (fun b o hc e n=>u.free b o e n hc) (fun b o hc e=>u.there b o e hc) u.tups u.frzs u.tbls (fun m' hm=>by
  obtain ⟨o',es',ep',ho',r'⟩:=hm
  rw [ho] at ho';cases ho'
  exact ⟨_,es',ep',hL,r'⟩) hok hg
theorem Inv.turned {t':Nat} {it:Addr} (I:Inv X pins σ H s) (k:∀ b o,b≠it->s.heap.get? b=some o->h'.get? b=some o) (hn:H it=none) (hL:it≠X.env.locals)
  (h1:it∈X.ex\/X.s₀.heap.objs.size<=it) (h2:∀ x c,X.env.cells.lookup x=some c->c≠it) (h3:∀ p∈X.pn++pins,p.1≠it):Inv X pins σ H { s with heap:=h',toks:=t' }:=by
 have nit:∀ b u,H b=some u->b≠it:=fun b u e z=>by rw [z,hn] at e;cases e
 refine I.step (g':=s.gens) (d':=s.drawn) (ch:=[it]) (fun b hb=>?_) (fun b o _ _ hc e _=>k b o (fun z=>hc (by simp [z])) e) (fun b o _ _ hc e _=>⟨o.slots,k b o (fun z=>hc (by simp [z])) e⟩) (fun _ _ _ _ n=>n)
  (fun b o hc e=>⟨o,k b o (fun z=>hc (by simp [z])) e⟩) (fun _ _ e=>e) (fun _ _ _ e=>e) (fun b ps e=>⟨#[],by rw [e];simp⟩) (fun m hm=>?_) (fun b u e=>?_) I.bare
 ·have e:b=it:=by simpa using hb
  subst e
  exact ⟨h1,hL,h2,h3⟩
 ·obtain ⟨o,es,ep,ho,r⟩:=hm
  exact ⟨o,es,ep,k _ o (Ne.symm hL) ho,r⟩
 ·refine (I.hok b u e).stay (fun c v hc q=>k c v ?_ q) (fun _ q=>q) fun _ _ q=>q
  rcases hc with z | z
  ·rw [z];exact nit b u e
  ·exact nit c _ z
theorem Inv.tok (I:Inv X pins σ H s) (t:Nat):Inv X pins σ H { s with toks:=t }:=I.un (h':=s.heap) (t':=t) Un.refl I.hok
theorem Inv.kept {t':Nat} (I:Inv X pins σ H s) (k:∀ b u,s.heap.get? b=some u->h'.get? b=some u):Inv X pins σ H { s with heap:=h',toks:=t' }:=I.un (Un.kept k) (I.hok.kept k)
theorem Inv.laid {a:Addr} {o:HO} {t':Nat} (I:Inv X pins σ H s) (k:∀ b u,s.heap.get? b=some u->h'.get? b=some u) (hp:s.heap.objs.size<=a) (new:b_ X.prog X.w (upd H a o) h' a o) :
  Inv X pins σ (upd H a o) { s with heap:=h',toks:=t' }:=I.un (Un.laid k hp (I.hok.fresh hp)) (I.hok.laid k hp new)
theorem Inv.write {x e:Addr} {o:HO} {t':Nat} (I:Inv X pins σ H s) (mu:LS (H x)) (he:e=x\/H e=some (.own x)) (k:∀ b u,b≠e->s.heap.get? b=some u->h'.get? b=some u) (heo:∃ u,h'.get? e=some u)
  (new:b_ X.prog X.w (upd H x o) h' x o):Inv X pins σ (upd H x o) { s with heap:=h',toks:=t' }:=I.un (Un.write mu he k heo) (I.hok.write mu he k heo new)
theorem Inv.y_ {pins':List (Addr×Obj)} (I:Inv X pins σ H s) (h:∀ p∈pins',s.heap.get? p.1=some p.2/\H p.1=none/\p.1≠X.env.locals/\p.1∉X.fs/\∀ v,p.2.data≠.cell v):Inv X pins' σ H s:=
 ⟨I.ok,I.os,I.bare,I.base,I.loc,I.cell,I.free,I.freeC,fun p hp=>(List.mem_append.mp hp).elim (fun z=>I.pin p (List.mem_append_left _ z)) (h p),I.hok,I.len⟩
theorem oB {N:List Str} (hN:N.Nodup) {i j:Nat} {x:Str} (a:N[i]?=some x) (b:N[j]?=some x):i=j:=by
 obtain ⟨h1,e1⟩:=List.getElem?_eq_some_iff.mp a
 obtain ⟨h2,e2⟩:=List.getElem?_eq_some_iff.mp b
 exact (List.getElem_inj hN).mp (e1.trans e2.symm)
theorem AO {M:Model} {A:Around} {E:Value->Shared->Prop} {i:Nat} {x:Str} {v:V} {u:Value} {Q:Unit->Shared->Prop} (I:Inv X pins σ H s) (hN:X.N.Nodup) (hi:X.N[i]?=some x) (hx:Loc X.env.scope x) (r:RelV v u)
  (h:∀ s',Inv X pins (σ.set i (some v)) H s'->(∃ a,Heap.SameBut a s.heap s'.heap/\(a=X.env.locals\/X.env.cells.lookup x=some a))->Q () s') (hf:X.fn x=true\/X.env.scope.names.lookup x=some .local:=by first | exact .inl rfl | exact .inr rfl | assumption):wpAny M A (storeName X.env x u) Q E s:=by
 obtain ⟨m,hn,hl⟩:=id I.loc
 have hcls:(X.env.scope.kind == .class || (X.env.scope.kind == .module && X.env.locals != X.env.globals))=false:=by rw [I.ok.kind];rfl
 have hiσ:i < σ.length:=by rw [I.len];exact (List.getElem?_eq_some_iff.mp hi).1
 have E2:=I.E2
 have tracked:∀ {a:Addr} {h':Heap},(∃ o,s.heap.get? a=some o/\H a=none)->Heap.SameBut a s.heap h'->j_ X.prog X.w H h':=fun {a h'} ha hs b ob e=>by
  obtain ⟨_,_,hfree⟩:=ha
  refine (I.hok b ob e).stay (fun c w' hc q=>(hs.2 c ?_).trans q) (fun _ q=>q) fun _ _ q=>q
  rintro rfl
  rcases hc with rfl | hc
  ·rw [hfree] at e;cases e
  ·rw [hfree] at hc;cases hc
 rcases hx with hk | hk
 ·refine wpAny_storeName_local hk hn (fun h' hn' hs=>?_) hcls
  obtain ⟨oL,_,_,hoL,_⟩:=id hn
  refine h _ ⟨I.ok,I.os,I.bare,⟨fun b o e n hb hx=>?_,fun b o e n hb hx=>?_,I.base.free,fun b o e hx=>?_,I.base.tups,I.base.frzs,I.base.tbls⟩,⟨_,hn',fun j y v' e1 e2 e3=>?_⟩,fun y c e=>?_,I.free,I.freeC,fun p hp=>?_,tracked ⟨oL,hoL,I.free⟩ hs,by simpa using I.len⟩ ⟨_,hs,.inl rfl⟩
  ·exact (hs.2 b (Nat.ne_of_lt (Nat.lt_of_lt_of_le (Heap.lt_size e) I.ok.above))).trans (I.base.keep b o e n hb hx)
  ·obtain ⟨sl,e1⟩:=I.base.slot b o e n hb hx
   exact ⟨sl,(hs.2 b (Nat.ne_of_lt (Nat.lt_of_lt_of_le (Heap.lt_size e) I.ok.above))).trans e1⟩
  ·obtain ⟨o',e1⟩:=I.base.there b o e hx
   exact ⟨o',(hs.2 b (Nat.ne_of_lt (Nat.lt_of_lt_of_le (Heap.lt_size e) I.ok.above))).trans e1⟩
  ·by_cases hj:j=i
   ·subst hj
    rw [hi] at e1;cases e1
    rw [List.getElem?_set_self hiσ] at e2
    cases e2
    exact ⟨u,r,.inl ⟨hk,by simp⟩⟩
   ·rw [List.getElem?_set_ne (Ne.symm hj)] at e2
    obtain ⟨u',r',q⟩:=hl j y v' e1 e2 e3
    refine ⟨u',r',?_⟩
    rcases q with ⟨k,e⟩ | ⟨k,c,e,z⟩
    ·refine .inl ⟨k,?_⟩
     have:y≠x:=fun e=>hj (oB hN e1 (e ▸ hi))
     simp [this,e]
    ·exact .inr ⟨k,c,e,z.sameBut hs (E2 y c e)⟩
  ·obtain ⟨w',z⟩:=I.cell y c e
   exact ⟨w',z.sameBut hs (E2 y c e)⟩
  ·obtain ⟨e,n,ne,nf,d⟩:=I.pin p hp
   exact ⟨(hs.2 p.1 ne).trans e,n,ne,nf,d⟩
 ·have hfn:X.fn x=true:=by
   rcases hf with z | z
   ·exact z
   ·rw [z] at hk;cases hk
  obtain ⟨c,hc⟩:=I.ok.has x (.inl hk)
  obtain ⟨w',z⟩:=I.cell x c hc
  refine wpAny_storeName_cell I.ok.kind hk hc z (fun h' hc' hs=>?_)
  obtain ⟨oc,hoc,hocd⟩:=id z
  refine h { s with heap:=h' } ⟨I.ok,I.os,I.bare,⟨fun b o e n hb hx=>?_,fun b o e n hb hx=>?_,I.base.free,fun b o e hx=>?_,I.base.tups,I.base.frzs,I.base.tbls⟩,⟨m,hn.sameBut hs (Ne.symm (E2 x c hc)),fun j y v' e1 e2 e3=>?_⟩,fun y c' e=>?_,I.free,I.freeC,fun p hp=>?_,tracked ⟨oc,hoc,I.freeC x c hc⟩ hs,by simpa using I.len⟩ ⟨c,hs,.inr hc⟩
  ·exact (hs.2 b (Nat.ne_of_lt (Nat.lt_of_lt_of_le (Heap.lt_size e) (I.ok.cab x c hfn hc)))).trans (I.base.keep b o e n hb hx)
  ·obtain ⟨sl,e1⟩:=I.base.slot b o e n hb hx
   exact ⟨sl,(hs.2 b (Nat.ne_of_lt (Nat.lt_of_lt_of_le (Heap.lt_size e) (I.ok.cab x c hfn hc)))).trans e1⟩
  ·obtain ⟨o',e1⟩:=I.base.there b o e hx
   exact ⟨o',(hs.2 b (Nat.ne_of_lt (Nat.lt_of_lt_of_le (Heap.lt_size e) (I.ok.cab x c hfn hc)))).trans e1⟩
  ·by_cases hj:j=i
   ·subst hj
    rw [hi] at e1;cases e1
    rw [List.getElem?_set_self hiσ] at e2
    cases e2
    exact ⟨u,r,.inr ⟨.inl hk,c,hc,hc'⟩⟩
   ·rw [List.getElem?_set_ne (Ne.symm hj)] at e2
    obtain ⟨u',r',q⟩:=hl j y v' e1 e2 e3
    refine ⟨u',r',?_⟩
    rcases q with q | ⟨k,c',e,z'⟩
    ·exact .inl q
    ·refine .inr ⟨k,c',e,z'.sameBut hs ?_⟩
     rintro rfl
     exact hj (oB hN e1 (I.ok.inj _ _ _ e hc ▸ hi))
  ·by_cases hcc:c'=c
   ·subst hcc;exact ⟨_,hc'⟩
   ·obtain ⟨w2,z2⟩:=I.cell y c' e
    exact ⟨w2,z2.sameBut hs hcc⟩
  ·obtain ⟨e,n,ne,nf,d⟩:=I.pin p hp
   refine ⟨(hs.2 p.1 ?_).trans e,n,ne,nf,d⟩
   intro q
   rw [q,hoc] at e
   have q':oc=p.2:=Option.some.inj e
   exact d w' (by rw [<- q'];exact hocd)
theorem lV {M:Model} {A:Around} {E:Value->Shared->Prop} {i:Nat} {x:Str} {v:V} {u:Value} {Q:Unit->Shared->Prop} (I:Inv X pins σ H s) (hN:X.N.Nodup) (hi:X.N[i]?=some x) (hx:Loc X.env.scope x) (r:RelV v u)
  (h:∀ s',Inv X pins (σ.set i (some v)) H s'->Q () s') (hf:X.fn x=true\/X.env.scope.names.lookup x=some .local:=by first | exact .inl rfl | exact .inr rfl | assumption):wpAny M A (storeName X.env x u) Q E s:=
 AO I hN hi hx r (fun s' I' _=>h s' I') hf
theorem Inv.Hx {s':Shared} {ch:List Addr} (I:Inv X pins σ H s) (ho:s'.os=s.os) (u:Un (frs X.stack) ch H H' s.heap s'.heap) (hok:j_ X.prog X.w H' s'.heap) (hg:AllBare s'.gens)
  (hch:∀ b∈ch,(b∈X.ex\/X.s₀.heap.objs.size<=b)/\b≠X.env.locals/\(∀ x c,X.env.cells.lookup x=some c->c≠b)/\∀ p∈X.pn++pins,p.1≠b):Inv X pins σ H' s':=by
 obtain ⟨h',g',d',t',o'⟩:=s'
 have e:o'=s.os:=ho
 subst e
 exact I.call (g':=g') (t':=t') (d':=d') u hok hg hch
end
noncomputable abbrev XK:=Value->Option Addr->Hp->Prop
noncomputable abbrev St:=List (Option V)
noncomputable abbrev VK:=V->Hp->Prop
noncomputable abbrev TE:=St->Hp->VK->Prop
noncomputable abbrev TT:=St->Hp->(Bool->Hp->Prop)->Prop
noncomputable abbrev TA:=St->Hp->(List V->Hp->Prop)->Prop
structure Ends where
 nx:St->Hp->Prop
 rt:VK
 bk:St->Hp->Prop:=fun _ _=>False
 ct:St->Hp->Prop:=fun _ _=>False
noncomputable abbrev TS:=Ends->St->Hp->Prop
noncomputable def EP (X:Cx) (pins:List (Addr×Obj)) (σ:St) (Q:VK) (u:Value) (s':Shared):Prop:=∃ v H',Inv X pins σ H' s'/\RelV v u/\Q v H'
noncomputable def TP (X:Cx) (pins:List (Addr×Obj)) (σ:St) (Q:Bool->Hp->Prop) (b:Bool) (s':Shared):Prop:=∃ H',Inv X pins σ H' s'/\Q b H'
noncomputable def AP (X:Cx) (pins:List (Addr×Obj)) (σ:St) (Q:List V->Hp->Prop) (us:List Value) (s':Shared):Prop:=∃ vs H',Inv X pins σ H' s'/\Vals vs us/\Q vs H'
noncomputable def SP (X:Cx) (pins:List (Addr×Obj)) (D:Ends) (f:Flow) (s':Shared):Prop:=
 match f with
 | .next=>∃ σ' H',Inv X pins σ' H' s'/\D.nx σ' H'
 | .brk=>∃ σ' H',Inv X pins σ' H' s'/\D.bk σ' H'
 | .cont=>∃ σ' H',Inv X pins σ' H' s'/\D.ct σ' H'
 | .ret u=>∃ v σ' H',Inv X pins σ' H' s'/\RelV v u/\D.rt v H'
noncomputable def PE (X:Cx) (e:Expr) (t:TE):Prop:=
 ∀ (pins:List (Addr×Obj)) (s:Shared) (σ:St) (H:Hp) (Q:VK),Inv X pins σ H s->t σ H Q->wpAny (model X.prog X.w) X.A (eval e X.env) (EP X pins σ Q) X.xe s
noncomputable def PT (X:Cx) (e:Expr) (t:TT):Prop:=
 ∀ (pins:List (Addr×Obj)) (s:Shared) (σ:St) (H:Hp) (Q:Bool->Hp->Prop),Inv X pins σ H s->t σ H Q->wpAny (model X.prog X.w) X.A (isTrue e X.env (eval e X.env)) (TP X pins σ Q) X.xe s
noncomputable def PW (X:Cx) (e:Expr) (t:TT):Prop:=
 ∀ (whole:Sem Value) (pins:List (Addr×Obj)) (s:Shared) (σ:St) (H:Hp) (Q:Bool->Hp->Prop),Inv X pins σ H s->t σ H Q->wpAny (model X.prog X.w) X.A (isTrue e X.env whole) (TP X pins σ Q) X.xe s
noncomputable def PA (X:Cx) (es:List Expr) (t:TA):Prop:=
 ∀ (pos:Pos) (pins:List (Addr×Obj)) (s:Shared) (σ:St) (H:Hp) (Q:List V->Hp->Prop),Inv X pins σ H s->t σ H Q->wpAny (model X.prog X.w) X.A (spliced (backTo pos (starEach es X.env))) (AP X pins σ Q) X.xe s
noncomputable def PS (X:Cx) (st:Stmt) (t:TS):Prop:=
 ∀ (pins:List (Addr×Obj)) (s:Shared) (σ:St) (H:Hp) (D:Ends),Inv X pins σ H s->t D σ H->wpAny (model X.prog X.w) X.A (exec st X.env) (SP X pins D) X.xe s
noncomputable def qh (X:Cx) (st:List Stmt) (t:TS):Prop:=
 ∀ (pins:List (Addr×Obj)) (s:Shared) (σ:St) (H:Hp) (D:Ends),Inv X pins σ H s->t D σ H->wpAny (model X.prog X.w) X.A (execs st X.env) (SP X pins D) X.xe s
theorem eS {α:Type} {t:Sem α} {Q Q':α->Shared->Prop} {M:Model} {A:Around} {E:Value->Shared->Prop} {s:Shared} (h:wpAny M A t Q E s) (hQ:∀ a s,Q a s->Q' a s):wpAny M A t Q' E s:=wpAny_mono h hQ fun _ _ x=>x
section
variable {X:Cx}
noncomputable def KP (i:Nat):TE:=fun σ H Q=>∃ v,σ[i]?=some (some v)/\Q v H
noncomputable def tC (v:V):TE:=fun _ H Q=>Q v H
theorem DN {i:Nat} {x:Str} {pos:Pos} (hN:X.N[i]?=some x) (hv:L4 X.env.scope x) (hd:(x == ("__debug__" : Str))=false:=by decide) (hcd:(x == ("__classdict__" : Str))=false:=by decide):PE X (.Name x pos) (KP i):=by
 intro pins s σ H Q I h
 obtain ⟨v,e,h⟩:=h
 obtain ⟨m,hn,hl⟩:=I.loc
 obtain ⟨u,r,l⟩:=hl i x v hN e hv
 have fin:EP X pins σ Q u s:=⟨v,H,I,r,h⟩
 rcases l with ⟨hk,hm⟩ | ⟨hk,c,hc,hcell⟩
 ·exact wpAny_Name (wpAny_loadName_local I.ok.kind hk hn hm fin) hd
 ·rcases hk with hk | hk
  ·exact wpAny_Name (wpAny_loadName_cell I.ok.kind hk hc hcell fin) hd
  ·exact wpAny_Name (wpAny_loadName_free I.ok.kind hk hc hcell fin hcd) hd
theorem J7 {i j pos}:PE X (.Constant (.int i) j pos) (tC (.int i)):=fun _ _ _ H _ I h=>wpAny_Constant_int ⟨.int i,H,I.tok _,⟨_,rfl⟩,h⟩
theorem KY {b j pos}:PE X (.Constant (.bool b) j pos) (tC (.bl b)):=fun _ _ _ H _ I h=>Constant_bool ⟨.bl b,H,I,rfl,h⟩
theorem Jg {x j pos}:PE X (.Constant (.str x) j pos) (tC (.str x)):=fun _ _ _ H _ I h=>Calls.Constant_str ⟨.str x,H,I.tok _,⟨_,rfl⟩,h⟩
noncomputable def Gl (X:Cx) (x:Str):Prop:=X.env.kindOf x=some .globalImplicit
theorem lR {E:Value->Shared->Prop} {pins:List (Addr×Obj)} {s:Shared} {σ:St} {H:Hp} {x:Str} {u:Value} {pos:Pos} {Q:Value->Shared->Prop} (I:Inv X pins σ H s) (hg:Gl X x) (hm:X.mg x=some u) (h:Q u s)
  (hd:(x == ("__debug__" : Str))=false:=by decide):wpAny (model X.prog X.w) X.A (eval (.Name x pos) X.env) Q E s:=
 Calls.Name_function_global I.ok.kind hg (Calls.loadGlobal_global (by rw [I.ok.glob];exact I.mod.glob.keeps I.bk) hm h) hd
theorem sE {E:Value->Shared->Prop} {pins:List (Addr×Obj)} {s:Shared} {σ:St} {H:Hp} {x:Str} {u:Value} {pos:Pos} {Q:Value->Shared->Prop} (I:Inv X pins σ H s) (hg:Gl X x) (hm:X.mg x=none) (hv:bootBuiltins x=some u) (h:Q u s)
  (hn:x ≠ "__name__" := by decide) (hd:(x == ("__debug__" : Str))=false:=by decide):wpAny (model X.prog X.w) X.A (eval (.Name x pos) X.env) Q E s:=by
 obtain ⟨mb,h1,h2⟩:=I.mod.blt
 exact Calls.Name_function_global I.ok.kind hg (Calls.loadGlobal_builtin (by rw [I.ok.glob];exact I.mod.glob.keeps I.bk) hm (by rw [I.ok.blt];exact h1.keeps I.bk) ((h2 x hn).trans hv) h) hd
theorem Gf {x:Str} {v:V} {u:Value} {pos:Pos} (hg:Gl X x) (hm:X.mg x=some u) (r:RelV v u) (hd:(x == ("__debug__" : Str))=false:=by decide):PE X (.Name x pos) (tC v):=
 fun _ _ _ H _ I h=>lR I hg hm ⟨v,H,I,r,h⟩ hd
theorem x_ {x:Str} {v:V} {u:Value} {pos:Pos} (hg:Gl X x) (hm:X.mg x=none) (hv:bootBuiltins x=some u) (r:RelV v u) (hn:x ≠ "__name__" := by decide) (hd:(x == ("__debug__" : Str))=false:=by decide):PE X (.Name x pos) (tC v):=
 fun _ _ _ H _ I h=>sE I hg hm hv ⟨v,H,I,r,h⟩ hn hd
variable {a b:Expr} {ta tb:TE} {pos:Pos}
variable {tA tB':TT} {rest:List Expr}
noncomputable def LM (t u:TT):TT:=fun σ H Q=>t σ H fun c H1=>if c=true then u σ H1 Q else Q false H1
noncomputable def NL (t u:TT):TT:=fun σ H Q=>t σ H fun c H1=>if c=true then Q true H1 else u σ H1 Q
noncomputable def Na (t:TT):TT:=fun σ H Q=>t σ H fun c H1=>Q (!c) H1
theorem FF (ha:PT X a tA):PW X (.BoolOp .And [a] pos) tA:=by
 intro wh pins s σ H Q I h
 refine isTrue_and (eS (ha pins s σ H Q I h) fun c s1 e=>?_)
 cases c with
 | true=>exact isTrue_and_nil e
 | false=>exact e
theorem JK (ha:PT X a tA):PW X (.BoolOp .Or [a] pos) tA:=by
 intro wh pins s σ H Q I h
 refine isTrue_or (eS (ha pins s σ H Q I h) fun c s1 e=>?_)
 cases c with
 | false=>exact isTrue_or_nil e
 | true=>exact e
theorem JJ (ha:PT X a tA) (hb:PW X (.BoolOp .And (b::rest) pos) tB'):PW X (.BoolOp .And (a::b::rest) pos) (LM tA tB'):=by
 intro wh pins s σ H Q I h
 refine isTrue_and (eS (ha pins s σ H _ I h) fun c s1 ⟨H1,I1,q1⟩=>?_)
 cases c with
 | true=>exact hb wh pins s1 σ H1 Q I1 q1
 | false=>exact ⟨H1,I1,q1⟩
theorem La (ha:PT X a tA) (hb:PW X (.BoolOp .Or (b::rest) pos) tB'):PW X (.BoolOp .Or (a::b::rest) pos) (NL tA tB'):=by
 intro wh pins s σ H Q I h
 refine isTrue_or (eS (ha pins s σ H _ I h) fun c s1 ⟨H1,I1,q1⟩=>?_)
 cases c with
 | true=>exact ⟨H1,I1,q1⟩
 | false=>exact hb wh pins s1 σ H1 Q I1 q1
theorem JV (ha:PT X a tA):PT X (.UnaryOp .Not a pos) (Na tA):=by
 intro pins s σ H Q I h
 exact isTrue_not (ha pins s σ H (fun c H1=>Q (!c) H1) I h)
noncomputable def L5 (ta tb:TE):TE:=fun σ H Q=>ta σ H fun x H1=>∃ c,x=.bl c/\if c=true then tb σ H1 Q else Q (.bl false) H1
theorem Jk {op} {t:TE} (h:PE X a t):PE X (.BoolOp op [a] pos) t:=fun pins s σ H Q I hw=>BoolOp_one (h pins s σ H Q I hw)
theorem JZ (ha:PE X a ta) (hb:PE X (.BoolOp .And (b::rest) pos) tb):PE X (.BoolOp .And (a::b::rest) pos) (L5 ta tb):=by
 intro pins s σ H Q I h
 refine BoolOp_and (eS (ha pins s σ H _ I h) fun v s1 ⟨x,H1,I1,r1,q1⟩=>?_)
 obtain ⟨c,rfl,q1⟩:=q1
 cases r1
 refine wpAny_truthy_bool ?_
 cases c with
 | true=>exact hb pins s1 σ H1 Q I1 q1
 | false=>exact ⟨.bl false,H1,I1,rfl,q1⟩
end
noncomputable def ir (K:PySem.W.Frag) (H:Hp) (a:Addr) (xs:List V):Prop:=
 Rd H a (.lst xs) \/
  ∃ (o:Obj) (its:Array Value) (n:Nat),K.lookup a=some o/\o.cls=.type "list" /\ o.dict=none/\o.data=.seq its n/\its.size<=sizeLine/\Vals xs its.toList
noncomputable def fC (K:PySem.W.Frag) (H:Hp) (a:Addr) (xs:List V):Prop:=
 Rd H a (.tup xs) \/
  ∃ (o:Obj) (its:Array Value) (n:Nat),K.lookup a=some o/\o.cls=.type "tuple" /\ o.dict=none/\o.data=.seq its n/\its.size<=sizeLine/\Vals xs its.toList
noncomputable def MT:Value->Option V
 | .none=>some .non
 | .bool b=>some (.bl b)
 | .int i _=>some (.int i)
 | .str x _=>some (.str x)
 | .bytes b _=>some (.byt b)
 | .float b _=>some (.flt b)
 | .ref a=>some (.ref a)
 | .type n=>some (.ty n)
 | _=>none
theorem RelV.abs {x:V} {u:Value} (r:RelV x u):MT u=some x:=by
 cases x with
 | non=>cases r;rfl
 | bl _=>cases r;rfl
 | int _=>obtain ⟨t,rfl⟩:=r;rfl
 | str _=>obtain ⟨t,rfl⟩:=r;rfl
 | byt _=>obtain ⟨t,rfl⟩:=r;rfl
 | flt _=>obtain ⟨t,rfl⟩:=r;rfl
 | ref _=>cases r;rfl
 | ty _=>cases r;rfl
theorem RelV.inj {x y:V} {u:Value} (r:RelV x u) (q:RelV y u):x=y:=Option.some.inj (r.abs.symm.trans q.abs)
theorem Vals.inj:∀ {xs ys:List V} {us:List Value},Vals xs us->Vals ys us->xs=ys
 | _,_,_,.nil,.nil=>rfl
 | _,_,_,.cons r t,.cons r' t'=>by rw [r.inj r',Vals.inj t t']
section
variable {X:Cx} {pins:List (Addr×Obj)} {σ:St} {H:Hp} {s:Shared} {a:Addr} {xs ys:List V}
theorem ir.of {K:PySem.W.Frag} (h:H a=some (.lst xs)):ir K H a xs:=.inl (.inl h)
theorem fC.of {K:PySem.W.Frag} (h:H a=some (.tup xs)):fC K H a xs:=.inl (.inl h)
theorem Inv.list (I:Inv X pins σ H s) (h:ir X.K H a xs):∃ its:List Value,Vals xs its/\PlainL s.heap a its.toArray/\xs.length<=sizeLine:=by
 rcases h with h | ⟨o,its,n,hk,hc,hd,hs,hz,r⟩
 ·obtain ⟨z,its,n,r,e⟩:=h.ok I.hok
  exact ⟨its,r,⟨_,n,e,rfl,rfl,rfl⟩,z⟩
 ·refine ⟨its.toList,r,⟨o,n,I.oX a o hk,hc,hd,by simpa using hs⟩,?_⟩
  have e:=r.length
  simp only [Array.length_toList] at e
  omega
theorem Inv.tuple (I:Inv X pins σ H s) (h:fC X.K H a xs):∃ its:List Value,Vals xs its/\IsTup s.heap a its.toArray/\xs.length<=sizeLine:=by
 rcases h with h | ⟨o,its,n,hk,hc,_,hs,hz,r⟩
 ·obtain ⟨z,its,r,p⟩:=h.ok I.hok
  exact ⟨its,r,p.tup,z⟩
 ·refine ⟨its.toList,r,⟨o,I.oX a o hk,hc,n,by simpa using hs⟩,?_⟩
  have e:=r.length
  simp only [Array.length_toList] at e
  omega
theorem Inv.uy (I:Inv X pins σ H s) (h:ir X.K H a xs) (h':ir X.K H a ys):xs=ys:=by
 obtain ⟨its,r,⟨o,n,e,_,_,d⟩,_⟩:=I.list h
 obtain ⟨its',r',⟨o',n',e',_,_,d'⟩,_⟩:=I.list h'
 rw [e] at e';cases e'
 rw [d] at d'
 injection d' with d1 _
 have:its=its':=by simpa using congrArg Array.toList d1
 subst this
 exact r.inj r'
theorem Inv.qE (I:Inv X pins σ H s) (h:fC X.K H a xs) (h':fC X.K H a ys):xs=ys:=by
 obtain ⟨its,r,⟨o,e,_,n,d⟩,_⟩:=I.tuple h
 obtain ⟨its',r',⟨o',e',_,n',d'⟩,_⟩:=I.tuple h'
 rw [e] at e';cases e'
 rw [d] at d'
 injection d' with d1 _
 have:its=its':=by simpa using congrArg Array.toList d1
 subst this
 exact r.inj r'
end
noncomputable abbrev Cx.qg (X:Cx) (E:Value->Shared->Prop):Cx:={ X with xe:=E }
noncomputable abbrev Cx.KQ (X:Cx):Cx:=X.qg fun _ _=>False
theorem Cx.Ok.qg {X:Cx} (ok:X.Ok) (E:Value->Shared->Prop):(X.qg E).Ok:=
 ⟨ok.mod,ok.kind,ok.glob,ok.blt,ok.above,ok.inj,ok.has,ok.cab,ok.hd,ok.frames,ok.stk,ok.exf,ok.bs,ok.bsz,ok.noex,ok.exfs,ok.i_,ok.frf⟩
theorem Cx.Ok.jL {X:Cx} {E:Value->Shared->Prop} (ok:(X.qg E).Ok):X.Ok:=
 ⟨ok.mod,ok.kind,ok.glob,ok.blt,ok.above,ok.inj,ok.has,ok.cab,ok.hd,ok.frames,ok.stk,ok.exf,ok.bs,ok.bsz,ok.noex,ok.exfs,ok.i_,ok.frf⟩
section
variable {X:Cx} {pins:List (Addr×Obj)} {σ:St} {H:Hp} {s:Shared} {E:Value->Shared->Prop}
theorem Inv.qg (I:Inv X pins σ H s) (E:Value->Shared->Prop):Inv (X.qg E) pins σ H s:=⟨I.ok.qg E,I.os,I.bare,I.base,I.loc,I.cell,I.free,I.freeC,I.pin,I.hok,I.len⟩
theorem Inv.jL (I:Inv (X.qg E) pins σ H s):Inv X pins σ H s:=⟨I.ok.jL,I.os,I.bare,I.base,I.loc,I.cell,I.free,I.freeC,I.pin,I.hok,I.len⟩
theorem SP.jL {D:Ends} {f:Flow} {s':Shared} (h:SP (X.qg E) pins D f s'):SP X pins D f s':=by
 cases f with
 | next=>obtain ⟨σ',H',I,q⟩:=h;exact ⟨σ',H',I.jL,q⟩
 | brk=>obtain ⟨σ',H',I,q⟩:=h;exact ⟨σ',H',I.jL,q⟩
 | cont=>obtain ⟨σ',H',I,q⟩:=h;exact ⟨σ',H',I.jL,q⟩
 | ret u=>obtain ⟨v,σ',H',I,r,q⟩:=h;exact ⟨v,σ',H',I.jL,r,q⟩
theorem qh.KQ {st:List Stmt} {t:TS} (h:qh X.KQ st t):qh X st t:=fun pins s σ H D I hw=>
 wpAny_mono (h pins s σ H D (I.qg _) hw) (fun _ _ q=>q.jL) fun _ _ z=>False.elim z
end
section
variable {X:Cx} {st:Stmt} {rest:List Stmt} {t u:TS} {e:Expr} {te:TE} {pos:Pos}
noncomputable def L8:TS:=fun D σ H=>D.nx σ H
noncomputable def Le (t u:TS):TS:=fun D σ H=>t { D with nx:=u D } σ H
theorem FE:qh X [] L8:=fun _ _ σ H _ I h=>wpAny_execs_nil ⟨σ,H,I,h⟩
theorem EA (h1:PS X st t) (h2:qh X rest u):qh X (st::rest) (Le t u):=by
 intro pins s σ H D I h
 refine wpAny_execs_cons (eS (h1 pins s σ H { D with nx:=u D } I h) fun f s1 q=>?_)
 cases f with
 | next=>
  obtain ⟨σ',H',I',q⟩:=q
  exact h2 pins s1 σ' H' D I' q
 | ret v=>exact q
 | brk=>exact q
 | cont=>exact q
theorem GA (h1:PS X st t):qh X [st] t:=by
 intro pins s σ H D I h
 refine wpAny_execs_cons (eS (h1 pins s σ H D I h) fun f s1 q=>?_)
 cases f with
 | next=>exact wpAny_execs_nil q
 | ret v=>exact q
 | brk=>exact q
 | cont=>exact q
theorem Inv.quiet {pins:List (Addr×Obj)} {σ:St} {H:Hp} {s:Shared} (I:Inv X pins σ H s):interactive X.env=false:=by simp [interactive,I.ok.kind]
noncomputable def Lf (te:TE):TS:=fun D σ H=>te σ H fun _ H1=>D.nx σ H1
theorem FT (he:PE X e te) (hs:swapsWith e none pos.line X.env=pure false:=by rfl):PS X (.Expr e pos) (Lf te):=by
 intro pins s σ H D I h
 exact wpAny_Expr_any (eS (he pins s σ H _ I h) fun v s1 ⟨x,H1,I1,r1,q1⟩=>⟨σ,H1,I1,q1⟩) I.quiet hs
noncomputable def MQ (te:TE):TS:=fun D σ H=>te σ H D.rt
theorem JB (he:PE X e te):PS X (.Return (some e) pos) (MQ te):=by
 intro pins s σ H D I h
 exact wpAny_Return_some (eS (he pins s σ H _ I h) fun v s1 ⟨x,H1,I1,r1,q1⟩=>⟨x,σ,H1,I1,r1,q1⟩)
noncomputable def M8 (c:TT) (t u:TS):TS:=fun D σ H=>c σ H fun b H1=>if b=true then t D σ H1 else u D σ H1
theorem Lg {c:Expr} {a b:List Stmt} {tc:TT} (hc:PT X c tc) (ha:qh X a t) (hb:qh X b u):PS X (.If c a b pos) (M8 tc t u):=by
 intro pins s σ H D I h
 refine wpAny_If (eS (hc pins s σ H _ I h) fun d s1 ⟨H1,I1,q1⟩=>?_)
 cases d with
 | true=>exact ha pins s1 σ H1 D I1 q1
 | false=>exact hb pins s1 σ H1 D I1 q1
end
noncomputable abbrev TG:=V->St->Hp->(St->Hp->Prop)->Prop
noncomputable abbrev Ib:=List V->St->Hp->(St->Hp->Prop)->Prop
noncomputable def PG (X:Cx) (target:Expr) (t:TG):Prop:=
 ∀ (pins:List (Addr×Obj)) (s:Shared) (σ:St) (H:Hp) (v:V) (u:Value) (Q:St->Hp->Prop),Inv X pins σ H s->RelV v u->t v σ H Q ->
  wpAny (model X.prog X.w) X.A (assign target X.env u) (fun _ s'=>∃ σ' H',Inv X pins σ' H' s'/\Q σ' H') X.xe s
noncomputable def LC (X:Cx) (ts:List Expr) (t:Ib):Prop:=
 ∀ (pins:List (Addr×Obj)) (s:Shared) (σ:St) (H:Hp) (vs:List V) (us:List Value) (Q:St->Hp->Prop),Inv X pins σ H s->Vals vs us->t vs σ H Q ->
  wpAny (model X.prog X.w) X.A (assignInOrder ((assignEach ts X.env).map (·.2)) us) (fun _ s'=>∃ σ' H',Inv X pins σ' H' s'/\Q σ' H') X.xe s
noncomputable abbrev zP:=V->V->V->Hp->(Hp->Prop)->Prop
noncomputable def AJ (X:Cx) (t:zP):Prop:=
 ∀ (pins:List (Addr×Obj)) (s:Shared) (σ:St) (H:Hp) (o i v:V) (ov iv u:Value) (Q:Hp->Prop),Inv X pins σ H s->RelV o ov->RelV i iv->RelV v u->t o i v H Q ->
  wpAny (model X.prog X.w) X.A (setItem ov iv u) (fun _ s'=>∃ H',Inv X pins σ H' s'/\Q H') X.xe s
section
variable {X:Cx} {pos:Pos}
noncomputable def Eo (i:Nat):TG:=fun v σ H Q=>Q (σ.set i (some v)) H
theorem xU {i:Nat} {x:Str} (hN:X.N.Nodup) (hi:X.N[i]?=some x) (hx:Loc X.env.scope x) (hf:X.fn x=true\/X.env.scope.names.lookup x=some .local:=by first | exact .inl rfl | exact .inr rfl | assumption):PG X (.Name x pos) (Eo i):=by
 intro pins s σ H v u Q I r h
 exact wpAny_assign_Name (lV I hN hi hx r (fun s' I'=>⟨_,H,I',h⟩) hf)
noncomputable def M6:Ib:=fun vs σ H Q=>vs=[]/\Q σ H
noncomputable def LZ (t:TG) (u:Ib):Ib:=fun vs σ H Q=>∃ v r,vs=v::r/\t v σ H fun σ' H'=>u r σ' H' Q
theorem Gp:LC X [] M6:=by
 intro pins s σ H vs us Q I r h
 obtain ⟨e,h⟩:=h
 subst e
 cases r
 exact assignInOrder_nil ⟨σ,H,I,h⟩
theorem ET {e:Expr} {es:List Expr} {t:TG} {u:Ib} (h1:PG X e t) (h2:LC X es u)
  (hs:(assignEach (e::es) X.env).map (·.2)=assign e X.env::(assignEach es X.env).map (·.2):=by rfl):LC X (e::es) (LZ t u):=by
 intro pins s σ H vs us Q I r h
 obtain ⟨v,vr,e1,h⟩:=h
 subst e1
 cases r with
 | cons r rr=>
  rw [hs]
  refine assignInOrder_cons (eS (h1 pins s σ H _ _ _ I r h) fun _ s1 ⟨σ1,H1,I1,q1⟩=>?_)
  exact h2 pins s1 σ1 H1 _ _ Q I1 rr q1
noncomputable def ME (K:PySem.W.Frag) (n:Nat) (t:Ib):TG:=fun v σ H Q=>∃ a xs,v=.ref a/\fC K H a xs/\xs.length=n/\t xs σ H Q
theorem Kw {es:List Expr} {k:Nat} {t:Ib} {n:Nat} (hc:X.calm=true) (h:LC X es t)
  (hn:(assignEach es X.env).length=n:=by rfl) (hst:(assignEach es X.env).findIdx? (·.1)=none:=by rfl):PG X (.Tuple es k pos) (ME X.K n t):=by
 intro pins s σ H v u Q I r hw
 obtain ⟨a,xs,e1,hq,hl,hw⟩:=hw
 subst e1
 cases r
 obtain ⟨its,rv,ht,hz⟩:=I.tuple hq
 refine assign_Tuple_tuple (I.ok.hd hc) ht (by simp [hn,<- hl,rv.length]) hst fun h' hx=>?_
 have I1:Inv X pins σ H { s with heap:=h' }:=I.kept (t':=s.toks) fun b o e=>hx b o (Nat.ne_of_lt (Heap.lt_size e)) e
 exact h pins _ σ H xs _ Q I1 (by simpa using rv) hw
noncomputable def ML (to ti:TE) (t:zP):TG:=fun v σ H Q=>to σ H fun o H1=>ti σ H1 fun i H2=>t o i v H2 fun H3=>Q σ H3
theorem v8 {o i:Expr} {to ti:TE} {t:zP} (ho:PE X o to) (hi:PE X i ti) (hs:AJ X t)
  (ha:∀ v,assign (.Subscript o i pos) X.env v=(do
   let ov <- holding [v] (eval o X.env)
   let iv <- holding [v,ov] (eval i X.env)
   standAt pos
   holding [v,ov,iv] (setItem ov iv v)
   release [v,ov,iv] []):=by intro _;rfl):PG X (.Subscript o i pos) (ML to ti t):=by
 intro pins s σ H v u Q I r h
 rw [ha]
 refine wpAny_bind (wpAny_holding (eS (ho pins s σ H _ I h) fun ov s1 ⟨x,H1,I1,r1,q1⟩=>?_))
 refine wpAny_bind (wpAny_holding (eS (hi pins s1 σ H1 _ I1 q1) fun iv s2 ⟨y,H2,I2,r2,q2⟩=>?_))
 refine wpAny_bind (wpAny_standAt (wpAny_bind (wpAny_holding (eS (hs pins s2 σ H2 x y v ov iv u _ I2 r1 r2 r q2) fun _ s3 ⟨H3,I3,q3⟩=>?_))))
 exact wpAny_release ⟨σ,H3,I3,q3⟩
noncomputable def Gd (te:TE) (g:TG):TS:=fun D σ H=>te σ H fun x H1=>g x σ H1 D.nx
theorem Jj {tg e:Expr} {te:TE} {g:TG} (he:PE X e te) (hg:PG X tg g) (hs:swapsWithSole [tg] e pos.line X.env=pure false:=by rfl) (hw:swappedStores [tg] e X.env=pure none:=by rfl)
  (h1:(assignEach [tg] X.env).map (·.2)=[assign tg X.env]:=by rfl):PS X (.Assign [tg] e pos) (Gd te g):=by
 intro pins s σ H D I h
 refine wpAny_Assign_stores (eS (he pins s σ H _ I h) fun v s1 ⟨x,H1,I1,r1,q1⟩=>?_) hs hw
 rw [h1]
 exact eS (hg pins s1 σ H1 x v _ I1 r1 q1) fun _ s2 q=>q
theorem Ka {i:Nat} {x:Str} {e:Expr} {te:TE} {pos':Pos} (hN:X.N.Nodup) (hi:X.N[i]?=some x) (hx:Loc X.env.scope x) (he:PE X e te) (hs:swapsWith e (some (.Name x pos')) pos.line X.env=pure false:=by rfl) (hf:X.fn x=true\/X.env.scope.names.lookup x=some .local:=by first | exact .inl rfl | exact .inr rfl | assumption) :
  PS X (.Assign [.Name x pos'] e pos) (Gd te (Eo i)):=by
 intro pins s σ H D I h
 refine wpAny_Assign_Name (eS (he pins s σ H _ I h) fun v s1 ⟨y,H1,I1,r1,q1⟩=>?_) hs
 exact lV I1 hN hi hx r1 (fun s2 I2=>⟨_,H1,I2,q1⟩) hf
end
section
variable {X:Cx} {pos:Pos}
noncomputable def Dl (c:TT) (tb:TS):TS:=fun D σ H=>∃ W:Nat->St->Hp->Prop,(∃ m,W m σ H)/\∀ m σ H,W m σ H ->
 c σ H fun b H1=>if b=true then ∃ N:St->Hp->Prop,(∀ σ' H',N σ' H'->∃ m',m' < m/\W m' σ' H')/\tb { D with nx:=N,ct:=N,bk:=D.nx } σ H1 else D.nx σ H1
theorem DF {c:Expr} {body:List Stmt} {tc:TT} {tb:TS} (hp:PassesOwn (model X.prog X.w) X.A X.env X.xe) (hc:PT X c tc) (hb:qh X body tb):PS X (.While c body [] pos) (Dl tc tb):=by
 intro pins s σ H D I h
 obtain ⟨W,⟨m0,w0⟩,turn⟩:=h
 refine wpAny_While (codeAny_whileLoop (fun n s'=>∃ σ' H',Inv X pins σ' H' s'/\W n σ' H') ?_ m0 ⟨σ,H,I,w0⟩)
 rintro n s1 ⟨σ1,H1,I1,w1⟩
 refine wpAny_passesOwn hp (eS (hc pins s1 σ1 H1 _ I1 (turn n σ1 H1 w1)) fun b s2 ⟨H2,I2,q2⟩=>?_)
 cases b with
 | true=>
  obtain ⟨N,hN,q2⟩:=q2
  rw [if_pos rfl]
  refine wpAny_passesOwn hp (eS (hb pins s2 σ1 H2 _ I2 q2) fun f s3 q3=>?_)
  cases f with
  | next=>
   obtain ⟨σ3,H3,I3,n3⟩:=q3
   obtain ⟨m',hm,w3⟩:=hN σ3 H3 n3
   exact ⟨m',hm,σ3,H3,I3,w3⟩
  | cont=>
   obtain ⟨σ3,H3,I3,n3⟩:=q3
   obtain ⟨m',hm,w3⟩:=hN σ3 H3 n3
   exact ⟨m',hm,σ3,H3,I3,w3⟩
  | brk=>exact q3
  | ret v=>exact q3
 | false=>
  rw [if_neg Bool.false_ne_true]
  exact wpAny_execs_nil ⟨σ1,H2,I2,q2⟩
end
structure It where
 go:Nat->Hp->Prop
 yld:Nat->Hp->V->Hp->Prop
 stop:Nat->Hp->Prop
noncomputable def m5 (X:Cx) (pins:List (Addr×Obj)) (H:Hp) (b:Addr):Prop:=
 H b=none/\b≠X.env.locals/\b∉X.fs/\(b∈X.ex\/X.s₀.heap.objs.size<=b)/\(∀ x c,X.env.cells.lookup x=some c->c≠b)/\∀ p∈X.pn++pins,p.1≠b
theorem Inv.zM {X:Cx} {pins:List (Addr×Obj)} {σ:St} {H H':Hp} {s:Shared} {b:Addr} (I:Inv X pins σ H s) (hb:s.heap.objs.size<=b) (hn:H' b=none):m5 X pins H' b:=by
 refine ⟨hn,Nat.ne_of_gt (Nat.lt_of_lt_of_le I.lt hb),I.Nu hb,.inr (Nat.le_trans I.sz hb),fun x c e z=>?_,fun p hp z=>?_⟩
 ·obtain ⟨v,q⟩:=I.cell x c e
  exact absurd (Nat.lt_of_lt_of_le q.lt (by rw [z];exact hb)) (Nat.lt_irrefl _)
 ·exact absurd (Nat.lt_of_lt_of_le (Heap.lt_size (I.pin p hp).1) (by rw [z];exact hb)) (Nat.lt_irrefl _)
structure Turn (P:Program) (w:World) (K:PySem.W.Frag) (tg:Expr) (J:It) (fp:List Addr) (it:Addr) (tn:Nat->Heap->Prop):Prop where
 mem:it∈fp
 obj:∀ i h,tn i h->∀ b∈fp,∃ o,h.get? b=some o/\∀ v,o.data≠.cell v
 keep:∀ i h h',tn i h->(∀ b∈fp,∀ o,h.get? b=some o->h'.get? b=some o)->tn i h'
 item:∀ (X:Cx),X.prog=P->X.w=w->X.K=K->X.calm=true->∀ (i:Nat) (pins:List (Addr×Obj)) (s:Shared) (σ:St) (H:Hp) (E:Value->Shared->Prop),Inv X pins σ H s->(∀ b∈fp,m5 X pins H b)->tn i s.heap->J.go i H ->
  wpAny (model P w) X.A (pyNext (.ref it)) (fun r s1=>∃ u,r=some u /\
   wpAny (model P w) X.A (letOwnedTupleGo tg (.ref it) u) (fun _ s2=>∃ x H',Inv X pins σ H' s2/\RelV x u/\J.yld i H x H'/\tn (i+1) s2.heap/\∀ b∈fp,H' b=none) E s1) E s
 done:∀ (X:Cx),X.prog=P->X.w=w->X.K=K->X.calm=true->∀ (i:Nat) (pins:List (Addr×Obj)) (s:Shared) (σ:St) (H:Hp) (E:Value->Shared->Prop),Inv X pins σ H s->(∀ b∈fp,m5 X pins H b)->tn i s.heap->J.stop i H ->
  wpAny (model P w) X.A (pyNext (.ref it)) (fun r s1=>r=none/\Inv X pins σ H s1) E s
 self:∀ (A:Around) (i:Nat) (s:Shared) (Q:Value->Shared->Prop) (E:Value->Shared->Prop),tn i s.heap->Q (.ref it) s->wpAny (model P w) A (pyIter (.ref it)) Q E s
noncomputable abbrev TI:=St->Hp->(It->Hp->Prop)->Prop
noncomputable def NI (X:Cx) (pins:List (Addr×Obj)) (σ:St) (tg:Expr) (R:It->Hp->Prop) (itv:Value) (s2:Shared):Prop:=
 ∃ (it:Addr) (fp:List Addr) (tn:Nat->Heap->Prop) (J:It) (H':Hp),itv=.ref it/\Inv X pins σ H' s2/\Turn X.prog X.w X.K tg J fp it tn/\tn 0 s2.heap/\(∀ b∈fp,m5 X pins H' b)/\R J H'
noncomputable def PI (X:Cx) (tg iter:Expr) (wi:TI):Prop:=
 ∀ (pins:List (Addr×Obj)) (s:Shared) (σ:St) (H:Hp) (R:It->Hp->Prop),Inv X pins σ H s->wi σ H R ->
  wpAny (model X.prog X.w) X.A (eval iter X.env) (fun v s1=>wpAny (model X.prog X.w) X.A (pyIter v) (NI X pins σ tg R) X.xe s1) X.xe s
theorem uo {M:Model} {A:Around} {E:Value->Shared->Prop} {s:Shared} {tg:Expr} {it:Addr} {u:Value} {o:Obj} {n:String} {vs:Array Value} {Q:Unit->Shared->Prop} (ho:s.heap.get? it=some o) (hc:o.cls=.type n) (hd:o.data=.fields vs)
  (hn:["enumerate", "zip", "dict_itemiterator", "dict_reverseitemiterator", "odict_iterator", "itertools.zip_longest", "itertools.pairwise"].contains n=false) (hQ:Q () s):wpAny M A (letOwnedTupleGo tg (.ref it) u) Q E s:=by
 unfold letOwnedTupleGo
 cases tg <;> first
  | exact wpAny_pure hQ
  | (cases u <;> first
    | exact wpAny_pure hQ
    | (refine wpAny_bind (wpAny_load ho ?_)
       rw [hc,hd]
       show wpAny M A (if (["enumerate", "zip", "dict_itemiterator", "dict_reverseitemiterator", "odict_iterator", "itertools.zip_longest", "itertools.pairwise"].contains n && vs[0]? == some (rawInt _))=true then _ else _) Q E s
       rw [if_neg (by intro h;rw [hn,Bool.false_and] at h;cases h)]
       exact wpAny_pure hQ))
noncomputable def K8 (K:PySem.W.Frag) (a:Addr):It:=
 ⟨fun i H=>∃ xs x,ir K H a xs/\xs[i]?=some x,fun i H x H'=>H'=H/\∀ xs,ir K H a xs->xs[i]?=some x,fun i H=>∃ xs,ir K H a xs/\xs.length<=i⟩
noncomputable def KG (K:PySem.W.Frag) (a:Addr):It:=
 ⟨fun i H=>∃ xs x,fC K H a xs/\xs[i]?=some x,fun i H x H'=>H'=H/\∀ xs,fC K H a xs->xs[i]?=some x,fun i H=>∃ xs,fC K H a xs/\xs.length<=i⟩
noncomputable def Mn (lo:Int) (n:Nat):It:=⟨fun i _=>i < n,fun i H x H'=>H'=H/\x=.int (lo+i),fun i _=>n<=i⟩
theorem mL {P:Program} {w:World} {K:PySem.W.Frag} {tg:Expr} (a it:Addr):Turn P w K tg (K8 K a) [it] it (fun i h=>h.IsListIter it a i) where
 mem:=by simp
 obj:=fun i h st b hb=>by
  have e:b=it:=by simpa using hb
  subst e
  obtain ⟨o,e,c,d⟩:=st
  exact ⟨o,e,fun v z=>by rw [d] at z;cases z⟩
 keep:=fun i h h' st k=>st.at fun o e=>k it (by simp) o e
 item:=by
  intro X hP hw hK hc i pins s σ H E I hf st hg
  subst hP hw hK
  obtain ⟨xs,x,hq,hx⟩:=hg
  obtain ⟨its,rv,p,hz⟩:=I.list hq
  obtain ⟨u,hu,ru⟩:=rv.get hx
  obtain ⟨f0,f1,f2,f3,f4,f5⟩:=hf it (by simp)
  refine wpAny_pyNext_list_item st p.isList (x:=u) (by simpa using hu) fun h' st' sb=>?_
  have I1:Inv X pins σ H { s with heap:=h' }:=I.turned (t':=s.toks) (fun b o hb e=>(sb.2 b hb).trans e) f0 f1 f3 f4 f5
  obtain ⟨o,e,c,d⟩:=id st'
  exact ⟨u,rfl,uo (s:={ s with heap:=h' }) e c d (by decide) ⟨x,H,I1,ru,⟨rfl,fun ys hy=>by rw [I.uy hy hq];exact hx⟩,st',fun b hb=>(hf b hb).1⟩⟩
 done:=by
  intro X hP hw hK hc i pins s σ H E I hf st hg
  subst hP hw hK
  obtain ⟨xs,hq,hx⟩:=hg
  obtain ⟨its,rv,p,hz⟩:=I.list hq
  obtain ⟨f0,f1,f2,f3,f4,f5⟩:=hf it (by simp)
  have hl:=rv.length
  exact wpAny_pyNext_list_end (I.ok.hd hc) st p.isList (by simp;omega) fun h' eb=>⟨rfl,I.turned (t':=s.toks) (fun b o hb e=>eb b o hb e) f0 f1 f3 f4 f5⟩
 self:=fun _ _ _ _ _ st h=>wpAny_pyIter_listiter st h
theorem wu {P:Program} {w:World} {K:PySem.W.Frag} {tg:Expr} (a it:Addr):Turn P w K tg (KG K a) [it] it (fun i h=>h.IsTupleIter it a i) where
 mem:=by simp
 obj:=fun i h st b hb=>by
  have e:b=it:=by simpa using hb
  subst e
  obtain ⟨o,e,c,d⟩:=st
  exact ⟨o,e,fun v z=>by rw [d] at z;cases z⟩
 keep:=fun i h h' st k=>st.at fun o e=>k it (by simp) o e
 item:=by
  intro X hP hw hK hc i pins s σ H E I hf st hg
  subst hP hw hK
  obtain ⟨xs,x,hq,hx⟩:=hg
  obtain ⟨its,rv,p,hz⟩:=I.tuple hq
  obtain ⟨u,hu,ru⟩:=rv.get hx
  obtain ⟨f0,f1,f2,f3,f4,f5⟩:=hf it (by simp)
  refine wpAny_pyNext_tuple_item st (show s.heap.IsTuple a its.toArray from p) (x:=u) (by simpa using hu) fun h' st' sb=>?_
  have I1:Inv X pins σ H { s with heap:=h' }:=I.turned (t':=s.toks) (fun b o hb e=>(sb.2 b hb).trans e) f0 f1 f3 f4 f5
  obtain ⟨o,e,c,d⟩:=id st'
  exact ⟨u,rfl,uo (s:={ s with heap:=h' }) e c d (by decide) ⟨x,H,I1,ru,⟨rfl,fun ys hy=>by rw [I.qE hy hq];exact hx⟩,st',fun b hb=>(hf b hb).1⟩⟩
 done:=by
  intro X hP hw hK hc i pins s σ H E I hf st hg
  subst hP hw hK
  obtain ⟨xs,hq,hx⟩:=hg
  obtain ⟨its,rv,p,hz⟩:=I.tuple hq
  obtain ⟨f0,f1,f2,f3,f4,f5⟩:=hf it (by simp)
  have hl:=rv.length
  exact wpAny_pyNext_tuple_end (I.ok.hd hc) st (show s.heap.IsTuple a its.toArray from p) (by simp;omega) fun h' eb=>⟨rfl,I.turned (t':=s.toks) (fun b o hb e=>eb b o hb e) f0 f1 f3 f4 f5⟩
 self:=fun _ _ _ _ _ st h=>wpAny_pyIter_tupleiter st h
theorem vI {P:Program} {w:World} {K:PySem.W.Frag} {tg:Expr} (it:Addr) (lo:Int) (n:Nat):Turn P w K tg (Mn lo n) [it] it (fun i h=>IsRangeIter h it (lo+(i:Nat) * 1) ((n:Int) - (i:Nat)) 1) where
 mem:=by simp
 obj:=fun i h st b hb=>by
  have e:b=it:=by simpa using hb
  subst e
  exact ⟨_,st,fun v z=>by
   have z':Data.fields _=Data.cell v:=z
   cases z'⟩
 keep:=fun i h h' st k=>k it (by simp) _ st
 item:=by
  intro X hP hw hK hc i pins s σ H E I hf st hg
  subst hP hw hK
  obtain ⟨f0,f1,f2,f3,f4,f5⟩:=hf it (by simp)
  have W:=Walks.range (prog:=X.prog) (w:=X.w) (I.ok.hd hc) it lo 1 n
  refine W.item i s _ _ hg st fun v h' tk hv st' kk=>?_
  obtain ⟨t,rfl⟩:=hv
  have I1:Inv X pins σ H { s with heap:=h',toks:=tk }:=I.turned (fun b o hb e=>kk b o (by simpa using hb) e) f0 f1 f3 f4 f5
  refine ⟨_,rfl,uo (s:={ s with heap:=h',toks:=tk }) (n := "range_iterator") st' rfl rfl (by decide) ⟨.int (lo+i),H,I1,⟨t,?_⟩,⟨rfl,rfl⟩,st',fun b hb=>(hf b hb).1⟩⟩
  rw [Int.mul_one]
 done:=by
  intro X hP hw hK hc i pins s σ H E I hf st hg
  subst hP hw hK
  obtain ⟨f0,f1,f2,f3,f4,f5⟩:=hf it (by simp)
  exact wpAny_pyNext_range_end (I.ok.hd hc) st (by have:n<=i:=hg;omega) fun h' eb=>⟨rfl,I.turned (t':=s.toks) (fun b o hb e=>eb b o hb e) f0 f1 f3 f4 f5⟩
 self:=fun _ _ _ _ _ st h=>wpAny_pyIter_rangeiter st h
section
variable {X:Cx} {tg:Expr}
noncomputable def Ie (K:PySem.W.Frag) (tl:TE):TI:=fun σ H R=>tl σ H fun x H1=>∃ a,x=.ref a/\(∃ xs,ir K H1 a xs)/\R (K8 K a) H1
noncomputable def Nr (K:PySem.W.Frag) (tl:TE):TI:=fun σ H R=>tl σ H fun x H1=>∃ a,x=.ref a/\(∃ xs,fC K H1 a xs)/\R (KG K a) H1
theorem wU {l:Expr} {tl:TE} (hl:PE X l tl):PI X tg l (Ie X.K tl):=by
 intro pins s σ H R I h
 refine eS (hl pins s σ H _ I h) fun v s1 ⟨x,H1,I1,r1,q1⟩=>?_
 obtain ⟨a,e,⟨xs,hq⟩,q⟩:=q1
 subst e
 cases r1
 obtain ⟨its,rv,p,hz⟩:=I1.list hq
 refine wpAny_pyIter_list p.isList ?_
 refine ⟨s1.heap.objs.size,[s1.heap.objs.size],_,_,H1,rfl,I1.kept (t':=s1.toks) fun b o e=>Heap.get?_push_of_some _ e,mL a _,⟨_,Heap.get?_push_size _ rfl,rfl,rfl⟩,fun b hb=>?_,q⟩
 have e:b=s1.heap.objs.size:=by simpa using hb
 subst e
 exact I1.zM (Nat.le_refl _) (I1.hok.fresh (Nat.le_refl _))
theorem CL {l:Expr} {tl:TE} (hl:PE X l tl):PI X tg l (Nr X.K tl):=by
 intro pins s σ H R I h
 refine eS (hl pins s σ H _ I h) fun v s1 ⟨x,H1,I1,r1,q1⟩=>?_
 obtain ⟨a,e,⟨xs,hq⟩,q⟩:=q1
 subst e
 cases r1
 obtain ⟨its,rv,p,hz⟩:=I1.tuple hq
 refine wpAny_pyIter_tuple (show s1.heap.IsTuple a its.toArray from p) ?_
 refine ⟨s1.heap.objs.size,[s1.heap.objs.size],_,_,H1,rfl,I1.kept (t':=s1.toks) fun b o e=>Heap.get?_push_of_some _ e,wu a _,⟨_,Heap.get?_push_size _ rfl,rfl,rfl⟩,fun b hb=>?_,q⟩
 have e:b=s1.heap.objs.size:=by simpa using hb
 subst e
 exact I1.zM (Nat.le_refl _) (I1.hok.fresh (Nat.le_refl _))
theorem Du {pins:List (Addr×Obj)} {σ:St} {H:Hp} {s:Shared} {R:It->Hp->Prop} {E:Value->Shared->Prop} {lo hi:Int} {t u v:Tok} {tk:Nat} (I:Inv X pins σ H s) (h1:-(2 ^ 62)<=lo) (h2:lo < 2 ^ 62) (h3:-(2 ^ 62)<=hi) (h4:hi < 2 ^ 62)
  (q:R (Mn lo (hi - lo).toNat) H):wpAny (model X.prog X.w) X.A (pyIter (.ref s.heap.objs.size)) (NI X pins σ tg R) E { s with heap:=s.heap.push { cls:=.type "range",data:=.fields #[.int lo t,.int hi u,.int 1 v] },toks:=tk }:=by
 refine wpAny_pyIter_range (IsRange.new ..) (small_one h1 h2 h3 h4) ?_
 have I1:Inv X pins σ H { s with heap:=s.heap.push { cls:=.type "range",data:=.fields #[.int lo t,.int hi u,.int 1 v] },toks:=tk }:=I.kept fun b o e=>Heap.get?_push_of_some _ e
 refine ⟨(s.heap.push { cls:=.type "range",data:=.fields #[.int lo t,.int hi u,.int 1 v] }).objs.size,[(s.heap.push { cls:=.type "range",data:=.fields #[.int lo t,.int hi u,.int 1 v] }).objs.size],_,_,H,rfl,
  I1.kept (t':=tk) fun b o e=>Heap.get?_push_of_some _ e,vI _ lo (hi - lo).toNat,?_,fun b hb=>?_,q⟩
 ·have e1:lo+((0:Nat):Int) * 1=lo:=by simp
  have e2:(((hi - lo).toNat:Nat):Int) - ((0:Nat):Int)=Builtin.Range.rangeSize lo hi 1:=by rw [rangeSize_one];split <;> omega
  show IsRangeIter _ _ (lo+((0:Nat):Int) * 1) ((((hi - lo).toNat:Nat):Int) - ((0:Nat):Int)) 1
  rw [e1,e2]
  exact Heap.get?_push_size _ rfl
 ·have e:b=(s.heap.push { cls:=.type "range",data:=.fields #[.int lo t,.int hi u,.int 1 v] }).objs.size:=by simpa using hb
  subst e
  exact I1.zM (Nat.le_refl _) (I1.hok.fresh (Nat.le_refl _))
noncomputable def iC (ta:TA):TI:=fun σ H R=>ta σ H fun vs H1=>∃ j:Int,vs=[.int j]/\-(2 ^ 62)<=j/\j < 2 ^ 62/\R (Mn 0 j.toNat) H1
theorem zT {a:Expr} {ta:TA} {p pos:Pos} (hg:Gl X "range") (hm:X.mg "range" = none) (ha:PA X [a] ta) (hs:starEach [a] X.env=[(false,eval a X.env)]:=by rfl):PI X tg (.Call (.Name "range" p) [a] [] pos) (iC ta):=by
 intro pins s σ H R I h
 refine Call_ (sE I hg hm boot_range (PyProof.Rows.callWith_type1 (eS (ha pos pins s σ H _ I h) fun us s1 ⟨vs,H1,I1,r1,q1⟩=>?_) hs rfl))
 obtain ⟨j,e,q1,q2,q⟩:=q1
 subst e
 cases r1 with
 | cons r rr=>
  cases rr
  obtain ⟨t,rfl⟩:=r
  exact call_range_1 (Du I1 (by omega) (by omega) q1 q2 (by simpa using q))
noncomputable def MS (wi:TI) (g:TG) (tb:TS):TS:=fun D σ H=>wi σ H fun J H1=>∃ W:Nat->Nat->St->Hp->Prop,(∃ m,W 0 m σ H1)/\∀ i m σ H,W i m σ H ->
 (J.stop i H/\D.nx σ H)\/(J.go i H/\∃ N:St->Hp->Prop,(∀ σ' H',N σ' H'->∃ m',m' < m/\W (i+1) m' σ' H')/\∀ x H',J.yld i H x H'->g x σ H' fun σ2 H2=>tb { D with nx:=N,ct:=N,bk:=D.nx } σ2 H2)
noncomputable def pN (fp:List Addr) (h:Heap):List (Addr×Obj):=fp.filterMap fun b=>(h.get? b).map fun o=>(b,o)
theorem fU {fp:List Addr} {h:Heap} {b:Addr} {o:Obj} (hb:b∈fp) (e:h.get? b=some o):(b,o)∈pN fp h:=List.mem_filterMap.mpr ⟨b,hb,by rw [e];rfl⟩
theorem AM {fp:List Addr} {h:Heap} {p:Addr×Obj} (hp:p∈pN fp h):p.1∈fp/\h.get? p.1=some p.2:=by
 obtain ⟨b,hb,e⟩:=List.mem_filterMap.mp hp
 cases q:h.get? b with
 | none=>rw [q] at e;cases e
 | some o=>
  rw [q] at e
  have e':(b,o)=p:=Option.some.inj e
  subst e'
  exact ⟨hb,q⟩
theorem Inv.pinned {pins:List (Addr×Obj)} {σ:St} {H:Hp} {s:Shared} {fp:List Addr} (I:Inv X pins σ H s) (hf:∀ b∈fp,m5 X pins H b) (ho:∀ b∈fp,∃ o,s.heap.get? b=some o/\∀ v,o.data≠.cell v):Inv X (pins++pN fp s.heap) σ H s:=
 I.y_ fun p hp=>(List.mem_append.mp hp).elim (fun z=>I.pin p (List.mem_append_right _ z)) fun z=>by
  obtain ⟨hb,e⟩:=AM z
  obtain ⟨f0,f1,f2,_⟩:=hf p.1 hb
  obtain ⟨o,e',d⟩:=ho p.1 hb
  rw [e] at e';cases e'
  exact ⟨e,f0,f1,f2,d⟩
theorem Inv.jy {pins pl:List (Addr×Obj)} {σ:St} {H:Hp} {s:Shared} (I:Inv X (pins++pl) σ H s):Inv X pins σ H s:=I.y_ fun p hp=>I.pin p (List.mem_append_right _ (List.mem_append_left _ hp))
theorem IZ {iter:Expr} {body:List Stmt} {wi:TI} {g:TG} {tb:TS} {pos:Pos} (hp:PassesOwn (model X.prog X.w) X.A X.env X.xe) (hc:X.calm=true) (hi:PI X tg iter wi) (hg:PG X tg g) (hb:qh X body tb)
  (hs:∀ x,foldedSetIterable iter X.env x=pure x:=by intro _;rfl):PS X (.For tg iter body [] pos) (MS wi g tb):=by
 intro pins s σ H D I h
 refine wpAny_For (eS (hi pins s σ H _ I h) fun v s1 h1=>eS h1 fun itv s2 h2=>?_) hs
 obtain ⟨it,fp,tn,J,H2,e,I2,T,st2,f2,W,⟨m0,w0⟩,turn⟩:=h2
 subst e
 have stat:∀ {H':Hp},(∀ b∈fp,H' b=none)->∀ b∈fp,m5 X pins H' b:=fun hn b hb=>⟨hn b hb,(f2 b hb).2⟩
 refine codeAny_forLoop_any (fun n s'=>∃ i σ' H',Inv X pins σ' H' s'/\tn i s'.heap/\(∀ b∈fp,H' b=none)/\W i n σ' H') ?_ m0 ⟨0,σ,H2,I2,st2,fun b hb=>(f2 b hb).1,w0⟩
 rintro n s3 ⟨i,σ3,H3,I3,st3,fr3,w3⟩
 rcases turn i n σ3 H3 w3 with ⟨stop,qn⟩ | ⟨go,N,hN,step⟩
 ·refine wpAny_passesOwn hp (eS (T.done X rfl rfl rfl hc i pins s3 σ3 H3 X.xe I3 (stat fr3) st3 stop) fun r s4 ⟨hr,I4⟩=>?_)
  subst hr
  exact wpAny_execs_nil ⟨σ3,H3,I4,qn⟩
 ·refine wpAny_passesOwn hp (eS (T.item X rfl rfl rfl hc i pins s3 σ3 H3 X.xe I3 (stat fr3) st3 go) fun r s4 ⟨u,hr,h4⟩=>?_)
  subst hr
  refine wpAny_passesOwn hp (eS h4 fun _ s5 ⟨x,H5,I5,r5,y5,st5,fr5⟩=>?_)
  have I5':=I5.pinned (stat fr5) (T.obj _ _ st5)
  refine wpAny_passesOwn hp (eS (hg _ s5 σ3 H5 x u _ I5' r5 (step x H5 y5)) fun _ s6 ⟨σ6,H6,I6,q6⟩=>?_)
  refine wpAny_passesOwn hp (eS (hb _ s6 σ6 H6 _ I6 q6) fun f s7 q7=>?_)
  have again:∀ {σ7:St} {H7:Hp},Inv X (pins++pN fp s5.heap) σ7 H7 s7->N σ7 H7->∃ m,m < n/\∃ i σ' H',Inv X pins σ' H' s7/\tn i s7.heap/\(∀ b∈fp,H' b=none)/\W i m σ' H':=fun {σ7 H7} I7 n7=>by
   obtain ⟨m',hm,w7⟩:=hN σ7 H7 n7
   refine ⟨m',hm,i+1,σ7,H7,I7.jy,T.keep _ _ _ st5 fun b hb o e=>(I7.pin (b,o) (List.mem_append_right _ (List.mem_append_right _ (fU hb e)))).1,fun b hb=>?_,w7⟩
   obtain ⟨o,e,d⟩:=T.obj _ _ st5 b hb
   exact (I7.pin (b,o) (List.mem_append_right _ (List.mem_append_right _ (fU hb e)))).2.1
  cases f with
  | next=>obtain ⟨σ7,H7,I7,n7⟩:=q7;exact again I7 n7
  | cont=>obtain ⟨σ7,H7,I7,n7⟩:=q7;exact again I7 n7
  | brk=>obtain ⟨σ7,H7,I7,q7⟩:=q7;exact ⟨σ7,H7,I7.jy,q7⟩
  | ret v=>obtain ⟨x7,σ7,H7,I7,r7,q7⟩:=q7;exact ⟨x7,σ7,H7,I7.jy,r7,q7⟩
end
theorem yJ {K:PySem.W.Frag} {a:Addr} {xs:List V} {g:TG} {tb:TS} {D:Ends} {σ:St} {H:Hp} (Pv:Nat->St->Hp->Prop) (h0:Pv 0 σ H) (hl:∀ i σ H,i<=xs.length->Pv i σ H->fC K H a xs)
  (hs:∀ i x σ H,xs[i]?=some x->Pv i σ H->g x σ H fun σ2 H2=>tb { D with nx:=Pv (i+1),ct:=Pv (i+1),bk:=D.nx } σ2 H2) (hd:∀ σ H,Pv xs.length σ H->D.nx σ H) :
  ∃ W:Nat->Nat->St->Hp->Prop,(∃ m,W 0 m σ H)/\∀ i m σ H,W i m σ H ->
   ((KG K a).stop i H/\D.nx σ H)\/((KG K a).go i H/\∃ N:St->Hp->Prop,(∀ σ' H',N σ' H'->∃ m',m' < m/\W (i+1) m' σ' H')/\∀ x H',(KG K a).yld i H x H'->g x σ H' fun σ2 H2=>tb { D with nx:=N,ct:=N,bk:=D.nx } σ2 H2):=by
 refine ⟨fun i m σ H=>m=xs.length - i/\i<=xs.length/\Pv i σ H,⟨xs.length,by simp,Nat.zero_le _,h0⟩,?_⟩
 rintro i m σ H ⟨rfl,hi,p⟩
 have q:=hl i σ H hi p
 by_cases hlt:i < xs.length
 ·refine .inr ⟨⟨xs,xs[i],q,by simp [hlt]⟩,Pv (i+1),fun σ' H' p'=>⟨xs.length - (i+1),by omega,rfl,hlt,p'⟩,fun x H' y=>?_⟩
  obtain ⟨e,y⟩:=y
  subst e
  exact hs i x σ _ (y xs q) p
 ·have e:i=xs.length:=by omega
  subst e
  exact .inl ⟨⟨xs,q,Nat.le_refl _⟩,hd σ H p⟩
theorem pS {c:TT} {tb:TS} {D:Ends} {σ:St} {H:Hp} (Pv:St->Hp->Prop) (μ:St->Hp->Nat) (h0:Pv σ H)
  (hs:∀ σ H,Pv σ H->c σ H fun b H1=>if b=true then tb { D with nx:=fun σ' H'=>Pv σ' H'/\μ σ' H' < μ σ H,ct:=fun σ' H'=>Pv σ' H'/\μ σ' H' < μ σ H,bk:=D.nx } σ H1 else D.nx σ H1)
  (mono:∀ σ H Q Q',(∀ b H1,Q b H1->Q' b H1)->c σ H Q->c σ H Q'):Dl c tb D σ H:=by
 refine ⟨fun m σ H=>m=μ σ H/\Pv σ H,⟨_,rfl,h0⟩,?_⟩
 rintro m σ H ⟨rfl,p⟩
 refine mono σ H _ _ (fun b H1 q=>?_) (hs σ H p)
 cases b with
 | true=>exact ⟨_,fun σ' H' ⟨p',l⟩=>⟨_,l,rfl,p'⟩,q⟩
 | false=>exact q
noncomputable abbrev R2:=V->V->Hp->VK->Prop
noncomputable def gz (X:Cx) (f:Value->Value->Sem Value) (r:R2):Prop:=
 ∀ (pins:List (Addr×Obj)) (s:Shared) (σ:St) (H:Hp) (x y:V) (v u:Value) (Q:VK),Inv X pins σ H s->RelV x v->RelV y u->r x y H Q ->
  wpAny (model X.prog X.w) X.A (f v u) (EP X pins σ Q) X.xe s
noncomputable def Ml (X:Cx) (f:Value->Sem Value) (r:V->Hp->VK->Prop):Prop:=
 ∀ (pins:List (Addr×Obj)) (s:Shared) (σ:St) (H:Hp) (x:V) (v:Value) (Q:VK),Inv X pins σ H s->RelV x v->r x H Q ->
  wpAny (model X.prog X.w) X.A (f v) (EP X pins σ Q) X.xe s
noncomputable def bF (X:Cx) (f:Value) (r:List V->Hp->VK->Prop):Prop:=
 ∀ (pins:List (Addr×Obj)) (s:Shared) (σ:St) (H:Hp) (xs:List V) (us:List Value) (Q:VK),Inv X pins σ H s->Vals xs us->r xs H Q ->
  wpAny (model X.prog X.w) X.A (call f us) (EP X pins σ Q) X.xe s
noncomputable def Nm (X:Cx) (r:V->Hp->(Bool->Hp->Prop)->Prop):Prop:=
 ∀ (pins:List (Addr×Obj)) (s:Shared) (σ:St) (H:Hp) (x:V) (v:Value) (Q:Bool->Hp->Prop),Inv X pins σ H s->RelV x v->r x H Q ->
  wpAny (model X.prog X.w) X.A (truthy v) (TP X pins σ Q) X.xe s
noncomputable def LB (r:R2) (ta tb:TE):TE:=fun σ H Q=>ta σ H fun x H1=>tb σ H1 fun y H2=>r x y H2 Q
noncomputable def NC (r:V->Hp->VK->Prop) (ta:TE):TE:=fun σ H Q=>ta σ H fun x H1=>r x H1 Q
noncomputable def rI (C:Int->Int->Prop) (g:Int->Int->V):R2:=fun x y H Q=>∃ i j,x=.int i/\y=.int j/\C i j/\Q (g i j) H
noncomputable def Il (g:Int->Int->V):R2:=fun x y H Q=>∃ i j,x=.int i/\y=.int j/\Q (g i j) H
noncomputable def rU (g:Int->V):V->Hp->VK->Prop:=fun x H Q=>∃ i,x=.int i/\Q (g i) H
section
variable {X:Cx} {a b c:Expr} {ta tb tc:TE} {pos:Pos}
theorem J8 (ha:PE X a ta) (hb:PE X b tb) {pins:List (Addr×Obj)} {s:Shared} {σ:St} {H:Hp} {R:V->V->Hp->Prop} (I:Inv X pins σ H s)
  (h:ta σ H fun x H1=>tb σ H1 fun y H2=>R x y H2) {Q:Value->Shared->Prop} {f:Value->Value->Sem Value}
  (hf:∀ v u s2 x y H2,Inv X pins σ H2 s2->RelV x v->RelV y u->R x y H2->wpAny (model X.prog X.w) X.A (f v u) Q X.xe s2) :
  wpAny (model X.prog X.w) X.A (eval a X.env) (fun v s₁=>wpAny (model X.prog X.w) X.A (eval b X.env) (fun u s₂=>wpAny (model X.prog X.w) X.A (f v u) Q X.xe s₂) X.xe s₁) X.xe s:=by
 refine eS (ha pins s σ H _ I h) fun v s1 ⟨x,H1,I1,r1,q1⟩=>?_
 refine eS (hb pins s1 σ H1 _ I1 q1) fun u s2 ⟨y,H2,I2,r2,q2⟩=>?_
 exact hf v u s2 x y H2 I2 r1 r2 q2
theorem K6 {op:Operator} {r:R2} (ho:gz X (binaryOp op) r) (ha:PE X a ta) (hb:PE X b tb):PE X (.BinOp a op b pos) (LB r ta tb):=by
 intro pins s σ H Q I h
 exact wpAny_BinOp (J8 ha hb I h fun v u s2 x y H2 I2 rx ry q=>ho pins s2 σ H2 x y v u Q I2 rx ry q)
theorem KI {op:UnaryOp} {r:V->Hp->VK->Prop} (ho:Ml X (unaryOp op) r) (ha:PE X a ta):PE X (.UnaryOp op a pos) (NC r ta):=by
 intro pins s σ H Q I h
 exact UnaryOp_ (eS (ha pins s σ H _ I h) fun v s1 ⟨x,H1,I1,r1,q1⟩=>ho pins s1 σ H1 x v Q I1 r1 q1)
theorem MA {f:Value->Value->Sem Value} {C:Int->Int->Prop} {g:Int->Int->Int}
  (rule:∀ (i j:Int) (t u:Tok) (s:Shared) (Q:Value->Shared->Prop) (E:Value->Shared->Prop),C i j->Q (.int (g i j) s.toks) { s with toks:=s.toks+1 }->wpAny (model X.prog X.w) X.A (f (.int i t) (.int j u)) Q E s) :
  gz X f (rI C fun i j=>.int (g i j)):=by
 intro pins s σ H x y v u Q I rx ry h
 obtain ⟨i,j,rfl,rfl,hc,q⟩:=h
 obtain ⟨t,rfl⟩:=rx
 obtain ⟨t',rfl⟩:=ry
 exact rule i j t t' s _ _ hc ⟨.int (g i j),H,I.tok _,⟨_,rfl⟩,q⟩
theorem Lr {f:Value->Value->Sem Value} {g:Int->Int->Int}
  (rule:∀ (i j:Int) (t u:Tok) (s:Shared) (Q:Value->Shared->Prop) (E:Value->Shared->Prop),Q (.int (g i j) s.toks) { s with toks:=s.toks+1 }->wpAny (model X.prog X.w) X.A (f (.int i t) (.int j u)) Q E s) :
  gz X f (Il fun i j=>.int (g i j)):=by
 intro pins s σ H x y v u Q I rx ry h
 obtain ⟨i,j,rfl,rfl,q⟩:=h
 obtain ⟨t,rfl⟩:=rx
 obtain ⟨t',rfl⟩:=ry
 exact rule i j t t' s _ _ ⟨.int (g i j),H,I.tok _,⟨_,rfl⟩,q⟩
theorem FD {f:Value->Value->Sem Value} {g:Int->Int->Bool}
  (rule:∀ (i j:Int) (t u:Tok) (s:Shared) (Q:Value->Shared->Prop) (E:Value->Shared->Prop),Q (.bool (g i j)) s->wpAny (model X.prog X.w) X.A (f (.int i t) (.int j u)) Q E s) :
  gz X f (Il fun i j=>.bl (g i j)):=by
 intro pins s σ H x y v u Q I rx ry h
 obtain ⟨i,j,rfl,rfl,q⟩:=h
 obtain ⟨t,rfl⟩:=rx
 obtain ⟨t',rfl⟩:=ry
 exact rule i j t t' s _ _ ⟨.bl (g i j),H,I,rfl,q⟩
noncomputable def Nl (i j:Int):Prop:=0<=j/\j<=1000000/\i.natAbs < 2 ^ 64
noncomputable def GH (i j:Int):Prop:=(-(2 ^ 64) < i/\i < 2 ^ 64)\/(-(2 ^ 64) < j/\j < 2 ^ 64)
theorem GH.ok {i j:Int} (h:GH i j):IntMulOk i j:=by
 rcases h with ⟨h1,h2⟩ | ⟨h1,h2⟩
 ·exact .of_left (intBits_le_64 h1 h2)
 ·exact .of_right (intBits_le_64 h1 h2)
theorem Iz:gz X (binaryOp .Add) (Il fun i j=>.int (i+j)):=Lr fun _ _ _ _ _ _ _ q=>add_int q
theorem Iq:gz X (binaryOp .Sub) (Il fun i j=>.int (i - j)):=Lr fun _ _ _ _ _ _ _ q=>sub_int q
theorem IY:gz X (binaryOp .Mult) (rI GH fun i j=>.int (i * j)):=MA fun _ _ _ _ _ _ _ hc q=>mul_int q hc.ok
theorem Jr:gz X (binaryOp .Mod) (rI (fun _ j=>0 < j) fun i j=>.int (i % j)):=MA fun i j _ _ _ _ _ hc q=>by
 have h1:(0:Int) < j:=hc
 exact mod_int' (by omega) (by rw [Int.fmod_eq_emod_of_nonneg i (by omega)];exact q)
theorem Ko:gz X (binaryOp .Pow) (rI Nl fun i j=>.int (i ^ j.toNat)):=MA fun _ _ _ _ _ _ _ hc q=>pow_int_small hc.1 hc.2.1 hc.2.2 q
theorem N3 {f:Value->Sem Value} {g:Int->Int}
  (rule:∀ (i:Int) (t:Tok) (s:Shared) (Q:Value->Shared->Prop) (E:Value->Shared->Prop),Q (.int (g i) s.toks) { s with toks:=s.toks+1 }->wpAny (model X.prog X.w) X.A (f (.int i t)) Q E s) :
  Ml X f (rU fun i=>.int (g i)):=by
 intro pins s σ H x v Q I rx h
 obtain ⟨i,rfl,q⟩:=h
 obtain ⟨t,rfl⟩:=rx
 exact rule i t s _ _ ⟨.int (g i),H,I.tok _,⟨_,rfl⟩,q⟩
theorem Jl:Ml X (unaryOp .USub) (rU fun i=>.int (-i)):=N3 fun _ _ _ _ _ q=>neg_int q
end
section
variable {X:Cx} {a b c:Expr} {ta tb tc:TE} {pos:Pos}
theorem K1:gz X (compareOp .Lt) (Il fun i j=>.bl (decide (i < j))):=FD fun _ _ _ _ _ _ _ q=>lt_int q
theorem Lj:gz X (compareOp .LtE) (Il fun i j=>.bl (decide (i<=j))):=FD fun _ _ _ _ _ _ _ q=>le_int q
theorem L3:gz X (compareOp .Gt) (Il fun i j=>.bl (decide (j < i))):=FD fun _ _ _ _ _ _ _ q=>gt_int q
theorem Ln:gz X (compareOp .GtE) (Il fun i j=>.bl (decide (j<=i))):=FD fun _ _ _ _ _ _ _ q=>ge_int q
theorem Ej (b:Expr) {op:CmpOp} (h:op≠.In:=by decide) (h2:op≠.NotIn:=by decide):behindInMarks op b=false:=by
 have e1:(op == CmpOp.In)=false:=by cases op <;> first | rfl | exact absurd rfl h
 have e2:(op == CmpOp.NotIn)=false:=by cases op <;> first | rfl | exact absurd rfl h2
 cases b <;> simp [behindInMarks,e1,e2]
theorem Gx {op:CmpOp} {r:R2} (ho:gz X (compareOp op) r) (ha:PE X a ta) (hb:PE X b tb) (hm:behindInMarks op b=false):PE X (.Compare a [op] [b] pos) (LB r ta tb):=by
 intro pins s σ H Q I h
 exact wpAny_Compare1 (J8 ha hb I h fun v u s2 x y H2 I2 rx ry q=>ho pins s2 σ H2 x y v u Q I2 rx ry q) hm
noncomputable def Lx (t:TE):TT:=fun σ H Q=>t σ H fun x H'=>∃ k,x=.bl k/\Q k H'
theorem GY {op:CmpOp} {r:R2} (ho:gz X (compareOp op) r) (ha:PE X a ta) (hb:PE X b tb) (hm:behindInMarks op b=false):PT X (.Compare a [op] [b] pos) (Lx (LB r ta tb)):=by
 intro pins s σ H Q I h
 refine wpAny_isTrue_Compare1 (eS (ha pins s σ H _ I h) fun v s1 ⟨x,H1,I1,r1,q1⟩=>eS (hb pins s1 σ H1 _ I1 q1) fun u s2 ⟨y,H2,I2,r2,q2⟩=>
  eS (ho pins s2 σ H2 x y v u _ I2 r1 r2 q2) fun c s3 ⟨z,H3,I3,r3,k,e,q3⟩=>?_) hm
 subst e
 cases r3
 exact wpAny_truthy_bool ⟨H3,I3,q3⟩
noncomputable def JI (K:PySem.W.Frag) (x:V) (H:Hp) (k:Bool):Prop:=
 match x with
 | .non=>k=false
 | .bl b=>k=b
 | .int i=>k=(i != 0)
 | .str y=>y.length<=sizeLine/\k=((y.length:Int) != 0)
 | .byt y=>y.size<=sizeLine/\k=((y.size:Int) != 0)
 | .ref p=>(∃ xs,ir K H p xs/\k=!xs.isEmpty)\/(∃ xs,fC K H p xs/\k=!xs.isEmpty)\/∃ kvs,H p=some (.dK kvs)/\k=!kvs.isEmpty
 | _=>False
theorem wc {κ:Type} {kvs:List (κ×V)} {vs:List (κ×Value)} (r:KV kvs vs):(!vs.isEmpty)=!kvs.isEmpty:=by
 cases r <;> rfl
theorem oJ {xs:List V} {its:List Value} (r:Vals xs its):(!its.toArray.isEmpty)=!xs.isEmpty:=by
 cases r <;> simp
theorem mh:(sizeLine:Nat) < 2 ^ 63:=by rw [sizeLine_eq];decide
theorem J9:Nm X (fun x H Q=>∃ k,JI X.K x H k/\Q k H):=by
 intro pins s σ H x v Q I rx h
 obtain ⟨k,e,q⟩:=h
 have hl:=mh
 have hs:sizeLine=16777216:=sizeLine_eq
 cases x with
 | non=>
  cases rx
  have e':k=false:=e
  subst e'
  exact truthy_none ⟨H,I,q⟩
 | bl b=>
  cases rx
  have e':k=b:=e
  subst e'
  exact wpAny_truthy_bool ⟨H,I,q⟩
 | int i=>
  obtain ⟨t,rfl⟩:=rx
  have e':k=(i != 0):=e
  subst e'
  exact PySem.P.truthy_int ⟨H,I,q⟩
 | str y=>
  obtain ⟨t,rfl⟩:=rx
  obtain ⟨hy,e'⟩:y.length<=sizeLine/\k=((y.length:Int) != 0):=e
  subst e'
  exact PySem.P.truthy_str (by omega) ⟨H,I.tok _,q⟩
 | byt y=>
  obtain ⟨t,rfl⟩:=rx
  obtain ⟨hy,e'⟩:y.size<=sizeLine/\k=((y.size:Int) != 0):=e
  subst e'
  exact PySem.W.truthy_bytes (by omega) ⟨H,I.tok _,q⟩
 | ref p=>
  cases rx
  have e':(∃ xs,ir X.K H p xs/\k=!xs.isEmpty)\/(∃ xs,fC X.K H p xs/\k=!xs.isEmpty)\/∃ kvs,H p=some (.dK kvs)/\k=!kvs.isEmpty:=e
  rcases e' with ⟨xs,hx,e'⟩ | ⟨xs,hx,e'⟩ | ⟨kvs,hx,e'⟩
  ·subst e'
   obtain ⟨its,r,pl,hz⟩:=I.list hx
   have hlen:=r.length
   exact wpAny_truthy_list pl.isList (by simp only [List.size_toArray];omega) ⟨H,I.tok _,by rw [oJ r];exact q⟩
  ·subst e'
   obtain ⟨its,r,pl,hz⟩:=I.tuple hx
   have hlen:=r.length
   exact truthy_tuple pl (by simp only [List.size_toArray];omega) ⟨H,I.tok _,by rw [oJ r];exact q⟩
  ·subst e'
   obtain ⟨hz,hS,vs,r,m⟩:kvs.length<=sizeLine/\(p == sysModules)=false/\∃ vs,KV kvs vs/\s.heap.DictOf (bN X.prog X.w) p vs:=I.hok p _ hx
   have hlen:kvs.length=vs.length:=Paired.length r
   exact wpAny_truthy_dict hS m (by omega) ⟨H,I.tok _,by rw [wc r];exact q⟩
 | _=>exact (show False from e).elim
theorem D5 (ha:PE X a ta) (he:∀ whole,isTrue a X.env whole=(do let v <- whole;standAt a.pos;holding [v] (truthy v))) :
  PT X a (fun σ H Q=>ta σ H fun x H'=>∃ k,JI X.K x H' k/\Q k H'):=by
 intro pins s σ H Q I h
 exact isTrue_plain (eS (ha pins s σ H _ I h) fun v s1 ⟨x,H1,I1,r1,q1⟩=>J9 pins s1 σ H1 x v Q I1 r1 q1) (he _)
theorem vR:gz X (binaryOp .Add) (fun x y H Q=>∃ i j,x=.str i/\y=.str j/\i.length+j.length<=sizeLine/\Q (.str (i++j)) H):=by
 intro pins s σ H x y v u Q I rx ry h
 obtain ⟨i,j,rfl,rfl,hz,q⟩:=h
 obtain ⟨t,rfl⟩:=rx
 obtain ⟨t',rfl⟩:=ry
 exact add_str (fun t' tk=>⟨.str (i++j),H,I.tok _,⟨_,rfl⟩,q⟩) hz
theorem vals1 {x:V} {us:List Value} (r:Vals [x] us):∃ u,us=[u]/\RelV x u:=by
 cases r with
 | cons r1 r2=>cases r2;exact ⟨_,rfl,r1⟩
theorem vals2 {x y:V} {us:List Value} (r:Vals [x,y] us):∃ u w',us=[u,w']/\RelV x u/\RelV y w':=by
 cases r with
 | cons r1 r2=>
  cases r2 with
  | cons r3 r4=>cases r4;exact ⟨_,_,rfl,r1,r3⟩
theorem zV (hc:X.calm=true):bF X (.builtin "max") (fun xs H Q=>∃ i j,xs=[.int i,.int j]/\Q (.int (if j > i then j else i)) H):=by
 intro pins s σ H xs us Q I r h
 obtain ⟨i,j,rfl,q⟩:=h
 obtain ⟨u,w',rfl,⟨t,rfl⟩,⟨t',rfl⟩⟩:=vals2 r
 refine max_two_ints (I.ok.hd hc) fun h' tk k=>⟨_,H,I.kept k,?_,q⟩
 by_cases hj:j > i
 ·rw [if_pos hj,if_pos hj];exact ⟨_,rfl⟩
 ·rw [if_neg hj,if_neg hj];exact ⟨_,rfl⟩
theorem A0 (hc:X.calm=true):bF X (.builtin "min") (fun xs H Q=>∃ i j,xs=[.int i,.int j]/\Q (.int (if j < i then j else i)) H):=by
 intro pins s σ H xs us Q I r h
 obtain ⟨i,j,rfl,q⟩:=h
 obtain ⟨u,w',rfl,⟨t,rfl⟩,⟨t',rfl⟩⟩:=vals2 r
 refine min_two_ints (I.ok.hd hc) fun h' tk k=>⟨_,H,I.kept k,?_,q⟩
 by_cases hj:j < i
 ·rw [if_pos hj,if_pos hj];exact ⟨_,rfl⟩
 ·rw [if_neg hj,if_neg hj];exact ⟨_,rfl⟩
theorem qR:bF X (.type "int") (fun xs H Q=>(∃ i,xs=[.int i]/\Q (.int i) H)\/∃ k,xs=[.bl k]/\Q (.int (if k then 1 else 0)) H):=by
 intro pins s σ H xs us Q I r h
 rcases h with ⟨i,rfl,q⟩ | ⟨k,rfl,q⟩
 ·obtain ⟨u,rfl,t,rfl⟩:=vals1 r
  exact call_int_int ⟨.int i,H,I,⟨_,rfl⟩,q⟩
 ·obtain ⟨u,rfl,r1⟩:=vals1 r
  cases r1
  exact call_int_bool ⟨.int (if k then 1 else 0),H,I.tok _,⟨_,rfl⟩,q⟩
noncomputable def M_ (K:PySem.W.Frag) (x:V) (H:Hp) (n:Nat):Prop:=
 match x with
 | .str y=>y.length<=sizeLine/\n=y.length
 | .byt y=>y.size<=sizeLine/\n=y.size
 | .ref p=>(∃ xs,ir K H p xs/\n=xs.length)\/∃ xs,fC K H p xs/\n=xs.length
 | _=>False
theorem Dy:bF X (.builtin "len") (fun xs H Q=>∃ x n,xs=[x]/\M_ X.K x H n/\Q (.int n) H):=by
 intro pins s σ H xs us Q I r h
 obtain ⟨x,n,rfl,e,q⟩:=h
 obtain ⟨u,rfl,rx⟩:=vals1 r
 have hl:=mh
 have hs:sizeLine=16777216:=sizeLine_eq
 cases x with
 | str y=>
  obtain ⟨t,rfl⟩:=rx
  obtain ⟨hy,e'⟩:y.length<=sizeLine/\n=y.length:=e
  subst e'
  exact len_str (by omega) ⟨.int _,H,I.tok _,⟨_,rfl⟩,q⟩
 | byt y=>
  obtain ⟨t,rfl⟩:=rx
  obtain ⟨hy,e'⟩:y.size<=sizeLine/\n=y.size:=e
  subst e'
  exact PySem.W.len_bytes (by omega) ⟨.int _,H,I.tok _,⟨_,rfl⟩,q⟩
 | ref p=>
  cases rx
  have e':(∃ xs,ir X.K H p xs/\n=xs.length)\/∃ xs,fC X.K H p xs/\n=xs.length:=e
  rcases e' with ⟨xs,hx,e'⟩ | ⟨xs,hx,e'⟩
  ·subst e'
   obtain ⟨its,r',pl,hz⟩:=I.list hx
   have hlen:=r'.length
   exact Calls.call_len_list pl.isList (by simp only [List.size_toArray];omega) ⟨.int xs.length,H,I.tok _,⟨_,by simp only [List.size_toArray];rw [hlen]⟩,q⟩
  ·subst e'
   obtain ⟨its,r',pl,hz⟩:=I.tuple hx
   have hlen:=r'.length
   exact len_tuple pl (by simp only [List.size_toArray];omega) ⟨.int xs.length,H,I.tok _,⟨_,by simp only [List.size_toArray];rw [hlen]⟩,q⟩
 | _=>exact (show False from e).elim
end
structure ObjM (h:Heap) (x dx C:Addr) (mA:Str->Option Value):Prop where
 obj:h.get? x=some (PySem.W.instObj C dx)
 ns:h.Ns1 dx mA
 ne:dx≠x
theorem Aj {h:Heap} {dx:Addr} {mA:Str->Option Value} (n:h.Ns1 dx mA):∃ od,h.get? dx=some od/\∀ name,PySem.W.lookIn name od=some (mA name):=by
 obtain ⟨o,es,ep,ho,hd,hk,_,hm⟩:=n
 refine ⟨o,ho,fun name=>?_⟩
 have e:=hm name
 unfold nsFind findBy at e
 rw [<- Array.find?_toList] at e
 unfold PySem.W.lookIn
 rw [hd]
 dsimp only
 split
 ·rename_i y q
  rw [q] at e
  exact congrArg some e
 ·rename_i q
  rw [q] at e
  have a:es.toList.any (·.refKey)=false:=by
   rw [List.any_eq_false]
   intro y hy
   obtain ⟨z,t,hkey⟩:=hk y (Array.mem_toList_iff.mp hy)
   simp [DictEntry.refKey,hkey]
  have a':¬ es.toList.any (·.refKey)=true:=by rw [a];exact Bool.false_ne_true
  rw [if_neg a']
  exact congrArg some e
theorem ObjM.look {h:Heap} {x dx C:Addr} {mA:Str->Option Value} (I:ObjM h x dx C mA):∃ od,PySem.W.InstAt h x (PySem.W.instObj C dx) C (some od)/\∀ name,PySem.W.lookIn name od=some (mA name):=
 let ⟨od,ho,hl⟩:=Aj I.ns
 ⟨od,⟨I.obj,rfl,rfl,ho⟩,hl⟩
section
variable {prog:Program} {w:World} {A:Around} {E:Value->Shared->Prop} {s:Shared} {K:PySem.W.Frag} {x dx C f:Addr} {mA:Str->Option Value} {name:Str} {v:Value}
end
theorem mz.some_of {v:V} {o:Option Value} (r:mz (some v) o):∃ u,o=some u/\RelV v u:=by
 cases o with
 | none=>exact (show False from r).elim
 | some u=>exact ⟨u,rfl,r⟩
section
variable {P:Program} {w:World} {H H':Hp} {h h':Heap} {a C dx:Addr} {fs fs':List (Str×V)}
theorem Ff (hok:j_ P w H h) (e:H a=some (.ins C dx fs)):∃ mA,ObjM h a dx C mA/\(∀ f,mz (fs.lookup f) (mA f))/\PySem.Within mA (fs.map (·.1))/\fs.length<=1000/\H dx=some (.own a):=by
 obtain ⟨d,z,ne,ob,mA,n,r,q⟩:=(show b_ P w H h a (.ins C dx fs) from hok a _ e)
 exact ⟨mA,⟨ob,n,ne⟩,r,q,z,d⟩
end
structure Cls (K:PySem.W.Frag) (C:Addr):Prop where
 pg:PySem.W.plainGet K C Str.empty=true
 hd:PySem.W.hasDictIn K C=true
 po:PySem.W.plainOver K C=true
 sa:PySem.W.findIn K (.ref C) "__setattr__" = some (some (.builtin "object.__setattr__"))
theorem Cls.get {K:PySem.W.Frag} {C:Addr} (c:Cls K C) (f:Str):PySem.W.plainGet K C f=true:=c.pg
structure Con (K:PySem.W.Frag) (C:Addr) (f:Str) (v:V) (u:Value):Prop where
 at_:PySem.W.findIn K (.ref C) f=some (some u)
 rel:RelV v u
 get:PySem.W.specialIn K u "__get__" = some none
 cp:PySem.W.copiedNames.contains f=false
structure Meth (K:PySem.W.Frag) (C:Addr) (m:Str) (f:Addr):Prop where
 at_:PySem.W.findIn K (.ref C) m=some (some (.ref f))
 fn:PySem.W.isFn K (.ref f)=true
 kp:PySem.W.keepIn K (.ref f)=true
section
variable {X:Cx} {pins:List (Addr×Obj)} {σ:St} {H:Hp} {s:Shared} {a C dx:Addr} {fs:List (Str×V)} {f:Str} {v:V} {A:Around} {E:Value->Shared->Prop}
end
section
variable {X:Cx} {o e value:Expr} {f:Str} {pos pos' tpos:Pos} {ta tv:TE}
end
section
variable {X:Cx} {pins:List (Addr×Obj)} {σ:St} {H:Hp} {s:Shared} {A:Around} {E:Value->Shared->Prop} {Q:Value->Shared->Prop} {c:Value} {b:Bool}
inductive TyOf (K:PySem.W.Frag) (H:Hp):V->Value->Prop where
 | non:TyOf K H .non (.type "NoneType")
 | bl (x:Bool):TyOf K H (.bl x) (.type "bool")
 | int (i:Int):TyOf K H (.int i) (.type "int")
 | str (x:Str):TyOf K H (.str x) (.type "str")
 | flt (x:UInt64):TyOf K H (.flt x) (.type "float")
 | lst {a:Addr} {xs:List V} (e:H a=some (.lst xs)):TyOf K H (.ref a) (.type "list")
 | frz {a:Addr} {o:Obj} {xs:List V} (e:H a=some (.frz o (.lst xs))):TyOf K H (.ref a) (.type "list")
 | tup {a:Addr} {xs:List V} (e:H a=some (.tup xs)):TyOf K H (.ref a) (.type "tuple")
 | dK {a:Addr} {kvs:List (Key×V)} (e:H a=some (.dK kvs)):TyOf K H (.ref a) (.type "dict")
 | dT {a:Addr} {kvs:List (List Key×V)} (e:H a=some (.dT kvs)):TyOf K H (.ref a) (.type "dict")
 | ins {a C dx:Addr} {fs:List (Str×V)} (e:H a=some (.ins C dx fs)) (cl:Cls K C) (ha:PySem.W.findIn K (.ref C) "__class__" = some (some (.builtin "object.__class__")))
   (hn:PySem.W.specialIn K (.builtin "object.__class__") "__get__" = some (some (.builtin "getset_descriptor.__get__"))) (htk:PySem.W.takesIn K (.builtin "object.__class__")=some true)
   (hm:PySem.W.mroIn K C (.type "object")=some true):TyOf K H (.ref a) (.ref C)
theorem An {x:V} {u t:Value} (I:Inv X pins σ H s) (rx:RelV x u) (ty:TyOf X.K H x t) (e:PySem.W.kitOne X.K t c=some b) (h:∀ tk,Q (.bool b) { s with toks:=tk }) :
  wpAny (model X.prog X.w) A (call (.builtin "isinstance") [u,c]) Q E s:=by
 cases ty with
 | non=>cases (show u=Value.none from rx);exact PySem.W.kia_one PySem.W.kitx_none I.oX True.intro e (fun z=>nomatch z) h
 | bl y=>cases (show u=Value.bool y from rx);exact PySem.W.kia_one PySem.W.kitx_bool I.oX True.intro e (fun z=>nomatch z) h
 | int i=>obtain ⟨t,q⟩:=(show ∃ t,u=Value.int i t from rx);cases q;exact PySem.W.kia_one PySem.W.kitx_int I.oX True.intro e (fun z=>nomatch z) h
 | str y=>obtain ⟨t,q⟩:=(show ∃ t,u=Value.str y t from rx);cases q;exact PySem.W.kia_one PySem.W.kitx_str I.oX True.intro e (fun z=>nomatch z) h
 | flt y=>obtain ⟨t,q⟩:=(show ∃ t,u=Value.float y t from rx);cases q;exact PySem.W.kia_one PySem.W.kitx_float I.oX True.intro e (fun z=>nomatch z) h
 | @lst a xs ea=>
  cases (show u=Value.ref a from rx)
  obtain ⟨_,_,n,_,h1⟩:=(show b_ X.prog X.w H s.heap a (.lst xs) from I.hok a _ ea)
  exact PySem.W.kia_one PySem.W.kitx_list I.oX ⟨_,h1,rfl⟩ e (fun z=>nomatch z) h
 | @frz a ob xs ea=>
  cases (show u=Value.ref a from rx)
  obtain ⟨_,_,_,n,_,h1⟩:=(show b_ X.prog X.w H s.heap a (.frz ob (.lst xs)) from I.hok a _ ea)
  exact PySem.W.kia_one PySem.W.kitx_list I.oX ⟨_,h1,rfl⟩ e (fun z=>nomatch z) h
 | @tup a xs ea=>
  cases (show u=Value.ref a from rx)
  obtain ⟨_,_,_,p⟩:=(show b_ X.prog X.w H s.heap a (.tup xs) from I.hok a _ ea)
  obtain ⟨o,h1,h2,_⟩:=p
  exact PySem.W.kia_one PySem.W.kitx_tuple I.oX ⟨o,h1,h2⟩ e (fun z=>nomatch z) h
 | @dK a kvs ea=>
  cases (show u=Value.ref a from rx)
  obtain ⟨_,_,vs,_,p⟩:=(show b_ X.prog X.w H s.heap a (.dK kvs) from I.hok a _ ea)
  obtain ⟨o,es,ep,h1,h2,_⟩:=p
  exact PySem.W.kia_one PySem.W.kitx_dict I.oX ⟨o,h1,h2.1⟩ e (fun z=>nomatch z) h
 | @dT a kvs ea=>
  cases (show u=Value.ref a from rx)
  obtain ⟨_,_,xs,_,o,es,ep,h1,h2,_⟩:=(show b_ X.prog X.w H s.heap a (.dT kvs) from I.hok a _ ea)
  exact PySem.W.kia_one PySem.W.kitx_dict I.oX ⟨o,h1,h2.1⟩ e (fun z=>nomatch z) h
 | @ins a C dx fs ea cl ha hn htk hm=>
  cases (show u=Value.ref a from rx)
  obtain ⟨mA,O,_⟩:=Ff I.hok ea
  obtain ⟨od,J,_⟩:=O.look
  exact PySem.W.kia_one (PySem.W.kitx_own (cl.get _) cl.hd ha hn htk hm) I.oX J e (fun z=>nomatch z) h
end
structure Room (k:Nat) (A:Around):Prop where
 hd:A.handled=none
 dp:A.depth+3 * k+5 < recursionLimit
 un:A.units+16 * k+200 < cLine
theorem Room.mono {j k:Nat} {A:Around} (r:Room k A) (h:j<=k):Room j A:=⟨r.hd,by have:=r.dp;omega,by have:=r.un;omega⟩
theorem Room.deeper {k:Nat} {A:Around} (r:Room (k+1) A) (env:Env):Room k (A.deeper env):=
 ⟨r.hd,by have:=r.dp;show A.depth+1+3 * k+5 < _;omega,by have:=r.un;show A.units+3+16 * k+200 < _;omega⟩
theorem Room.depth {k:Nat} {A:Around} (r:Room k A):A.depth < recursionLimit:=by have:=r.dp;omega
theorem Room.units {k:Nat} {A:Around} (r:Room k A):A.units+64 < cLine:=by have:=r.un;omega
noncomputable def Nc:TA:=fun _ H Q=>Q [] H
noncomputable def KJ (ta:TE) (tr:TA):TA:=fun σ H Q=>ta σ H fun x H1=>tr σ H1 fun xs H2=>Q (x::xs) H2
section
variable {X:Cx} {e:Expr} {es:List Expr} {te:TE} {t:TA} {pos:Pos}
theorem rV:PA X [] Nc:=fun _ _ _ _ H Q I h=>Calls.spliced_nil ⟨[],H,I,.nil,h⟩
theorem lX (ha:PE X e te) (hr:PA X es t) (hs:starEach (e::es) X.env=(false,eval e X.env)::starEach es X.env:=by rfl):PA X (e::es) (KJ te t):=by
 intro pos pins s σ H Q I h
 rw [hs]
 show wpAny _ _ (spliced ((false,eval e X.env)::backTo pos (starEach es X.env))) _ _ s
 refine Calls.spliced_cons (eS (ha pins s σ H _ I h) fun u s1 ⟨x,H1,I1,r1,q1⟩=>?_)
 exact eS (hr pos pins s1 σ H1 _ I1 q1) fun us s2 ⟨xs,H2,I2,r2,q2⟩=>⟨x::xs,H2,I2,.cons r1 r2,q2⟩
noncomputable def Nv (t:TA):TE:=fun σ H Q=>t σ H fun xs H1=>xs.length<=sizeLine/\∀ p,H1 p=none->Q (.ref p) (upd H1 p (.tup xs))
noncomputable def Nb (t:TA):TE:=fun σ H Q=>t σ H fun xs H1=>xs.length<=sizeLine/\∀ p,H1 p=none->Q (.ref p) (upd H1 p (.lst xs))
theorem IF {x1} (h:PA X es t):PE X (.Tuple es x1 pos) (Nv t):=by
 intro pins s σ H Q I hq
 refine wpAny_Tuple_spliced (eS (h pos pins s σ H _ I hq) fun us s1 ⟨xs,H1,I1,r,z,q⟩=>⟨by rw [<- r.length];exact z,?_⟩)
 have hf:H1 s1.heap.objs.size=none:=I1.hok.fresh (Nat.le_refl _)
 refine ⟨.ref s1.heap.objs.size,upd H1 s1.heap.objs.size (.tup xs),I1.laid (t':=s1.toks) (fun b u e=>Heap.get?_push_of_some _ e) (Nat.le_refl _) ?_,rfl,q _ hf⟩
 exact ⟨z,us,r,⟨_,Heap.get?_push_size _ rfl,rfl,rfl,_,rfl⟩⟩
theorem JE (h:PA X es t):PE X (.List es pos) (Nb t):=by
 intro pins s σ H Q I hq
 refine wpAny_List_spliced (eS (h pos pins s σ H _ I hq) fun us s1 ⟨xs,H1,I1,r,z,q⟩=>⟨by rw [<- r.length];exact z,?_⟩)
 have hf:H1 s1.heap.objs.size=none:=I1.hok.fresh (Nat.le_refl _)
 refine ⟨.ref s1.heap.objs.size,upd H1 s1.heap.objs.size (.lst xs),I1.laid (t':=s1.toks) (fun b u e=>Heap.get?_push_of_some _ e) (Nat.le_refl _) ?_,rfl,q _ hf⟩
 exact ⟨z,us,0,r,Heap.get?_push_size _ rfl⟩
end
noncomputable abbrev Sp:=List V->Hp->VK->XK->Prop
noncomputable abbrev A6:=List Env->Hp->Shared->XK->Value->Shared->Prop
structure Env0 (P:Program) (w:World) (K:PySem.W.Frag) (mg:Str->Option Value) (base:Heap) (A:Around) (outer:List Env) (s:Shared) (H:Hp):Prop where
 frames:A.frames=some outer
 mod:Mod K mg base
 bs:∀ b o,base.get? b=some o->s.heap.get? b=some o/\H b=none
 bsz:base.objs.size<=s.heap.objs.size
 i_:s.heap.FunFrames base outer
 frf:∀ b∈frs outer,H b=none
 hok:j_ P w H s.heap
 bare:AllBare s.gens
noncomputable def CE (outer:List Env) (P:Program) (w:World) (H:Hp) (s:Shared) (Q:VK) (u:Value) (s':Shared):Prop:=
 ∃ v H',s'.os=s.os/\AllBare s'.gens/\Un (frs outer) [] H H' s.heap s'.heap/\j_ P w H' s'.heap/\RelV v u/\Q v H'
noncomputable def CR (CX:A6) (outer:List Env) (P:Program) (w:World) (H:Hp) (s:Shared) (Q:VK) (E:XK) (r:Result) (s':Shared):Prop:=
 match r with
 | .ok (.ret u)=>CE outer P w H s Q u s'
 | .ok _=>False
 | .error e=>CX outer H s E e s'
structure FnOk (P:Program) (w:World) (K:PySem.W.Frag) (mg:Str->Option Value) (base:Heap) (CX:A6) (k:Nat) (f:Addr) (fd:FuncData) (ps:List Str) (sp:Sp):Prop where
 len:∀ vs H Q E,sp vs H Q E->vs.length=ps.length
 run:∀ (A:Around) (outer:List Env) (s:Shared) (H:Hp) (args:Args) (us:List Value) (vs:List V) (Q:VK) (E:XK),Room k A->Env0 P w K mg base A outer s H->BindsTo s fd args (ps.zip us)->Vals vs us->sp vs H Q E ->
  codeAny (model P w) A (.call (.ref f) args) (CR CX outer P w H s Q E) s
section
variable {X:Cx} {pins:List (Addr×Obj)} {σ:St} {H:Hp} {s s':Shared}
theorem Inv.Ly (I:Inv X pins σ H s):Env0 X.prog X.w X.K X.mg X.base X.A X.stack s H:=
 ⟨I.ok.frames,I.ok.mod,I.bs,Nat.le_trans I.ok.bsz I.sz,I.stack,I.nN,I.hok,I.bare⟩
theorem Inv.after {Q:VK} {u:Value} (I:Inv X pins σ H s) (h:CE X.stack X.prog X.w H s Q u s'):EP X pins σ Q u s':=by
 obtain ⟨v,H',os,bare,un,hok,r,q⟩:=h
 obtain ⟨hh,g,d,t,os'⟩:=s'
 obtain rfl:os'=s.os:=os
 exact ⟨v,H',I.call (h':=hh) (g':=g) (d':=d) (t':=t) (ch:=[]) un hok bare (fun b z=>absurd z (by simp)),r,q⟩
end
noncomputable def Br (sp:Sp) (dvs:List V) (E:XK) (t:TA):TE:=fun σ H Q=>t σ H fun vs H1=>sp (vs++dvs) H1 Q E
noncomputable def Binds (K:PySem.W.Frag) (fd:FuncData) (ps:List Str) (ds:List Value):Prop:=
 ∀ (s:Shared) (us:List Value),K.In s.heap->(us++ds).length=ps.length->BindsTo s fd ⟨us,[]⟩ (ps.zip (us++ds))
theorem Binds.all {K:PySem.W.Frag} {fd:FuncData} {ps:List Str} (h:∀ us:List Value,us.length=ps.length->bindArgs fd ⟨us,[]⟩=pure (ps.zip us)):Binds K fd ps []:=fun s us _ hl=>by
 rw [List.append_nil] at hl ⊢
 exact .of_eq (h us hl)
noncomputable def Passes (CX:A6) (X:Cx) (E:XK):Prop:=∀ (pins:List (Addr×Obj)) (σ:St) (H:Hp) (s:Shared) (e:Value) (s':Shared),Inv X pins σ H s->CX X.stack H s E e s'->X.xe e s'
section
variable {X:Cx} {CX:A6} {k:Nat} {f C:Addr} {fd:FuncData} {ps:List Str} {sp:Sp} {dvs:List V} {ds:List Value} {E:XK} {x m:Str} {p pos apos:Pos} {e o:Expr} {es:List Expr} {ta:TE} {t:TA}
theorem J1 {pins:List (Addr×Obj)} {σ:St} {H:Hp} {s:Shared} {Q:VK} {us:List Value} {vs:List V} (F:FnOk X.prog X.w X.K X.mg X.base CX k f fd ps sp) (hr:Room k X.A) (hb:Binds X.K fd ps ds) (hd:Vals dvs ds) (hx:Passes CX X E)
  (I:Inv X pins σ H s) (r:Vals vs us) (h:sp (vs++dvs) H Q E):wpAny (model X.prog X.w) X.A (call (.ref f) us) (EP X pins σ Q) X.xe s:=by
 have r2:Vals (vs++dvs) (us++ds):=r.append hd
 have hl:(us++ds).length=ps.length:=by rw [<- r2.length];exact F.len _ _ _ _ h
 refine wpAny_call (codeAny_mono (F.run X.A X.stack s H ⟨us,[]⟩ (us++ds) (vs++dvs) Q E hr I.Ly (hb s us I.oX hl) r2 h) fun r s' hq=>?_)
 cases r with
 | error e=>exact hx pins σ H s e s' I hq
 | ok fl=>
  cases fl with
  | ret u=>exact I.after hq
  | next=>exact False.elim hq
  | brk=>exact False.elim hq
  | cont=>exact False.elim hq
theorem yx (F:FnOk X.prog X.w X.K X.mg X.base CX k f fd ps sp) (hr:Room k X.A) (hg:Gl X x) (hm:X.mg x=some (.ref f)) (hk:PySem.W.keepIn X.K (.ref f)=true) (hb:Binds X.K fd ps ds) (hd:Vals dvs ds) (hx:Passes CX X E)
  (ha:PA X (e::es) t) (hdb:(x == ("__debug__" : Str))=false:=by decide) (he:starEach (e::es) X.env=(false,eval e X.env)::starEach es X.env:=by rfl) (hpl:(backTo pos (starEach es X.env)).any (·.1)=false:=by rfl) :
  PE X (.Call (.Name x p) (e::es) [] pos) (Br sp dvs E t):=by
 intro pins s σ H Q I h
 refine wpAny_Call_Name_kw (lR I hg hm ?_ hdb)
 refine PySem.W.callWith_K (h₀:=X.base) I.ok.mod.kin hk (eS (ha pos pins s σ H _ I h) fun us s1 ⟨vs,H1,I1,r,q⟩=>⟨I1.oX,?_⟩) he hpl
 exact J1 F hr hb hd hx I1 r q
structure Mk (K:PySem.W.Frag) (C f:Addr):Prop where
 makes:PySem.W.makesIn K C=true
 init:PySem.W.findIn K (.ref C) "__init__" = some (some (.ref f))
 fn:PySem.W.isFn K (.ref f)=true
 kp:PySem.W.keepIn K (.ref C)=true
end
section
variable {X:Cx} {CX:A6} {k:Nat} {f C:Addr} {fd:FuncData} {ps ks:List Str} {sp:Sp} {E:XK} {x m:Str} {p pos apos kpos:Pos} {e o:Expr} {es:List Expr} {kws:List Keyword} {te ta:TE} {t tk:TA} {nm:Option Str}
structure KBinds (K:PySem.W.Frag) (fd:FuncData) (ps ks:List Str) (g:List Value->List Value->List Value) (gV:List V->List V->List V):Prop where
 to:∀ (s:Shared) (us ws:List Value),K.In s.heap->(g us ws).length=ps.length->BindsTo s fd ⟨us,ks.zip ws⟩ (ps.zip (g us ws))
 rel:∀ {vs:List V} {us:List Value} {zs:List V} {ws:List Value},Vals vs us->Vals zs ws->Vals (gV vs zs) (g us ws)
variable {g:List Value->List Value->List Value} {gV:List V->List V->List V}
end
structure FnScope (N P:List Str) (sc:Scope):Prop where
 kind:sc.kind=.function
 co:sc.isCoroutine=false
 gen:sc.isGenerator=false
 nd:N.Nodup
 pre:N.take P.length=P
 par:∀ x∈P,sc.names.lookup x=some .local\/sc.names.lookup x=some .cell
 nofree:∀ y∈sc.names,y.2≠.free
theorem qM {kindOf:Str->Option NameKind} {x:Str}:∀ {binds:List (Str×Value)} {m:Str->Option Value},(∀ v,(x,v)∉binds)->bindL kindOf binds m x=m x
 | [],_,_=>rfl
 | (n,v)::r,m,h=>by
  unfold bindL
  rw [qM fun w hw=>h w (List.mem_cons_of_mem _ hw)]
  split
  ·have:x≠n:=by rintro rfl;exact h v List.mem_cons_self
   simp [this]
  ·rfl
theorem qF {kindOf:Str->Option NameKind} {x:Str}:∀ {binds:List (Str×Value)} {m:Str->Option Value},(∀ v,(x,v)∉binds)->bindC kindOf binds m x=m x
 | [],_,_=>rfl
 | (n,v)::r,m,h=>by
  unfold bindC
  rw [qF fun w hw=>h w (List.mem_cons_of_mem _ hw)]
  split
  ·rfl
  ·have:x≠n:=by rintro rfl;exact h v List.mem_cons_self
   simp [this]
theorem qP {kindOf:Str->Option NameKind} {x:Str} {v:Value}:∀ {P:List Str} {vs:List Value} {i:Nat} {m:Str->Option Value},P.Nodup->P[i]?=some x->vs[i]?=some v->kindOf x=some .local ->
  bindL kindOf (P.zip vs) m x=some v
 | [],_,_,_,_,h,_,_=>by simp at h
 | _::_,[],_,_,_,_,h,_=>by simp at h
 | p::P,w::vs,0,m,nd,h1,h2,hk=>by
  simp at h1 h2;subst h1;subst h2
  show bindL kindOf ((p,w)::P.zip vs) m p=_
  unfold bindL
  rw [qM fun v hv=>(List.nodup_cons.mp nd).1 (List.of_mem_zip hv).1,if_pos hk]
  simp
 | p::P,w::vs,i+1,m,nd,h1,h2,hk=>by
  show bindL kindOf ((p,w)::P.zip vs) m x=_
  unfold bindL
  exact qP (i:=i) (List.nodup_cons.mp nd).2 (by simpa using h1) (by simpa using h2) hk
theorem qC {kindOf:Str->Option NameKind} {x:Str} {v:Value}:∀ {P:List Str} {vs:List Value} {i:Nat} {m:Str->Option Value},P.Nodup->P[i]?=some x->vs[i]?=some v->kindOf x≠some .local ->
  bindC kindOf (P.zip vs) m x=some v
 | [],_,_,_,_,h,_,_=>by simp at h
 | _::_,[],_,_,_,_,h,_=>by simp at h
 | p::P,w::vs,0,m,nd,h1,h2,hk=>by
  simp at h1 h2;subst h1;subst h2
  show bindC kindOf ((p,w)::P.zip vs) m p=_
  unfold bindC
  rw [qF fun v hv=>(List.nodup_cons.mp nd).1 (List.of_mem_zip hv).1,if_neg hk]
  simp
 | p::P,w::vs,i+1,m,nd,h1,h2,hk=>by
  show bindC kindOf ((p,w)::P.zip vs) m x=_
  unfold bindC
  exact qC (i:=i) (List.nodup_cons.mp nd).2 (by simpa using h1) (by simpa using h2) hk
noncomputable def start (N:List Str) (vs:List V):St:=vs.map some++List.replicate (N.length - vs.length) none
noncomputable def kQ (CX:A6) (P:Program) (w:World) (K:PySem.W.Frag) (mg:Str->Option Value) (base:Heap) (N:List Str) (qual:Str) (scope:Scope) (f:Addr) (cd:Value) (A:Around) (outer:List Env) (s:Shared) (H:Hp) (E:XK):Cx where
 prog:=P
 w:=w
 K:=K
 mg:=mg
 base:=base
 A:=A.deeper (envOfC qual scope s.heap.objs.size f cd)
 N:=N
 s₀:=s
 H₀:=H
 env:=envOfC qual scope s.heap.objs.size f cd
 outer:=outer
 stack:=envOfC qual scope s.heap.objs.size f cd::outer
 ex:=[]
 calm:=true
 fn:=fun _=>true
 pn:=[]
 xe:=fun e s'=>wpAny (model P w) (A.deeper (envOfC qual scope s.heap.objs.size f cd)) (leaving (envOfC qual scope s.heap.objs.size f cd) e) (fun _ s''=>CX outer H s E e s'') (fun e' s''=>CX outer H s E e' s'') s'
theorem uB {sc:Scope} {n:Nat} {x:Str} (h:sc.names.lookup x=some .cell):∃ c,(cellsFrom n sc.names []).lookup x=some c:=by
 have q:=PySem.W.cellsFrom_some sc.names n [] (.inl h)
 exact Option.isSome_iff_exists.mp q
theorem qH {CX:A6} {P:Program} {w:World} {K:PySem.W.Frag} {mg:Str->Option Value} {base:Heap} {N ps:List Str} {qual:Str} {scope:Scope} {f:Addr} {cd:Value} {A:Around} {outer:List Env} {s s1:Shared} {H:Hp} {E:XK} {us:List Value} {vs:List V}
  (S:FnScope N ps scope) (hd:A.handled=none) (e0:Env0 P w K mg base A outer s H) (hl:vs.length=ps.length) (r:Vals vs us)
  (x:InCallC s s.heap.objs.size (bindL (envOfC qual scope s.heap.objs.size f cd).kindOf (ps.zip us) fun _=>none) (cellsFrom (s.heap.objs.size+1) scope.names []) (bindC (envOfC qual scope s.heap.objs.size f cd).kindOf (ps.zip us) fun _=>none) s1) :
  Inv (kQ CX P w K mg base N qual scope f cd A outer s H E) [] (start N vs) H s1:=by
 have hpl:ps.length<=N.length:=by have:=congrArg List.length S.pre;rw [List.length_take] at this;omega
 obtain ⟨h1,tk,rfl,hk⟩:=x.done
 have noA:∀ b:Addr,b∉(kQ CX P w K mg base N qual scope f cd A outer s H E).ex:=fun b z=>absurd (show b∈([]:List Addr) from z) (by simp)
 refine ⟨⟨e0.mod,S.kind,rfl,rfl,Nat.le_refl _,fun y z c h1 h2=>?_,fun y hy=>?_,fun y c _ h=>?_,fun _=>hd,Around.frames_deeper e0.frames,.inr ⟨rfl,rfl⟩,fun b z=>absurd z (noA b),e0.bs,e0.bsz,fun b _ _=>noA b,fun b z=>absurd z (noA b),e0.i_,e0.frf⟩,
  rfl,e0.bare,Un.kept hk,⟨_,x.toInCall.ns,fun i y v h1 h2 h3=>?_⟩,fun y c h=>⟨_,x.cell y c h⟩,e0.hok.fresh (Nat.le_refl _),fun y c h=>?_,fun p hp=>absurd (show p∈([]:List (Addr×Obj)) from hp) (by simp),e0.hok.kept hk,?_⟩
 ·exact name_of_addr x.apart (PySem.mem_of_lookup h1) (PySem.mem_of_lookup h2)
 ·have hy:scope.names.lookup y=some .cell\/scope.names.lookup y=some .free:=hy
  rcases hy with hy | hy
  ·exact uB hy
  ·exact absurd rfl (S.nofree _ (PySem.mem_of_lookup hy))
 ·exact Nat.le_of_lt (x.above y c (PySem.mem_of_lookup h))
 ·have hi:i < vs.length:=by
   unfold start at h2
   by_cases hi:i < vs.length
   ·exact hi
   ·rw [List.getElem?_append_right (by simpa using hi)] at h2
    rw [List.getElem?_replicate] at h2
    split at h2 <;> cases h2
  have ha:vs[i]?=some v:=by
   unfold start at h2
   rw [List.getElem?_append_left (by simpa using hi),List.getElem?_map] at h2
   cases e:vs[i]? with
   | none=>rw [e] at h2;cases h2
   | some a=>rw [e] at h2;cases h2;rfl
  obtain ⟨u,hu,rv⟩:=r.get ha
  have hp:ps[i]?=some y:=by
   rw [<- S.pre,List.getElem?_take_of_lt (by omega)];exact h1
  have ndP:ps.Nodup:=by rw [<- S.pre];exact S.nd.sublist (List.take_sublist _ _)
  refine ⟨u,rv,?_⟩
  rcases S.par y (List.mem_of_getElem? hp) with k | k
  ·exact .inl ⟨k,qP ndP hp hu k⟩
  ·obtain ⟨c,e⟩:=uB (n:=s.heap.objs.size+1) k
   refine .inr ⟨.inl k,c,e,?_⟩
   have q:=x.cell y c e
   rw [qC ndP hp hu (by show scope.names.lookup y≠_;rw [k];decide)] at q
   exact q
 ·exact e0.hok.fresh (Nat.le_of_lt (x.above y c (PySem.mem_of_lookup h)))
 ·unfold start
  show _=N.length
  rw [List.length_append,List.length_map,List.length_replicate]
  omega
theorem Hs {CX:A6} {P:Program} {w:World} {K:PySem.W.Frag} {mg:Str->Option Value} {base:Heap} {k:Nat} {f:Addr} {name qual:Str} {params:Arguments} {body:List Stmt} {scope:Scope} {dV kV doc pm cdv ct oc:Value} {an od:Option Addr}
  {osl:Array (Option Value)} {N ps:List Str} {sp:Sp} (lk:K.lookup f=some ⟨oc,od,.func (PySem.W.fnOf name qual params body scope dV kV doc pm an cdv ct),osl⟩) (hcd:PySem.W.codeIn K cdv qual=true) (S:FnScope N ps scope)
  (len:∀ vs H Q E,sp vs H Q E->vs.length=ps.length)
  (hbody:∀ (A:Around) (outer:List Env) (s:Shared) (H:Hp) (vs:List V) (Q:VK) (E:XK),Room k (A.deeper (envOfC qual scope s.heap.objs.size f cdv))->sp vs H Q E ->
   ∃ t,qh (kQ CX P w K mg base N qual scope f cdv A outer s H E) body t/\t { nx:=fun _ H'=>Q .non H',rt:=Q } (start N vs) H) :
  FnOk P w K mg base CX (k+1) f (PySem.W.fnOf name qual params body scope dV kV doc pm an cdv ct) ps sp:=by
 refine ⟨len,fun A outer s H args us vs Q E hr e0 hb r hsp=>?_⟩
 have hl:=len _ _ _ _ hsp
 have KX:K.In s.heap:=e0.mod.kin.keeps fun b o e=>(e0.bs b o e).1
 have lim:s.heap.NoLimit:=e0.mod.nolimit.keeps fun b o e=>(e0.bs b o e).1
 have hkind:∀ y∈ps.zip us,scope.names.lookup y.1=some .local\/(scope.names.lookup y.1=some .cell/\((cellsFrom (s.heap.objs.size+1) scope.names []).lookup y.1).isSome=true):=fun ⟨n,v⟩ hy=>by
  rcases S.par n (List.of_mem_zip hy).1 with q | q
  ·exact .inl q
  ·exact .inr ⟨q,PySem.W.cellsFrom_some _ _ _ (.inl q)⟩
 refine codeAny_call_function hr.depth (KX _ _ lk) rfl S.co S.gen rfl (PySem.W.codeRec_of KX hcd) (hb _ _ _ _ ?_)
 refine wpAny_newFunctionEnv_cells S.kind hkind fun env he s1 x=>?_
 subst he
 refine ⟨lim.keeps x.toInCall.keep,codeAny_func ?_⟩
 obtain ⟨t,ht,hq⟩:=hbody A outer s H vs Q E (hr.deeper _) hsp
 have I:Inv (kQ CX P w K mg base N qual scope f cdv A outer s H E) [] (start N vs) H s1:=qH S hr.hd e0 hl r x
 refine wpAny_mono (ht [] s1 (start N vs) H _ I hq) (fun fl s' hs=>?_) fun e s' hs=>hs
 have fin:∀ {σ':St} {H':Hp} {v:V} {u:Value},Inv (kQ CX P w K mg base N qual scope f cdv A outer s H E) [] σ' H' s'->RelV v u->Q v H'->CE outer P w H s Q u s':=
  fun {σ' H' v u} J rv q=>⟨v,H',J.os,J.bare,J.base,J.hok,rv,q⟩
 cases fl with
 | ret u=>
  obtain ⟨v,σ',H',J,rv,q⟩:=hs
  exact fin J rv q
 | next=>
  obtain ⟨σ',H',J,q⟩:=hs
  exact fin (v:=V.non) (u:=Value.none) J rfl q
 | brk=>
  obtain ⟨_,_,_,q⟩:=hs
  exact False.elim q
 | cont=>
  obtain ⟨_,_,_,q⟩:=hs
  exact False.elim q
section
variable {X:Cx} {x:Str} {p pos:Pos} {e:Expr} {es:List Expr} {t:TA} {id T:String} {r:List V->Hp->VK->Prop}
noncomputable def MN (r:List V->Hp->VK->Prop) (t:TA):TE:=fun σ H Q=>t σ H fun vs H1=>r vs H1 Q
theorem tP (hc:bF X (.builtin id) r) (hg:Gl X x) (hm:X.mg x=none) (hv:bootBuiltins x=some (.builtin id)) (ha:PA X (e::es) t) (hn:x ≠ "__name__" := by decide) (hdb:(x == ("__debug__" : Str))=false:=by decide)
  (he:starEach (e::es) X.env=(false,eval e X.env)::starEach es X.env:=by rfl) (hpl:(backTo pos (starEach es X.env)).any (·.1)=false:=by rfl):PE X (.Call (.Name x p) (e::es) [] pos) (MN r t):=by
 intro pins s σ H Q I h
 refine wpAny_Call_Name_kw (sE I hg hm hv ?_ hn hdb)
 exact PyProof.Rows.callWith_builtin1 (eS (ha pos pins s σ H _ I h) fun us s1 ⟨vs,H1,I1,r1,q1⟩=>hc pins s1 σ H1 vs us Q I1 r1 q1) he hpl
theorem zK (hc:bF X (.type T) r) (hg:Gl X x) (hm:X.mg x=none) (hv:bootBuiltins x=some (.type T)) (ha:PA X (e::es) t) (hn:x ≠ "__name__" := by decide) (hdb:(x == ("__debug__" : Str))=false:=by decide)
  (he:starEach (e::es) X.env=(false,eval e X.env)::starEach es X.env:=by rfl) (hpl:(backTo pos (starEach es X.env)).any (·.1)=false:=by rfl):PE X (.Call (.Name x p) (e::es) [] pos) (MN r t):=by
 intro pins s σ H Q I h
 refine wpAny_Call_Name_kw (sE I hg hm hv ?_ hn hdb)
 exact PyProof.Rows.callWith_type1 (eS (ha pos pins s σ H _ I h) fun us s1 ⟨vs,H1,I1,r1,q1⟩=>hc pins s1 σ H1 vs us Q I1 r1 q1) he hpl
end
end L2
namespace HT
open PySem PyProof.Rows
noncomputable def lexLt:List Int->List Int->Bool
 | [],[]=>false
 | [],_::_=>true
 | _::_,[]=>false
 | x::xs,y::ys=>if x=y then lexLt xs ys else decide (x < y)
theorem iY (x y:Int) (xs ys:List Int):lexLt (x::xs) (y::ys)=if x=y then lexLt xs ys else decide (x < y):=rfl
theorem gX:lexLt [] []=false:=rfl
theorem eE (y:Int) (ys:List Int):lexLt [] (y::ys)=true:=rfl
theorem gh (x:Int) (xs:List Int):lexLt (x::xs) []=false:=rfl
section
open PySem.SeqAt
open PySem.AutoSeq1 (wpAny_loadPart')
open PySem.MeetsSeq PySem.MeetsSeq2 PySem.MeetsSeq3
end
section
variable {prog:Program} {w:World} {A:Around} {E:Value->Shared->Prop} {s:Shared}
theorem Fv {t b:Addr} {vs ws:List Value} {Q:Value->Shared->Prop} (ht:IsTup s.heap t vs.toArray) (hb:IsTup s.heap b ws.toArray) (hv:vs≠[])
  (h1:ws=[]->Q (.ref t) s) (h2:ws≠[]->Q (.ref s.heap.objs.size) { s with heap:=s.heap.push { cls:=.type "tuple",data:=.seq (vs++ws).toArray } })
  (hsz:vs.length+ws.length<=sizeLine):wpAny (model prog w) A (binaryOp .Add (.ref t) (.ref b)) Q E s:=by
 obtain ⟨⟨cls,dd,data,sl⟩,ho,hc,n,hd⟩:=id ht
 obtain ⟨⟨cls2,dd2,data2,sl2⟩,ho2,hc2,n2,hd2⟩:=id hb
 simp only at hc hd hc2 hd2
 subst hc hd hc2 hd2
 have e:vs.toArray++ws.toArray=(vs++ws).toArray:=by simp
 by_cases hw:ws=[]
 ·exact concat_meets ⟨_,ho,rfl⟩ ⟨_,ho2,rfl⟩ noFill_tuple_add seq_tuple_add PySem.F.slot_tuple_add PySem.F.entry_tuple_add (PySem.F.args_tuple_add_2 _ _)
   (tuple_addW1 t b vs.toArray ws.toArray n n2 dd dd2 sl sl2 (by simpa using hv) (by simp [hw])) ⟨ho,ho2,h1 hw⟩
 ·refine concat_meets ⟨_,ho,rfl⟩ ⟨_,ho2,rfl⟩ noFill_tuple_add seq_tuple_add PySem.F.slot_tuple_add PySem.F.entry_tuple_add (PySem.F.args_tuple_add_2 _ _)
   (tuple_addW2 t b vs.toArray ws.toArray n n2 dd dd2 sl sl2 (by simpa using hv) (by simpa using hw) (by rw [List.size_toArray,List.size_toArray];exact hsz)) ⟨ho,ho2,?_⟩
  rw [e]
  exact h2 hw
noncomputable def LL (n d:Nat):Option Int->Nat
 | none=>d
 | some v=>if v < 0 then (v+(n:Int)).toNat else min v.toNat n
end
end HT
namespace L2
open PySem PySem.Spec PyProof.Rows
noncomputable abbrev TO:=St->Hp->(Option Int->Hp->Prop)->Prop
theorem intsAre_of {ns:List Int}:∀ {us:List Value},Vals (ns.map V.int) us->IntsAre us ns:=by
 induction ns with
 | nil=>intro us r;rw [List.map_nil] at r;cases r;exact .nil
 | cons n ns ih=>
  intro us r
  rw [List.map_cons] at r
  cases r with
  | cons r1 r2=>
   obtain ⟨t,e⟩:=r1
   subst e
   exact .cons n t (ih r2)
section
variable {X:Cx} {e:Expr} {te:TE} {lo hi:Option Expr} {tl th:TO} {pos p2:Pos}
noncomputable def KO (K:PySem.W.Frag):R2:=fun x y H Q=>∃ a b xs ys,x=.ref a/\y=.ref b/\fC K H a xs/\fC K H b ys/\xs≠[]/\xs.length+ys.length<=sizeLine /\
 (ys=[]->Q (.ref a) H)/\(ys≠[]->∀ p,H p=none->Q (.ref p) (upd H p (.tup (xs++ys))))
theorem Vals.s_ {xs:List V} {us:List Value} (r:Vals xs us):us=[] ↔ xs=[]:=by
 cases r with
 | nil=>simp
 | cons _ _=>simp
theorem GF:gz X (binaryOp .Add) (KO X.K):=by
 intro pins s σ H x y v u Q I rx ry h
 obtain ⟨a,b,xs,ys,rfl,rfl,ha,hb,hx,hz,q1,q2⟩:=h
 cases rx
 cases ry
 obtain ⟨its,r1,p1,_⟩:=I.tuple ha
 obtain ⟨its2,r2,p2,_⟩:=I.tuple hb
 refine HT.Fv p1 p2 (fun z=>hx (r1.s_.mp z)) (fun z=>⟨.ref a,H,I,rfl,q1 (r2.s_.mp z)⟩) (fun z=>?_) (by rw [<- r1.length,<- r2.length];exact hz)
 refine ⟨.ref s.heap.objs.size,_,I.laid (t':=s.toks) (o:=.tup (xs++ys)) (fun b ob q=>Heap.get?_push_of_some _ q) (Nat.le_refl _) ?_,rfl,q2 (fun w=>z (r2.s_.mpr w)) _ (I.hok.fresh (Nat.le_refl _))⟩
 exact ⟨by rw [List.length_append];exact hz,_,r1.append r2,fW.new _ _⟩
end
noncomputable def yC (n:Nat) (i:Int):Option Nat:=if 0<=i then (if i < n then some i.toNat else none) else if -(n:Int)<=i then some (i+n).toNat else none
noncomputable def kG {α:Type} (xs:List α) (i:Int):Option α:=(yC xs.length i).bind fun j=>xs[j]?
theorem xT {n:Nat} {i:Int} {j:Nat} (h:yC n i=some j):seqIndex? i n=some j/\j < n/\-(n:Int)<=i/\i < n:=by
 unfold yC at h
 by_cases h0:0<=i
 ·rw [if_pos h0] at h
  by_cases h1:i < n
  ·rw [if_pos h1] at h
   have e:i.toNat=j:=Option.some.inj h
   exact ⟨by rw [seqIndex_of h0 h1,e],by omega,by omega,h1⟩
  ·rw [if_neg h1] at h;cases h
 ·rw [if_neg h0] at h
  by_cases h1:-(n:Int)<=i
  ·rw [if_pos h1] at h
   have e:(i+n).toNat=j:=Option.some.inj h
   exact ⟨by rw [seqIndex_neg (by omega) h1,e],by omega,h1,by omega⟩
  ·rw [if_neg h1] at h;cases h
theorem sM {α:Type} {xs:List α} {i:Int} {v:α} (h:kG xs i=some v):∃ j,seqIndex? i xs.length=some j/\xs[j]?=some v/\j < xs.length/\-(xs.length:Int)<=i/\i < xs.length:=by
 unfold kG at h
 cases e:yC xs.length i with
 | none=>rw [e] at h;cases h
 | some j=>
  rw [e] at h
  obtain ⟨h1,h2,h3,h4⟩:=xT e
  exact ⟨j,h1,h,h2,h3,h4⟩
theorem GV {α:Type} {xs:List α} {j:Nat} {v:α} (h:xs[j]?=some v):kG xs (j:Int)=some v:=by
 have hj:j < xs.length:=(List.getElem?_eq_some_iff.mp h).1
 have e:yC xs.length (j:Int)=some j:=by
  unfold yC
  rw [if_pos (by omega),if_pos (by omega)];simp
 unfold kG;rw [e];exact h
noncomputable def nI (b:Expr):Prop:=∀ o i,subscripted b false o i=operate [o,i] (getItem o i)
noncomputable def Hq (X:Cx) (r:R2):Prop:=
 ∀ (value slice:Expr) (pins:List (Addr×Obj)) (s:Shared) (σ:St) (H:Hp) (x y:V) (v u:Value) (Q:VK),Inv X pins σ H s->RelV x v->RelV y u->r x y H Q ->
  subscripted slice false v u=operate [v,u] (getItem v u)->wpAny (model X.prog X.w) X.A (subscriptTail value slice v u) (EP X pins σ Q) X.xe s
noncomputable def HD (X:Cx) (id:String) (r:V->List V->Hp->VK->Prop):Prop:=
 ∀ (pins:List (Addr×Obj)) (s:Shared) (σ:St) (H:Hp) (x:V) (xs:List V) (v:Value) (us:List Value) (Q:VK),Inv X pins σ H s->RelV x v->Vals xs us->r x xs H Q ->
  wpAny (model X.prog X.w) X.A (call (.builtin id) (v::us)) (EP X pins σ Q) X.xe s
section
variable {X:Cx} {a b:Expr} {ta tb:TE} {pos:Pos}
theorem B6 {r:R2} (hr:Hq X r) (ha:PE X a ta) (hb:PE X b tb) (hs:nI b):PE X (.Subscript a b pos) (LB r ta tb):=by
 intro pins s σ H Q I h
 exact Subscript_ (J8 ha hb I h fun v u s2 x y H2 I2 rx ry q=>hr a b pins s2 σ H2 x y v u Q I2 rx ry q (hs _ _))
noncomputable def Np (K:PySem.W.Frag):R2:=fun x y H Q=>∃ p xs i v,x=.ref p/\y=.int i/\ir K H p xs/\kG xs i=some v/\Q v H
noncomputable def M9 (K:PySem.W.Frag):R2:=fun x y H Q=>∃ p xs i v,x=.ref p/\y=.int i/\fC K H p xs/\kG xs i=some v/\Q v H
noncomputable def MR:R2:=fun x y H Q=>∃ z i c,x=.str z/\y=.int i/\z.length<=sizeLine/\kG z.cps.toList i=some c/\Q (.str ⟨#[c]⟩) H
theorem yh:Hq X (Np X.K):=by
 intro value slice pins s σ H x y v u Q I rx ry h hs
 obtain ⟨p,xs,i,z,rfl,rfl,hq,he,q⟩:=h
 cases rx
 obtain ⟨t,rfl⟩:=ry
 obtain ⟨its,r,pl,hz⟩:=I.list hq
 obtain ⟨j,h1,h2,h3,h4,h5⟩:=sM he
 obtain ⟨w,ew,rw'⟩:=r.get h2
 have hl:=r.length
 have hn:=mh
 have fin:EP X pins σ Q w s:=⟨z,H,I,rw',q⟩
 by_cases h0:0<=i
 ·have hj:i.toNat=j:=by
   rw [seqIndex_of h0 h5] at h1
   exact Option.some.inj h1
  exact item_listR pl.isList h0 (by omega) (by rw [hj];simpa using ew) fin hs
 ·have hj:(i+(its.toArray.size:Int)).toNat=j:=by
   rw [seqIndex_neg (by omega) h4] at h1
   rw [List.size_toArray,<- hl]
   exact Option.some.inj h1
  exact subscriptTail_builtinR (x:=w) pl.isList.typeIs slot_list_getitem.lookup
   (wpAny_getItem_list_neg (Q:=fun r s'=>r=w/\EP X pins σ Q r s') pl.isList (by omega) (by rw [List.size_toArray] <;> omega) (by omega) (by rw [hj];simpa using ew) ⟨rfl,fin⟩) hs
theorem Ju:Hq X (M9 X.K):=by
 intro value slice pins s σ H x y v u Q I rx ry h hs
 obtain ⟨p,xs,i,z,rfl,rfl,hq,he,q⟩:=h
 cases rx
 obtain ⟨t,rfl⟩:=ry
 obtain ⟨its,r,pl,hz⟩:=I.tuple hq
 obtain ⟨j,h1,h2,h3,h4,h5⟩:=sM he
 obtain ⟨w,ew,rw'⟩:=r.get h2
 have hl:=r.length
 have hn:=mh
 have fin:EP X pins σ Q w s:=⟨z,H,I,rw',q⟩
 exact subscriptTail_builtinR (x:=w) pl.typeIs slot_tuple_getitem.lookup
  (getItem_tuple (j:=j) (Q:=fun r s'=>r=w/\EP X pins σ Q r s') pl (by omega) (by omega) (by rw [List.size_toArray,<- hl];exact h1) (by simpa using ew) ⟨rfl,fin⟩) hs
theorem JG:Hq X MR:=by
 intro value slice pins s σ H x y v u Q I rx ry h hs
 obtain ⟨z,i,c,rfl,rfl,hz,he,q⟩:=h
 obtain ⟨t,rfl⟩:=rx
 obtain ⟨t',rfl⟩:=ry
 obtain ⟨j,h1,h2,h3,h4,h5⟩:=sM he
 have hl:z.cps.toList.length=z.length:=by simp [Str.length]
 rw [hl] at h1 h4 h5
 have hn:=mh
 exact tail_any (typeIs_str s z t) slot_str_getitem.lookup (getItem_str (c:=c) (by
  have e1:decide (i < -(2 ^ 63:Int))=false:=decide_eq_false (by omega)
  have e2:decide (i>=2 ^ 63)=false:=decide_eq_false (by omega)
  rw [e1,e2,Bool.or_false]) (by rw [h1];simpa using h2) ⟨.str ⟨#[c]⟩,H,I.tok _,⟨_,rfl⟩,q⟩) hs
theorem vD (its:List Value) (n j:Nat) (u:Value):Obj.mapSeq (·.setIfInBounds j u) { cls:=.type "list",data:=.seq its.toArray n }={ cls:=.type "list",data:=.seq (its.set j u).toArray n }:=by
 simp [Obj.mapSeq]
theorem Inv.lst {pins:List (Addr×Obj)} {σ:St} {H:Hp} {s:Shared} {p:Addr} {xs:List V} (I:Inv X pins σ H s) (h:H p=some (.lst xs)) :
  ∃ (its:List Value) (n:Nat),Vals xs its/\s.heap.get? p=some { cls:=.type "list",data:=.seq its.toArray n }/\xs.length<=sizeLine:=by
 obtain ⟨z,its,n,r,e⟩:=I.hok p _ h
 exact ⟨its,n,r,e,z⟩
theorem Inv.ID {pins:List (Addr×Obj)} {σ:St} {H:Hp} {s:Shared} {p:Addr} {xs ys:List V} {its its':List Value} {n n':Nat} {f:Obj->Obj} (I:Inv X pins σ H s) (h:H p=some (.lst xs))
  (ho:s.heap.get? p=some { cls:=.type "list",data:=.seq its.toArray n }) (hf:f { cls:=.type "list",data:=.seq its.toArray n }={ cls:=.type "list",data:=.seq its'.toArray n' }) (r:Vals ys its') (hz:ys.length<=sizeLine) (t:Nat) :
  Inv X pins σ (upd H p (.lst ys)) { s with heap:=s.heap.update p f,toks:=t }:=by
 have e:(s.heap.update p f).get? p=some { cls:=.type "list",data:=.seq its'.toArray n' }:=by
  rw [Heap.get?_update_self f ho (by rw [hf] <;> rfl),hf]
 refine I.write (x:=p) (e:=p) (by rw [h];trivial) (.inl rfl) (fun b u hb q=>(Heap.get?_update_other _ _ (Ne.symm hb)).trans q) ⟨_,e⟩ ?_
 exact ⟨hz,its',n',r,e⟩
noncomputable def KZ:V->V->V->Hp->(Hp->Prop)->Prop:=fun o i v H Q=>∃ p xs k j,o=.ref p/\i=.int k/\H p=some (.lst xs)/\yC xs.length k=some j/\Q (upd H p (.lst (xs.set j v)))
theorem set_list:AJ X KZ:=by
 intro pins s σ H o i v ov iv u Q I ro ri rv h
 obtain ⟨p,xs,k,j,rfl,rfl,hp,hj,q⟩:=h
 cases ro
 obtain ⟨t,rfl⟩:=ri
 obtain ⟨its,n,r,ho,hz⟩:=I.lst hp
 obtain ⟨h1,h2,h3,h4⟩:=xT hj
 have hl:=r.length
 have hn:=mh
 have I':Inv X pins σ (upd H p (.lst (xs.set j v))) { s with heap:=s.heap.update p (Obj.mapSeq (·.setIfInBounds j u)) }:=
  I.ID hp ho (vD its n j u) (r.set rv j) (by rw [List.length_set];exact hz) s.toks
 by_cases h0:0<=k
 ·have hk:k.toNat=j:=by
   rw [seqIndex_of h0 h4] at h1
   exact Option.some.inj h1
  exact PySem.W.ki_setAt ho h0 (by omega) (by rw [List.size_toArray,<- hl];exact h4) (by rw [hk];exact ⟨_,I',q⟩)
 ·have hk:(k+(its.toArray.size:Int)).toNat=j:=by
   rw [seqIndex_neg (by omega) h3] at h1
   rw [List.size_toArray,<- hl]
   exact Option.some.inj h1
  exact PySem.W.ki_setBack ho (by omega) (by rw [List.size_toArray,<- hl];exact h3) (by omega) (by rw [hk];exact ⟨_,I',q⟩)
theorem iU:bF X (.type "list") (fun xs H Q=>∃ p ys,xs=[.ref p]/\(ir X.K H p ys\/fC X.K H p ys)/\∀ l,H l=none->Q (.ref l) (upd H l (.lst ys))):=by
 intro pins s σ H xs us Q I r h
 obtain ⟨p,ys,rfl,hq,q⟩:=h
 obtain ⟨u,rfl,rx⟩:=vals1 r
 cases rx
 have fin:∀ (its:List Value),Vals ys its->ys.length<=sizeLine->∀ (h':Heap) (c':Nat),(∀ b o',s.heap.get? b=some o'->h'.get? b=some o') ->
   h'.get? s.heap.objs.size=some { cls:=.type "list",dict:=none,data:=.seq its.toArray c',slots:=#[] }->EP X pins σ Q (.ref s.heap.objs.size) { s with heap:=h' }:=fun its r' hz h' c' kp e=>
  ⟨.ref s.heap.objs.size,_,I.laid (t':=s.toks) kp (Nat.le_refl _) (show b_ X.prog X.w _ h' _ (.lst ys) from ⟨hz,its,c',r',e⟩),rfl,q _ (I.hok.fresh (Nat.le_refl _))⟩
 rcases hq with hq | hq
 ·obtain ⟨its,r',pl,hz⟩:=I.list hq
  have hlen:=r'.length
  obtain ⟨o,ho,hc,n,hd⟩:=pl.isList
  exact call_list_seq p (.inl rfl) ho hc hd (fun h' c' kp e=>fin its r' hz h' c' kp e) (by simp only [List.size_toArray] <;> omega)
 ·obtain ⟨its,r',pl,hz⟩:=I.tuple hq
  have hlen:=r'.length
  obtain ⟨o,ho,hc,n,hd⟩:=pl
  exact call_list_seq p (.inr rfl) ho hc hd (fun h' c' kp e=>fin its r' hz h' c' kp e) (by simp only [List.size_toArray] <;> omega)
theorem gT:bF X (.type "tuple") (fun xs H Q=>∃ p ys,xs=[.ref p]/\((ir X.K H p ys/\∀ l,H l=none->Q (.ref l) (upd H l (.tup ys)))\/(fC X.K H p ys/\Q (.ref p) H))):=by
 intro pins s σ H xs us Q I r h
 obtain ⟨p,ys,rfl,h⟩:=h
 obtain ⟨u,rfl,rx⟩:=vals1 r
 cases rx
 rcases h with ⟨hq,q⟩ | ⟨hq,q⟩
 ·obtain ⟨its,r',pl,hz⟩:=I.list hq
  have hlen:=r'.length
  refine call_tuple_list pl.isList (fun h' kp=>?_) (by simp only [List.size_toArray] <;> omega)
  have I1:Inv X pins σ H { s with heap:=h' }:=I.kept (t':=s.toks) kp
  have I2:Inv X pins σ (upd H h'.objs.size (.tup ys)) { s with heap:=h'.push { cls:=.type "tuple",data:=.seq its.toArray } }:=
   I1.laid (t':=s.toks) (fun b o e=>Heap.get?_push_of_some _ e) (Nat.le_refl _) (show b_ X.prog X.w _ _ _ (.tup ys) from ⟨hz,its,r',fW.new _ _⟩)
  exact ⟨.ref h'.objs.size,_,I2,rfl,q _ (I1.hok.fresh (Nat.le_refl _))⟩
 ·obtain ⟨its,r',pl,hz⟩:=I.tuple hq
  exact call_tuple_same pl ⟨.ref p,H,I,rfl,q⟩
noncomputable def LJ (K:PySem.W.Frag) (T:String) (x:V) (H:Hp):Prop:=match x with
 | .str _=>T = "str"
 | .int _=>T = "int"
 | .ref p=>(T = "list" /\ ∃ xs,ir K H p xs)\/(T = "tuple" /\ ∃ o,K.lookup p=some o/\o.cls=.type "tuple" /\ o.dict=none) \/
   (T = "dict" /\ ((∃ kvs,H p=some (.dK kvs))\/∃ kvs,H p=some (.dT kvs)))\/(T = "set" /\ ∃ S n,H p=some (.set S n))
 | _=>False
theorem II {pins:List (Addr×Obj)} {σ:St} {H:Hp} {s:Shared} {T:String} {x:V} {v:Value} (I:Inv X pins σ H s) (r:RelV x v) (ty:LJ X.K T x H) :
  s.TypeIs v T/\∀ a,v=.ref a->∃ ob,s.heap.get? a=some ob/\ob.dict=none:=by
 cases x with
 | str z=>
  obtain ⟨t,rfl⟩:=r
  cases (show T = "str" from ty)
  exact ⟨typeIs_str s z t,fun _ e=>nomatch e⟩
 | int i=>
  obtain ⟨t,rfl⟩:=r
  cases (show T = "int" from ty)
  exact ⟨typeIs_int s i t,fun _ e=>nomatch e⟩
 | ref p=>
  cases r
  rcases ty with ⟨rfl,xs,hq⟩ | ⟨rfl,o,hk,hc,hd⟩ | ⟨rfl,hk⟩ | ⟨rfl,S,n,hk⟩
  ·obtain ⟨its,_,pl,_⟩:=I.list hq
   refine ⟨pl.isList.typeIs,fun a e=>?_⟩
   cases e
   obtain ⟨o,n,e,c,hd,_⟩:=pl
   exact ⟨o,e,hd⟩
  ·refine ⟨⟨o,I.oX p o hk,hc⟩,fun a e=>?_⟩
   cases e
   exact ⟨o,I.oX _ o hk,hd⟩
  ·have z:∃ o,s.heap.get? p=some o/\o.ExactDict:=by
    rcases hk with ⟨kvs,hk⟩ | ⟨kvs,hk⟩
    ·obtain ⟨_,_,_,_,o,_,_,e,ex,_⟩:=I.hok p _ hk
     exact ⟨o,e,ex⟩
    ·obtain ⟨_,_,_,_,o,_,_,e,ex,_⟩:=I.hok p _ hk
     exact ⟨o,e,ex⟩
   obtain ⟨o,e,ex⟩:=z
   refine ⟨⟨o,e,ex.1⟩,fun a e2=>?_⟩
   cases e2
   exact ⟨o,e,ex.2.1⟩
  ·obtain ⟨o,_,_,_,e,ex,_⟩:=I.hok p _ hk
   refine ⟨⟨o,e,ex.1⟩,fun a e2=>?_⟩
   cases e2
   exact ⟨o,e,ex.2.1⟩
 | _=>exact False.elim ty
noncomputable def NZ (K:PySem.W.Frag) (T:String) (r:V->List V->Hp->VK->Prop) (to:TE) (t:TA):TE:=fun σ H Q=>to σ H fun x H1=>LJ K T x H1/\t σ H1 fun xs H2=>r x xs H2 Q
variable {o e:Expr} {es:List Expr} {to:TE} {t:TA} {name:Str} {apos cpos:Pos} {T id:String} {r:V->List V->Hp->VK->Prop}
theorem Ey (pa:PlainAttrs T) (slot:Slot T name id) (hty:typeOf (.builtin id)=pure (.type "method_descriptor")) (hm:HD X id r) (ho:PE X o to) (ha:PA X (e::es) t)
  (hbase:attributeBase o name X.env (eval o X.env)=eval o X.env:=by rfl)
  (hfew:((backTo cpos (starEach (e::es) X.env)).all (fun x=>!x.1) && (backToKw cpos (keywordEach [] X.env)).all (fun x=>x.1.isSome)
   && decide ((e::es).length+([]:List Keyword).length+(if ([]:List Keyword).isEmpty then 0 else 1) < 30))=true:=by rfl)
  (hline:(apos.endLine == cpos.line)=true:=by rfl) (hs:starEach (e::es) X.env=(false,eval e X.env)::starEach es X.env:=by rfl) (hplain:(backTo cpos (starEach es X.env)).any (·.1)=false:=by rfl) :
  PE X (.Call (.Attribute o name apos) (e::es) [] cpos) (NZ X.K T r to t):=by
 intro pins s σ H Q I h
 refine wpAny_Call_method_late hbase hfew hline rfl (eS (ho pins s σ H _ I h) fun v s1 ⟨x,H1,I1,r1,ty,q1⟩=>?_)
 obtain ⟨h1,h2⟩:=II I1 r1 ty
 refine ⟨T,id,pa,slot,hty,h1,h2,?_⟩
 have hA:=ha cpos pins s1 σ H1 _ I1 q1
 rw [hs] at hA ⊢
 refine Calls.callWith_builtin (by show (false || (backTo cpos (starEach es X.env)).any (·.1))=false;rw [hplain] <;> rfl) (Calls.evalArgs_plain ?_)
 exact eS hA fun us s2 ⟨vs,H2,I2,r2,q2⟩=>hm pins s2 σ H2 x vs v us Q I2 r1 r2 q2
end
noncomputable def MB (X:Cx) (id:String) (r:V->List V->Hp->VK->Prop):Prop:=
 ∀ (pins:List (Addr×Obj)) (s:Shared) (σ:St) (H:Hp) (x:V) (xs:List V) (v:Value) (us:List Value) (Q:VK),Inv X pins σ H s->RelV x v->Vals xs us->r x xs H Q ->
  wpAny (model X.prog X.w) X.A (call (.builtin id) (v::us)) (EP X pins σ Q) X.xe s
theorem Vals.one:∀ {x:V} {us:List Value},Vals [x] us->∃ u,us=[u]/\RelV x u
 | _,_,.cons r .nil=>⟨_,rfl,r⟩
theorem Vals.eraseIdx:∀ {xs:List V} {us:List Value} (i:Nat),Vals xs us->Vals (xs.eraseIdx i) (us.eraseIdx i)
 | _,_,_,.nil=>.nil
 | _,_,0,.cons _ t=>t
 | _,_,i+1,.cons r t=>.cons r (Vals.eraseIdx i t)
theorem Vals.rep {xs:List V} {us:List Value} (h:Vals xs us):∀ k:Nat,Vals (List.replicate k xs).flatten (List.replicate k us).flatten
 | 0=>.nil
 | k+1=>by
  rw [List.replicate_succ,List.replicate_succ,List.flatten_cons,List.flatten_cons]
  exact Vals.append h (Vals.rep h k)
theorem qN {α:Type}:∀ (l:List α) (i:Nat),(l.eraseIdx i).length<=l.length
 | [],_=>Nat.le_refl _
 | _::_,0=>Nat.le_succ _
 | _::r,i+1=>Nat.succ_le_succ (qN r i)
theorem foldl_rep (its:List Value):∀ (k:Nat) (acc:List Value),
  List.foldl (fun x1 x2=>x1++x2) acc.toArray (List.replicate k its.toArray)=(acc++(List.replicate k its).flatten).toArray
 | 0,acc=>by simp
 | k+1,acc=>by
  have e:acc.toArray++its.toArray=(acc++its).toArray:=by simp
  have e2:(acc++its)++(List.replicate k its).flatten=acc++(List.replicate (k+1) its).flatten:=by
   rw [List.replicate_succ,List.flatten_cons,List.append_assoc]
  rw [<- e2,<- foldl_rep its k (acc++its),<- e,List.replicate_succ,List.foldl_cons]
section
variable {X:Cx} {pins:List (Addr×Obj)} {σ:St} {H:Hp} {s:Shared} {l b:Addr} {xs ys zs:List V}
theorem Inv.Lw {its its':List Value} {n:Nat} {f:Array Value->Array Value} {t':Nat} (I:Inv X pins σ H s) (hH:H l=some (.lst xs))
  (e:s.heap.get? l=some { cls:=.type "list",data:=.seq its.toArray n }) (hf:f its.toArray=its'.toArray) (hv:Vals ys its') (hz:ys.length<=sizeLine) :
  Inv X pins σ (upd H l (.lst ys)) { s with heap:=s.heap.update l (Obj.mapSeq f),toks:=t' }:=by
 have q:=PySem.IsL.update e f
 rw [hf] at q
 refine I.write (x:=l) (e:=l) (by rw [hH];exact trivial) (.inl rfl) (fun b' u hb hu=>(Heap.get?_update_other s.heap (Obj.mapSeq f) (Ne.symm hb)).trans hu) ⟨_,q⟩ ?_
 exact ⟨hz,its',_,hv,q⟩
theorem Inv.Js {its:List Value} {t':Nat} (I:Inv X pins σ H s) (hv:Vals ys its) (hz:ys.length<=sizeLine) :
  Inv X pins σ (upd H s.heap.objs.size (.lst ys)) { s with heap:=s.heap.push { cls:=.type "list",data:=.seq its.toArray },toks:=t' }:=
 I.laid (fun _ _ q=>Heap.get?_push_of_some _ q) (Nat.le_refl _) ⟨hz,its,0,hv,Heap.get?_push_size _ rfl⟩
theorem Inv.fresh (I:Inv X pins σ H s):H s.heap.objs.size=none:=I.hok.fresh (Nat.le_refl _)
theorem Inv.A7 (I:Inv X pins σ H s) (hH:H l=some (.lst xs)):xs.length<=sizeLine/\∃ (its:List Value) (n:Nat),Vals xs its/\xs.length=its.length/\s.heap.get? l=some { cls:=.type "list",data:=.seq its.toArray n }:=by
 obtain ⟨z,its,n,r,e⟩:=I.hok l _ hH
 exact ⟨z,its,n,r,r.length,e⟩
theorem C3 {n:Nat} (h:n<=sizeLine):Builtin.List.listTooLong n=false:=by
 unfold Builtin.List.listTooLong
 exact decide_eq_false (by omega)
end
section
variable {X:Cx}
noncomputable def Fg:V->List V->Hp->VK->Prop:=fun x vs H Q=>∃ l xs y,x=.ref l/\vs=[y]/\H l=some (.lst xs)/\xs.length < sizeLine/\Q .non (upd H l (.lst (xs++[y])))
theorem qq:MB X "list.append" Fg:=by
 intro pins s σ H x vs v us Q I rx rv h
 obtain ⟨l,xs,y,rfl,rfl,hH,hz,q⟩:=h
 cases rx
 obtain ⟨u,rfl,ru⟩:=rv.one
 obtain ⟨z,its,n,r,hl,e⟩:=I.A7 hH
 refine call_meets F.slot_list_append ⟨_,e,rfl⟩ F.entry_list_append (F.args_list_append_2 _ _) (PySem.list_append l its.toArray n u (by rw [List.size_toArray];omega)) ⟨e,?_⟩
 refine ⟨.non,_,I.Lw (its':=its++[u]) hH e (by simp) (r.append (.cons ru .nil)) ?_,rfl,q⟩
 rw [List.length_append,List.length_singleton]
 omega
noncomputable def JF:V->List V->Hp->VK->Prop:=fun x vs H Q=>∃ l xs i k y,x=.ref l/\vs=[.int i]/\H l=some (.lst xs)/\-(2 ^ 63)<=i/\i < 2 ^ 63/\seqIndex? i xs.length=some k/\xs[k]?=some y/\Q y (upd H l (.lst (xs.eraseIdx k)))
theorem D7:MB X "list.pop" JF:=by
 intro pins s σ H x vs v us Q I rx rv h
 obtain ⟨l,xs,i,k,y,rfl,rfl,hH,h1,h2,hk,hy,q⟩:=h
 cases rx
 obtain ⟨u,rfl,ru⟩:=rv.one
 obtain ⟨t,rfl⟩:=ru
 obtain ⟨z,its,n,r,hl,e⟩:=I.A7 hH
 obtain ⟨w,hw,rw'⟩:=r.get hy
 refine call_meets F.slot_list_pop ⟨_,e,rfl⟩ F.entry_list_pop (F.args_list_pop_2 _ _)
  (MeetsSeq.list_pop_at l its.toArray n i t k w (fitsIndex_both h1 h2) (by rw [List.size_toArray,<- hl];exact hk) (by rw [<- Array.getElem?_toList];exact hw) (by rw [List.size_toArray];omega)) ⟨e,?_⟩
 refine ⟨y,_,I.Lw (its':=its.eraseIdx k) hH e ?_ (r.eraseIdx k) ?_,rw',q⟩
 ·show its.toArray.eraseIdxIfInBounds k=(its.eraseIdx k).toArray
  rw [List.eraseIdxIfInBounds_toArray]
 ·have:=qN xs k
  omega
noncomputable def Nn:R2:=fun x y H Q=>∃ l b xs zs,x=.ref l/\y=.ref b/\H l=some (.lst xs)/\H b=some (.lst zs)/\xs.length+zs.length<=sizeLine/\∀ p,H p=none->Q (.ref p) (upd H p (.lst (xs++zs)))
theorem J0:gz X (binaryOp .Add) Nn:=by
 intro pins s σ H x y v u Q I rx ry h
 obtain ⟨l,b,xs,zs,rfl,rfl,hH,hB,hz,q⟩:=h
 cases rx
 cases ry
 obtain ⟨z,its,n,r,hl,e⟩:=I.A7 hH
 obtain ⟨z2,its2,n2,r2,hl2,e2⟩:=I.A7 hB
 refine PySem.P.add_list e e2 ?_ (by rw [List.size_toArray,List.size_toArray];omega)
 have ea:its.toArray++its2.toArray=(its++its2).toArray:=by simp
 rw [ea]
 exact ⟨.ref _,_,I.Js (t':=s.toks) (r.append r2) (by rw [List.length_append];omega),rfl,q _ I.fresh⟩
noncomputable def M5:R2:=fun x y H Q=>∃ l k xs,x=.ref l/\y=.int k/\H l=some (.lst xs)/\-(2 ^ 63)<=k/\k < 2 ^ 63/\xs.length * k.toNat<=sizeLine /\
 ∀ p,H p=none->Q (.ref p) (upd H p (.lst (List.replicate k.toNat xs).flatten))
theorem len_rep {α:Type} (xs:List α) (k:Nat):(List.replicate k xs).flatten.length=k * xs.length:=by
 induction k with
 | zero=>simp
 | succ k ih=>rw [List.replicate_succ,List.flatten_cons,List.length_append,ih,Nat.succ_mul,Nat.add_comm]
theorem Ir:gz X (binaryOp .Mult) M5:=by
 intro pins s σ H x y v u Q I rx ry h
 obtain ⟨l,k,xs,rfl,rfl,hH,h1,h2,hz,q⟩:=h
 cases rx
 obtain ⟨t,rfl⟩:=ry
 obtain ⟨z,its,n,r,hl,e⟩:=I.A7 hH
 have hlen:its.toArray.size * k.toNat<=sizeLine:=by rw [List.size_toArray,<- hl];exact hz
 have hcap:¬ its.toArray.size * k.toNat > (2 ^ 63 - 1) / 8:=by
  have:(sizeLine:Nat)<=(2 ^ 63 - 1) / 8:=by decide
  omega
 have hfit:¬ (!Builtin.List.listFitsIndex k)=true:=by
  rw [fitsIndex_both h1 h2]
  exact Bool.false_ne_true
 have hlong:¬ Builtin.List.listTooLong (its.toArray.size * k.toNat)=true:=by
  rw [C3 hlen]
  exact Bool.false_ne_true
 have hnew:List.foldl (fun x1 x2=>x1++x2) #[] (List.replicate (if its.toArray.isEmpty=true then 0 else k.toNat) its.toArray)=(List.replicate k.toNat its).flatten.toArray:=by
  have f0:∀ m:Nat,List.foldl (fun x1 x2=>x1++x2) #[] (List.replicate m its.toArray)=(List.replicate m its).flatten.toArray:=fun m=>by
   have:=foldl_rep its m []
   rw [List.nil_append] at this
   exact this
  rw [f0]
  cases its with
  | nil=>simp
  | cons a r'=>rw [if_neg (by simp)]
 refine wpAny_binaryOp_repeat_ref (T := "list") (U := "int") (by decide) ⟨_,e,rfl⟩ (fun s'=>typeIs_int s' k t) noFill_list_mul F.fills_int_mul F.slot_int_rmul repeat_list F.slot_int_index.lookup
  (call_meets F.slot_int_rmul (typeIs_int s k t) F.entry_int_rmul (F.args_int_rmul_2 _ _) (int___rmul___int_list k t l its.toArray n)
   ⟨e,rfl,⟨_,e,rfl⟩,call_meets F.slot_list_mul ⟨_,e,rfl⟩ F.entry_list_mul (F.args_list_mul_2 _ _) (AutoListH.list___mul___list_int_3 l its.toArray n k t hfit hcap hlong) ⟨e,?_⟩⟩)
 rw [hnew]
 exact ⟨.ref _,_,I.Js (t':=s.toks) (r.rep k.toNat) (by rw [len_rep,Nat.mul_comm];exact hz),rfl,q _ I.fresh⟩
end
section
variable {prog:Program} {w:World} {A:Around} {E:Value->Shared->Prop} {s:Shared}
end
section
variable {X:Cx}
end
end L2
namespace Att
open PySem PySem.W PySem.Calls PyProof.Rows
theorem nG {P:Params} {h:Heap}:∀ (ns:List Int) (vs:List Value),WellAll P h vs (ns.map WData.int)->IntsAre vs ns:=by
 intro ns
 induction ns with
 | nil=>
  intro vs w
  rw [List.map_nil] at w
  cases w
  exact .nil
 | cons n ns ih=>
  intro vs w
  rw [List.map_cons] at w
  cases w with
  | cons a b=>
   cases a
   exact .cons _ _ (ih _ b)
theorem zJ {l:OpenLaw} {n:Nat} (hn:l.most=some n) {P:Params} {h:Heap} {args:List WData} {vals:List Value}
  (hpre:l.row.toRowW.claim.pre args=true) (hwl:WellAll P h vals args) :
  ∃ a vs ns,vals=[Value.ref a]/\args=[WData.list (ns.map WData.int)]/\h.get? a=some { cls:=.type "list",data:=.seq vs.toArray }/\IntsAre vs ns/\ns.length<=n:=by
 have hsh:WShape.hasAll [] args [.list .int]=true:=(pre_splitW hpre).1
 have hc:l.pre.holds [] { args:=args }=true:=(pre_splitW hpre).2
 obtain ⟨d,r,rfl,h1,h2⟩:=hasAllW_cons hsh
 obtain rfl:=hasAllW_nil h2
 obtain ⟨xs,rfl,h3⟩:=hasW_list h1
 obtain ⟨ns,rfl⟩:=items_int h3
 have hlen:ns.length<=n:=by
  unfold OpenLaw.pre at hc
  have h4:(WTm.not (.lt (.lit (.int (n:Int))) (.len (.arg 0)))).holds [] { args:=[.list (ns.map .int)] }=true:=by
   have h4:=(holds_andW hc).1
   rw [hn] at h4
   exact h4
  have h5:=condW_of h4 (w_not (w_lt w_lit (w_len_list (w_arg rfl))))
  rw [List.length_map] at h5
  refine Nat.le_of_not_lt fun q=>?_
  have q':(n:Int) < ((ns.length:Nat):Int):=by omega
  first
   | (rw [decide_eq_true q'] at h5;exact absurd h5 (by decide))
   | (simp at h5;omega)
 cases hwl with
 | cons w1 w2=>
  cases w2
  cases w1 with
  | list ho hall=>exact ⟨_,_,ns,rfl,rfl,ho,nG ns _ hall,hlen⟩
theorem zO (l:OpenLaw) (args:List WData):l.row.toRowW.claim.post args (.bool true) args=true:=
 postW_of (r:=l.row.toRowW) (X:=(true == true))
  (show WShape.has [] (.bool true) .bool=true by first | rfl | decide | simp [WShape.has,WShape.arms,WShape.armsAll])
  (show (WTm.eq .res (.lit (.bool true))).value [] { args:=args,res:=some (.bool true),after:=args }=some (.bool (true == true)) from w_eq_bool (w_res rfl) w_lit) rfl
theorem uU {l:OpenLaw} {n:Nat} {q:Program} {loose:List Str} {XP:(Str->Option Value)->Heap->Prop} {YP:World->Heap->Prop} {d:DefRec}
  (hn:l.most=some n) (hdf:d.params.defaults=[])
  (call:∀ (w:World) (s₀ s₁:Shared) (mg mb:Str->Option Value) (fa:Addr) (o:Obj) (pm cd doc:Value) (a:Addr) (vs:List Value) (ns:List Int),
   Ground q loose [] XP w s₀ mg mb s₁.heap->YP w s₁.heap ->
   s₁.heap.get? fa=some o->o.data=.func (docDef d.name d.params d.body d.scope pm cd doc)->s₁.heap.CodeRec cd d.name->mg d.name=some (.ref fa) ->
   s₁.heap.get? a=some { cls:=.type "list",data:=.seq vs.toArray }->IntsAre vs ns->ns.length<=n->s₁.gens=#[] ->
   codeAny (model l.prog w) callerA (.call (.ref fa) ⟨[.ref a],[]⟩) (fun r s'=>r=.ok (.ret (.bool true))/\OldK s₁.heap s'.heap/\s'.os=s₁.os/\AllBare s'.gens) s₁) :
  WalkO q loose XP YP l.row.toRowW d [] (fun f vs=>PySem.call f vs):=by
 intro w s₀ s₁ mg mb G Y fa o pm cd doc dV kV ho hd hcd hD hmg hg args vals as hpre hlay hrd hwl hlo
 obtain rfl:dV=.none:=Dflts.none hD hdf
 obtain rfl:kV=.none:=Dflts.noKw hD
 obtain ⟨a,vs,ns,rfl,rfl,hobj,hints,hlen⟩:=zJ hn hpre hwl
 refine enter_call (codeAny_mono (call w s₀ s₁ mg mb fa o pm cd doc a vs ns G Y ho (fd_plain hd) hcd hmg hobj hints hlen hg) fun r s' hq=>?_)
 obtain ⟨rfl,h2,h3,h4⟩:=hq
 exact ⟨.inl ⟨.bool true,.bool true,[],rfl,fun _=>rfl,.bool true,zO l _,fun _=>⟨List.Pairwise.nil,fun _ hm=>(nomatch hm)⟩⟩,h2,h3,h4⟩
section
variable {prog:Program} {w:World} {A:Around} {E:Value->Shared->Prop} {s:Shared} {K:Frag}
end
end Att
namespace L2
open PySem PySem.Spec PyProof.Rows
theorem qk:∀ {vs:List Value} {ns:List Int},IntsAre vs ns->Vals (ns.map V.int) vs
 | _,_,.nil=>.nil
 | _,_,.cons n t h=>.cons ⟨t,rfl⟩ (qk h)
noncomputable def FP (H:Hp):Prop:=∀ b,H b=none\/∃ o xs,H b=some (.frz o (.lst xs))
theorem Dm {P:Program} {w:World} {K:PySem.W.Frag} {mg mb:Str->Option Value} {CX:A6} {k:Nat} {fa a:Addr} {fd:FuncData} {x:Str} {sp:Sp} {s₁:Shared} {vs:List Value} {ns:List Int}
  (KX:K.In s₁.heap) (hns:s₁.heap.Ns mainGlobals mg) (hb:s₁.heap.Ns builtinsNs mb) (hbb:∀ x:Str,x ≠ "__name__" -> mb x=bootBuiltins x) (hlim:s₁.heap.NoLimit) (hg:s₁.gens=#[])
  (ha:s₁.heap.get? a=some { cls:=.type "list",data:=.seq vs.toArray }) (hi:IntsAre vs ns) (hl:ns.length<=sizeLine) (hr:Room k callerA)
  (F:∀ base:Heap,K.In base->base.Ns mainGlobals mg->FnOk P w K mg base CX k fa fd [x] sp) (hbind:∀ (s:Shared) (u:Value),BindsTo s fd ⟨[u],[]⟩ [(x,u)])
  (hsp:∀ H:Hp,FP H->ir K H a (ns.map V.int)->sp [.ref a] H (fun v _=>v=.bl true) fun _ _ _=>False)
  (hCX:∀ H e s',CX [] H s₁ (fun _ _ _=>False) e s'->False) :
  codeAny (model P w) callerA (.call (.ref fa) ⟨[.ref a],[]⟩) (fun r s'=>r=.ok (.ret (.bool true))/\OldK s₁.heap s'.heap/\s'.os=s₁.os/\AllBare s'.gens) s₁:=by
 have rv:=qk hi
 have lenV:=hi.length
 have core:∀ H:Hp,FP H->ir K H a (ns.map V.int)->j_ P w H s₁.heap->(∀ b,H b≠none->b=a)->(H a≠none->K.lookup a=none) ->
   codeAny (model P w) callerA (.call (.ref fa) ⟨[.ref a],[]⟩) (fun r s'=>r=.ok (.ret (.bool true))/\OldK s₁.heap s'.heap/\s'.os=s₁.os/\AllBare s'.gens) s₁:=by
  intro H hO hS hok hA hK
  have base_of:∀ {b:Addr} {o:Obj},s₁.heap.get? b=some o->H b=none->(sF s₁.heap H).get? b=some o:=fun e n=>CZ e n
  have noA:∀ {b:Addr} {o:Obj} {es:Array DictEntry} {ep:Nat},s₁.heap.get? b=some o->o.data=.dict es ep->H b=none:=fun {b o es ep} e d=>by
   cases q:H b with
   | none=>rfl
   | some u=>
    have e':b=a:=hA b (by rw [q];simp)
    subst e'
    rw [ha] at e;cases e
    have d':Data.seq vs.toArray _=Data.dict es ep:=d
    cases d'
  have nsK:∀ {b:Addr} {m:Str->Option Value},s₁.heap.Ns b m->(sF s₁.heap H).Ns b m:=fun {b m} ⟨o,es,ep,e,d,r⟩=>⟨o,es,ep,base_of e (noA e d),d,r⟩
  have hKb:K.In (sF s₁.heap H):=fun b o e=>base_of (KX b o e) (by
   cases q:H b with
   | none=>rfl
   | some u=>
    have e':b=a:=hA b (by rw [q];simp)
    subst e'
    rw [hK (by rw [q];simp)] at e;cases e)
  have hM:Mod K mg (sF s₁.heap H):=⟨hKb,nsK hns,⟨mb,nsK hb,hbb⟩,let ⟨mc,h1,h2⟩:=hlim;⟨mc,nsK h1,h2⟩⟩
  have e0:Env0 P w K mg (sF s₁.heap H) callerA [] s₁ H:=⟨rfl,hM,fun b o e=>GJ e,Nat.le_of_eq (A1 _ _),trivial,fun b hb=>absurd (show b∈([]:List Addr) from hb) (by simp),hok,.of_eq hg⟩
  refine codeAny_mono ((F _ hKb (nsK hns)).run callerA [] s₁ H ⟨[.ref a],[]⟩ [.ref a] [.ref a] _ _ hr e0 (hbind s₁ (.ref a)) (.cons rfl .nil) (hsp H hO hS)) fun r s' h=>?_
  cases r with
  | error e=>exact (hCX H e s' h).elim
  | ok fl=>
   cases fl with
   | next=>exact False.elim h
   | brk=>exact False.elim h
   | cont=>exact False.elim h
   | ret u=>
    obtain ⟨v,H',os,bare,un,hok',r',q⟩:=h
    have q':v=.bl true:=q
    subst q'
    obtain rfl:u=Value.bool true:=r'
    refine ⟨rfl,OldK.of_keep fun b o e=>?_,os,bare⟩
    cases q:H b with
    | none=>exact un.keep b o e q (by intro z;exact absurd (show b∈([]:List Addr) from z) (by simp)) (by simp)
    | some u=>
     rcases hO b with z | ⟨ob,xs,z⟩
     ·rw [q] at z;cases z
     ·have z2:=un.frzs b ob _ z
      obtain ⟨e1,_⟩:=hok b _ z
      obtain ⟨e2,_⟩:=hok' b _ z2
      rw [e] at e1;cases e1
      exact e2
 cases hk:K.lookup a with
 | some o=>
  have e:=KX a o hk
  rw [ha] at e
  cases e
  refine core (fun _=>none) (fun _=>.inl rfl) (.inr ⟨_,vs.toArray,_,hk,rfl,rfl,rfl,by rw [List.size_toArray,lenV];exact hl,by simpa using rv⟩) (fun b u z=>by have z':(none:Option HO)=some u:=z;cases z') (fun b z=>absurd rfl z) fun z=>absurd rfl z
 | none=>
  refine core (fun b=>if b=a then some (.frz { cls:=.type "list",data:=.seq vs.toArray } (.lst (ns.map V.int))) else none) (fun b=>?_) (.inl (.inr ⟨{ cls:=.type "list",data:=.seq vs.toArray },if_pos rfl⟩)) (fun b u z=>?_) (fun b z=>?_) fun _=>hk
  ·by_cases hb:b=a
   ·exact .inr ⟨_,_,if_pos hb⟩
   ·exact .inl (if_neg hb)
  ·by_cases hb:b=a
   ·have z':=(if_pos hb).symm.trans z
    cases z'
    subst hb
    exact ⟨ha,by rw [List.length_map];exact hl,vs,_,rv,ha⟩
   ·have z':=(if_neg hb).symm.trans z
    cases z'
  ·by_cases hb:b=a
   ·exact hb
   ·exact absurd (if_neg hb) z
theorem FN {l:PySem.W.OpenLaw} {n k:Nat} {q:Program} {loose:List Str} {XP:(Str->Option Value)->Heap->Prop} {YP:World->Heap->Prop} {d:DefRec} {K:Params->PySem.W.Frag} {CX:World->A6} {sp:World->Sp} {x:Str}
  (hn:l.most=some n) (hn2:n<=sizeLine) (hdf:d.params.defaults=[]) (hr:Room k callerA)
  (hY:∀ (w:World) (h:Heap),YP w h->(K w.params).In h)
  (F:∀ (w:World) (mg:Str->Option Value) (fa:Addr) (h:Heap),(K w.params).In h->h.Ns mainGlobals mg->mg d.name=some (.ref fa) ->
   ∃ fd:FuncData,(∀ (s:Shared) (u:Value),BindsTo s fd ⟨[u],[]⟩ [(x,u)]) /\
    ∀ base:Heap,(K w.params).In base->base.Ns mainGlobals mg->FnOk l.prog w (K w.params) mg base (CX w) k fa fd [x] (sp w))
  (hsp:∀ (w:World) (H:Hp) (a:Addr) (ns:List Int),ns.length<=n->FP H->ir (K w.params) H a (ns.map V.int)->sp w [.ref a] H (fun v _=>v=.bl true) fun _ _ _=>False)
  (hCX:∀ (w:World) (H:Hp) (s:Shared) (e:Value) (s':Shared),CX w [] H s (fun _ _ _=>False) e s'->False) :
  PySem.W.WalkO q loose XP YP l.row.toRowW d [] (fun f vs=>PySem.call f vs):=by
 refine Att.uU hn hdf fun w s₀ s₁ mg mb fa o pm cd doc a vs ns G Y ho hd hcd hmg hobj hints hlen hg=>?_
 have KX:=hY w _ Y
 obtain ⟨fd,hb,hF⟩:=F w mg fa _ KX G.T.g hmg
 exact Dm KX G.T.g G.T.b G.T.builtins G.T.nolimit hg hobj hints (Nat.le_trans hlen hn2) hr hF hb (fun H hO hS=>hsp w H a ns hlen hO hS) fun H e s'=>hCX w H s₁ e s'
noncomputable def aW (s:Stmt):Arguments:=match s with
 | .FunctionDef _ a _ _ _ _ _ _ _ _=>a
 | _=>{ posonlyargs:=[],args:=[],vararg:=none,kwonlyargs:=[],kw_defaults:=[],kwarg:=none,defaults:=[] }
noncomputable def aR (s:Stmt):List Stmt:=match s with
 | .FunctionDef _ _ b _ _ _ _ _ _ _=>b
 | _=>[]
noncomputable def aC (s:Stmt):Scope:=match s with
 | .FunctionDef _ _ _ _ _ _ sc _ _ _=>sc
 | _=>{ kind:=.function,names:=[],isGenerator:=false,isCoroutine:=false }
noncomputable abbrev jn:A6:=fun _ _ _ _ _ _=>False
noncomputable abbrev E0:XK:=fun _ _ _=>False
theorem LF {X:Cx}:Passes jn X E0:=fun _ _ _ _ _ _ _ h=>h.elim
structure Fun (K:PySem.W.Frag) (x qual:Str) (st:Stmt) (f:Addr) (fd:FuncData):Prop where
 ex:∃ (oc:Value) (od:Option Addr) (kV doc pm:Value) (an:Option Addr) (cdv ct:Value) (osl:Array (Option Value)),
  fd=PySem.W.fnOf x qual (aW st) (aR st) (aC st) .none kV doc pm an cdv ct/\K.lookup f=some ⟨oc,od,.func fd,osl⟩/\PySem.W.codeIn K cdv qual=true
 kp:PySem.W.keepIn K (.ref f)=true
section
variable {P:Program} {w:World} {K:PySem.W.Frag} {mg:Str->Option Value} {base:Heap}
theorem Fun.ok {x qual:Str} {st:Stmt} {f:Addr} {fd:FuncData} {N ps:List Str} {k:Nat} {sp:Sp} (F:Fun K x qual st f fd) (S:FnScope N ps (aC st)) (len:∀ vs H Q E,sp vs H Q E->vs.length=ps.length)
  (hbody:∀ (cdv:Value) (A:Around) (outer:List Env) (s:Shared) (H:Hp) (vs:List V) (Q:VK) (E:XK),Room k (A.deeper (envOfC qual (aC st) s.heap.objs.size f cdv))->sp vs H Q E ->
   ∃ t,qh (kQ jn P w K mg base N qual (aC st) f cdv A outer s H E).KQ (aR st) t/\t { nx:=fun _ H'=>Q .non H',rt:=Q } (start N vs) H):FnOk P w K mg base jn (k+1) f fd ps sp:=by
 obtain ⟨oc,od,kV,doc,pm,an,cdv,ct,osl,rfl,lk,hcd⟩:=F.ex
 refine Hs lk hcd S len fun A outer s H vs Q E hr hsp=>?_
 obtain ⟨t,h,q⟩:=hbody cdv A outer s H vs Q E hr hsp
 exact ⟨t,h.KQ,q⟩
theorem Fun.binds {x qual:Str} {st:Stmt} {f:Addr} {fd:FuncData} {ps:List Str} (F:Fun K x qual st f fd)
  (h:∀ (kV doc pm:Value) (an:Option Addr) (cdv ct:Value) (us:List Value),us.length=ps.length->bindArgs (PySem.W.fnOf x qual (aW st) (aR st) (aC st) .none kV doc pm an cdv ct) ⟨us,[]⟩=pure (ps.zip us)):Binds K fd ps []:=by
 obtain ⟨oc,od,kV,doc,pm,an,cdv,ct,osl,rfl,lk,hcd⟩:=F.ex
 exact .all (h kV doc pm an cdv ct)
theorem bM {x qual:Str} {st:Stmt} {f:Addr} {oc:Value} {od an:Option Addr} {osl:Array (Option Value)} {kV doc pm cdv ct:Value} (l:K.lookup f=some ⟨oc,od,.func (PySem.W.fnOf x qual (aW st) (aR st) (aC st) .none kV doc pm an cdv ct),osl⟩)
  (c:PySem.W.codeIn K cdv qual=true) (k:PySem.W.keepIn K (.ref f)=true):Fun K x qual st f (PySem.W.fnOf x qual (aW st) (aR st) (aC st) .none kV doc pm an cdv ct):=⟨⟨oc,od,kV,doc,pm,an,cdv,ct,osl,rfl,l,c⟩,k⟩
end
section
variable {X:Cx}
theorem pv (i:Nat) {x:Str} {pos:Pos} (hN:X.N[i]?=some x:=by rfl) (hv:L4 X.env.scope x:=by first | exact Or.inl rfl | exact Or.inr (Or.inl rfl) | exact Or.inr (Or.inr rfl)) (hd:(x == ("__debug__" : Str))=false:=by decide)
  (hcd:(x == ("__classdict__" : Str))=false:=by decide):PE X (.Name x pos) (KP i):=DN hN hv hd hcd
end
set_option maxHeartbeats 4000000
noncomputable def Iu (σ:St):Option Nat->Option V
 | some j=>(σ[j]?).getD none
 | none=>none
noncomputable def kP (env:Env):List (Str×NameKind)->List (Str×Addr)->List (Str×Addr)
 | [],cs=>cs
 | (n,k)::r,cs=>kP env r (if k == .free then (n,(env.cells.lookup n).getD 0)::cs else cs)
theorem wm {scope:Scope} {env:Env} (h:∀ y∈scope.names,y.2=.free->∃ c,env.cells.lookup y.1=some c):closureFor scope env=pure (kP env scope.names []):=by
 have key:∀ (l:List (Str×NameKind)) (cs:List (Str×Addr)),(∀ y∈l,y.2=.free->∃ c,env.cells.lookup y.1=some c) ->
   (forIn l cs (fun (x:Str×NameKind) (r:List (Str×Addr))=>(match x with
    | (name,kind)=>if (kind == NameKind.free)=true then (do let c <- cellOf env name;pure (ForInStep.yield ((name,c)::r))) else pure (ForInStep.yield r):Sem (ForInStep (List (Str×Addr))))))=(pure (kP env l cs):Sem (List (Str×Addr))):=by
  intro l
  induction l with
  | nil=>intro cs _;rfl
  | cons y r ih=>
   intro cs hl
   obtain ⟨n,k⟩:=y
   rw [List.forIn_cons]
   by_cases hk:k=.free
   ·subst hk
    obtain ⟨c,hc⟩:=hl (n,.free) List.mem_cons_self rfl
    have e1:cellOf env n=pure c:=by
     unfold cellOf
     rw [hc]
    simp only [beq_self_eq_true,if_true,e1,pure_bind]
    rw [ih _ (fun z hz=>hl z (List.mem_cons_of_mem _ hz))]
    simp only [kP,beq_self_eq_true,if_true,hc,Option.getD_some]
   ·have hb:(k == NameKind.free)=false:=by simpa using hk
    simp only [hb,Bool.false_eq_true,if_false,pure_bind]
    rw [ih _ (fun z hz=>hl z (List.mem_cons_of_mem _ hz))]
    simp only [kP,hb,Bool.false_eq_true,if_false]
 have:=key scope.names [] h
 exact (congrArg (fun z=>z >>= fun cs=>(pure cs:Sem (List (Str×Addr)))) this).trans (pure_bind _ _)
theorem pL:∀ {l:List (Str×NameKind)} {x:Str} {k:NameKind},l.lookup x=some k->(x,k)∈l
 | [],_,_,h=>nomatch h
 | (n,k')::r,x,k,h=>by
  rw [List.lookup_cons] at h
  cases hx:x == n with
  | true=>
   rw [hx] at h
   have e:x=n:=by simpa using hx
   subst e
   cases h
   exact List.mem_cons_self
  | false=>rw [hx] at h;exact List.mem_cons_of_mem _ (pL h)
theorem qi {env:Env} {x:Str} {c:Addr}:∀ {l:List (Str×NameKind)} {cs:List (Str×Addr)},(∀ y∈l,y.2=.free->∃ c,env.cells.lookup y.1=some c)->(kP env l cs).lookup x=some c->env.cells.lookup x=some c\/cs.lookup x=some c
 | [],cs,_,h=>.inr h
 | (n,k)::r,cs,hl,h=>by
  have h':=qi (l:=r) (fun z hz=>hl z (List.mem_cons_of_mem _ hz)) h
  rcases h' with h' | h'
  ·exact .inl h'
  ·by_cases hk:k=.free
   ·subst hk
    simp only [beq_self_eq_true,if_true] at h'
    obtain ⟨c',hc⟩:=hl (n,.free) List.mem_cons_self rfl
    rw [hc,Option.getD_some,List.lookup_cons] at h'
    cases hx:x == n with
    | true=>
     rw [hx] at h'
     have e:x=n:=by simpa using hx
     subst e
     left
     rw [hc];exact h'
    | false=>rw [hx] at h';exact .inr h'
   ·have hb:(k == NameKind.free)=false:=by simpa using hk
    simp only [hb,Bool.false_eq_true,if_false] at h'
    exact .inr h'
theorem qQ {env:Env} {x:Str}:∀ {l:List (Str×NameKind)} {cs:List (Str×Addr)},(cs.lookup x).isSome=true->((kP env l cs).lookup x).isSome=true
 | [],cs,h=>h
 | (n,k)::r,cs,h=>by
  show ((kP env r _).lookup x).isSome=true
  refine qQ (l:=r) ?_
  by_cases hk:(k == NameKind.free)=true
  ·rw [if_pos hk,List.lookup_cons]
   cases hx:x == n with
   | true=>rfl
   | false=>exact h
  ·rw [if_neg hk];exact h
theorem pM {env:Env} {x:Str}:∀ {l:List (Str×NameKind)} {cs:List (Str×Addr)},(x,NameKind.free)∈l->((kP env l cs).lookup x).isSome=true
 | [],_,h=>nomatch h
 | (n,k)::r,cs,h=>by
  rcases List.mem_cons.mp h with e | h
  ·cases e
   show ((kP env r _).lookup x).isSome=true
   refine qQ (l:=r) ?_
   rw [if_pos (by rfl),List.lookup_cons]
   simp
  ·exact pM (l:=r) h
noncomputable def dX (X:Cx) (scope:Scope) (N:List Str) (C:Addr) (s₀:Shared) (H₀:Hp) (ex:List Addr):Cx where
 prog:=X.prog
 w:=X.w
 K:=X.K
 mg:=X.mg
 base:=X.base
 A:=X.A
 N:=N
 s₀:=s₀
 H₀:=H₀
 env:=compEnvC scope (kP X.env scope.names []) C X.env
 outer:=X.stack
 stack:=X.stack
 ex:=ex
 fn:=fun _=>false
 calm:=X.calm
 pn:=[]
 xe:=fun _ _=>False
structure CpScope (X:Cx) (scope:Scope) (N:List Str) (cap:List (Option Nat)):Prop where
 kind:scope.kind=.function
 nocell:∀ y∈scope.names,y.2≠.cell
 nm:∀ y∈scope.names,y.2=.local->scope.names.lookup y.1=some .local
 fr:∀ y∈scope.names,y.2=.free->X.env.kindOf y.1=some .cell\/X.env.kindOf y.1=some .free
 rl:∀ y,((relabel scope X.env).names.lookup y=some .cell\/(relabel scope X.env).names.lookup y=some .free)->(y,NameKind.free)∈scope.names
 len:cap.length=N.length
 nolf:∀ x,(x,NameKind.free)∈scope.names->scope.names.lookup x≠some .local
 cp:∀ (i j:Nat) (x:Str),N[i]?=some x->cap[i]?=some (some j)->X.N[j]?=some x/\(x,NameKind.free)∈scope.names
theorem JQ {X:Cx} {scope:Scope} {N:List Str} {cap:List (Option Nat)} {pins:List (Addr×Obj)} {σ:St} {H:Hp} {s:Shared} {fp:List Addr} {h₁:Heap} {m:Str->Option Value} {tk:Nat} (S:CpScope X scope N cap) (I:Inv X pins σ H s)
  (hf:∀ b∈fp,m5 X pins H b) (ho:∀ b∈fp,∃ o,s.heap.get? b=some o) (hn:h₁.Ns s.heap.objs.size m) (hk:∀ b o,s.heap.get? b=some o->h₁.get? b=some o) :
  Inv (dX X scope N s.heap.objs.size s H fp) [] (cap.map (Iu σ)) H { s with heap:=h₁,toks:=tk }:=by
 have hfree:∀ y∈scope.names,y.2=.free->∃ c,X.env.cells.lookup y.1=some c:=fun y hy e=>I.ok.has _ (S.fr y hy e)
 have lk:∀ x c,(kP X.env scope.names []).lookup x=some c->X.env.cells.lookup x=some c:=fun x c e=>by
  rcases qi hfree e with z | z
  ·exact z
  ·cases z
 have lt:∀ b o,s.heap.get? b=some o->b≠s.heap.objs.size:=fun b o e=>Nat.ne_of_lt (Heap.lt_size e)
 refine ⟨⟨I.ok.mod,?_,I.ok.glob,I.ok.blt,Nat.le_refl _,?_,?_,?_,I.ok.hd,I.ok.frames,.inl rfl,?_,I.bs,Nat.le_trans I.ok.bsz I.sz,?_,?_,I.stack,I.nN⟩,rfl,I.bare,Un.kept hk,?_,?_,I.hok.fresh (Nat.le_refl _),?_,?_,I.hok.kept hk,?_⟩
 ·exact S.kind
 ·intro x y c e1 e2
  exact I.ok.inj x y c (lk x c e1) (lk y c e2)
 ·intro x e
  have hm:=S.rl x e
  have:=pM (env:=X.env) (cs:=[]) hm
  exact Option.isSome_iff_exists.mp this
 ·intro x c e _
  exact absurd e (by simp [dX])
 ·intro b hb
  obtain ⟨o,e⟩:=ho b hb
  refine ⟨lt b o e,fun x c e2=>(hf b hb).2.2.2.2.1 x c (lk x c e2)⟩
 ·intro b o e hb
  obtain ⟨_,_,_,h3,_⟩:=hf b hb
  rcases h3 with z | z
  ·exact I.ok.noex b o e z
  ·exact absurd (Nat.lt_of_lt_of_le (Heap.lt_size (I.ok.bs b o e).1) z) (Nat.lt_irrefl _)
 ·intro b hb hz
  obtain ⟨_,h1,h2,_⟩:=hf b hb
  rcases List.mem_cons.mp (I.oY b hz) with z | z
  ·exact h1 z
  ·exact h2 z
 ·refine ⟨m,hn,fun i x v e1 e2 e3=>?_⟩
  rw [List.getElem?_map] at e2
  cases hc:cap[i]? with
  | none=>rw [hc] at e2;cases e2
  | some oj=>
   rw [hc] at e2
   cases oj with
   | none=>cases e2
   | some j=>
    have e2':(σ[j]?).getD none=some v:=Option.some.inj e2
    obtain ⟨hj,hm⟩:=S.cp i j x e1 hc
    obtain ⟨m0,hn0,hl0⟩:=I.loc
    have hσ:σ[j]?=some (some v):=by
     cases h:σ[j]? with
     | none=>rw [h] at e2';cases e2'
     | some z=>rw [h,Option.getD_some] at e2';rw [e2']
    have hkd:=S.fr (x,.free) hm rfl
    have hv:L4 X.env.scope x:=.inr hkd
    obtain ⟨u,ru,lo⟩:=hl0 j x v hj hσ hv
    refine ⟨u,ru,?_⟩
    rcases lo with ⟨lo,_⟩ | ⟨_,c,ec,ic⟩
    ·rcases hkd with z | z <;> (rw [z] at lo;cases lo)
    ·have h2:=pM (env:=X.env) (cs:=[]) hm
     obtain ⟨c',hc'⟩:=Option.isSome_iff_exists.mp h2
     have:c'=c:=Option.some.inj ((lk x c' hc').symm.trans ec)
     subst this
     refine .inr ⟨?_,c',hc',?_⟩
     ·rcases e3 with z | z | z
      ·exfalso
       have:(relabel scope X.env).names.lookup x=some .local:=z
       have hloc:scope.names.lookup x=some .local:=by
        have hmem:∃ k,(x,k)∈(relabel scope X.env).names/\k=.local:=by
         clear hc' h2
         have:=pL this
         exact ⟨_,this,rfl⟩
        obtain ⟨k,hk1,rfl⟩:=hmem
        obtain ⟨⟨n',k'⟩,hm1,hm2⟩:=List.mem_map.mp hk1
        dsimp only at hm2
        split at hm2
        ·cases hm2
        ·cases hm2
         exact S.nm (x,.local) hm1 rfl
       exact False.elim (S.nolf x hm hloc)
      ·exact .inl z
      ·exact .inr z
     ·obtain ⟨o,ho',hd⟩:=ic
      exact ⟨o,hk _ _ ho',hd⟩
 ·intro x c e
  obtain ⟨v,o,ho',hd⟩:=I.cell x c (lk x c e)
  exact ⟨v,o,hk _ _ ho',hd⟩
 ·intro x c e
  exact I.freeC x c (lk x c e)
 ·intro p hp
  cases hp
 ·rw [List.length_map,S.len]
  rfl
noncomputable def IK (X:Cx) (ifs:List Expr) (t:TT):Prop:=
 ∀ (pins:List (Addr×Obj)) (s:Shared) (σ:St) (H:Hp) (Q:Bool->Hp->Prop),Inv X pins σ H s->t σ H Q ->
  wpAny (model X.prog X.w) X.A (forIn ifs true fun c r=>if r=true then do let ok <- isTrue c X.env (eval c X.env);pure (ForInStep.yield ok) else pure (ForInStep.yield r)) (TP X pins σ Q) X.xe s
noncomputable def Nh:TT:=fun _ H Q=>Q true H
theorem Fj {X:Cx}:IK X [] Nh:=fun _ _ _ H _ I h=>wpAny_tests_nil ⟨H,I,h⟩
theorem GU {X:Cx} {c:Expr} {t:TT} (h:PT X c t):IK X [c] t:=fun pins s σ H Q I q=>wpAny_tests_one (h pins s σ H Q I q)
noncomputable def Jo (cap:List (Option Nat)) (g:TG) (tc:TT) (te:TE) (σ:St) (Q:VK) (J:It) (H1:Hp):Prop:=∀ D,H1 D=none ->
 ∃ W:Nat->Nat->St->Hp->Prop,(∃ m,W 0 m (cap.map (Iu σ)) (upd H1 D (.lst [])))/\∀ i m σ' H',W i m σ' H' ->
  (J.stop i H'/\Q (.ref D) H')\/(J.go i H'/\∀ x H2,J.yld i H' x H2->g x σ' H2 fun σ3 H3=>tc σ3 H3 fun b H4=>
   if b=true then te σ3 H4 fun y H5=>∃ ys,H5 D=some (.lst ys)/\ys.length < sizeLine/\∃ m',m' < m/\W (i+1) m' σ3 (upd H5 D (.lst (ys++[y])))
   else ∃ m',m' < m/\W (i+1) m' σ3 H4)
noncomputable def Lq (cap:List (Option Nat)) (wi:TI) (g:TG) (tc:TT) (te:TE):TE:=fun σ H Q=>wi σ H (Jo cap g tc te σ Q)
theorem Gk {α:Type} {t:Sem α} {Q Q':α->Shared->Prop} {M:Model} {A:Around} {E:Value->Shared->Prop} {s:Shared} (h:wpAny M A t Q (fun _ _=>False) s) (hQ:∀ a s,Q a s->Q' a s):wpAny M A t Q' E s:=
 wpAny_mono h hQ fun _ _ f=>f.elim
structure TurnG (ok:Cx->Prop) (P:Program) (w:World) (K:PySem.W.Frag) (tg:Expr) (J:It) (fp:List Addr) (it:Addr) (tn:Nat->Heap->Prop):Prop where
 obj:∀ i h,tn i h->∀ b∈fp,∃ o,h.get? b=some o/\∀ v,o.data≠.cell v
 keep:∀ i h h',tn i h->(∀ b∈fp,∀ o,h.get? b=some o->h'.get? b=some o)->tn i h'
 item:∀ (X:Cx),X.prog=P->X.w=w->X.K=K->ok X->∀ (i:Nat) (pins:List (Addr×Obj)) (s:Shared) (σ:St) (H:Hp) (E:Value->Shared->Prop),Inv X pins σ H s->(∀ b∈fp,m5 X pins H b)->tn i s.heap->J.go i H ->
  wpAny (model P w) X.A (pyNext (.ref it)) (fun r s1=>∃ u,r=some u /\
   wpAny (model P w) X.A (letOwnedTupleGo tg (.ref it) u) (fun _ s2=>∃ x H',Inv X pins σ H' s2/\RelV x u/\J.yld i H x H'/\tn (i+1) s2.heap/\∀ b∈fp,H' b=none) E s1) E s
 done:∀ (X:Cx),X.prog=P->X.w=w->X.K=K->ok X->∀ (i:Nat) (pins:List (Addr×Obj)) (s:Shared) (σ:St) (H:Hp) (E:Value->Shared->Prop),Inv X pins σ H s->(∀ b∈fp,m5 X pins H b)->tn i s.heap->J.stop i H ->
  wpAny (model P w) X.A (pyNext (.ref it)) (fun r s1=>r=none/\Inv X pins σ H s1) E s
 self:∀ (A:Around) (i:Nat) (s:Shared) (Q:Value->Shared->Prop) (E:Value->Shared->Prop),tn i s.heap->Q (.ref it) s->wpAny (model P w) A (pyIter (.ref it)) Q E s
noncomputable def MD (ok:Cx->Prop) (X:Cx) (pins:List (Addr×Obj)) (σ:St) (tg:Expr) (R:It->Hp->Prop) (itv:Value) (s2:Shared):Prop:=
 ∃ (it:Addr) (fp:List Addr) (tn:Nat->Heap->Prop) (J:It) (H':Hp),itv=.ref it/\Inv X pins σ H' s2/\TurnG ok X.prog X.w X.K tg J fp it tn/\tn 0 s2.heap/\(∀ b∈fp,m5 X pins H' b)/\R J H'
noncomputable def LW (ok:Cx->Prop) (X:Cx) (tg iter:Expr) (wi:TI):Prop:=
 ∀ (pins:List (Addr×Obj)) (s:Shared) (σ:St) (H:Hp) (R:It->Hp->Prop),Inv X pins σ H s->wi σ H R ->
  wpAny (model X.prog X.w) X.A (eval iter X.env) (fun v s1=>wpAny (model X.prog X.w) X.A (pyIter v) (MD ok X pins σ tg R) X.xe s1) X.xe s
theorem PI.g {X:Cx} {tg iter:Expr} {wi:TI} (h:PI X tg iter wi):LW (fun Y=>Y.calm=true) X tg iter wi:=fun pins s σ H R I q=>
 eS (h pins s σ H R I q) fun v s1 h1=>eS h1 fun itv s2 ⟨it,fp,tn,J,H',e,I',T,a,b,c⟩=>⟨it,fp,tn,J,H',e,I',⟨T.obj,T.keep,T.item,T.done,T.self⟩,a,b,c⟩
theorem yD {ok:Cx->Prop} {X:Cx} {use:Option (Value->Sem Unit)} {Q':Value->Shared->Prop} {tg iter elt:Expr} {ifs:List Expr} {scope:Scope} {pos:Pos} {N:List Str} {cap:List (Option Nat)} {wi:TI} {g:TG} {tc:TT} {te:TE} (S:CpScope X scope N cap) (hok:∀ C s₀ H₀ ex,(∀ a o u,X.H₀ a=some (.frz o u)->H₀ a=some (.frz o u))->ok (dX X scope N C s₀ H₀ ex)) (hi:LW ok X tg iter wi)
  (hg:∀ C s₀ H₀ ex,PG (dX X scope N C s₀ H₀ ex) tg g) (ht:∀ C s₀ H₀ ex,IK (dX X scope N C s₀ H₀ ex) ifs tc) (he:∀ C s₀ H₀ ex,PE (dX X scope N C s₀ H₀ ex) elt te)
  (hs:∀ x,foldedSetIterable iter X.env x=pure x:=by intro _;rfl):∀ (pins:List (Addr×Obj)) (s:Shared) (σ:St) (H:Hp) (Q:VK),Inv X pins σ H s->Lq cap wi g tc te σ H Q ->
  (∀ (s6:Shared) (C D:Addr) (H5:Hp) (m:Str->Option Value),s6.heap.Ns C m->m5 X pins H5 C->(∀ h',Heap.SameBut C s6.heap h'->Inv X pins σ H5 { s6 with heap:=h' })->Q (.ref D) H5->∀ v,compPost (model X.prog X.w) X.A X.xe use Q' (.ref D) C (.ok v) s6) ->
  wpAny (model X.prog X.w) X.A (comprehension (.ListComp elt [⟨tg,iter,ifs,0⟩] scope pos) scope X.env (firstIterPos [⟨tg,iter,ifs,0⟩] pos) (newList []) (firstAsync [⟨tg,iter,ifs,0⟩]) (firstIter [⟨tg,iter,ifs,0⟩] X.env) use) Q' X.xe s:=by
 intro pins s σ H Q I h hfin
 have hfree:∀ y∈scope.names,y.2=.free->∃ c,X.env.cells.lookup y.1=some c:=fun y hy e=>I.ok.has _ (S.fr y hy e)
 refine wpAny_comprehension_free (use:=use) rfl hs (wm hfree) S.kind S.nm (eS (hi pins s σ H _ I h) fun xv s1 h1=>eS h1 fun itv s2 h2=>?_)
 obtain ⟨it,fp,tn,J,H2,rfl,I2,T,st2,f2,h2⟩:=h2
 refine wpAny_newObj_type (wpAny_newFunctionEnv S.nocell (by intro y hy;simp at hy) (fun h₁ hns₁ hsb₁=>?_) S.kind)
 obtain ⟨W,⟨m0,w0⟩,turn⟩:=h2 s2.heap.objs.size I2.fresh
 dsimp only at hns₁ hsb₁ ⊢
 have I3:Inv X pins σ (upd H2 s2.heap.objs.size (.lst [])) { s2 with heap:=s2.heap.push { cls:=.type "list",data:=.seq ([]:List Value).toArray } }:=I2.Js (t':=s2.toks) (its:=[]) .nil (Nat.zero_le _)
 have hfp:∀ b∈fp,∃ o,s2.heap.get? b=some o:=fun b hb=>by
  obtain ⟨o,e,_⟩:=T.obj 0 _ st2 b hb
  exact ⟨o,e⟩
 have neD:∀ b∈fp,b≠s2.heap.objs.size:=fun b hb=>by
  obtain ⟨o,e⟩:=hfp b hb
  exact Nat.ne_of_lt (Heap.lt_size e)
 have f3:∀ b∈fp,m5 X pins (upd H2 s2.heap.objs.size (.lst [])) b:=fun b hb=>⟨by rw [aK (neD b hb)];exact (f2 b hb).1,(f2 b hb).2⟩
 have hDC:s2.heap.objs.size≠(s2.heap.push { cls:=.type "list",data:=.seq ([]:List Value).toArray }).objs.size:=by rw [Heap.size_push];exact Nat.ne_of_lt (Nat.lt_succ_self _)
 have old:∀ b o,(s2.heap.push { cls:=.type "list",data:=.seq ([]:List Value).toArray }).get? b=some o->h₁.get? b=some o:=fun b o e=>hsb₁.extBut b o (Nat.ne_of_lt (Heap.lt_size e)) (Heap.get?_push_of_some _ e)
 have I4:=JQ (tk:=s2.toks+([]:List (Str×Value)).length) (fp:=fp) S I3 f3 (fun b hb=>by
  obtain ⟨o,e⟩:=hfp b hb
  exact ⟨o,Heap.get?_push_of_some _ e⟩) hns₁ old
 have st4:tn 0 h₁:=T.keep _ _ _ st2 fun b hb o e=>old b o (Heap.get?_push_of_some _ e)
 have hc:=hok (s2.heap.push { cls:=.type "list",data:=.seq ([]:List Value).toArray }).objs.size { s2 with heap:=s2.heap.push { cls:=.type "list",data:=.seq ([]:List Value).toArray } } (upd H2 s2.heap.objs.size (.lst [])) fp fun a o u e=>by
  have z:=I2.base.frzs a o u e
  rw [aK (fun q=>by rw [q,I2.fresh] at z;cases z)]
  exact z
 have stat:∀ {H':Hp},(∀ b∈fp,H' b=none)->∀ b∈fp,m5 (dX X scope N (s2.heap.push { cls:=.type "list",data:=.seq ([]:List Value).toArray }).objs.size { s2 with heap:=s2.heap.push { cls:=.type "list",data:=.seq ([]:List Value).toArray } } (upd H2 s2.heap.objs.size (.lst [])) fp) [] H' b:=fun hn b hb=>by
  have ok:=I4.ok
  refine ⟨hn b hb,(ok.exf b hb).1,ok.exfs b hb,.inl hb,fun x c e=>(ok.exf b hb).2 x c e,fun p hp=>nomatch hp⟩
 have loop:∀ s4:Shared,s4={ s2 with heap:=h₁,toks:=s2.toks+([]:List (Str×Value)).length } ->
   codeAny (model X.prog X.w) X.A (.compLoop (.ListComp elt [⟨tg,iter,ifs,0⟩] scope pos) 0 (.ref it) (.ref s2.heap.objs.size) (compEnvC scope (kP X.env scope.names []) (s2.heap.push { cls:=.type "list",data:=.seq ([]:List Value).toArray }).objs.size X.env))
    (compPost (model X.prog X.w) X.A X.xe use Q' (.ref s2.heap.objs.size) (s2.heap.push { cls:=.type "list",data:=.seq ([]:List Value).toArray }).objs.size) s4:=by
  rintro s4 rfl
  refine codeAny_loop rfl (fun n s'=>∃ i σ' H',Inv (dX X scope N (s2.heap.push { cls:=.type "list",data:=.seq ([]:List Value).toArray }).objs.size { s2 with heap:=s2.heap.push { cls:=.type "list",data:=.seq ([]:List Value).toArray } } (upd H2 s2.heap.objs.size (.lst [])) fp) [] σ' H' s'/\tn i s'.heap/\(∀ b∈fp,H' b=none)/\W i n σ' H') (fun n s5 hI=>?_) m0 ⟨0,_,_,I4,st4,fun b hb=>(f3 b hb).1,w0⟩
  obtain ⟨i,σ5,H5,I5,st5,fr5,w5⟩:=hI
  show wpAny _ X.A ((compTurn (.ListComp elt [⟨tg,iter,ifs,0⟩] scope pos) 0 (.ref it) (.ref s2.heap.objs.size) (compEnvC scope (kP X.env scope.names []) (s2.heap.push { cls:=.type "list",data:=.seq ([]:List Value).toArray }).objs.size X.env)).onRaise (fun x=>do noteFrame x _;theTreesLotGoes x)) _ _ s5
  refine wpAny_noted ?_
  rw [compTurn_list]
  refine wpAny_bind (wpAny_standAt (wpAny_bind ?_))
  rcases turn i n σ5 H5 w5 with ⟨stop,q⟩ | ⟨go,step⟩
  ·refine eS (T.done (dX X scope N (s2.heap.push { cls:=.type "list",data:=.seq ([]:List Value).toArray }).objs.size { s2 with heap:=s2.heap.push { cls:=.type "list",data:=.seq ([]:List Value).toArray } } (upd H2 s2.heap.objs.size (.lst [])) fp) rfl rfl rfl hc i [] s5 σ5 H5 _ I5 (stat fr5) st5 stop) fun r s6 h9=>?_
   obtain ⟨hr,I6⟩:=h9
   subst hr
   obtain ⟨m6,hn6,_⟩:=I6.loc
   refine wpAny_pure (hfin s6 _ _ H5 m6 hn6 (I3.zM (Nat.le_refl _) I6.free) (fun h' sb=>?_) q _)
   have u6:=I6.base
   have nC:∀ b o,(s2.heap.push { cls:=.type "list",data:=.seq ([]:List Value).toArray }).get? b=some o->b≠(s2.heap.push { cls:=.type "list",data:=.seq ([]:List Value).toArray }).objs.size:=fun b o e=>Nat.ne_of_lt (Heap.lt_size e)
   refine I3.Hx (ch:=fp) I6.os ⟨fun b o e n hb hx=>?_,fun b o e n hb hx=>?_,fun b o e n hx=>?_,fun b o e hx=>?_,u6.tups,u6.frzs,u6.tbls⟩ ?_ I6.bare ?_
   ·exact sb.extBut b o (nC b o e) (u6.keep b o e n hb hx)
   ·obtain ⟨sl,z⟩:=u6.slot b o e n hb hx
    exact ⟨sl,sb.extBut b _ (nC b o e) z⟩
   ·exact u6.free b o e n hx
   ·obtain ⟨o',z⟩:=u6.there b o e hx
    exact ⟨o',sb.extBut b _ (nC b o e) z⟩
   ·intro b o e
    have hb:∀ c v,H5 c=some v->c≠(s2.heap.push { cls:=.type "list",data:=.seq ([]:List Value).toArray }).objs.size:=fun c v e z=>by
     rw [z] at e
     have:=I6.free
     rw [show H5 (s2.heap.push { cls:=.type "list",data:=.seq ([]:List Value).toArray }).objs.size=none from this] at e
     cases e
    refine (I6.hok b o e).stay (fun c v hc q=>sb.extBut c v ?_ q) (fun _ q=>q) fun _ _ q=>q
    rcases hc with z | z
    ·rw [z];exact hb b o e
    ·exact hb c _ z
   ·intro b hb
    obtain ⟨_,z1,_,z3,z4,z5⟩:=f3 b hb
    exact ⟨z3,z1,z4,z5⟩
  ·refine eS (T.item (dX X scope N (s2.heap.push { cls:=.type "list",data:=.seq ([]:List Value).toArray }).objs.size { s2 with heap:=s2.heap.push { cls:=.type "list",data:=.seq ([]:List Value).toArray } } (upd H2 s2.heap.objs.size (.lst [])) fp) rfl rfl rfl hc i [] s5 σ5 H5 _ I5 (stat fr5) st5 go) fun r s6 h9=>?_
   obtain ⟨u,hr,h6⟩:=h9
   subst hr
   refine wpAny_bind (eS h6 fun _ s7 ⟨x,H7,I7,r7,y7,st7,fr7⟩=>?_)
   have I7':=I7.pinned (stat fr7) (T.obj _ _ st7)
   refine wpAny_bind (Gk (hg _ _ _ fp _ s7 σ5 H7 x u _ I7' r7 (step x H7 y7)) fun _ s8 ⟨σ8,H8,I8,q8⟩=>?_)
   refine wpAny_bind (Gk (ht _ _ _ fp _ s8 σ8 H8 _ I8 q8) fun ok s9 ⟨H9,I9,q9⟩=>?_)
   have again:∀ {s10:Shared} {H10:Hp},Inv (dX X scope N (s2.heap.push { cls:=.type "list",data:=.seq ([]:List Value).toArray }).objs.size { s2 with heap:=s2.heap.push { cls:=.type "list",data:=.seq ([]:List Value).toArray } } (upd H2 s2.heap.objs.size (.lst [])) fp) ([]++pN fp s7.heap) σ8 H10 s10->(∃ m',m' < n/\W (i+1) m' σ8 H10) ->
     ∃ m,m < n/\∃ i σ' H',Inv (dX X scope N (s2.heap.push { cls:=.type "list",data:=.seq ([]:List Value).toArray }).objs.size { s2 with heap:=s2.heap.push { cls:=.type "list",data:=.seq ([]:List Value).toArray } } (upd H2 s2.heap.objs.size (.lst [])) fp) [] σ' H' s10/\tn i s10.heap/\(∀ b∈fp,H' b=none)/\W i m σ' H':=fun {s10 H10} I10 h9=>by
    obtain ⟨m',hm,w10⟩:=h9
    refine ⟨m',hm,i+1,σ8,H10,I10.jy,T.keep _ _ _ st7 fun b hb o e=>(I10.pin (b,o) (List.mem_append_right _ (List.mem_append_right _ (fU hb e)))).1,fun b hb=>?_,w10⟩
    obtain ⟨o,e,d⟩:=T.obj _ _ st7 b hb
    exact (I10.pin (b,o) (List.mem_append_right _ (List.mem_append_right _ (fU hb e)))).2.1
   cases ok with
   | false=>
    rw [if_neg Bool.false_ne_true] at q9
    exact wpAny_pure ⟨rfl,again I9 q9⟩
   | true=>
    rw [if_pos rfl] at q9
    refine wpAny_bind (wpAny_bind (Gk (he _ _ _ fp _ s9 σ8 H9 _ I9 q9) fun y s10 ⟨v10,H10,I10,r10,ys,hD,hz,w10⟩=>?_))
    refine wpAny_bind (Gk (qq _ s10 σ8 H10 (.ref s2.heap.objs.size) [v10] _ [y] (fun _ H'=>H'=upd H10 s2.heap.objs.size (.lst (ys++[v10]))) I10 rfl (.cons r10 .nil) ⟨_,ys,v10,rfl,rfl,hD,hz,rfl⟩) fun _ s11 ⟨_,H11,I11,_,e11⟩=>?_)
    subst e11
    exact wpAny_pure (wpAny_pure ⟨rfl,again I11 w10⟩)
 exact codeAny_compStart_list (loop _ rfl) (T.self _ 0 _ _ _ st4 (loop _ rfl))
theorem Bw {ok:Cx->Prop} {X:Cx} {tg iter elt:Expr} {ifs:List Expr} {scope:Scope} {pos:Pos} {N:List Str} {cap:List (Option Nat)} {wi:TI} {g:TG} {tc:TT} {te:TE} (S:CpScope X scope N cap) (hok:∀ C s₀ H₀ ex,(∀ a o u,X.H₀ a=some (.frz o u)->H₀ a=some (.frz o u))->ok (dX X scope N C s₀ H₀ ex)) (hi:LW ok X tg iter wi)
  (hg:∀ C s₀ H₀ ex,PG (dX X scope N C s₀ H₀ ex) tg g) (ht:∀ C s₀ H₀ ex,IK (dX X scope N C s₀ H₀ ex) ifs tc) (he:∀ C s₀ H₀ ex,PE (dX X scope N C s₀ H₀ ex) elt te)
  (hs:∀ x,foldedSetIterable iter X.env x=pure x:=by intro _;rfl):PE X (.ListComp elt [⟨tg,iter,ifs,0⟩] scope pos) (Lq cap wi g tc te):=by
 intro pins s σ H Q I h
 rw [eval_ListComp]
 exact yD (use:=none) (Q':=EP X pins σ Q) S hok hi hg ht he hs pins s σ H Q I h fun s6 C D H5 m hn fk inv q v=>⟨m,hn,fun h' sb=>⟨.ref D,H5,inv h' sb,rfl,q⟩⟩
theorem LY {X:Cx} {tg iter elt:Expr} {ifs:List Expr} {scope:Scope} {pos:Pos} {N:List Str} {cap:List (Option Nat)} {wi:TI} {g:TG} {tc:TT} {te:TE} (hc:X.calm=true) (S:CpScope X scope N cap) (hi:PI X tg iter wi)
  (hg:∀ C s₀ H₀ ex,PG (dX X scope N C s₀ H₀ ex) tg g) (ht:∀ C s₀ H₀ ex,IK (dX X scope N C s₀ H₀ ex) ifs tc) (he:∀ C s₀ H₀ ex,PE (dX X scope N C s₀ H₀ ex) elt te)
  (hs:∀ x,foldedSetIterable iter X.env x=pure x:=by intro _;rfl):PE X (.ListComp elt [⟨tg,iter,ifs,0⟩] scope pos) (Lq cap wi g tc te):=
 Bw S (fun _ _ _ _ _=>hc) hi.g hg ht he hs
section
variable {X:Cx}
theorem ES {bs:List Bool}:∀ {us:List Value},Vals (bs.map V.bl) us->LSm.BoolsAre us bs:=by
 induction bs with
 | nil=>intro us r;cases r;exact .nil
 | cons b bs ih=>
  intro us r
  cases r with
  | cons h t=>
   have e:_=Value.bool b:=h
   subst e
   exact .cons b (ih t)
theorem AU (hc:X.calm=true):bF X (.builtin "all") (fun xs H Q=>∃ (p:Addr) (bs:List Bool),xs=[.ref p]/\ir X.K H p (bs.map V.bl)/\Q (.bl (bs.all id)) H):=by
 intro pins s σ H xs us Q I r h
 obtain ⟨p,bs,rfl,hq,q⟩:=h
 obtain ⟨u,rfl,rx⟩:=vals1 r
 cases rx
 obtain ⟨its,rv,pl,hz⟩:=I.list hq
 have hb:=ES rv
 have hl:=pl.isList
 have hlt:p < s.heap.objs.size:=by obtain ⟨_,e,_⟩:=hl;exact Heap.lt_size e
 refine call_all_walk (wpAny_pyIter_list hl ?_)
 refine ⟨s.heap.objs.size,[s.heap.objs.size,p],[s.heap.objs.size],its.toArray.size,_,_,fun i=>(bs[i]?).getD true,rfl,Walks.list (A:=X.A.in1) (I.ok.hd hc) _ p (Nat.ne_of_lt hlt) its.toArray,
  ⟨⟨_,Heap.get?_push_size _ rfl,rfl,rfl⟩,hl.push _⟩,fun i v s' Q' E' hP hQ=>?_,fun h' tk hk=>?_⟩
 ·obtain ⟨b,e,rfl⟩:=hb.get i v (by simpa using hP)
  simp only [e,Option.getD_some] at hQ
  exact wpAny_truthy_bool hQ
 ·have e:((List.range its.toArray.size).all fun i=>(bs[i]?).getD true)=bs.all id:=by
   rw [List.size_toArray,hb.length];exact LSm.range_all bs
  rw [e]
  exact ⟨.bl _,H,I.kept (LSm.kept_iter hk),rfl,q⟩
theorem rQ:bF X (.type "range") (fun xs H Q=>∃ i j,xs=[.int i,.int j]/\∀ p,H p=none->Q (.ref p) (upd H p (.rng i j))):=by
 intro pins s σ H xs us Q I r h
 obtain ⟨i,j,rfl,q⟩:=h
 obtain ⟨u,w',rfl,⟨t,rfl⟩,⟨t',rfl⟩⟩:=vals2 r
 refine call_range_2 ⟨.ref s.heap.objs.size,_,I.laid (o:=.rng i j) (fun b o e=>Heap.get?_push_of_some _ e) (Nat.le_refl _) ?_,rfl,q _ I.fresh⟩
 exact ⟨t,t',s.toks,Heap.get?_push_size _ rfl⟩
noncomputable def ie (i j:Int):List Int:=(List.range (j - i).toNat).map fun k:Nat=>i+(k:Int)
theorem jO (i j:Int):(ie i j).length=(j - i).toNat:=by unfold ie;rw [List.length_map,List.length_range]
theorem oE {i:Int} {n:Nat} {acc:Array Value} (h:ItemsOf (fun k v=>∃ t,v=Value.int (i+(k:Int) * 1) t) acc n):Vals (((List.range n).map fun k:Nat=>i+(k:Int)).map V.int) acc.toList:=by
 obtain ⟨hs,hv⟩:=h
 have gen:∀ (l:List Value) (b:Nat),(∀ j v,l[j]?=some v->∃ t,v=Value.int (i+((b+j:Nat):Int)) t)->Vals (((List.range' b l.length).map fun k:Nat=>i+(k:Int)).map V.int) l:=by
  intro l
  induction l with
  | nil=>intro b _;exact .nil
  | cons v l ih=>
   intro b hb
   rw [List.length_cons,List.range'_succ,List.map_cons,List.map_cons]
   refine .cons ?_ ?_
   ·obtain ⟨t,e⟩:=hb 0 v rfl
    exact ⟨t,by rw [e];simp⟩
   ·refine ih (b+1) fun j w hw=>?_
    obtain ⟨t,e⟩:=hb (j+1) w hw
    exact ⟨t,by rw [e,show b+(j+1)=b+1+j by omega]⟩
 have:=gen acc.toList 0 fun j v hj=>by
  obtain ⟨t,e⟩:=hv j v (by simpa using hj)
  exact ⟨t,by rw [e,Nat.zero_add,Int.mul_one]⟩
 rw [Array.length_toList,hs,<- List.range_eq_range'] at this
 exact this
theorem EW {i j:Int}:Builtin.Range.rangeSize i j 1=(((j - i).toNat:Nat):Int):=by rw [rangeSize_one];split <;> omega
theorem qc (hc:X.calm=true):bF X (.type "list") (fun xs H Q=>∃ p i j,xs=[.ref p]/\H p=some (.rng i j)/\(-(2 ^ 62)<=i/\i < 2 ^ 62/\-(2 ^ 62)<=j/\j < 2 ^ 62)/\(j - i).toNat<=1000/\∀ l,H l=none->Q (.ref l) (upd H l (.lst ((ie i j).map V.int)))):=by
 intro pins s σ H xs us Q I r h
 obtain ⟨p,i,j,rfl,hp,⟨b1,b2,b3,b4⟩,hn,q⟩:=h
 obtain ⟨u,rfl,rx⟩:=vals1 r
 cases rx
 obtain ⟨t,u',v,e⟩:=I.hok p _ hp
 refine call_list_range (n:=(j - i).toNat) (I.ok.hd hc) e (small_one b1 b2 b3 b4) EW (by omega) fun h' tk acc' c' hk hS hacc=>?_
 refine ⟨.ref s.heap.objs.size,_,I.laid (o:=.lst ((ie i j).map V.int)) hk (Nat.le_refl _) ⟨?_,acc'.toList,c',oE hacc,by rw [hS]⟩,rfl,q _ I.fresh⟩
 rw [List.length_map,jO,sizeLine_eq];omega
end
section
variable {X:Cx}
theorem vp {prog:Program} {w:World} {A:Around} {E:Value->Shared->Prop} {s:Shared} {Q:List Value->Shared->Prop} {r:Addr} {a b c:Int} {t u v:Tok} {n:Nat} (hh:A.handled=none) (hr:IsRange s.heap r a b c t u v) (hsmall:Builtin.Range.small a b c=true)
  (hn:Builtin.Range.rangeSize a b c=n) (hlen:n<=2 ^ 24)
  (hQ:∀ h' tk (acc':Array Value),(∀ b o,s.heap.get? b=some o->h'.get? b=some o)->ItemsOf (fun i v=>∃ t,v=.int (a+i * c) t) acc' n->Q acc'.toList { s with heap:=h',toks:=tk }) :
  wpAny (model prog w) A (collect (.ref r)) Q E s:=by
 unfold collect
 refine wpAny_bind (wpAny_runValue (codeAny_builtin F.entry_proto_collect ?_))
 rw [Around.under_plainId F.plain_proto_collect _]
 show wpAny _ A.in1 (newList [] >>= fun l=>again (.builtin "list.__iadd__" ⟨[l,.ref r],[]⟩)) _ _ s
 refine wpAny_bind (wpAny_newObj_type ?_)
 refine wpAny_pure ⟨plainId_quiet F.plain_list_iadd _,codeAny_builtin F.entry_list_iadd ?_⟩
 rw [Around.under_plainId F.plain_list_iadd _]
 show wpAny _ A.in1 (Builtin.List.listExtendWith (.ref s.heap.objs.size) (.ref r) (.ref s.heap.objs.size)) _ _ _
 have hS:(s.heap.push { cls:=.type "list",data:=.seq ([]:List Value).toArray }).get? s.heap.objs.size=some { cls:=.type "list",data:=.seq #[] 0 }:=Heap.get?_push_size _ rfl
 have fin':∀ (h':Heap) (tk:Nat) (acc':Array Value) (c':Nat),(∀ b o,b≠s.heap.objs.size->(s.heap.push { cls:=.type "list",data:=.seq ([]:List Value).toArray }).get? b=some o->h'.get? b=some o) ->
   h'.get? s.heap.objs.size=some { cls:=.type "list",dict:=none,data:=.seq acc' c',slots:=#[] }->ItemsOf (fun i v=>∃ t,v=.int (a+i * c) t) acc' n ->
   wpAny (model prog w) A (match Value.ref s.heap.objs.size with
   | Value.ref a=>do
    match (<- load a).data with
     | Data.seq xs _=>pure xs.toList
     | _=>unsupported "internal:collect"
   | _=>unsupported "internal:collect") Q E { s with heap:=h',toks:=tk }:=by
  intro h' tk acc' c' hk hS' hacc
  show wpAny _ A (load s.heap.objs.size >>= _) _ _ _
  refine wpAny_bind (wpAny_load hS' ?_)
  refine wpAny_pure ?_
  exact hQ h' tk acc' (fun b o e=>hk b o (Nat.ne_of_lt (Heap.lt_size e)) (Heap.get?_push_of_some _ e)) hacc
 refine wpAny_mono (wpAny_extend_range (A:=A) (R:=fun rr s'=>rr=.ok (.ret (.ref s.heap.objs.size))/\∃ h' tk acc' c',s'={ s with heap:=h',toks:=tk }/\(∀ b o,b≠s.heap.objs.size->(s.heap.push { cls:=.type "list",data:=.seq ([]:List Value).toArray }).get? b=some o->h'.get? b=some o) /\
   h'.get? s.heap.objs.size=some { cls:=.type "list",dict:=none,data:=.seq acc' c',slots:=#[] }/\ItemsOf (fun i v=>∃ t,v=.int (a+i * c) t) acc' n)
  (s:={ s with heap:=s.heap.push { cls:=.type "list",data:=.seq ([]:List Value).toArray } }) hh (Heap.get?_push_of_some _ hr) hsmall hn hlen s.heap.objs.size (.ref s.heap.objs.size) 0 hS
  (fun h' tk acc' c' hk hS' hacc=>⟨rfl,h',tk,acc',c',rfl,hk,hS',hacc⟩)) (fun fin s' h=>?_) (fun e s' h=>?_)
 ·cases fin with
  | done f=>
   obtain ⟨e,h',tk,acc',c',rfl,hk,hS',hacc⟩:=h
   cases e
   exact fin' h' tk acc' c' hk hS' hacc
  | again c'=>exact ⟨h.1,codeAny_mono h.2 fun r s'' hr=>by
    obtain ⟨rfl,h',tk,acc',c',rfl,hk,hS',hacc⟩:=hr
    exact fin' h' tk acc' c' hk hS' hacc⟩
 ·exact absurd h.1 (by simp)
theorem kc (l:Addr) {a b:Int} {t u v:Tok} {n:Nat} (hsmall:Builtin.Range.small a b 1=true)
  (hn:Builtin.Range.rangeSize a b 1=n) (hlen:n<=1000) :
  Meets (Builtin.«tuple.__new__» ⟨[.type "tuple",.ref l],[]⟩)
   (fun A R s=>A.handled=none/\IsRange s.heap l a b 1 t u v/\∀ (h':Heap) (tk:Nat) (acc':Array Value),(∀ b o',s.heap.get? b=some o'->h'.get? b=some o')->ItemsOf (fun i v=>∃ t,v=.int (a+i * 1) t) acc' n->R (.ok (.ret (.ref h'.objs.size))) { s with heap:=h'.push { cls:=.type "tuple",data:=.seq acc' },toks:=tk }):=
 .of_wp fun prog w A R s h=>by
  obtain ⟨hp,g,d,tk,os⟩:=s
  obtain ⟨hh,ht,h⟩:=h
  have hsub:=sub_tuple_self
  have hinit:=init_tuple_lookup
  have hmh:=madeHere_tuple
  have hT:Shared.TypeIs ⟨hp,g,d,tk,os⟩ (.ref l) "range" := ⟨_,ht,rfl⟩
  have hh':A.in1.handled=none:=hh
  wp_walk using AutoSeq1.wpAny_loadPart' ht,wpAny_typeOf hT,vp (A:=A.in1) hh' ht hsmall hn (by omega)
  intro h' tk' acc' hk hacc
  show wpAny _ _ (Builtin.Tuple.tupleExact acc'.toList.toArray >>= fun v=>ret v) _ _ _
  unfold Builtin.Tuple.tupleExact
  have e:acc'.toList.toArray=acc':=by simp
  refine wpAny_bind (wpAny_newObj_type ?_ (by show acc'.toList.toArray.size<=sizeLine;rw [e,hacc.1,sizeLine_eq];omega))
  refine wpAny_pure ⟨_,rfl,?_⟩
  rw [e]
  exact h h' tk' acc' hk hacc
theorem oA (hc:X.calm=true):bF X (.type "tuple") (fun xs H Q=>∃ p i j,xs=[.ref p]/\H p=some (.rng i j)/\(-(2 ^ 62)<=i/\i < 2 ^ 62/\-(2 ^ 62)<=j/\j < 2 ^ 62)/\(j - i).toNat<=1000/\∀ l,H l=none->Q (.ref l) (upd H l (.tup ((ie i j).map V.int)))):=by
 intro pins s σ H xs us Q I r h
 obtain ⟨p,i,j,rfl,hp,⟨b1,b2,b3,b4⟩,hn,q⟩:=h
 obtain ⟨u,rfl,rx⟩:=vals1 r
 cases rx
 obtain ⟨t,u',v,e⟩:=I.hok p _ hp
 refine callType_new F.called_tuple (by decide) (F.typeCall_tuple_1 _) (F.newCall_tuple_1 _) (fun obj=>F.args_object_init_2 obj _) F.entry_tuple_new
  (kc (n:=(j - i).toNat) p (small_one b1 b2 b3 b4) EW hn) ⟨I.ok.hd hc,e,fun h' tk acc' hk hacc=>⟨⟨_,Heap.get?_push_size _ rfl,rfl⟩,?_⟩⟩
 have I1:Inv X pins σ H { s with heap:=h',toks:=tk }:=I.kept hk
 refine ⟨.ref h'.objs.size,_,I1.laid (t':=tk) (o:=.tup ((ie i j).map V.int)) (fun b o e=>Heap.get?_push_of_some _ e) (Nat.le_refl _) ⟨?_,acc'.toList,oE hacc,?_⟩,rfl,q _ (I1.hok.fresh (Nat.le_refl _))⟩
 ·rw [List.length_map,jO,sizeLine_eq];omega
 ·have e:acc'.toList.toArray=acc':=by simp
  rw [e]
  exact fW.new _ _
theorem uL {c:String}:bF X (.builtin "isinstance") (fun xs H Q=>∃ x t b,xs=[x,.ty c]/\TyOf X.K H x t/\PySem.W.kitOne X.K t (.type c)=some b/\Q (.bl b) H):=by
 intro pins s σ H xs us Q I r h
 obtain ⟨x,t,b,rfl,ty,e,q⟩:=h
 obtain ⟨u,w',rfl,rx,rc⟩:=vals2 r
 cases rc
 exact An I rx ty e fun tk=>⟨.bl b,H,I.tok tk,rfl,q⟩
noncomputable def JM (K:PySem.W.Frag):R2:=fun x y H Q=>∃ a b ys,x=.ref a/\y=.ref b/\fC K H a []/\fC K H b ys/\Q (.ref b) H
theorem BW:gz X (binaryOp .Add) (JM X.K):=by
 intro pins s σ H x y v u Q I rx ry h
 obtain ⟨a,b,ys,rfl,rfl,h1,h2,q⟩:=h
 cases rx
 cases ry
 obtain ⟨us,r1,p1,_⟩:=I.tuple h1
 obtain ⟨ws,r2,p2,_⟩:=I.tuple h2
 cases r1
 obtain ⟨⟨cls,dd,data,sl⟩,ho,hc,n,hd⟩:=id p1
 obtain ⟨⟨cls2,dd2,data2,sl2⟩,ho2,hc2,n2,hd2⟩:=id p2
 simp only at hc hd hc2 hd2
 subst hc hd hc2 hd2
 exact concat_meets ⟨_,ho,rfl⟩ ⟨_,ho2,rfl⟩ noFill_tuple_add seq_tuple_add PySem.F.slot_tuple_add PySem.F.entry_tuple_add (PySem.F.args_tuple_add_2 _ _)
   (tuple_addW0 a b _ ws.toArray n n2 dd dd2 sl sl2 (by simp)) ⟨ho,ho2,⟨.ref b,H,I,rfl,q⟩⟩
end
theorem gj:bootBuiltins "len" = some (.builtin "len"):=by decide +kernel
theorem JC:bootBuiltins "all" = some (.builtin "all"):=by decide +kernel
theorem J2:bootBuiltins "max" = some (.builtin "max"):=by decide +kernel
theorem Kf:bootBuiltins "min" = some (.builtin "min"):=by decide +kernel
theorem iy:bootBuiltins "sorted" = some (.builtin "sorted"):=by decide +kernel
theorem bZ:bootBuiltins "isinstance" = some (.builtin "isinstance"):=by decide +kernel
theorem EB:bootBuiltins "int" = some (.type "int"):=by decide +kernel
theorem E4:bootBuiltins "bool" = some (.type "bool"):=by decide +kernel
theorem kZ:bootBuiltins "list" = some (.type "list"):=by decide +kernel
theorem lG:bootBuiltins "tuple" = some (.type "tuple"):=by decide +kernel
theorem Cc:bootBuiltins "range" = some (.type "range"):=by decide +kernel
structure Blt (mg:Str->Option Value):Prop where
 len:mg "len" = none
 abs:mg "abs" = none
 all:mg "all" = none
 any:mg "any" = none
 max:mg "max" = none
 min:mg "min" = none
 sorted:mg "sorted" = none
 isinstance:mg "isinstance" = none
 int:mg "int" = none
 bool:mg "bool" = none
 str:mg "str" = none
 list:mg "list" = none
 tuple:mg "tuple" = none
 range:mg "range" = none
section
variable {X:Cx}
end
theorem Ge:∀ {a b:List Int},a.Perm b->a.Pairwise (·<=·)->b.Pairwise (·<=·)->a=b:=fun p ha hb=>
 List.Perm.eq_of_pairwise (fun x y _ _ h1 h2=>Int.le_antisymm h1 h2) ha hb p
noncomputable def Kn (P:Program) (w:World) (K:PySem.W.Frag) (mg:Str->Option Value) (base:Heap) (k:Nat) (x:Str) (ps:List Str) (sp:Sp):Prop:=
 ∃ (f:Addr) (fd:FuncData),FnOk P w K mg base jn k f fd ps sp/\mg x=some (.ref f)/\PySem.W.keepIn K (.ref f)=true/\Binds K fd ps []
theorem K9 {X:Cx} {k:Nat} {x:Str} {ps:List Str} {sp:Sp} {e:Expr} {es:List Expr} {t:TA} {p pos:Pos} (G:Kn X.prog X.w X.K X.mg X.base k x ps sp) (hr:Room k X.A) (ha:PA X (e::es) t) (hg:Gl X x:=by rfl)
  (hdb:(x == ("__debug__" : Str))=false:=by decide) (hs:starEach (e::es) X.env=(false,eval e X.env)::starEach es X.env:=by rfl) (hplain:(backTo pos (starEach es X.env)).any (·.1)=false:=by rfl) :
  PE X (.Call (.Name x p) (e::es) [] pos) (Br sp [] E0 t):=by
 obtain ⟨f,fd,F,hm,hk,hb⟩:=G
 exact yx F hr hg hm hk hb .nil LF ha hdb hs hplain
noncomputable def pV (XN fs:List Str):List Str->List (Option Nat)->Prop
 | [],[]=>True
 | _::N,none::c=>pV XN fs N c
 | x::N,some j::c=>XN[j]?=some x/\x∈fs/\pV XN fs N c
 | _,_=>False
theorem pV.len {XN fs:List Str}:∀ {N:List Str} {c:List (Option Nat)},pV XN fs N c->c.length=N.length
 | [],[],_=>rfl
 | _::N,none::c,h=>congrArg (·+1) (pV.len (N:=N) (c:=c) h)
 | _::N,some j::c,h=>congrArg (·+1) (pV.len (N:=N) (c:=c) h.2.2)
 | [],_::_,h=>h.elim
 | _::_,[],h=>h.elim
theorem pV.cp {XN fs:List Str}:∀ {N:List Str} {c:List (Option Nat)},pV XN fs N c->∀ (i j:Nat) (x:Str),N[i]?=some x->c[i]?=some (some j)->XN[j]?=some x/\x∈fs
 | [],[],_,i,j,x,h1,_=>by simp at h1
 | y::N,none::c,h,i,j,x,h1,h2=>by
  cases i with
  | zero=>simp at h2
  | succ i=>exact pV.cp (N:=N) (c:=c) h i j x (by simpa using h1) (by simpa using h2)
 | y::N,some k::c,h,i,j,x,h1,h2=>by
  cases i with
  | zero=>
   simp at h1 h2
   subst h1 h2
   exact ⟨h.1,h.2.1⟩
  | succ i=>exact pV.cp (N:=N) (c:=c) h.2.2 i j x (by simpa using h1) (by simpa using h2)
 | [],_::_,h,_,_,_,_,_=>h.elim
 | _::_,[],h,_,_,_,_,_=>h.elim
theorem ko {X:Cx} {scope:Scope} {N:List Str} {cap:List (Option Nat)} (fs:List Str) (kind:scope.kind=.function) (nocell:∀ y∈scope.names,y.2≠.cell) (nm:∀ y∈scope.names,y.2=.local->scope.names.lookup y.1=some .local)
  (nolf:∀ y∈scope.names,y.2=.free->scope.names.lookup y.1≠some .local) (hf:∀ y∈scope.names,y.2=.free->y.1∈fs) (hfs:∀ x∈fs,(x,NameKind.free)∈scope.names) (hk:∀ x∈fs,X.env.kindOf x=some .cell\/X.env.kindOf x=some .free) (cp:pV X.N fs N cap):CpScope X scope N cap where
 kind:=kind
 nocell:=nocell
 nm:=nm
 fr:=fun y hy e=>hk _ (hf y hy e)
 rl:=fun y h=>by
  have go:∀ k,(k=NameKind.cell\/k=NameKind.free)->(relabel scope X.env).names.lookup y=some k->(y,NameKind.free)∈scope.names:=fun k hk e=>by
   obtain ⟨⟨n',k'⟩,hm1,hm2⟩:=List.mem_map.mp (pL e)
   dsimp only at hm2
   split at hm2
   ·rename_i hc
    cases hm2
    have:k'=.free:=by
     simp only [Bool.and_eq_true] at hc
     simpa using hc.1.1
    subst this
    exact hm1
   ·cases hm2
    rcases hk with rfl | rfl
    ·exact absurd rfl (nocell _ hm1)
    ·exact hm1
  rcases h with h | h
  ·exact go _ (.inl rfl) h
  ·exact go _ (.inr rfl) h
 len:=cp.len
 nolf:=fun x hx=>nolf (x,.free) hx rfl
 cp:=fun i j x h1 h2=>by
  obtain ⟨a,b⟩:=cp.cp i j x h1 h2
  exact ⟨a,hfs x b⟩
inductive Kd where
 | non | bl | int | str | lst | tup
 deriving DecidableEq
noncomputable def Kd.ty:Kd->Value
 | .non=>.type "NoneType" | .bl=>.type "bool" | .int=>.type "int" | .str=>.type "str" | .lst=>.type "list" | .tup=>.type "tuple"
noncomputable def JD (H:Hp) (x:V):Kd->Prop
 | .non=>x=.non
 | .bl=>∃ b,x=.bl b
 | .int=>∃ i,x=.int i
 | .str=>∃ s,x=.str s
 | .lst=>∃ a xs,x=.ref a/\H a=some (.lst xs)
 | .tup=>∃ a xs,x=.ref a/\H a=some (.tup xs)
theorem JD.MM {K:PySem.W.Frag} {H:Hp} {x:V} {k:Kd} (h:JD H x k):TyOf K H x k.ty:=by
 cases k with
 | non=>cases h;exact .non
 | bl=>obtain ⟨b,rfl⟩:=h;exact .bl b
 | int=>obtain ⟨b,rfl⟩:=h;exact .int b
 | str=>obtain ⟨b,rfl⟩:=h;exact .str b
 | lst=>obtain ⟨a,xs,rfl,e⟩:=h;exact .lst e
 | tup=>obtain ⟨a,xs,rfl,e⟩:=h;exact .tup e
theorem Gw {K:PySem.W.Frag} (k:Kd):PySem.W.kitOne K k.ty (.type "int")=some (decide (k=.int\/k=.bl)):=by cases k <;> rfl
theorem EJ {K:PySem.W.Frag} (k:Kd):PySem.W.kitOne K k.ty (.type "bool")=some (decide (k=.bl)):=by cases k <;> rfl
theorem kit_tuple {K:PySem.W.Frag} (k:Kd):PySem.W.kitOne K k.ty (.type "tuple")=some (decide (k=.tup)):=by cases k <;> rfl
theorem BP {K:PySem.W.Frag} (k:Kd):PySem.W.kitOne K k.ty (.type "list")=some (decide (k=.lst)):=by cases k <;> rfl
section
variable {prog:Program} {w:World} {A:Around} {E:Value->Shared->Prop} {s:Shared}
end
section
variable {X:Cx}
end
section
variable {prog:Program} {w:World} {A:Around} {E:Value->Shared->Prop} {s:Shared}
end
section
variable {X:Cx}
end
section
variable {prog:Program} {w:World} {A:Around} {R:Result->Shared->Prop} {s:Shared}
end
end L2
namespace L2
open PySem PySem.Spec PyProof.Rows
open PySem.SeqAt
open PySem.AutoSeq1 (wpAny_loadPart')
open PySem.MeetsSeq PySem.MeetsSeq2 PySem.MeetsSeq3 PySem.SeqAt
section
variable {prog:Program} {w:World} {A:Around} {E:Value->Shared->Prop} {s:Shared}
end
section
variable {X:Cx}
theorem B4:gz X (binaryOp .FloorDiv) (rI (fun _ j=>0 < j/\j < 18446744073709551616) fun i j=>.int (i / j)):=MA fun i j _ _ _ _ _ hc q=>by
 have h1:(0:Int) < j:=hc.1
 have h2:j < 18446744073709551616:=hc.2
 refine floordiv_int (by omega) (by rw [Int.fdiv_eq_ediv_of_nonneg i (by omega)];exact q) (.inl (PyProof.noPylong_of_log2 ?_))
 exact Nat.lt_of_lt_of_le ((Nat.log2_lt (by omega)).mpr (show j.natAbs < 2 ^ 64 by omega)) (by decide)
end
end L2
namespace L2
open PySem PySem.Spec PyProof.Rows
noncomputable def MG (x:Str):It:=⟨fun i _=>i < x.cps.size,fun i H v H'=>H'=H/\∃ c,x.cps[i]?=some c/\v=.str ⟨#[c]⟩,fun i _=>i=x.cps.size⟩
theorem DM {P:Program} {w:World} {K:PySem.W.Frag} {tg:Expr} (x:Str) (t:Tok) (it:Addr):Turn P w K tg (MG x) [it] it (fun i h=>h.IsStrIter it "str_ascii_iterator" x t i) where
 mem:=by simp
 obj:=fun i h st b hb=>by
  have e:b=it:=by simpa using hb
  subst e
  obtain ⟨o,e,c,d⟩:=st
  exact ⟨o,e,fun v z=>by rw [d] at z;cases z⟩
 keep:=fun i h h' st k=>let ⟨o,ho,r⟩:=st;⟨o,k it (by simp) o ho,r⟩
 item:=by
  intro X hP hw hK hc i pins s σ H E I hf st hg
  subst hP hw hK
  obtain ⟨f0,f1,f2,f3,f4,f5⟩:=hf it (by simp)
  have W:=Walks.strAscii (prog:=X.prog) (w:=X.w) (I.ok.hd hc) it x t
  refine W.item i s _ _ hg st fun v h' tk hv st' kk=>?_
  obtain ⟨c,u,hcx,rfl⟩:=hv
  have I1:Inv X pins σ H { s with heap:=h',toks:=tk }:=I.turned (fun b o hb e=>kk b o (by simpa using hb) e) f0 f1 f3 f4 f5
  obtain ⟨o,e,cc,d⟩:=id st'
  exact ⟨_,rfl,uo (s:={ s with heap:=h',toks:=tk }) e cc d (by decide) ⟨.str ⟨#[c]⟩,H,I1,⟨u,rfl⟩,⟨rfl,c,hcx,rfl⟩,st',fun b hb=>(hf b hb).1⟩⟩
 done:=by
  intro X hP hw hK hc i pins s σ H E I hf st hg
  subst hP hw hK
  obtain ⟨f0,f1,f2,f3,f4,f5⟩:=hf it (by simp)
  have hg:i=x.cps.size:=hg
  subst hg
  have W:=Walks.strAscii (prog:=X.prog) (w:=X.w) (I.ok.hd hc) it x t
  exact W.done s _ _ st fun h' tk kk=>⟨rfl,I.turned (fun b o hb e=>kk b o (by simpa using hb) e) f0 f1 f3 f4 f5⟩
 self:=fun _ _ _ _ _ st h=>wpAny_pyIter_striter_ascii st h
section
variable {X:Cx} {tg:Expr}
noncomputable def Nd (tl:TE):TI:=fun σ H R=>tl σ H fun x H1=>∃ y:Str,x=.str y/\y.cps.all (· < 128)=true/\R (MG y) H1
theorem Jy {l:Expr} {tl:TE} (hl:PE X l tl):PI X tg l (Nd tl):=by
 intro pins s σ H R I h
 refine eS (hl pins s σ H _ I h) fun v s1 h9=>?_
 obtain ⟨x,H1,I1,r1,q1⟩:=h9
 obtain ⟨y,e,ha,q⟩:=q1
 subst e
 obtain ⟨t,rfl⟩:=r1
 refine wpAny_pyIter_ascii ha ?_
 refine ⟨s1.heap.objs.size,[s1.heap.objs.size],_,_,H1,rfl,I1.kept (t':=s1.toks) fun b o e=>Heap.get?_push_of_some _ e,DM y t _,⟨_,Heap.get?_push_size _ rfl,rfl,rfl⟩,fun b hb=>?_,q⟩
 have e:b=s1.heap.objs.size:=by simpa using hb
 subst e
 exact I1.zM (Nat.le_refl _) (I1.hok.fresh (Nat.le_refl _))
theorem zX:bF X (.type "int") (fun xs H Q=>∃ (y:Str) (n:Int),xs=[.str y]/\y.length<=640/\PySem.intText? y=some n/\Q (.int n) H):=by
 intro pins s σ H xs us Q I rv h
 obtain ⟨y,n,rfl,hl,hn,q⟩:=h
 obtain ⟨w,rfl,rw'⟩:=vals1 rv
 obtain ⟨u,rfl⟩:=rw'
 exact PySem.W.KIN.call_text hn hl ⟨.int n,H,I.tok _,⟨_,rfl⟩,q⟩
end
section
variable {κ:Type} [DecidableEq κ]
noncomputable def fV (kvs:List (κ×V)) (k:κ):Option V:=(kvs.find? fun kv=>decide (kv.1=k)).map (·.2)
noncomputable def putK (kvs:List (κ×V)) (k:κ) (v:V):List (κ×V):=
 if (kvs.any fun kv=>decide (kv.1=k))=true then kvs.map (fun kv=>if kv.1=k then (kv.1,v) else kv) else kvs++[(k,v)]
theorem jD {p:κ×V} {r:List (κ×V)} {k:κ} (e:p.1=k):fV (p::r) k=some p.2:=by simp [fV,List.find?_cons,e]
theorem jw {p:κ×V} {r:List (κ×V)} {k:κ} (e:¬ p.1=k):fV (p::r) k=fV r k:=by simp [fV,List.find?_cons,e]
theorem lP (k:κ):∀ kvs:List (κ×V),(kvs.any fun kv=>decide (kv.1=k))=(fV kvs k).isSome
 | []=>rfl
 | p::r=>by
  rw [List.any_cons]
  by_cases e:p.1=k
  ·simp only [jD e,decide_eq_true e,Bool.true_or,Option.isSome_some]
  ·rw [jw e,decide_eq_false e,Bool.false_or];exact lP k r
theorem jv (kvs:List (κ×V)) (k:κ) (v:V):(putK kvs k v).length<=kvs.length+1:=by
 unfold putK
 split
 ·rw [List.length_map];omega
 ·rw [List.length_append,List.length_cons,List.length_nil];omega
theorem mz.zY {o:Option V} {u:Option Value} (r:mz o u):o.isSome=u.isSome:=by
 cases o with
 | none=>cases u with
  | none=>rfl
  | some _=>exact (show False from r).elim
 | some _=>cases u with
  | none=>exact (show False from r).elim
  | some _=>rfl
theorem mz.getD {o:Option V} {u:Option Value} {d:V} {d':Value} (r:mz o u) (rd:RelV d d'):RelV (o.getD d) (u.getD d'):=by
 cases o with
 | none=>cases u with
  | none=>exact rd
  | some _=>exact (show False from r).elim
 | some _=>cases u with
  | none=>exact (show False from r).elim
  | some _=>exact r
theorem KV.val {kvs:List (κ×V)} {vs:List (κ×Value)} (r:KV kvs vs) (k:κ):mz (fV kvs k) (valueAt vs k):=by
 unfold KV at r
 induction r with
 | nil=>exact True.intro
 | @cons p q ps qs h t ih=>
  obtain ⟨h1,h2⟩:=h
  by_cases e:p.1=k
  ·have e':q.1=k:=h1.symm.trans e
   have b:valueAt (q::qs) k=some q.2:=by simp [valueAt,List.find?_cons,e']
   rw [jD e,b];exact h2
  ·have e':¬ q.1=k:=fun z=>e (h1.trans z)
   have b:valueAt (q::qs) k=valueAt qs k:=by simp [valueAt,List.find?_cons,e']
   rw [jw e,b];exact ih
theorem KV.any {kvs:List (κ×V)} {vs:List (κ×Value)} (r:KV kvs vs) (k:κ):(kvs.any fun kv=>decide (kv.1=k))=vs.any fun kv=>decide (kv.1=k):=by
 unfold KV at r
 induction r with
 | nil=>rfl
 | cons h t ih=>rw [List.any_cons,List.any_cons,ih,h.1]
theorem KV.repl {kvs:List (κ×V)} {vs:List (κ×Value)} (r:KV kvs vs) (k:κ) {y:V} {u:Value} (ry:RelV y u) :
  KV (kvs.map fun kv=>if kv.1=k then (kv.1,y) else kv) (vs.map fun kv=>if kv.1=k then (kv.1,u) else kv):=by
 unfold KV at r ⊢
 induction r with
 | nil=>exact .nil
 | @cons p q ps qs h t ih=>
  rw [List.map_cons,List.map_cons]
  refine .cons ?_ ih
  obtain ⟨h1,h2⟩:=h
  by_cases e:p.1=k
  ·rw [if_pos e,if_pos (h1.symm.trans e)];exact ⟨h1,ry⟩
  ·rw [if_neg e,if_neg (fun z=>e (h1.trans z))];exact ⟨h1,h2⟩
theorem KV.put {kvs:List (κ×V)} {vs:List (κ×Value)} (r:KV kvs vs) (k:κ) {y:V} {u:Value} (ry:RelV y u):KV (putK kvs k y) (stored vs k u):=by
 unfold putK stored
 rw [r.any k]
 by_cases e:(vs.any fun kv=>decide (kv.1=k))=true
 ·rw [if_pos e,if_pos e];exact r.repl k ry
 ·rw [if_neg e,if_neg e];exact Paired.snoc r ⟨rfl,ry⟩
theorem KV.length {kvs:List (κ×V)} {vs:List (κ×Value)} (r:KV kvs vs):kvs.length=vs.length:=Paired.length r
end
theorem xE {P:Program} {w:World} {k:Key} {u:Value} (r:RelV (kV k) u):(bN P w).is k u=true:=by
 cases k with
 | inl i=>obtain ⟨t,e⟩:=(show ∃ t,u=Value.int i t from r);subst e;exact t_ P w i t
 | inr x=>obtain ⟨t,e⟩:=(show ∃ t,u=Value.str x t from r);subst e;exact vc P w x t
theorem qy {P:Program} {w:World}:∀ {ks:List Key} {us:List Value},Vals (ks.map kV) us->ItemsAre (bN P w) ks us
 | [],_,r=>by rw [List.map_nil] at r;cases r;exact .nil
 | k::ks,_,r=>by
  rw [List.map_cons] at r
  cases r with
  | cons h t=>exact .cons (xE h) (qy t)
noncomputable abbrev KT (H:Hp):List (List Key×V)->List (List Key×Addr×Value)->Prop:=Paired fun p q=>p.1=q.1/\H q.2.1=some (.tup (p.1.map kV))/\RelV p.2 q.2.2
theorem KT.val {H:Hp} {kvs:List (List Key×V)} {xs:List (List Key×Addr×Value)} (r:KT H kvs xs) (k:List Key):mz (fV kvs k) ((atKey xs k).map (·.2)):=by
 induction r with
 | nil=>exact True.intro
 | @cons p q ps qs h t ih=>
  obtain ⟨h1,_,h2⟩:=h
  by_cases e:p.1=k
  ·have e':q.1=k:=h1.symm.trans e
   have b:atKey (q::qs) k=some q.2:=by simp [atKey,List.find?_cons,e']
   rw [jD e,b];exact h2
  ·have e':¬ q.1=k:=fun z=>e (h1.trans z)
   have b:atKey (q::qs) k=atKey qs k:=by simp [atKey,List.find?_cons,e']
   rw [jw e,b];exact ih
theorem KT.repl {H:Hp} {kvs:List (List Key×V)} {xs:List (List Key×Addr×Value)} (r:KT H kvs xs) (k:List Key) {y:V} {u:Value} (ry:RelV y u) :
  KT H (kvs.map fun kv=>if kv.1=k then (kv.1,y) else kv) (xs.map (putAt k u)):=by
 induction r with
 | nil=>exact .nil
 | @cons p q ps qs h t ih=>
  rw [List.map_cons,List.map_cons]
  refine .cons ?_ ih
  obtain ⟨h1,h2,h3⟩:=h
  unfold putAt
  by_cases e:p.1=k
  ·rw [if_pos e,if_pos (h1.symm.trans e)];exact ⟨h1,h2,ry⟩
  ·rw [if_neg e,if_neg (fun z=>e (h1.trans z))];exact ⟨h1,h2,h3⟩
theorem KT.put {H:Hp} {kvs:List (List Key×V)} {xs:List (List Key×Addr×Value)} (r:KT H kvs xs) (k:List Key) {b:Addr} {y:V} {u:Value} (hb:H b=some (.tup (k.map kV))) (ry:RelV y u) :
  KT H (putK kvs k y) (storedH xs k b u):=by
 have e:(kvs.any fun kv=>decide (kv.1=k))=(atKey xs k).isSome:=by
  rw [lP,(r.val k).zY,Option.isSome_map]
 unfold putK storedH
 rw [e]
 by_cases q:(atKey xs k).isSome=true
 ·rw [if_pos q,if_pos q];exact r.repl k ry
 ·rw [if_neg q,if_neg q];exact Paired.snoc r ⟨rfl,hb,ry⟩
theorem KT.keeps {H H':Hp} {kvs:List (List Key×V)} {xs:List (List Key×Addr×Value)} (r:KT H kvs xs) (ht:∀ b ys,H b=some (.tup ys)->H' b=some (.tup ys)):KT H' kvs xs:=
 Paired.Jd r fun _ _ z=>⟨z.1,ht _ _ z.2.1,z.2.2⟩
section
variable {P:Program} {w:World} {H:Hp} {h:Heap} {a:Addr}
theorem Hw {u:HO} (ok:j_ P w H h) (e:Rd H a u):b_ P w H h a u:=e.ok ok
theorem xN {kvs:List (Key×V)} (ok:j_ P w H h) (e:Rd H a (.dK kvs)):kvs.length<=sizeLine/\(a == sysModules)=false/\∃ vs,KV kvs vs/\h.DictOf (bN P w) a vs:=
 show b_ P w H h a (.dK kvs) from Hw ok e
theorem Hf {kvs:List (Key×V)} (ok:j_ P w H h) (e:H a=some (.dK kvs)):kvs.length<=sizeLine/\(a == sysModules)=false/\∃ vs,KV kvs vs/\h.DictOf (bN P w) a vs:=xN ok (.inl e)
theorem pe {ks:List Key} (ok:j_ P w H h) (e:H a=some (.tup (ks.map kV))):(tupleKind (bN P w)).is h ks a:=by
 obtain ⟨_,its,r,o,h1,h2,_,n,h3⟩:=(show b_ P w H h a (.tup (ks.map kV)) from ok a _ e)
 exact ⟨o,its.toArray,n,h1,h2,h3,by simpa using qy r⟩
theorem y9 {kvs:List (List Key×V)} (ok:j_ P w H h) (e:Rd H a (.dT kvs)):kvs.length<=sizeLine/\(a == sysModules)=false /\
  ∃ xs,KT H kvs xs/\h.DictOfH (tupleKind (bN P w)) a xs:=by
 obtain ⟨z,y,xs,r,o,es,ep,h1,h2,h3,h4,h5⟩:=(show b_ P w H h a (.dT kvs) from Hw ok e)
 refine ⟨z,y,xs,r,o,es,ep,h1,h2,h3,h4,fun x hx=>?_,h5⟩
 have all:∀ {l:List (List Key×V)} {m:List (List Key×Addr×Value)},KT H l m->∀ x∈m,(tupleKind (bN P w)).is h x.1 x.2.1:=by
  intro l m q
  induction q with
  | nil=>intro x hx;exact nomatch hx
  | @cons p q ps qs hq t ih=>
   intro x hx
   rcases List.mem_cons.mp hx with e | hx
   ·subst e
    exact pe ok (by rw [<- hq.1];exact hq.2.1)
   ·exact ih x hx
 exact all r x hx
theorem Dj {kvs:List (List Key×V)} (ok:j_ P w H h) (e:H a=some (.dT kvs)):kvs.length<=sizeLine/\(a == sysModules)=false /\
  ∃ xs,KT H kvs xs/\h.DictOfH (tupleKind (bN P w)) a xs:=y9 ok (.inl e)
end
noncomputable def mP (H:Hp) (a:Addr) (y:V) (r:Option V):Prop:=
 (∃ kvs k,Rd H a (.dK kvs)/\y=kV k/\r=fV kvs k)\/∃ kvs k b,Rd H a (.dT kvs)/\y=.ref b/\H b=some (.tup (k.map kV))/\r=fV kvs k
noncomputable def uM (H:Hp) (a:Addr) (y v:V) (H':Hp):Prop:=
 (∃ kvs k,H a=some (.dK kvs)/\y=kV k/\kvs.length < sizeLine/\H'=upd H a (.dK (putK kvs k v))) \/
 ∃ kvs k b,H a=some (.dT kvs)/\y=.ref b/\H b=some (.tup (k.map kV))/\kvs.length < sizeLine/\H'=upd H a (.dT (putK kvs k v))
theorem mP.k {H:Hp} {a:Addr} {kvs:List (Key×V)} {k:Key} (e:H a=some (.dK kvs)):mP H a (kV k) (fV kvs k):=.inl ⟨kvs,k,.inl e,rfl,rfl⟩
theorem mP.t {H:Hp} {a b:Addr} {kvs:List (List Key×V)} {k:List Key} (e:H a=some (.dT kvs)) (eb:H b=some (.tup (k.map kV))):mP H a (.ref b) (fV kvs k):=.inr ⟨kvs,k,b,.inl e,rfl,eb,rfl⟩
theorem uM.k {H:Hp} {a:Addr} {kvs:List (Key×V)} {k:Key} {v:V} (e:H a=some (.dK kvs)) (hl:kvs.length < sizeLine):uM H a (kV k) v (upd H a (.dK (putK kvs k v))):=.inl ⟨kvs,k,e,rfl,hl,rfl⟩
theorem uM.t {H:Hp} {a b:Addr} {kvs:List (List Key×V)} {k:List Key} {v:V} (e:H a=some (.dT kvs)) (eb:H b=some (.tup (k.map kV))) (hl:kvs.length < sizeLine) :
  uM H a (.ref b) v (upd H a (.dT (putK kvs k v))):=.inr ⟨kvs,k,b,e,rfl,eb,hl,rfl⟩
section
variable {X:Cx} {pins:List (Addr×Obj)} {σ:St} {H:Hp} {s:Shared} {a:Addr} {y v:V} {u r:Value} {o:Option V} {A:Around} {E:Value->Shared->Prop}
theorem Inv.big (I:Inv X pins σ H s):sysModules < s.heap.objs.size:=by
 have h:mainGlobals < s.heap.objs.size:=(I.mod.glob.keeps I.bk).lt
 exact Nat.lt_trans (by decide) h
theorem AH {Q:Value->Shared->Prop} (hu:A.units+1 < cLine) (I:Inv X pins σ H s) (g:mP H a y (some v)) (ry:RelV y u) (h:∀ w' s',Inv X pins σ H s'->RelV v w'->Q w' s') :
  wpAny (model X.prog X.w) A (getItem (.ref a) u) Q E s:=by
 rcases g with ⟨kvs,k,e,ey,l⟩ | ⟨kvs,k,b,e,ey,eb,l⟩
 ·subst ey
  obtain ⟨z,hd,vs,rel,dd⟩:=xN I.hok e
  obtain ⟨w',hw,rw'⟩:=mz.some_of (v:=v) (o:=valueAt vs k) (by rw [l];exact rel.val k)
  exact wpAny_getItem_of (xE ry) dd.mapOf hw (h w' _ (I.tok _) rw')
 ·subst ey
  cases (show u=Value.ref b from ry)
  obtain ⟨z,hd,xs,rel,dd⟩:=y9 I.hok e
  obtain ⟨w',hw,rw'⟩:=mz.some_of (v:=v) (o:=(atKey xs k).map (·.2)) (by rw [l];exact rel.val k)
  obtain ⟨p,hp,hp2⟩:=Option.map_eq_some_iff.mp hw
  refine wpAny_getItem_heap (tupleKind_room_in1 hu) (pe I.hok eb) dd hp ?_
  rw [hp2]
  exact h w' _ (I.tok _) rw'
theorem xS {h':Heap} {t':Nat} {ob:HO} (I:Inv X pins σ H s) (mu:LS (H a)) (hs:Heap.SameBut a s.heap h') (he:∃ q,h'.get? a=some q) (new:b_ X.prog X.w (upd H a ob) h' a ob) :
  Inv X pins σ (upd H a ob) { s with heap:=h',toks:=t' }:=
 I.write (x:=a) (e:=a) mu (.inl rfl) (fun b q hb z=>(hs.2 b hb).trans z) he new
theorem Di {P:Program} {w:World} {H':Hp} {h':Heap} {kvs:List (Key×V)} {vs:List (Key×Value)} (z:kvs.length<=sizeLine) (hd:(a == sysModules)=false) (rel:KV kvs vs) (dd:h'.DictOf (bN P w) a vs) :
  b_ P w H' h' a (.dK kvs):=⟨z,hd,vs,rel,dd⟩
theorem zZ {H':Hp} {Q:Unit->Shared->Prop} (hu:A.units+1 < cLine) (I:Inv X pins σ H s) (g:uM H a y v H') (ry:RelV y u) (rv:RelV v r) (h:∀ s',Inv X pins σ H' s'->Q () s') :
  wpAny (model X.prog X.w) A (setItem (.ref a) u r) Q E s:=by
 rcases g with ⟨kvs,k,e,ey,l,eH⟩ | ⟨kvs,k,b,e,ey,eb,l,eH⟩
 ·subst ey eH
  obtain ⟨z,hd,vs,rel,dd⟩:=Hf I.hok e
  have hz:vs.length<=sizeLine:=by rw [<- rel.length];exact z
  have hl:(putK kvs k v).length<=sizeLine:=by have:=jv kvs k v;omega
  refine wpAny_setItem_pairs (hsz:=hz) (xE ry) dd fun h' dd' hs=>h _ ?_
  have he:∃ q,h'.get? a=some q:=let ⟨q,_,_,hq,_⟩:=dd';⟨q,hq⟩
  exact xS I (by rw [e];exact True.intro) hs he (Di hl hd (rel.put k rv) dd')
 ·subst ey eH
  cases (show u=Value.ref b from ry)
  obtain ⟨z,hd,xs,rel,dd⟩:=Dj I.hok e
  have hz:xs.length<=sizeLine:=by rw [<- Paired.length rel];exact z
  have hl:(putK kvs k v).length<=sizeLine:=by have:=jv kvs k v;omega
  refine wpAny_setItem_heap (hsz:=hz) (tupleKind_room_in1 hu) (pe I.hok eb) dd fun h' dd' hs=>h _ ?_
  obtain ⟨q,es,ep,hq,h2,h3,h4,_,h5⟩:=dd'
  refine xS I (by rw [e];exact True.intro) hs ⟨q,hq⟩ ⟨hl,hd,_,(rel.put k eb rv).keeps fun c ys ec=>?_,q,es,ep,hq,h2,h3,h4,h5⟩
  rw [aK (Mi ec e (fun z=>nomatch z))]
  exact ec
end
section
variable {X:Cx} {pins:List (Addr×Obj)} {σ:St} {H:Hp} {s:Shared} {a:Addr} {kvs:List (Key×V)} {k:Key} {u:Value} {A:Around} {E:Value->Shared->Prop}
end
theorem uN {X:Cx} {pins:List (Addr×Obj)} {σ:St} {H:Hp} {s:Shared} {a:Addr} {y:V} {o:Option V} (I:Inv X pins σ H s) (g:mP H a y o):s.TypeIs (.ref a) "dict" := by
 rcases g with ⟨kvs,k,e,_,_⟩ | ⟨kvs,k,b,e,_,_,_⟩
 ·obtain ⟨_,_,vs,_,dd⟩:=xN I.hok e
  exact dd.typeIs
 ·obtain ⟨_,_,xs,_,dd⟩:=y9 I.hok e
  exact dd.typeIs
section
variable {X:Cx} {o i e value:Expr} {pos pos' tpos:Pos} {td ty tv:TE}
end
theorem Bb {P:Program} {w:World} {H:Hp} (h:Heap) (hb:sysModules < h.objs.size):b_ P w H (h.push { cls:=.type "dict",data:=.dict #[] }) h.objs.size (.dK []):=
 ⟨Nat.zero_le _,beq_eq_false_iff_ne.mpr (Ne.symm (Nat.ne_of_lt hb)),[],.nil,Heap.DictOf.new h⟩
theorem EC {P:Program} {w:World} {H:Hp} (h:Heap) (hb:sysModules < h.objs.size):b_ P w H (h.push { cls:=.type "dict",data:=.dict #[] }) h.objs.size (.dT []):=
 ⟨Nat.zero_le _,beq_eq_false_iff_ne.mpr (Ne.symm (Nat.ne_of_lt hb)),[],.nil,_,#[],0,Heap.get?_push_size _ rfl,⟨rfl,rfl,rfl⟩,rfl,rfl,List.nodup_nil⟩
noncomputable def JU:TE:=fun _ H Q=>∀ p,H p=none->Q (.ref p) (upd H p (.dK []))
noncomputable def Ky:TE:=fun _ H Q=>∀ p,H p=none->Q (.ref p) (upd H p (.dT []))
section
variable {X:Cx} {pos:Pos}
theorem CB:PE X (.Dict [] [] pos) JU:=fun pins s σ H Q I h=>
 wpAny_Dict_empty ⟨.ref s.heap.objs.size,_,I.laid (a:=s.heap.objs.size) (o:=.dK []) (t':=s.toks) (fun _ _ q=>Heap.get?_push_of_some _ q) (Nat.le_refl _) (Bb s.heap I.big),rfl,h _ (I.hok.fresh (Nat.le_refl _))⟩
theorem B7:PE X (.Dict [] [] pos) Ky:=fun pins s σ H Q I h=>
 wpAny_Dict_empty ⟨.ref s.heap.objs.size,_,I.laid (a:=s.heap.objs.size) (o:=.dT []) (t':=s.toks) (fun _ _ q=>Heap.get?_push_of_some _ q) (Nat.le_refl _) (EC s.heap I.big),rfl,h _ (I.hok.fresh (Nat.le_refl _))⟩
end
structure M1 (X:Cx) (o:Expr) (m:Str) (apos:Pos) (e:Expr) (cpos:Pos):Prop where
 base:attributeBase o m X.env (eval o X.env)=eval o X.env
 few:((backTo cpos (starEach [e] X.env)).all (fun x=>!x.1) && (backToKw cpos (keywordEach [] X.env)).all (fun x=>x.1.isSome)
  && decide (([e]:List Expr).length+([]:List Keyword).length+(if ([]:List Keyword).isEmpty then 0 else 1) < 30))=true
 line:(apos.endLine == cpos.line)=true
 trees:backTo cpos (starEach [e] X.env)=[(false,eval e X.env)]
structure M2 (X:Cx) (o:Expr) (m:Str) (apos:Pos) (e f:Expr) (cpos:Pos):Prop where
 base:attributeBase o m X.env (eval o X.env)=eval o X.env
 few:((backTo cpos (starEach [e,f] X.env)).all (fun x=>!x.1) && (backToKw cpos (keywordEach [] X.env)).all (fun x=>x.1.isSome)
  && decide (([e,f]:List Expr).length+([]:List Keyword).length+(if ([]:List Keyword).isEmpty then 0 else 1) < 30))=true
 line:(apos.endLine == cpos.line)=true
 trees:backTo cpos (starEach [e,f] X.env)=[(false,eval e X.env),(false,eval f X.env)]
section
variable {X:Cx} {pins:List (Addr×Obj)} {σ:St} {H:Hp} {s:Shared} {a:Addr} {y d:V} {u r:Value} {o:Option V} {A:Around} {E:Value->Shared->Prop}
theorem Jh {Q:Value->Shared->Prop} (hu:A.units+1 < cLine) (I:Inv X pins σ H s) (g:mP H a y o) (ry:RelV y u) (rd:RelV d r) (h:∀ w' s',Inv X pins σ H s'->RelV (o.getD d) w'->Q w' s') :
  wpAny (model X.prog X.w) A (call (.builtin "dict.get") [.ref a,u,r]) Q E s:=by
 rcases g with ⟨kvs,k,e,ey,l⟩ | ⟨kvs,k,b,e,ey,eb,l⟩
 ·subst ey
  obtain ⟨z,hd,vs,rel,dd⟩:=xN I.hok e
  refine call_meetsIn PySem.F.slot_dict_get dd.typeIs PySem.F.entry_dict_get (PySem.F.args_dict_get_3 _ _ _) (meets_dict_get_default (bN X.prog X.w) a (xE ry) hd r) ⟨_,dd.mapOf,h _ _ (I.tok _) ?_⟩
  rw [l]
  exact (rel.val k).getD rd
 ·subst ey
  cases (show u=Value.ref b from ry)
  obtain ⟨z,hd,xs,rel,dd⟩:=y9 I.hok e
  refine call_meetsIn PySem.F.slot_dict_get dd.typeIs PySem.F.entry_dict_get (PySem.F.args_dict_get_3 _ _ _) (meetsH_dict_get_default (tupleKind (bN X.prog X.w)) a b hd r) ⟨tupleKind_room_in1 hu,k,xs,pe I.hok eb,dd,h _ _ (I.tok _) ?_⟩
  rw [l]
  exact (rel.val k).getD rd
end
section
variable {X:Cx} {o e f:Expr} {apos cpos:Pos} {td ty tx:TE}
end
section
variable {X:Cx} {pins:List (Addr×Obj)} {σ:St} {H:Hp} {s:Shared} {a:Addr} {kvs:List (Key×V)} {A:Around} {E:Value->Shared->Prop}
end
section
variable {X:Cx} {pins:List (Addr×Obj)} {σ:St} {H:Hp} {s:Shared} {a:Addr} {y:V} {u:Value} {A:Around} {E:Value->Shared->Prop}
end
section
variable {X:Cx}
theorem yk (hu:X.A.units+1 < cLine):Hq X (fun x y H Q=>∃ a v,x=.ref a/\mP H a y (some v)/\Q v H):=by
 intro value slice pins s σ H x y v u Q I rx ry h hs
 obtain ⟨a,z,rfl,g,q⟩:=h
 cases rx
 have hT:=uN I g
 unfold subscriptTail
 refine wpAny_bind ?_
 rw [getitemInPython_of_ne hT.not_modules]
 refine wpAny_bind (wpAny_specialOf hT PySem.F.slot_dict_getitem.lookup ?_)
 have fin:wpAny (model X.prog X.w) X.A (subscripted slice false (.ref a) u) (fun r s₃=>wpAny (model X.prog X.w) X.A (letTemporaryGo value (.ref a) r >>= fun _=>pure r) (EP X pins σ Q) X.xe s₃) X.xe s:=by
  rw [hs]
  exact wpAny_operating (AH hu I g ry fun w' s3 I3 rw'=>wpAny_bind (wpAny_letTemporaryGo (wpAny_pure ⟨z,H,I3,rw',q⟩)))
 first
  | exact wpAny_pure (wpAny_bind fin)
  | exact wpAny_bind (wpAny_pure (wpAny_bind fin))
  | exact wpAny_bind fin
theorem set_dict (hu:X.A.units+1 < cLine):AJ X (fun o i v H Q=>∃ a H',o=.ref a/\uM H a i v H'/\Q H'):=by
 intro pins s σ H o i v ov iv u Q I ro ri rv h
 obtain ⟨a,H',rfl,g,q⟩:=h
 cases ro
 exact zZ hu I g ri rv fun s4 I4=>⟨H',I4,q⟩
noncomputable def Lp:V->List V->Hp->VK->Prop:=fun x vs H Q=>∃ a b ks kvs y,x=.ref a/\vs=[.ref b,y]/\H a=some (.dT kvs)/\H b=some (.tup (ks.map kV))/\Q ((fV kvs ks).getD y) H
theorem G0 (hu:X.A.units+1 < cLine):MB X "dict.get" Lp:=by
 intro pins s σ H x vs v us Q I rx rv h
 obtain ⟨a,b,ks,kvs,y,rfl,rfl,ea,eb,q⟩:=h
 cases rx
 cases rv with
 | @cons _ u1 _ Cf r1 rv=>
  cases rv with
  | @cons _ u2 _ vt r2 rv=>
   cases rv
   cases r1
   obtain ⟨z,hd,xs,rel,dd⟩:=Dj I.hok ea
   refine call_meetsIn PySem.F.slot_dict_get dd.typeIs PySem.F.entry_dict_get (PySem.F.args_dict_get_3 _ _ _) (meetsH_dict_get_default (tupleKind (bN X.prog X.w)) a b hd u2) ⟨tupleKind_room_in1 hu,ks,xs,pe I.hok eb,dd,?_⟩
   refine ⟨(fV kvs ks).getD y,H,I.tok _,?_,q⟩
   have rl:=rel.val ks
   cases e1:fV kvs ks with
   | none=>
    rw [e1] at rl
    cases e2:(atKey xs ks).map (·.2) with
    | none=>exact r2
    | some w'=>rw [e2] at rl;exact rl.elim
   | some w1=>
    rw [e1] at rl
    cases e2:(atKey xs ks).map (·.2) with
    | none=>rw [e2] at rl;exact rl.elim
    | some w'=>rw [e2] at rl;exact rl
end
section
variable {P:Program} {w:World} {A:Around} {E:Value->Shared->Prop} {s:Shared} {it d:Addr} {i ep:Nat} {es:Array DictEntry} {o:Obj} {k0 v0:Value}
end
section
variable {X:Cx}
end
section
variable {X:Cx}
theorem kt_at {H:Hp}:∀ {kvs:List (List Key×V)} {xs:List (List Key×Addr×Value)},KT H kvs xs->kvs.length=xs.length/\∀ (i:Nat) (p:List Key×V),kvs[i]?=some p->∃ y:List Key×Addr×Value,xs[i]?=some y/\p.1=y.1/\H y.2.1=some (.tup (p.1.map kV))/\RelV p.2 y.2.2
 | [],[],_=>⟨rfl,fun i p h=>by simp at h⟩
 | [],_::_,r=>nomatch r
 | _::_,[],r=>nomatch r
 | a::kvs,b::xs,.cons z r=>by
  obtain ⟨l,q⟩:=kt_at r
  refine ⟨by simp [l],fun i p h=>?_⟩
  cases i with
  | zero=>
   have:a=p:=by simpa using h
   subst this
   exact ⟨b,rfl,z⟩
  | succ i=>exact q i p (by simpa using h)
end
noncomputable def C0 (e:Addr) (h:Heap):Prop:=∃ o vs,h.get? e=some o/\o.data=.fields vs/\vs[2]?=some .none/\o.dict=none
noncomputable def bq (e:Addr) {α:Type} (m:Sem α):Prop:=∀ (M:Model) (Γ:PySem.Ctx) (Q:α->Pos->Shared->Prop) (E:Value->Pos->Shared->Prop) (p:Pos) (s:Shared),Sem.wp M Γ m Q E p s->C0 e s.heap->Sem.wp M Γ m (fun a p s=>Q a p s/\C0 e s.heap) (fun v p s=>E v p s/\C0 e s.heap) p s
section
variable {e:Addr} {α β:Type}
theorem bq.bind {m:Sem α} {f:α->Sem β} (h1:bq e m) (h2:∀ a,bq e (f a)):bq e (m >>= f):=by
 intro M Γ Q E p s h c
 rw [Sem.wp_bind'] at h ⊢
 exact Sem.wp_mono M Γ m (fun a p' s' z=>h2 a M Γ Q E p' s' z.1 z.2) (fun _ _ _ z=>z) p s (h1 M Γ _ _ p s h c)
theorem bq.pure (a:α):bq e (pure a:Sem α):=fun M Γ Q E p s h c=>by rw [Sem.wp_pure'] at h ⊢;exact ⟨h,c⟩
theorem bq.A9 (w:String):bq e (PySem.unsupported w:Sem α):=fun M Γ Q E p s h c=>by
 have h:Sem.wp M Γ (.unsupported w:Sem α) Q E p s:=h
 rw [Sem.wp_unsupported] at h;exact h.elim
theorem bq.load (a:Addr):bq e (PySem.load a):=fun M Γ Q E p s h c=>by
 have h:Sem.wp M Γ (.load a none .pure) Q E p s:=h
 show Sem.wp M Γ (.load a none .pure) _ _ p s
 rw [Sem.wp_load] at h ⊢
 obtain ⟨o,ho,h⟩:=h
 rw [Sem.wp_pure] at h
 exact ⟨o,ho,by rw [Sem.wp_pure];exact ⟨h,c⟩⟩
theorem C0.update {h:Heap} {a:Addr} {f:Obj->Obj} (c:C0 e h) (hf:∀ o vs,o.data=.fields vs->vs[2]?=some .none->∃ ws,(f o).data=.fields ws/\ws[2]?=some .none/\(f o).dict=o.dict):C0 e (h.update a f):=by
 obtain ⟨o,vs,h1,h2,h3,h4⟩:=c
 by_cases z:a=e
 ·subst z
  obtain ⟨ws,w1,w2,w3⟩:=hf o vs h2 h3
  exact ⟨f o,ws,Heap.get?_update_self f h1 (Obj.isFreed_of_fields w1),w1,w2,w3.trans h4⟩
 ·exact ⟨o,vs,by rw [Heap.get?_update_other _ _ z];exact h1,h2,h3,h4⟩
theorem bq.update (a:Addr) (f:Obj->Obj) (hf:∀ o vs,o.data=.fields vs->vs[2]?=some .none->∃ ws,(f o).data=.fields ws/\ws[2]?=some .none/\(f o).dict=o.dict):bq e (PySem.update a f):=fun M Γ Q E p s h c=>by
 have h:Sem.wp M Γ (.update a none f .pure) Q E p s:=h
 show Sem.wp M Γ (.update a none f .pure) _ _ p s
 rw [Sem.wp_update] at h ⊢
 obtain ⟨ho,h⟩:=h
 rw [Sem.wp_pure] at h
 exact ⟨ho,by rw [Sem.wp_pure];exact ⟨h,c.update hf⟩⟩
theorem bq.alloc (o:Obj):bq e (PySem.alloc o):=fun M Γ Q E p s h c=>by
 have h:Sem.wp M Γ (.alloc o .pure) Q E p s:=h
 show Sem.wp M Γ (.alloc o .pure) _ _ p s
 rw [Sem.wp_alloc,Sem.wp_pure] at h ⊢
 obtain ⟨ob,vs,h1,h2,h3,h4⟩:=c
 exact ⟨h,ob,vs,Heap.get?_push_of_some _ h1,h2,h3,h4⟩
theorem bq.stack:bq e PySem.stack:=fun M Γ Q E p s h c=>by
 have h:Sem.wp M Γ (.stack .pure) Q E p s:=h
 show Sem.wp M Γ (.stack .pure) _ _ p s
 rw [Sem.wp_stack,Sem.wp_pure] at h ⊢
 exact ⟨h,c⟩
theorem bq.ite {c:Prop} [Decidable c] {a b:Sem α} (h1:bq e a) (h2:bq e b):bq e (if c then a else b):=by
 split
 ·exact h1
 ·exact h2
theorem bq.field (v:Value) (i:Nat):bq e (PySem.field v i):=by
 unfold PySem.field PySem.fieldsOf
 refine bq.bind ?_ fun vs=>?_
 ·split
  ·refine bq.bind (bq.load _) fun o=>?_
   split
   ·exact bq.pure _
   ·exact bq.A9 _
  ·exact bq.A9 _
 ·split
  ·exact bq.pure _
  ·exact bq.A9 _
theorem bq.setField (v x:Value) (i:Nat) (hi:i≠2):bq e (PySem.setField v i x):=by
 unfold PySem.setField PySem.updateField
 split
 ·refine bq.bind (bq.load _) fun o=>?_
  split
  ·refine bq.ite (bq.update _ _ fun o vs h1 h2=>⟨_,Obj.data_mapFields h1 _,?_,?_⟩) (bq.A9 _)
   ·rw [Array.getElem?_setIfInBounds_ne hi];exact h2
   ·unfold Obj.mapFields;split <;> rfl
  ·exact bq.A9 _
 ·exact bq.A9 _
theorem bq.frameEnvs:bq e PySem.frameEnvs:=by
 unfold PySem.frameEnvs
 exact bq.bind bq.stack fun _=>bq.pure _
theorem bq.behind (env:Env) (outer:List Env):bq e (behindIsImport env outer):=by
 unfold behindIsImport
 refine bq.ite (bq.pure _) (bq.ite (bq.pure _) (bq.bind (bq.field _ _) fun _=>bq.pure _))
theorem bq.under:bq e underTheClaimsCaller:=by
 unfold underTheClaimsCaller
 exact bq.bind bq.stack fun _=>bq.pure _
theorem bq.kept (env:Env) (b:Bool) (l:List Env):bq e (keptBack env b l):=by
 unfold keptBack
 split
 ·refine bq.ite (bq.pure _) (bq.bind bq.under fun _=>bq.pure _)
 ·exact bq.pure _
theorem bq.ready:∀ (l:List Env),bq e (readyFrames l)
 | []=>bq.pure _
 | env::outer=>by
  unfold readyFrames
  split
  ·refine bq.bind (bq.load _) fun o=>?_
   refine bq.ite (bq.pure _) ?_
   refine bq.bind (bq.behind _ _) fun _=>bq.bind (bq.kept _ _ _) fun _=>bq.bind (bq.update _ _ fun o vs h1 h2=>⟨vs,h1,h2,rfl⟩) fun _=>bq.ready outer
  ·exact bq.A9 _
theorem bq.frameOf (env:Env):bq e (PySem.frameOf env):=by
 unfold PySem.frameOf
 refine bq.bind bq.frameEnvs fun l=>bq.bind ?_ fun _=>?_
 ·unfold frameObject
  split
  ·exact bq.pure _
  ·exact bq.bind (bq.ready _) fun _=>bq.pure _
 ·split
  ·exact bq.pure _
  ·exact bq.A9 _
theorem bq.place (f:Addr) (b:Bool):bq e (entryPlaceOf f b):=by
 unfold entryPlaceOf
 refine bq.bind bq.stack fun _=>?_
 split
 ·exact bq.pure _
 ·exact bq.pure _
theorem bq.entry (a b c d f:Value) (l:List Value):bq e (EntryCells.newEntry a b c d f l):=by
 unfold EntryCells.newEntry newFields newObj
 repeat (first | exact bq.pure _ | exact bq.A9 _ | refine bq.bind (bq.alloc _) fun _=>?_ | refine bq.bind (bq.A9 _) fun _=>?_ | refine bq.ite ?_ ?_ | (refine bq.bind ?_ fun _=>?_))
theorem bq.flight (v:Value) (f:Option Addr):bq e (setFlight v f):=by
 unfold setFlight
 refine bq.bind (bq.field _ _) fun _=>bq.ite (bq.setField _ _ _ (by decide)) (bq.pure _)
theorem bq.note (v:Value) (env:Env):bq e (noteFrame v env):=by
 unfold noteFrame
 split
 ·refine bq.bind (bq.field _ _) fun h=>bq.ite ?_ ?_
  ·refine bq.bind (bq.field _ _) fun _=>bq.ite (bq.pure _) ?_
   refine bq.bind (bq.setField _ _ _ (by decide)) fun _=>bq.bind (bq.frameOf _) fun _=>bq.bind (bq.place _ _) fun _=>bq.bind (bq.entry _ _ _ _ _ _) fun _=>bq.setField _ _ _ (by decide)
  ·refine bq.bind (bq.frameOf _) fun _=>bq.bind (bq.place _ _) fun _=>bq.bind (bq.entry _ _ _ _ _ _) fun _=>bq.setField _ _ _ (by decide)
 ·exact bq.A9 _
theorem bq.leave (v:Value) (env:Env):bq e (leaving env v):=by
 unfold leaving
 exact bq.bind (bq.note _ _) fun _=>bq.flight _ _
theorem bq.any {m:Sem α} {M:Model} {A:Around} {Q:α->Shared->Prop} {E:Value->Shared->Prop} {s:Shared} (k:bq e m) (h:wpAny M A m Q E s) (c:C0 e s.heap):wpAny M A m (fun a s'=>Q a s'/\C0 e s'.heap) (fun v s'=>E v s'/\C0 e s'.heap) s:=
 fun Γ p hΓ=>k M Γ _ _ p s (h Γ p hΓ) c
end
theorem b_.here {P:Program} {w:World} {H:Hp} {h:Heap} {a:Addr} {o:HO} (x:b_ P w H h a o):∃ ob,h.get? a=some ob:=by
 cases o with
 | lst xs=>obtain ⟨_,_,_,_,e⟩:=x;exact ⟨_,e⟩
 | tup xs=>obtain ⟨_,_,_,p⟩:=x;obtain ⟨o,e,_⟩:=p;exact ⟨_,e⟩
 | dK kvs=>obtain ⟨_,_,_,_,o,_,_,e,_⟩:=x;exact ⟨_,e⟩
 | dT kvs=>obtain ⟨_,_,_,_,o,_,_,e,_⟩:=x;exact ⟨_,e⟩
 | set S n=>obtain ⟨o,_,_,_,e,_⟩:=x;exact ⟨_,e⟩
 | ins C dx fs=>obtain ⟨_,_,_,e,_⟩:=x;exact ⟨_,e⟩
 | own y=>exact x
 | xd fs=>obtain ⟨_,⟨_,_,_,e,_⟩,_⟩:=x;exact ⟨_,e⟩
 | rng lo hi=>obtain ⟨_,_,_,e⟩:=x;exact ⟨_,e⟩
 | frz ob u=>obtain ⟨e,_⟩:=x;exact ⟨_,e⟩
 | tbl ps=>exact ⟨_,(show h.get? a=some _ from x)⟩
 | met f y=>exact ⟨_,(show h.get? a=some _ from x)⟩
 | ext φ=>obtain ⟨_,⟨o,e⟩,_⟩:=x;exact ⟨_,e⟩
structure Fly (l:List Env) (g:Heap) (pn:List (Addr×Obj)) (H:Hp) (e:Addr) (cls:Value) (h:Heap):Prop where
 ex:∃ (B:Heap) (a0:Value),Heap.FlyingW B l e cls a0 h/\(∀ a u,H a=some u->∃ o,B.get? a=some o)/\(∀ b o,g.get? b=some o->b∉frs l->∃ o',B.get? b=some o')/\(∀ p∈pn,∃ o',B.get? p.1=some o')/\C0 e h
structure Made (X:Cx) (H:Hp) (e:Addr) (cls:Value) (g:Heap) (h:Heap):Prop where
 ex:∃ (g':Heap) (vs:List Value),Heap.MadeExcOf g' h e cls vs/\g'.FunFrames X.base X.stack/\(∀ a u,H a=some u->∃ o,g'.get? a=some o)/\(∀ b o,g.get? b=some o->∃ o',g'.get? b=some o')/\(∀ p∈X.pn,∃ o',g'.get? p.1=some o')
theorem yK {g h:Heap} {e:Addr} {cls:Value} {vs:List Value} (M:Heap.MadeExcOf g h e cls vs):C0 e h:=by
 obtain ⟨t,he,_⟩:=M.there
 exact ⟨_,_,he,rfl,rfl,rfl⟩
noncomputable def oQ (X:Cx) (H:Hp) (e:Addr) (cls:Value) (s':Shared):Prop:=Made X H e cls X.s₀.heap s'.heap\/Fly X.stack X.s₀.heap X.pn H e cls s'.heap
section
variable {X:Cx} {pins:List (Addr×Obj)} {σ:L2.St} {H:Hp} {s':Shared} {e:Addr} {cls:Value}
theorem pT (I:Inv X pins σ H s') (hex:X.ex=[]) {B h':Heap} (k1:B.StaysIn s'.heap) (k2:B.StaysIn h') (up:s'.heap.UpToSlots h') (c1:∀ a u,H a=some u->∃ o,B.get? a=some o) (c2:∀ b o,X.s₀.heap.get? b=some o->b∉X.fs->∃ o',B.get? b=some o') :
  Un X.fs [] X.H₀ H X.s₀.heap h'/\j_ X.prog X.w H h':=by
 have nx:∀ b:Addr,b∉X.ex:=fun b z=>by rw [hex] at z;cases z
 have cov:∀ b o o',B.get? b=some o'->s'.heap.get? b=some o->h'.get? b=some o:=fun b o o' eb es=>by
  have:=k1 b o' eb
  rw [es] at this;cases this
  exact k2 b o eb
 have slot:∀ b o,X.s₀.heap.get? b=some o->X.H₀ b=none->b∈X.fs->∃ sl,h'.get? b=some { o with slots:=sl }:=fun b o q n hb=>by
  obtain ⟨sl,e1⟩:=I.base.slot b o q n hb (nx b)
  obtain ⟨_,o2,q2,d2⟩:=I.ok.i_.mem hb
  rw [q] at q2;cases q2
  obtain ⟨sl',e2⟩:=up b _ e1 d2
  exact ⟨sl',e2⟩
 refine ⟨⟨fun b o q n hb _=>?_,fun b o q n hb _=>slot b o q n hb,fun b o q n _=>I.base.free b o q n (nx b),fun b o q _=>?_,I.base.tups,I.base.frzs,I.base.tbls⟩,fun a u ea=>?_⟩
 ·obtain ⟨o',eb⟩:=c2 b o q hb
  exact cov b o o' eb (I.base.keep b o q n hb (nx b))
 ·by_cases hb:b∈X.fs
  ·obtain ⟨sl,z⟩:=slot b o q (I.ok.frf b hb) hb
   exact ⟨_,z⟩
  ·obtain ⟨o',eb⟩:=c2 b o q hb
   exact ⟨o',k2 b o' eb⟩
 ·refine (I.hok a u ea).stay (fun b v hb q=>?_) (fun _ q=>q) fun _ _ q=>q
  rcases hb with z | z
  ·subst z
   obtain ⟨o',eb⟩:=c1 _ u ea
   exact cov _ v o' eb q
  ·obtain ⟨o',eb⟩:=c1 b _ z
   exact cov b v o' eb q
theorem vF (I:Inv X pins σ H s') (hst:X.stack=X.env::X.outer) (hf:X.env.frame=some X.env.locals) (hex:X.ex=[]) (R:oQ X H e cls s') {Q:Shared->Prop} {E:Value->Shared->Prop}
  (hQ:∀ h',Un X.fs [] X.H₀ H X.s₀.heap h'->j_ X.prog X.w H h'->Fly X.outer X.s₀.heap [] H e cls h'->Q { s' with heap:=h' }):wpAny (model X.prog X.w) X.A (leaving X.env (.ref e)) (fun _ s''=>Q s'') E s':=by
 have hfr:X.A.frames=some (X.env::X.outer):=by rw [<- hst];exact I.ok.frames
 have nl:∀ b o,X.s₀.heap.get? b=some o->b∉X.fs->b∉frs (X.env::X.outer):=fun b o q hb z=>by
  unfold frs at z
  rw [List.filterMap_cons,hf] at z
  rcases List.mem_cons.mp z with z | z
  ·rw [z] at q
   exact absurd (Nat.lt_of_lt_of_le (Heap.lt_size q) I.ok.above) (Nat.lt_irrefl _)
  ·exact hb z
 rcases R with ⟨g',vs,M,ffg,m1,m2,_⟩ | ⟨B,a0,F,c1,c2,_,k0⟩
 ·
  rw [hst] at ffg
  have hin:∀ env∈(X.env::X.outer),∀ b,env.frame=some b->b∈frs (X.env::X.outer):=fun env he b hb=>List.mem_filterMap.mpr ⟨env,he,hb⟩
  refine wpAny_mono (bq.any (e:=e) (bq.leave _ _) (wpAny_leaves_madeW (Q:=fun _ s''=>∃ h' t,s''={ s' with heap:=h' }/\Heap.FlyingW (PySem.W.hideAll g' (frs (X.env::X.outer))) X.outer e cls (.ref t) h'/\s'.heap.UpToSlots h') (E:=fun _ _=>False) (base:=PySem.W.hideAll g' (frs (X.env::X.outer))) hfr hf (fun b o q=>PySem.W.of_hideAll _ q) (PySem.W.funFrames_hide ffg hin) M fun h' t x1 x2 x3 x4=>⟨h',t,rfl,x1,x4⟩) (yK M)) (fun _ s'' z=>?_) fun _ _ z=>z.1.elim
  obtain ⟨⟨h',t,rfl,x1,x4⟩,k0⟩:=z
  have k1:(PySem.W.hideAll g' (frs (X.env::X.outer))).StaysIn s'.heap:=fun b o q=>M.keeps b o (PySem.W.of_hideAll _ q)
  have c1:∀ a u,H a=some u->∃ o,(PySem.W.hideAll g' (frs (X.env::X.outer))).get? a=some o:=fun a u ea=>by
   obtain ⟨o,q⟩:=m1 a u ea
   refine ⟨o,PySem.W.hideAll_get _ q fun z=>?_⟩
   rw [<- hst] at z
   rw [I.nN a z] at ea;cases ea
  have c2:∀ b o,X.s₀.heap.get? b=some o->b∉X.fs->∃ o',(PySem.W.hideAll g' (frs (X.env::X.outer))).get? b=some o':=fun b o q hb=>by
   obtain ⟨o',q'⟩:=m2 b o q
   exact ⟨o',PySem.W.hideAll_get _ q' (nl b o q hb)⟩
  obtain ⟨un,hok⟩:=pT I hex k1 x1.1 x4 c1 c2
  exact hQ h' un hok ⟨_,_,x1,c1,fun b o q hb=>c2 b o q hb,fun p hp=>absurd hp (by simp),k0⟩
 ·rw [hst] at F c2
  refine wpAny_mono (bq.any (e:=e) (bq.leave _ _) (wpAny_leaves_onW (Q:=fun _ s''=>∃ h',s''={ s' with heap:=h' }/\Heap.FlyingW B X.outer e cls a0 h'/\s'.heap.UpToSlots h') (E:=fun _ _=>False) hfr hf F fun h' x1 x4=>⟨h',rfl,x1,x4⟩) k0) (fun _ s'' z=>?_) fun _ _ z=>z.1.elim
  obtain ⟨⟨h',rfl,x1,x4⟩,k0'⟩:=z
  have c2':∀ b o,X.s₀.heap.get? b=some o->b∉X.fs->∃ o',B.get? b=some o':=fun b o q hb=>c2 b o q (nl b o q hb)
  obtain ⟨un,hok⟩:=pT I hex F.1 x1.1 x4 c1 c2'
  exact hQ h' un hok ⟨_,_,x1,c1,c2',fun p hp=>absurd hp (by simp),k0'⟩
end
noncomputable def Ar (P:Program) (w:World):A6:=fun outer H s E e s''=>∃ ea cls H',e=.ref ea/\s''.os=s.os/\AllBare s''.gens/\Un (frs outer) [] H H' s.heap s''.heap/\j_ P w H' s''.heap/\Fly outer s.heap [] H' ea cls s''.heap/\E cls none H'
section
variable {P:Program} {w:World} {K:PySem.W.Frag} {mg:Str->Option Value} {base:Heap} {N:List Str} {qual:Str} {scope:Scope} {f:Addr} {cd:Value} {A:Around} {outer:List Env} {s:Shared} {H:Hp} {E:XK}
theorem Aa {pins:List (Addr×Obj)} {σ':L2.St} {H':Hp} {s':Shared} {ea:Addr} {cls:Value} (I:Inv (kQ (Ar P w) P w K mg base N qual scope f cd A outer s H E) pins σ' H' s')
  (hf:(envOfC qual scope s.heap.objs.size f cd).frame=some (envOfC qual scope s.heap.objs.size f cd).locals)
  (R:oQ (kQ (Ar P w) P w K mg base N qual scope f cd A outer s H E) H' ea cls s') (hE:E cls none H'):(kQ (Ar P w) P w K mg base N qual scope f cd A outer s H E).xe (.ref ea) s':=by
 refine vF I rfl hf rfl R (Q:=fun s''=>Ar P w outer H s E (.ref ea) s'') fun h' un hok fl=>?_
 exact ⟨ea,cls,H',rfl,I.os,I.bare,un,hok,fl,hE⟩
noncomputable def EX (X:Cx):XK:=fun cls _ H'=>X.ex=[]/\∀ pins σ' s' e,Inv X pins σ' H' s'->oQ X H' e cls s'->X.xe (.ref e) s'
theorem By {X:Cx} (hP:X.prog=P) (hw:X.w=w):Passes (Ar P w) X (EX X):=by
 intro pins σ H s e s' I ⟨ea,cls,H',he,os,bare,un,hok,⟨B,a0,F,c1,c2,_,k0⟩,hE⟩
 subst he hP hw
 obtain ⟨hh,g,d,t,os'⟩:=s'
 obtain rfl:os'=s.os:=os
 refine hE.2 pins σ _ ea (I.call (h':=hh) (g':=g) (d':=d) (t':=t) (ch:=[]) un hok bare (fun b z=>absurd z (by simp))) (.inr ⟨B,a0,F,c1,fun b o q hb=>?_,fun p hp=>?_,k0⟩)
 ·obtain ⟨o',q'⟩:=I.base.there b o q (by rw [hE.1];simp)
  exact c2 b o' q' hb
 ·obtain ⟨q,_,n1,n2,_⟩:=I.pin p (List.mem_append_left _ hp)
  exact c2 p.1 _ q fun z=>(List.mem_cons.mp (I.oY _ z)).elim n1 n2
noncomputable def J5 (X:Cx) (C:Addr) (t:TA):TS:=fun _ σ H=>t σ H fun vs H'=>vs.length<=sizeLine/\EX X (.ref C) none H'
theorem Et {X:Cx} {x:Str} {C:Addr} {bmB:List Value} {newId B initId:String} {e:Expr} {es:List Expr} {t:TA} {np cpos pos:Pos} (O:OwnCls x C bmB newId X.mg X.base) (FB:ExcBaseFacts B newId initId bmB) (hh:X.A.handled=none) (ha:PA X (e::es) t) (hg:Gl X x:=by rfl)
  (hs:starEach (e::es) X.env=(false,eval e X.env)::starEach es X.env:=by rfl) (hplain:(backTo cpos (starEach es X.env)).any (·.1)=false:=by rfl) (hd:(x == ("__debug__" : Str))=false:=by decide) :
  PS X (.Raise (some (.Call (.Name x np) (e::es) [] cpos)) none pos) (J5 X C t):=by
 intro pins s σ H D I h
 obtain ⟨tl,N,nm,q,bs,hdct,sn,sub,ab,col,dd,k0,k1,k2,k3,k5,mN,hC,hN,hni,T⟩:=O.obj
 refine wpAny_Raise_call_subU (C:=C) (nm:=nm) (q:=q) (N:=N) (bs:=bs) (bm:=tl) (hdct:=hdct) (sn:=sn) (sub:=sub) (ab:=ab) (col:=col) (dd:=dd) (k0:=k0) (k1:=k1) (k2:=k2) (k3:=k3) (k5:=k5)
  FB FB.hasB FB (mN:=mN) (T.hasType FB.hasBase) hh (by rw [hs];show (false || (backTo cpos (starEach es X.env)).any (·.1))=false;rw [hplain];rfl) hni (lR I hg O.bound ⟨rfl,?_⟩ hd)
 have hA:=ha cpos pins s σ H _ I h
 rw [hs] at hA ⊢
 refine Calls.evalArgs_plain (eS hA fun us s2 ⟨vs,H2,I2,r2,hl,hex,q2⟩=>?_)
 refine ⟨rfl,by rw [<- r2.length];exact hl,I2.bk _ _ hC,hN.keeps I2.bk,T.keeps I2.bk,fun h' ea M=>?_⟩
 refine q2 pins σ { s2 with heap:=h' } ea ?_ (.inl ⟨s2.heap,us,M,I2.stack,fun a u ea=>?_,fun b o q=>?_,fun p hp=>⟨_,(I2.pin p (List.mem_append_left _ hp)).1⟩⟩)
 ·exact I2.kept (t':=s2.toks) M.keeps
 ·exact (I2.hok a u ea).here
 ·exact I2.base.there b o q (by rw [hex];simp)
end
noncomputable def pq:List (Str ⊕ TE)->St->Hp->(Hp->Prop)->Prop
 | [],_,H,k=>k H
 | .inl x::ps,σ,H,k=>x.length<=1000/\pq ps σ H k
 | .inr t::ps,σ,H,k=>t σ H fun v H'=>∃ i,v=.int i/\i.natAbs.log2 < 64/\pq ps σ H' k
inductive FParts (X:Cx):List Expr->List (Str ⊕ TE)->Prop
 | nil:FParts X [] []
 | txt {x:Str} {j pos} {es:List Expr} {ps:List (Str ⊕ TE)} (h:FParts X es ps):FParts X (.Constant (.str x) j pos::es) (.inl x::ps)
 | val {e:Expr} {pos:Pos} {t:TE} {es:List Expr} {ps:List (Str ⊕ TE)} (he:PE X e t) (h:FParts X es ps):FParts X (.FormattedValue e (-1) none pos::es) (.inr t::ps)
theorem kJ {X:Cx} {pins:List (Addr×Obj)} {σ:St} {Q:VK}:∀ {es:List Expr} {ps:List (Str ⊕ TE)},FParts X es ps->∀ (H:Hp) (s:Shared) (out:Str),Inv X pins σ H s->out.length+2000 * es.length<=sizeLine ->
  pq ps σ H (fun H'=>∀ x:Str,x.length<=sizeLine->Q (.str x) H')->wpAny (model X.prog X.w) X.A (joinParts out (evalEach es X.env)) (EP X pins σ Q) X.xe s
 | _,_,.nil,H,s,out,I,hl,h=>joinParts_nilE (joinParts_nil (show EP X pins σ Q _ _ from ⟨.str out,H,I.tok _,⟨_,rfl⟩,h out (by simpa using hl)⟩) (by simpa using hl))
 | _,_,.txt (x:=x) hp,H,s,out,I,hl,h=>by
  refine joinParts_consE (joinParts_cons (Calls.Constant_str ?_))
  rw [List.length_cons] at hl
  have hx:=h.1
  have hz:(out++x).length=out.length+x.length:=strLen_append ..
  exact ⟨by rw [hz];omega,kJ hp H _ _ (I.tok _) (by rw [hz];omega) h.2⟩
 | _,_,.val (e:=e) (t:=t) he hp,H,s,out,I,hl,h=>by
  rw [List.length_cons] at hl
  refine joinParts_consE (joinParts_cons (FormattedValue_plain (eS (he pins s σ H _ I h) fun v s1 ⟨x,H1,I1,r1,i,hx,hi,h1⟩=>?_)))
  subst hx
  obtain ⟨tk,rfl⟩:=r1
  refine formatField_int_small (by omega) ?_
  have ht:(Str.ofString (toString i)).length<=65:=by
   have:=int_text_length_le (a:=i) (k:=64) (by decide) hi
   rw [PySem.ofString_length];exact this
  have hz:(out++Str.ofString (toString i)).length=out.length+(Str.ofString (toString i)).length:=strLen_append ..
  exact ⟨by rw [hz];omega,kJ hp H1 _ _ (I1.tok _) (by rw [hz];omega) h1⟩
noncomputable def N4 (ps:List (Str ⊕ TE)):TE:=fun σ H Q=>pq ps σ H fun H'=>∀ x:Str,x.length<=sizeLine->Q (.str x) H'
theorem K4 {X:Cx} {e1 e2:Expr} {es:List Expr} {ps:List (Str ⊕ TE)} {pos:Pos} (h:FParts X (e1::e2::es) ps) (hl:2000 * (e1::e2::es).length<=sizeLine:=by decide):PE X (.JoinedStr (e1::e2::es) pos) (N4 ps):=
 fun pins s σ H Q I q=>JoinedStr_many (kJ h H s Str.empty I (by rw [show Str.empty.length=0 from rfl,Nat.zero_add];exact hl) q)
noncomputable def Cx.p9 (X:Cx) (pn':List (Addr×Obj)) (xe':Value->Shared->Prop):Cx:={ X with xe:=xe',pn:=pn' }
noncomputable def xu:HO:=.ext fun _=>True
noncomputable def Cx.hand (X:Cx) (pn':List (Addr×Obj)) (e:Addr) (oe:Obj):Cx:={ X with A:=X.A.mark (some (.ref e)),calm:=false,xe:=fun _ _=>False,pn:=pn',H₀:=upd X.H₀ e (.frz oe xu) }
structure XO (C:Addr) (o:Obj):Prop where
 cls:o.cls=.ref C
 dict:o.dict=none
 ctx:∃ vs,o.data=.fields vs/\vs[2]?=some .none
structure Fr0 (X:Cx) (e:Addr):Prop where
 no:∀ o,X.s₀.heap.get? e≠some o
 tup:∀ xs,X.H₀ e≠some (.tup xs)
 frz:∀ o u,X.H₀ e≠some (.frz o u)
 tbl:∀ ps,X.H₀ e≠some (.tbl ps)
section
variable {X:Cx} {pins:List (Addr×Obj)} {σ:L2.St} {H:Hp} {s':Shared} {e:Addr} {cls:Value}
theorem Aq (I:Inv X pins σ H s') (hst:X.stack=X.env::X.outer) (hf:X.env.frame=some X.env.locals) (R:oQ X H e cls s') {Q:Unit->Shared->Prop} {E:Value->Shared->Prop}
  (hQ:∀ h' B a0,Heap.HeldW B (X.env::X.outer) e cls a0 X.env.locals h'->B.StaysIn s'.heap->s'.heap.UpToSlots h'->(∀ a u,H a=some u->∃ o,B.get? a=some o)->(∀ b o,X.s₀.heap.get? b=some o->b∉X.fs->∃ o',B.get? b=some o')->(∀ p∈X.pn,∃ o',B.get? p.1=some o')->C0 e h'->Q () { s' with heap:=h' }) :
  wpAny (model X.prog X.w) X.A (noteFrame (.ref e) X.env) Q E s':=by
 have hfr:X.A.frames=some (X.env::X.outer):=by rw [<- hst];exact I.ok.frames
 have nl:∀ b o,X.s₀.heap.get? b=some o->b∉X.fs->b∉frs (X.env::X.outer):=fun b o q hb z=>by
  unfold frs at z
  rw [List.filterMap_cons,hf] at z
  rcases List.mem_cons.mp z with z | z
  ·rw [z] at q
   exact absurd (Nat.lt_of_lt_of_le (Heap.lt_size q) I.ok.above) (Nat.lt_irrefl _)
  ·exact hb z
 rcases R with ⟨g',vs,M,ffg,m1,m2,m3⟩ | ⟨B,a0,F,c1,c2,c3,k0⟩
 ·rw [hst] at ffg
  have hin:∀ env∈(X.env::X.outer),∀ b,env.frame=some b->b∈frs (X.env::X.outer):=fun env he b hb=>List.mem_filterMap.mpr ⟨env,he,hb⟩
  have hl:=PySem.W.funFrames_hide ffg hin
  obtain ⟨t,he,htn,ht⟩:=M.there
  have bn:(PySem.W.hideAll g' (frs (X.env::X.outer))).get? e=none:=by
   cases hq:(PySem.W.hideAll g' (frs (X.env::X.outer))).get? e with
   | none=>rfl
   | some o'=>have:=PySem.W.of_hideAll _ hq;rw [M.new] at this;cases this
  have k1:(PySem.W.hideAll g' (frs (X.env::X.outer))).StaysIn s'.heap:=fun b o q=>M.keeps b o (PySem.W.of_hideAll _ q)
  have go:wpAny (model X.prog X.w) X.A (noteFrame (.ref e) X.env) (fun _ s''=>∃ h',s''={ s' with heap:=h' }/\Heap.HeldW (PySem.W.hideAll g' (frs (X.env::X.outer))) (X.env::X.outer) e cls (.ref t) X.env.locals h'/\s'.heap.UpToSlots h') (fun _ _=>False) s':=by
   unfold noteFrame
   simp only [hf]
   refine wpAny_bind (wpAny_field he rfl (x:=.none) rfl ?_)
   rw [if_neg (by decide)]
   refine wpAny_entryW (base:=PySem.W.hideAll g' (frs (X.env::X.outer))) (a0:=.ref t) hfr (hl.of_keeps fun b o hb _=>⟨o,M.keeps b o hb,rfl⟩) hf he k1 bn rfl (by simp) rfl fun h' hL=>?_
   obtain ⟨x1,x2,x3,x4⟩:=hL
   exact ⟨h',rfl,⟨x1,bn,x2,x3⟩,x4⟩
  refine wpAny_mono (bq.any (e:=e) (bq.note _ _) go (yK M)) (fun _ s'' z=>?_) fun _ _ z=>z.1.elim
  obtain ⟨⟨h',rfl,x1,x4⟩,k0⟩:=z
  refine hQ h' _ _ x1 k1 x4 (fun a u ea=>?_) (fun b o q hb=>?_) (fun p hp=>?_) k0
  ·obtain ⟨o,q⟩:=m1 a u ea
   refine ⟨o,PySem.W.hideAll_get _ q fun z=>?_⟩
   rw [<- hst] at z
   rw [I.nN a z] at ea;cases ea
  ·obtain ⟨o',q'⟩:=m2 b o q
   exact ⟨o',PySem.W.hideAll_get _ q' (nl b o q hb)⟩
  ·obtain ⟨o',q'⟩:=m3 p hp
   obtain ⟨q,_,n1,n2,_⟩:=I.pin p (List.mem_append_left _ hp)
   refine ⟨o',PySem.W.hideAll_get _ q' fun z=>?_⟩
   rw [<- hst] at z
   exact (List.mem_cons.mp (I.oY _ z)).elim n1 n2
 ·rw [hst] at F c2
  refine wpAny_mono (bq.any (e:=e) (bq.note _ _) (wpAny_looks_onW (Q:=fun _ s''=>∃ h',s''={ s' with heap:=h' }/\Heap.HeldW B (X.env::X.outer) e cls a0 X.env.locals h'/\s'.heap.UpToSlots h') (E:=fun _ _=>False) hfr hf F fun h' x1 x4=>⟨h',rfl,x1,x4⟩) k0) (fun _ s'' z=>?_) fun _ _ z=>z.1.elim
  obtain ⟨⟨h',rfl,x1,x4⟩,k0'⟩:=z
  exact hQ h' B a0 x1 F.1 x4 c1 (fun b o q hb=>c2 b o q (nl b o q hb)) c3 k0'
end
section
variable {X:Cx} {pn' pins:List (Addr×Obj)} {xe':Value->Shared->Prop} {σ:L2.St} {H:Hp} {s':Shared} {e C:Addr} {B h6:Heap} {a0:Value}
theorem rq (I:Inv (X.p9 pn' xe') pins σ H s') (hex:X.ex=[]) (F:Heap.FlyingW B (X.env::X.outer) e (.ref C) a0 h6) (k1:B.StaysIn s'.heap) (up:s'.heap.UpToSlots h6)
  (c1:∀ a u,H a=some u->∃ o,B.get? a=some o) (c2:∀ b o,X.s₀.heap.get? b=some o->b∉X.fs->∃ o',B.get? b=some o') (c3:∀ p∈pn',∃ o',B.get? p.1=some o') (k0:C0 e h6) :
  Fr0 X e/\H e=none/\∃ oe,XO C oe/\Inv (X.hand pn' e oe) [] σ (upd H e (.frz oe xu)) { s' with heap:=h6 }:=by
 obtain ⟨un,hok⟩:=pT I hex k1 F.1 up c1 c2
 have hn:H e=none:=by
  cases q:H e with
  | none=>rfl
  | some u=>obtain ⟨o,z⟩:=c1 e u q;rw [F.2.1] at z;cases z
 obtain ⟨o0,vs0,g1,g2,g3,g5⟩:=k0
 have ns:∀ o,X.s₀.heap.get? e≠some o:=fun o q=>by
  by_cases hb:e∈X.fs
  ·obtain ⟨_,o2,q2,d2⟩:=I.ok.i_.mem hb
   have q2:X.s₀.heap.get? e=some o2:=q2
   rw [q] at q2;cases q2
   obtain ⟨sl,z⟩:=un.slot e o q (I.ok.frf e hb) hb (by simp)
   rw [g1] at z
   have z:o0=_:=Option.some.inj z
   rw [z] at g2
   exact d2 _ g2
  ·obtain ⟨o',z⟩:=c2 e o q hb
   rw [F.2.1] at z;cases z
 have hs0:∀ (b:Addr) (ob:Obj),s'.heap.get? b=some ob->(∀ vs,ob.data≠.fields vs)->b≠e:=fun b ob q d z=>by
  obtain ⟨sl,z'⟩:=up b ob q d
  rw [z,g1] at z'
  have z':o0=_:=Option.some.inj z'
  rw [z'] at g2
  exact d _ g2
 obtain ⟨m,hm,hl⟩:=id I.loc
 have hm':s'.heap.Ns X.env.locals m:=hm
 have cel:∀ c v,s'.heap.IsCell c v->h6.IsCell c v:=fun c v h9=>by
  obtain ⟨oc,q,d⟩:=h9
  obtain ⟨sl,z⟩:=up c oc q fun vs y=>by rw [d] at y;cases y
  exact ⟨_,z,d⟩
 have lne:X.env.locals≠e:=by
  obtain ⟨oL,es,ep,q,d,_⟩:=id hm'
  exact hs0 _ oL q fun vs y=>by rw [d] at y;cases y
 have xo:XO C o0:=by
  obtain ⟨_,_,_,oe,vs,T,oT,ts,he,⟨hc,_⟩,hd,_⟩:=F
  rw [g1] at he
  have he:o0=oe:=Option.some.inj he
  subst he
  exact ⟨hc,g5,vs0,g2,g3⟩
 have no:∀ u,H e≠some u:=fun u q=>by rw [hn] at q;cases q
 have fr:Fr0 X e:=⟨ns,fun xs q=>no _ (un.tups e xs q),fun o u q=>no _ (un.frzs e o u q),fun ps q=>let ⟨_,z⟩:=un.tbls e ps q;no _ z⟩
 refine ⟨fr,hn,o0,xo,⟨I.ok.mod,I.ok.kind,I.ok.glob,I.ok.blt,I.ok.above,I.ok.inj,I.ok.has,I.ok.cab,fun h=>(by cases h),I.ok.frames,I.ok.stk,I.ok.exf,fun b o q=>⟨(I.ok.bs b o q).1,?_⟩,I.ok.bsz,I.ok.noex,I.ok.exfs,I.ok.i_,fun b hb=>?_⟩,I.os,I.bare,?_,⟨m,up.ns hm',fun i x v h1 h2 h3=>?_⟩,fun x c h=>?_,?_,fun x c h=>?_,fun p hp=>?_,fun b u q=>?_,I.len⟩
 ·show upd X.H₀ e _ b=none
  rw [aK (fun z=>ns o (by rw [<- z];exact (I.ok.bs b o q).1))];exact (I.ok.bs b o q).2
 ·show upd X.H₀ e _ b=none
  obtain ⟨_,o2,q2,d2⟩:=I.ok.i_.mem hb
  rw [aK (fun z=>ns o2 (by rw [<- z];exact q2))];exact I.ok.frf b hb
 ·have h0:∀ b o,X.s₀.heap.get? b=some o->upd X.H₀ e (.frz o0 xu) b=none->X.H₀ b=none:=fun b o q n=>by
   rwa [aK (fun z=>ns o (by rw [<- z];exact q))] at n
  refine ⟨fun b o q n h _=>un.keep b o q (h0 b o q n) h (by simp),fun b o q n h _=>un.slot b o q (h0 b o q n) h (by simp),fun b o q n _=>?_,fun b o q _=>un.there b o q (by simp),fun b xs q=>?_,fun b o u q=>?_,fun b ps q=>?_⟩
  ·rw [aK (fun z=>ns o (by rw [<- z];exact q))]
   exact un.free b o q (h0 b o q n) (by simp)
  ·have q:upd X.H₀ e (.frz o0 xu) b=some (.tup xs):=q
   by_cases hb:b=e
   ·rw [hb,bJ] at q;cases q
   ·rw [aK hb] at q ⊢
    exact un.tups b xs q
  ·have q:upd X.H₀ e (.frz o0 xu) b=some (.frz o u):=q
   by_cases hb:b=e
   ·rw [hb,bJ] at q ⊢;exact q
   ·rw [aK hb] at q ⊢
    exact un.frzs b o u q
  ·have q:upd X.H₀ e (.frz o0 xu) b=some (.tbl ps):=q
   by_cases hb:b=e
   ·rw [hb,bJ] at q;cases q
   ·rw [aK hb] at q ⊢
    exact un.tbls b ps q
 ·obtain ⟨u,r,lk⟩:=hl i x v h1 h2 h3
  refine ⟨u,r,?_⟩
  rcases lk with ⟨k,z⟩ | ⟨k,c,z,y⟩
  ·exact .inl ⟨k,z⟩
  ·exact .inr ⟨k,c,z,cel c _ y⟩
 ·obtain ⟨v,z⟩:=I.cell x c h
  exact ⟨v,cel c v z⟩
 ·show upd H e _ X.env.locals=none
  rw [aK lne];exact I.free
 ·obtain ⟨v,oc,q,d⟩:=I.cell x c h
  rw [aK (hs0 c oc q fun vs y=>by rw [d] at y;cases y)]
  exact I.freeC x c h
 ·have hp:p∈pn':=by
   have hp:p∈pn'++[]:=hp
   rwa [List.append_nil] at hp
  obtain ⟨q,n,n1,n2,d⟩:=I.pin p (List.mem_append_left _ hp)
  obtain ⟨o',z⟩:=c3 p hp
  have z1:=k1 _ _ z
  rw [q] at z1
  have z1:p.2=o':=Option.some.inj z1
  refine ⟨by rw [z1];exact F.1 _ _ z,?_,n1,n2,d⟩
  rw [aK (fun y=>by rw [y,F.2.1] at z;cases z)]
  exact n
 ·by_cases hb:b=e
  ·subst hb
   rw [bJ] at q;cases q
   exact ⟨g1,trivial,⟨o0,g1⟩,fun _ _ _ _=>trivial⟩
  ·rw [aK hb] at q
   exact (hok b u q).stay (fun _ _ _ z=>z) (fun c z=>by rw [aK (bf z hn)];exact z) fun c xs z=>by rw [aK (bf z hn)];exact z
end
section
variable {X:Cx} {pins:List (Addr×Obj)} {σ:L2.St} {H:Hp} {s:Shared}
theorem AQ {M:Model} {A:Around} {E:Value->Shared->Prop} {i:Nat} {n:Str} {v:V} {Q:Unit->Shared->Prop} (I:Inv X pins σ H s) (hN:X.N.Nodup) (hi:X.N[i]?=some n) (hlo:X.env.scope.names.lookup n=some .local) (hv:σ[i]?=some (some v))
  (h:∀ s',Inv X pins (σ.set i none) H s'->Q () s'):wpAny M A (unbindName X.env n) Q E s:=by
 obtain ⟨m,hn,hl⟩:=id I.loc
 obtain ⟨u,r,lk⟩:=hl i n v hi hv (.inl hlo)
 have hm:m n=some u:=by
  rcases lk with ⟨_,z⟩ | ⟨k,_⟩
  ·exact z
  ·exfalso
   have hk:X.env.kindOf n=some .local:=hlo
   rcases k with k | k <;> (rw [hk] at k;cases k)
 have hcl:(X.env.scope.kind == .class || (X.env.scope.kind == .module && X.env.locals != X.env.globals))=false:=by rw [I.ok.kind];rfl
 refine wpAny_unbindName_local hlo hn hm hcl fun h' u' hn' hs=>?_
 have far:∀ b o,X.s₀.heap.get? b=some o->h'.get? b=s.heap.get? b:=fun b o q=>hs.2 b (Nat.ne_of_lt (Nat.lt_of_lt_of_le (Heap.lt_size q) I.ok.above))
 obtain ⟨oL,_,_,hoL,_⟩:=id hn
 refine h _ ⟨I.ok,I.os,I.bare,⟨fun b o q a1 a2 a3=>(far b o q).trans (I.base.keep b o q a1 a2 a3),fun b o q a1 a2 a3=>?_,I.base.free,fun b o q a3=>?_,I.base.tups,I.base.frzs,I.base.tbls⟩,⟨_,hn',fun j y v' e1 e2 e3=>?_⟩,fun y c q=>?_,I.free,I.freeC,fun p hp=>?_,fun b ob q=>?_,by rw [List.length_set];exact I.len⟩
 ·obtain ⟨sl,z⟩:=I.base.slot b o q a1 a2 a3
  exact ⟨sl,(far b o q).trans z⟩
 ·obtain ⟨o',z⟩:=I.base.there b o q a3
  exact ⟨o',(far b o q).trans z⟩
 ·by_cases hj:j=i
  ·subst hj
   have:j < σ.length:=(List.getElem?_eq_some_iff.mp hv).1
   rw [List.getElem?_set_self this] at e2
   cases e2
  ·rw [List.getElem?_set_ne (Ne.symm hj)] at e2
   obtain ⟨w,r',q⟩:=hl j y v' e1 e2 e3
   refine ⟨w,r',?_⟩
   rcases q with ⟨k,z⟩ | ⟨k,c,z,y'⟩
   ·have:y≠n:=fun z=>hj (oB hN e1 (z ▸ hi))
    exact .inl ⟨k,by simp [this,z]⟩
   ·exact .inr ⟨k,c,z,y'.sameBut hs (I.E2 y c z)⟩
 ·obtain ⟨w,z⟩:=I.cell y c q
  exact ⟨w,z.sameBut hs (I.E2 y c q)⟩
 ·obtain ⟨z,n0,ne,nf,d⟩:=I.pin p hp
  exact ⟨(hs.2 p.1 ne).trans z,n0,ne,nf,d⟩
 ·refine (I.hok b ob q).stay (fun c w hc z=>(hs.2 c ?_).trans z) (fun _ z=>z) fun _ _ z=>z
  intro y
  rcases hc with hc | hc
  ·rw [<- hc,y,I.free] at q;cases q
  ·rw [y,I.free] at hc;cases hc
theorem Inv.p9 (I:Inv X pins σ H s) (xe':Value->Shared->Prop):Inv (X.p9 (X.pn++pins) xe') [] σ H s:=
 ⟨⟨I.ok.mod,I.ok.kind,I.ok.glob,I.ok.blt,I.ok.above,I.ok.inj,I.ok.has,I.ok.cab,I.ok.hd,I.ok.frames,I.ok.stk,I.ok.exf,I.ok.bs,I.ok.bsz,I.ok.noex,I.ok.exfs,I.ok.i_,I.ok.frf⟩,I.os,I.bare,I.base,I.loc,I.cell,I.free,I.freeC,fun p hp=>I.pin p (by
  have hp:p∈(X.pn++pins)++[]:=hp
  rwa [List.append_nil] at hp),I.hok,I.len⟩
theorem Inv.zq {xe':Value->Shared->Prop} {pins':List (Addr×Obj)} (I:Inv (X.p9 (X.pn++pins) xe') pins' σ H s):Inv X pins σ H s:=
 ⟨⟨I.ok.mod,I.ok.kind,I.ok.glob,I.ok.blt,I.ok.above,I.ok.inj,I.ok.has,I.ok.cab,I.ok.hd,I.ok.frames,I.ok.stk,I.ok.exf,I.ok.bs,I.ok.bsz,I.ok.noex,I.ok.exfs,I.ok.i_,I.ok.frf⟩,I.os,I.bare,I.base,I.loc,I.cell,I.free,I.freeC,fun p hp=>I.pin p (List.mem_append_left _ hp),I.hok,I.len⟩
theorem Inv.Iv {e:Addr} {oe:Obj} {pins':List (Addr×Obj)} (I:Inv (X.hand (X.pn++pins) e oe) pins' σ H s) (ok:X.Ok) (f0:Fr0 X e):Inv X pins σ H s:=
 have h0:∀ b o,X.s₀.heap.get? b=some o->X.H₀ b=none->upd X.H₀ e (.frz oe xu) b=none:=fun b o q n=>by
  rw [aK (fun z=>f0.no o (by rw [<- z];exact q))];exact n
 ⟨ok,I.os,I.bare,⟨fun b o q n=>I.base.keep b o q (h0 b o q n),fun b o q n=>I.base.slot b o q (h0 b o q n),fun b o q n=>I.base.free b o q (h0 b o q n),I.base.there,fun b xs q=>I.base.tups b xs (show upd X.H₀ e (.frz oe xu) b=_ by rw [aK (fun z=>f0.tup xs (by rw [<- z];exact q))];exact q),fun b o u q=>I.base.frzs b o u (show upd X.H₀ e (.frz oe xu) b=_ by rw [aK (fun z=>f0.frz o u (by rw [<- z];exact q))];exact q),fun b ps q=>I.base.tbls b ps (show upd X.H₀ e (.frz oe xu) b=_ by rw [aK (fun z=>f0.tbl ps (by rw [<- z];exact q))];exact q)⟩,I.loc,I.cell,I.free,I.freeC,fun p hp=>I.pin p (List.mem_append_left _ hp),I.hok,I.len⟩
end
section
variable {M:Model} {A:Around} {E:Value->Shared->Prop} {h:Heap} {g:Array GenState} {d:Drawn} {t:Nat} {os:OsState} {C N D N':Addr} {nm q nm' q':Str} {bs bm bs' bm':List Value} {hdct hdct':Bool} {sn sn':List Str} {sub sub':List Value} {ab ab':Bool} {col col':Option Bool} {dd dd':Option Addr} {k0 k1 k2 k3 k5 k0' k1' k2' k3' k5':Option Value} {newId newId':String}
theorem p7 {e:Addr} {oe:Obj} {Q:Bool->Shared->Prop} (hC:h.get? C=some (excClassObj nm q C N bs bm hdct sn sub ab col dd k0 k1 k2 k3 k5 newId)) (hD:h.get? D=some (excClassObj nm' q' D N' bs' bm' hdct' sn' sub' ab' col' dd' k0' k1' k2' k3' k5' newId'))
  (he:h.get? e=some oe) (hcls:oe.cls=.ref C) (hbase:bm'.contains (.type "BaseException")=true) (hq:Q ((Value.ref C::bm).contains (.ref D)) ⟨h,g,d,t,os⟩):wpAny M A (excMatches (.ref e) (.ref D)) Q E ⟨h,g,d,t,os⟩:=by
 have hcB:(Value.ref D::bm').contains (.type "BaseException")=true:=by rw [List.contains_cons,hbase,Bool.or_true]
 have f:=tc_notTuple
 unfold excMatches
 repeat (first | (with_reducible refine wpAny_loadPart_at he ?_;rw [hcls]) | with_reducible refine wpAny_loadPart_at hD ?_ | (with_reducible refine wpAny_isSubtype_exc hD ?_;rw [hcB]) | with_reducible refine wpAny_isSubtype_exc hC ?_ | wp_step)
 cases hb:(Value.ref C::bm).contains (.ref D) <;> (rw [hb] at hq;wp_walk;exact hq)
end
noncomputable def mroIn (K:PySem.W.Frag) (C:Addr):Option (List Value):=match K.lookup C with
 | some ⟨.type "type",_,.cls cd,sl⟩=>(match cd.mro,sl.toList with
  | .ref C'::bm,[_,_,_,_,some (.builtin _),_]=>if C'=C/\cd.hasDel=false then some bm else none
  | _,_=>none)
 | _=>none
structure ClsAt (h:Heap) (C:Addr) (bm:List Value):Prop where
 ex:∃ nm q N bs hdct sn sub ab col dd k0 k1 k2 k3 k5 newId,h.get? C=some (excClassObj nm q C N bs bm hdct sn sub ab col dd k0 k1 k2 k3 k5 newId)
theorem D9 {K:PySem.W.Frag} {h:Heap} {C:Addr} {bm:List Value} (X:K.In h) (e:mroIn K C=some bm):ClsAt h C bm:=by
 unfold mroIn at e
 split at e
 ·rename_i dd cd sl ho
  split at e
  ·rename_i C' bm' k0 k1 k2 k3 n k5 hm hs
   split at e
   ·rename_i hc
    cases e
    obtain ⟨rfl,hdel⟩:=hc
    obtain ⟨nm,bs,mro,ns,qn,hd,sn,sub,ab,col,del⟩:=cd
    dsimp only at hm hdel
    subst hm hdel
    have hsl:sl=#[k0,k1,k2,k3,some (.builtin n),k5]:=by
     obtain ⟨l⟩:=sl
     simp only at hs
     rw [hs]
    subst hsl
    exact ⟨nm,qn,ns,bs,hd,sn,sub,ab,col,dd,k0,k1,k2,k3,k5,n,X _ _ ho⟩
   ·cases e
  ·cases e
 ·cases e
noncomputable def MV (i:Nat) (D:Ends):Ends:=⟨fun σ H=>D.nx (σ.set i none) H,D.rt,fun σ H=>D.bk (σ.set i none) H,fun σ H=>D.ct (σ.set i none) H⟩
section
variable {X:Cx} {pins pins':List (Addr×Obj)} {xe':Value->Shared->Prop} {σ:L2.St} {H:Hp} {s':Shared} {e C Dc:Addr} {bm bmD:List Value} {x n:Str} {i:Nat} {De:Ends} {b0:Stmt} {suite:List Stmt} {np hp:Pos}
theorem uw {f:Flow} {s2:Shared} {pos:Pos} (hN:X.N.Nodup) (hi:X.N[i]?=some n) (hlo:X.env.scope.names.lookup n=some .local) {oe:Obj} (ok:X.Ok) (f0:Fr0 X e) (h:SP (X.hand (X.pn++pins) e oe) [] (MV i De) f s2) :
  wpAny (model X.prog X.w) X.A (do bindName X.env n .none;unbindBehindTheSuite X.env n pos) (fun _ s3=>SP X pins De f s3) X.xe s2:=by
 have hl:∀ {σ':L2.St} {H':Hp},Inv (X.hand (X.pn++pins) e oe) [] σ' H' s2->(∀ s3,Inv X pins (σ'.set i none) H' s3->SP X pins De f s3)->wpAny (model X.prog X.w) X.A (do bindName X.env n .none;unbindBehindTheSuite X.env n pos) (fun _ s3=>SP X pins De f s3) X.xe s2:=fun {σ' H'} J k=>by
  have J:=J.Iv ok f0
  have hiσ:i < σ'.length:=by rw [J.len];exact (List.getElem?_eq_some_iff.mp hi).1
  refine wpAny_bind (wpAny_bindName (lV (v:=.non) J hN hi (.inl hlo) rfl (fun s3 J3=>?_) (.inr hlo)))
  unfold unbindBehindTheSuite
  refine wpAny_onRaise (AQ (v:=.non) J3 hN hi hlo (List.getElem?_set_self hiσ) fun s4 J4=>k s4 ?_)
  rwa [List.set_set] at J4
 cases f with
 | next=>obtain ⟨σ',H',J,q⟩:=h;exact hl J fun s3 J3=>⟨_,_,J3,q⟩
 | brk=>obtain ⟨σ',H',J,q⟩:=h;exact hl J fun s3 J3=>⟨_,_,J3,q⟩
 | cont=>obtain ⟨σ',H',J,q⟩:=h;exact hl J fun s3 J3=>⟨_,_,J3,q⟩
 | ret u=>obtain ⟨v,σ',H',J,r,q⟩:=h;exact hl J fun s3 J3=>⟨v,_,_,J3,r,q⟩
theorem A8 (hst:X.stack=X.env::X.outer) (hf:X.env.frame=some X.env.locals) (hex:X.ex=[]) (hN:X.N.Nodup) (hi:X.N[i]?=some n) (hlo:X.env.scope.names.lookup n=some .local) (hg:Gl X x) (hm:X.mg x=some (.ref Dc)) (mD:mroIn X.K Dc=some bmD) (hbD:bmD.contains (.type "BaseException")=true)
  (I:Inv (X.p9 (X.pn++pins) xe') pins' σ H s') (R:oQ (X.p9 (X.pn++pins) xe') H e (.ref C) s') (mC:mroIn X.K C=some bm) (hCD:(Value.ref C::bm).contains (.ref Dc)=true)
  (k:∀ oe s6,XO C oe->H e=none->Inv (X.hand (X.pn++pins) e oe) [] (σ.set i (some (.ref e))) (upd H e (.frz oe xu)) s6->wpAny (model X.prog X.w) (X.A.mark (some (.ref e))) (execs (b0::suite) X.env) (SP (X.hand (X.pn++pins) e oe) [] (MV i De)) (fun _ _=>False) s6)
  (ok:X.Ok) (hdb:(x == ("__debug__" : Str))=false) :
  wpAny (model X.prog X.w) X.A (noteFrame (.ref e) X.env) (fun _ s2=>wpAny (model X.prog X.w) X.A (setFlight (.ref e) none) (fun _ s3=>wpAny (model X.prog X.w) X.A (handleBy (.ref e) X.env [.ExceptHandler (some (.Name x np)) (some n) (b0::suite) hp]) (SP X pins De) X.xe s3) X.xe s2) X.xe s':=by
 refine Aq I hst hf R fun h4 B a0 held k1 up4 c1 c2 c3 z4=>?_
 refine wpAny_mono (bq.any (e:=e) (bq.flight _ _) (wpAny_landsW (Q:=fun _ s''=>∃ h',s''={ s' with heap:=h' }/\Heap.FlyingW B (X.env::X.outer) e (.ref C) a0 h'/\h4.UpToSlots h') (E:=fun _ _=>False) held fun h' y1 y2=>⟨h',rfl,y1,y2⟩) z4) (fun _ s'' z=>?_) fun _ _ z=>z.1.elim
 obtain ⟨⟨h5,rfl,F5,up5⟩,z5⟩:=z
 obtain ⟨_,_,o5,x5,I5⟩:=rq I hex F5 k1 (up4.trans up5) c1 c2 c3 z5
 refine wpAny_handleBy_cons (codeAny_handlers_test (lR (X:=X.hand (X.pn++pins) e o5) I5 hg hm ?_ hdb)) (by intro q;cases q)
 obtain ⟨g1,_⟩:=I5.hok e _ bJ
 obtain ⟨_,_,_,_,_,_,_,_,_,_,_,_,_,_,_,_,hC⟩:=(D9 I5.oX mC).ex
 obtain ⟨_,_,_,_,_,_,_,_,_,_,_,_,_,_,_,_,hD⟩:=(D9 I5.oX mD).ex
 refine p7 hC hD g1 x5.cls hbD ?_
 rw [hCD]
 refine codeAny_handlers_suite_as ?_
 refine wpAny_mono (bq.any (e:=e) (bq.flight _ _) (lands_againW (Q:=fun _ s''=>∃ h',s''={ s' with heap:=h' }/\Heap.FlyingW B (X.env::X.outer) e (.ref C) a0 h'/\h5.UpToSlots h') (E:=fun _ _=>False) F5 fun h' y1 y2=>⟨h',rfl,y1,y2⟩) z5) (fun _ s'' z=>?_) fun _ _ z=>z.1.elim
 obtain ⟨⟨h6,rfl,F6,up6⟩,z6⟩:=z
 obtain ⟨f0,n6,o6,x6,I6⟩:=rq I hex F6 k1 ((up4.trans up5).trans up6) c1 c2 c3 z6
 refine lV (X:=X.hand (X.pn++pins) e o6) (v:=.ref e) I6 hN hi (.inl hlo) rfl (fun s7 I7=>?_) (.inr hlo)
 exact wpAny_mono (k o6 s7 x6 n6 I7) (fun f s8 h8=>uw hN hi hlo ok f0 h8) fun _ _ z=>z.elim
end
open PySem.W in
structure XCls (K:PySem.W.Frag) (C:Addr):Prop where
 ga:findIn K (.ref C) "__getattribute__" = some (some (.builtin "BaseException.__getattribute__"))
 gt:findIn K (.ref C) "__getattr__" = some none
 fc:findObj K C none "__class__" = some (.bind (.builtin "getset_descriptor.__get__") (.builtin "object.__class__"))
 ob:PySem.W.mroIn K C (.type "object")=some true
 bs:subIn K (.ref C) (.type "BaseException")=some true
section
open PySem.W
variable {K:PySem.W.Frag} {C a:Addr} {ox:Obj} {prog:Program} {w:World} {A:Around} {E:Value->Shared->Prop} {h:Heap} {g:Array GenState} {d:Drawn} {t:Nat} {os:OsState}
theorem EM {tk:Tok} {Q:Fin->Shared->Prop} (x:XCls K C) (X:K.In h) (I:PySem.W.InstAt h a ox C none) (hq:Q (.done (.ret (.ref C))) ⟨h,g,d,t,os⟩) :
  wpAny (model prog w) A (Builtin.«object.__getattribute__» ⟨[.ref a,.str "__class__" tk],[]⟩) Q E ⟨h,g,d,t,os⟩:=by
 have L0:=I.type (M:=model prog w)
 have L1:=looks_find (M:=model prog w) X I x.fc
 unfold Builtin.«object.__getattribute__»
 repeat (first | with_reducible refine wpAny_bind (wpAny_call ?_) | with_reducible refine wpAny_call ?_ | lk)
 refine class_get X I x.ob ?_
 repeat lk
 exact hq
theorem EE {M:Model} {nv:Value} {Q:Unit->Shared->Prop} (x:XCls K C) (X:K.In h) (I:PySem.W.InstAt h a ox C none) (hq:Q () ⟨h,g,d,t,os⟩):wpAny M A (checkBuiltinCall "BaseException.__getattribute__" ⟨[.ref a,nv],[]⟩) Q E ⟨h,g,d,t,os⟩:=by
 have hk:builtinKind "BaseException.__getattribute__" = some .slot:=by decide +kernel
 have hs:splitId "BaseException.__getattribute__" = some ("BaseException", "__getattribute__"):=by decide +kernel
 have LI:Looks M h (isInstance (.ref a) (.type "BaseException")) true:=(I.type (M:=M)).andThen (looks_subIn X x.bs)
 have hA:=F.args_bexc_ga (.ref a) nv
 simp only [checkBuiltinCall,hk,hs]
 refine wpAny_bind (LI.at ?_)
 show wpAny M A (match Manifest.signature? "BaseException.__getattribute__" with
  | some sig=>Bind.checkArgs "BaseException.__getattribute__" sig { pos:=[Value.ref a,nv] }
  | x=>pure ()) Q E _
 cases hsig:Manifest.signature? "BaseException.__getattribute__" with
 | none=>exact wpAny_pure hq
 | some sig=>
  simp only [argsOk,hsig] at hA
  have h2:Bind.checkArgs "BaseException.__getattribute__" sig ⟨[.ref a,nv],[]⟩=pure ():=hA
  show wpAny M A (Bind.checkArgs "BaseException.__getattribute__" sig ⟨[.ref a,nv],[]⟩) Q E _
  rw [h2]
  exact wpAny_pure hq
theorem F_ (self:Value):bindSpecial (.builtin "BaseException.__getattribute__") self=pure (.builtin "BaseException.__getattribute__",[self]):=by
 have h1:withoutEnding? "BaseException.__getattribute__" "#opaque" = none:=by decide +kernel
 have h2:withoutEnding? "BaseException.__getattribute__" "#data" = none:=by decide +kernel
 have hk:builtinKind "BaseException.__getattribute__" = some .slot:=by decide +kernel
 simp only [bindSpecial,typeOf,builtinType,h1,h2,hk];rfl
theorem KH {tk:Tok} {Q:Value->Shared->Prop} (x:XCls K C) (X:K.In h) (I:PySem.W.InstAt h a ox C none) (hq:Q (.ref C) ⟨h,g,d,t,os⟩):wpAny (model prog w) A (getAttrBy (.ref a) (.str "__class__" tk) false) Q E ⟨h,g,d,t,os⟩:=by
 have L0:=I.type (M:=model prog w)
 have L1:=looks_findIn (M:=model prog w) X x.ga
 have L2:=looks_findIn (M:=model prog w) X x.gt
 unfold getAttrBy
 refine wpAny_holding (wpAny_bind (L0.at (wpAny_bind (L1.at ?_))))
 show wpAny _ _ (if (onTheHeap (Value.ref C) && Value.builtin "BaseException.__getattribute__" == Value.builtin "object.__getattribute__")=true then _ else getAttrByItsOwn (.ref a) (.str "__class__" tk) (.ref C) (.builtin "BaseException.__getattribute__") false false) _ _ _
 have ne:(Value.builtin "BaseException.__getattribute__" == Value.builtin "object.__getattribute__")=false:=by decide +kernel
 rw [ne,Bool.and_false,if_neg Bool.false_ne_true]
 unfold getAttrByItsOwn hookBefore
 rw [if_pos (show onTheHeap (Value.ref C)=true from rfl)]
 refine wpAny_bind (L2.at (wpAny_bind (wpAny_attempt (wpAny_holding ?_))))
 unfold callGetattribute boundAndCalled
 show wpAny _ _ (bindSpecial (.builtin "BaseException.__getattribute__") (.ref a) >>= fun x=>call x.1 (x.2++[.str "__class__" tk])) _ _ _
 rw [F_,pure_bind]
 refine wpAny_call (codeAny_call_builtin (by decide +kernel) F.entry_bexc_ga (EE x X I (EM x X I ?_)))
 exact wpAny_pure hq
theorem BV {Q:Option Value->Shared->Prop} (x:XCls K C) (X:K.In h) (I:PySem.W.InstAt h a ox C none) (hq:Q (some (.ref C)) ⟨h,g,d,t+1,os⟩):wpAny (model prog w) A (getAttr? (.ref a) "__class__") Q E ⟨h,g,d,t,os⟩:=by
 unfold getAttr? getAttrBy?
 refine wpAny_bind (wpAny_mkText (wpAny_bind (wpAny_attempt (KH x X I ?_))))
 exact wpAny_pure hq
noncomputable def N9 (C a:Addr):Heap->Prop:=fun h=>∃ ox,PySem.W.InstAt h a ox C none
theorem Eu (x:XCls K C) (hc:(clsIn K C).isSome=true):KitX K (.ref a) (.ref C) (N9 C a) where
 ty:=fun _ _ _ ⟨_,I⟩=>I.type
 it:=fun _ _ X _=>by
  unfold clsIn at hc
  split at hc
  ·rename_i ho
   intro A' Q' E' s' k q
   unfold isType loadHead
   exact wpAny_bind (wpAny_loadPart (k _ _ (X _ _ ho)) (wpAny_pure q))
  ·cases hc
 ne:=fun h tp dd its n sl X htp=>by
  refine Bool.eq_false_iff.mpr fun q=>?_
  have e:C=tp:=Value.ref.inj (beq_iff_eq.mp q)
  subst e
  unfold clsIn at hc
  split at hc
  ·rename_i ho
   have z:=(X _ _ ho).symm.trans htp
   cases z
  ·cases hc
 ca:=fun {_ _ _ _ _ s} X ⟨_,I⟩ k=>by
  obtain ⟨hh,gg,dd,tt,oo⟩:=s
  exact BV x X I k
end
section
variable {X:Cx} {C:Addr} {pins:List (Addr×Obj)} {σ:L2.St} {H:Hp} {s:Shared}
theorem wk {A:Around} {E:Value->Shared->Prop} {Q:Value->Shared->Prop} {a:Addr} {c:Value} {b:Bool} (x:XCls X.K C) (hc:(PySem.W.clsIn X.K C).isSome=true) (I:Inv X pins σ H s) {oe:Obj} (ha:H a=some (.frz oe xu)) (hx:XO C oe) (e:PySem.W.kitOne X.K (.ref C) c=some b) (h:∀ tk,Q (.bool b) { s with toks:=tk }) :
  wpAny (model X.prog X.w) A (call (.builtin "isinstance") [.ref a,c]) Q E s:=by
 obtain ⟨g1,_⟩:=I.hok a _ ha
 obtain ⟨g2,g5,vs,g3,g4⟩:=hx
 refine PySem.W.kia_one (Eu x hc) I.oX ⟨oe,g1,g2,?_,?_⟩ e (fun z=>nomatch z) h
 ·unfold PySem.W.notCls;rw [g3]
 ·rw [g5];trivial
end
end L2
namespace L2
open PySem PySem.Spec PyProof.Rows
theorem qe:entryFor table "proto.unchain" = some Builtin.«proto.unchain»:=entryFor_of_fast (by kernel_rfl)
section
variable {prog:Program} {w:World} {A:Around} {E:Value->Shared->Prop} {s:Shared} {e n:Addr} {oe on:Obj} {vs ns:Array Value}
theorem wB {α:Type} {Q:α->Shared->Prop} (hh:A.handled=some (.ref e)) (he:s.heap.get? e=some oe) (hd:oe.data=.fields vs) (h2:vs[2]?=some .none) (hn:s.heap.get? n=some on) (nd:on.data=.fields ns) (n2:2 < ns.size) (ne:e≠n)
  (h:E (.ref n) { s with heap:=s.heap.update n (Obj.mapFields (·.setIfInBounds 2 (.ref e))) }):wpAny (model prog w) A (raiseNew (.ref n):Sem α) Q E s:=by
 unfold raiseNew
 refine wpAny_bind (wpAny_handled ?_)
 rw [hh]
 show wpAny _ _ (if (Value.ref e != Value.ref n)=true then _ else _) _ _ _
 rw [if_pos (by simp [ne])]
 refine wpAny_bind (wpAny_holding (wpAny_runValue (codeAny_builtin qe ?_)))
 unfold Builtin.«proto.unchain»
 refine wpAny_bind (wpAny_field he hd h2 ?_)
 rw [if_pos (show (Value.none == Value.none)=true from rfl)]
 refine wpAny_pure ?_
 show wpAny _ _ (setField (.ref n) 2 (.ref e) >>= fun _=>throw (.ref n)) _ _ _
 exact wpAny_bind (wpAny_setField hn nd n2 (wpAny_throw h))
theorem wj {it l:Addr} {i:Nat} {items:Array Value} {Q:Option Value->Shared->Prop} (hh:A.handled=some (.ref e)) (he:s.heap.get? e=some oe) (hd:oe.data=.fields vs) (h2:vs[2]?=some .none) (nit:e≠it)
  (hit:s.heap.IsListIter it l i) (hl:s.heap.IsList l items) (hx:items[i]?=none) (hQ:∀ h',Heap.ExtBut it s.heap h'->Q none { s with heap:=h' }):wpAny (model prog w) A (pyNext (.ref it)) Q E s:=by
 obtain ⟨o,ho,hc,ho2⟩:=id hit
 obtain ⟨ol,hol,_,nl,hdl⟩:=hl
 unfold pyNext
 refine wpAny_bind (wpAny_attempt (wpAny_callSpecial?_slot (name:=Str.ofString "__next__") hit.typeIs slot_listiter_next (wpAny_call_entry slot_listiter_next hit.typeIs entry_listiter_next ?_ (args_listiter_next _))))
 show wpAny _ _ (field (.ref it) 0 >>= _) _ _ _
 refine wpAny_bind (wpAny_field ho ho2 (x:=.ref l) rfl ?_)
 show wpAny _ _ (if (Value.ref l == Value.none)=true then _ else _) _ _ _
 rw [if_neg (show ¬ ((Value.ref l == Value.none)=true) from Bool.false_ne_true)]
 show wpAny _ _ (field (.ref it) 1 >>= _) _ _ _
 refine wpAny_bind (wpAny_field ho ho2 (x:=.int i 0) rfl ?_)
 show wpAny _ _ (seqItems? (.ref l) >>= _) _ _ _
 refine wpAny_bind (wpAny_seqItems hol hdl ?_)
 simp only [Int.toNat_natCast,hx]
 refine wpAny_bind (wpAny_rule (wpAny_bind (wpAny_setField ho ho2 (by simp) ?_)))
 show wpAny _ _ (newExc (.type "StopIteration") [] >>= _) _ _ _
 refine wpAny_bind ?_
 simp only [newExc,newTuple]
 refine wpAny_bind (wpAny_newObj_type ?_ (by size_fits))
 refine wpAny_bind (m:=firstArgMember _ _) (wpAny_of_eq (a:=Value.none) (by first | rfl | (simp only [firstArgMember];rfl)) ?_)
 refine wpAny_newObj_type ?_ (by size_fits)
 have he1:∀ (f:Obj->Obj),(s.heap.update it f).get? e=some oe:=fun f=>by rw [Heap.get?_update_other _ _ (Ne.symm nit)];exact he
 have hlt:∀ (f:Obj->Obj) (o1:Obj),e≠((s.heap.update it f).push o1).objs.size:=fun f o1=>Nat.ne_of_lt (Heap.lt_size (Heap.get?_push_of_some _ (he1 f)))
 refine wB (A:=A.in1) hh (Heap.get?_push_of_some _ (Heap.get?_push_of_some _ (he1 _))) hd h2 (Heap.get?_push_size _ rfl) rfl (by simp [ownMembersOf]) (hlt _ _) ?_
 refine wpAny_bind (wpAny_isInstance (T := "StopIteration") (b:=true) ⟨_,Heap.get?_update_self _ (Heap.get?_push_size _ rfl) (Obj.isFreed_of_fields (Obj.data_mapFields rfl _)),Obj.cls_mapFields ..⟩ isSubtype_stop ?_)
 refine wpAny_pure (hQ _ fun b o' hb q=>?_)
 have q2:=((Heap.SameBut.update it (Obj.mapFields fun x=>x.setIfInBounds 0 Value.none) (h:=s.heap)).extBut.push { cls:=Value.type "tuple",data:=Data.seq #[] }) b o' hb q
 rw [Heap.get?_update_other _ _ (Ne.symm (Nat.ne_of_lt (Heap.lt_size q2)))]
 exact Heap.get?_push_of_some _ q2
end
section
variable {X:Cx} {e C:Addr} {oe:Obj}
end
noncomputable def vG (A:Around):Around:={ A with handled:=none }
noncomputable def qx (k:Nat) (A:Around):Prop:=Room k (vG A)
theorem AB {j k:Nat} {A:Around} {h:Option Value} (r:Room j A) (hk:k<=j):qx k (A.mark h):=⟨rfl,(r.mono hk).dp,(r.mono hk).un⟩
structure Hnd (A:Around) (H:Hp) (e:Addr) (oe:Obj) (C:Addr):Prop where
 hh:A.handled=some (.ref e)
 h0:H e=some (.frz oe xu)
 xo:XO C oe
structure FnOkH (P:Program) (w:World) (K:PySem.W.Frag) (mg:Str->Option Value) (base:Heap) (k:Nat) (f:Addr) (fd:FuncData) (ps:List Str) (sp:Sp):Prop where
 len:∀ vs H Q E,sp vs H Q E->vs.length=ps.length
 run:∀ (A:Around) (outer:List Env) (s:Shared) (H:Hp) (args:Args) (us:List Value) (vs:List V) (Q:VK) (e:Addr) (oe:Obj) (C:Addr),qx k A->Hnd A H e oe C->Env0 P w K mg base A outer s H->BindsTo s fd args (ps.zip us)->Vals vs us->sp vs H Q E0 ->
  codeAny (model P w) A (.call (.ref f) args) (CR jn outer P w H s Q E0) s
noncomputable def Mw (P:Program) (w:World) (K:PySem.W.Frag) (mg:Str->Option Value) (base:Heap) (N:List Str) (qual:Str) (scope:Scope) (f:Addr) (cd:Value) (A:Around) (outer:List Env) (s:Shared) (H:Hp):Cx:=
 { kQ jn P w K mg base N qual scope f cd A outer s H E0 with calm:=false,xe:=fun _ _=>False }
theorem vN {P:Program} {w:World} {K:PySem.W.Frag} {mg:Str->Option Value} {base:Heap} {N:List Str} {qual:Str} {scope:Scope} {f:Addr} {cd:Value} {A:Around} {outer:List Env} {s s1:Shared} {H H':Hp} {σ:L2.St} {pins:List (Addr×Obj)}
  (I:Inv (kQ jn P w K mg base N qual scope f cd (vG A) outer s H E0) pins σ H' s1):Inv (Mw P w K mg base N qual scope f cd A outer s H) pins σ H' s1:=
 ⟨⟨I.ok.mod,I.ok.kind,I.ok.glob,I.ok.blt,I.ok.above,I.ok.inj,I.ok.has,I.ok.cab,fun h=>(by cases h),I.ok.frames,I.ok.stk,I.ok.exf,I.ok.bs,I.ok.bsz,I.ok.noex,I.ok.exfs,I.ok.i_,I.ok.frf⟩,I.os,I.bare,I.base,I.loc,I.cell,I.free,I.freeC,I.pin,I.hok,I.len⟩
theorem Jt {P:Program} {w:World} {K:PySem.W.Frag} {mg:Str->Option Value} {base:Heap} {k:Nat} {x qual:Str} {st:Stmt} {f:Addr} {fd:FuncData} {N ps:List Str} {sp:Sp} (F:Fun K x qual st f fd) (S:FnScope N ps (aC st)) (len:∀ vs H Q E,sp vs H Q E->vs.length=ps.length)
  (hb:∀ (cdv:Value) (A:Around) (outer:List Env) (s:Shared) (H:Hp) (vs:List V) (Q:VK) (e:Addr) (oe:Obj) (C:Addr),qx k (A.deeper (envOfC qual (aC st) s.heap.objs.size f cdv))->Hnd A H e oe C->sp vs H Q E0 ->
   ∃ t,qh (Mw P w K mg base N qual (aC st) f cdv A outer s H) (aR st) t/\t { nx:=fun _ H'=>Q .non H',rt:=Q } (start N vs) H):FnOkH P w K mg base (k+1) f fd ps sp:=by
 obtain ⟨oc,od,kV,doc,pm,an,cdv,ct,osl,rfl,lk,hcd⟩:=F.ex
 refine ⟨len,fun A outer s H args us vs Q e oe C hr hx e0 hbd r hsp=>?_⟩
 have hl:=len _ _ _ _ hsp
 have KX:K.In s.heap:=e0.mod.kin.keeps fun b o z=>(e0.bs b o z).1
 have lim:s.heap.NoLimit:=e0.mod.nolimit.keeps fun b o z=>(e0.bs b o z).1
 have kinds:∀ y∈ps.zip us,(aC st).names.lookup y.1=some .local\/((aC st).names.lookup y.1=some .cell/\((cellsFrom (s.heap.objs.size+1) (aC st).names []).lookup y.1).isSome=true):=fun y hy=>
  (S.par y.1 (List.of_mem_zip hy).1).imp (fun q=>q) fun q=>⟨q,PySem.W.cellsFrom_some _ _ _ (.inl q)⟩
 refine codeAny_call_function (show A.depth < _ from hr.depth) (KX _ _ lk) rfl S.co S.gen rfl (PySem.W.codeRec_of KX hcd) (hbd _ _ _ _ ?_)
 refine wpAny_newFunctionEnv_cells S.kind kinds fun env he s1 xc=>?_
 subst he
 refine ⟨lim.keeps xc.toInCall.keep,codeAny_func ?_⟩
 obtain ⟨t,ht,hq⟩:=hb cdv A outer s H vs Q e oe C (Room.deeper hr _) hx hsp
 have e1:Env0 P w K mg base (vG A) outer s H:=⟨e0.frames,e0.mod,e0.bs,e0.bsz,e0.i_,e0.frf,e0.hok,e0.bare⟩
 have I:=vN (qH (CX:=jn) (E:=E0) (qual:=qual) (f:=f) (cd:=cdv) S hr.hd e1 hl r xc)
 refine wpAny_mono (ht [] s1 (start N vs) H _ I hq) (fun fl s' hs=>?_) fun _ _ z=>z.elim
 have fin:∀ {σ':L2.St} {H':Hp} {v:V} {u:Value},Inv (Mw P w K mg base N qual (aC st) f cdv A outer s H) [] σ' H' s'->RelV v u->Q v H'->CE outer P w H s Q u s':=fun {σ' H' v u} J rv q=>⟨v,H',J.os,J.bare,J.base,J.hok,rv,q⟩
 cases fl with
 | ret u=>obtain ⟨v,σ',H',J,rv,q⟩:=hs;exact fin J rv q
 | next=>obtain ⟨σ',H',J,q⟩:=hs;exact fin (v:=V.non) (u:=Value.none) J rfl q
 | brk=>obtain ⟨_,_,_,q⟩:=hs;exact q.elim
 | cont=>obtain ⟨_,_,_,q⟩:=hs;exact q.elim
noncomputable def NB (P:Program) (w:World) (K:PySem.W.Frag) (mg:Str->Option Value) (base:Heap) (k:Nat) (x:Str) (ps:List Str) (sp:Sp):Prop:=
 ∃ (f:Addr) (fd:FuncData),FnOkH P w K mg base k f fd ps sp/\mg x=some (.ref f)/\PySem.W.keepIn K (.ref f)=true/\Binds K fd ps []
theorem JO {X:Cx} {k:Nat} {x:Str} {ps:List Str} {sp:Sp} {a:Expr} {es:List Expr} {t:TA} {p pos:Pos} {e C:Addr} {oe:Obj} (G:NB X.prog X.w X.K X.mg X.base k x ps sp) (hr:qx k X.A) (hh:X.A.handled=some (.ref e)) (h0:X.H₀ e=some (.frz oe xu)) (xo:XO C oe) (ha:PA X (a::es) t) (hg:Gl X x:=by rfl)
  (hdb:(x == ("__debug__" : Str))=false:=by decide) (hs:starEach (a::es) X.env=(false,eval a X.env)::starEach es X.env:=by rfl) (hplain:(backTo pos (starEach es X.env)).any (·.1)=false:=by rfl) :
  PE X (.Call (.Name x p) (a::es) [] pos) (Br sp [] E0 t):=by
 obtain ⟨f,fd,F,hm,hk,hb⟩:=G
 intro pins s σ H Q I h
 refine wpAny_Call_Name_kw (lR I hg hm ?_ hdb)
 refine PySem.W.callWith_K (h₀:=X.base) I.ok.mod.kin hk (eS (ha pos pins s σ H _ I h) fun us s1 ⟨vs,H1,I1,r,q⟩=>⟨I1.oX,?_⟩) hs hplain
 have q:sp (vs++[]) H1 Q E0:=q
 rw [List.append_nil] at q
 have hl:us.length=ps.length:=by rw [<- r.length];exact F.len _ _ _ _ q
 refine wpAny_call (codeAny_mono (F.run X.A X.stack s1 H1 ⟨us,[]⟩ us vs Q e oe C hr ⟨hh,I1.base.frzs e oe xu h0,xo⟩ I1.Ly (by have:=hb s1 us I1.oX (by rw [List.append_nil];exact hl);rwa [List.append_nil] at this) r q) fun r s' hq=>?_)
 cases r with
 | error e=>exact hq.elim
 | ok fl=>
  cases fl with
  | ret u=>exact I1.after hq
  | next=>exact hq.elim
  | brk=>exact hq.elim
  | cont=>exact hq.elim
end L2
namespace L2
open PySem PySem.Spec PyProof.Rows PySem.SeqAt
section
variable {X:Cx}
end
section
variable {X:Cx} {pos:Pos} {a b:Expr}
end
section
variable {X:Cx}
end
section
variable {prog:Program} {w:World} {A:Around} {E:Value->Shared->Prop} {s:Shared}
end
section
variable {prog:Program} {w:World} {A:Around} {E:Value->Shared->Prop} {s:Shared}
end
section
variable {X:Cx}
end
end L2
namespace L2
open PySem PySem.Spec PyProof.Rows
section
variable {X:Cx}
end
theorem CV {X:Cx} {i:Nat} {y:Str} {py spos:Pos} {tg iter elt:Expr} {ifs:List Expr} {scope:Scope} {pos:Pos} {N:List Str} {cap:List (Option Nat)} {wi:TI} {g:TG} {tc:TT} {te:TE}
  (hN:X.N.Nodup) (hi':X.N[i]?=some y) (hx:Loc X.env.scope y) (hc:X.calm=true) (S:CpScope X scope N cap) (hi:PI X tg iter wi)
  (hg:∀ C s₀ H₀ ex,PG (dX X scope N C s₀ H₀ ex) tg g) (ht:∀ C s₀ H₀ ex,IK (dX X scope N C s₀ H₀ ex) ifs tc) (he:∀ C s₀ H₀ ex,PE (dX X scope N C s₀ H₀ ex) elt te)
  (hsw:swapsWith (.ListComp elt [⟨tg,iter,ifs,0⟩] scope pos) (some (.Name y py)) spos.line X.env=pure true)
  (hf:X.fn y=true\/X.env.scope.names.lookup y=some .local) (hs:∀ x,foldedSetIterable iter X.env x=pure x:=by intro _;rfl) :
  PS X (.Assign [.Name y py] (.ListComp elt [⟨tg,iter,ifs,0⟩] scope pos) spos) (Gd (Lq cap wi g tc te) (Eo i)):=by
 intro pins s σ H D I h
 rw [exec_Assign_Name_used _ _ _ _ hsw]
 refine wpAny_bind (wpAny_standAt (wpAny_bind ?_))
 show wpAny _ X.A (do let _ <- comprehension (.ListComp elt [⟨tg,iter,ifs,0⟩] scope pos) scope X.env (firstIterPos [⟨tg,iter,ifs,0⟩] pos) (newList []) (firstAsync [⟨tg,iter,ifs,0⟩]) (firstIter [⟨tg,iter,ifs,0⟩] X.env) (some (assign (.Name y py) X.env))) _ _ s
 refine wpAny_bind (wpAny_mono (yD (ok:=fun Y=>Y.calm=true) (Q':=fun _ s'=>SP X pins D .next s') S (fun _ _ _ _ _=>hc) (PI.g hi) hg ht he hs pins s σ H _ I h ?_) (fun _ s' hq=>wpAny_pure (wpAny_pure hq)) fun _ _ e=>e)
 intro s6 C Dd H5 m hn fk inv q v
 have Ia:=inv s6.heap (Heap.SameBut.refl _ _)
 obtain ⟨oC,hoC⟩:∃ o,s6.heap.get? C=some o/\∀ v,o.data≠.cell v:=by
  obtain ⟨o,es,ep,e,d,_⟩:=hn
  exact ⟨o,e,fun v z=>by rw [d] at z;cases z⟩
 have Ip:=Ia.pinned (fp:=[C]) (fun b hb=>by rw [List.mem_singleton] at hb;rw [hb];exact fk) (fun b hb=>by rw [List.mem_singleton] at hb;rw [hb];exact ⟨oC,hoC⟩)
 show wpAny _ X.A (assign (.Name y py) X.env (.ref Dd)) _ _ s6
 refine eS (xU hN hi' hx hf _ s6 σ H5 (.ref Dd) (.ref Dd) _ Ip rfl q) fun _ s7 h9=>?_
 obtain ⟨σ7,H7,I7,q7⟩:=h9
 have hp:=I7.pin (C,oC) (List.mem_append_right _ (List.mem_append_right _ (fU (List.mem_singleton.mpr rfl) hoC.1)))
 refine ⟨m,hn.at' fun o e=>by rw [hoC.1] at e;cases e;exact hp.1,fun h' sb=>?_⟩
 have nC:∀ c v,H7 c=some v->c≠C:=fun c v e z=>by rw [z,hp.2.1] at e;cases e
 refine ⟨σ7,H7,?_,q7⟩
 refine I7.jy.Hx (ch:=[C]) rfl ⟨fun b o e n hb hx=>?_,fun b o e n hb hx=>?_,fun b o e n hx=>n,fun b o e hx=>?_,fun _ _ e=>e,fun _ _ _ e=>e,fun _ _ e=>⟨#[],by rw [Array.append_empty];exact e⟩⟩ ?_ I7.bare ?_
 ·exact sb.extBut b o (by simpa using hx) e
 ·exact ⟨o.slots,sb.extBut b o (by simpa using hx) e⟩
 ·exact ⟨o,sb.extBut b o (by simpa using hx) e⟩
 ·intro b o e
  refine (I7.hok b o e).stay (fun c v hc q=>sb.extBut c v ?_ q) (fun _ q=>q) fun _ _ q=>q
  rcases hc with z | z
  ·rw [z];exact nC b o e
  ·exact nC c _ z
 ·intro b hb
  rw [List.mem_singleton] at hb
  rw [hb]
  exact ⟨fk.2.2.2.1,fk.2.1,fk.2.2.2.2.1,fk.2.2.2.2.2⟩
section
variable {X:Cx} {tg:Expr}
end
section
variable {prog:Program} {w:World} {A:Around} {E:Value->Shared->Prop} {s:Shared}
end
section
variable {X:Cx} {o e:Expr} {to:TE} {tl:TO} {p2 spos pos:Pos}
end
end L2
namespace Sx
open PySem PyProof.Rows
structure Ord where
 lt:Nat->Nat->Bool
 EK:∀ i,lt i i=false
 tr:∀ i j k,lt i j=true->lt j k=true->lt i k=true
 neg:∀ i j k,lt i k=true->lt i j=true\/lt j k=true
noncomputable def P (o:Ord) (i j:Nat):Prop:=o.lt i j=true\/(o.lt j i=false/\i < j)
theorem Ord.Nz (o:Ord) {i j:Nat} (h:o.lt i j=true):o.lt j i=false:=by
 cases e:o.lt j i with
 | false=>rfl
 | true=>have:=o.tr _ _ _ h e;rw [o.EK] at this;cases this
theorem P.EK {o:Ord} {i:Nat} (h:P o i i):False:=by
 rcases h with h | ⟨_,h⟩
 ·rw [o.EK] at h;cases h
 ·omega
theorem P.trans {o:Ord} {i j k:Nat} (a:P o i j) (b:P o j k):P o i k:=by
 rcases a with a | ⟨a,a'⟩
 ·rcases b with b | ⟨b,b'⟩
  ·exact .inl (o.tr _ _ _ a b)
  ·rcases o.neg i k j a with z | z
   ·exact .inl z
   ·rw [b] at z;cases z
 ·rcases b with b | ⟨b,b'⟩
  ·rcases o.neg j i k b with z | z
   ·rw [a] at z;cases z
   ·exact .inl z
  ·refine .inr ⟨?_,by omega⟩
   cases e:o.lt k i with
   | false=>rfl
   | true=>
    rcases o.neg k j i e with z | z
    ·rw [b] at z;cases z
    ·rw [a] at z;cases z
theorem P.of_lt {o:Ord} {i j:Nat} (h:o.lt i j=true):P o i j:=.inl h
theorem P.nk {o:Ord} {i j:Nat} (h:o.lt j i=false) (hij:i < j):P o i j:=.inr ⟨h,hij⟩
theorem P.lt {o:Ord} {i j:Nat} (h:P o i j) (hij:j < i):o.lt i j=true:=by
 rcases h with h | ⟨_,h⟩
 ·exact h
 ·omega
theorem P.ge {o:Ord} {i j:Nat} (h:P o i j):o.lt j i=false:=by
 rcases h with h | ⟨h,_⟩
 ·exact o.Nz h
 ·exact h
noncomputable def So (o:Ord) (g:Nat->Nat) (a b:Nat):Prop:=∀ i j,a<=i->i < j->j < b->P o (g i) (g j)
noncomputable def Cl (g:Nat->Nat) (a b:Nat):Prop:=∀ i,a<=i->i < b->a<=g i/\g i < b
noncomputable def rev (g:Nat->Nat) (i j:Nat):Nat->Nat:=fun k=>if i<=k/\k < j then g (i+j - 1 - k) else g k
noncomputable def mv (g:Nat->Nat) (src dst:Nat):Nat->Nat:=fun k=>if k=dst then g src else if dst < k/\k<=src then g (k - 1) else g k
theorem o9 {g:Nat->Nat} {i j k:Nat} (h:i<=k) (h2:k < j):rev g i j k=g (i+j - 1 - k):=if_pos ⟨h,h2⟩
theorem fK {g:Nat->Nat} {i j k:Nat} (h:k < i\/j<=k):rev g i j k=g k:=if_neg (by omega)
theorem Cv {g:Nat->Nat} {s d:Nat}:mv g s d d=g s:=if_pos rfl
theorem vm {g:Nat->Nat} {s d k:Nat} (h:d < k) (h2:k<=s):mv g s d k=g (k - 1):=by
 unfold mv;rw [if_neg (by omega),if_pos ⟨h,h2⟩]
theorem sJ {g:Nat->Nat} {s d k:Nat} (hd:d<=s) (h:k < d\/s < k):mv g s d k=g k:=by
 unfold mv;rw [if_neg (by omega),if_neg (by omega)]
section
variable {prog:Program} {w:World} {A:Around} {E:Value->Shared->Prop} {s:Shared} {o:Ord} {N:Nat} {f:Nat->Keyed} {kd:SortKind} {g:Nat->Nat} {p:Array (Nat×Nat×Nat)} {st:SortSt}
noncomputable def qD (prog:Program) (w:World) (A:Around) (s:Shared) (o:Ord) (N:Nat) (f:Nat->Keyed) (kd:SortKind):Prop:=
 ∀ i j,i < N->j < N->∀ (E':Value->Shared->Prop) (Q:Bool->Shared->Prop),Q (o.lt i j) s->wpAny (model prog w) A (keyLt' kd (f i).1 (f j).1) Q E' s
structure Sg (N:Nat) (f:Nat->Keyed) (kd:SortKind) (g:Nat->Nat) (p:Array (Nat×Nat×Nat)) (st:SortSt):Prop where
 size:(arrOf st).size=N
 get:∀ i,i < N->(arrOf st)[i]?=some (f (g i))
 lt:∀ i,i < N->g i < N
 kind:kindOf st=kd
 failed:failedOf st=none
 pend:pendingOf st=p
theorem oU (C:qD prog w A s o N f kd) (hk:kindOf st=kd) {i j:Nat} (hi:i < N) (hj:j < N) {Q:Option Bool->SortSt->Prop} (q:Q (some (o.lt i j)) st):wpS (model prog w) A E s (lt' (f i) (f j)) Q st:=by
 rw [lt'_eq]
 refine wpS_bind (wpS_get ?_)
 rw [hk]
 refine wpS_bind (wpS_lift (wpAny_attempt (C i j hi hj _ _ ⟨rfl,?_⟩)))
 exact wpS_pure q
theorem bw {xs:Array Keyed} {i:Nat} {x:Keyed} (e:xs[i]?=some x) {Q:Keyed->SortSt->Prop} (q:Q x st):wpS (model prog w) A E s (elem' xs i) Q st:=by
 rw [elem'_eq,e];exact wpS_pure q
theorem lB (C:qD prog w A s o N f kd) (h:Sg N f kd g p st) {i j:Nat} (hi:i < N) (hj:j < N) {Q:Option Bool->SortSt->Prop} (q:Q (some (o.lt (g i) (g j))) st):wpS (model prog w) A E s (ltAt' i j) Q st:=by
 rw [ltAt'_eq]
 refine wpS_bind (wpS_get ?_)
 show wpS _ _ _ _ (do let u <- elem' (arrOf st) i;let v <- elem' (arrOf st) j;lt' u v) Q st
 exact wpS_bind (bw (h.get i hi) (wpS_bind (bw (h.get j hj) (oU C h.kind (h.lt i hi) (h.lt j hj) q))))
theorem Sg.arr (h:Sg N f kd g p st) {xs:Array Keyed} {g':Nat->Nat} (hs:xs.size=N) (hg:∀ i,i < N->xs[i]?=some (f (g' i))) (hl:∀ i,i < N->g' i < N):Sg N f kd g' p (setArr st xs):=⟨hs,hg,hl,h.kind,h.failed,h.pend⟩
theorem nT (h:Sg N f kd g p st) {i j:Nat} (hj:j<=N) {Q:Unit->SortSt->Prop} (q:∀ st',Sg N f kd (rev g i j) p st'->Q () st'):wpS (model prog w) A E s (reverseSlice' i j) Q st:=by
 rw [reverseSlice'_eq]
 refine wpS_modify (q _ (h.arr (by rw [mirror_size];exact h.size) (fun k hk=>?_) fun k hk=>?_))
 ·rw [getElem?_mirror_all (by rw [h.size];exact hj)]
  unfold rev
  by_cases c:i<=k/\k < j
  ·rw [if_pos c,if_pos c];exact h.get _ (by omega)
  ·rw [if_neg c,if_neg c];exact h.get _ hk
 ·unfold rev
  by_cases c:i<=k/\k < j
  ·rw [if_pos c];exact h.lt _ (by omega)
  ·rw [if_neg c];exact h.lt _ hk
theorem Je (h:Sg N f kd g p st) {a b:Nat} (ha:a < N) (hb:b<=a) {Q:Unit->SortSt->Prop} (q:∀ st',Sg N f kd (mv g a b) p st'->Q () st'):wpS (model prog w) A E s (moveDown' a b) Q st:=by
 rw [moveDown'_eq]
 refine wpS_modify (q _ (h.arr (by rw [bubble_size];exact h.size) (fun k hk=>?_) fun k hk=>?_))
 ·rw [getElem?_bubble (by rw [h.size];exact ha) _ (by omega),show a - (a - b)=b by omega]
  unfold mv
  by_cases c:k=b
  ·rw [if_pos c,if_pos c];exact h.get _ ha
  ·rw [if_neg c,if_neg c]
   by_cases c2:b < k/\k<=a
   ·rw [if_pos c2,if_pos c2];exact h.get _ (by omega)
   ·rw [if_neg c2,if_neg c2];exact h.get _ hk
 ·unfold mv
  by_cases c:k=b
  ·rw [if_pos c];exact h.lt _ ha
  ·rw [if_neg c]
   by_cases c2:b < k/\k<=a
   ·rw [if_pos c2];exact h.lt _ (by omega)
   ·rw [if_neg c2];exact h.lt _ hk
structure Rn (o:Ord) (g0 g:Nat->Nat) (a b:Nat):Prop where
 out:∀ i,i < a\/b<=i->g i=g0 i
 cl:Cl g a b
 so:So o g a b
theorem Kl {g0:Nat->Nat} {lo k l:Nat} (R:Rn o g0 g lo (lo+k)) (hk:g (lo+k)=lo+k) (hl:l<=k) (h1:∀ i,i < l->P o (g (lo+i)) (lo+k)) (h2:∀ i,l<=i->i < k->P o (lo+k) (g (lo+i))):Rn o g0 (mv g (lo+k) (lo+l)) lo (lo+(k+1)) where
 out i hi:=by rw [sJ (by omega) (by omega)];exact R.out i (by omega)
 cl i a b:=by
  by_cases c:i=lo+l
  ·subst c;rw [Cv,hk];omega
  ·by_cases c2:lo+l < i
   ·rw [vm c2 (by omega)]
    have:=R.cl (i - 1) (by omega) (by omega)
    omega
   ·rw [sJ (by omega) (by omega)]
    have:=R.cl i (by omega) (by omega)
    omega
 so i j a b d:=by
  by_cases c:i=lo+l
  ·subst c
   rw [Cv,vm b (by omega),hk]
   have:=h2 (j - 1 - lo) (by omega) (by omega)
   rwa [show lo+(j - 1 - lo)=j - 1 by omega] at this
  ·by_cases c2:lo+l < i
   ·rw [vm c2 (by omega),vm (by omega) (by omega)]
    exact R.so _ _ (by omega) (by omega) (by omega)
   ·rw [sJ (k:=i) (by omega) (by omega)]
    by_cases c3:j=lo+l
    ·subst c3
     rw [Cv,hk]
     have:=h1 (i - lo) (by omega)
     rwa [show lo+(i - lo)=i by omega] at this
    ·by_cases c4:lo+l < j
     ·rw [vm c4 (by omega)]
      exact R.so _ _ (by omega) (by omega) (by omega)
     ·rw [sJ (by omega) (by omega)]
      exact R.so _ _ (by omega) (by omega) (by omega)
theorem Jz (C:qD prog w A s o N f kd) {g0:Nat->Nat} {lo n ok:Nat} (h:Sg N f kd g p st) (hn:lo+n<=N) (h1:1<=ok) (hok:ok<=n) (R:Rn o g0 g lo (lo+ok)) (hid:∀ i,lo+ok<=i->i < lo+n->g0 i=i)
  {Q:Bool->SortSt->Prop} (q:∀ g' st',Sg N f kd g' p st'->Rn o g0 g' lo (lo+n)->Q true st'):wpS (model prog w) A E s (binarySort' lo n ok) Q st:=by
 rw [binarySort'_eq,show max ok 1=ok by omega]
 refine wpS_bind (wpS_mono (wpS_forRange (I:=fun k c st'=>c=(none,())/\∃ g',Sg N f kd g' p st'/\Rn o g0 g' lo (lo+min k n))
  (Q:=fun c st'=>c=(none,())/\∃ g',Sg N f kd g' p st'/\Rn o g0 g' lo (lo+n)) ?step ?fin ?init) ?post)
 case post=>
  rintro c st' ⟨rfl,g',h',R'⟩
  exact wpS_pure (q g' st' h' R')
 case init=>exact ⟨rfl,g,h,by rw [show min ok n=ok by omega];exact R⟩
 case fin=>
  rintro c st' ⟨hc,g',h',R'⟩
  exact ⟨hc,g',h',by rwa [show min (max ok n) n=n by omega] at R'⟩
 case step=>
  rintro k c st' hak hkn ⟨rfl,g',h',R'⟩
  rw [show min k n=k by omega] at R'
  have gk:g' (lo+k)=lo+k:=by rw [R'.out _ (by omega)];exact hid _ (by omega) (by omega)
  refine wpS_bind (wpS_mono (wpS_forRange (I:=fun x c s2=>s2=st'/\∃ u v,c=(none,u,v)/\u<=v/\v<=k/\v - u<=k - x /\
    (∀ i,i < u->P o (g' (lo+i)) (lo+k))/\(∀ i,v<=i->i < k->P o (lo+k) (g' (lo+i))))
   (Q:=fun c s2=>s2=st'/\∃ u v,c=(none,u,v)/\u<=k /\
    (∀ i,i < u->P o (g' (lo+i)) (lo+k))/\(∀ i,u<=i->i < k->P o (lo+k) (g' (lo+i)))) ?istep ?ifin ?iinit) ?ipost)
  case iinit=>exact ⟨rfl,0,k,rfl,by omega,by omega,by omega,fun i hi=>by omega,fun i h1 h2=>by omega⟩
  case ifin=>
   rintro c s2 ⟨rfl,u,v,rfl,huv,hvk,hm,low,top⟩
   have:u=v:=by omega
   subst this
   exact ⟨rfl,u,u,rfl,hvk,low,top⟩
  case istep=>
   rintro x c s2 _ hxk ⟨rfl,u,v,rfl,huv,hvk,hm,low,top⟩
   dsimp only
   by_cases hge:u>=v
   ·rw [if_pos hge]
    have:u=v:=by omega
    subst this
    exact wpS_pure ⟨rfl,u,u,rfl,hvk,low,top⟩
   ·rw [if_neg hge]
    have hmk:(u+v) / 2 < k:=by omega
    have gm:=R'.cl (lo+(u+v) / 2) (by omega) (by omega)
    refine wpS_bind (lB C h' (by omega) (by omega) ?_)
    rw [gk]
    cases hless:o.lt (lo+k) (g' (lo+(u+v) / 2))
    case true=>
     simp only [if_true]
     refine wpS_pure ⟨rfl,u,(u+v) / 2,rfl,by omega,by omega,by omega,low,fun i h1 h2=>?_⟩
     by_cases c:i=(u+v) / 2
     ·subst c;exact .inl hless
     ·exact (P.of_lt hless).trans (R'.so _ _ (by omega) (by omega) (by omega))
    case false=>
     simp only [Bool.false_eq_true,if_false]
     refine wpS_pure ⟨rfl,(u+v) / 2+1,v,rfl,by omega,by omega,by omega,fun i h1=>?_,top⟩
     have last:=P.nk hless gm.2
     by_cases c:i=(u+v) / 2
     ·subst c;exact last
     ·exact (R'.so _ _ (by omega) (by omega) (by omega)).trans last
  case ipost=>
   rintro c s2 ⟨rfl,u,v,rfl,huk,low,top⟩
   dsimp only
   refine wpS_bind (Je h' (by omega) (by omega) fun st3 h3=>?_)
   refine wpS_pure ⟨rfl,_,h3,?_⟩
   rw [show min (k+1) n=k+1 by omega]
   exact Kl R' gk huk low top
end
noncomputable abbrev As:=Option (Option Nat)×Nat
noncomputable abbrev Ds:=Option (Option Nat)×Nat×Nat
noncomputable def Bv (lo a nrem:Nat):StateT SortSt Sem As:=
 forIn [a:nrem] ((none,a):As) fun _ c=>do
  let x <- ltAt' (lo+c.2) (lo+c.2 - 1)
  match x with
  | some b=>if b=true then pure (ForInStep.done (none,c.2)) else pure (ForInStep.yield (none,c.2+1))
  | _=>pure (ForInStep.done (some none,c.2))
noncomputable def um (lo n nrem:Nat):StateT SortSt Sem (Option Nat):=do
 reverseSlice' lo (lo+n)
 let c <- Bv lo n nrem
 match c.1 with
 | some r=>pure r
 | none=>pure (some c.2)
noncomputable def Fy (lo n nrem:Nat):StateT SortSt Sem Ds:=
 forIn [n:nrem] ((none,n,0):Ds) fun _ c=>do
  let x <- ltAt' (lo+c.2.1) (lo+c.2.1 - 1)
  match x with
  | some b=>
   if b=true then
    if c.2.2 > 0 then do
     reverseSlice' (lo+c.2.1 - (c.2.2+1)) (lo+c.2.1)
     pure (ForInStep.yield (none,c.2.1+1,0))
    else pure (ForInStep.yield (none,c.2.1+1,0))
   else do
    let x <- ltAt' (lo+c.2.1 - 1) (lo+c.2.1)
    match x with
    | some b=>
     if b=true then pure (ForInStep.done (none,c.2.1,c.2.2))
     else pure (ForInStep.yield (none,c.2.1+1,c.2.2+1))
    | _=>pure (ForInStep.done (some none,c.2.1,c.2.2))
  | _=>pure (ForInStep.done (some none,c.2.1,c.2.2))
noncomputable def Cp (lo n nrem:Nat):StateT SortSt Sem (Option Nat):=do
 liftM (rule "list.sort.descending-run")
 let c <- Fy lo (n+1) nrem
 match c.1 with
 | some r=>pure r
 | none=>
  if c.2.2 > 0 then do
   reverseSlice' (lo+c.2.1 - (c.2.2+1)) (lo+c.2.1)
   um lo c.2.1 nrem
  else um lo c.2.1 nrem
theorem count_eq (lo nrem:Nat):countRun' lo nrem=(do
  let c <- Bv lo 1 nrem
  match c.1 with
  | some r=>pure r
  | none=>
   if (c.2 == nrem)=true then pure (some c.2)
   else if c.2 > 1 then do
    let x <- ltAt' lo (lo+c.2 - 1)
    match x with
    | some b=>if b=true then pure (some c.2) else do
      reverseSlice' lo (lo+c.2)
      Cp lo c.2 nrem
    | _=>pure none
   else Cp lo c.2 nrem):=by
 rw [countRun'_eq]
 dsimp only
 unfold Cp um Fy Bv
 congr 1
 funext c
 obtain ⟨r,n⟩:=c
 cases r with
 | some r=>rfl
 | none=>
  dsimp only
  split
  ·rfl
  ·split
   ·congr 1
    funext x
    cases x with
    | none=>rfl
    | some b=>
     dsimp only
     split
     ·rfl
     ·congr 1
      funext _r
      congr 1
      funext _u
      congr 1
      congr 1
      funext s2
      obtain ⟨r2,n2,q2⟩:=s2
      cases r2 with
      | some r2=>rfl
      | none=>
       dsimp only
       split
       ·congr 1
        funext _v
        congr 1
        funext _w
        congr 1
        funext s3
        obtain ⟨r3,n3⟩:=s3
        cases r3 <;> rfl
       ·congr 1
        funext _w
        congr 1
        funext s3
        obtain ⟨r3,n3⟩:=s3
        cases r3 <;> rfl
   ·congr 1
    funext _u
    congr 1
    congr 1
    funext s2
    obtain ⟨r2,n2,q2⟩:=s2
    cases r2 with
    | some r2=>rfl
    | none=>
     dsimp only
     split
     ·congr 1
      funext _v
      congr 1
      funext _w
      congr 1
      funext s3
      obtain ⟨r3,n3⟩:=s3
      cases r3 <;> rfl
     ·congr 1
      funext _w
      congr 1
      funext s3
      obtain ⟨r3,n3⟩:=s3
      cases r3 <;> rfl
section
variable {prog:Program} {w:World} {A:Around} {E:Value->Shared->Prop} {s:Shared} {o:Ord} {N:Nat} {f:Nat->Keyed} {kd:SortKind} {g g0:Nat->Nat} {p:Array (Nat×Nat×Nat)} {st:SortSt}
theorem Rn.snoc {a b:Nat} (R:Rn o g0 g a b) (hab:a < b) (hb:g b=b) (h:o.lt b (g (b - 1))=false):Rn o g0 g a (b+1) where
 out i hi:=R.out i (by omega)
 cl i h1 h2:=by
  by_cases c:i=b
  ·subst c;omega
  ·have:=R.cl i h1 (by omega);omega
 so i j h1 h2 h3:=by
  by_cases c:j=b
  ·subst c
   rw [hb]
   have l:=R.cl (j - 1) (by omega) (by omega)
   have last:P o (g (j - 1)) j:=P.nk h l.2
   by_cases c2:i=j - 1
   ·subst c2;exact last
   ·exact (R.so i (j - 1) h1 (by omega) (by omega)).trans last
  ·exact R.so i j h1 h2 (by omega)
theorem Ci (C:qD prog w A s o N f kd) {lo a nrem:Nat} (h:Sg N f kd g p st) (hn:lo+nrem<=N) (h1:1<=a) (han:a<=nrem) (R:Rn o g0 g lo (lo+a)) (hid:∀ i,lo+a<=i->i < lo+nrem->g0 i=i)
  {Q:As->SortSt->Prop} (q:∀ n,a<=n->n<=nrem->Rn o g0 g lo (lo+n)->(n=nrem\/o.lt (lo+n) (g (lo+n - 1))=true)->Q (none,n) st):wpS (model prog w) A E s (Bv lo a nrem) Q st:=by
 unfold Bv
 refine wpS_forRange (I:=fun x c st'=>st'=st/\c=(none,x)/\Rn o g0 g lo (lo+x)) ?step ?fin ⟨rfl,rfl,R⟩
 case fin=>
  rintro c st' ⟨rfl,rfl,R'⟩
  rw [show max a nrem=nrem by omega] at R' ⊢
  exact q nrem han (Nat.le_refl _) R' (.inl rfl)
 case step=>
  rintro x c st' hax hxn ⟨rfl,rfl,R'⟩
  dsimp only
  have gx:g (lo+x)=lo+x:=by rw [R'.out _ (by omega)];exact hid _ (by omega) (by omega)
  refine wpS_bind (lB C h (by omega) (by omega) ?_)
  rw [gx]
  cases hl:o.lt (lo+x) (g (lo+x - 1))
  case true=>
   simp only [if_true]
   exact wpS_pure (q x hax (by omega) R' (.inr hl))
  case false=>
   simp only [Bool.false_eq_true,if_false]
   exact wpS_pure ⟨rfl,rfl,R'.snoc (by omega) gx hl⟩
structure Dc (o:Ord) (g0 g:Nat->Nat) (a b q:Nat):Prop where
 out:∀ i,i < a\/b<=i->g i=g0 i
 cl:Cl g a b
 few:a+(q+1)<=b
 dn:∀ i j,a<=i->i < j->j < b->i < b - (q+1)->P o (g j) (g i)
 id:∀ i,b - (q+1)<=i->i < b->g i=i
 al:∀ i j,b - (q+1)<=i->i < b->b - (q+1)<=j->j < b->o.lt i j=false
theorem Dc.turn {a b q:Nat} (D:Dc o g0 g a b q):(∀ i,i < a\/b<=i->rev g (b - (q+1)) b i=g0 i)/\Cl (rev g (b - (q+1)) b) a b/\(∀ i j,a<=i->i < j->j < b->P o (rev g (b - (q+1)) b j) (rev g (b - (q+1)) b i))/\(∀ i,b - (q+1)<=i->i < b->∃ k,rev g (b - (q+1)) b i=k/\b - (q+1)<=k/\k < b):=by
 have few:=D.few
 have inn:∀ i,b - (q+1)<=i->i < b->rev g (b - (q+1)) b i=b - (q+1)+b - 1 - i:=fun i h1 h2=>by
  rw [o9 h1 h2]
  exact D.id _ (by omega) (by omega)
 refine ⟨fun i hi=>?_,fun i h1 h2=>?_,fun i j h1 h2 h3=>?_,fun i h1 h2=>⟨_,inn i h1 h2,by omega,by omega⟩⟩
 ·rw [fK (by omega)];exact D.out i hi
 ·by_cases c:i < b - (q+1)
  ·rw [fK (by omega)];exact D.cl i h1 h2
  ·rw [inn i (by omega) h2];omega
 ·by_cases c:i < b - (q+1)
  ·rw [fK (k:=i) (by omega)]
   by_cases c2:j < b - (q+1)
   ·rw [fK (by omega)];exact D.dn i j h1 h2 h3 c
   ·rw [inn j (by omega) h3]
    have:=D.dn i (b - (q+1)+b - 1 - j) h1 (by omega) (by omega) c
    rwa [D.id _ (by omega) (by omega)] at this
  ·rw [inn i (by omega) (by omega),inn j (by omega) h3]
   exact P.nk (D.al _ _ (by omega) (by omega) (by omega) (by omega)) (by omega)
noncomputable def Fin (o:Ord) (g0 g:Nat->Nat) (a b:Nat):Prop:=(∀ i,i < a\/b<=i->g i=g0 i)/\Cl g a b/\(∀ i j,a<=i->i < j->j < b->P o (g j) (g i))
theorem Dc.uV {a b:Nat} (D:Dc o g0 g a b 0):Fin o g0 g a b:=⟨D.out,D.cl,fun i j h1 h2 h3=>D.dn i j h1 h2 h3 (by omega)⟩
theorem Fin.rn {a b:Nat} (D:Fin o g0 g a b):Rn o g0 (rev g a b) a b where
 out i hi:=by rw [fK hi];exact D.1 i hi
 cl i h1 h2:=by
  rw [o9 h1 h2];exact D.2.1 _ (by omega) (by omega)
 so i j h1 h2 h3:=by
  rw [o9 h1 (by omega),o9 (by omega) h3]
  exact D.2.2 _ _ (by omega) (by omega) (by omega)
theorem Fin.add {a b:Nat} (D:Fin o g0 g a b) (hb:g b=b) (hab:a < b) (h:∀ i,a<=i->i < b->P o b (g i)):Dc o g0 g a (b+1) 0 where
 out i hi:=D.1 i (by omega)
 cl i h1 h2:=by
  by_cases c:i=b
  ·subst c;omega
  ·have:=D.2.1 i h1 (by omega);omega
 few:=by omega
 dn i j h1 h2 h3 _:=by
  by_cases c:j=b
  ·subst c;rw [hb];exact h i h1 h2
  ·exact D.2.2 i j h1 h2 (by omega)
 id i h1 h2:=by
  have:i=b:=by omega
  rw [this,hb]
 al i j h1 h2 h3 h4:=by
  have:i=j:=by omega
  rw [this];exact o.EK _
theorem xg (C:qD prog w A s o N f kd) {lo n nrem:Nat} (h:Sg N f kd g p st) (hn:lo+nrem<=N) (h1:1<=n) (han:n<=nrem) (D:Fin o g0 g lo (lo+n)) (hid:∀ i,lo<=i->i < lo+nrem->g0 i=i)
  {Q:Option Nat->SortSt->Prop} (q:∀ m g' st',Sg N f kd g' p st'->1<=m->m<=nrem->Rn o g0 g' lo (lo+m)->Q (some m) st'):wpS (model prog w) A E s (um lo n nrem) Q st:=by
 unfold um
 refine wpS_bind (nT h (by omega) fun st2 h2=>?_)
 exact wpS_bind (Ci C h2 hn h1 han D.rn (fun i a b=>hid i (by omega) b) fun m hm1 hm2 R _=>wpS_pure (q m _ _ h2 (by omega) hm2 R))
theorem Jw (C:qD prog w A s o N f kd) {lo n nrem:Nat} (h:Sg N f kd g p st) (hn:lo+nrem<=N) (h1:1<=n) (han:n<=nrem) (D:Dc o g0 g lo (lo+n) 0) (hid:∀ i,lo<=i->i < lo+nrem->g0 i=i)
  {Q:Ds->SortSt->Prop} (q:∀ m e g' st',Sg N f kd g' p st'->1<=m->m<=nrem->Dc o g0 g' lo (lo+m) e->Q (none,m,e) st'):wpS (model prog w) A E s (Fy lo n nrem) Q st:=by
 unfold Fy
 refine wpS_forRange (I:=fun x c st'=>∃ e g',c=(none,x,e)/\Sg N f kd g' p st'/\Dc o g0 g' lo (lo+x) e) ?step ?fin ⟨0,g,rfl,h,D⟩
 case fin=>
  rintro c st' ⟨e,g',rfl,h',D'⟩
  rw [show max n nrem=nrem by omega] at D' ⊢
  exact q nrem e g' st' h' (by omega) (Nat.le_refl _) D'
 case step=>
  rintro x c st' hax hxn ⟨e,g',rfl,h',D'⟩
  dsimp only
  have few:=D'.few
  have gx:g' (lo+x)=lo+x:=by rw [D'.out _ (by omega)];exact hid _ (by omega) (by omega)
  have gy:g' (lo+x - 1)=lo+x - 1:=D'.id _ (by omega) (by omega)
  refine wpS_bind (lB C h' (by omega) (by omega) ?_)
  rw [gx,gy]
  cases hl:o.lt (lo+x) (lo+x - 1)
  case true=>
   simp only [if_true]
   by_cases he:e > 0
   ·rw [if_pos he]
    obtain ⟨t1,t2,t3,t4⟩:=D'.turn
    refine wpS_bind (nT h' (by omega) fun st2 h2=>wpS_pure ⟨0,_,rfl,h2,?_⟩)
    refine Fin.add (b:=lo+x) ⟨t1,t2,t3⟩ (by rw [fK (by omega)];exact gx) (by omega) fun i a b=>?_
    by_cases c:lo+x - (e+1)<=i
    ·obtain ⟨k,ek,k1,k2⟩:=t4 i c b
     rw [ek]
     rcases o.neg _ k _ hl with z | z
     ·exact .inl z
     ·rw [D'.al _ _ k1 k2 (by omega) (by omega)] at z;cases z
    ·rw [fK (by omega)]
     have:=D'.dn i (lo+x - 1) a (by omega) (by omega) (by omega)
     rw [gy] at this
     exact (P.of_lt hl).trans this
   ·rw [if_neg he]
    have:e=0:=by omega
    subst this
    refine wpS_pure ⟨0,_,rfl,h',Fin.add (b:=lo+x) D'.uV gx (by omega) fun i a b=>?_⟩
    by_cases c:i=lo+x - 1
    ·subst c;rw [gy];exact .inl hl
    ·have:=D'.dn i (lo+x - 1) a (by omega) (by omega) (by omega)
     rw [gy] at this
     exact (P.of_lt hl).trans this
  case false=>
   simp only [Bool.false_eq_true,if_false]
   refine wpS_bind (lB C h' (by omega) (by omega) ?_)
   rw [gx,gy]
   cases hg:o.lt (lo+x - 1) (lo+x)
   case true=>
    simp only [if_true]
    exact wpS_pure (q x e g' st' h' (by omega) (by omega) D')
   case false=>
    simp only [Bool.false_eq_true,if_false]
    refine wpS_pure ⟨e+1,g',rfl,h',?_⟩
    have eq1:∀ i,lo+x - (e+1)<=i->i < lo+x->o.lt i (lo+x)=false/\o.lt (lo+x) i=false:=fun i a b=>by
     constructor
     ·cases z:o.lt i (lo+x) with
      | false=>rfl
      | true=>
       rcases o.neg _ (lo+x - 1) _ z with y | y
       ·rw [D'.al _ _ a b (by omega) (by omega)] at y;cases y
       ·rw [hg] at y;cases y
     ·cases z:o.lt (lo+x) i with
      | false=>rfl
      | true=>
       rcases o.neg _ (lo+x - 1) _ z with y | y
       ·rw [hl] at y;cases y
       ·rw [D'.al _ _ (by omega) (by omega) a b] at y;cases y
    exact {
     out:=fun i hi=>D'.out i (by omega)
     cl:=fun i a b=>by
      by_cases c:i=lo+x
      ·subst c;omega
      ·have:=D'.cl i a (by omega);omega
     few:=by omega
     dn:=fun i j a b c d=>by
      by_cases z:j=lo+x
      ·subst z
       rw [gx]
       have y:=D'.dn i (lo+x - 1) a (by omega) (by omega) (by omega)
       rw [gy] at y
       have gi:=D'.cl i a (by omega)
       rcases y with y | ⟨_,y⟩
       ·rcases o.neg _ (lo+x) _ y with v | v
        ·rw [hg] at v;cases v
        ·exact .inl v
       ·omega
      ·exact D'.dn i j a b (by omega) (by omega)
     id:=fun i a b=>by
      by_cases z:i=lo+x
      ·subst z;exact gx
      ·exact D'.id i (by omega) (by omega)
     al:=fun i j a b c d=>by
      by_cases z:i=lo+x
      ·subst z
       by_cases y:j=lo+x
       ·subst y;exact o.EK _
       ·exact (eq1 j (by omega) (by omega)).2
      ·by_cases y:j=lo+x
       ·subst y;exact (eq1 i (by omega) (by omega)).1
       ·exact D'.al i j (by omega) (by omega) (by omega) (by omega) }
theorem yV (C:qD prog w A s o N f kd) {lo n nrem:Nat} (h:Sg N f kd g p st) (hn:lo+nrem<=N) (han:n+1<=nrem) (D:Dc o g0 g lo (lo+(n+1)) 0) (hid:∀ i,lo<=i->i < lo+nrem->g0 i=i)
  {Q:Option Nat->SortSt->Prop} (q:∀ m g' st',Sg N f kd g' p st'->1<=m->m<=nrem->Rn o g0 g' lo (lo+m)->Q (some m) st'):wpS (model prog w) A E s (Cp lo n nrem) Q st:=by
 unfold Cp
 refine wpS_bind (wpS_lift (wpAny_rule ⟨rfl,?_⟩))
 refine wpS_bind (Jw C h hn (by omega) han D hid fun m e g' st' h' m1 m2 D'=>?_)
 dsimp only
 by_cases he:e > 0
 ·rw [if_pos he]
  obtain ⟨t1,t2,t3,_⟩:=D'.turn
  exact wpS_bind (nT h' (by omega) fun st2 h2=>xg C h2 hn m1 m2 ⟨t1,t2,t3⟩ hid q)
 ·rw [if_neg he]
  have:e=0:=by omega
  subst this
  exact xg C h' hn m1 m2 D'.uV hid q
theorem EV (C:qD prog w A s o N f kd) {lo nrem:Nat} (h:Sg N f kd g p st) (hn:lo+nrem<=N) (h1:1<=nrem) (hid:∀ i,lo<=i->i < lo+nrem->g i=i)
  {Q:Option Nat->SortSt->Prop} (q:∀ m g' st',Sg N f kd g' p st'->1<=m->m<=nrem->Rn o g g' lo (lo+m)->Q (some m) st'):wpS (model prog w) A E s (countRun' lo nrem) Q st:=by
 rw [count_eq]
 refine wpS_bind (Ci C h hn (Nat.le_refl 1) h1 (g0:=g) ⟨fun _ _=>rfl,fun i a b=>?_,fun i j a b c=>by omega⟩ (fun i a b=>hid i (by omega) b) fun n n1 n2 R hor=>?_)
 ·have:i=lo:=by omega
  subst this
  rw [hid i (Nat.le_refl _) (by omega)];omega
 dsimp only
 by_cases hnn:n=nrem
 ·rw [if_pos (by simpa using hnn)]
  exact wpS_pure (q n g st h n1 n2 R)
 ·rw [if_neg (by simpa using hnn)]
  have hlt:=hor.resolve_left hnn
  rw [hid (lo+n - 1) (by omega) (by omega)] at hlt
  have gn:g (lo+n)=lo+n:=hid _ (by omega) (by omega)
  by_cases hgt:n > 1
  ·rw [if_pos hgt]
   refine wpS_bind (lB C h (by omega) (by omega) ?_)
   rw [hid lo (by omega) (by omega),hid (lo+n - 1) (by omega) (by omega)]
   cases hr:o.lt lo (lo+n - 1)
   case true=>
    simp only [if_true]
    exact wpS_pure (q n g st h n1 n2 R)
   case false=>
    simp only [Bool.false_eq_true,if_false]
    have id':∀ i,lo<=i->i < lo+n->g i=i:=fun i a b=>hid i a (by omega)
    have pp:∀ i j,lo<=i->i < j->j < lo+n->o.lt i j=false/\o.lt j i=false:=fun i j a b c=>by
     have r:=R.so i j a b c
     rw [id' i a (by omega),id' j (by omega) c] at r
     refine ⟨?_,r.ge⟩
     cases z:o.lt i j with
     | false=>rfl
     | true=>
      rcases o.neg _ lo _ z with y | y
      ·by_cases x:i=lo
       ·subst x;rw [o.EK] at y;cases y
       ·have r2:=R.so lo i (by omega) (by omega) (by omega)
        rw [id' i a (by omega),id' lo (by omega) (by omega)] at r2
        rw [r2.ge] at y;cases y
      ·rcases o.neg _ (lo+n - 1) _ y with x | x
       ·rw [hr] at x;cases x
       ·by_cases v:j=lo+n - 1
        ·subst v;rw [o.EK] at x;cases x
        ·have r2:=R.so j (lo+n - 1) (by omega) (by omega) (by omega)
         rw [id' j (by omega) c,id' (lo+n - 1) (by omega) (by omega)] at r2
         rw [r2.ge] at x;cases x
    refine wpS_bind (nT h (by omega) fun st2 h2=>yV C h2 hn (by omega) ?_ hid q)
    have rin:∀ i,lo<=i->i < lo+n->rev g lo (lo+n) i=lo+(lo+n) - 1 - i:=fun i a b=>by rw [o9 a b];exact id' _ (by omega) (by omega)
    refine Fin.add (b:=lo+n) ⟨fun i hi=>fK hi,fun i a b=>by rw [rin i a b];omega,fun i j a b c=>?_⟩ (by rw [fK (by omega)];exact gn) (by omega) fun i a b=>?_
    ·rw [rin i a (by omega),rin j (by omega) c]
     exact P.nk (pp _ _ (by omega) (by omega) (by omega)).2 (by omega)
    ·rw [rin i a b]
     by_cases x:lo+(lo+n) - 1 - i=lo+n - 1
     ·rw [x];exact .inl hlt
     ·rcases o.neg _ (lo+(lo+n) - 1 - i) _ hlt with z | z
      ·exact .inl z
      ·rw [(pp _ _ (by omega) (by omega) (by omega)).1] at z;cases z
  ·rw [if_neg hgt]
   have:n=1:=by omega
   subst this
   refine yV C h hn (by omega) ?_ hid q
   refine Fin.add (b:=lo+1) ⟨fun i hi=>rfl,R.cl,fun i j a b c=>by omega⟩ gn (by omega) fun i a b=>?_
   have:i=lo:=by omega
   subst this
   rw [hid i (by omega) (by omega)]
   rw [show i+1 - 1=i by omega] at hlt
   exact .inl hlt
end
noncomputable def dF:Bool->Keyed->Array Keyed->Nat->Nat->Nat->StateT SortSt Sem (Option Nat):=sortPriv% PySem.Builtin.gallop
noncomputable def IM (ask:Nat->StateT SortSt Sem (Option Bool)) (n at0:Nat):StateT SortSt Sem (Option Nat):=do
 let mut was:=0
 let mut far:=1
 let mut low:=0
 let mut top:=0
 let some yes <- ask at0 | return none
 if yes then
  let most:=n - at0
  for _ in [0:n] do
   if far>=most then break
   let some ok <- ask (at0+far) | return none
   if !ok then break
   was:=far
   far:=2 * far+1
  low:=at0+was+1
  top:=at0+min far most
 else
  let most:=at0+1
  for _ in [0:n] do
   if far>=most then break
   let some hit <- ask (at0 - far) | return none
   if hit then break
   was:=far
   far:=2 * far+1
  low:=at0+1 - min far most
  top:=at0 - was
 for _ in [0:n] do
  if low>=top then break
  let m:=low+(top - low) / 2
  let some ok <- ask m | return none
  if ok then low:=m+1 else top:=m
 return some top
theorem qu (left:Bool) (key:Keyed) (arr:Array Keyed) (base n hint:Nat):dF left key arr base n hint=IM (fun i=>do
  let x <- elem' arr (base+i)
  if left then lt' x key else return (<- lt' key x).map (!·)) n hint:=rfl
section
variable {prog:Program} {w:World} {A:Around} {E:Value->Shared->Prop} {s:Shared} {st:SortSt}
noncomputable def My (be:Nat->StateT SortSt Sem (Option Bool)) (n l0 h0:Nat):StateT SortSt Sem (Option Nat):=do
 let mut low:=l0
 let mut top:=h0
 for _ in [0:n] do
  if low>=top then break
  let m:=low+(top - low) / 2
  let some ok <- be m | return none
  if ok then low:=m+1 else top:=m
 return some top
theorem HH {be:Nat->StateT SortSt Sem (Option Bool)} {n l0 h0:Nat} (b:Nat->Bool) (hbe:∀ i,i < n->∀ Q:Option Bool->SortSt->Prop,Q (some (b i)) st->wpS (model prog w) A E s (be i) Q st) (hb:∀ i j,i<=j->j < n->b j=true->b i=true)
  (hlh:l0<=h0) (hn:h0<=n) (hl:∀ i,i < l0->b i=true) (hh:∀ i,h0<=i->i < n->b i=false)
  {Q:Option Nat->SortSt->Prop} (q:∀ k,k<=n->(∀ i,i < k->b i=true)->(∀ i,k<=i->i < n->b i=false)->Q (some k) st):wpS (model prog w) A E s (My be n l0 h0) Q st:=by
 unfold My
 refine wpS_bind (wpS_mono (wpS_forRange (I:=fun x c st'=>st'=st/\∃ lo hi,c=(none,lo,hi)/\lo<=hi/\hi<=n/\hi - lo<=n - x/\(∀ i,i < lo->b i=true)/\(∀ i,hi<=i->i < n->b i=false))
  (Q:=fun c st'=>st'=st/\∃ k,c=(none,k,k)/\k<=n/\(∀ i,i < k->b i=true)/\(∀ i,k<=i->i < n->b i=false)) ?step ?fin ⟨rfl,l0,h0,rfl,hlh,hn,by omega,hl,hh⟩) ?post)
 case post=>
  rintro c st' ⟨rfl,k,rfl,h1,h2,h3⟩
  exact wpS_pure (q k h1 h2 h3)
 case fin=>
  rintro c st' ⟨rfl,lo,hi,rfl,h1,h2,h3,h4,h5⟩
  have:lo=hi:=by omega
  subst this
  exact ⟨rfl,lo,rfl,h2,h4,h5⟩
 case step=>
  rintro x c st' _ hx ⟨rfl,lo,hi,rfl,h1,h2,h3,h4,h5⟩
  dsimp only
  by_cases hge:lo>=hi
  ·rw [if_pos hge]
   have:lo=hi:=by omega
   subst this
   exact wpS_pure ⟨rfl,lo,rfl,h2,h4,h5⟩
  ·rw [if_neg hge]
   have hm:lo+(hi - lo) / 2 < hi:=by omega
   obtain ⟨m,hm'⟩:∃ m,m=lo+(hi - lo) / 2:=⟨_,rfl⟩
   rw [<- hm'] at hm ⊢
   refine wpS_bind (hbe m (by omega) _ ?_)
   cases hv:b m
   ·simp only [Bool.false_eq_true,if_false]
    refine wpS_pure ⟨rfl,lo,m,rfl,by omega,by omega,by omega,h4,fun i a c=>?_⟩
    cases z:b i with
    | false=>rfl
    | true=>rw [hb m i a c z] at hv;cases hv
   ·simp only [if_true]
    exact wpS_pure ⟨rfl,m+1,hi,rfl,by omega,h2,by omega,fun i a=>hb i m (by omega) (by omega) hv,h5⟩
theorem zz {be:Nat->StateT SortSt Sem (Option Bool)} {n hint:Nat} (b:Nat->Bool) (hbe:∀ i,i < n->∀ Q:Option Bool->SortSt->Prop,Q (some (b i)) st->wpS (model prog w) A E s (be i) Q st) (hb:∀ i j,i<=j->j < n->b j=true->b i=true) (hh:hint < n)
  {Q:Option Nat->SortSt->Prop} (q:∀ k,k<=n->(∀ i,i < k->b i=true)->(∀ i,k<=i->i < n->b i=false)->Q (some k) st):wpS (model prog w) A E s (IM be n hint) Q st:=by
 unfold IM
 have hb':∀ i j,i<=j->j < n->b i=false->b j=false:=fun i j a c d=>by
  cases z:b j with
  | false=>rfl
  | true=>rw [hb i j a c z] at d;cases d
 refine wpS_bind (hbe hint hh _ ?_)
 cases hr:b hint
 ·dsimp only
  simp only [Bool.false_eq_true,if_false]
  refine wpS_bind (wpS_mono (wpS_forRange (I:=fun x c st'=>st'=st/\∃ l u,c=(none,l,u)/\x+1<=u/\l < u/\l<=hint/\b (hint - l)=false)
   (Q:=fun c st'=>st'=st/\∃ l u,c=(none,l,u)/\l < u/\l<=hint/\b (hint - l)=false/\(u>=hint+1\/b (hint - u)=true)) ?step ?fin ⟨rfl,0,1,rfl,by omega,by omega,by omega,hr⟩) ?post)
  case post=>
   rintro c st' ⟨rfl,l,u,rfl,h1,h2,h3,h4⟩
   dsimp only
   refine (HH b hbe hb (l0:=hint+1 - min u (hint+1)) (h0:=hint - l) (by omega) (by omega) (fun i a=>?_) (fun i a c=>hb' _ _ a c h3) q:wpS (model prog w) A E s (My be n _ _) Q st')
   rcases h4 with h4 | h4
   ·omega
   ·exact hb i (hint - u) (by omega) (by omega) h4
  case fin=>
   rintro c st' ⟨rfl,l,u,rfl,h1,h2,h3,h4⟩
   exact ⟨rfl,l,u,rfl,h2,h3,h4,.inl (by omega)⟩
  case step=>
   rintro x c st' _ hx ⟨rfl,l,u,rfl,h1,h2,h3,h4⟩
   dsimp only
   by_cases hge:u>=hint+1
   ·rw [if_pos hge]
    exact wpS_pure ⟨rfl,l,u,rfl,h2,h3,h4,.inl hge⟩
   ·rw [if_neg hge]
    refine wpS_bind (hbe _ (by omega) _ ?_)
    cases hv:b (hint - u)
    ·simp only [Bool.false_eq_true,if_false]
     exact wpS_pure ⟨rfl,u,2 * u+1,rfl,by omega,by omega,by omega,hv⟩
    ·simp only [if_true]
     exact wpS_pure ⟨rfl,l,u,rfl,h2,h3,h4,.inr hv⟩
 ·dsimp only
  simp only [if_true]
  refine wpS_bind (wpS_mono (wpS_forRange (I:=fun x c st'=>st'=st/\∃ l u,c=(none,l,u)/\x+1<=u/\l < u/\hint+l < n/\b (hint+l)=true)
   (Q:=fun c st'=>st'=st/\∃ l u,c=(none,l,u)/\l < u/\hint+l < n/\b (hint+l)=true/\(u>=n - hint\/b (hint+u)=false)) ?step2 ?fin2 ⟨rfl,0,1,rfl,by omega,by omega,by omega,hr⟩) ?post2)
  case post2=>
   rintro c st' ⟨rfl,l,u,rfl,h1,h2,h3,h4⟩
   dsimp only
   refine (HH b hbe hb (l0:=hint+l+1) (h0:=hint+min u (n - hint)) (by omega) (by omega) (fun i a=>hb i _ (by omega) h2 h3) (fun i a c=>?_) q:wpS (model prog w) A E s (My be n _ _) Q st')
   rcases h4 with h4 | h4
   ·omega
   ·exact hb' (hint+u) i (by omega) c h4
  case fin2=>
   rintro c st' ⟨rfl,l,u,rfl,h1,h2,h3,h4⟩
   exact ⟨rfl,l,u,rfl,h2,h3,h4,.inl (by omega)⟩
  case step2=>
   rintro x c st' _ hx ⟨rfl,l,u,rfl,h1,h2,h3,h4⟩
   dsimp only
   by_cases hge:u>=n - hint
   ·rw [if_pos hge]
    exact wpS_pure ⟨rfl,l,u,rfl,h2,h3,h4,.inl hge⟩
   ·rw [if_neg hge]
    refine wpS_bind (hbe _ (by omega) _ ?_)
    cases hv:b (hint+u)
    ·simp only [Bool.not_false,if_true]
     exact wpS_pure ⟨rfl,l,u,rfl,h2,h3,h4,.inr hv⟩
    ·simp only [Bool.not_true,Bool.false_eq_true,if_false]
     exact wpS_pure ⟨rfl,u,2 * u+1,rfl,by omega,by omega,by omega,hv⟩
end
section
variable {prog:Program} {w:World} {A:Around} {E:Value->Shared->Prop} {s:Shared} {o:Ord} {N:Nat} {f:Nat->Keyed} {kd:SortKind} {st:SortSt}
theorem EO (C:qD prog w A s o N f kd) (hk:kindOf st=kd) {key base n hint:Nat} {arr:Array Keyed} {h:Nat->Nat} (ha:∀ i,i < n->arr[base+i]?=some (f (h i))) (hN:∀ i,i < n->h i < key) (hkN:key < N) (so:So o h 0 n) (hh:hint < n)
  {Q:Option Nat->SortSt->Prop} (q:∀ k,k<=n->(∀ i,i < k->P o (h i) key)->(∀ i,k<=i->i < n->P o key (h i))->Q (some k) st):wpS (model prog w) A E s (dF false (f key) arr base n hint) Q st:=by
 rw [qu]
 refine zz (fun i=>!o.lt key (h i)) (fun i hi Q' q'=>?_) (fun i j a b c=>?_) hh fun k h1 h2 h3=>q k h1 (fun i a=>?_) fun i a b=>?_
 ·refine wpS_bind (bw (ha i hi) ?_)
  simp only [Bool.false_eq_true,if_false]
  exact wpS_bind (oU C hk hkN (by have:=hN i hi;omega) (wpS_pure q'))
 ·by_cases z:i=j
  ·subst z;exact c
  ·have r:=so i j (Nat.zero_le _) (by omega) b
   have c':o.lt key (h j)=false:=by simpa using c
   cases e:o.lt key (h i) with
   | false=>rfl
   | true=>
    have:=(P.of_lt e).trans r
    rw [this.lt (hN j b)] at c';cases c'
 ·have:=h2 i a
  exact P.nk (by simpa using this) (hN i (by omega))
 ·have:=h3 i a b
  exact .inl (by simpa using this)
theorem CF (C:qD prog w A s o N f kd) (hk:kindOf st=kd) {key base n hint:Nat} {arr:Array Keyed} {h:Nat->Nat} (ha:∀ i,i < n->arr[base+i]?=some (f (h i))) (hN:∀ i,i < n->key < h i/\h i < N) (so:So o h 0 n) (hh:hint < n)
  {Q:Option Nat->SortSt->Prop} (q:∀ k,k<=n->(∀ i,i < k->P o (h i) key)->(∀ i,k<=i->i < n->P o key (h i))->Q (some k) st):wpS (model prog w) A E s (dF true (f key) arr base n hint) Q st:=by
 rw [qu]
 refine zz (fun i=>o.lt (h i) key) (fun i hi Q' q'=>?_) (fun i j a b c=>?_) hh fun k h1 h2 h3=>q k h1 (fun i a=>?_) fun i a b=>?_
 ·refine wpS_bind (bw (ha i hi) ?_)
  simp only [if_true]
  exact oU C hk (hN i hi).2 (by have:=hN i hi;omega) q'
 ·by_cases z:i=j
  ·subst z;exact c
  ·have r:=so i j (Nat.zero_le _) (by omega) b
   exact (r.trans (P.of_lt c)).lt (hN i (by omega)).1
 ·exact .inl (h2 i a)
 ·exact P.nk (h3 i a b) (hN i b).1
end
noncomputable def oH:Array Keyed->Array Keyed->StateT SortSt Sem (Array Keyed):=sortPriv% PySem.Builtin.mergeLo
noncomputable def oZ:Array Keyed->Array Keyed->StateT SortSt Sem (Array Keyed):=sortPriv% PySem.Builtin.mergeHi
noncomputable def nu:Nat->StateT SortSt Sem Unit:=sortPriv% PySem.Builtin.setMinGallop
theorem FA (m:Nat):nu m=modify fun s=>SortSt.mk' (kindOf s) (arrOf s) (pendingOf s) m (failedOf s):=rfl
theorem vU (a b:Array Keyed):oH a b=(do
 rule "list.sort.merge-lo"
 let all_:=a.size+b.size
 let end1 (acc:Array Keyed) (p q:Nat):=acc++a.extract p a.size++b.extract q b.size
 let end2 (acc:Array Keyed) (p q:Nat):=acc++b.extract q b.size++a.extract p a.size
 let mut acc:Array Keyed:=#[<- elem' b 0]
 let mut p:=0
 let mut q:=1
 if q == b.size then return end1 acc p q
 if p+1 == a.size then return end2 acc p q
 let mut mg:=gallopOf (<- get)
 for _ in [0:all_] do
  let mut ca:=0
  let mut cb:=0
  for _ in [0:all_] do
   let some won <- lt' (<- elem' b q) (<- elem' a p) | return end1 acc p q
   if won then
    acc:=acc.push (<- elem' b q);q:=q+1;cb:=cb+1;ca:=0
    if q == b.size then return end1 acc p q
    if cb>=mg then break
   else
    acc:=acc.push (<- elem' a p);p:=p+1;ca:=ca+1;cb:=0
    if p+1 == a.size then return end2 acc p q
    if ca>=mg then break
  rule "list.sort.gallop"
  mg:=mg+1
  for _ in [0:all_] do
   if mg > 1 then mg:=mg - 1
   nu mg
   let some k <- dF false (<- elem' b q) a p (a.size - p) 0 | return end1 acc p q
   ca:=k
   if k > 0 then
    acc:=acc++a.extract p (p+k);p:=p+k
    if p+1 == a.size then return end2 acc p q
    if p == a.size then return end1 acc p q
   acc:=acc.push (<- elem' b q);q:=q+1
   if q == b.size then return end1 acc p q
   let some k <- dF true (<- elem' a p) b q (b.size - q) 0 | return end1 acc p q
   cb:=k
   if k > 0 then
    acc:=acc++b.extract q (q+k);q:=q+k
    if q == b.size then return end1 acc p q
   acc:=acc.push (<- elem' a p);p:=p+1
   if p+1 == a.size then return end2 acc p q
   if ca < 7 && cb < 7 then break
  mg:=mg+1
  nu mg
 unsupported "internal:list.sort.merge-bound"):=rfl
section
variable {o:Ord} {N:Nat} {f:Nat->Keyed} {A B hs:List Nat} {ia ib:Nat}
noncomputable def fa (f:Nat->Keyed) (l:List Nat):Array Keyed:=(l.map f).toArray
theorem j5 (l:List Nat):(fa f l).size=l.length:=by unfold fa;rw [List.size_toArray,List.length_map]
theorem Dv (l:List Nat) (i:Nat):(fa f l)[i]?=(l[i]?).map f:=by unfold fa;rw [List.getElem?_toArray,List.getElem?_map]
theorem dN {l:List Nat} {i x:Nat} (h:l[i]?=some x):(fa f l)[i]?=some (f x):=by rw [Dv,h];rfl
theorem lS (l:List Nat) (x:Nat):(fa f l).push (f x)=fa f (l++[x]):=by
 unfold fa;rw [List.push_toArray,List.map_append];rfl
theorem gv (l m:List Nat):fa f l++fa f m=fa f (l++m):=by
 unfold fa;rw [List.append_toArray,List.map_append]
theorem m_ (l:List Nat) (i j:Nat):(fa f l).extract i j=fa f ((l.drop i).take (j - i)):=by
 unfold fa;rw [List.extract_toArray,List.extract_eq_take_drop,List.map_take,List.map_drop]
theorem nR (l:List Nat) (i:Nat):(fa f l).extract i l.length=fa f (l.drop i):=by
 rw [m_,List.take_of_length_le (by rw [List.length_drop];omega)]
structure Ab (o:Ord) (N:Nat) (A B:List Nat):Prop where
 sa:A.Pairwise (P o)
 sb:B.Pairwise (P o)
 lt:∀ x∈A,∀ y∈B,x < y
 nb:∀ y∈B,y < N
 na:∀ x∈A,x < N
structure Mg (o:Ord) (A B hs:List Nat) (ia ib:Nat):Prop where
 la:ia<=A.length
 lb:ib<=B.length
 len:hs.length=ia+ib
 so:hs.Pairwise (P o)
 mem:∀ x∈hs,x∈A\/x∈B
 ua:∀ x∈hs,∀ y∈A.drop ia,P o x y
 ub:∀ x∈hs,∀ y∈B.drop ib,P o x y
noncomputable def Res (o:Ord) (f:Nat->Keyed) (A B:List Nat) (out:Array Keyed):Prop:=∃ hs:List Nat,out=fa f hs/\hs.length=A.length+B.length/\hs.Pairwise (P o)/\∀ x∈hs,x∈A\/x∈B
theorem jB {l:List Nat} (h:l.Pairwise (P o)) {i j x y:Nat} (hx:l[i]?=some x) (hy:l[j]?=some y) (hij:i < j):P o x y:=by
 obtain ⟨h1,e1⟩:=List.getElem?_eq_some_iff.mp hx
 obtain ⟨h2,e2⟩:=List.getElem?_eq_some_iff.mp hy
 rw [<- e1,<- e2]
 exact List.pairwise_iff_getElem.mp h i j h1 h2 hij
theorem l_ {l:List Nat} {i y:Nat} (h:y∈l.drop i):∃ j,i<=j/\l[j]?=some y:=by
 obtain ⟨k,hk⟩:=List.getElem?_of_mem h
 rw [List.getElem?_drop] at hk
 exact ⟨i+k,by omega,hk⟩
theorem Mg.nq (ab:Ab o N A B) (m:Mg o A B hs ia ib) {x:Nat} (hx:A[ia]?=some x) (h:∀ y∈B.drop ib,P o x y):Mg o A B (hs++[x]) (ia+1) ib:=by
 obtain ⟨h1,e1⟩:=List.getElem?_eq_some_iff.mp hx
 have hd:A.drop ia=x::A.drop (ia+1):=by rw [<- e1];exact List.drop_eq_getElem_cons h1
 refine ⟨by omega,m.lb,by rw [List.length_append,m.len];show ia+ib+1=_;omega,?_,fun z hz=>?_,fun z hz y hy=>?_,fun z hz y hy=>?_⟩
 ·rw [List.pairwise_append]
  exact ⟨m.so,List.pairwise_singleton ..,fun a ha b hb=>by rw [List.mem_singleton.mp hb];exact m.ua a ha x (by rw [hd];exact List.mem_cons_self ..)⟩
 ·rcases List.mem_append.mp hz with z' | z'
  ·exact m.mem z z'
  ·rw [List.mem_singleton.mp z'];exact .inl (List.mem_of_getElem? hx)
 ·rcases List.mem_append.mp hz with z' | z'
  ·exact m.ua z z' y (by rw [hd];exact List.mem_cons_of_mem _ hy)
  ·rw [List.mem_singleton.mp z']
   obtain ⟨j,hj,ej⟩:=l_ hy
   exact jB ab.sa hx ej (by omega)
 ·rcases List.mem_append.mp hz with z' | z'
  ·exact m.ub z z' y hy
  ·rw [List.mem_singleton.mp z'];exact h y hy
theorem Ab.n_ (ab:Ab o N A B) (m:Mg o A B hs ia ib) {x:Nat} (hx:B[ib]?=some x) (h:∀ y∈A.drop ia,P o x y):Mg o A B (hs++[x]) ia (ib+1):=by
 obtain ⟨h1,e1⟩:=List.getElem?_eq_some_iff.mp hx
 have hd:B.drop ib=x::B.drop (ib+1):=by rw [<- e1];exact List.drop_eq_getElem_cons h1
 refine ⟨m.la,by omega,by rw [List.length_append,m.len];rfl,?_,fun z hz=>?_,fun z hz y hy=>?_,fun z hz y hy=>?_⟩
 ·rw [List.pairwise_append]
  exact ⟨m.so,List.pairwise_singleton ..,fun a ha b hb=>by rw [List.mem_singleton.mp hb];exact m.ub a ha x (by rw [hd];exact List.mem_cons_self ..)⟩
 ·rcases List.mem_append.mp hz with z' | z'
  ·exact m.mem z z'
  ·rw [List.mem_singleton.mp z'];exact .inr (List.mem_of_getElem? hx)
 ·rcases List.mem_append.mp hz with z' | z'
  ·exact m.ua z z' y hy
  ·rw [List.mem_singleton.mp z'];exact h y hy
 ·rcases List.mem_append.mp hz with z' | z'
  ·exact m.ub z z' y (by rw [hd];exact List.mem_cons_of_mem _ hy)
  ·rw [List.mem_singleton.mp z']
   obtain ⟨j,hj,ej⟩:=l_ hy
   exact jB ab.sb hx ej (by omega)
theorem iG {l:List Nat} (h:l.Pairwise (P o)) {i x y:Nat} (hx:l[i]?=some x) (hxy:P o y x):∀ z∈l.drop i,P o y z:=fun z hz=>by
 obtain ⟨j,hj,ej⟩:=l_ hz
 by_cases c:j=i
 ·subst c;rw [hx] at ej;cases ej;exact hxy
 ·exact hxy.trans (jB h hx ej (by omega))
theorem take_snoc {l:List Nat} {i k x:Nat} (h:l[i+k]?=some x):(l.drop i).take (k+1)=(l.drop i).take k++[x]:=by
 have h':(l.drop i)[k]?=some x:=by rw [List.getElem?_drop];exact h
 obtain ⟨h1,e1⟩:=List.getElem?_eq_some_iff.mp h'
 rw [List.take_succ_eq_append_getElem h1,e1]
theorem Mg.pP (ab:Ab o N A B) (m:Mg o A B hs ia ib) {y:Nat} (hy:B[ib]?=some y):∀ k,ia+k<=A.length->(∀ i x,i < k->A[ia+i]?=some x->P o x y)->Mg o A B (hs++(A.drop ia).take k) (ia+k) ib
 | 0,_,_=>by rw [List.take_zero,List.append_nil];exact m
 | k+1,hk,h=>by
  have ih:=Mg.pP ab m hy k (by omega) fun i x hi=>h i x (by omega)
  have hx:A[ia+k]?=some (A[ia+k]'(by omega)):=List.getElem?_eq_getElem _
  rw [take_snoc hx,<- List.append_assoc]
  exact ih.nq ab hx (iG ab.sb hy (h k _ (by omega) hx))
theorem Mg.pU (ab:Ab o N A B) (m:Mg o A B hs ia ib) {y:Nat} (hy:A[ia]?=some y):∀ k,ib+k<=B.length->(∀ i x,i < k->B[ib+i]?=some x->P o x y)->Mg o A B (hs++(B.drop ib).take k) ia (ib+k)
 | 0,_,_=>by rw [List.take_zero,List.append_nil];exact m
 | k+1,hk,h=>by
  have ih:=Mg.pU ab m hy k (by omega) fun i x hi=>h i x (by omega)
  have hx:B[ib+k]?=some (B[ib+k]'(by omega)):=List.getElem?_eq_getElem _
  rw [take_snoc hx,<- List.append_assoc]
  exact ab.n_ ih hx (iG ab.sa hy (h k _ (by omega) hx))
theorem nW {l:List Nat} (h:l.Pairwise (P o)) (i:Nat):(l.drop i).Pairwise (P o):=h.sublist (List.drop_sublist ..)
theorem Mg.fin (ab:Ab o N A B) (m:Mg o A B hs ia ib) (h:∀ x∈A.drop ia,∀ y∈B.drop ib,P o x y):Res o f A B (fa f hs++(fa f A).extract ia A.length++(fa f B).extract ib B.length):=by
 rw [nR,nR,gv,gv]
 have la:=m.la
 have lb:=m.lb
 refine ⟨_,rfl,by rw [List.length_append,List.length_append,m.len,List.length_drop,List.length_drop];omega,?_,fun x hx=>?_⟩
 ·rw [List.pairwise_append,List.pairwise_append]
  refine ⟨⟨m.so,nW ab.sa _,m.ua⟩,nW ab.sb _,fun x hx y hy=>?_⟩
  rcases List.mem_append.mp hx with z | z
  ·exact m.ub x z y hy
  ·exact h x z y hy
 ·rcases List.mem_append.mp hx with z | z
  ·rcases List.mem_append.mp z with z | z
   ·exact m.mem x z
   ·exact .inl (List.mem_of_mem_drop z)
  ·exact .inr (List.mem_of_mem_drop z)
theorem Mg.Iw (ab:Ab o N A B) (m:Mg o A B hs ia ib) (h:∀ x∈A.drop ia,∀ y∈B.drop ib,P o y x):Res o f A B (fa f hs++(fa f B).extract ib B.length++(fa f A).extract ia A.length):=by
 rw [nR,nR,gv,gv]
 have la:=m.la
 have lb:=m.lb
 refine ⟨_,rfl,by rw [List.length_append,List.length_append,m.len,List.length_drop,List.length_drop];omega,?_,fun x hx=>?_⟩
 ·rw [List.pairwise_append,List.pairwise_append]
  refine ⟨⟨m.so,nW ab.sb _,m.ub⟩,nW ab.sa _,fun x hx y hy=>?_⟩
  rcases List.mem_append.mp hx with z | z
  ·exact m.ua x z y hy
  ·exact h y hy x z
 ·rcases List.mem_append.mp hx with z | z
  ·rcases List.mem_append.mp z with z | z
   ·exact m.mem x z
   ·exact .inr (List.mem_of_mem_drop z)
  ·exact .inl (List.mem_of_mem_drop z)
theorem drop_nil {l:List Nat} {i:Nat} (h:l.length<=i):l.drop i=[]:=List.drop_eq_nil_of_le h
theorem xq {l:List Nat} (h:l.Pairwise (P o)) (b n:Nat) (hn:b+n<=l.length):So o (fun i=>l.getD (b+i) 0) 0 n:=fun i j _ hij hj=>
 jB h (i:=b+i) (j:=b+j) (by show _=some (l.getD (b+i) 0);rw [List.getD_eq_getElem?_getD,List.getElem?_eq_getElem (show b+i < l.length by omega)];rfl) (by show _=some (l.getD (b+j) 0);rw [List.getD_eq_getElem?_getD,List.getElem?_eq_getElem (show b+j < l.length by omega)];rfl) (by omega)
theorem getD_at {l:List Nat} {i:Nat} (h:i < l.length):l[i]?=some (l.getD i 0):=by
 rw [List.getD_eq_getElem?_getD,List.getElem?_eq_getElem h];rfl
end
structure Sm (st st':SortSt):Prop where
 a:arrOf st'=arrOf st
 k:kindOf st'=kindOf st
 p:pendingOf st'=pendingOf st
 f:failedOf st'=failedOf st
theorem Sm.refl {st:SortSt}:Sm st st:=⟨rfl,rfl,rfl,rfl⟩
theorem Sm.trans {st st' st'':SortSt} (a:Sm st st') (b:Sm st' st''):Sm st st'':=⟨b.a.trans a.a,b.k.trans a.k,b.p.trans a.p,b.f.trans a.f⟩
noncomputable abbrev G:=Option (Array Keyed)×Array Keyed×Nat×Nat×Nat×Nat×Nat
noncomputable def T3 (a b out:Array Keyed) (ia ib mg ac bc:Nat):StateT SortSt Sem (ForInStep G):=do
 let x <- elem' a ia
 if (ia+1+1 == a.size)=true then pure (ForInStep.done (some (out.push x++b.extract ib b.size++a.extract (ia+1) a.size),out.push x,ia+1,ib,mg,ac,bc))
 else if (decide (ac < 7) && decide (bc < 7))=true then pure (ForInStep.done (none,out.push x,ia+1,ib,mg,ac,bc))
 else pure (ForInStep.yield (none,out.push x,ia+1,ib,mg,ac,bc))
noncomputable def T2 (a b out:Array Keyed) (ia ib mg ac bc:Nat):StateT SortSt Sem (ForInStep G):=do
 let x <- elem' b ib
 if (ib+1 == b.size)=true then pure (ForInStep.done (some (out.push x++a.extract ia a.size++b.extract (ib+1) b.size),out.push x,ia,ib+1,mg,ac,bc))
 else
  let y <- elem' a ia
  let r <- dF true y b (ib+1) (b.size - (ib+1)) 0
  match r with
  | some k=>
   if k > 0 then
    if (ib+1+k == b.size)=true then pure (ForInStep.done (some (out.push x++b.extract (ib+1) (ib+1+k)++a.extract ia a.size++b.extract (ib+1+k) b.size),out.push x++b.extract (ib+1) (ib+1+k),ia,ib+1+k,mg,ac,k))
    else T3 a b (out.push x++b.extract (ib+1) (ib+1+k)) ia (ib+1+k) mg ac k
   else T3 a b (out.push x) ia (ib+1) mg ac k
  | _=>pure (ForInStep.done (some (out.push x++a.extract ia a.size++b.extract (ib+1) b.size),out.push x,ia,ib+1,mg,ac,bc))
noncomputable def T1 (a b out:Array Keyed) (ia ib mg ac bc:Nat):StateT SortSt Sem (ForInStep G):=do
 nu mg
 let x <- elem' b ib
 let r <- dF false x a ia (a.size - ia) 0
 match r with
 | some k=>
  if k > 0 then
   if (ia+k+1 == a.size)=true then pure (ForInStep.done (some (out++a.extract ia (ia+k)++b.extract ib b.size++a.extract (ia+k) a.size),out++a.extract ia (ia+k),ia+k,ib,mg,k,bc))
   else if (ia+k == a.size)=true then pure (ForInStep.done (some (out++a.extract ia (ia+k)++a.extract (ia+k) a.size++b.extract ib b.size),out++a.extract ia (ia+k),ia+k,ib,mg,k,bc))
   else T2 a b (out++a.extract ia (ia+k)) (ia+k) ib mg k bc
  else T2 a b out ia ib mg k bc
 | _=>pure (ForInStep.done (some (out++a.extract ia a.size++b.extract ib b.size),out,ia,ib,mg,ac,bc))
section
variable {prog:Program} {w:World} {A:Around} {E:Value->Shared->Prop} {s:Shared} {o:Ord} {N:Nat} {f:Nat->Keyed} {kd:SortKind} {st st0:SortSt} {X Y hs:List Nat} {ia ib:Nat}
theorem lU {m:Nat} (h:Sm st0 st) {Q:Unit->SortSt->Prop} (q:∀ st',Sm st0 st'->Q () st'):wpS (model prog w) A E s (nu m) Q st:=by
 rw [FA];exact wpS_modify (q _ (h.trans ⟨rfl,rfl,rfl,rfl⟩))
noncomputable def On (o:Ord) (f:Nat->Keyed) (X Y:List Nat) (n:Nat) (hs:List Nat) (ia ib:Nat):Prop:=Mg o X Y hs ia ib/\ia+1 < X.length/\ib < Y.length/\n<=ia+ib
noncomputable def G2 (o:Ord) (f:Nat->Keyed) (X Y:List Nat) (n:Nat) (st0:SortSt):ForInStep G->SortSt->Prop:=fun r st'=>Sm st0 st'/\match r with
 | .done c=>(∃ r z,c=(some r,z)/\Res o f X Y r)\/∃ hs ia ib mg ac bc,c=(none,fa f hs,ia,ib,mg,ac,bc)/\On o f X Y n hs ia ib
 | .yield c=>∃ hs ia ib mg ac bc,c=(none,fa f hs,ia,ib,mg,ac,bc)/\On o f X Y n hs ia ib
noncomputable def Top (o:Ord) (X Y:List Nat):Prop:=∀ i x,X[i]?=some x->i+1=X.length->∀ y∈Y,P o y x
theorem NQ {α β γ δ κ:Type} {S:Prop} {g:α->β->γ->δ->κ} {O:α->β->γ->δ->Prop} {T:κ->Prop} (k:S->∀ a b c d,O a b c d->T (g a b c d)):∀ q,(S/\∃ a b c d,q=g a b c d/\O a b c d)->T q:=by
 rintro q ⟨s,a,b,c,d,rfl,o⟩;exact k s a b c d o
theorem NO {α β γ δ ε κ:Type} {S:Prop} {g:α->β->γ->δ->ε->κ} {O:α->β->γ->δ->ε->Prop} {T:κ->Prop} (k:S->∀ a b c d e,O a b c d e->T (g a b c d e)):∀ q,(S/\∃ a b c d e,q=g a b c d e/\O a b c d e)->T q:=by
 rintro q ⟨s,a,b,c,d,e,rfl,o⟩;exact k s a b c d e o
theorem NG {α β γ δ ε ζ κ:Type} {S:Prop} {g:α->β->γ->δ->ε->ζ->κ} {O:α->β->γ->δ->ε->ζ->Prop} {T:κ->Prop} (k:S->∀ a b c d e f,O a b c d e f->T (g a b c d e f)):∀ q,(S/\∃ a b c d e f,q=g a b c d e f/\O a b c d e f)->T q:=by
 rintro q ⟨s,a,b,c,d,e,f,rfl,o⟩;exact k s a b c d e f o
theorem NU {α β γ δ ε κ ρ σ:Type} {S:Prop} {j:ρ->σ->κ} {R:ρ->Prop} {g:α->β->γ->δ->ε->κ} {O:α->β->γ->δ->ε->Prop} {T:κ->Prop} (k1:S->∀ r z,R r->T (j r z)) (k:S->∀ a b c d e,O a b c d e->T (g a b c d e)):∀ q,(S/\((∃ r z,q=j r z/\R r)\/∃ a b c d e,q=g a b c d e/\O a b c d e))->T q:=by
 rintro q ⟨s,⟨r,z,rfl,hr⟩ | ⟨a,b,c,d,e,rfl,o⟩⟩
 ·exact k1 s r z hr
 ·exact k s a b c d e o
theorem ND {α β γ δ ε ζ κ ρ σ:Type} {S:Prop} {j:ρ->σ->κ} {R:ρ->Prop} {g:α->β->γ->δ->ε->ζ->κ} {O:α->β->γ->δ->ε->ζ->Prop} {T:κ->Prop} (k1:S->∀ r z,R r->T (j r z)) (k:S->∀ a b c d e f,O a b c d e f->T (g a b c d e f)):∀ q,(S/\((∃ r z,q=j r z/\R r)\/∃ a b c d e f,q=g a b c d e f/\O a b c d e f))->T q:=by
 rintro q ⟨s,⟨r,z,rfl,hr⟩ | ⟨a,b,c,d,e,f,rfl,o⟩⟩
 ·exact k1 s r z hr
 ·exact k s a b c d e f o
theorem lZ (ab:Ab o N X Y) (tp:Top o X Y) (m:Mg o X Y hs ia ib) (h:ia+1=X.length):Res o f X Y (fa f hs++(fa f Y).extract ib Y.length++(fa f X).extract ia X.length):=
 m.Iw ab fun x hx y hy=>by
  obtain ⟨j,hj,ej⟩:=l_ hx
  have:=(List.getElem?_eq_some_iff.mp ej).1
  exact tp j x ej (by omega) y (List.mem_of_mem_drop hy)
theorem Hi (ab:Ab o N X Y) (tp:Top o X Y) (hm:Sm st0 st) {n mg ac bc x y:Nat} (m:Mg o X Y hs ia ib) (ha:ia+1 < X.length) (hb:ib < Y.length) (hn:n<=ia+ib) (hx:X[ia]?=some x) (hy:Y[ib]?=some y) (hxy:P o x y) :
  wpS (model prog w) A E s (T3 (fa f X) (fa f Y) (fa f hs) ia ib mg ac bc) (G2 o f X Y n st0) st:=by
 unfold T3
 simp only [j5]
 refine wpS_bind (bw (dN hx) ?_)
 have m2:=m.nq ab hx (iG ab.sb hy hxy)
 rw [lS]
 by_cases c:ia+1+1=X.length
 ·rw [if_pos (by rw [c];exact beq_self_eq_true _)]
  exact wpS_pure ⟨hm,.inl ⟨_,_,rfl,lZ ab tp m2 c⟩⟩
 ·rw [if_neg (by simpa using c)]
  by_cases c2:(decide (ac < 7) && decide (bc < 7))=true
  ·rw [if_pos c2]
   exact wpS_pure ⟨hm,.inr ⟨_,_,_,_,_,_,rfl,m2,by omega,hb,by omega⟩⟩
  ·rw [if_neg c2]
   exact wpS_pure ⟨hm,⟨_,_,_,_,_,_,rfl,m2,by omega,hb,by omega⟩⟩
theorem HM (C:qD prog w A s o N f kd) (hk:kindOf st=kd) (ab:Ab o N X Y) (tp:Top o X Y) (hm:Sm st0 st) {n mg ac bc x y:Nat} (m:Mg o X Y hs ia ib) (ha:ia+1 < X.length) (hb:ib < Y.length) (hn:n<=ia+ib) (hx:X[ia]?=some x) (hy:Y[ib]?=some y) (hxy:P o y x) :
  wpS (model prog w) A E s (T2 (fa f X) (fa f Y) (fa f hs) ia ib mg ac bc) (G2 o f X Y n st0) st:=by
 unfold T2
 simp only [j5]
 refine wpS_bind (bw (dN hy) ?_)
 have m2:=ab.n_ m hy (iG ab.sa hx hxy)
 rw [lS]
 by_cases c:ib+1=Y.length
 ·rw [if_pos (by rw [c];exact beq_self_eq_true _)]
  exact wpS_pure ⟨hm,.inl ⟨_,_,rfl,m2.fin ab fun x _ y hy=>by rw [drop_nil (by omega)] at hy;cases hy⟩⟩
 ·rw [if_neg (by simpa using c)]
  refine wpS_bind (bw (dN hx) ?_)
  refine wpS_bind (CF C hk (h:=fun i=>Y.getD (ib+1+i) 0) (fun i hi=>dN (getD_at (by omega))) (fun i hi=>?_) (xq ab.sb _ _ (by omega)) (by omega) fun k k1 k2 k3=>?_)
  ·have:=List.mem_of_getElem? (getD_at (l:=Y) (i:=ib+1+i) (by omega))
   exact ⟨ab.lt x (List.mem_of_getElem? hx) _ this,ab.nb _ this⟩
  ·dsimp only
   have m3:=m2.pU ab hx k (by omega) fun i z hi ez=>by
    have:=k2 i hi
    rw [List.getD_eq_getElem?_getD,ez] at this
    exact this
   by_cases c2:k > 0
   ·rw [if_pos c2,m_,show ib+1+k - (ib+1)=k by omega,gv]
    by_cases c3:ib+1+k=Y.length
    ·rw [if_pos (by rw [c3];exact beq_self_eq_true _)]
     exact wpS_pure ⟨hm,.inl ⟨_,_,rfl,m3.fin ab fun x _ y hy=>by rw [drop_nil (by omega)] at hy;cases hy⟩⟩
    ·rw [if_neg (by simpa using c3)]
     exact Hi ab tp hm m3 ha (by omega) (by omega) hx (getD_at (by omega)) (k3 k (Nat.le_refl _) (by omega))
   ·rw [if_neg c2]
    have:k=0:=by omega
    subst this
    exact Hi ab tp hm m2 ha (by omega) (by omega) hx (getD_at (by omega)) (k3 0 (Nat.le_refl _) (by omega))
theorem Ma (C:qD prog w A s o N f kd) (hk:kindOf st0=kd) (ab:Ab o N X Y) (tp:Top o X Y) (hm:Sm st0 st) {n mg ac bc:Nat} (m:Mg o X Y hs ia ib) (ha:ia+1 < X.length) (hb:ib < Y.length) (hn:n<=ia+ib) :
  wpS (model prog w) A E s (T1 (fa f X) (fa f Y) (fa f hs) ia ib mg ac bc) (G2 o f X Y n st0) st:=by
 unfold T1
 simp only [j5]
 refine wpS_bind (lU hm fun st1 hm1=>?_)
 have hy:=getD_at (l:=Y) (i:=ib) hb
 have yB:=List.mem_of_getElem? hy
 refine wpS_bind (bw (dN hy) ?_)
 refine wpS_bind (EO C (by rw [hm1.k];exact hk) (h:=fun i=>X.getD (ia+i) 0) (fun i hi=>dN (getD_at (by omega))) (fun i hi=>ab.lt _ (List.mem_of_getElem? (getD_at (l:=X) (i:=ia+i) (by omega))) _ yB) (ab.nb _ yB) (xq ab.sa _ _ (by omega)) (by omega) fun k k1 k2 k3=>?_)
 dsimp only
 have m3:=m.pP ab hy k (by omega) fun i z hi ez=>by
  have:=k2 i hi
  rw [List.getD_eq_getElem?_getD,ez] at this
  exact this
 by_cases c2:k > 0
 ·rw [if_pos c2,m_,show ia+k - ia=k by omega,gv]
  by_cases c3:ia+k+1=X.length
  ·rw [if_pos (by rw [c3];exact beq_self_eq_true _)]
   exact wpS_pure ⟨hm1,.inl ⟨_,_,rfl,lZ ab tp m3 c3⟩⟩
  ·rw [if_neg (by simpa using c3)]
   by_cases c4:ia+k=X.length
   ·rw [if_pos (by rw [c4];exact beq_self_eq_true _)]
    exact wpS_pure ⟨hm1,.inl ⟨_,_,rfl,m3.fin ab fun x hx y _=>by rw [drop_nil (by omega)] at hx;cases hx⟩⟩
   ·rw [if_neg (by simpa using c4)]
    exact HM C (by rw [hm1.k];exact hk) ab tp hm1 m3 (by omega) hb (by omega) (getD_at (by omega)) hy (k3 k (Nat.le_refl _) (by omega))
 ·rw [if_neg c2]
  have:k=0:=by omega
  subst this
  exact HM C (by rw [hm1.k];exact hk) ab tp hm1 m ha hb hn (getD_at (by omega)) hy (k3 0 (Nat.le_refl _) (by omega))
theorem Lc (C:qD prog w A s o N f kd) (hk:kindOf st=kd) (ab:Ab o N X Y) (tp:Top o X Y) (h1:1<=X.length) {y0:Nat} (hy0:Y[0]?=some y0) (h0:∀ x∈X,P o y0 x)
  {Q:Array Keyed->SortSt->Prop} (q:∀ out st',Sm st st'->Res o f X Y out->Q out st'):wpS (model prog w) A E s (oH (fa f X) (fa f Y)) Q st:=by
 rw [vU]
 refine wpS_bind (wpS_lift (wpAny_rule ⟨rfl,?_⟩))
 dsimp only
 simp only [j5]
 have hY:=(List.getElem?_eq_some_iff.mp hy0).1
 refine wpS_bind (bw (dN hy0) ?_)
 have m0:Mg o X Y [] 0 0:=⟨Nat.zero_le _,Nat.zero_le _,rfl,List.Pairwise.nil,(fun _ h=>nomatch h),(fun _ h=>nomatch h),(fun _ h=>nomatch h)⟩
 have m1:Mg o X Y [y0] 0 1:=ab.n_ m0 hy0 h0
 have e1:(#[f y0]:Array Keyed)=fa f [y0]:=rfl
 rw [e1]
 by_cases c:1=Y.length
 ·rw [if_pos (by rw [<- c];rfl)]
  exact wpS_pure (q _ _ Sm.refl (m1.fin ab fun x _ y hy=>by rw [drop_nil (by omega)] at hy;cases hy))
 ·rw [if_neg (by simpa using c)]
  by_cases c2:0+1=X.length
  ·rw [if_pos (by rw [<- c2];rfl)]
   exact wpS_pure (q _ _ Sm.refl (lZ ab tp m1 c2))
  ·rw [if_neg (by simpa using c2)]
   refine wpS_bind (wpS_get ?_)
   refine wpS_bind (wpS_mono (wpS_forRange (I:=fun x c st'=>Sm st st'/\∃ hs ia ib mg,c=(none,fa f hs,ia,ib,mg)/\On o f X Y (x+1) hs ia ib)
    (Q:=fun c st'=>Sm st st'/\∃ r z,c=(some r,z)/\Res o f X Y r) ?step ?fin ⟨Sm.refl,_,_,_,_,rfl,m1,by omega,by omega,Nat.le_refl _⟩) ?post)
   case post=>
    rintro c st' ⟨hm,r,z,rfl,hr⟩
    exact wpS_pure (q _ _ hm hr)
   case fin=>
    rintro c st' ⟨hm,hs,ia,ib,mg,rfl,m,a1,a2,a3⟩
    exfalso
    omega
   case step=>
    intro x c st' _ hx hh
    revert hh;revert c
    refine NQ fun hm hs ia ib mg ho=>?_
    have m:=ho.1;have a1:=ho.2.1;have a2:=ho.2.2.1;have a3:=ho.2.2.2
    clear ho
    dsimp only
    refine wpS_bind (wpS_mono (wpS_forRange (I:=fun x' c st''=>Sm st st''/\∃ hs ia ib ac bc,c=(none,fa f hs,ia,ib,ac,bc)/\On o f X Y (x+1+min x' 1) hs ia ib)
     (Q:=fun c st''=>Sm st st''/\((∃ r z,c=(some r,z)/\Res o f X Y r)\/∃ hs ia ib ac bc,c=(none,fa f hs,ia,ib,ac,bc)/\On o f X Y (x+1+1) hs ia ib)) ?istep ?ifin ⟨hm,_,_,_,_,_,rfl,m,a1,a2,a3⟩) ?ipost)
    case ifin=>
     rintro c st'' ⟨hm',hs,ia,ib,ac,bc,rfl,m,a1,a2,a3⟩
     exact ⟨hm',.inr ⟨_,_,_,_,_,rfl,m,a1,a2,by omega⟩⟩
    case istep=>
     intro x' c st'' _ hx' hh
     revert hh;revert c
     refine NO fun hm' hs ia ib ac bc ho=>?_
     have m:=ho.1;have a1:=ho.2.1;have a2:=ho.2.2.1;have a3:=ho.2.2.2
     clear ho
     dsimp only
     have hy:=getD_at (l:=Y) (i:=ib) a2
     have hxx:=getD_at (l:=X) (i:=ia) (by omega)
     have yB:=List.mem_of_getElem? hy
     have xA:=List.mem_of_getElem? hxx
     have lt:=ab.lt _ xA _ yB
     refine wpS_bind (bw (dN hy) ?_)
     refine wpS_bind (bw (dN hxx) ?_)
     refine wpS_bind (oU C (by rw [hm'.k];exact hk) (ab.nb _ yB) (ab.na _ xA) ?_)
     cases hl:o.lt (Y.getD ib 0) (X.getD ia 0)
     ·simp only [Bool.false_eq_true,if_false]
      refine wpS_bind (bw (dN hxx) ?_)
      have m2:=m.nq ab hxx (iG ab.sb hy (P.nk hl lt))
      rw [lS]
      by_cases c3:ia+1+1=X.length
      ·rw [if_pos (by rw [c3];exact beq_self_eq_true _)]
       exact wpS_pure ⟨hm',.inl ⟨_,_,rfl,lZ ab tp m2 c3⟩⟩
      ·rw [if_neg (by simpa using c3)]
       by_cases c4:ac+1>=mg
       ·rw [if_pos c4]
        exact wpS_pure ⟨hm',.inr ⟨_,_,_,_,_,rfl,m2,by omega,a2,by omega⟩⟩
       ·rw [if_neg c4]
        exact wpS_pure ⟨hm',_,_,_,_,_,rfl,m2,by omega,a2,by omega⟩
     ·simp only [if_true]
      refine wpS_bind (bw (dN hy) ?_)
      have m2:=ab.n_ m hy (iG ab.sa hxx (P.of_lt hl))
      rw [lS]
      by_cases c3:ib+1=Y.length
      ·rw [if_pos (by rw [c3];exact beq_self_eq_true _)]
       exact wpS_pure ⟨hm',.inl ⟨_,_,rfl,m2.fin ab fun x _ y hy=>by rw [drop_nil (by omega)] at hy;cases hy⟩⟩
      ·rw [if_neg (by simpa using c3)]
       by_cases c4:bc+1>=mg
       ·rw [if_pos c4]
        exact wpS_pure ⟨hm',.inr ⟨_,_,_,_,_,rfl,m2,a1,by omega,by omega⟩⟩
       ·rw [if_neg c4]
        exact wpS_pure ⟨hm',_,_,_,_,_,rfl,m2,a1,by omega,by omega⟩
    case ipost=>
     intro c st'' hh
     revert hh;revert c
     refine NU (fun hm' r z hr=>?_) fun hm' hs ia ib ac bc ho=>?_
     ·dsimp only
      exact wpS_pure ⟨hm',r,_,rfl,hr⟩
     ·have m:=ho.1;have a1:=ho.2.1;have a2:=ho.2.2.1;have a3:=ho.2.2.2
      clear ho
      dsimp only
      refine wpS_bind (wpS_lift (wpAny_rule ⟨rfl,?_⟩))
      refine wpS_bind (wpS_mono (wpS_forRange (I:=fun x' c st''=>Sm st st''/\∃ hs ia ib mg ac bc,c=(none,fa f hs,ia,ib,mg,ac,bc)/\On o f X Y (x+1+1) hs ia ib)
       (Q:=fun c st''=>Sm st st''/\((∃ r z,c=(some r,z)/\Res o f X Y r)\/∃ hs ia ib mg ac bc,c=(none,fa f hs,ia,ib,mg,ac,bc)/\On o f X Y (x+1+1) hs ia ib)) ?jstep ?jfin ⟨hm',_,_,_,_,_,_,rfl,m,a1,a2,a3⟩) ?jpost)
      case jfin=>
       rintro c st3 ⟨hm3,hh⟩
       exact ⟨hm3,.inr hh⟩
      case jstep=>
       intro x' c st3 _ hx' hh
       revert hh;revert c
       refine NG fun hm3 hs ia ib mg ac bc ho=>?_
       have m:=ho.1;have a1:=ho.2.1;have a2:=ho.2.2.1;have a3:=ho.2.2.2
       clear ho
       dsimp only
       have t1:=fun mg=>Ma (n:=x+1+1) (mg:=mg) (ac:=ac) (bc:=bc) (E:=E) C hk ab tp hm3 m a1 a2 a3
       unfold T1 T2 T3 at t1
       simp only [j5] at t1
       refine wpS_mono (Q:=G2 o f X Y (x+1+1) st) ?_ ?_
       ·by_cases c3:mg > 1
        ·rw [if_pos c3]
         exact t1 (mg - 1)
        ·rw [if_neg c3]
         exact t1 mg
       ·rintro r st4 ⟨hm4,hr⟩
        cases r with
        | done c=>exact ⟨hm4,hr⟩
        | yield c=>exact ⟨hm4,hr⟩
      case jpost=>
       intro c st3 hh
       revert hh;revert c
       refine ND (fun hm3 r z hr=>?_) fun hm3 hs ia ib mg ac bc ho=>?_
       ·dsimp only
        exact wpS_pure ⟨hm3,r,_,rfl,hr⟩
       ·have m:=ho.1;have a1:=ho.2.1;have a2:=ho.2.2.1;have a3:=ho.2.2.2
        clear ho
        dsimp only
        refine wpS_bind (lU hm3 fun st4 hm4=>?_)
        exact wpS_pure ⟨hm4,_,_,_,_,rfl,m,a1,a2,a3⟩
end
theorem vQ (a b:Array Keyed):oZ a b=(do
 rule "list.sort.merge-hi"
 let all_:=a.size+b.size
 let end1 (acc:Array Keyed) (p q:Nat):=a.extract 0 p++b.extract 0 q++acc.reverse
 let end2 (acc:Array Keyed) (p q:Nat):=b.extract 0 q++a.extract 0 p++acc.reverse
 let mut p:=a.size - 1
 let mut q:=b.size
 let mut acc:Array Keyed:=#[<- elem' a p]
 if p == 0 then return end1 acc p q
 if q == 1 then return end2 acc p q
 let mut mg:=gallopOf (<- get)
 for _ in [0:all_] do
  let mut ca:=0
  let mut cb:=0
  for _ in [0:all_] do
   let some won <- lt' (<- elem' b (q - 1)) (<- elem' a (p - 1)) | return end1 acc p q
   if won then
    p:=p - 1;acc:=acc.push (<- elem' a p);ca:=ca+1;cb:=0
    if p == 0 then return end1 acc p q
    if ca>=mg then break
   else
    q:=q - 1;acc:=acc.push (<- elem' b q);cb:=cb+1;ca:=0
    if q == 1 then return end2 acc p q
    if cb>=mg then break
  rule "list.sort.gallop"
  mg:=mg+1
  for _ in [0:all_] do
   if mg > 1 then mg:=mg - 1
   nu mg
   let some t <- dF false (<- elem' b (q - 1)) a 0 p (p - 1) | return end1 acc p q
   let k:=p - t
   ca:=k
   if k > 0 then
    acc:=acc++(a.extract t p).reverse;p:=t
    if p == 0 then return end1 acc p q
   q:=q - 1;acc:=acc.push (<- elem' b q)
   if q == 1 then return end2 acc p q
   let some t <- dF true (<- elem' a (p - 1)) b 0 q (q - 1) | return end1 acc p q
   let k:=q - t
   cb:=k
   if k > 0 then
    acc:=acc++(b.extract t q).reverse;q:=t
    if q == 1 then return end2 acc p q
    if q == 0 then return end1 acc p q
   p:=p - 1;acc:=acc.push (<- elem' a p)
   if p == 0 then return end1 acc p q
   if ca < 7 && cb < 7 then break
  mg:=mg+1
  nu mg
 unsupported "internal:list.sort.merge-bound"):=rfl
section
variable {o:Ord} {N:Nat} {f:Nat->Keyed} {A B ts:List Nat} {na nb:Nat}
theorem Cu (l:List Nat):(fa f l).reverse=fa f l.reverse:=by
 unfold fa;rw [List.reverse_toArray,List.map_reverse]
theorem nP (l:List Nat) (i:Nat):(fa f l).extract 0 i=fa f (l.take i):=by
 rw [m_,List.drop_zero,Nat.sub_zero]
structure Mh (o:Ord) (A B ts:List Nat) (na nb:Nat):Prop where
 la:na<=A.length
 lb:nb<=B.length
 len:ts.length+na+nb=A.length+B.length
 so:ts.Pairwise (P o)
 mem:∀ x∈ts,x∈A\/x∈B
 ua:∀ y∈A.take na,∀ x∈ts,P o y x
 ub:∀ y∈B.take nb,∀ x∈ts,P o y x
theorem lQ {l:List Nat} {i y:Nat} (h:y∈l.take i):∃ j,j < i/\l[j]?=some y:=by
 obtain ⟨k,hk⟩:=List.getElem?_of_mem h
 have:=(List.getElem?_eq_some_iff.mp hk).1
 rw [List.length_take] at this
 rw [List.getElem?_take_of_lt (by omega)] at hk
 exact ⟨k,by omega,hk⟩
theorem take_one {l:List Nat} {i x:Nat} (h:l[i]?=some x):l.take (i+1)=l.take i++[x]:=by
 obtain ⟨h1,e1⟩:=List.getElem?_eq_some_iff.mp h
 rw [List.take_succ_eq_append_getElem h1,e1]
theorem Mh.nq (ab:Ab o N A B) (m:Mh o A B ts (na+1) nb) {x:Nat} (hx:A[na]?=some x) (h:∀ y∈B.take nb,P o y x):Mh o A B (x::ts) na nb:=by
 have la:=m.la
 have len:=m.len
 have ht:=take_one hx
 have xin:x∈A.take (na+1):=by rw [ht];exact List.mem_append_right _ (List.mem_singleton.mpr rfl)
 refine ⟨by omega,m.lb,by rw [List.length_cons];omega,List.pairwise_cons.mpr ⟨fun y hy=>m.ua x xin y hy,m.so⟩,fun z hz=>?_,fun y hy z hz=>?_,fun y hy z hz=>?_⟩
 ·rcases List.mem_cons.mp hz with rfl | z'
  ·exact .inl (List.mem_of_getElem? hx)
  ·exact m.mem z z'
 ·rcases List.mem_cons.mp hz with rfl | z'
  ·obtain ⟨j,hj,ej⟩:=lQ hy
   exact jB ab.sa ej hx hj
  ·exact m.ua y (by rw [ht];exact List.mem_append_left _ hy) z z'
 ·rcases List.mem_cons.mp hz with rfl | z'
  ·exact h y hy
  ·exact m.ub y hy z z'
theorem Mh.D8 (ab:Ab o N A B) (m:Mh o A B ts na (nb+1)) {x:Nat} (hx:B[nb]?=some x) (h:∀ y∈A.take na,P o y x):Mh o A B (x::ts) na nb:=by
 have lb:=m.lb
 have len:=m.len
 have ht:=take_one hx
 have xin:x∈B.take (nb+1):=by rw [ht];exact List.mem_append_right _ (List.mem_singleton.mpr rfl)
 refine ⟨m.la,by omega,by rw [List.length_cons];omega,List.pairwise_cons.mpr ⟨fun y hy=>m.ub x xin y hy,m.so⟩,fun z hz=>?_,fun y hy z hz=>?_,fun y hy z hz=>?_⟩
 ·rcases List.mem_cons.mp hz with rfl | z'
  ·exact .inr (List.mem_of_getElem? hx)
  ·exact m.mem z z'
 ·rcases List.mem_cons.mp hz with rfl | z'
  ·exact h y hy
  ·exact m.ua y hy z z'
 ·rcases List.mem_cons.mp hz with rfl | z'
  ·obtain ⟨j,hj,ej⟩:=lQ hy
   exact jB ab.sb ej hx hj
  ·exact m.ub y (by rw [ht];exact List.mem_append_left _ hy) z z'
theorem iI {l:List Nat} (h:l.Pairwise (P o)) {i x y:Nat} (hx:l[i]?=some x) (hxy:P o x y):∀ z∈l.take (i+1),P o z y:=fun z hz=>by
 obtain ⟨j,hj,ej⟩:=lQ hz
 by_cases c:j=i
 ·subst c;rw [hx] at ej;cases ej;exact hxy
 ·exact (jB h ej hx (by omega)).trans hxy
theorem Mh.pP (ab:Ab o N A B) {y:Nat} {mb:Nat} (hy:B[mb]?=some y):∀ (k:Nat) {ts:List Nat} {at_:Nat},Mh o A B ts (at_+k) (mb+1)->(∀ i x,at_<=i->i < at_+k->A[i]?=some x->P o y x)->Mh o A B ((A.drop at_).take k++ts) at_ (mb+1)
 | 0,ts,at_,m,_=>by rw [List.take_zero];exact m
 | k+1,ts,at_,m,h=>by
  have la:=m.la
  have hx:A[at_+k]?=some (A[at_+k]'(by omega)):=List.getElem?_eq_getElem _
  have m2:=Mh.nq ab (show Mh o A B ts (at_+k+1) (mb+1) from m) hx (iI ab.sb hy (h _ _ (by omega) (by omega) hx))
  have m3:=Mh.pP ab hy k m2 fun i x h1 h2=>h i x h1 (by omega)
  rw [take_snoc hx,List.append_assoc]
  exact m3
theorem Mh.pU (ab:Ab o N A B) {y:Nat} {ma:Nat} (hy:A[ma]?=some y):∀ (k:Nat) {ts:List Nat} {at_:Nat},Mh o A B ts (ma+1) (at_+k)->(∀ i x,at_<=i->i < at_+k->B[i]?=some x->P o y x)->Mh o A B ((B.drop at_).take k++ts) (ma+1) at_
 | 0,ts,at_,m,_=>by rw [List.take_zero];exact m
 | k+1,ts,at_,m,h=>by
  have lb:=m.lb
  have hx:B[at_+k]?=some (B[at_+k]'(by omega)):=List.getElem?_eq_getElem _
  have m2:=Mh.D8 ab (show Mh o A B ts (ma+1) (at_+k+1) from m) hx (iI ab.sa hy (h _ _ (by omega) (by omega) hx))
  have m3:=Mh.pU ab hy k m2 fun i x h1 h2=>h i x h1 (by omega)
  rw [take_snoc hx,List.append_assoc]
  exact m3
theorem nY {l:List Nat} (h:l.Pairwise (P o)) (i:Nat):(l.take i).Pairwise (P o):=h.sublist (List.take_sublist ..)
theorem Mh.fin (ab:Ab o N A B) (m:Mh o A B ts na nb) (h:∀ x∈A.take na,∀ y∈B.take nb,P o x y):Res o f A B ((fa f A).extract 0 na++(fa f B).extract 0 nb++fa f ts):=by
 rw [nP,nP,gv,gv]
 have la:=m.la
 have lb:=m.lb
 have len:=m.len
 refine ⟨_,rfl,by rw [List.length_append,List.length_append,List.length_take,List.length_take];omega,?_,fun x hx=>?_⟩
 ·rw [List.pairwise_append,List.pairwise_append]
  refine ⟨⟨nY ab.sa _,nY ab.sb _,h⟩,m.so,fun x hx y hy=>?_⟩
  rcases List.mem_append.mp hx with z | z
  ·exact m.ua x z y hy
  ·exact m.ub x z y hy
 ·rcases List.mem_append.mp hx with z | z
  ·rcases List.mem_append.mp z with z | z
   ·exact .inl (List.mem_of_mem_take z)
   ·exact .inr (List.mem_of_mem_take z)
  ·exact m.mem x z
theorem Mh.Iw (ab:Ab o N A B) (m:Mh o A B ts na nb) (h:∀ x∈A.take na,∀ y∈B.take nb,P o y x):Res o f A B ((fa f B).extract 0 nb++(fa f A).extract 0 na++fa f ts):=by
 rw [nP,nP,gv,gv]
 have la:=m.la
 have lb:=m.lb
 have len:=m.len
 refine ⟨_,rfl,by rw [List.length_append,List.length_append,List.length_take,List.length_take];omega,?_,fun x hx=>?_⟩
 ·rw [List.pairwise_append,List.pairwise_append]
  refine ⟨⟨nY ab.sb _,nY ab.sa _,fun x hx y hy=>h y hy x hx⟩,m.so,fun x hx y hy=>?_⟩
  rcases List.mem_append.mp hx with z | z
  ·exact m.ub x z y hy
  ·exact m.ua x z y hy
 ·rcases List.mem_append.mp hx with z | z
  ·rcases List.mem_append.mp z with z | z
   ·exact .inr (List.mem_of_mem_take z)
   ·exact .inl (List.mem_of_mem_take z)
  ·exact m.mem x z
noncomputable def LG (o:Ord) (X Y:List Nat):Prop:=∀ y,Y[0]?=some y->∀ x∈X,P o y x
theorem jY (ab:Ab o N A B) (bt:LG o A B) (m:Mh o A B ts na nb) (h:nb=1):Res o f A B ((fa f B).extract 0 nb++(fa f A).extract 0 na++fa f ts):=
 m.Iw ab fun x hx y hy=>by
  obtain ⟨j,hj,ej⟩:=lQ hy
  have:j=0:=by omega
  subst this
  exact bt y ej x (List.mem_of_mem_take hx)
theorem Mh.uV (ab:Ab o N A B) (m:Mh o A B ts na nb) (h:na=0\/nb=0):Res o f A B ((fa f A).extract 0 na++(fa f B).extract 0 nb++fa f ts):=
 m.fin ab fun x hx y hy=>by
  rcases h with rfl | rfl
  ·rw [List.take_zero] at hx;cases hx
  ·rw [List.take_zero] at hy;cases hy
theorem nO (l:List Nat) (x:Nat):(fa f l.reverse).push (f x)=fa f (x::l).reverse:=by rw [lS,List.reverse_cons]
theorem DR (l m:List Nat):fa f l.reverse++(fa f m).reverse=fa f (m++l).reverse:=by rw [Cu,gv,List.reverse_append]
theorem kN (l:List Nat):(fa f l.reverse).reverse=fa f l:=by rw [Cu,List.reverse_reverse]
end
noncomputable abbrev H:=Option (Array Keyed)×Nat×Nat×Array Keyed×Nat×Nat×Nat
noncomputable def U3 (a b out:Array Keyed) (na nb mg ac bc:Nat):StateT SortSt Sem (ForInStep H):=do
 let x <- elem' a (na - 1)
 if (na - 1 == 0)=true then pure (ForInStep.done (some (a.extract 0 (na - 1)++b.extract 0 nb++(out.push x).reverse),na - 1,nb,out.push x,mg,ac,bc))
 else if (decide (ac < 7) && decide (bc < 7))=true then pure (ForInStep.done (none,na - 1,nb,out.push x,mg,ac,bc))
 else pure (ForInStep.yield (none,na - 1,nb,out.push x,mg,ac,bc))
noncomputable def U2 (a b out:Array Keyed) (na nb mg ac bc:Nat):StateT SortSt Sem (ForInStep H):=do
 let x <- elem' b (nb - 1)
 if (nb - 1 == 1)=true then pure (ForInStep.done (some (b.extract 0 (nb - 1)++a.extract 0 na++(out.push x).reverse),na,nb - 1,out.push x,mg,ac,bc))
 else
  let y <- elem' a (na - 1)
  let r <- dF true y b 0 (nb - 1) (nb - 1 - 1)
  match r with
  | some t=>
   if nb - 1 - t > 0 then
    if (t == 1)=true then pure (ForInStep.done (some (b.extract 0 t++a.extract 0 na++(out.push x++(b.extract t (nb - 1)).reverse).reverse),na,t,out.push x++(b.extract t (nb - 1)).reverse,mg,ac,nb - 1 - t))
    else if (t == 0)=true then pure (ForInStep.done (some (a.extract 0 na++b.extract 0 t++(out.push x++(b.extract t (nb - 1)).reverse).reverse),na,t,out.push x++(b.extract t (nb - 1)).reverse,mg,ac,nb - 1 - t))
    else U3 a b (out.push x++(b.extract t (nb - 1)).reverse) na t mg ac (nb - 1 - t)
   else U3 a b (out.push x) na (nb - 1) mg ac (nb - 1 - t)
  | _=>pure (ForInStep.done (some (a.extract 0 na++b.extract 0 (nb - 1)++(out.push x).reverse),na,nb - 1,out.push x,mg,ac,bc))
noncomputable def U1 (a b out:Array Keyed) (na nb mg ac bc:Nat):StateT SortSt Sem (ForInStep H):=do
 nu mg
 let x <- elem' b (nb - 1)
 let r <- dF false x a 0 na (na - 1)
 match r with
 | some t=>
  if na - t > 0 then
   if (t == 0)=true then pure (ForInStep.done (some (a.extract 0 t++b.extract 0 nb++(out++(a.extract t na).reverse).reverse),t,nb,out++(a.extract t na).reverse,mg,na - t,bc))
   else U2 a b (out++(a.extract t na).reverse) t nb mg (na - t) bc
  else U2 a b out na nb mg (na - t) bc
 | _=>pure (ForInStep.done (some (a.extract 0 na++b.extract 0 nb++out.reverse),na,nb,out,mg,ac,bc))
section
variable {prog:Program} {w:World} {A:Around} {E:Value->Shared->Prop} {s:Shared} {o:Ord} {N:Nat} {f:Nat->Keyed} {kd:SortKind} {st st0:SortSt} {X Y ts:List Nat} {na nb:Nat}
noncomputable def Oh (o:Ord) (X Y:List Nat) (n:Nat) (ts:List Nat) (na nb:Nat):Prop:=Mh o X Y ts na nb/\1<=na/\2<=nb/\na+nb+n<=X.length+Y.length
noncomputable def H2 (o:Ord) (f:Nat->Keyed) (X Y:List Nat) (n:Nat) (st0:SortSt):ForInStep H->SortSt->Prop:=fun r st'=>Sm st0 st'/\match r with
 | .done c=>(∃ r z,c=(some r,z)/\Res o f X Y r)\/∃ ts na nb mg ac bc,c=(none,na,nb,fa f ts.reverse,mg,ac,bc)/\Oh o X Y n ts na nb
 | .yield c=>∃ ts na nb mg ac bc,c=(none,na,nb,fa f ts.reverse,mg,ac,bc)/\Oh o X Y n ts na nb
theorem Ij (ab:Ab o N X Y) (hm:Sm st0 st) {n mg ac bc x y:Nat} (m:Mh o X Y ts (na+1) (nb+1)) (hb:1<=nb) (hn:na+1+(nb+1)+n<=X.length+Y.length) (hx:X[na]?=some x) (hy:Y[nb]?=some y) (hxy:P o y x) :
  wpS (model prog w) A E s (U3 (fa f X) (fa f Y) (fa f ts.reverse) (na+1) (nb+1) mg ac bc) (H2 o f X Y n st0) st:=by
 unfold U3
 rw [show na+1 - 1=na by omega]
 refine wpS_bind (bw (dN hx) ?_)
 have m2:=m.nq ab hx (iI ab.sb hy hxy)
 rw [nO,kN]
 by_cases c:na=0
 ·rw [if_pos (by rw [c];rfl)]
  exact wpS_pure ⟨hm,.inl ⟨_,_,rfl,m2.uV ab (.inl c)⟩⟩
 ·rw [if_neg (by simpa using c)]
  by_cases c2:(decide (ac < 7) && decide (bc < 7))=true
  ·rw [if_pos c2]
   exact wpS_pure ⟨hm,.inr ⟨_,_,_,_,_,_,rfl,m2,by omega,by omega,by omega⟩⟩
  ·rw [if_neg c2]
   exact wpS_pure ⟨hm,⟨_,_,_,_,_,_,rfl,m2,by omega,by omega,by omega⟩⟩
theorem HV (C:qD prog w A s o N f kd) (hk:kindOf st=kd) (ab:Ab o N X Y) (bt:LG o X Y) (hm:Sm st0 st) {n mg ac bc x y:Nat} (m:Mh o X Y ts (na+1) (nb+1)) (hb:1<=nb) (hn:na+1+(nb+1)+n<=X.length+Y.length) (hx:X[na]?=some x) (hy:Y[nb]?=some y) (hxy:P o x y) :
  wpS (model prog w) A E s (U2 (fa f X) (fa f Y) (fa f ts.reverse) (na+1) (nb+1) mg ac bc) (H2 o f X Y n st0) st:=by
 unfold U2
 rw [show nb+1 - 1=nb by omega,show na+1 - 1=na by omega]
 refine wpS_bind (bw (dN hy) ?_)
 have m2:=m.D8 ab hy (iI ab.sa hx hxy)
 have lb:=m.lb
 rw [nO,kN]
 by_cases c:nb=1
 ·rw [if_pos (by rw [c];rfl)]
  exact wpS_pure ⟨hm,.inl ⟨_,_,rfl,jY ab bt m2 c⟩⟩
 ·rw [if_neg (by simpa using c)]
  refine wpS_bind (bw (dN hx) ?_)
  refine wpS_bind (CF C hk (h:=fun i=>Y.getD (0+i) 0) (fun i hi=>dN (getD_at (by omega))) (fun i hi=>?_) (xq ab.sb _ _ (by omega)) (by omega) fun t t1 t2 t3=>?_)
  ·have:=List.mem_of_getElem? (getD_at (l:=Y) (i:=0+i) (by omega))
   exact ⟨ab.lt x (List.mem_of_getElem? hx) _ this,ab.nb _ this⟩
  ·dsimp only
   have m3:=Mh.pU ab hx (nb - t) (at_:=t) (by rw [show t+(nb - t)=nb by omega];exact m2) fun i z hi1 hi2 ez=>by
    have:=t3 i hi1 (by omega)
    rw [Nat.zero_add,List.getD_eq_getElem?_getD (l:=Y),ez] at this
    exact this
   by_cases c2:nb - t > 0
   ·rw [if_pos c2,m_ Y t nb,DR,kN]
    by_cases c3:t=1
    ·rw [if_pos (by rw [c3];rfl)]
     exact wpS_pure ⟨hm,.inl ⟨_,_,rfl,jY ab bt m3 c3⟩⟩
    ·rw [if_neg (by simpa using c3)]
     by_cases c4:t=0
     ·rw [if_pos (by rw [c4];rfl)]
      exact wpS_pure ⟨hm,.inl ⟨_,_,rfl,m3.uV ab (.inr c4)⟩⟩
     ·rw [if_neg (by simpa using c4)]
      obtain ⟨u,rfl⟩:∃ u,t=u+1:=⟨t - 1,by omega⟩
      have:=t2 u (by omega)
      rw [Nat.zero_add] at this
      exact Ij ab hm m3 (by omega) (by omega) hx (getD_at (by omega)) this
   ·rw [if_neg c2]
    have:t=nb:=by omega
    subst this
    obtain ⟨u,rfl⟩:∃ u,t=u+1:=⟨t - 1,by omega⟩
    have:=t2 u (by omega)
    rw [Nat.zero_add] at this
    exact Ij ab hm m2 (by omega) (by omega) hx (getD_at (by omega)) this
theorem L_ (C:qD prog w A s o N f kd) (hk:kindOf st0=kd) (ab:Ab o N X Y) (bt:LG o X Y) (hm:Sm st0 st) {n mg ac bc:Nat} (m:Mh o X Y ts (na+1) (nb+1)) (hb:1<=nb) (hn:na+1+(nb+1)+n<=X.length+Y.length) :
  wpS (model prog w) A E s (U1 (fa f X) (fa f Y) (fa f ts.reverse) (na+1) (nb+1) mg ac bc) (H2 o f X Y n st0) st:=by
 unfold U1
 refine wpS_bind (lU hm fun st1 hm1=>?_)
 have lb:=m.lb
 have la:=m.la
 rw [show nb+1 - 1=nb by omega,show na+1 - 1=na by omega]
 have hy:=getD_at (l:=Y) (i:=nb) (by omega)
 have yB:=List.mem_of_getElem? hy
 refine wpS_bind (bw (dN hy) ?_)
 refine wpS_bind (EO C (by rw [hm1.k];exact hk) (h:=fun i=>X.getD (0+i) 0) (fun i hi=>dN (getD_at (by omega))) (fun i hi=>ab.lt _ (List.mem_of_getElem? (getD_at (l:=X) (i:=0+i) (by omega))) _ yB) (ab.nb _ yB) (xq ab.sa _ _ (by omega)) (by omega) fun t t1 t2 t3=>?_)
 dsimp only
 have m3:=Mh.pP ab hy (na+1 - t) (at_:=t) (by rw [show t+(na+1 - t)=na+1 by omega];exact m) fun i z hi1 hi2 ez=>by
  have:=t3 i hi1 (by omega)
  rw [Nat.zero_add,List.getD_eq_getElem?_getD (l:=X),ez] at this
  exact this
 by_cases c2:na+1 - t > 0
 ·rw [if_pos c2,m_ X t (na+1),DR,kN]
  by_cases c4:t=0
  ·rw [if_pos (by rw [c4];rfl)]
   exact wpS_pure ⟨hm1,.inl ⟨_,_,rfl,m3.uV ab (.inl c4)⟩⟩
  ·rw [if_neg (by simpa using c4)]
   obtain ⟨u,rfl⟩:∃ u,t=u+1:=⟨t - 1,by omega⟩
   have:=t2 u (by omega)
   rw [Nat.zero_add] at this
   exact HV C (by rw [hm1.k];exact hk) ab bt hm1 m3 hb (by omega) (getD_at (by omega)) hy this
 ·rw [if_neg c2]
  have:t=na+1:=by omega
  subst this
  have:=t2 na (by omega)
  rw [Nat.zero_add] at this
  exact HV C (by rw [hm1.k];exact hk) ab bt hm1 m hb hn (getD_at (by omega)) hy this
theorem LX (C:qD prog w A s o N f kd) (hk:kindOf st=kd) (ab:Ab o N X Y) (tp:Top o X Y) (bt:LG o X Y) (h1:1<=X.length) (h2:1<=Y.length)
  {Q:Array Keyed->SortSt->Prop} (q:∀ out st',Sm st st'->Res o f X Y out->Q out st'):wpS (model prog w) A E s (oZ (fa f X) (fa f Y)) Q st:=by
 rw [vQ]
 refine wpS_bind (wpS_lift (wpAny_rule ⟨rfl,?_⟩))
 dsimp only
 simp only [j5]
 have hx0:=getD_at (l:=X) (i:=X.length - 1) (by omega)
 refine wpS_bind (bw (dN hx0) ?_)
 have m0:Mh o X Y [] (X.length - 1+1) Y.length:=⟨by omega,Nat.le_refl _,by rw [List.length_nil];omega,List.Pairwise.nil,(fun _ h=>nomatch h),(fun _ _ _ h=>nomatch h),(fun _ _ _ h=>nomatch h)⟩
 have m1:=m0.nq ab hx0 fun y hy=>tp _ _ hx0 (by omega) y (List.mem_of_mem_take hy)
 obtain ⟨x0,ex0⟩:∃ x0,x0=X.getD (X.length - 1) 0:=⟨_,rfl⟩
 rw [<- ex0] at m1 ⊢
 have e1:(#[f x0]:Array Keyed)=fa f [x0].reverse:=rfl
 rw [e1,kN]
 by_cases c:X.length - 1=0
 ·rw [if_pos (by rw [c];rfl)]
  exact wpS_pure (q _ _ Sm.refl (m1.uV ab (.inl c)))
 ·rw [if_neg (by simpa using c)]
  by_cases c2:Y.length=1
  ·rw [if_pos (by rw [c2];rfl)]
   exact wpS_pure (q _ _ Sm.refl (jY ab bt m1 c2))
  ·rw [if_neg (by simpa using c2)]
   refine wpS_bind (wpS_get ?_)
   refine wpS_bind (wpS_mono (wpS_forRange (I:=fun x c st'=>Sm st st'/\∃ ts na nb mg,c=(none,na,nb,fa f ts.reverse,mg)/\Oh o X Y (x+1) ts na nb)
    (Q:=fun c st'=>Sm st st'/\∃ r z,c=(some r,z)/\Res o f X Y r) ?step ?fin ⟨Sm.refl,_,_,_,_,rfl,m1,by omega,by omega,by omega⟩) ?post)
   case post=>
    rintro c st' ⟨hm,r,z,rfl,hr⟩
    exact wpS_pure (q _ _ hm hr)
   case fin=>
    rintro c st' ⟨hm,ts,na,nb,mg,rfl,m,a1,a2,a3⟩
    exfalso
    omega
   case step=>
    intro x c st' _ hx hh
    revert hh;revert c
    refine NQ fun hm ts na nb mg ho=>?_
    have m:=ho.1;have a1:=ho.2.1;have a2:=ho.2.2.1;have a3:=ho.2.2.2
    clear ho
    dsimp only
    refine wpS_bind (wpS_mono (wpS_forRange (I:=fun x' c st''=>Sm st st''/\∃ ts na nb ac bc,c=(none,na,nb,fa f ts.reverse,ac,bc)/\Oh o X Y (x+1+min x' 1) ts na nb)
     (Q:=fun c st''=>Sm st st''/\((∃ r z,c=(some r,z)/\Res o f X Y r)\/∃ ts na nb ac bc,c=(none,na,nb,fa f ts.reverse,ac,bc)/\Oh o X Y (x+1+1) ts na nb)) ?istep ?ifin ⟨hm,_,_,_,_,_,rfl,m,a1,a2,a3⟩) ?ipost)
    case ifin=>
     rintro c st'' ⟨hm',ts,na,nb,ac,bc,rfl,m,a1,a2,a3⟩
     exact ⟨hm',.inr ⟨_,_,_,_,_,rfl,m,a1,a2,by omega⟩⟩
    case istep=>
     intro x' c st'' _ hx' hh
     revert hh;revert c
     refine NO fun hm' ts na nb ac bc ho=>?_
     have m:=ho.1;have a1:=ho.2.1;have a2:=ho.2.2.1;have a3:=ho.2.2.2
     clear ho
     dsimp only
     obtain ⟨u,rfl⟩:∃ u,na=u+1:=⟨na - 1,by omega⟩
     obtain ⟨v,rfl⟩:∃ v,nb=v+1:=⟨nb - 1,by omega⟩
     have la:=m.la
     have lb:=m.lb
     rw [show u+1 - 1=u by omega,show v+1 - 1=v by omega]
     have hy:=getD_at (l:=Y) (i:=v) (by omega)
     have hxx:=getD_at (l:=X) (i:=u) (by omega)
     have yB:=List.mem_of_getElem? hy
     have xA:=List.mem_of_getElem? hxx
     have lt:=ab.lt _ xA _ yB
     refine wpS_bind (bw (dN hy) ?_)
     refine wpS_bind (bw (dN hxx) ?_)
     refine wpS_bind (oU C (by rw [hm'.k];exact hk) (ab.nb _ yB) (ab.na _ xA) ?_)
     cases hl:o.lt (Y.getD v 0) (X.getD u 0)
     ·simp only [Bool.false_eq_true,if_false]
      refine wpS_bind (bw (dN hy) ?_)
      have m2:=m.D8 ab hy (iI ab.sa hxx (P.nk hl lt))
      rw [nO,kN]
      by_cases c3:v=1
      ·rw [if_pos (by rw [c3];rfl)]
       exact wpS_pure ⟨hm',.inl ⟨_,_,rfl,jY ab bt m2 c3⟩⟩
      ·rw [if_neg (by simpa using c3)]
       by_cases c4:bc+1>=mg
       ·rw [if_pos c4]
        exact wpS_pure ⟨hm',.inr ⟨_,_,_,_,_,rfl,m2,a1,by omega,by omega⟩⟩
       ·rw [if_neg c4]
        exact wpS_pure ⟨hm',_,_,_,_,_,rfl,m2,a1,by omega,by omega⟩
     ·simp only [if_true]
      refine wpS_bind (bw (dN hxx) ?_)
      have m2:=m.nq ab hxx (iI ab.sb hy (P.of_lt hl))
      rw [nO,kN]
      by_cases c3:u=0
      ·rw [if_pos (by rw [c3];rfl)]
       exact wpS_pure ⟨hm',.inl ⟨_,_,rfl,m2.uV ab (.inl c3)⟩⟩
      ·rw [if_neg (by simpa using c3)]
       by_cases c4:ac+1>=mg
       ·rw [if_pos c4]
        exact wpS_pure ⟨hm',.inr ⟨_,_,_,_,_,rfl,m2,by omega,a2,by omega⟩⟩
       ·rw [if_neg c4]
        exact wpS_pure ⟨hm',_,_,_,_,_,rfl,m2,by omega,a2,by omega⟩
    case ipost=>
     intro c st'' hh
     revert hh;revert c
     refine NU (fun hm' r z hr=>?_) fun hm' ts na nb ac bc ho=>?_
     ·dsimp only
      exact wpS_pure ⟨hm',r,_,rfl,hr⟩
     ·have m:=ho.1;have a1:=ho.2.1;have a2:=ho.2.2.1;have a3:=ho.2.2.2
      clear ho
      dsimp only
      refine wpS_bind (wpS_lift (wpAny_rule ⟨rfl,?_⟩))
      refine wpS_bind (wpS_mono (wpS_forRange (I:=fun x' c st''=>Sm st st''/\∃ ts na nb mg ac bc,c=(none,na,nb,fa f ts.reverse,mg,ac,bc)/\Oh o X Y (x+1+1) ts na nb)
       (Q:=fun c st''=>Sm st st''/\((∃ r z,c=(some r,z)/\Res o f X Y r)\/∃ ts na nb mg ac bc,c=(none,na,nb,fa f ts.reverse,mg,ac,bc)/\Oh o X Y (x+1+1) ts na nb)) ?jstep ?jfin ⟨hm',_,_,_,_,_,_,rfl,m,a1,a2,a3⟩) ?jpost)
      case jfin=>
       rintro c st3 ⟨hm3,hh⟩
       exact ⟨hm3,.inr hh⟩
      case jstep=>
       intro x' c st3 _ hx' hh
       revert hh;revert c
       refine NG fun hm3 ts na nb mg ac bc ho=>?_
       have m:=ho.1;have a1:=ho.2.1;have a2:=ho.2.2.1;have a3:=ho.2.2.2
       clear ho
       dsimp only
       obtain ⟨u,rfl⟩:∃ u,na=u+1:=⟨na - 1,by omega⟩
       obtain ⟨v,rfl⟩:∃ v,nb=v+1:=⟨nb - 1,by omega⟩
       have t1:=fun mg=>L_ (n:=x+1+1) (mg:=mg) (ac:=ac) (bc:=bc) (E:=E) C hk ab bt hm3 m (by omega) a3
       unfold U1 U2 U3 at t1
       refine wpS_mono (Q:=H2 o f X Y (x+1+1) st) ?_ ?_
       ·by_cases c3:mg > 1
        ·rw [if_pos c3]
         exact t1 (mg - 1)
        ·rw [if_neg c3]
         exact t1 mg
       ·rintro r st4 ⟨hm4,hr⟩
        cases r with
        | done c=>exact ⟨hm4,hr⟩
        | yield c=>exact ⟨hm4,hr⟩
      case jpost=>
       intro c st3 hh
       revert hh;revert c
       refine ND (fun hm3 r z hr=>?_) fun hm3 ts na nb mg ac bc ho=>?_
       ·dsimp only
        exact wpS_pure ⟨hm3,r,_,rfl,hr⟩
       ·have m:=ho.1;have a1:=ho.2.1;have a2:=ho.2.2.1;have a3:=ho.2.2.2
        clear ho
        dsimp only
        refine wpS_bind (lU hm3 fun st4 hm4=>?_)
        exact wpS_pure ⟨hm4,_,_,_,_,rfl,m,a1,a2,a3⟩
end
theorem wg (i:Nat):mergeAt' i=(do
 let s <- get
 let (some (a1,n1,pw),some (a2,n2,_)):=((pendingOf s)[i]?,(pendingOf s)[i+1]?) | unsupported "internal:list.sort.pending"
 set (setPending s (((pendingOf s).setIfInBounds i (a1,n1+n2,pw)).eraseIdxIfInBounds (i+1)))
 let some k <- dF false (<- elem' (arrOf s) a2) (arrOf s) a1 n1 0 | return false
 let (a1,n1):=(a1+k,n1 - k)
 if n1 == 0 then return true
 let some n2 <- dF true (<- elem' (arrOf s) (a1+n1 - 1)) (arrOf s) a2 n2 (n2 - 1) | return false
 if n2 == 0 then return true
 let x:=(arrOf s).extract a1 a2
 let y:=(arrOf s).extract a2 (a2+n2)
 let both <- if n1<=n2 then oH x y else oZ x y
 modify fun s=>setArr s (both.toList.zipIdx.foldl (fun a (p,j)=>a.setIfInBounds (a1+j) p) (arrOf s))
 return (failedOf (<- get)).isNone):=rfl
noncomputable def seg (g:Nat->Nat) (a n:Nat):List Nat:=(List.range n).map fun i=>g (a+i)
section
variable {o:Ord} {N:Nat} {f:Nat->Keyed} {g:Nat->Nat}
theorem eZ (g:Nat->Nat) (a n:Nat):(seg g a n).length=n:=by unfold seg;rw [List.length_map,List.length_range]
theorem iM {a n i:Nat} (h:i < n):(seg g a n)[i]?=some (g (a+i)):=by unfold seg;rw [List.getElem?_map,List.getElem?_range h];rfl
theorem gK {a n x:Nat} (h:x∈seg g a n):∃ i,i < n/\x=g (a+i):=by
 obtain ⟨i,hi,rfl⟩:=List.mem_map.mp h
 exact ⟨i,List.mem_range.mp hi,rfl⟩
theorem Eb {a n:Nat} (h:So o g a (a+n)):(seg g a n).Pairwise (P o):=by
 rw [List.pairwise_iff_getElem]
 intro i j hi hj hij
 rw [eZ] at hi hj
 have e1:=iM (g:=g) (a:=a) hi
 have e2:=iM (g:=g) (a:=a) hj
 rw [List.getElem?_eq_getElem (by rw [eZ];exact hi)] at e1
 rw [List.getElem?_eq_getElem (by rw [eZ];exact hj)] at e2
 rw [Option.some.inj e1,Option.some.inj e2]
 exact h _ _ (by omega) (by omega) (by omega)
theorem xh {arr:Array Keyed} (hs:arr.size=N) (hg:∀ i,i < N->arr[i]?=some (f (g i))) {a n:Nat} (h:a+n<=N):arr.extract a (a+n)=fa f (seg g a n):=by
 apply Array.ext_getElem?
 intro i
 rw [Dv,Array.getElem?_extract]
 by_cases c:i < n
 ·rw [if_pos (by omega),iM c,hg _ (by omega)];rfl
 ·rw [if_neg (by omega),List.getElem?_eq_none (by rw [eZ];omega)];rfl
theorem qz {α:Type} (b:Nat):∀ (l:List α) (n:Nat) (arr:Array α),((l.zipIdx n).foldl (fun a (p,j)=>a.setIfInBounds (b+j) p) arr).size=arr.size
 | [],_,_=>rfl
 | x::l,n,arr=>by
  rw [List.zipIdx_cons,List.foldl_cons,qz b l (n+1)]
  exact Array.size_setIfInBounds ..
theorem uZ {α:Type} (b:Nat):∀ (l:List α) (n:Nat) (arr:Array α) (k:Nat),b+n+l.length<=arr.size->((l.zipIdx n).foldl (fun a (p,j)=>a.setIfInBounds (b+j) p) arr)[k]?=if b+n<=k/\k < b+n+l.length then l[k - (b+n)]? else arr[k]?
 | [],n,arr,k,h=>by rw [if_neg (by rw [List.length_nil];omega)];rfl
 | x::l,n,arr,k,h=>by
  rw [List.length_cons] at h
  rw [List.zipIdx_cons,List.foldl_cons,uZ b l (n+1) _ k (by rw [Array.size_setIfInBounds];omega),List.length_cons]
  by_cases c:k=b+n
  ·subst c
   rw [if_neg (by omega),if_pos (by omega),Nat.sub_self]
   show (arr.setIfInBounds (b+n) x)[b+n]?=some x
   rw [Array.getElem?_setIfInBounds_self_of_lt (by omega)]
  ·by_cases c2:b+n<=k/\k < b+n+(l.length+1)
   ·rw [if_pos (by omega),if_pos c2,show k - (b+n)=k - (b+(n+1))+1 by omega,List.getElem?_cons_succ]
   ·rw [if_neg (by omega),if_neg c2]
    show (arr.setIfInBounds (b+n) x)[k]?=arr[k]?
    rw [Array.getElem?_setIfInBounds_ne (by omega)]
end
section
variable {prog:Program} {w:World} {A:Around} {E:Value->Shared->Prop} {s:Shared} {o:Ord} {N:Nat} {f:Nat->Keyed} {kd:SortKind} {g:Nat->Nat} {st:SortSt}
theorem E_ {st':SortSt} {Q:PUnit->SortSt->Prop} (h:Q ⟨⟩ st'):wpS (model prog w) A E s (set st':StateT SortSt Sem PUnit) Q st:=by
 unfold wpS;rw [StateT.run_set];exact wpAny_pure ⟨rfl,h⟩
theorem K0 (C:qD prog w A s o N f kd) {l1 l2:List (Nat×Nat×Nat)} {sa na nb pw pv:Nat} (h:Sg N f kd g (l1++(sa,na,pw)::(sa+na,nb,pv)::l2).toArray st) (ha:1<=na) (hb:1<=nb) (hN:sa+na+nb<=N)
  (c1:Cl g sa (sa+na)) (s1:So o g sa (sa+na)) (c2:Cl g (sa+na) (sa+na+nb)) (s2:So o g (sa+na) (sa+na+nb))
  {Q:Bool->SortSt->Prop} (q:∀ g' st',Sg N f kd g' (l1++(sa,na+nb,pw)::l2).toArray st'->Rn o g g' sa (sa+na+nb)->Q true st'):wpS (model prog w) A E s (mergeAt' l1.length) Q st:=by
 rw [wg]
 refine wpS_bind (wpS_get ?_)
 have e1:(pendingOf st)[l1.length]?=some (sa,na,pw):=by rw [h.pend];simp
 have e2:(pendingOf st)[l1.length+1]?=some (sa+na,nb,pv):=by rw [h.pend];simp
 have e3:((pendingOf st).setIfInBounds l1.length (sa,na+nb,pw)).eraseIdxIfInBounds (l1.length+1)=(l1++(sa,na+nb,pw)::l2).toArray:=by
  rw [h.pend,List.setIfInBounds_toArray,List.eraseIdxIfInBounds_toArray]
  congr 1
  rw [List.set_append_right _ _ (Nat.le_refl _),Nat.sub_self,List.eraseIdx_append_of_length_le (by omega),show l1.length+1 - l1.length=1 by omega]
  rfl
 rw [e1,e2]
 dsimp only
 rw [e3]
 refine wpS_bind (E_ ?_)
 have h':Sg N f kd g (l1++(sa,na+nb,pw)::l2).toArray (setPending st (l1++(sa,na+nb,pw)::l2).toArray):=⟨h.size,h.get,h.lt,h.kind,h.failed,rfl⟩
 obtain ⟨st1,hst1⟩:∃ st1,st1=setPending st (l1++(sa,na+nb,pw)::l2).toArray:=⟨_,rfl⟩
 rw [<- hst1] at h' ⊢
 refine wpS_bind (bw (h.get (sa+na) (by omega)) ?_)
 have b0:=c2 (sa+na) (by omega) (by omega)
 refine wpS_bind (EO C h'.kind (h:=fun i=>g (sa+i)) (fun i hi=>h.get _ (by omega)) (fun i hi=>by have:=c1 (sa+i) (by omega) (by omega);omega) (by omega) (fun i j _ a b=>s1 _ _ (by omega) (by omega) (by omega)) (by omega) fun k k1 k2 k3=>?_)
 dsimp only
 by_cases cz:na - k=0
 ·rw [if_pos (by rw [cz];rfl)]
  refine wpS_pure (q g st1 h' ⟨fun _ _=>rfl,fun i a b=>?_,fun i j a b c=>?_⟩)
  ·by_cases d:i < sa+na
   ·have:=c1 i a d;omega
   ·have:=c2 i (by omega) b;omega
  ·by_cases d:j < sa+na
   ·exact s1 i j a b d
   ·by_cases d2:sa+na<=i
    ·exact s2 i j d2 b c
    ·have r:=k2 (i - sa) (by omega)
     rw [show sa+(i - sa)=i by omega] at r
     by_cases d3:j=sa+na
     ·subst d3;exact r
     ·exact r.trans (s2 _ _ (by omega) (by omega) c)
 ·rw [if_neg (by simpa using cz)]
  have hlast:sa+k+(na - k) - 1=sa+na - 1:=by omega
  rw [hlast]
  refine wpS_bind (bw (h.get (sa+na - 1) (by omega)) ?_)
  have a0:=c1 (sa+na - 1) (by omega) (by omega)
  refine wpS_bind (CF C h'.kind (h:=fun i=>g (sa+na+i)) (fun i hi=>h.get _ (by omega)) (fun i hi=>by have:=c2 (sa+na+i) (by omega) (by omega);omega) (fun i j _ a b=>s2 _ _ (by omega) (by omega) (by omega)) (by omega) fun t t1 t2 t3=>?_)
  dsimp only
  by_cases cy:t=0
  ·rw [if_pos (by rw [cy];rfl)]
   subst cy
   refine wpS_pure (q g st1 h' ⟨fun _ _=>rfl,fun i a b=>?_,fun i j a b c=>?_⟩)
   ·by_cases d:i < sa+na
    ·have:=c1 i a d;omega
    ·have:=c2 i (by omega) b;omega
   ·by_cases d:j < sa+na
    ·exact s1 i j a b d
    ·by_cases d2:sa+na<=i
     ·exact s2 i j d2 b c
     ·have r:=t3 (j - (sa+na)) (by omega) (by omega)
      rw [show sa+na+(j - (sa+na))=j by omega] at r
      by_cases d3:i=sa+na - 1
      ·subst d3;exact r
      ·exact (s1 i (sa+na - 1) a (by omega) (by omega)).trans r
  ·rw [if_neg (by simpa using cy)]
   have x1:(arrOf st).extract (sa+k) (sa+na)=fa f (seg g (sa+k) (na - k)):=by
    have:=xh (f:=f) (g:=g) h.size h.get (a:=sa+k) (n:=na - k) (by omega)
    rwa [show sa+k+(na - k)=sa+na by omega] at this
   have x2:(arrOf st).extract (sa+na) (sa+na+t)=fa f (seg g (sa+na) t):=xh h.size h.get (by omega)
   rw [x1,x2]
   have sx:So o g (sa+k) (sa+k+(na - k)):=fun i j a b c=>s1 i j (by omega) b (by omega)
   have sy:So o g (sa+na) (sa+na+t):=fun i j a b c=>s2 i j a b (by omega)
   have ab:Ab o N (seg g (sa+k) (na - k)) (seg g (sa+na) t):={
    sa:=Eb sx
    sb:=Eb sy
    lt:=fun x hx y hy=>by
     obtain ⟨i,hi,rfl⟩:=gK hx
     obtain ⟨j,hj,rfl⟩:=gK hy
     have:=c1 (sa+k+i) (by omega) (by omega)
     have:=c2 (sa+na+j) (by omega) (by omega)
     omega
    nb:=fun y hy=>by
     obtain ⟨j,hj,rfl⟩:=gK hy
     exact h.lt _ (by omega)
    na:=fun y hy=>by
     obtain ⟨j,hj,rfl⟩:=gK hy
     exact h.lt _ (by omega) }
   have tp:Top o (seg g (sa+k) (na - k)) (seg g (sa+na) t):=fun i x hx hi y hy=>by
    rw [eZ] at hi
    rw [iM (by omega)] at hx
    cases hx
    obtain ⟨j,hj,rfl⟩:=gK hy
    rw [show sa+k+i=sa+na - 1 by omega]
    exact t2 j hj
   have bt:LG o (seg g (sa+k) (na - k)) (seg g (sa+na) t):=fun y hy x hx=>by
    rw [iM (by omega)] at hy
    cases hy
    obtain ⟨i,hi,rfl⟩:=gK hx
    have:=k3 (k+i) (by omega) (by omega)
    rwa [<- Nat.add_assoc] at this
   have fin:∀ out st2,Sm st1 st2->Res o f (seg g (sa+k) (na - k)) (seg g (sa+na) t) out->wpS (model prog w) A E s (do
     modify fun s=>setArr s (out.toList.zipIdx.foldl (fun a (p,j)=>a.setIfInBounds (sa+k+j) p) (arrOf s))
     let s <- get
     pure (failedOf s).isNone) Q st2:=by
    rintro out st2 hm ⟨hs,rfl,hlen,hso,hmem⟩
    rw [eZ,eZ] at hlen
    refine wpS_bind (wpS_modify (wpS_bind (wpS_get ?_)))
    have hf:(failedOf st2)=none:=by rw [hm.f];exact h'.failed
    have hmx:∀ j x,hs[j]?=some x->(∃ i,i < na - k/\x=g (sa+k+i))\/∃ i,i < t/\x=g (sa+na+i):=fun j x e=>by
     rcases hmem x (List.mem_of_getElem? e) with z | z
     ·exact .inl (gK z)
     ·exact .inr (gK z)
    have ez:(fa f hs).toList=hs.map f:=by unfold fa;rfl
    have hsz:sa+k+0+(hs.map f).length<=(arrOf st2).size:=by rw [List.length_map,hlen,hm.a,h'.size];omega
    refine wpS_pure ?_
    show Q (failedOf st2).isNone _
    rw [hf]
    refine q (fun i=>if sa+k<=i/\i < sa+k+(na - k+t) then hs.getD (i - (sa+k)) 0 else g i) _ ⟨?_,fun i hi=>?_,fun i hi=>?_,by rw [show kindOf (setArr st2 _)=kindOf st2 from rfl,hm.k];exact h'.kind,hf,by rw [show pendingOf (setArr st2 _)=pendingOf st2 from rfl,hm.p];exact h'.pend⟩ ?_
    ·have:=qz (sa+k) (fa f hs).toList 0 (arrOf st2)
     rw [hm.a,h'.size] at this
     rw [<- this,<- hm.a]
    ·show (List.foldl _ _ _)[i]?=_
     rw [ez,uZ _ _ _ _ _ hsz,List.length_map,hlen,hm.a]
     by_cases d:sa+k<=i/\i < sa+k+(na - k+t)
     ·rw [if_pos (by omega),if_pos d,List.getElem?_map,Nat.add_zero,getD_at (l:=hs) (by omega)];rfl
     ·rw [if_neg (by omega),if_neg d]
      exact h'.get i hi
    ·by_cases d:sa+k<=i/\i < sa+k+(na - k+t)
     ·rw [if_pos d]
      rcases hmx _ _ (getD_at (l:=hs) (i:=i - (sa+k)) (by omega)) with ⟨j,hj,e⟩ | ⟨j,hj,e⟩
      ·rw [e];exact h.lt _ (by omega)
      ·rw [e];exact h.lt _ (by omega)
     ·rw [if_neg d];exact h.lt i hi
    ·have gin:∀ i,sa+k<=i->i < sa+na+t->(if sa+k<=i/\i < sa+k+(na - k+t) then hs.getD (i - (sa+k)) 0 else g i)=hs.getD (i - (sa+k)) 0:=fun i a b=>if_pos (by omega)
     have gout:∀ i,i < sa+k\/sa+na+t<=i->(if sa+k<=i/\i < sa+k+(na - k+t) then hs.getD (i - (sa+k)) 0 else g i)=g i:=fun i a=>if_neg (by omega)
     refine ⟨fun i hi=>gout i (by omega),fun i a b=>?_,fun i j a b c=>?_⟩
     ·by_cases d:sa+k<=i/\i < sa+na+t
      ·show _<=ite _ _ _/\ite _ _ _ < _
       rw [gin i d.1 d.2]
       rcases hmx _ _ (getD_at (l:=hs) (i:=i - (sa+k)) (by omega)) with ⟨j,hj,e⟩ | ⟨j,hj,e⟩
       ·rw [e];have:=c1 (sa+k+j) (by omega) (by omega);omega
       ·rw [e];have:=c2 (sa+na+j) (by omega) (by omega);omega
      ·show _<=ite _ _ _/\ite _ _ _ < _
       rw [gout i (by omega)]
       by_cases d2:i < sa+na
       ·have:=c1 i a d2;omega
       ·have:=c2 i (by omega) b;omega
     ·show P o (ite _ _ _) (ite _ _ _)
      by_cases d1:i < sa+k
      ·rw [gout i (.inl d1)]
       have r:=k2 (i - sa) (by omega)
       rw [show sa+(i - sa)=i by omega] at r
       by_cases d2:j < sa+k
       ·rw [gout j (.inl d2)];exact s1 i j a b (by omega)
       ·by_cases d3:j < sa+na+t
        ·rw [gin j (by omega) d3]
         rcases hmx _ _ (getD_at (l:=hs) (i:=j - (sa+k)) (by omega)) with ⟨v,hv,e⟩ | ⟨v,hv,e⟩
         ·rw [e];exact s1 _ _ a (by omega) (by omega)
         ·rw [e]
          by_cases d4:v=0
          ·subst d4;exact r
          ·exact r.trans (s2 _ _ (by omega) (by omega) (by omega))
        ·rw [gout j (by omega)]
         exact r.trans (s2 _ _ (by omega) (by omega) c)
      ·by_cases d2:i < sa+na+t
       ·rw [gin i (by omega) d2]
        by_cases d3:j < sa+na+t
        ·rw [gin j (by omega) d3]
         exact jB hso (getD_at (by omega)) (getD_at (by omega)) (by omega)
        ·rw [gout j (by omega)]
         rcases hmx _ _ (getD_at (l:=hs) (i:=i - (sa+k)) (by omega)) with ⟨v,hv,e⟩ | ⟨v,hv,e⟩
         ·rw [e]
          have r:=t3 (j - (sa+na)) (by omega) (by omega)
          rw [show sa+na+(j - (sa+na))=j by omega] at r
          by_cases d4:sa+k+v=sa+na - 1
          ·rw [d4];exact r
          ·exact (s1 _ (sa+na - 1) (by omega) (by omega) (by omega)).trans r
         ·rw [e];exact s2 _ _ (by omega) (by omega) c
       ·rw [gout i (by omega),gout j (by omega)]
        exact s2 i j (by omega) b c
   by_cases cl:na - k<=t
   ·rw [if_pos cl]
    exact wpS_bind (Lc C h'.kind ab tp (by rw [eZ];omega) (iM (by omega)) (bt _ (iM (by omega))) fin)
   ·rw [if_neg cl]
    exact wpS_bind (LX C h'.kind ab tp bt (by rw [eZ];omega) (by rw [eZ];omega) fin)
end
noncomputable abbrev pr (x:Nat×Nat×Nat):Nat×Nat:=(x.1,x.2.1)
noncomputable def iE (o:Ord) (g:Nat->Nat):List (Nat×Nat)->Nat->Nat->Prop
 | [],a,b=>a=b
 | x::l,a,b=>x.1=a/\1<=x.2/\Cl g a (a+x.2)/\So o g a (a+x.2)/\iE o g l (a+x.2) b
noncomputable def PA (o:Ord) (g:Nat->Nat) (p:Array (Nat×Nat×Nat)) (b:Nat):Prop:=iE o g (p.toList.map pr) 0 b
section
variable {o:Ord} {g:Nat->Nat}
theorem iE.le:∀ {l:List (Nat×Nat)} {a b:Nat},iE o g l a b->a+l.length<=b
 | [],a,b,h=>by have h:a=b:=h;rw [List.length_nil];omega
 | x::l,a,b,h=>by
  have:=h.2.2.2.2.le
  have:=h.2.1
  rw [List.length_cons];omega
theorem iE.congr {g':Nat->Nat}:∀ {l:List (Nat×Nat)} {a b:Nat},iE o g l a b->(∀ i,a<=i->i < b->g' i=g i)->iE o g' l a b
 | [],a,b,h,_=>h
 | x::l,a,b,h,e=>by
  have hb:=h.2.2.2.2.le
  refine ⟨h.1,h.2.1,fun i h1 h2=>?_,fun i j h1 h2 h3=>?_,h.2.2.2.2.congr fun i h1 h2=>e i (by omega) h2⟩
  ·rw [e i h1 (by omega)];exact h.2.2.1 i h1 h2
  ·rw [e i h1 (by omega),e j (by omega) (by omega)];exact h.2.2.2.1 i j h1 h2 h3
theorem iE.app:∀ {l m:List (Nat×Nat)} {a b:Nat},iE o g (l++m) a b ↔ ∃ c,iE o g l a c/\iE o g m c b
 | [],m,a,b=>⟨fun h=>⟨a,rfl,h⟩,fun ⟨c,h1,h2⟩=>by have h1:a=c:=h1;subst h1;exact h2⟩
 | x::l,m,a,b=>by
  constructor
  ·rintro ⟨h1,h2,h3,h4,h5⟩
   obtain ⟨c,h6,h7⟩:=iE.app.mp h5
   exact ⟨c,⟨h1,h2,h3,h4,h6⟩,h7⟩
  ·rintro ⟨c,⟨h1,h2,h3,h4,h5⟩,h6⟩
   exact ⟨h1,h2,h3,h4,iE.app.mpr ⟨c,h5,h6⟩⟩
theorem Kx {p:Array (Nat×Nat×Nat)} {i:Nat} (h:i+1 < p.size):∃ l1 x y l2,p=(l1++x::y::l2).toArray/\l1.length=i:=by
 have h':i+1 < p.toList.length:=h
 refine ⟨p.toList.take i,p.toList[i],p.toList[i+1],p.toList.drop (i+2),?_,by rw [List.length_take];omega⟩
 apply Array.toList_inj.mp
 show p.toList=_
 conv=>lhs;rw [<- List.take_append_drop i p.toList,List.drop_eq_getElem_cons (show i < p.toList.length by omega),List.drop_eq_getElem_cons h']
end
section
variable {prog:Program} {w:World} {A:Around} {E:Value->Shared->Prop} {s:Shared} {o:Ord} {N:Nat} {f:Nat->Keyed} {kd:SortKind} {g:Nat->Nat} {p:Array (Nat×Nat×Nat)} {st:SortSt}
theorem wC (C:qD prog w A s o N f kd) (h:Sg N f kd g p st) {lo i:Nat} (hp:PA o g p lo) (hlo:lo<=N) (hi:i+1 < p.size)
  {Q:Bool->SortSt->Prop} (q:∀ g' p' st',Sg N f kd g' p' st'->PA o g' p' lo->p'.size+1=p.size->(∀ k,lo<=k->g' k=g k)->Q true st'):wpS (model prog w) A E s (mergeAt' i) Q st:=by
 obtain ⟨l1,⟨sa,na,pw⟩,⟨sb,nb,pv⟩,l2,rfl,rfl⟩:=Kx hi
 unfold PA at hp
 rw [show (l1++(sa,na,pw)::(sb,nb,pv)::l2).toArray.toList=l1++(sa,na,pw)::(sb,nb,pv)::l2 from rfl,List.map_append] at hp
 obtain ⟨c,h1,h2⟩:=iE.app.mp hp
 obtain ⟨e1,n1,cl1,so1,e2,n2,cl2,so2,rest⟩:=h2
 have e1:sa=c:=e1
 subst e1
 have e2:sb=sa+na:=e2
 subst e2
 have l2b:=rest.le
 have n1:1<=na:=n1
 have n2:1<=nb:=n2
 have l2b:sa+na+nb<=lo:=by
  have:sa+na+nb+(List.map pr l2).length<=lo:=l2b
  omega
 refine K0 C h n1 n2 (by omega) cl1 so1 cl2 so2 fun g' st' h' R=>q g' _ st' h' ?_ (by simp;omega) fun k hk=>R.out k (by omega)
 unfold PA
 rw [show (l1++(sa,na+nb,pw)::l2).toArray.toList=l1++(sa,na+nb,pw)::l2 from rfl,List.map_append]
 refine iE.app.mpr ⟨sa,h1.congr fun i a b=>R.out i (by omega),rfl,by show 1<=na+nb;omega,?_,?_,?_⟩
 ·show Cl g' sa (sa+(na+nb));rw [<- Nat.add_assoc];exact R.cl
 ·show So o g' sa (sa+(na+nb));rw [<- Nat.add_assoc];exact R.so
 ·show iE o g' _ (sa+(na+nb)) lo
  rw [<- Nat.add_assoc]
  exact rest.congr fun i a b=>R.out i (.inr a)
theorem qV {p:Array (Nat×Nat×Nat)} {i lo:Nat} {u:Nat×Nat×Nat->Nat×Nat×Nat} (hu:∀ x,pr (u x)=pr x) (h:PA o g p lo):PA o g (p.modify i u) lo:=by
 unfold PA at h ⊢
 have:(p.modify i u).toList.map pr=p.toList.map pr:=by
  rw [Array.toList_modify]
  apply List.ext_getElem?
  intro k
  rw [List.getElem?_map,List.getElem?_map,List.getElem?_modify]
  cases p.toList[k]? with
  | none=>rfl
  | some x=>
   show some (pr (if i=k then u x else x))=some (pr x)
   by_cases c:i=k
   ·rw [if_pos c,hu x]
   ·rw [if_neg c]
 rw [this];exact h
theorem nU {p:Array (Nat×Nat×Nat)} {lo n v:Nat} (h:PA o g p lo) (hn:1<=n) (c:Cl g lo (lo+n)) (d:So o g lo (lo+n)):PA o g (p.push (lo,n,v)) (lo+n):=by
 unfold PA at h ⊢
 rw [Array.toList_push,List.map_append]
 exact iE.app.mpr ⟨lo,h,rfl,hn,c,d,rfl⟩
theorem Sg.KC (h:Sg N f kd g p st) (p':Array (Nat×Nat×Nat)):Sg N f kd g p' (setPending st p'):=⟨h.size,h.get,h.lt,h.kind,h.failed,rfl⟩
theorem GQ (C:qD prog w A s o N f kd) (h:Sg N f kd (fun i=>i) #[] st) (hN:1<=N)
  {Q:Unit->SortSt->Prop} (q:∀ g' p' st',Sg N f kd g' p' st'->Cl g' 0 N->So o g' 0 N->Q () st'):wpS (model prog w) A E s sortRuns' Q st:=by
 rw [sortRuns'_eq]
 refine wpS_bind (wpS_get ?_)
 dsimp only
 rw [h.size]
 refine wpS_bind (wpS_mono (wpS_forRange
  (I:=fun x c st'=>∃ lo g p,c=(none,lo)/\lo<=N/\(x<=lo\/lo=N)/\Sg N f kd g p st'/\PA o g p lo/\(∀ i,lo<=i->g i=i))
  (Q:=fun c st'=>∃ g p,c=(none,N)/\Sg N f kd g p st'/\PA o g p N) ?step ?fin ⟨0,_,_,rfl,Nat.zero_le _,.inl (Nat.le_refl _),h,rfl,fun _ _=>rfl⟩) ?post)
 case fin=>
  rintro c st' ⟨lo,g,p,rfl,h1,h2,h3,h4,h5⟩
  have:lo=N:=by omega
  subst this
  exact ⟨g,p,rfl,h3,h4⟩
 case step=>
  rintro x c st' _ hx ⟨lo,g,p,rfl,h1,h2,h3,h4,h5⟩
  dsimp only
  by_cases hge:lo>=N
  ·rw [if_pos hge]
   have:lo=N:=by omega
   subst this
   exact wpS_pure ⟨g,p,rfl,h3,h4⟩
  ·rw [if_neg hge]
   refine wpS_bind (EV C h3 (by omega) (by omega) (fun i a b=>h5 i a) fun m g1 st1 s1 m1 m2 R1=>?_)
   dsimp only
   by_cases c2:m < minRun' N N 0
   ·rw [if_pos c2]
    refine wpS_bind (wpS_lift (wpAny_rule ⟨rfl,?_⟩))
    refine wpS_bind (Jz C s1 (by omega) m1 (by omega) R1 (fun i a b=>h5 i (by omega)) fun g2 st2 s2 R2=>?_)
    rw [if_neg (by decide)]
    have n2:1<=min (N - lo) (minRun' N N 0):=by omega
    have n3:lo+min (N - lo) (minRun' N N 0)<=N:=by omega
    refine wpS_bind (wpS_get ?_)
    rw [s2.pend]
    have hp2:=iE.congr h4 fun i a b=>R2.out i (.inl b)
    cases e:p.back? with
    | none=>
     dsimp only
     refine wpS_bind (wpS_modify (wpS_pure ⟨_,_,_,rfl,n3,by omega,s2.KC _,?_,fun i hi=>by rw [R2.out i (.inr hi),h5 i (by omega)]⟩))
     rw [s2.pend]
     exact nU hp2 n2 R2.cl R2.so
    | some y=>
     obtain ⟨y1,y2,y3⟩:=y
     dsimp only
     refine wpS_bind (wpS_mono (wpS_forRange (I:=fun _ c st'=>c=(none,())/\∃ g' p',Sg N f kd g' p' st'/\PA o g' p' lo/\(∀ k,lo<=k->g' k=g2 k)) (Q:=fun c st'=>c=(none,())/\∃ g' p',Sg N f kd g' p' st'/\PA o g' p' lo/\(∀ k,lo<=k->g' k=g2 k)) ?vstep (fun _ _ h=>h) ⟨rfl,_,_,s2,hp2,fun _ _=>rfl⟩) ?vpost)
     case vstep=>
      rintro x c st' _ hx ⟨rfl,g',p',h1,h2,h3⟩
      refine wpS_bind (wpS_get ?_)
      rw [h1.pend]
      by_cases c:p'.size > 1
      ·rw [if_pos c]
       cases e:p'[p'.size - 2]? with
       | none=>exact wpS_pure ⟨rfl,g',p',h1,h2,h3⟩
       | some y=>
        obtain ⟨y1,y2,y3⟩:=y
        dsimp only
        split
        ·exact wpS_pure ⟨rfl,g',p',h1,h2,h3⟩
        ·refine wpS_bind (wC C h1 h2 (by omega) (by omega) fun g3 p3 st3 s3 q3 _ z3=>?_)
         exact wpS_pure ⟨rfl,g3,p3,s3,q3,fun k hk=>by rw [z3 k hk,h3 k hk]⟩
      ·rw [if_neg c]
       exact wpS_pure ⟨rfl,g',p',h1,h2,h3⟩
     case vpost=>
      rintro c st' ⟨rfl,g',p',h1,h2,h3⟩
      dsimp only
      refine wpS_bind (wpS_modify (wpS_bind (wpS_modify (wpS_pure ⟨_,_,_,rfl,n3,by omega,(h1.KC _).KC _,?_,fun i hi=>by rw [h3 i (by omega),R2.out i (.inr hi),h5 i (by omega)]⟩))))
      show PA o g' (((pendingOf st').modify _ _).push _) _
      rw [h1.pend]
      exact nU (qV (fun _=>rfl) h2) n2 (fun i a b=>by rw [h3 i a];exact R2.cl i a b) (fun i j a b c=>by rw [h3 i a,h3 j (by omega)];exact R2.so i j a b c)
   ·rw [if_neg c2]
    have n3:lo+m<=N:=by omega
    obtain ⟨g2,hg2⟩:∃ g2,g2=g1:=⟨_,rfl⟩
    rw [<- hg2] at R1 s1
    have R2:=R1
    have s2:=s1
    have n2:=m1
    refine wpS_bind (wpS_get ?_)
    rw [s2.pend]
    have hp2:=iE.congr h4 fun i a b=>R2.out i (.inl b)
    cases e:p.back? with
    | none=>
     dsimp only
     refine wpS_bind (wpS_modify (wpS_pure ⟨_,_,_,rfl,n3,by omega,s2.KC _,?_,fun i hi=>by rw [R2.out i (.inr hi),h5 i (by omega)]⟩))
     rw [s2.pend]
     exact nU hp2 n2 R2.cl R2.so
    | some y=>
     obtain ⟨y1,y2,y3⟩:=y
     dsimp only
     refine wpS_bind (wpS_mono (wpS_forRange (I:=fun _ c st'=>c=(none,())/\∃ g' p',Sg N f kd g' p' st'/\PA o g' p' lo/\(∀ k,lo<=k->g' k=g2 k)) (Q:=fun c st'=>c=(none,())/\∃ g' p',Sg N f kd g' p' st'/\PA o g' p' lo/\(∀ k,lo<=k->g' k=g2 k)) ?vstep (fun _ _ h=>h) ⟨rfl,_,_,s2,hp2,fun _ _=>rfl⟩) ?vpost)
     case vstep=>
      rintro x c st' _ hx ⟨rfl,g',p',h1,h2,h3⟩
      refine wpS_bind (wpS_get ?_)
      rw [h1.pend]
      by_cases c:p'.size > 1
      ·rw [if_pos c]
       cases e:p'[p'.size - 2]? with
       | none=>exact wpS_pure ⟨rfl,g',p',h1,h2,h3⟩
       | some y=>
        obtain ⟨y1,y2,y3⟩:=y
        dsimp only
        split
        ·exact wpS_pure ⟨rfl,g',p',h1,h2,h3⟩
        ·refine wpS_bind (wC C h1 h2 (by omega) (by omega) fun g3 p3 st3 s3 q3 _ z3=>?_)
         exact wpS_pure ⟨rfl,g3,p3,s3,q3,fun k hk=>by rw [z3 k hk,h3 k hk]⟩
      ·rw [if_neg c]
       exact wpS_pure ⟨rfl,g',p',h1,h2,h3⟩
     case vpost=>
      rintro c st' ⟨rfl,g',p',h1,h2,h3⟩
      dsimp only
      refine wpS_bind (wpS_modify (wpS_bind (wpS_modify (wpS_pure ⟨_,_,_,rfl,n3,by omega,(h1.KC _).KC _,?_,fun i hi=>by rw [h3 i (by omega),R2.out i (.inr hi),h5 i (by omega)]⟩))))
      show PA o g' (((pendingOf st').modify _ _).push _) _
      rw [h1.pend]
      exact nU (qV (fun _=>rfl) h2) n2 (fun i a b=>by rw [h3 i a];exact R2.cl i a b) (fun i j a b c=>by rw [h3 i a,h3 j (by omega)];exact R2.so i j a b c)
 case post=>
  rintro c st' ⟨g,p,rfl,h1,h2⟩
  dsimp only
  refine wpS_bind (wpS_mono (wpS_forRange
   (I:=fun x c st''=>c=(none,())/\∃ g p,Sg N f kd g p st''/\PA o g p N/\(p.size<=1\/p.size+x<=N))
   (Q:=fun c st''=>c=(none,())/\∃ g p,Sg N f kd g p st''/\PA o g p N/\p.size<=1) ?fstep ?ffin ⟨rfl,g,p,h1,h2,.inr ?finit⟩) ?fpost)
  case finit=>
   have:=iE.le h2
   rw [List.length_map] at this
   show p.toList.length+0<=N
   omega
  case ffin=>
   rintro c st'' ⟨rfl,g,p,h1,h2,h3⟩
   exact ⟨rfl,g,p,h1,h2,by omega⟩
  case fstep=>
   rintro x c st'' _ hx ⟨rfl,g,p,h1,h2,h3⟩
   refine wpS_bind (wpS_get ?_)
   rw [h1.pend]
   by_cases c:p.size<=1
   ·rw [if_pos c]
    exact wpS_pure ⟨rfl,g,p,h1,h2,c⟩
   ·rw [if_neg c]
    have il:∀ (d:Prop) [Decidable d],(if d then p.size - 2 - 1 else p.size - 2)+1 < p.size:=fun d _=>by
     by_cases hd:d
     ·rw [if_pos hd];omega
     ·rw [if_neg hd];omega
    refine wpS_bind (wC C h1 h2 (Nat.le_refl _) (il _) fun g' p' st3 s3 q3 z3 _=>?_)
    exact wpS_pure ⟨rfl,g',p',s3,q3,by omega⟩
  case fpost=>
   rintro c st'' ⟨rfl,g,p,h1,h2,h3⟩
   dsimp only
   refine wpS_pure ?_
   unfold PA at h2
   have h3:p.toList.length<=1:=h3
   match hl:p.toList,h3 with
   | [],_=>
    rw [hl] at h2
    have:0=N:=h2
    omega
   | [x],_=>
    rw [hl] at h2
    obtain ⟨e1,e2,e3,e4,e5⟩:=h2
    have e5:0+x.2.1=N:=e5
    have e3:Cl g 0 (0+x.2.1):=e3
    have e4:So o g 0 (0+x.2.1):=e4
    rw [e5] at e3 e4
    exact q g p st'' h1 e3 e4
end
noncomputable abbrev vK (h:Heap) (a:Addr) (vs:List Value):Heap:=((h.update a (Obj.mapSeq fun _=>#[])).push (seqObj "tuple" vs.toArray 0)).push (seqObj "list" #[] 0)
theorem Gh {h:Heap} {a b:Addr} {vs:List Value} (hb:b≠a) (hlt:b < h.objs.size):(vK h a vs).get? b=h.get? b:=by
 rw [Heap.get?_push_ne _ _ _ (by rw [size_push',Heap.size_update];exact Nat.ne_of_lt (Nat.lt_succ_of_lt hlt)),
  Heap.get?_push_ne _ _ _ (by rw [Heap.size_update];exact Nat.ne_of_lt hlt),Heap.get?_update_ne _ _ _ _ hb]
noncomputable abbrev vv (vs:List Value) (i:Nat):Keyed:=(vs.getD i .none,vs.getD i .none)
theorem zip_get (vs:List Value) {i:Nat} (h:i < vs.length):(vs.toArray.zip vs.toArray)[i]?=some (vv vs i):=by
 have e:vs[i]?=some (vs.getD i .none):=by rw [List.getD_eq_getElem?_getD,List.getElem?_eq_getElem h];rfl
 rw [Array.getElem?_zip_eq_some]
 exact ⟨by rw [List.getElem?_toArray];exact e,by rw [List.getElem?_toArray];exact e⟩
section
variable {prog:Program} {w:World} {A:Around} {E:Value->Shared->Prop} {s:Shared} {o:Ord} {kd:SortKind}
theorem rB {a:Addr} {vs:List Value} {n:Nat} {P:PySem.Fin->Shared->Prop} (hL:s.heap.get? a=some (seqObj "list" vs.toArray n)) (hsz:vs.length<=sizeLine)
  (hkk:2<=vs.length->∀ Q:SortKind->Shared->Prop,Q kd { s with heap:=vK s.heap a vs }->wpAny (model prog w) A (keyKind' vs.toArray) Q E { s with heap:=vK s.heap a vs })
  (C:2<=vs.length->qD prog w A { s with heap:=vK s.heap a vs } o vs.length (vv vs) kd)
  (h:∀ g,Cl g 0 vs.length->So o g 0 vs.length->P (.done (.ret .none)) { s with heap:=sortedHeap s.heap a vs ((List.range vs.length).map fun i=>vs.getD (g i) .none).toArray }) :
  wpAny (model prog w) A (Builtin.«list.sort» ⟨[.ref a],[]⟩) P E s:=by
 rw [list_sort_plain]
 have lta:a < s.heap.objs.size:=Heap.lt_size hL
 refine wpAny_bind (listItems_at hL rfl ?_)
 refine wpAny_bind (listUpdate_at hL rfl ?_ (by rw [List.size_toArray];exact hsz) (Nat.zero_le _))
 obtain ⟨ep,hL1⟩:∃ ep,(s.heap.update a (Obj.mapSeq fun _=>#[])).get? a=some (seqObj "list" #[] ep):=⟨_,get?_update_seq hL (fun _=>#[])⟩
 refine wpAny_bind (seqEpoch_at hL1 rfl ?_)
 refine wpAny_bind (wpAny_newTuple ?_)
 refine wpAny_bind (wpAny_newList ?_)
 refine wpAny_holding ?_
 have hL6:(vK s.heap a vs).get? a=some (seqObj "list" #[] ep):=by
  rw [Heap.get?_push_ne _ _ _ (by rw [size_push',Heap.size_update];exact Nat.ne_of_lt (Nat.lt_succ_of_lt lta)),Heap.get?_push_ne _ _ _ (by rw [Heap.size_update];exact Nat.ne_of_lt lta)]
  exact hL1
 show wpAny (model prog w) A _ P E { s with heap:=vK s.heap a vs }
 dsimp only
 have hz:vs.toArray.size=vs.length:=by simp
 have getE:∀ i,i < vs.length->vs[i]?=some (vs.getD i .none):=fun i hi=>by rw [List.getD_eq_getElem?_getD,List.getElem?_eq_getElem hi];rfl
 have gA:∀ (arr:Array Keyed) (g:Nat->Nat),arr.size=vs.length->(∀ i,i < vs.length->arr[i]?=some (vv vs (g i)))->arr.map (·.2)=((List.range vs.length).map fun i=>vs.getD (g i) .none).toArray:=fun arr g h1 two=>by
  apply Array.ext_getElem?
  intro i
  have e0:((List.range vs.length).map fun i=>vs.getD (g i) Value.none).toArray[i]?=((List.range vs.length).map fun i=>vs.getD (g i) Value.none)[i]?:=List.getElem?_toArray ..
  rw [Array.getElem?_map,e0,List.getElem?_map]
  by_cases c:i < vs.length
  ·rw [two i c,List.getElem?_range c];rfl
  ·rw [Array.getElem?_eq_none (by omega),List.getElem?_eq_none (by rw [List.length_range];omega)];rfl
 by_cases two:vs.toArray.size < 2
 ·rw [if_pos two,if_pos two]
  refine wpAny_bind (wpAny_pure ?_)
  rw [StateT.run_pure]
  refine wpAny_bind (wpAny_pure ?_)
  dsimp only
  refine wpAny_bind (seqEpoch_at hL6 rfl ?_)
  have oe:=gA (vs.toArray.zip vs.toArray) (fun i=>i) (by rw [Array.size_zip,hz];omega) fun i hi=>zip_get vs hi
  refine wpAny_bind (listUpdate_at hL6 rfl ?_ (by simp) (hsz2:=by rw [Array.size_map];show (vs.toArray.zip vs.toArray).size<=_;rw [Array.size_zip,hz];omega))
  simp only [bne_self_eq_false,Bool.false_eq_true,if_false]
  refine wpAny_pure ?_
  have:=h (fun i=>i) (fun i a b=>⟨a,b⟩) (fun i j a b c=>by omega)
  rw [<- oe] at this
  exact this
 ·rw [if_neg two,if_neg two]
  have h2':2<=vs.length:=by omega
  refine wpAny_bind (hkk h2' _ ?_)
  refine wpAny_bind (wpAny_mono (GQ (f:=vv vs) (N:=vs.length) (C h2') (st:=SortSt.mk' kd (vs.toArray.zip vs.toArray) #[] 7 none)
   (Q:=fun _ st'=>∃ g p,Sg vs.length (vv vs) kd g p st'/\Cl g 0 vs.length/\So o g 0 vs.length)
   ⟨by show (vs.toArray.zip vs.toArray).size=_;rw [Array.size_zip,hz];omega,fun i hi=>zip_get vs hi,fun i hi=>hi,rfl,rfl,rfl⟩ (by omega) fun g' p' st' a1 a2 a3=>⟨g',p',a1,a2,a3⟩) ?_ fun _ _ e=>e)
  rintro ⟨⟨⟩,st'⟩ s' ⟨rfl,g,p,hS,hc,hso⟩
  dsimp only
  refine wpAny_bind (seqEpoch_at hL6 rfl ?_)
  have oe:=gA (arrOf st') g hS.size hS.get
  refine wpAny_bind (listUpdate_at hL6 rfl ?_ (by simp) (hsz2:=by have hh:(arrOf st').size=vs.length:=hS.size;show ((arrOf st').map (·.2)).size<=_;rw [Array.size_map,hh];omega))
  rw [hS.failed]
  simp only [bne_self_eq_false,Bool.false_eq_true,if_false]
  have:=h g hc hso
  rw [<- oe] at this
  exact wpAny_pure this
end
section
variable {prog:Program} {w:World} {A:Around} {E:Value->Shared->Prop} {s:Shared}
theorem Ae (b:Bool) (x y:Value):keyLt' (tuples' b) x y=(do
  let us <- Builtin.List.listItems x
  let vs <- Builtin.List.listItems y
  for ((u,v),k) in (us.toList.zip vs.toList).zipIdx do
   if !(<- eqBool u v) then return <- oneLt' (b && k == 0) u v
  return us.size < vs.size):=rfl
theorem yl (b:Bool) {x y:Int} {t u:Tok} {Q:Bool->Shared->Prop} (h:Q (decide (x < y)) s):wpAny (model prog w) A (oneLt' b (.int x t) (.int y u)) Q E s:=by
 cases b with
 | true=>exact oneLt_int h
 | false=>
  rw [oneLt'_eq]
  simp only [Bool.false_eq_true,if_false]
  exact wpAny_bind (PySem.P.lt_int (wpAny_truthy_bool h))
theorem vO (b:Bool) {l k:Addr} {xs ys:List Value} {ns ms:List Int} {Q:Bool->Shared->Prop} (hl:IsTup s.heap l xs.toArray) (hk:IsTup s.heap k ys.toArray) (hi:IntsAre xs ns) (hj:IntsAre ys ms) (h:Q (HT.lexLt ns ms) s) :
  wpAny (model prog w) A (keyLt' (tuples' b) (.ref l) (.ref k)) Q E s:=by
 rw [Ae]
 obtain ⟨o1,ho1,_,n1,hd1⟩:=hl
 obtain ⟨o2,ho2,_,n2,hd2⟩:=hk
 refine wpAny_bind (listItems_at ho1 hd1 ?_)
 refine wpAny_bind (listItems_at ho2 hd2 ?_)
 have key:∀ (xs ys:List Value) (ns ms:List Int) (n:Nat),IntsAre xs ns->IntsAre ys ms->∀ Q':Option Bool×Unit->Shared->Prop,(∀ r,(r=some (HT.lexLt ns ms)\/(r=none/\HT.lexLt ns ms=decide (xs.length < ys.length)))->Q' (r,()) s) ->
   wpAny (model prog w) A (forIn ((xs.zip ys).zipIdx n) ((none,()):Option Bool×Unit) fun x c=>match x with
      | ((p,q),i)=>do
       let e <- eqBool p q
       if (!e)=true then do
         let r <- oneLt' (b && i == 0) p q
         pure (ForInStep.done (some r,()))
        else pure (ForInStep.yield (none,()))) Q' E s:=by
  intro xs
  induction xs with
  | nil=>
   intro ys ns ms n h1 h2 Q' q
   cases h1
   rw [List.zip_nil_left,List.zipIdx_nil,List.forIn_nil]
   refine wpAny_pure (q none (.inr ⟨rfl,?_⟩))
   cases h2 with
   | nil=>rw [HT.gX];rfl
   | cons a t h2=>rw [HT.eE,decide_eq_true (by simp)]
  | cons v vs ih=>
   intro ys ns ms n h1 h2 Q' q
   cases h1 with
   | cons a t h1=>
    cases h2 with
    | nil=>
     rw [List.zip_nil_right,List.zipIdx_nil,List.forIn_nil]
     exact wpAny_pure (q none (.inr ⟨rfl,by rw [HT.gh,decide_eq_false (by simp)]⟩))
    | cons c u h2=>
     rw [List.zip_cons_cons,List.zipIdx_cons,List.forIn_cons]
     rw [HT.iY] at q
     dsimp only
     refine wpAny_bind (wpAny_bind (wpAny_eqBool_int ?_))
     by_cases e:a=c
     ·rw [if_pos e] at q
      subst e
      simp only [beq_self_eq_true,Bool.not_true,Bool.false_eq_true,if_false]
      refine wpAny_pure (ih _ _ _ _ h1 h2 _ fun r hr=>q r ?_)
      rcases hr with hr | ⟨hr,hz⟩
      ·exact .inl hr
      ·exact .inr ⟨hr,by rw [hz];simp⟩
     ·rw [if_neg e] at q
      have e':(a == c)=false:=by simpa using e
      simp only [e',Bool.not_false,if_true]
      exact wpAny_bind (yl _ (wpAny_pure (wpAny_pure (q _ (.inl rfl)))))
 refine wpAny_bind (key xs ys ns ms 0 hi hj _ fun r hr=>?_)
 rcases hr with rfl | ⟨rfl,hz⟩
 ·exact wpAny_pure h
 ·dsimp only
  rw [List.size_toArray,List.size_toArray,<- hz]
  exact wpAny_pure h
end
theorem sd:∀ a:List Int,HT.lexLt a a=false
 | []=>HT.gX
 | x::a=>by rw [HT.iY,if_pos rfl];exact sd a
theorem rH:∀ {a b c:List Int},HT.lexLt a b=true->HT.lexLt b c=true->HT.lexLt a c=true
 | [],[],_,h,_=>by rw [HT.gX] at h;cases h
 | x::a,[],_,h,_=>by rw [HT.gh] at h;cases h
 | _,y::b,[],_,h=>by rw [HT.gh] at h;cases h
 | [],y::b,z::c,_,_=>HT.eE ..
 | x::a,y::b,z::c,h1,h2=>by
  rw [HT.iY] at h1 h2 ⊢
  by_cases e1:x=y
  ·rw [if_pos e1] at h1
   by_cases e2:y=z
   ·rw [if_pos e2] at h2
    rw [if_pos (e1.trans e2)];exact rH h1 h2
   ·rw [if_neg e2] at h2
    have:=of_decide_eq_true h2
    rw [if_neg (by omega)];exact decide_eq_true (by omega)
  ·rw [if_neg e1] at h1
   have l1:=of_decide_eq_true h1
   by_cases e2:y=z
   ·rw [if_neg (by omega)];exact decide_eq_true (by omega)
   ·rw [if_neg e2] at h2
    have:=of_decide_eq_true h2
    rw [if_neg (by omega)];exact decide_eq_true (by omega)
theorem rS:∀ {a b:List Int},HT.lexLt a b=false->HT.lexLt b a=false->a=b
 | [],[],_,_=>rfl
 | [],y::b,h,_=>by rw [HT.eE] at h;cases h
 | x::a,[],_,h=>by rw [HT.eE] at h;cases h
 | x::a,y::b,h1,h2=>by
  rw [HT.iY] at h1 h2
  by_cases e:x=y
  ·rw [if_pos e] at h1
   rw [if_pos e.symm] at h2
   rw [e,rS h1 h2]
  ·rw [if_neg e] at h1
   rw [if_neg (fun z=>e z.symm)] at h2
   have:=of_decide_eq_false h1
   have:=of_decide_eq_false h2
   omega
theorem yI {a b c:List Int} (h:HT.lexLt a c=true):HT.lexLt a b=true\/HT.lexLt b c=true:=by
 cases e:HT.lexLt a b with
 | true=>exact .inl rfl
 | false=>
  right
  cases e2:HT.lexLt b a with
  | true=>exact rH e2 h
  | false=>rw [<- rS e e2];exact h
noncomputable def Ec (kss:List (List Int)):Ord where
 lt i j:=HT.lexLt (kss.getD i []) (kss.getD j [])
 EK i:=sd _
 tr i j k:=rH
 neg i j k:=yI
section
variable {prog:Program} {w:World} {A:Around} {E:Value->Shared->Prop} {s:Shared}
theorem ze {α β:Type} {M:Model} {f:α->Sem β} (r:α->β):∀ (l:List α),(∀ a∈l,∀ Q:β->Shared->Prop,Q (r a) s->wpAny M A (f a) Q E s)->∀ Q:List β->Shared->Prop,Q (l.map r) s->wpAny M A (l.mapM f) Q E s
 | [],_,Q,q=>by rw [List.mapM_nil];exact wpAny_pure q
 | a::l,h,Q,q=>by
  rw [List.mapM_cons]
  refine wpAny_bind (h a (List.mem_cons_self ..) _ (wpAny_bind (ze r l (fun b hb=>h b (List.mem_cons_of_mem _ hb)) _ (wpAny_pure q))))
theorem yg {α β:Type} {M:Model} {f:α->Sem β} (r:α->β) (l:List α) (h:∀ a∈l,∀ Q:β->Shared->Prop,Q (r a) s->wpAny M A (f a) Q E s) (Q:Array β->Shared->Prop) (q:Q (l.map r).toArray s):wpAny M A (l.toArray.mapM f) Q E s:=by
 rw [List.mapM_toArray,map_eq_pure_bind]
 exact wpAny_bind (ze r l h _ (wpAny_pure q))
theorem BG (u:Value):firstOfTuple' u=(do
  if (<- typeOf u) != .type "tuple" then return none
  return (<- Builtin.List.listItems u)[0]?):=rfl
theorem Aw {vs:List Value} (h0:vs≠[]) (ht:∀ v∈vs,∃ (l:Addr) (xs:List Value) (n:Int) (t:Tok),v=.ref l/\IsTup s.heap l (.int n t::xs).toArray) {Q:SortKind->Shared->Prop} (q:Q (tuples' true) s) :
  wpAny (model prog w) A (keyKind' vs.toArray) Q E s:=by
 have ch:∀ v,∃ x:Int×Tok,v∈vs->∃ (l:Addr) (xs:List Value),v=.ref l/\IsTup s.heap l (.int x.1 x.2::xs).toArray:=fun v=>by
  by_cases c:v∈vs
  ·obtain ⟨l,xs,n,t,e1,e2⟩:=ht v c
   exact ⟨(n,t),fun _=>⟨l,xs,e1,e2⟩⟩
  ·exact ⟨(0,0),fun z=>absurd z c⟩
 obtain ⟨F,hF⟩:=Classical.axiomOfChoice ch
 rw [keyKind'_eq]
 refine wpAny_bind (yg (fun v=>some (Value.int (F v).1 (F v).2)) vs (fun v hv Q' q'=>?_) _ ?_)
 ·obtain ⟨l,xs,rfl,o,ho,hc,n,hd⟩:=hF v hv
  rw [BG]
  refine wpAny_bind (wpAny_typeOf (T := "tuple") ⟨o,ho,hc⟩ ?_)
  rw [if_neg (by decide)]
  exact wpAny_bind (listItems_at ho hd (wpAny_pure q'))
 ·rw [if_pos (by simp)]
  refine wpAny_bind (wpAny_rule ?_)
  have e1:(vs.map fun v=>some (Value.int (F v).1 (F v).2)).toArray.filterMap id=(vs.map fun v=>Value.int (F v).1 (F v).2).toArray:=by
   rw [List.filterMap_toArray,List.filterMap_map]
   congr 1
   rw [show (id ∘ fun v=>some (Value.int (F v).1 (F v).2))=fun v=>some (Value.int (F v).1 (F v).2) from rfl]
   exact congrFun List.filterMap_eq_map' vs
  rw [e1,oneTypeOnly'_eq]
  refine wpAny_bind (wpAny_bind (yg (fun _=>Value.type "int") _ (fun v hv Q' q'=>?_) _ ?_))
  ·obtain ⟨u,_,rfl⟩:=List.mem_map.mp hv
   exact wpAny_pure q'
  ·rw [List.map_map]
   obtain ⟨v0,vs',rfl⟩:∃ v0 vs',vs=v0::vs':=by
    cases vs with
    | nil=>exact absurd rfl h0
    | cons a b=>exact ⟨a,b,rfl⟩
   have ha:((List.map ((fun _=>Value.type "int") ∘ fun v=>Value.int (F v).1 (F v).2) (v0::vs')).toArray.all fun x=>x == Value.type "int")=true:=by
    simp only [List.all_toArray,List.all_map,List.all_eq_true]
    intro _ _
    rfl
   have hz:(List.map ((fun _=>Value.type "int") ∘ fun v=>Value.int (F v).1 (F v).2) (v0::vs')).toArray[0]?=some (Value.type "int"):=by simp
   rw [hz]
   simp only [ha,if_true]
   exact wpAny_pure (wpAny_pure q)
end
end Sx
namespace L2
open PySem PySem.Spec PyProof.Rows
section
variable {X:Cx}
theorem qO:∀ {rs:List Addr} {its:List Value},Vals (rs.map V.ref) its->its=rs.map Value.ref
 | [],_,r=>by cases r;rfl
 | a::rs,_,r=>by
  cases r with
  | cons h t=>
   have e:_=Value.ref a:=h
   rw [e,qO t];rfl
theorem qK:∀ (rs:List Addr),Vals (rs.map V.ref) (rs.map Value.ref)
 | []=>.nil
 | a::rs=>.cons (show RelV (.ref a) (.ref a) from rfl) (qK rs)
theorem AF {pins:List (Addr×Obj)} {s:Shared} {σ:St} {H:Hp} {Q:VK} {h':Heap} {tk:Nat} {rs:List Addr} {kss:List (List Int)} (I1:Inv X pins σ H { s with heap:=h',toks:=tk }) (hlen:rs.length=kss.length) (hz:rs.length<=sizeLine)
  (hT:∀ (i:Nat) (r:Addr) (ks:List Int),rs[i]?=some r->kss[i]?=some ks->fC X.K H r (ks.map V.int)/\ks≠[])
  (q:∀ l g,H l=none->Sx.Cl g 0 kss.length->Sx.So (Sx.Ec kss) g 0 kss.length->Q (.ref l) (upd H l (.lst (((List.range kss.length).map fun i=>rs.getD (g i) 0).map V.ref)))) :
  wpAny (model X.prog X.w) X.A.in1 (do
   let l <- newList (rs.map Value.ref)
   let _ <- holding [l] (call (Value.builtin "list.sort") [l] [])
   ret l) (fun fin s'=>∃ v,fin=Fin.done (Flow.ret v)/\EP X pins σ Q v s') X.xe { s with heap:=h',toks:=tk }:=by
 have hN:(rs.map Value.ref).length=kss.length:=by rw [List.length_map,hlen]
 refine wpAny_bind (wpAny_newList ?_)
 have hoL:(h'.push (seqObj "list" (rs.map Value.ref).toArray 0)).get? h'.objs.size=some (seqObj "list" (rs.map Value.ref).toArray 0):=Heap.get?_push_size _ rfl
 show wpAny _ _ _ _ _ { s with toks:=tk,heap:=h'.push (seqObj "list" (rs.map Value.ref).toArray 0) }
 have tup:∀ (i:Nat) (r:Addr) (ks:List Int),rs[i]?=some r->kss[i]?=some ks->∃ its:List Value,IntsAre its ks/\IsTup (Sx.vK (h'.push (seqObj "list" (rs.map Value.ref).toArray 0)) h'.objs.size (rs.map Value.ref)) r its.toArray:=fun i r ks e1 e2=>by
  obtain ⟨its,rv,⟨o,ho,hc,n,hd⟩,_⟩:=I1.tuple (hT i r ks e1 e2).1
  refine ⟨its,intsAre_of rv,o,?_,hc,n,hd⟩
  have lt:r < h'.objs.size:=Heap.lt_size ho
  rw [Sx.Gh (Nat.ne_of_lt lt) (by rw [Heap.size_push];exact Nat.lt_succ_of_lt lt)]
  exact Heap.get?_push_of_some _ ho
 refine wpAny_bind (wpAny_holding (wpAny_call_entry slot_list_sort ⟨_,hoL,rfl⟩ entry_list_sort (Sx.rB (o:=Sx.Ec kss) (kd:=tuples' true) hoL (by rw [hN];omega) (fun h2 Q' q'=>?_) (fun h2 i j hi hj E' Q' q'=>?_) fun g hc hs=>⟨_,rfl,?_⟩) (args_list_sort _)))
 ·refine Sx.Aw (fun z=>by rw [z] at h2;simp at h2) (fun v hv=>?_) q'
  obtain ⟨i,hi⟩:=List.getElem?_of_mem hv
  rw [List.getElem?_map] at hi
  obtain ⟨r,hr,rfl⟩:=Option.map_eq_some_iff.mp hi
  have lt:=(List.getElem?_eq_some_iff.mp hr).1
  have e2:kss[i]?=some kss[i]:=List.getElem?_eq_getElem (by omega)
  obtain ⟨its,h1,h3⟩:=tup i r _ hr e2
  have hne:=(hT i r _ hr e2).2
  generalize kss[i]=ks at h1 hne
  cases h1 with
  | nil=>exact absurd rfl hne
  | cons a t h1=>exact ⟨r,_,a,t,rfl,h3⟩
 ·rw [hN] at hi hj
  have e1:rs[i]?=some (rs[i]'(by omega)):=List.getElem?_eq_getElem _
  have e2:rs[j]?=some (rs[j]'(by omega)):=List.getElem?_eq_getElem _
  have k1:kss[i]?=some kss[i]:=List.getElem?_eq_getElem hi
  have k2:kss[j]?=some kss[j]:=List.getElem?_eq_getElem hj
  obtain ⟨x1,a1,b1⟩:=tup i _ _ e1 k1
  obtain ⟨x2,a2,b2⟩:=tup j _ _ e2 k2
  have v1:(rs.map Value.ref).getD i .none=.ref (rs[i]'(by omega)):=by rw [List.getD_eq_getElem?_getD,List.getElem?_map,e1];rfl
  have v2:(rs.map Value.ref).getD j .none=.ref (rs[j]'(by omega)):=by rw [List.getD_eq_getElem?_getD,List.getElem?_map,e2];rfl
  show wpAny _ _ (keyLt' (tuples' true) ((rs.map Value.ref).getD i .none) ((rs.map Value.ref).getD j .none)) Q' E' _
  rw [v1,v2]
  refine Sx.vO true b1 b2 a1 a2 ?_
  have d1:kss.getD i []=kss[i]:=by rw [List.getD_eq_getElem?_getD,k1];rfl
  have d2:kss.getD j []=kss[j]:=by rw [List.getD_eq_getElem?_getD,k2];rfl
  have:(Sx.Ec kss).lt i j=HT.lexLt kss[i] kss[j]:=by show HT.lexLt _ _=_;rw [d1,d2]
  rw [<- this];exact q'
 ·rw [hN] at hc hs ⊢
  obtain ⟨e,he⟩:=sortedHeap_at (out:=((List.range kss.length).map fun i=>(rs.map Value.ref).getD (g i) .none).toArray) hoL
  have old:∀ b ob,h'.get? b=some ob->(sortedHeap (h'.push (seqObj "list" (rs.map Value.ref).toArray 0)) h'.objs.size (rs.map Value.ref) ((List.range kss.length).map fun i=>(rs.map Value.ref).getD (g i) .none).toArray).get? b=some ob:=fun b ob eb=>by
   rw [sortedHeap_old (Nat.ne_of_lt (Heap.lt_size eb)) (by rw [Heap.size_push];exact Nat.lt_succ_of_lt (Heap.lt_size eb))]
   exact Heap.get?_push_of_some _ eb
  refine wpAny_pure ⟨_,rfl,.ref h'.objs.size,_,I1.laid (t':=tk) (o:=.lst (((List.range kss.length).map fun i=>rs.getD (g i) 0).map V.ref)) old (Nat.le_refl _) ?_,rfl,q _ g (I1.hok.fresh (Nat.le_refl _)) hc hs⟩
  refine ⟨by rw [List.length_map,List.length_map,List.length_range];omega,((List.range kss.length).map fun i=>rs.getD (g i) 0).map Value.ref,e,qK _,?_⟩
  rw [he]
  congr 2
  rw [List.map_map]
  congr 1
  refine List.map_congr_left fun i hi=>?_
  have:=(hc i (Nat.zero_le _) (List.mem_range.mp hi)).2
  have lt:g i < rs.length:=by omega
  show (rs.map Value.ref).getD (g i) .none=Value.ref (rs.getD (g i) 0)
  rw [List.getD_eq_getElem?_getD,List.getElem?_map,List.getElem?_eq_getElem lt,List.getD_eq_getElem?_getD,List.getElem?_eq_getElem lt];rfl
end
end L2
namespace Sx
open PySem PyProof.Rows
open PySem.AutoSeq1 (wpAny_loadPart')
open PySem.MeetsSeq PySem.MeetsSeq2 PySem.MeetsSeq3
theorem nS:∀ {xs:List Value} {ns:List Int} {i:Nat},IntsAre xs ns->i < ns.length->∃ t,xs[i]?=some (.int (ns.getD i 0) t)
 | _,_,i,.nil,h=>absurd h (Nat.not_lt_zero _)
 | _,_,0,.cons n t h,_=>⟨t,rfl⟩
 | _,_,i+1,.cons n t h,hi=>by
  obtain ⟨t',e⟩:=nS h (i:=i) (by simpa using hi)
  exact ⟨t',by simpa using e⟩
section
variable {prog:Program} {w:World} {A:Around} {E:Value->Shared->Prop} {s:Shared}
end
end Sx
namespace L2
open PySem PySem.Spec PyProof.Rows
section
variable {X:Cx}
end
end L2
namespace Am
open PySem
inductive A where
 | unb | non | bl (b:Bool) | int (i:Int) | str (x:Str) | tup (xs:List A) | frz (xs:List A) | rng (lo hi:Int) | ref (n:Nat) | exn (c:Str) | ty (n:String) | ktu (xs:List A)
inductive O where
 | lst (xs:List A) | dct (kvs:List (List Int×A)) | eY (kvs:List (Int×A)) | ins (c:Str) (fs:List (Str×A))
noncomputable abbrev az:=List O
inductive R (α:Type) where
 | ok (a:α) (S:az) | ex (c:Str) (S:az) | no
noncomputable def R.bind {α β:Type} (r:R α) (f:α->az->R β):R β:=match r with
 | .ok a S=>f a S
 | .ex c S=>.ex c S
 | .no=>.no
noncomputable def R.post {α:Type} (r:R α) (P:α->az->Prop) (E:Str->az->Prop):Prop:=match r with
 | .ok a S=>P a S
 | .ex c S=>E c S
 | .no=>False
theorem aM {α β:Type} {r:R α} {f:α->az->R β} {P:β->az->Prop} {E:Str->az->Prop} (h:(r.bind f).post P E):r.post (fun a S=>(f a S).post P E) E:=by
 cases r <;> exact h
theorem mQ {α:Type} {r:R α} {P P':α->az->Prop} {E E':Str->az->Prop} (h:r.post P E) (hp:∀ a S,P a S->P' a S) (he:∀ c S,E c S->E' c S):r.post P' E':=by
 cases r with
 | ok a S=>exact hp _ _ h
 | ex c S=>exact he _ _ h
 | no=>exact h.elim
noncomputable def gd {α:Type} (c:Prop) [Decidable c] (r:R α):R α:=if c then r else .no
noncomputable def opt {α β:Type} (o:Option β) (f:β->R α):R α:=match o with
 | some b=>f b
 | none=>.no
theorem bu {α:Type} {c:Prop} [Decidable c] {r:R α} {P:α->az->Prop} {E:Str->az->Prop} (h:(gd c r).post P E):c/\r.post P E:=by
 unfold gd at h
 by_cases hc:c
 ·rw [if_pos hc] at h;exact ⟨hc,h⟩
 ·rw [if_neg hc] at h;exact h.elim
theorem aL {α β:Type} {o:Option β} {f:β->R α} {P:α->az->Prop} {E:Str->az->Prop} (h:(opt o f).post P E):∃ b,o=some b/\(f b).post P E:=by
 cases o with
 | none=>exact h.elim
 | some b=>exact ⟨b,rfl,h⟩
theorem M7 {α:Type} {c:Prop} [Decidable c] {r:R α} (h:c):gd c r=r:=if_pos h
noncomputable def au (S:az) (n:Nat):Option (List A):=match S[n]? with
 | some (.lst xs)=>some xs
 | _=>none
theorem aU {S:az} {n:Nat} {xs:List A} (h:au S n=some xs):S[n]?=some (.lst xs):=by
 unfold au at h
 split at h
 ·rename_i e;cases h;exact e
 ·cases h
theorem kX {S:az} {n:Nat} {xs:List A} (h:S[n]?=some (.lst xs)):au S n=some xs:=by
 unfold au;rw [h]
inductive RS where
 | nx (τ:List A) (S:az) | rt (a:A) (S:az) | bk (τ:List A) (S:az) | ct (τ:List A) (S:az) | ex (c:Str) (S:az) | no
noncomputable abbrev Ex:=List A->az->R A
noncomputable abbrev gB:=List A->az->R (List A)
noncomputable abbrev Te:=List A->az->R Bool
noncomputable abbrev Sm:=List A->az->RS
noncomputable abbrev Tg:=A->List A->az->R (List A)
end Am
namespace Am
open PySem L2
section
variable (K:PySem.W.Frag) (ρ:List Addr) (H:Hp)
noncomputable def wK (K:PySem.W.Frag) (c:Str) (C:Addr):Prop:=PySem.W.nsIn K mainGlobals c=some (some (.ref C))
noncomputable def Fz (K:PySem.W.Frag) (H:Hp) (a:Addr) (vs:List V):Prop:=
 (∃ o,H a=some (.frz o (.lst vs)))\/∃ (o:Obj) (its:Array Value) (n:Nat),K.lookup a=some o/\o.cls=.type "list" /\ o.dict=none/\o.data=.seq its n/\its.size<=sizeLine/\Vals vs its.toList
noncomputable def N6 (K:PySem.W.Frag) (a:Addr) (vs:List V):Prop:=∃ (o:Obj) (its:Array Value) (n:Nat),K.lookup a=some o/\o.cls=.type "tuple" /\ o.dict=none/\o.data=.seq its n/\its.size<=sizeLine/\Vals vs its.toList
mutual
inductive AV:A->V->Prop
 | non:AV .non .non
 | bl (b:Bool):AV (.bl b) (.bl b)
 | int (i:Int):AV (.int i) (.int i)
 | str (x:Str):AV (.str x) (.str x)
 | ty (n:String):AV (.ty n) (.ty n)
 | tup {a:Addr} {xs:List A} {vs:List V} (h:H a=some (.tup vs)) (r:AVs xs vs):AV (.tup xs) (.ref a)
 | frz {a:Addr} {xs:List A} {vs:List V} (h:Fz K H a vs) (r:AVs xs vs):AV (.frz xs) (.ref a)
 | rng {a:Addr} {lo hi:Int} (h:H a=some (.rng lo hi)):AV (.rng lo hi) (.ref a)
 | ref {a:Addr} {n:Nat} (h:ρ[n]?=some a):AV (.ref n) (.ref a)
 | exn {a C:Addr} {c:Str} {oe:Obj} (n:wK K c C) (h:H a=some (.frz oe xu)) (x:XO C oe):AV (.exn c) (.ref a)
 | ktu {a:Addr} {xs:List A} {vs:List V} (h:N6 K a vs) (r:AVs xs vs):AV (.ktu xs) (.ref a)
inductive AVs:List A->List V->Prop
 | nil:AVs [] []
 | cons {x:A} {v:V} {xs:List A} {vs:List V} (h:AV x v) (t:AVs xs vs):AVs (x::xs) (v::vs)
end
noncomputable def DV:List (List Int×A)->List (List Key×V)->Prop
 | [],[]=>True
 | p::r,q::r'=>(q.1=p.1.map Sum.inl/\AV K ρ H p.2 q.2)/\DV r r'
 | _,_=>False
noncomputable def DI:List (Int×A)->List (Key×V)->Prop
 | [],[]=>True
 | p::r,q::r'=>(q.1=Sum.inl p.1/\AV K ρ H p.2 q.2)/\DI r r'
 | _,_=>False
noncomputable def OR (a:Addr):O->Prop
 | .lst xs=>∃ vs,H a=some (.lst vs)/\AVs K ρ H xs vs
 | .dct kvs=>∃ ks,H a=some (.dT ks)/\DV K ρ H kvs ks
 | .eY kvs=>∃ ks,H a=some (.dK ks)/\DI K ρ H kvs ks
 | .ins _ _=>∃ o u,H a=some (.frz o u)
structure Rel (S:az):Prop where
 len:ρ.length=S.length
 nd:ρ.Nodup
 «at»:∀ (n:Nat) (a:Addr) (o:O),ρ[n]?=some a->S[n]?=some o->OR K ρ H a o
end
noncomputable def Oc:HO->Prop
 | .tup _=>True
 | .rng _ _=>True
 | .frz _ _=>True
 | _=>False
structure Ext0 (ρ ρ':List Addr) (H H':Hp):Prop where
 pre:ρ <+: ρ'
 im:∀ a u,Oc u->H a=some u->H' a=some u
structure Ext (ρ ρ':List Addr) (H H':Hp):Prop extends Ext0 ρ ρ' H H' where
 fr:∀ a u,H a=some u->a∉ρ->H' a=some u
 nw:∀ a,a∈ρ'->a∈ρ\/H a=none
theorem Ext.refl {ρ:List Addr} {H:Hp}:Ext ρ ρ H H:=⟨⟨List.prefix_refl _,fun _ _ _ h=>h⟩,fun _ _ h _=>h,fun _ h=>.inl h⟩
theorem Ext.trans {ρ ρ1 ρ2:List Addr} {H H1 H2:Hp} (a:Ext ρ ρ1 H H1) (b:Ext ρ1 ρ2 H1 H2):Ext ρ ρ2 H H2:=⟨⟨a.pre.trans b.pre,fun x u i h=>b.im x u i (a.im x u i h)⟩,fun x u h n=>b.fr x u (a.fr x u h n) fun z=>(a.nw x z).elim n fun z=>by (rw [z] at h;cases h),fun x h=>by
 by_cases hx:x∈ρ
 ·exact .inl hx
 ·right
  cases q:H x with
  | none=>rfl
  | some u=>
   rcases b.nw x h with z | z
   ·exact ((a.nw x z).elim hx fun z=>by (rw [z] at q;cases q)).elim
   ·rw [a.fr x u q hx] at z;cases z⟩
theorem Ext0.get {ρ ρ':List Addr} {H H':Hp} (e:Ext0 ρ ρ' H H') {n:Nat} {a:Addr} (h:ρ[n]?=some a):ρ'[n]?=some a:=by
 obtain ⟨t,rfl⟩:=e.pre
 rw [List.getElem?_append_left (List.getElem?_eq_some_iff.mp h).1]
 exact h
section
variable {K:PySem.W.Frag} {ρ ρ':List Addr} {H H':Hp}
theorem Ext0.NH (e:Ext0 ρ ρ' H H') {a:Addr} {vs:List V} (h:fC K H a vs):fC K H' a vs:=by
 rcases h with (h | ⟨o,h⟩) | h
 ·exact .inl (.inl (e.im _ _ trivial h))
 ·exact .inl (.inr ⟨o,e.im _ _ trivial h⟩)
 ·exact .inr h
theorem Ext0.fz (e:Ext0 ρ ρ' H H') {a:Addr} {vs:List V} (h:Fz K H a vs):Fz K H' a vs:=by
 rcases h with ⟨o,h⟩ | h
 ·exact .inl ⟨o,e.im _ _ trivial h⟩
 ·exact .inr h
theorem Fz.HU {a:Addr} {vs:List V} (h:Fz K H a vs):ir K H a vs:=by
 rcases h with ⟨o,h⟩ | h
 ·exact .inl (.inr ⟨o,h⟩)
 ·exact .inr h
mutual
theorem AV.eT (e:Ext0 ρ ρ' H H'):∀ {x:A} {v:V},AV K ρ H x v->AV K ρ' H' x v
 | _,_,.non=>.non
 | _,_,.bl b=>.bl b
 | _,_,.int i=>.int i
 | _,_,.str x=>.str x
 | _,_,.ty x=>.ty x
 | _,_,.tup h r=>.tup (e.im _ _ trivial h) (AVs.eT e r)
 | _,_,.frz h r=>.frz (e.fz h) (AVs.eT e r)
 | _,_,.rng h=>.rng (e.im _ _ trivial h)
 | _,_,.ref h=>.ref (e.get h)
 | _,_,.exn n h x=>.exn n (e.im _ _ trivial h) x
 | _,_,.ktu h r=>.ktu h (AVs.eT e r)
theorem AVs.eT (e:Ext0 ρ ρ' H H'):∀ {xs:List A} {vs:List V},AVs K ρ H xs vs->AVs K ρ' H' xs vs
 | _,_,.nil=>.nil
 | _,_,.cons h t=>.cons (AV.eT e h) (AVs.eT e t)
end
theorem DV.eT (e:Ext0 ρ ρ' H H'):∀ {xs:List (List Int×A)} {vs:List (List Key×V)},DV K ρ H xs vs->DV K ρ' H' xs vs
 | [],[],_=>trivial
 | _::_,_::_,⟨⟨a,b⟩,r⟩=>⟨⟨a,AV.eT e b⟩,DV.eT e r⟩
theorem DV.ext {x:List (List Int×A)} {v:List (List Key×V)} (h:DV K ρ H x v) (e:Ext ρ ρ' H H'):DV K ρ' H' x v:=DV.eT e.toExt0 h
theorem DI.eT (e:Ext0 ρ ρ' H H'):∀ {xs:List (Int×A)} {vs:List (Key×V)},DI K ρ H xs vs->DI K ρ' H' xs vs
 | [],[],_=>trivial
 | _::_,_::_,⟨⟨a,b⟩,r⟩=>⟨⟨a,AV.eT e b⟩,DI.eT e r⟩
theorem DI.ext {x:List (Int×A)} {v:List (Key×V)} (h:DI K ρ H x v) (e:Ext ρ ρ' H H'):DI K ρ' H' x v:=DI.eT e.toExt0 h
theorem AV.ext {x:A} {v:V} (h:AV K ρ H x v) (e:Ext ρ ρ' H H'):AV K ρ' H' x v:=AV.eT e.toExt0 h
theorem AVs.ext {x:List A} {v:List V} (h:AVs K ρ H x v) (e:Ext ρ ρ' H H'):AVs K ρ' H' x v:=AVs.eT e.toExt0 h
theorem AVs.length:∀ {xs:List A} {vs:List V},AVs K ρ H xs vs->xs.length=vs.length
 | _,_,.nil=>rfl
 | _,_,.cons _ t=>congrArg (·+1) (AVs.length t)
theorem AVs.append:∀ {xs ys:List A} {vs ws:List V},AVs K ρ H xs vs->AVs K ρ H ys ws->AVs K ρ H (xs++ys) (vs++ws)
 | _,_,_,_,.nil,s=>s
 | _,_,_,_,.cons h t,s=>.cons h (AVs.append t s)
theorem AVs.get:∀ {xs:List A} {vs:List V} {i:Nat} {x:A},AVs K ρ H xs vs->xs[i]?=some x->∃ v,vs[i]?=some v/\AV K ρ H x v
 | _,_,_,_,.nil,e=>by simp at e
 | _,_,0,_,.cons h _,e=>by simp at e;subst e;exact ⟨_,rfl,h⟩
 | _,_,i+1,x,.cons _ t,e=>by
  obtain ⟨u,h1,h2⟩:=AVs.get (i:=i) (x:=x) t (by simpa using e)
  exact ⟨u,by simpa using h1,h2⟩
theorem AVs.set {x:A} {v:V} (h:AV K ρ H x v):∀ {xs:List A} {vs:List V} (i:Nat),AVs K ρ H xs vs->AVs K ρ H (xs.set i x) (vs.set i v)
 | _,_,_,.nil=>.nil
 | _,_,0,.cons _ t=>.cons h t
 | _,_,i+1,.cons q t=>.cons q (AVs.set h i t)
theorem AVs.one {x:A} {v:V} (h:AV K ρ H x v):AVs K ρ H [x] [v]:=.cons h .nil
theorem AVs.eraseIdx:∀ {xs:List A} {vs:List V} (i:Nat),AVs K ρ H xs vs->AVs K ρ H (xs.eraseIdx i) (vs.eraseIdx i)
 | _,_,_,.nil=>.nil
 | _,_,0,.cons _ t=>t
 | _,_,i+1,.cons q t=>.cons q (AVs.eraseIdx i t)
theorem jG:∀ (ns:List Int),AVs K ρ H (ns.map .int) (ns.map .int)
 | []=>.nil
 | n::ns=>.cons (.int n) (jG ns)
theorem Rel.lay {S:az} {p:Addr} {xs:List A} {vs:List V} (R:Rel K ρ H S) (hp:H p=none) (r:AVs K ρ H xs vs):Ext ρ (ρ++[p]) H (upd H p (.lst vs))/\Rel K (ρ++[p]) (upd H p (.lst vs)) (S++[.lst xs])/\(ρ++[p])[S.length]?=some p:=by
 have ex:Ext ρ (ρ++[p]) H (upd H p (.lst vs)):=⟨⟨List.prefix_append _ _,fun a u _ h=>by rw [aK (bf h hp)];exact h⟩,fun a u h _=>by rw [aK (bf h hp)];exact h,fun a h=>by
  rcases List.mem_append.mp h with z | z
  ·exact .inl z
  ·have e:a=p:=by simpa using z
   rw [e];exact .inr hp⟩
 have np:∀ (n:Nat) (a:Addr),ρ[n]?=some a->a≠p:=by
  intro n a e z
  subst z
  have hn:n < S.length:=by rw [<- R.len];exact (List.getElem?_eq_some_iff.mp e).1
  have:=R.at n a S[n] e (List.getElem?_eq_getElem hn)
  cases ho:S[n] with
  | lst xs=>rw [ho] at this;obtain ⟨vs,h,_⟩:=this;rw [hp] at h;cases h
  | dct _ | eY _=>rw [ho] at this;obtain ⟨vs,h,_⟩:=this;rw [hp] at h;cases h
  | ins _ _=>rw [ho] at this;obtain ⟨_,_,h⟩:=this;rw [hp] at h;cases h
 have last:(ρ++[p])[S.length]?=some p:=by rw [<- R.len];simp
 refine ⟨ex,⟨by simp [R.len],?_,?_⟩,last⟩
 ·rw [List.nodup_append]
  refine ⟨R.nd,by simp,fun a ha b hb e=>?_⟩
  have:b=p:=by simpa using hb
  obtain ⟨n,hn,e'⟩:=List.mem_iff_getElem.mp ha
  exact np n a (by rw [List.getElem?_eq_getElem hn,e']) (e.trans this)
 ·intro n a o h1 h2
  by_cases hn:n < S.length
  ·rw [List.getElem?_append_left (by rw [R.len];exact hn)] at h1
   rw [List.getElem?_append_left hn] at h2
   have:=R.at n a o h1 h2
   cases o with
   | lst ys=>obtain ⟨ws,e,q⟩:=this;exact ⟨ws,by rw [aK (np n a h1)];exact e,q.ext ex⟩
   | dct _ | eY _=>obtain ⟨ws,e,q⟩:=this;exact ⟨ws,by rw [aK (np n a h1)];exact e,q.ext ex⟩
   | ins _ _=>obtain ⟨oo,uu,e⟩:=this;exact ⟨oo,uu,by rw [aK (np n a h1)];exact e⟩
  ·have e:n=S.length:=by
    have:=(List.getElem?_eq_some_iff.mp h2).1
    simp at this
    omega
   subst e
   rw [last] at h1
   cases h1
   simp at h2
   subst h2
   exact ⟨vs,bJ,r.ext ex⟩
theorem Rel.im {S:az} {p:Addr} {u:HO} (R:Rel K ρ H S) (hp:H p=none):Ext ρ ρ H (upd H p u)/\Rel K ρ (upd H p u) S:=by
 have ex:Ext ρ ρ H (upd H p u):=⟨⟨List.prefix_refl _,fun a u _ h=>by rw [aK (bf h hp)];exact h⟩,fun a u h _=>by rw [aK (bf h hp)];exact h,fun _ h=>.inl h⟩
 refine ⟨ex,R.len,R.nd,fun n a o h1 h2=>?_⟩
 have:=R.at n a o h1 h2
 cases o with
 | lst ys=>obtain ⟨ws,e,q⟩:=this;exact ⟨ws,by rw [aK (bf e hp)];exact e,q.ext ex⟩
 | dct _ | eY _=>obtain ⟨ws,e,q⟩:=this;exact ⟨ws,by rw [aK (bf e hp)];exact e,q.ext ex⟩
 | ins _ _=>obtain ⟨oo,uu,e⟩:=this;exact ⟨oo,uu,by rw [aK (bf e hp)];exact e⟩
theorem Rel.put {S:az} {n:Nat} {a:Addr} {xs ys:List A} {ws:List V} (R:Rel K ρ H S) (ha:ρ[n]?=some a) (hS:S[n]?=some (.lst xs)) (r:AVs K ρ H ys ws):Ext ρ ρ H (upd H a (.lst ws))/\Rel K ρ (upd H a (.lst ws)) (S.set n (.lst ys)):=by
 obtain ⟨vs,e,_⟩:=R.at n a _ ha hS
 have ex:Ext ρ ρ H (upd H a (.lst ws)):=⟨⟨List.prefix_refl _,fun b u i h=>by
  have:b≠a:=by
   intro z;subst z;rw [e] at h;cases h;exact i
  rw [aK this];exact h⟩,fun b u h n=>by
  rw [aK (fun z=>n (by rw [z];exact List.mem_of_getElem? ha))];exact h,fun _ h=>.inl h⟩
 refine ⟨ex,by rw [List.length_set];exact R.len,R.nd,fun m b o h1 h2=>?_⟩
 by_cases hm:m=n
 ·subst hm
  rw [ha] at h1;cases h1
  rw [List.getElem?_set_self (List.getElem?_eq_some_iff.mp hS).1] at h2
  cases h2
  exact ⟨ws,bJ,r.ext ex⟩
 ·rw [List.getElem?_set_ne (Ne.symm hm)] at h2
  have nb:b≠a:=fun z=>by
   subst z
   obtain ⟨l1,e1⟩:=List.getElem?_eq_some_iff.mp ha
   obtain ⟨l2,e2⟩:=List.getElem?_eq_some_iff.mp h1
   exact hm ((List.getElem_inj R.nd).mp (e2.trans e1.symm))
  have:=R.at m b o h1 h2
  cases o with
  | lst ys=>obtain ⟨ws',e',q⟩:=this;exact ⟨ws',by rw [aK nb];exact e',q.ext ex⟩
  | dct _ | eY _=>obtain ⟨ws',e',q⟩:=this;exact ⟨ws',by rw [aK nb];exact e',q.ext ex⟩
  | ins _ _=>obtain ⟨oo,uu,e'⟩:=this;exact ⟨oo,uu,by rw [aK nb];exact e'⟩
theorem Rel.lst {S:az} {n:Nat} {a:Addr} {xs:List A} (R:Rel K ρ H S) (ha:ρ[n]?=some a) (hS:S[n]?=some (.lst xs)):∃ vs,H a=some (.lst vs)/\AVs K ρ H xs vs:=R.at n a _ ha hS
structure SR (K:PySem.W.Frag) (ρ:List Addr) (H:Hp) (τ:List A) (σ:St):Prop where
 len:τ.length=σ.length
 «at»:∀ (i:Nat) (a:A),τ[i]?=some a->a=.unb\/∃ v,σ[i]?=some (some v)/\AV K ρ H a v
theorem SR.eT {τ:List A} {σ:St} (s:SR K ρ H τ σ) (e:Ext0 ρ ρ' H H'):SR K ρ' H' τ σ:=⟨s.len,fun i a h=>by
 rcases s.at i a h with z | ⟨v,h1,h2⟩
 ·exact .inl z
 ·exact .inr ⟨v,h1,AV.eT e h2⟩⟩
theorem SR.ext {τ:List A} {σ:St} (s:SR K ρ H τ σ) (e:Ext ρ ρ' H H'):SR K ρ' H' τ σ:=s.eT e.toExt0
theorem Rel.out {S:az} {D:Addr} {vs ws:List V} (R:Rel K ρ H S) (hD:H D=some (.lst vs)) (hn:D∉ρ):Ext0 ρ ρ H (upd H D (.lst ws))/\Rel K ρ (upd H D (.lst ws)) S:=by
 have ex:Ext0 ρ ρ H (upd H D (.lst ws)):=⟨List.prefix_refl _,fun b u i h=>by
  have:b≠D:=by
   intro z;subst z;rw [hD] at h;cases h;exact i
  rw [aK this];exact h⟩
 refine ⟨ex,R.len,R.nd,fun n a o h1 h2=>?_⟩
 have na:a≠D:=fun z=>hn (by rw [<- z];exact List.mem_of_getElem? h1)
 have:=R.at n a o h1 h2
 cases o with
 | lst ys=>obtain ⟨ws',e,q⟩:=this;exact ⟨ws',by rw [aK na];exact e,AVs.eT ex q⟩
 | dct _ | eY _=>obtain ⟨ws',e,q⟩:=this;exact ⟨ws',by rw [aK na];exact e,q.eT ex⟩
 | ins _ _=>obtain ⟨oo,uu,e⟩:=this;exact ⟨oo,uu,by rw [aK na];exact e⟩
theorem Rel.take {S:az} {D:Addr} {xs:List A} {vs:List V} (R:Rel K ρ H S) (hD:H D=some (.lst vs)) (hn:D∉ρ) (r:AVs K ρ H xs vs):Rel K (ρ++[D]) H (S++[.lst xs])/\(ρ++[D])[S.length]?=some D:=by
 have ex:Ext0 ρ (ρ++[D]) H H:=⟨List.prefix_append _ _,fun _ _ _ h=>h⟩
 have last:(ρ++[D])[S.length]?=some D:=by rw [<- R.len];simp
 refine ⟨⟨by simp [R.len],?_,fun n a o h1 h2=>?_⟩,last⟩
 ·rw [List.nodup_append]
  refine ⟨R.nd,by simp,fun a ha b hb e=>?_⟩
  have:b=D:=by simpa using hb
  exact hn (by rw [<- this,<- e];exact ha)
 ·by_cases hs:n < S.length
  ·rw [List.getElem?_append_left (by rw [R.len];exact hs)] at h1
   rw [List.getElem?_append_left hs] at h2
   have:=R.at n a o h1 h2
   cases o with
   | lst ys=>obtain ⟨ws,e,q⟩:=this;exact ⟨ws,e,AVs.eT ex q⟩
   | dct _ | eY _=>obtain ⟨ws,e,q⟩:=this;exact ⟨ws,e,q.eT ex⟩
   | ins _ _=>obtain ⟨oo,uu,e⟩:=this;exact ⟨oo,uu,e⟩
  ·have e:n=S.length:=by
    have:=(List.getElem?_eq_some_iff.mp h2).1
    simp at this
    omega
   subst e
   rw [last] at h1
   cases h1
   simp at h2
   subst h2
   exact ⟨vs,hD,AVs.eT ex r⟩
theorem SR.set {τ:List A} {σ:St} {i:Nat} {a:A} {v:V} (s:SR K ρ H τ σ) (h:AV K ρ H a v):SR K ρ H (τ.set i a) (σ.set i (some v)):=by
 refine ⟨by simp [s.len],fun j b e=>?_⟩
 by_cases hj:j=i
 ·subst hj
  have hl:j < τ.length:=by
   have:=(List.getElem?_eq_some_iff.mp e).1
   simpa using this
  rw [List.getElem?_set_self hl] at e
  cases e
  exact .inr ⟨v,List.getElem?_set_self (by rw [<- s.len];exact hl),h⟩
 ·rw [List.getElem?_set_ne (Ne.symm hj)] at e
  rw [List.getElem?_set_ne (Ne.symm hj)]
  exact s.at j b e
end
end Am
namespace Am
open PySem PySem.Spec PyProof.Rows L2
noncomputable def XE (X:Cx) (ρ:List Addr) (H:Hp):Str->az->Prop:=fun c S'=>∀ (C:Addr) (ρ':List Addr) (H':Hp),wK X.K c C->Ext ρ ρ' H H'->Rel X.K ρ' H' S'->EX X (.ref C) none H'
theorem XE.ext {X:Cx} {ρ ρ':List Addr} {H H':Hp} {c:Str} {S:az} (h:XE X ρ H c S) (e:Ext ρ ρ' H H'):XE X ρ' H' c S:=fun C ρ2 H2 n e2=>h C ρ2 H2 n (e.trans e2)
noncomputable def qo (X:Cx) (ρ:List Addr) (H:Hp) (Q:VK):A->az->Prop:=fun a S'=>∀ ρ' H' v,Ext ρ ρ' H H'->Rel X.K ρ' H' S'->AV X.K ρ' H' a v->Q v H'
noncomputable def Mx (X:Cx) (ρ:List Addr) (H:Hp) (Q:Bool->Hp->Prop):Bool->az->Prop:=fun b S'=>∀ ρ' H',Ext ρ ρ' H H'->Rel X.K ρ' H' S'->Q b H'
noncomputable def N1 (X:Cx) (ρ:List Addr) (H:Hp) (Q:List V->Hp->Prop):List A->az->Prop:=fun as S'=>∀ ρ' H' vs,Ext ρ ρ' H H'->Rel X.K ρ' H' S'->AVs X.K ρ' H' as vs->Q vs H'
theorem qo.ext {X:Cx} {ρ ρ':List Addr} {H H':Hp} {Q:VK} {a:A} {S:az} (h:qo X ρ H Q a S) (e:Ext ρ ρ' H H'):qo X ρ' H' Q a S:=fun ρ2 H2 v e2=>h ρ2 H2 v (e.trans e2)
theorem Mx.ext {X:Cx} {ρ ρ':List Addr} {H H':Hp} {Q:Bool->Hp->Prop} {a:Bool} {S:az} (h:Mx X ρ H Q a S) (e:Ext ρ ρ' H H'):Mx X ρ' H' Q a S:=fun ρ2 H2 e2=>h ρ2 H2 (e.trans e2)
theorem aI {α:Type} {X:Cx} {ρ ρ':List Addr} {H H':Hp} {r:R α} {P P':α->az->Prop} (h:r.post P (XE X ρ H)) (e:Ext ρ ρ' H H') (hp:∀ a S,P a S->P' a S):r.post P' (XE X ρ' H'):=mQ h hp fun _ _ z=>z.ext e
noncomputable def tE (X:Cx) (c:Ex):TE:=fun σ H Q=>∃ ρ S τ,Rel X.K ρ H S/\SR X.K ρ H τ σ/\(c τ S).post (qo X ρ H Q) (XE X ρ H)
noncomputable def tT (X:Cx) (c:Te):TT:=fun σ H Q=>∃ ρ S τ,Rel X.K ρ H S/\SR X.K ρ H τ σ/\(c τ S).post (Mx X ρ H Q) (XE X ρ H)
noncomputable def tL (X:Cx) (c:gB):TA:=fun σ H Q=>∃ ρ S τ,Rel X.K ρ H S/\SR X.K ρ H τ σ/\(c τ S).post (N1 X ρ H Q) (XE X ρ H)
noncomputable def AE (X:Cx) (e:Expr) (c:Ex):Prop:=PE X e (tE X c)
noncomputable def AT (X:Cx) (e:Expr) (c:Te):Prop:=PT X e (tT X c)
noncomputable def AW (X:Cx) (e:Expr) (c:Te):Prop:=PW X e (tT X c)
noncomputable def AL (X:Cx) (es:List Expr) (c:gB):Prop:=PA X es (tL X c)
theorem PE.imp {X:Cx} {e:Expr} {t t':TE} (h:PE X e t) (i:∀ σ H Q,t' σ H Q->t σ H Q):PE X e t':=fun pins s σ H Q I q=>h pins s σ H Q I (i σ H Q q)
theorem PT.imp {X:Cx} {e:Expr} {t t':TT} (h:PT X e t) (i:∀ σ H Q,t' σ H Q->t σ H Q):PT X e t':=fun pins s σ H Q I q=>h pins s σ H Q I (i σ H Q q)
theorem PW.imp {X:Cx} {e:Expr} {t t':TT} (h:PW X e t) (i:∀ σ H Q,t' σ H Q->t σ H Q):PW X e t':=fun w pins s σ H Q I q=>h w pins s σ H Q I (i σ H Q q)
theorem PA.imp {X:Cx} {e:List Expr} {t t':TA} (h:PA X e t) (i:∀ σ H Q,t' σ H Q->t σ H Q):PA X e t':=fun p pins s σ H Q I q=>h p pins s σ H Q I (i σ H Q q)
theorem AW.at {X:Cx} {e:Expr} {c:Te} (h:AW X e c):AT X e c:=h _
noncomputable def A.gp:A->Bool
 | .unb=>true
 | _=>false
noncomputable def ak (i:Nat):Ex:=fun τ S=>if (τ.getD i .unb).gp then .no else .ok (τ.getD i .unb) S
noncomputable def eC (a:A):Ex:=fun _ S=>.ok a S
section
variable {X:Cx} {pos:Pos} {a b:Expr}
theorem ah (i:Nat) {x:Str} (hN:X.N[i]?=some x:=by rfl) (hv:L4 X.env.scope x:=by first | exact Or.inl rfl | exact Or.inr (Or.inl rfl) | exact Or.inr (Or.inr rfl)) (hd:(x == ("__debug__" : Str))=false:=by decide)
  (hcd:(x == ("__classdict__" : Str))=false:=by decide):AE X (.Name x pos) (ak i):=PE.imp (DN hN hv hd hcd) fun σ H Q h9=>by
 obtain ⟨ρ,S,τ,R,r,h⟩:=h9
 unfold ak at h
 cases hi:τ[i]? with
 | none=>
  rw [List.getD_eq_getElem?_getD,hi] at h
  exact h.elim
 | some x=>
  rw [List.getD_eq_getElem?_getD,hi] at h
  rcases r.at i x hi with z | ⟨v,e,q⟩
  ·subst z;exact h.elim
  ·refine ⟨v,e,?_⟩
   cases x <;> first | (exact h ρ H v .refl R q) | exact h.elim
theorem aF {i:Int} {j pos}:AE X (.Constant (.int i) j pos) (eC (.int i)):=PE.imp J7 fun σ H Q ⟨ρ,S,τ,R,r,h⟩=>h ρ H _ .refl R (.int i)
theorem gf {i:Bool} {j pos}:AE X (.Constant (.bool i) j pos) (eC (.bl i)):=PE.imp KY fun σ H Q ⟨ρ,S,τ,R,r,h⟩=>h ρ H _ .refl R (.bl i)
theorem iS {x:Str} {j pos}:AE X (.Constant (.str x) j pos) (eC (.str x)):=PE.imp Jg fun σ H Q ⟨ρ,S,τ,R,r,h⟩=>h ρ H _ .refl R (.str x)
noncomputable def aJ (f:A->A->az->R A) (ca cb:Ex):Ex:=fun τ S=>(ca τ S).bind fun a S1=>(cb τ S1).bind fun b S2=>f a b S2
noncomputable def r2 (X:Cx) (f:A->A->az->R A):R2:=fun x y H Q=>∃ ρ S a b,Rel X.K ρ H S/\AV X.K ρ H a x/\AV X.K ρ H b y/\(f a b S).post (qo X ρ H Q) (XE X ρ H)
noncomputable def r1 (X:Cx) (f:A->az->R A):V->Hp->VK->Prop:=fun x H Q=>∃ ρ S a,Rel X.K ρ H S/\AV X.K ρ H a x/\(f a S).post (qo X ρ H Q) (XE X ρ H)
noncomputable def rN (X:Cx) (f:List A->az->R A):List V->Hp->VK->Prop:=fun xs H Q=>∃ ρ S as,Rel X.K ρ H S/\AVs X.K ρ H as xs/\(f as S).post (qo X ρ H Q) (XE X ρ H)
theorem gz.imp {f:Value->Value->Sem Value} {r r':R2} (h:gz X f r) (i:∀ x y H Q,r' x y H Q->r x y H Q):gz X f r':=fun pins s σ H x y v u Q I rx ry q=>h pins s σ H x y v u Q I rx ry (i _ _ _ _ q)
theorem bF.imp {f:Value} {r r':List V->Hp->VK->Prop} (h:bF X f r) (i:∀ x H Q,r' x H Q->r x H Q):bF X f r':=fun pins s σ H x v Q I rx q=>h pins s σ H x v Q I rx (i _ _ _ q)
theorem jU {f:A->A->az->R A} {ca cb:Ex} {σ:L2.St} {H:Hp} {Q:VK} (h:tE X (aJ f ca cb) σ H Q):LB (r2 X f) (tE X ca) (tE X cb) σ H Q:=by
 obtain ⟨ρ,S,τ,R,r,h⟩:=h
 refine ⟨ρ,S,τ,R,r,aI (aM h) .refl fun a S1 h1 ρ1 H1 x e1 R1 v1=>⟨ρ1,S1,τ,R1,r.ext e1,aI (aM h1) e1 fun b S2 h2 ρ2 H2 y e2 R2 v2=>?_⟩⟩
 exact ⟨ρ2,S2,a,b,R2,v1.ext e2,v2,aI h2 (e1.trans e2) fun c S3 h3=>h3.ext (e1.trans e2)⟩
theorem aS {op:Operator} {f:A->A->az->R A} {ca cb:Ex} (ho:gz X (binaryOp op) (r2 X f)) (ha:AE X a ca) (hb:AE X b cb):AE X (.BinOp a op b pos) (aJ f ca cb):=
 PE.imp (K6 ho ha hb) fun σ H Q h=>jU h
theorem tu {op:CmpOp} {f:A->A->az->R A} {ca cb:Ex} (ho:gz X (compareOp op) (r2 X f)) (ha:AE X a ca) (hb:AE X b cb) (hm:behindInMarks op b=false:=by first | exact Ej _ | with_unfolding_all rfl):AE X (.Compare a [op] [b] pos) (aJ f ca cb):=
 PE.imp (Gx ho ha hb hm) fun σ H Q h=>jU h
noncomputable def A.Jp:A->az->Option Bool
 | .non,_=>some false
 | .bl b,_=>some b
 | .int i,_=>some (i != 0)
 | .str x,_=>if x.length<=sizeLine then some ((x.length:Int) != 0) else none
 | .tup xs,_=>some (!xs.isEmpty)
 | .frz xs,_=>some (!xs.isEmpty)
 | .ref n,S=>(au S n).map fun xs=>!xs.isEmpty
 | _,_=>none
noncomputable def gC (c:Ex):Te:=fun τ S=>(c τ S).bind fun a S1=>opt (a.Jp S1) fun b=>.ok b S1
noncomputable def kh (c:Ex):Te:=fun τ S=>(c τ S).bind fun a S1=>match a with
 | .bl b=>.ok b S1
 | _=>.no
theorem Bo {K:PySem.W.Frag} {ρ:List Addr} {H:Hp} {b:Bool} {v:V} (h:AV K ρ H (.bl b) v):v=.bl b:=by cases h;rfl
theorem bV {op:CmpOp} {f:A->A->az->R A} {ca cb:Ex} (ho:gz X (compareOp op) (r2 X f)) (ha:AE X a ca) (hb:AE X b cb) (hm:behindInMarks op b=false:=by first | exact Ej _ | with_unfolding_all rfl):AT X (.Compare a [op] [b] pos) (kh (aJ f ca cb)):=
 PT.imp (GY ho ha hb hm) fun σ H Q h9=>by
  obtain ⟨ρ,S,τ,R,r,h⟩:=h9
  refine jU ⟨ρ,S,τ,R,r,aI (aM h) .refl fun c S1 h1 ρ1 H1 x e1 R1 v1=>?_⟩
  cases c with
  | bl k=>cases Bo v1;exact ⟨k,rfl,h1 ρ1 H1 e1 R1⟩
  | _=>exact h1.elim
theorem Jv {K:PySem.W.Frag} {ρ:List Addr} {H:Hp} {S:az} {x:A} {v:V} {b:Bool} (R:Rel K ρ H S) (h:AV K ρ H x v) (e:x.Jp S=some b):JI K v H b:=by
 have emp:∀ {xs:List A} {vs:List V},AVs K ρ H xs vs->(!xs.isEmpty)=!vs.isEmpty:=fun r=>by cases r <;> rfl
 cases h with
 | non=>exact (Option.some.inj e).symm
 | bl b=>exact (Option.some.inj e).symm
 | int i=>exact (Option.some.inj e).symm
 | str x=>
  by_cases hx:x.length<=sizeLine
  ·exact ⟨hx,by have:=(if_pos hx).symm.trans e;exact (Option.some.inj this).symm⟩
  ·have:=(if_neg hx).symm.trans e;cases this
 | tup h r=>exact .inr (.inl ⟨_,fC.of h,by rw [<- emp r];exact (Option.some.inj e).symm⟩)
 | frz h r=>exact .inl ⟨_,h.HU,by rw [<- emp r];exact (Option.some.inj e).symm⟩
 | rng h=>cases e
 | ty n=>cases e
 | exn n h x=>cases e
 | ktu h r=>cases e
 | @ref a n h=>
  have e:(au S n).map (fun xs=>!xs.isEmpty)=some b:=e
  obtain ⟨xs,hn,e⟩:=Option.map_eq_some_iff.mp e
  obtain ⟨vs,h1,h2⟩:=R.lst h (aU hn)
  exact .inl ⟨vs,ir.of h1,by rw [<- emp h2];exact e.symm⟩
theorem dO {ca:Ex} (ha:AE X a ca) (he:∀ whole,isTrue a X.env whole=(do let v <- whole;standAt a.pos;holding [v] (truthy v)):=by intro _;rfl):AT X a (gC ca):=
 PT.imp (D5 ha he) fun σ H Q ⟨ρ,S,τ,R,r,h⟩=>⟨ρ,S,τ,R,r,aI (aM h) .refl fun c S1 h1 ρ1 H1 x e1 R1 v1=>by
  obtain ⟨b,hb,h1⟩:=aL h1
  exact ⟨b,Jv R1 v1 hb,h1 ρ1 H1 e1 R1⟩⟩
noncomputable def jS (c:Te):Te:=fun τ S=>(c τ S).bind fun b S1=>.ok (!b) S1
noncomputable def rO (c d:Te):Te:=fun τ S=>(c τ S).bind fun b S1=>match b with | true=>d τ S1 | false=>.ok false S1
noncomputable def tD (c d:Te):Te:=fun τ S=>(c τ S).bind fun b S1=>match b with | true=>.ok true S1 | false=>d τ S1
theorem fu {c:Te} (h:AT X a c):AT X (.UnaryOp .Not a pos) (jS c):=PT.imp (JV h) fun σ H Q ⟨ρ,S,τ,R,r,h⟩=>⟨ρ,S,τ,R,r,aI (aM h) .refl fun b S1 h1=>h1⟩
theorem and_imp {c d:Te} {σ:L2.St} {H:Hp} {Q:Bool->Hp->Prop} (h:tT X (rO c d) σ H Q):LM (tT X c) (tT X d) σ H Q:=by
 obtain ⟨ρ,S,τ,R,r,h⟩:=h
 refine ⟨ρ,S,τ,R,r,aI (aM h) .refl fun b S1 h1 ρ1 H1 e1 R1=>?_⟩
 cases b with
 | true=>
  rw [if_pos rfl]
  exact ⟨ρ1,S1,τ,R1,r.ext e1,aI h1 e1 fun _ _ z=>z.ext e1⟩
 | false=>
  rw [if_neg Bool.false_ne_true]
  exact h1 ρ1 H1 e1 R1
theorem or_imp {c d:Te} {σ:L2.St} {H:Hp} {Q:Bool->Hp->Prop} (h:tT X (tD c d) σ H Q):NL (tT X c) (tT X d) σ H Q:=by
 obtain ⟨ρ,S,τ,R,r,h⟩:=h
 refine ⟨ρ,S,τ,R,r,aI (aM h) .refl fun b S1 h1 ρ1 H1 e1 R1=>?_⟩
 cases b with
 | false=>
  rw [if_neg Bool.false_ne_true]
  exact ⟨ρ1,S1,τ,R1,r.ext e1,aI h1 e1 fun _ _ z=>z.ext e1⟩
 | true=>
  rw [if_pos rfl]
  exact h1 ρ1 H1 e1 R1
variable {rest:List Expr}
theorem sf {c:Te} (h:AT X a c):AW X (.BoolOp .And [a] pos) c:=FF h
theorem kF {c:Te} (h:AT X a c):AW X (.BoolOp .Or [a] pos) c:=JK h
theorem sD {c d:Te} (h:AT X a c) (h2:AW X (.BoolOp .And (b::rest) pos) d):AW X (.BoolOp .And (a::b::rest) pos) (rO c d):=PW.imp (JJ h h2) fun _ _ _ q=>and_imp q
theorem h_ {c d:Te} (h:AT X a c) (h2:AW X (.BoolOp .Or (b::rest) pos) d):AW X (.BoolOp .Or (a::b::rest) pos) (tD c d):=PW.imp (La h h2) fun _ _ _ q=>or_imp q
noncomputable def Ga (c d:Ex):Ex:=fun τ S=>(c τ S).bind fun a S1=>match a with | .bl true=>d τ S1 | .bl false=>.ok (.bl false) S1 | _=>.no
noncomputable def NW (c d:Ex):Ex:=fun τ S=>(c τ S).bind fun a S1=>match a with | .bl true=>.ok (.bl true) S1 | .bl false=>d τ S1 | _=>.no
noncomputable def MZ (c:Ex):Ex:=fun τ S=>(c τ S).bind fun a S1=>match a with | .bl b=>.ok (.bl !b) S1 | _=>.no
theorem IA {op} {c:Ex} (h:AE X a c):AE X (.BoolOp op [a] pos) c:=Jk h
theorem IQ {c d:Ex} (h:AE X a c) (h2:AE X (.BoolOp .And (b::rest) pos) d):AE X (.BoolOp .And (a::b::rest) pos) (Ga c d):=PE.imp (JZ h h2) fun σ H Q h9=>by
 obtain ⟨ρ,S,τ,R,r,h⟩:=h9
 refine ⟨ρ,S,τ,R,r,aI (aM h) .refl fun b S1 h1 ρ1 H1 x e1 R1 v1=>?_⟩
 cases b with
 | bl k=>
  cases Bo v1
  refine ⟨k,rfl,?_⟩
  cases k with
  | true=>
   rw [if_pos rfl]
   exact ⟨ρ1,S1,τ,R1,r.ext e1,aI h1 e1 fun _ _ z=>z.ext e1⟩
  | false=>
   rw [if_neg Bool.false_ne_true]
   exact h1 ρ1 H1 _ e1 R1 (.bl false)
 | _=>exact h1.elim
noncomputable def N8 (t:Te) (c d:Ex):Ex:=fun τ S=>(t τ S).bind fun b S1=>match b with | true=>c τ S1 | false=>d τ S1
noncomputable def aH:gB:=fun _ S=>.ok [] S
noncomputable def aj (c:Ex) (d:gB):gB:=fun τ S=>(c τ S).bind fun a S1=>(d τ S1).bind fun as S2=>.ok (a::as) S2
theorem aA:AL X [] aH:=PA.imp rV fun σ H Q ⟨ρ,S,τ,R,r,h⟩=>h ρ H _ .refl R .nil
theorem af {e:Expr} {es:List Expr} {c:Ex} {d:gB} (ha:AE X e c) (hr:AL X es d) (hs:starEach (e::es) X.env=(false,eval e X.env)::starEach es X.env:=by rfl):AL X (e::es) (aj c d):=
 PA.imp (lX ha hr hs) fun σ H Q h9=>by
  obtain ⟨ρ,S,τ,R,r,h⟩:=h9
  refine ⟨ρ,S,τ,R,r,aI (aM h) .refl fun a S1 h1 ρ1 H1 x e1 R1 v1=>⟨ρ1,S1,τ,R1,r.ext e1,aI (aM h1) e1 fun as S2 h2 ρ2 H2 xs e2 R2 v2=>?_⟩⟩
  exact h2 ρ2 H2 _ (e1.trans e2) R2 (.cons (v1.ext e2) v2)
noncomputable def fm (d:gB):Ex:=fun τ S=>(d τ S).bind fun as S1=>gd (as.length<=sizeLine) (.ok (.tup as) S1)
noncomputable def newL (as:List A) (S:az):R A:=gd (as.length<=sizeLine) (.ok (.ref S.length) (S++[.lst as]))
noncomputable def fJ (d:gB):Ex:=fun τ S=>(d τ S).bind fun as S1=>newL as S1
theorem kR {ρ ρ0:List Addr} {H H0:Hp} {S:az} {as:List A} {vs:List V} {Q:VK} (R:Rel X.K ρ H S) (r:AVs X.K ρ H as vs) (e:Ext ρ0 ρ H0 H) (h:qo X ρ0 H0 Q (.tup as) S):∀ p,H p=none->Q (.ref p) (upd H p (.tup vs)):=fun p hp=>by
 obtain ⟨ex,R'⟩:=R.im (u:=.tup vs) hp
 exact h ρ _ _ (e.trans ex) R' (.tup bJ (r.ext ex))
theorem fM {ρ ρ0:List Addr} {H H0:Hp} {S:az} {as:List A} {vs:List V} {Q:VK} (R:Rel X.K ρ H S) (r:AVs X.K ρ H as vs) (e:Ext ρ0 ρ H0 H) (h:qo X ρ0 H0 Q (.ref S.length) (S++[.lst as])):∀ p,H p=none->Q (.ref p) (upd H p (.lst vs)):=fun p hp=>by
 obtain ⟨ex,R',g⟩:=R.lay hp r
 exact h _ _ _ (e.trans ex) R' (.ref g)
theorem E9 {ρ ρ0:List Addr} {H H0:Hp} {S:az} {as:List A} {vs:List V} {Q:VK} (R:Rel X.K ρ H S) (r:AVs X.K ρ H as vs) (e:Ext ρ0 ρ H0 H) (h:(newL as S).post (qo X ρ0 H0 Q) (XE X ρ0 H0)):vs.length<=sizeLine/\∀ p,H p=none->Q (.ref p) (upd H p (.lst vs)):=by
 obtain ⟨hl,h⟩:=bu h
 exact ⟨by rw [<- r.length];exact hl,fM R r e h⟩
theorem eU {es:List Expr} {d:gB} {x1} (h:AL X es d):AE X (.Tuple es x1 pos) (fm d):=PE.imp (IF h) fun σ H Q h9=>by
 obtain ⟨ρ,S,τ,R,r,h⟩:=h9
 refine ⟨ρ,S,τ,R,r,aI (aM h) .refl fun as S1 h1 ρ1 H1 xs e1 R1 v1=>?_⟩
 obtain ⟨hl,h1⟩:=bu h1
 exact ⟨by rw [<- v1.length];exact hl,kR R1 v1 e1 h1⟩
theorem dg {es:List Expr} {d:gB} (h:AL X es d):AE X (.List es pos) (fJ d):=PE.imp (JE h) fun σ H Q ⟨ρ,S,τ,R,r,h⟩=>
 ⟨ρ,S,τ,R,r,aI (aM h) .refl fun as S1 h1 ρ1 H1 xs e1 R1 v1=>E9 R1 v1 e1 h1⟩
end
section
variable {X:Cx} {pos:Pos} {a b:Expr}
noncomputable def aSub (a b:A) (S:az):R A:=match a,b with
 | .int i,.int j=>.ok (.int (i - j)) S
 | _,_=>.no
theorem u9:gz X (binaryOp .Sub) (r2 X aSub):=gz.imp Iq fun x y H Q h9=>by
 obtain ⟨ρ,S,a,b,R,va,vb,h⟩:=h9
 cases va <;> first | exact h.elim | (cases vb <;> first | exact h.elim | exact ⟨_,_,rfl,rfl,h _ _ _ .refl R (.int _)⟩)
noncomputable def uX (i j:Int):Bool:=(decide (-(2 ^ 64) < i) && decide (i < 2 ^ 64)) || (decide (-(2 ^ 64) < j) && decide (j < 2 ^ 64))
theorem mulOk_of {i j:Int} (h:uX i j=true):GH i j:=by
 unfold uX at h
 simp only [Bool.or_eq_true,Bool.and_eq_true,decide_eq_true_eq] at h
 exact h
noncomputable def ly (a b:A) (S:az):R A:=match a,b with
 | .int i,.int j=>gd (uX i j) (.ok (.int (i * j)) S)
 | .ref n,.int k=>opt (au S n) fun xs=>gd (-(2 ^ 63)<=k/\k < 2 ^ 63/\xs.length * k.toNat<=sizeLine) (.ok (.ref S.length) (S++[.lst (List.replicate k.toNat xs).flatten]))
 | _,_=>.no
theorem AVs.rep {K:PySem.W.Frag} {ρ:List Addr} {H:Hp} {xs:List A} {vs:List V} (r:AVs K ρ H xs vs):∀ k:Nat,AVs K ρ H (List.replicate k xs).flatten (List.replicate k vs).flatten
 | 0=>.nil
 | k+1=>by rw [List.replicate_succ,List.replicate_succ,List.flatten_cons,List.flatten_cons];exact r.append (AVs.rep r k)
theorem qw:gz X (binaryOp .Mult) (r2 X ly):=fun pins s σ H x y v u Q I rx ry h9=>by
 obtain ⟨ρ,S,a,b,R,va,vb,h⟩:=h9
 cases va with
 | int i=>
  cases vb with
  | int j=>
   obtain ⟨hm,h⟩:=bu h
   exact IY pins s σ H _ _ v u Q I rx ry ⟨i,j,rfl,rfl,mulOk_of hm,h _ _ _ .refl R (.int _)⟩
  | _=>exact h.elim
 | @ref p n hp=>
  cases vb with
  | int k=>
   obtain ⟨xs,hn,h⟩:=aL h
   obtain ⟨hc,h⟩:=bu h
   obtain ⟨vs,h1,h2⟩:=R.lst hp (aU hn)
   exact Ir pins s σ H _ _ v u Q I rx ry ⟨p,k,vs,rfl,rfl,h1,hc.1,hc.2.1,by rw [<- h2.length];exact hc.2.2,fM R (h2.rep _) .refl h⟩
  | _=>exact h.elim
 | _=>exact h.elim
noncomputable def xX (a b:A) (S:az):R A:=match a,b with
 | .int i,.int j=>gd (0 < j/\j < 18446744073709551616) (.ok (.int (i / j)) S)
 | _,_=>.no
theorem DZ:gz X (binaryOp .FloorDiv) (r2 X xX):=gz.imp B4 fun x y H Q h9=>by
 obtain ⟨ρ,S,a,b,R,va,vb,h⟩:=h9
 cases va <;> first | exact h.elim | (cases vb <;> first | exact h.elim | exact ⟨_,_,rfl,rfl,(bu h).1,(bu h).2 _ _ _ .refl R (.int _)⟩)
noncomputable def nF (a b:A) (S:az):R A:=match a,b with
 | .int i,.int j=>gd (0 < j) (.ok (.int (i % j)) S)
 | _,_=>.no
theorem qB:gz X (binaryOp .Mod) (r2 X nF):=gz.imp Jr fun x y H Q h9=>by
 obtain ⟨ρ,S,a,b,R,va,vb,h⟩:=h9
 cases va <;> first | exact h.elim | (cases vb <;> first | exact h.elim | exact ⟨_,_,rfl,rfl,(bu h).1,(bu h).2 _ _ _ .refl R (.int _)⟩)
noncomputable def we (a b:A) (S:az):R A:=match a,b with
 | .int i,.int j=>gd (0<=j/\j<=1000000/\i.natAbs < 2 ^ 64) (.ok (.int (i ^ j.toNat)) S)
 | _,_=>.no
theorem CN:gz X (binaryOp .Pow) (r2 X we):=gz.imp Ko fun x y H Q h9=>by
 obtain ⟨ρ,S,a,b,R,va,vb,h⟩:=h9
 cases va <;> first | exact h.elim | (cases vb <;> first | exact h.elim | exact ⟨_,_,rfl,rfl,(bu h).1,(bu h).2 _ _ _ .refl R (.int _)⟩)
noncomputable def cI (a b:A) (S:az):R A:=match a,b with
 | .int i,.int j=>.ok (.int (i+j)) S
 | .tup xs,.tup ys=>gd (xs.length+ys.length<=sizeLine) (.ok (.tup (xs++ys)) S)
 | .str x,.str y=>gd (x.length+y.length<=sizeLine) (.ok (.str (x++y)) S)
 | .ref n,.ref m=>opt (au S n) fun xs=>opt (au S m) fun ys=>gd (xs.length+ys.length<=sizeLine) (.ok (.ref S.length) (S++[.lst (xs++ys)]))
 | _,_=>.no
theorem AVs.nil_inv {K:PySem.W.Frag} {ρ:List Addr} {H:Hp} {xs:List A} {vs:List V} (r:AVs K ρ H xs vs):xs=[] ↔ vs=[]:=by cases r <;> simp
theorem cV:gz X (binaryOp .Add) (r2 X cI):=fun pins s σ H x y v u Q I rx ry h9=>by
 obtain ⟨ρ,S,a,b,R,va,vb,h⟩:=h9
 cases va with
 | int i=>
  cases vb with
  | int j=>exact Iz pins s σ H _ _ v u Q I rx ry ⟨i,j,rfl,rfl,h _ _ _ .refl R (.int _)⟩
  | _=>exact h.elim
 | str x=>
  cases vb with
  | str y=>
   obtain ⟨hc,h⟩:=bu h
   exact vR pins s σ H _ _ v u Q I rx ry ⟨x,y,rfl,rfl,hc,h _ _ _ .refl R (.str _)⟩
  | _=>exact h.elim
 | @tup p xs vs h1 r1=>
  cases vb with
  | @tup q ys ws h2 r2=>
   obtain ⟨hc,h⟩:=bu h
   by_cases hv:vs=[]
   ·have hx:=r1.nil_inv.mpr hv
    subst hv hx
    exact BW pins s σ H _ _ v u Q I rx ry ⟨p,q,ws,rfl,rfl,fC.of h1,fC.of h2,h _ _ _ .refl R (.tup h2 r2)⟩
   ·refine GF pins s σ H _ _ v u Q I rx ry ⟨p,q,vs,ws,rfl,rfl,fC.of h1,fC.of h2,hv,by rw [<- r1.length,<- r2.length];exact hc,fun e=>?_,fun _=>kR R (r1.append r2) .refl h⟩
    have hy:=r2.nil_inv.mpr e
    subst hy
    rw [List.append_nil] at h
    exact h _ _ _ .refl R (.tup h1 r1)
  | _=>exact h.elim
 | @ref p n hp=>
  cases vb with
  | @ref q m hq=>
   obtain ⟨xs,hn,h⟩:=aL h
   obtain ⟨ys,hm,h⟩:=aL h
   obtain ⟨hc,h⟩:=bu h
   obtain ⟨vs,h1,h2⟩:=R.lst hp (aU hn)
   obtain ⟨ws,h3,h4⟩:=R.lst hq (aU hm)
   exact J0 pins s σ H _ _ v u Q I rx ry ⟨p,q,vs,ws,rfl,rfl,h1,h3,by rw [<- h2.length,<- h4.length];exact hc,fM R (h2.append h4) .refl h⟩
  | _=>exact h.elim
 | _=>exact h.elim
noncomputable def A.ints:List A->Option (List Int)
 | []=>some []
 | .int i::xs=>(A.ints xs).map (i::·)
 | _=>none
theorem rF {K:PySem.W.Frag} {ρ:List Addr} {H:Hp}:∀ {xs:List A} {vs:List V} {bs:List Int},AVs K ρ H xs vs->A.ints xs=some bs->vs=bs.map V.int
 | _,_,_,.nil,e=>by cases e;rfl
 | _,_,_,.cons (x:=.int b) h t,e=>by
  obtain ⟨cs,e1,rfl⟩:=Option.map_eq_some_iff.mp e
  cases h
  rw [rF t e1];rfl
 | _,_,_,.cons (x:=.unb) h t,e=>nomatch e
 | _,_,_,.cons (x:=.non) h t,e=>nomatch e
 | _,_,_,.cons (x:=.bl _) h t,e=>nomatch e
 | _,_,_,.cons (x:=.str _) h t,e=>nomatch e
 | _,_,_,.cons (x:=.tup _) h t,e=>nomatch e
 | _,_,_,.cons (x:=.frz _) h t,e=>nomatch e
 | _,_,_,.cons (x:=.rng _ _) h t,e=>nomatch e
 | _,_,_,.cons (x:=.ref _) h t,e=>nomatch e
 | _,_,_,.cons (x:=.exn _) h t,e=>nomatch e
 | _,_,_,.cons (x:=.ty _) h t,e=>nomatch e
noncomputable def Me (a b:A) (S:az):R A:=match a,b with
 | .int i,.int j=>.ok (.bl (decide (i < j))) S
 | _,_=>.no
theorem Ll (hu:X.A.units+64 < cLine):gz X (compareOp .Lt) (r2 X Me):=fun pins s σ H x y v u Q I rx ry h9=>by
 obtain ⟨ρ,S,a,b,R,va,vb,h⟩:=h9
 cases va with
 | int i=>
  cases vb with
  | int j=>exact K1 pins s σ H _ _ v u Q I rx ry ⟨i,j,rfl,rfl,h _ _ _ .refl R (.bl _)⟩
  | _=>exact h.elim
 | _=>exact h.elim
noncomputable def MX (a b:A) (S:az):R A:=match a,b with
 | .int i,.int j=>.ok (.bl (decide (i<=j))) S
 | _,_=>.no
theorem MF:gz X (compareOp .LtE) (r2 X MX):=gz.imp Lj fun x y H Q h9=>by
 obtain ⟨ρ,S,a,b,R,va,vb,h⟩:=h9
 cases va <;> first | exact h.elim | (cases vb <;> first | exact h.elim | exact ⟨_,_,rfl,rfl,h _ _ _ .refl R (.bl _)⟩)
noncomputable def LV (a b:A) (S:az):R A:=match a,b with
 | .int i,.int j=>.ok (.bl (decide (j < i))) S
 | _,_=>.no
theorem JT (hu:X.A.units+64 < cLine):gz X (compareOp .Gt) (r2 X LV):=fun pins s σ H x y v u Q I rx ry h9=>by
 obtain ⟨ρ,S,a,b,R,va,vb,h⟩:=h9
 cases va with
 | int i=>
  cases vb with
  | int j=>exact L3 pins s σ H _ _ v u Q I rx ry ⟨i,j,rfl,rfl,h _ _ _ .refl R (.bl _)⟩
  | _=>exact h.elim
 | _=>exact h.elim
noncomputable def Mq (a b:A) (S:az):R A:=match a,b with
 | .int i,.int j=>.ok (.bl (decide (j<=i))) S
 | _,_=>.no
theorem Ny:gz X (compareOp .GtE) (r2 X Mq):=gz.imp Ln fun x y H Q h9=>by
 obtain ⟨ρ,S,a,b,R,va,vb,h⟩:=h9
 cases va <;> first | exact h.elim | (cases vb <;> first | exact h.elim | exact ⟨_,_,rfl,rfl,h _ _ _ .refl R (.bl _)⟩)
noncomputable def G6 (neg:Bool) (a b:A) (S:az):R A:=match a,b with
 | .bl i,.bl j=>.ok (.bl (if neg then i != j else i == j)) S
 | .non,.non=>.ok (.bl (!neg)) S
 | .unb,.non=>.no
 | .exn _,.non=>.no
 | _,.non=>.ok (.bl neg) S
 | _,_=>.no
noncomputable def Mv (f:A->az->R A) (c:Ex):Ex:=fun τ S=>(c τ S).bind fun a S1=>f a S1
noncomputable def FG (a:A) (S:az):R A:=match a with
 | .int i=>.ok (.int (-i)) S
 | _=>.no
theorem K7:Ml X (unaryOp .USub) (r1 X FG):=fun pins s σ H x v Q I rx h9=>by
 obtain ⟨ρ,S,a,R,va,h⟩:=h9
 cases va with
 | int i=>exact Jl pins s σ H _ v Q I rx ⟨i,rfl,h _ _ _ .refl R (.int _)⟩
 | _=>exact h.elim
theorem I0 {f:A->az->R A} {c:Ex} {σ:L2.St} {H:Hp} {Q:VK} (h:tE X (Mv f c) σ H Q):NC (r1 X f) (tE X c) σ H Q:=by
 obtain ⟨ρ,S,τ,R,r,h⟩:=h
 exact ⟨ρ,S,τ,R,r,aI (aM h) .refl fun a S1 h1 ρ1 H1 x e1 R1 v1=>⟨ρ1,S1,a,R1,v1,aI h1 e1 fun c S3 h3=>h3.ext e1⟩⟩
theorem Ku {c:Ex} (h:AE X a c):AE X (.UnaryOp .USub a pos) (Mv FG c):=PE.imp (KI K7 h) fun _ _ _ q=>I0 q
noncomputable def kO (a b:A) (S:az):R A:=match a,b with
 | .tup xs,.int i=>opt (kG xs i) fun x=>.ok x S
 | .frz xs,.int i=>opt (kG xs i) fun x=>.ok x S
 | .ref n,.int i=>opt (au S n) fun xs=>opt (kG xs i) fun x=>.ok x S
 | .str z,.int i=>gd (z.length<=sizeLine) (opt (kG z.cps.toList i) fun c=>.ok (.str ⟨#[c]⟩) S)
 | _,_=>.no
theorem AVs.kG {K:PySem.W.Frag} {ρ:List Addr} {H:Hp} {xs:List A} {vs:List V} {i:Int} {x:A} (r:AVs K ρ H xs vs) (h:L2.kG xs i=some x):∃ v,L2.kG vs i=some v/\AV K ρ H x v:=by
 unfold L2.kG at h ⊢
 rw [<- r.length]
 cases hj:yC xs.length i with
 | none=>rw [hj] at h;cases h
 | some j=>
  rw [hj] at h
  exact r.get h
theorem LH:Hq X (r2 X kO):=fun value slice pins s σ H x y v u Q I rx ry ⟨ρ,S,a,b,R,va,vb,h⟩ hs=>by
 cases va with
 | @tup p xs vs h1 r1=>
  cases vb with
  | int i=>
   obtain ⟨x,hx,h⟩:=aL h
   obtain ⟨z,e,q⟩:=r1.kG hx
   exact Ju value slice pins s σ H _ _ v u Q I rx ry ⟨p,vs,i,z,rfl,rfl,fC.of h1,e,h _ _ _ .refl R q⟩ hs
  | _=>exact h.elim
 | @frz p xs vs h1 r1=>
  cases vb with
  | int i=>
   obtain ⟨x,hx,h⟩:=aL h
   obtain ⟨z,e,q⟩:=r1.kG hx
   exact yh value slice pins s σ H _ _ v u Q I rx ry ⟨p,vs,i,z,rfl,rfl,h1.HU,e,h _ _ _ .refl R q⟩ hs
  | _=>exact h.elim
 | @ref p n hp=>
  cases vb with
  | int i=>
   obtain ⟨xs,hn,h⟩:=aL h
   obtain ⟨x,hx,h⟩:=aL h
   obtain ⟨vs,h1,r1⟩:=R.lst hp (aU hn)
   obtain ⟨z,e,q⟩:=r1.kG hx
   exact yh value slice pins s σ H _ _ v u Q I rx ry ⟨p,vs,i,z,rfl,rfl,ir.of h1,e,h _ _ _ .refl R q⟩ hs
  | _=>exact h.elim
 | str z=>
  cases vb with
  | int i=>
   obtain ⟨hz,h⟩:=bu h
   obtain ⟨c,hc,h⟩:=aL h
   exact JG value slice pins s σ H _ _ v u Q I rx ry ⟨z,i,c,rfl,rfl,hz,hc,h _ _ _ .refl R (.str _)⟩ hs
  | _=>exact h.elim
 | _=>exact h.elim
theorem dM {ca cb:Ex} (ha:AE X a ca) (hb:AE X b cb) (hs:nI b:=by exact fun _ _=>rfl):AE X (.Subscript a b pos) (aJ kO ca cb):=PE.imp (B6 LH ha hb hs) fun σ H Q h=>jU h
end
noncomputable def gb (f:A->A->Option Bool):List A->List A->Option Bool
 | [],[]=>some true
 | x::xs,y::ys=>(f x y).bind fun p=>(gb f xs ys).map fun q=>p && q
 | _,_=>some false
inductive Sh
 | non
 | bl (b:Bool)
 | int (i:Int)
 | str (x:Str)
 | tup (xs:List A)
 | lst
noncomputable def KA (S:az):A->Option Sh
 | .non=>some .non
 | .bl b=>some (.bl b)
 | .int i=>some (.int i)
 | .str x=>some (.str x)
 | .tup xs=>some (.tup xs)
 | .ref i=>(au S i).map fun _=>.lst
 | _=>none
noncomputable def GN (f:A->A->Option Bool):Sh->Sh->Option Bool
 | .non,.non=>some true
 | .bl x,.bl y=>some (x == y)
 | .bl x,.int y=>some ((if x then 1 else 0) == y)
 | .int x,.bl y=>some (x == (if y then 1 else 0))
 | .int x,.int y=>some (x == y)
 | .str x,.str y=>some (x == y)
 | .tup xs,.tup ys=>gb f xs ys
 | .lst,.lst=>none
 | _,_=>some false
noncomputable def iK (S:az):Nat->A->A->Option Bool
 | 0,_,_=>none
 | n+1,a,b=>match a,b with
  | .ref i,.ref j=>(au S i).bind fun xs=>(au S j).bind fun ys=>gb (iK S n) xs ys
  | _,_=>(KA S a).bind fun x=>(KA S b).bind fun y=>GN (iK S n) x y
section
variable {X:Cx} {pins:List (Addr×Obj)} {σ:L2.St} {H:Hp} {s:Shared} {ρ:List Addr} {S:az}
inductive KdV (s:Shared):Sh->Value->Prop
 | non:KdV s .non .none
 | bl (b:Bool):KdV s (.bl b) (.bool b)
 | int (i:Int) (t:Tok):KdV s (.int i) (.int i t)
 | str (x:Str) (t:Tok):KdV s (.str x) (.str x t)
 | tup {p:Addr} {us:List Value} (xs:List A) (h:s.heap.IsTuple p us.toArray):KdV s (.tup xs) (.ref p)
 | lst {p:Addr} {us:List Value} (h:s.heap.IsList p us.toArray):KdV s .lst (.ref p)
theorem yQ {p:Addr} {us ws:Array Value} (h:s.heap.IsTuple p us) (h':s.heap.IsList p ws):False:=by
 obtain ⟨o,e,c,_⟩:=h
 obtain ⟨o',e',c',_⟩:=h'
 rw [e] at e'
 cases e'
 exact absurd (c.symm.trans c') (by decide)
theorem yF (I:Inv X pins σ H s) (R:Rel X.K ρ H S) {a:A} {x:V} {u:Value} {h:Sh} (ha:AV X.K ρ H a x) (r:RelV x u) (e:KA S a=some h):KdV s h u:=by
 cases ha with
 | non=>cases e;cases (show u=Value.none from r);exact .non
 | bl b=>cases e;cases (show u=Value.bool b from r);exact .bl b
 | int i=>cases e;obtain ⟨t,rfl⟩:∃ t,u=Value.int i t:=r;exact .int i t
 | str i=>cases e;obtain ⟨t,rfl⟩:∃ t,u=Value.str i t:=r;exact .str i t
 | tup h1 r1=>cases e;cases (show u=Value.ref _ from r);obtain ⟨us,_,p,_⟩:=I.tuple (fC.of h1);exact .tup _ p
 | ref h1=>
  obtain ⟨xs,e1,rfl⟩:=Option.map_eq_some_iff.mp e
  cases (show u=Value.ref _ from r)
  obtain ⟨vs,h3,r1⟩:=R.lst h1 (aU e1)
  obtain ⟨us,_,p,_⟩:=I.list (ir.of h3)
  exact .lst p.isList
 | _=>cases e
noncomputable def Al (B:Around) (s:Shared) (u v:Value) (k:Bool):Prop:=SeqAt.RcAt B s u v k/\SeqAt.EqAt B s u v k/\SeqAt.RcNeAt B s u v (!k)
theorem K3 {B:Around} (hu:B.units < cLine) {f:A->A->Option Bool} {h h':Sh} {u v:Value} {k:Bool} (d:KdV s h u) (d':KdV s h' v) (nt:∀ xs ys,h=.tup xs->h'≠.tup ys) (e:GN f h h'=some k):Al B s u v k:=by
 cases d with
 | non=>cases d' with
  | non=>cases e;exact ⟨.none_none,.same _,.none_none⟩
  | bl b=>cases e;exact ⟨.none_bool _,.none_bool _,.none_bool _⟩
  | int i t=>cases e;exact ⟨.none_int _ _,.none_int _ _,.none_int _ _⟩
  | str x t=>cases e;exact ⟨.none_str _ _,.none_str _ _,.none_str _ _⟩
  | tup xs p=>cases e;exact ⟨.none_tuple p hu,.none_tuple p hu,.none_tuple p hu⟩
  | lst p=>cases e;exact ⟨.none_list p hu,.none_list p hu,.none_list p hu⟩
 | bl c=>cases d' with
  | non=>cases e;exact ⟨.bool_none _,.bool_none _,.bool_none _⟩
  | bl b=>cases e;exact ⟨.bool_bool _ _,.bool_bool _ _,.bool_bool _ _⟩
  | int i t=>cases e;exact ⟨.bool_int _ _ _,.bool_int _ _ _,.bool_int _ _ _⟩
  | str x t=>cases e;exact ⟨.bool_str _ _ _,.bool_str _ _ _,.bool_str _ _ _⟩
  | tup xs p=>cases e;exact ⟨.bool_tuple _ p hu,.bool_tuple _ p hu,.bool_tuple _ p hu⟩
  | lst p=>cases e;exact ⟨.bool_list _ p hu,.bool_list _ p hu,.bool_list _ p hu⟩
 | int c t'=>cases d' with
  | non=>cases e;exact ⟨.int_none _ _,.int_none _ _,.int_none _ _⟩
  | bl b=>cases e;exact ⟨.int_bool _ _ _,.int_bool _ _ _,.int_bool _ _ _⟩
  | int i t=>cases e;exact ⟨.int_int _ _ _ _,.int_int _ _ _ _,.int_int _ _ _ _⟩
  | str x t=>cases e;exact ⟨.int_str _ _ _ _,.int_str _ _ _ _,.int_str _ _ _ _⟩
  | tup xs p=>cases e;exact ⟨.int_tuple _ _ p hu,.int_tuple _ _ p hu,.int_tuple _ _ p hu⟩
  | lst p=>cases e;exact ⟨.int_list _ _ p hu,.int_list _ _ p hu,.int_list _ _ p hu⟩
 | str c t'=>cases d' with
  | non=>cases e;exact ⟨.str_none _ _,.str_none _ _,.str_none _ _⟩
  | bl b=>cases e;exact ⟨.str_bool _ _ _,.str_bool _ _ _,.str_bool _ _ _⟩
  | int i t=>cases e;exact ⟨.str_int _ _ _ _,.str_int _ _ _ _,.str_int _ _ _ _⟩
  | str x t=>cases e;exact ⟨.str_str _ _ _ _,.str_str _ _ _ _,.str_str _ _ _ _⟩
  | tup xs p=>cases e;exact ⟨.str_tuple _ _ p hu,.str_tuple _ _ p hu,.str_tuple _ _ p hu⟩
  | lst p=>cases e;exact ⟨.str_list _ _ p hu,.str_list _ _ p hu,.str_list _ _ p hu⟩
 | tup zs p'=>cases d' with
  | non=>cases e;exact ⟨.tuple_none p' hu,.tuple_none p' hu,.tuple_none p' hu⟩
  | bl b=>cases e;exact ⟨.tuple_bool _ p' hu,.tuple_bool _ p' hu,.tuple_bool _ p' hu⟩
  | int i t=>cases e;exact ⟨.tuple_int _ _ p' hu,.tuple_int _ _ p' hu,.tuple_int _ _ p' hu⟩
  | str x t=>cases e;exact ⟨.tuple_str _ _ p' hu,.tuple_str _ _ p' hu,.tuple_str _ _ p' hu⟩
  | tup xs p=>exact absurd rfl (nt _ _ rfl)
  | lst p=>cases e;exact ⟨.tuple_list p' p hu,.of_refs (fun z=>by subst z;exact yQ p' p) (.tuple_list p' p hu),.tuple_list p' p hu⟩
 | lst p'=>cases d' with
  | non=>cases e;exact ⟨.list_none p' hu,.list_none p' hu,.list_none p' hu⟩
  | bl b=>cases e;exact ⟨.list_bool _ p' hu,.list_bool _ p' hu,.list_bool _ p' hu⟩
  | int i t=>cases e;exact ⟨.list_int _ _ p' hu,.list_int _ _ p' hu,.list_int _ _ p' hu⟩
  | str x t=>cases e;exact ⟨.list_str _ _ p' hu,.list_str _ _ p' hu,.list_str _ _ p' hu⟩
  | tup xs p=>cases e;exact ⟨.list_tuple p' p hu,.of_refs (fun z=>by subst z;exact yQ p p') (.list_tuple p' p hu),.list_tuple p' p hu⟩
  | lst p=>cases e
theorem r8 {a:A} {x:V} {xs:List A} (h:AV X.K ρ H a x) (e:KA S a=some (.tup xs)):a=.tup xs/\∃ p vs,x=.ref p/\H p=some (.tup vs)/\AVs X.K ρ H xs vs:=by
 cases h with
 | tup h r=>cases e;exact ⟨rfl,_,_,rfl,h,r⟩
 | ref h=>obtain ⟨_,_,z⟩:=Option.map_eq_some_iff.mp e;cases z
 | _=>cases e
theorem sQ {i:Nat} {x:V} (h:AV X.K ρ H (.ref i) x):∃ p,x=.ref p/\ρ[i]?=some p:=by
 cases h with
 | ref h=>exact ⟨_,rfl,h⟩
theorem DB {a:A} (e:KA S a=some .lst):∃ i,a=.ref i:=by
 cases a with
 | ref i=>exact ⟨i,rfl⟩
 | _=>cases e
theorem EZ {n:Nat} {a b:A} {k:Bool} (e:iK S (n+1) a b=some k):(∃ i j xs ys,a=.ref i/\b=.ref j/\au S i=some xs/\au S j=some ys/\gb (iK S n) xs ys=some k)\/(∃ h h',KA S a=some h/\KA S b=some h'/\GN (iK S n) h h'=some k/\(h=.lst->h'≠.lst)):=by
 unfold iK at e
 split at e
 ·obtain ⟨xs,e1,e⟩:=Option.bind_eq_some_iff.mp e
  obtain ⟨ys,e2,e⟩:=Option.bind_eq_some_iff.mp e
  exact .inl ⟨_,_,xs,ys,rfl,rfl,e1,e2,e⟩
 ·rename_i nr
  obtain ⟨h,e1,e⟩:=Option.bind_eq_some_iff.mp e
  obtain ⟨h',e2,e⟩:=Option.bind_eq_some_iff.mp e
  refine .inr ⟨h,h',e1,e2,e,fun z1 z2=>?_⟩
  subst z1 z2
  obtain ⟨i,rfl⟩:=DB e1
  obtain ⟨j,rfl⟩:=DB e2
  exact nr i j rfl rfl
theorem FW {f:A->A->Option Bool} {h h':Sh} {u:Value} {k:Bool} (d:KdV s h u) (d':KdV s h' u) (nt:∀ xs ys,h=.tup xs->h'≠.tup ys) (e:GN f h h'=some k):k=true:=by
 cases d with
 | non=>cases d';exact (Option.some.inj e).symm
 | bl b=>cases d';exact (Option.some.inj e).symm.trans (beq_self_eq_true b)
 | int b=>cases d';exact (Option.some.inj e).symm.trans (beq_self_eq_true b)
 | str b=>cases d';exact (Option.some.inj e).symm.trans (beq_self_eq_true b)
 | tup xs p=>cases d' with
  | tup=>exact absurd rfl (nt _ _ rfl)
  | lst q=>exact (yQ p q).elim
 | lst p=>cases d' with
  | tup _ q=>exact (yQ q p).elim
  | lst q=>cases e
theorem uD {f:A->A->Option Bool} (hf:∀ a b x u k,AV X.K ρ H a x->AV X.K ρ H b x->RelV x u->f a b=some k->k=true):∀ {xs ys:List A} {vs:List V} {us:List Value} {k:Bool},AVs X.K ρ H xs vs->AVs X.K ρ H ys vs->Vals vs us->gb f xs ys=some k->k=true:=by
 intro xs ys vs us k h1 h2 q e
 induction q generalizing xs ys k with
 | nil=>cases h1;cases h2;exact (Option.some.inj e).symm
 | cons rv _ ih=>
  cases h1 with
  | cons h t=>cases h2 with
   | cons h' t'=>
    obtain ⟨p,e1,e⟩:=Option.bind_eq_some_iff.mp e
    obtain ⟨q,e2,e3⟩:=Option.map_eq_some_iff.mp e
    rw [<- e3,hf _ _ _ _ p h h' rv e1,ih t t' e2];rfl
theorem yT (h h':Sh):(∃ xs ys,h=.tup xs/\h'=.tup ys)\/(∀ xs ys,h=.tup xs->h'≠.tup ys):=by
 cases h with
 | tup xs=>cases h' with
  | tup ys=>exact .inl ⟨xs,ys,rfl,rfl⟩
  | _=>exact .inr fun _ _ _ z=>nomatch z
 | _=>exact .inr fun _ _ z=>nomatch z
theorem r_ (I:Inv X pins σ H s) (R:Rel X.K ρ H S):∀ (n:Nat) (a b:A) (x:V) (u:Value) (k:Bool),AV X.K ρ H a x->AV X.K ρ H b x->RelV x u->iK S n a b=some k->k=true
 | 0,_,_,_,_,_,_,_,_,e=>nomatch e
 | n+1,a,b,x,u,k,ha,hb,ru,e=>by
  rcases EZ e with ⟨i,j,xs,ys,rfl,rfl,e1,e2,e⟩ | ⟨h,h',e1,e2,e,_⟩
  ·obtain ⟨p,rfl,h1⟩:=sQ ha
   obtain ⟨q,z,h2⟩:=sQ hb
   cases z
   obtain ⟨vs,h3,r1⟩:=R.lst h1 (aU e1)
   obtain ⟨ws,h4,r2⟩:=R.lst h2 (aU e2)
   rw [h3] at h4
   cases h4
   obtain ⟨us,q,_⟩:=I.list (ir.of h3)
   exact uD (fun a b x u k=>r_ I R n a b x u k) r1 r2 q e
  ·rcases yT h h' with ⟨xs,ys,rfl,rfl⟩ | nt
   ·obtain ⟨rfl,p,vs,rfl,h3,r1⟩:=r8 ha e1
    obtain ⟨rfl,q,ws,z,h4,r2⟩:=r8 hb e2
    cases z
    have:=I.qE (fC.of h3) (fC.of h4)
    subst this
    obtain ⟨us,q,_⟩:=I.tuple (fC.of h3)
    exact uD (fun a b x u k=>r_ I R n a b x u k) r1 r2 q e
   ·exact FW (yF I R ha ru e1) (yF I R hb ru e2) nt e
noncomputable def pZ (f:A->A->Option Bool) (xs ys:List A) (j:Nat):Bool:=match xs[j]?,ys[j]? with
 | some x,some y=>(f x y).getD true
 | _,_=>true
theorem nH {f:A->A->Option Bool}:∀ {xs ys:List A} {k:Bool},gb f xs ys=some k->k=((List.range (min xs.length ys.length)).all (pZ f xs ys) && xs.length == ys.length)/\∀ j x y,xs[j]?=some x->ys[j]?=some y->f x y=some (pZ f xs ys j)
 | [],[],k,e=>⟨(Option.some.inj e).symm,fun j x y h=>by simp at h⟩
 | [],_::_,k,e=>⟨(Option.some.inj e).symm,fun j x y h=>by simp at h⟩
 | _::_,[],k,e=>⟨(Option.some.inj e).symm,fun j x y _ h=>by simp at h⟩
 | x::xs,y::ys,k,e=>by
  unfold gb at e
  cases e1:f x y with
  | none=>rw [e1] at e;cases e
  | some p=>
   rw [e1] at e
   obtain ⟨q,e2,e3⟩:=Option.map_eq_some_iff.mp e
   obtain ⟨h1,h2⟩:=nH e2
   have p0:pZ f (x::xs) (y::ys) 0=p:=by simp [pZ,e1]
   have ps:∀ j,pZ f (x::xs) (y::ys) (j+1)=pZ f xs ys j:=fun j=>by simp [pZ]
   refine ⟨?_,fun j a b ha hb=>?_⟩
   ·rw [<- e3,h1,List.length_cons,List.length_cons,Nat.succ_min_succ,List.range_succ_eq_map,List.all_cons,List.all_map,p0]
    have:(pZ f (x::xs) (y::ys) ∘ Nat.succ)=pZ f xs ys:=funext ps
    rw [this,Bool.and_assoc]
    simp
   ·cases j with
    | zero=>
     simp at ha hb
     subst ha hb
     rw [p0];exact e1
    | succ j=>rw [ps];exact h2 j a b (by simpa using ha) (by simpa using hb)
theorem nQ {f:A->A->Option Bool} {B:Around} (hf:∀ a b x y u v k,AV X.K ρ H a x->AV X.K ρ H b y->RelV x u->RelV y v->f a b=some k->SeqAt.EqAt B s u v k) {xs ys:List A} {vs ws:List V} {us ts:List Value} {k:Bool}
  (r1:AVs X.K ρ H xs vs) (r2:AVs X.K ρ H ys ws) (q1:Vals vs us) (q2:Vals ws ts) (e:gb f xs ys=some k):∀ j (h1:j < us.toArray.size) (h2:j < ts.toArray.size),SeqAt.EqAt B s us.toArray[j] ts.toArray[j] (pZ f xs ys j):=by
 intro j h1 h2
 have l1:=r1.length
 have l2:=r2.length
 have l3:=q1.length
 have l4:=q2.length
 have hx:j < xs.length:=by simp at h1;omega
 have hy:j < ys.length:=by simp at h2;omega
 have e1:xs[j]?=some xs[j]:=List.getElem?_eq_getElem hx
 have e2:ys[j]?=some ys[j]:=List.getElem?_eq_getElem hy
 obtain ⟨x,ex,ax⟩:=r1.get e1
 obtain ⟨y,ey,ay⟩:=r2.get e2
 obtain ⟨u,eu,ru⟩:=q1.get ex
 obtain ⟨t,et,rt⟩:=q2.get ey
 have a1:us.toArray[j]=u:=by
  have:us[j]?=some us.toArray[j]:=by simp at h1;simp [h1]
  rw [eu] at this;exact (Option.some.inj this).symm
 have a2:ts.toArray[j]=t:=by
  have:ts[j]?=some ts.toArray[j]:=by simp at h2;simp [h2]
  rw [et] at this;exact (Option.some.inj this).symm
 rw [a1,a2]
 exact hf _ _ x y u t _ ax ay ru rt ((nH e).2 j _ _ e1 e2)
theorem in1_units (B:Around):B.in1.units=B.units+1:=rfl
theorem DP (I:Inv X pins σ H s) (R:Rel X.K ρ H S):∀ (n:Nat) (B:Around) (a b:A) (x y:V) (u v:Value) (k:Bool),B.units+n < cLine->AV X.K ρ H a x->AV X.K ρ H b y->RelV x u->RelV y v->iK S n a b=some k->Al B s u v k
 | 0,_,_,_,_,_,_,_,_,_,_,_,_,_,e=>nomatch e
 | n+1,B,a,b,x,y,u,v,k,hu,ha,hb,rx,ry,e=>by
  have hu0:B.units < cLine:=by omega
  have items:∀ a b x y u v k,AV X.K ρ H a x->AV X.K ρ H b y->RelV x u->RelV y v->iK S n a b=some k->SeqAt.EqAt B.in1 s u v k:=fun a b x y u v k h1 h2 h3 h4 h5=>(DP I R n B.in1 a b x y u v k (by rw [in1_units];omega) h1 h2 h3 h4 h5).2.1
  have same:=fun (z:y=x)=>r_ I R (n+1) a b x u k ha (z ▸ hb) rx e
  have refs:∀ {p q:Addr},x=.ref p->y=.ref q->u=.ref p->v=.ref q->SeqAt.RcAt B s u v k->SeqAt.EqAt B s u v k:=fun {p q} z1 z2 z3 z4 h=>by
   subst z3 z4
   by_cases hp:p=q
   ·subst hp
    rw [same (z2.trans z1.symm)]
    exact .same _
   ·exact .of_refs hp h
  rcases EZ e with ⟨i,j,xs,ys,rfl,rfl,e1,e2,e⟩ | ⟨h,h',e1,e2,e,_⟩
  ·obtain ⟨p,rfl,h1⟩:=sQ ha
   obtain ⟨q,rfl,h2⟩:=sQ hb
   obtain ⟨vs,h3,r1⟩:=R.lst h1 (aU e1)
   obtain ⟨ws,h4,r2⟩:=R.lst h2 (aU e2)
   obtain ⟨us,q1,p1,_⟩:=I.list (ir.of h3)
   obtain ⟨ts,q2,p2,_⟩:=I.list (ir.of h4)
   have ru:=refs rfl rfl rx ry
   cases (show u=Value.ref p from rx)
   cases (show v=Value.ref q from ry)
   have l1:=r1.length
   have l2:=r2.length
   have l3:=q1.length
   have l4:=q2.length
   have ek:=(nH e).1
   by_cases hl:xs.length=ys.length
   ·rw [<- hl,Nat.min_self,beq_self_eq_true,Bool.and_true] at ek
    have eh:us.toArray.size=ts.toArray.size:=by simp;omega
    have z1:=SeqAt.RcAt.lists p1.isList p2.isList eh hu0 (nQ items r1 r2 q1 q2 e)
    have z2:=SeqAt.RcNeAt.lists p1.isList p2.isList eh hu0 (nQ items r1 r2 q1 q2 e)
    rw [List.size_toArray,<- l3,<- l1,<- ek] at z1 z2
    exact ⟨z1,ru z1,z2⟩
   ·have:(xs.length == ys.length)=false:=by simpa using hl
    rw [this,Bool.and_false] at ek
    subst ek
    have eh:(us.toArray.size != ts.toArray.size)=true:=by simp;omega
    have z1:=SeqAt.RcAt.lists_lengths p1.isList p2.isList eh hu0
    exact ⟨z1,ru z1,SeqAt.RcNeAt.lists_lengths p1.isList p2.isList eh hu0⟩
  ·rcases yT h h' with ⟨xs,ys,rfl,rfl⟩ | nt
   ·obtain ⟨rfl,p,vs,rfl,h3,r1⟩:=r8 ha e1
    obtain ⟨rfl,q,ws,rfl,h4,r2⟩:=r8 hb e2
    have ru:=refs rfl rfl rx ry
    cases (show u=Value.ref p from rx)
    cases (show v=Value.ref q from ry)
    obtain ⟨us,q1,p1,_⟩:=I.tuple (fC.of h3)
    obtain ⟨ts,q2,p2,_⟩:=I.tuple (fC.of h4)
    have ek:=(nH e).1
    have z1:=SeqAt.RcAt.tuples p1 p2 hu0 (nQ items r1 r2 q1 q2 e)
    have z2:=SeqAt.RcNeAt.tuples p1 p2 hu0 (nQ items r1 r2 q1 q2 e)
    rw [List.size_toArray,List.size_toArray,<- q1.length,<- q2.length,<- r1.length,<- r2.length,<- ek] at z1 z2
    exact ⟨z1,ru z1,z2⟩
   ·exact K3 hu0 (yF I R ha rx e1) (yF I R hb ry e2) nt e
end
section
variable {X:Cx}
noncomputable def fL (neg:Bool) (a b:A) (S:az):R A:=opt (iK S 12 a b) fun k=>.ok (.bl (if neg then !k else k)) S
theorem Ac (hu:X.A.units+64 < cLine):gz X (compareOp .Eq) (r2 X (fL false)):=fun pins s σ H x y v u Q I rx ry h9=>by
 obtain ⟨ρ,S,a,b,R,va,vb,h⟩:=h9
 obtain ⟨k,e,h⟩:=aL h
 exact (DP I R 12 X.A a b x y v u k (by omega) va vb rx ry e).1 _ _ _ _ ⟨.bl _,H,I,rfl,h _ _ _ .refl R (.bl _)⟩
theorem kg (hu:X.A.units+64 < cLine):gz X (compareOp .NotEq) (r2 X (fL true)):=fun pins s σ H x y v u Q I rx ry h9=>by
 obtain ⟨ρ,S,a,b,R,va,vb,h⟩:=h9
 obtain ⟨k,e,h⟩:=aL h
 exact (DP I R 12 X.A a b x y v u k (by omega) va vb rx ry e).2.2 _ _ _ _ ⟨.bl _,H,I,rfl,h _ _ _ .refl R (.bl _)⟩
end
section
variable {X:Cx} {pos:Pos} {a b:Expr}
noncomputable abbrev Pt:=List A->az->R (Option Int)
noncomputable def LO:Pt:=fun _ S=>.ok none S
noncomputable def L6 (c:Ex):Pt:=fun τ S=>(c τ S).bind fun a S1=>match a with
 | .int i=>.ok (some i) S1
 | _=>.no
noncomputable def GW (xs:List A) (lo hi:Option Int):List A:=(xs.drop (HT.LL xs.length 0 lo)).take (HT.LL xs.length xs.length hi - HT.LL xs.length 0 lo)
noncomputable def Mp (a:A) (lo hi:Option Int) (S:az):R A:=match a with
 | .ref n=>opt (au S n) fun xs=>.ok (.ref S.length) (S++[.lst (GW xs lo hi)])
 | .frz xs=>.ok (.ref S.length) (S++[.lst (GW xs lo hi)])
 | .tup xs=>gd (¬ (HT.LL xs.length 0 lo=0/\HT.LL xs.length xs.length hi=xs.length)) (.ok (.tup (GW xs lo hi)) S)
 | _=>.no
noncomputable def N_ (c:Ex) (lo hi:Pt):Ex:=fun τ S=>(c τ S).bind fun a S1=>(lo τ S1).bind fun l S2=>(hi τ S2).bind fun u S3=>Mp a l u S3
noncomputable def K2 (a:A) (S:az):R A:=match a with
 | .ref n=>opt (au S n) fun xs=>.ok (.ref S.length) (S++[.lst xs.reverse])
 | .tup xs=>.ok (.tup xs.reverse) S
 | _=>.no
noncomputable def bB (f:List A->az->R A) (d:gB):Ex:=fun τ S=>(d τ S).bind fun as S1=>f as S1
theorem tY {f:List A->az->R A} {d:gB} {σ:L2.St} {H:Hp} {Q:VK} (h:tE X (bB f d) σ H Q):MN (rN X f) (tL X d) σ H Q:=by
 obtain ⟨ρ,S,τ,R,r,h⟩:=h
 exact ⟨ρ,S,τ,R,r,aI (aM h) .refl fun as S1 h1 ρ1 H1 vs e1 R1 v1=>⟨ρ1,S1,as,R1,v1,aI h1 e1 fun _ _ z=>z.ext e1⟩⟩
variable {x:Str} {p:Pos} {e:Expr} {es:List Expr} {id T:String} {f:List A->az->R A} {d:gB}
theorem bh (hc:bF X (.builtin id) (rN X f)) (hm:X.mg x=none) (hv:bootBuiltins x=some (.builtin id)) (ha:AL X (e::es) d) (hg:Gl X x:=by rfl) (hn:x ≠ "__name__" := by decide) (hdb:(x == ("__debug__" : Str))=false:=by decide)
  (he:starEach (e::es) X.env=(false,eval e X.env)::starEach es X.env:=by rfl) (hpl:(backTo pos (starEach es X.env)).any (·.1)=false:=by rfl):AE X (.Call (.Name x p) (e::es) [] pos) (bB f d):=
 PE.imp (tP hc hg hm hv ha hn hdb he hpl) fun _ _ _ h=>tY h
theorem gr (hc:bF X (.type T) (rN X f)) (hm:X.mg x=none) (hv:bootBuiltins x=some (.type T)) (ha:AL X (e::es) d) (hg:Gl X x:=by rfl) (hn:x ≠ "__name__" := by decide) (hdb:(x == ("__debug__" : Str))=false:=by decide)
  (he:starEach (e::es) X.env=(false,eval e X.env)::starEach es X.env:=by rfl) (hpl:(backTo pos (starEach es X.env)).any (·.1)=false:=by rfl):AE X (.Call (.Name x p) (e::es) [] pos) (bB f d):=
 PE.imp (zK hc hg hm hv ha hn hdb he hpl) fun _ _ _ h=>tY h
theorem oV (hm:X.mg x=none) (hv:bootBuiltins x=some (.type T)) (hg:Gl X x:=by rfl) (hn:x ≠ "__name__" := by decide) (hdb:(x == ("__debug__" : Str))=false:=by decide):AE X (.Name x pos) (eC (.ty T)):=
 PE.imp (x_ (v:=.ty T) hg hm hv rfl hn hdb) fun σ H Q ⟨ρ,S,τ,R,r,h⟩=>h ρ H _ .refl R (.ty T)
noncomputable def A.seq (S:az):A->Option (List A)
 | .tup xs=>some xs
 | .frz xs=>some xs
 | .ref n=>au S n
 | _=>none
theorem Fc {K:PySem.W.Frag} {ρ:List Addr} {H:Hp} {x:A} {vs:List V} (h:AVs K ρ H [x] vs):∃ v,vs=[v]/\AV K ρ H x v:=by
 cases h with
 | cons h t=>cases t;exact ⟨_,rfl,h⟩
theorem JW {K:PySem.W.Frag} {ρ:List Addr} {H:Hp} {x y:A} {vs:List V} (h:AVs K ρ H [x,y] vs):∃ v w,vs=[v,w]/\AV K ρ H x v/\AV K ρ H y w:=by
 cases h with
 | cons h t=>obtain ⟨w,rfl,h'⟩:=Fc t;exact ⟨_,_,rfl,h,h'⟩
noncomputable def f1 (g:A->az->R A):List A->az->R A:=fun as S=>match as with
 | [x]=>g x S
 | _=>.no
noncomputable def f2 (g:A->A->az->R A):List A->az->R A:=fun as S=>match as with
 | [x,y]=>g x y S
 | _=>.no
theorem E6 {g:A->az->R A} {as:List A} {S:az} {P:A->az->Prop} {E:Str->az->Prop} (h:(f1 g as S).post P E):∃ x,as=[x]/\(g x S).post P E:=by
 match as,h with
 | [],h=>exact h.elim
 | [x],h=>exact ⟨x,rfl,h⟩
 | _::_::_,h=>exact h.elim
theorem GP {g:A->A->az->R A} {as:List A} {S:az} {P:A->az->Prop} {E:Str->az->Prop} (h:(f2 g as S).post P E):∃ x y,as=[x,y]/\(g x y S).post P E:=by
 match as,h with
 | [],h=>exact h.elim
 | [_],h=>exact h.elim
 | [x,y],h=>exact ⟨x,y,rfl,h⟩
 | _::_::_::_,h=>exact h.elim
theorem Im {g:A->az->R A} {vs:List V} {H:Hp} {Q:VK} (h:rN X (f1 g) vs H Q):∃ v,vs=[v]/\∃ ρ S x,Rel X.K ρ H S/\AV X.K ρ H x v/\(g x S).post (qo X ρ H Q) (XE X ρ H):=by
 obtain ⟨ρ,S,as,R,v,h⟩:=h
 obtain ⟨x,rfl,h⟩:=E6 h
 obtain ⟨w,rfl,hv⟩:=Fc v
 exact ⟨w,rfl,ρ,S,x,R,hv,h⟩
theorem Mz {g:A->A->az->R A} {vs:List V} {H:Hp} {Q:VK} (h:rN X (f2 g) vs H Q):∃ v w,vs=[v,w]/\∃ ρ S x y,Rel X.K ρ H S/\AV X.K ρ H x v/\AV X.K ρ H y w/\(g x y S).post (qo X ρ H Q) (XE X ρ H):=by
 obtain ⟨ρ,S,as,R,v,h⟩:=h
 obtain ⟨x,y,rfl,h⟩:=GP h
 obtain ⟨w,w',rfl,hv,hv'⟩:=JW v
 exact ⟨w,w',rfl,ρ,S,x,y,R,hv,hv',h⟩
noncomputable def jq (x:A) (S:az):R A:=match x with
 | .str x=>gd (x.length<=sizeLine) (.ok (.int x.length) S)
 | .tup xs=>.ok (.int xs.length) S
 | .frz xs=>.ok (.int xs.length) S
 | .ref n=>opt (au S n) fun xs=>.ok (.int xs.length) S
 | _=>.no
theorem jt:bF X (.builtin "len") (rN X (f1 jq)):=bF.imp Dy fun vs H Q h0=>by
 obtain ⟨w,rfl,ρ,S,x,R,hv,h⟩:=Im h0
 clear h0
 cases hv with
 | str z=>
  obtain ⟨hz,h⟩:=bu h
  exact ⟨_,_,rfl,⟨hz,rfl⟩,h _ _ _ .refl R (.int _)⟩
 | @tup p xs us h1 r=>exact ⟨_,us.length,rfl,.inr ⟨us,(fC.of h1),rfl⟩,by rw [<- r.length];exact h _ _ _ .refl R (.int _)⟩
 | @frz p xs us h1 r=>exact ⟨_,us.length,rfl,.inl ⟨us,h1.HU,rfl⟩,by rw [<- r.length];exact h _ _ _ .refl R (.int _)⟩
 | ref hp=>
  obtain ⟨xs,hn,h⟩:=aL h
  obtain ⟨us,h1,r⟩:=R.lst hp (aU hn)
  exact ⟨_,us.length,rfl,.inl ⟨us,ir.of h1,rfl⟩,by rw [<- r.length];exact h _ _ _ .refl R (.int _)⟩
 | _=>exact h.elim
noncomputable def M4 (x:A) (S:az):R A:=match x with
 | .int i=>.ok (.int (if i < 0 then -i else i)) S
 | _=>.no
noncomputable def BD (x y:A) (S:az):R A:=match x,y with
 | .int i,.int j=>.ok (.int (if j > i then j else i)) S
 | _,_=>.no
theorem IV (hc:X.calm=true):bF X (.builtin "max") (rN X (f2 BD)):=bF.imp (zV hc) fun vs H Q h0=>by
 obtain ⟨w,w',rfl,ρ,S,x,y,R,hv,hv',h⟩:=Mz h0
 clear h0
 cases hv <;> first | exact h.elim | (cases hv' <;> first | exact h.elim | exact ⟨_,_,rfl,h _ _ _ .refl R (.int _)⟩)
noncomputable def BF (x y:A) (S:az):R A:=match x,y with
 | .int i,.int j=>.ok (.int (if j < i then j else i)) S
 | _,_=>.no
theorem JS (hc:X.calm=true):bF X (.builtin "min") (rN X (f2 BF)):=bF.imp (A0 hc) fun vs H Q h0=>by
 obtain ⟨w,w',rfl,ρ,S,x,y,R,hv,hv',h⟩:=Mz h0
 clear h0
 cases hv <;> first | exact h.elim | (cases hv' <;> first | exact h.elim | exact ⟨_,_,rfl,h _ _ _ .refl R (.int _)⟩)
noncomputable def yW (x:A) (S:az):R A:=match x with
 | .int i=>.ok (.int i) S
 | .bl k=>.ok (.int (if k then 1 else 0)) S
 | .str y=>opt (PySem.intText? y) fun n=>gd (y.length<=640) (.ok (.int n) S)
 | _=>.no
theorem Kc:bF X (.type "int") (rN X (f1 yW)):=fun pins s σ H xs us Q I rv h0=>by
 obtain ⟨w,rfl,ρ,S,x,R,hv,h⟩:=Im h0
 clear h0
 cases hv with
 | int i=>exact qR pins s σ H _ us Q I rv (.inl ⟨i,rfl,h _ _ _ .refl R (.int _)⟩)
 | bl k=>exact qR pins s σ H _ us Q I rv (.inr ⟨k,rfl,h _ _ _ .refl R (.int _)⟩)
 | str y=>
  obtain ⟨n,hn,h⟩:=aL h
  obtain ⟨hl,h⟩:=bu h
  exact zX pins s σ H _ us Q I rv ⟨y,n,rfl,hl,hn,h _ _ _ .refl R (.int _)⟩
 | _=>exact h.elim
noncomputable def rE (x y:A) (S:az):R A:=match x,y with
 | .int i,.int j=>.ok (.rng i j) S
 | _,_=>.no
theorem Bc:bF X (.type "range") (rN X (f2 rE)):=bF.imp rQ fun vs H Q h0=>by
 obtain ⟨w,w',rfl,ρ,S,x,y,R,hv,hv',h⟩:=Mz h0
 clear h0
 cases hv with
 | int i=>
  cases hv' with
  | int j=>
   refine ⟨i,j,rfl,fun p hp=>?_⟩
   obtain ⟨ex,R'⟩:=R.im (u:=.rng i j) hp
   exact h ρ _ _ ex R' (.rng bJ)
  | _=>exact h.elim
 | _=>exact h.elim
noncomputable def qI (i j:Int):Prop:=(-(2 ^ 62)<=i/\i < 2 ^ 62/\-(2 ^ 62)<=j/\j < 2 ^ 62)/\(j - i).toNat<=1000
instance (i j:Int):Decidable (qI i j):=by unfold qI;infer_instance
noncomputable def lI (x:A) (S:az):R A:=match x with
 | .rng i j=>gd (qI i j) (.ok (.ref S.length) (S++[.lst ((ie i j).map .int)]))
 | .tup xs=>.ok (.ref S.length) (S++[.lst xs])
 | .frz xs=>.ok (.ref S.length) (S++[.lst xs])
 | .ref n=>opt (au S n) fun xs=>.ok (.ref S.length) (S++[.lst xs])
 | _=>.no
theorem vY (hc:X.calm=true):bF X (.type "list") (rN X (f1 lI)):=fun pins s σ H vs us Q I rx h0=>by
 obtain ⟨w,rfl,ρ,S,x,R,hv,h⟩:=Im h0
 clear h0
 cases hv with
 | @rng p i j hp=>
  obtain ⟨hc',h⟩:=bu h
  exact qc hc pins s σ H _ us Q I rx ⟨p,i,j,rfl,hp,hc'.1,hc'.2,fM R (jG _) .refl h⟩
 | @tup p xs vs h1 r=>exact iU pins s σ H _ us Q I rx ⟨p,vs,rfl,.inr (fC.of h1),fM R r .refl h⟩
 | @frz p xs vs h1 r=>exact iU pins s σ H _ us Q I rx ⟨p,vs,rfl,.inl h1.HU,fM R r .refl h⟩
 | @ref p n hp=>
  obtain ⟨xs,hn,h⟩:=aL h
  obtain ⟨vs,h1,r⟩:=R.lst hp (aU hn)
  exact iU pins s σ H _ us Q I rx ⟨p,vs,rfl,.inl (ir.of h1),fM R r .refl h⟩
 | _=>exact h.elim
noncomputable def oG (x:A) (S:az):R A:=match x with
 | .rng i j=>gd (qI i j) (.ok (.tup ((ie i j).map .int)) S)
 | .tup xs=>.ok (.tup xs) S
 | .frz xs=>.ok (.tup xs) S
 | .ref n=>opt (au S n) fun xs=>.ok (.tup xs) S
 | _=>.no
theorem GC (hc:X.calm=true):bF X (.type "tuple") (rN X (f1 oG)):=fun pins s σ H vs us Q I rx h0=>by
 obtain ⟨w,rfl,ρ,S,x,R,hv,h⟩:=Im h0
 clear h0
 cases hv with
 | @rng p i j hp=>
  obtain ⟨hc',h⟩:=bu h
  exact oA hc pins s σ H _ us Q I rx ⟨p,i,j,rfl,hp,hc'.1,hc'.2,kR R (jG _) .refl h⟩
 | @tup p xs vs h1 r=>exact gT pins s σ H _ us Q I rx ⟨p,vs,rfl,.inr ⟨(fC.of h1),h _ _ _ .refl R (.tup h1 r)⟩⟩
 | @frz p xs vs h1 r=>exact gT pins s σ H _ us Q I rx ⟨p,vs,rfl,.inl ⟨h1.HU,kR R r .refl h⟩⟩
 | @ref p n hp=>
  obtain ⟨xs,hn,h⟩:=aL h
  obtain ⟨vs,h1,r⟩:=R.lst hp (aU hn)
  exact gT pins s σ H _ us Q I rx ⟨p,vs,rfl,.inl ⟨ir.of h1,kR R r .refl h⟩⟩
 | _=>exact h.elim
noncomputable def A.HF:List A->Option (List Bool)
 | []=>some []
 | .bl b::xs=>(A.HF xs).map (b::·)
 | _=>none
theorem BB {K:PySem.W.Frag} {ρ:List Addr} {H:Hp}:∀ {xs:List A} {vs:List V} {bs:List Bool},AVs K ρ H xs vs->A.HF xs=some bs->vs=bs.map V.bl
 | _,_,_,.nil,e=>by cases e;rfl
 | _,_,_,.cons (x:=.bl b) h t,e=>by
  obtain ⟨cs,e1,rfl⟩:=Option.map_eq_some_iff.mp e
  cases h
  rw [BB t e1];rfl
 | _,_,_,.cons (x:=.unb) h t,e=>nomatch e
 | _,_,_,.cons (x:=.non) h t,e=>nomatch e
 | _,_,_,.cons (x:=.int _) h t,e=>nomatch e
 | _,_,_,.cons (x:=.str _) h t,e=>nomatch e
 | _,_,_,.cons (x:=.tup _) h t,e=>nomatch e
 | _,_,_,.cons (x:=.frz _) h t,e=>nomatch e
 | _,_,_,.cons (x:=.rng _ _) h t,e=>nomatch e
 | _,_,_,.cons (x:=.ref _) h t,e=>nomatch e
 | _,_,_,.cons (x:=.exn _) h t,e=>nomatch e
 | _,_,_,.cons (x:=.ty _) h t,e=>nomatch e
noncomputable def JX (x:A) (S:az):R A:=match x with
 | .ref n=>opt (au S n) fun xs=>opt (A.HF xs) fun bs=>.ok (.bl (bs.all fun b=>b)) S
 | _=>.no
theorem Mf (hc:X.calm=true):bF X (.builtin "all") (rN X (f1 JX)):=bF.imp (AU hc) fun vs H Q h0=>by
 obtain ⟨w,rfl,ρ,S,x,R,hv,h⟩:=Im h0
 clear h0
 cases hv with
 | @ref p n hp=>
  obtain ⟨xs,hn,h⟩:=aL h
  obtain ⟨bs,hb,h⟩:=aL h
  obtain ⟨vs,h1,r⟩:=R.lst hp (aU hn)
  rw [BB r hb] at h1
  exact ⟨p,bs,rfl,ir.of h1,h _ _ _ .refl R (.bl _)⟩
 | _=>exact h.elim
noncomputable def insI (x:Int):List Int->List Int
 | []=>[x]
 | y::ys=>if x<=y then x::y::ys else y::insI x ys
noncomputable def sortI:List Int->List Int
 | []=>[]
 | x::xs=>insI x (sortI xs)
theorem insI_perm (x:Int):∀ ys:List Int,(insI x ys).Perm (x::ys)
 | []=>List.Perm.refl _
 | y::ys=>by
  unfold insI
  by_cases h:x<=y
  ·rw [if_pos h]
  ·rw [if_neg h];exact ((insI_perm x ys).cons y).trans (List.Perm.swap x y ys)
theorem sortI_perm:∀ xs:List Int,(sortI xs).Perm xs
 | []=>List.Perm.refl _
 | x::xs=>(insI_perm x (sortI xs)).trans ((sortI_perm xs).cons x)
theorem w4 (x:Int):∀ ys:List Int,ys.Pairwise (·<=·)->(insI x ys).Pairwise (·<=·)
 | [],_=>List.pairwise_singleton _ _
 | y::ys,h=>by
  unfold insI
  obtain ⟨h1,h2⟩:=List.pairwise_cons.mp h
  by_cases hx:x<=y
  ·rw [if_pos hx]
   exact List.pairwise_cons.mpr ⟨fun z hz=>(List.mem_cons.mp hz).elim (fun e=>e ▸ hx) fun hz=>Int.le_trans hx (h1 z hz),h⟩
  ·rw [if_neg hx]
   refine List.pairwise_cons.mpr ⟨fun z hz=>?_,w4 x ys h2⟩
   rcases List.mem_cons.mp ((insI_perm x ys).mem_iff.mp hz) with e | hz
   ·subst e;omega
   ·exact h1 z hz
theorem pG:∀ xs:List Int,(sortI xs).Pairwise (·<=·)
 | []=>List.Pairwise.nil
 | x::xs=>w4 x _ (pG xs)
noncomputable def A.kd:A->az->Option Kd
 | .non,_=>some .non
 | .bl _,_=>some .bl
 | .int _,_=>some .int
 | .str _,_=>some .str
 | .tup _,_=>some .tup
 | .ref n,S=>(au S n).map fun _=>.lst
 | _,_=>none
theorem Gq {K:PySem.W.Frag} (k:Kd):PySem.W.kitOne K k.ty (.type "str")=some (decide (k=.str)):=by cases k <;> rfl
noncomputable def pW (k:Kd) (c:String):Option Bool:=if c = "int" then some (decide (k=.int\/k=.bl)) else if c = "bool" then some (decide (k=.bl)) else if c = "tuple" then some (decide (k=.tup)) else if c = "list" then some (decide (k=.lst)) else if c = "str" then some (decide (k=.str)) else none
theorem xw {K:PySem.W.Frag} {k:Kd} {c:String} {b:Bool} (h:pW k c=some b):PySem.W.kitOne K k.ty (.type c)=some b:=by
 unfold pW at h
 split at h
 ·rename_i e;subst e;rw [<- h];exact Gw k
 ·split at h
  ·rename_i e;subst e;rw [<- h];exact EJ k
  ·split at h
   ·rename_i e;subst e;rw [<- h];exact kit_tuple k
   ·split at h
    ·rename_i e;subst e;rw [<- h];exact BP k
    ·split at h
     ·rename_i e;subst e;rw [<- h];exact Gq k
     ·cases h
noncomputable def sV (x y:A) (S:az):R A:=match y with
 | .ty c=>opt (x.kd S) fun k=>opt (pW k c) fun b=>.ok (.bl b) S
 | _=>.no
theorem Lk {K:PySem.W.Frag} {ρ:List Addr} {H:Hp} {S:az} {x:A} {v:V} {k:Kd} (R:Rel K ρ H S) (h:AV K ρ H x v) (e:x.kd S=some k):(∃ p vs,v=.ref p/\fC K H p vs/\k=.tup)\/JD H v k:=by
 cases h with
 | non=>cases e;exact .inr rfl
 | bl b=>cases e;exact .inr ⟨b,rfl⟩
 | int i=>cases e;exact .inr ⟨i,rfl⟩
 | str i=>cases e;exact .inr ⟨i,rfl⟩
 | tup h r=>cases e;exact .inl ⟨_,_,rfl,(fC.of h),rfl⟩
 | ref h=>
  obtain ⟨xs,e1,e2⟩:=Option.map_eq_some_iff.mp e
  obtain ⟨vs,h1,_⟩:=R.lst h (aU e1)
  cases e2
  exact .inr ⟨_,vs,rfl,h1⟩
 | _=>cases e
theorem o8:bF X (.builtin "isinstance") (rN X (f2 sV)):=fun pins s σ H vs us Q I rx h0=>by
 obtain ⟨w,w',rfl,ρ,S,x,y,R,hv,hv',h⟩:=Mz h0
 clear h0
 cases hv' with
 | ty c=>
  obtain ⟨k,hk,h⟩:=aL h
  obtain ⟨b,hb,hq⟩:=aL h
  have hq:qo X ρ H Q (.bl b) S:=hq
  clear h
  rcases Lk R hv hk with ⟨p,vs,rfl,ht,rfl⟩ | hd
  ·obtain ⟨u1,u2,rfl,r1,r2⟩:=vals2 rx
   obtain ⟨its,q,⟨o,h1,h2,_⟩,_⟩:=I.tuple ht
   cases (show _=Value.ref p from r1)
   cases (show _=Value.type c from r2)
   exact PySem.W.kia_one PySem.W.kitx_tuple I.oX ⟨o,h1,h2⟩ (xw hb) (fun z=>nomatch z) fun tk=>⟨.bl b,H,I.tok _,rfl,hq _ _ _ .refl R (.bl _)⟩
  ·exact uL (c:=c) pins s σ H _ us Q I rx ⟨w,_,b,rfl,hd.MM,xw hb,hq _ _ _ .refl R (.bl _)⟩
 | _=>exact h.elim
end
noncomputable def AR (x:List Int):List (List Int)->List (List Int)
 | []=>[x]
 | y::ys=>if HT.lexLt y x=true then y::AR x ys else x::y::ys
noncomputable def f_:List (List Int)->List (List Int)
 | []=>[]
 | x::xs=>AR x (f_ xs)
noncomputable def A5 (a b:List Int):Prop:=HT.lexLt b a=false
theorem A5.trans {a b c:List Int} (h1:A5 a b) (h2:A5 b c):A5 a c:=by
 unfold A5 at *
 cases e:HT.lexLt c a with
 | false=>rfl
 | true=>
  rcases Sx.yI (b:=b) e with z | z
  ·rw [h2] at z;cases z
  ·rw [h1] at z;cases z
theorem mV (x:List Int):∀ ys:List (List Int),(AR x ys).Perm (x::ys)
 | []=>List.Perm.refl _
 | y::ys=>by
  unfold AR
  by_cases h:HT.lexLt y x=true
  ·rw [if_pos h];exact ((mV x ys).cons y).trans (List.Perm.swap x y ys)
  ·rw [if_neg h]
theorem di:∀ xs:List (List Int),(f_ xs).Perm xs
 | []=>List.Perm.refl _
 | x::xs=>(mV x (f_ xs)).trans ((di xs).cons x)
theorem yz (x:List Int):∀ ys:List (List Int),ys.Pairwise A5->(AR x ys).Pairwise A5
 | [],_=>List.pairwise_singleton _ _
 | y::ys,h=>by
  unfold AR
  obtain ⟨h1,h2⟩:=List.pairwise_cons.mp h
  by_cases hx:HT.lexLt y x=true
  ·rw [if_pos hx]
   refine List.pairwise_cons.mpr ⟨fun z hz=>?_,yz x ys h2⟩
   rcases List.mem_cons.mp ((mV x ys).mem_iff.mp hz) with e | hz
   ·subst e
    unfold A5
    cases e:HT.lexLt z y with
    | false=>rfl
    | true=>have:=Sx.rH hx e;rw [Sx.sd] at this;cases this
   ·exact h1 z hz
  ·rw [if_neg hx]
   have hx':A5 x y:=by unfold A5;simpa using hx
   exact List.pairwise_cons.mpr ⟨fun z hz=>(List.mem_cons.mp hz).elim (fun e=>e ▸ hx') fun hz=>hx'.trans (h1 z hz),h⟩
theorem tX:∀ xs:List (List Int),(f_ xs).Pairwise A5
 | []=>List.Pairwise.nil
 | x::xs=>yz x _ (tX xs)
theorem vE {xs ys:List (List Int)} (p:xs.Perm ys) (h:xs.Pairwise A5):xs=f_ ys:=
 List.Perm.eq_of_pairwise (fun a b _ _ h1 h2=>(Sx.rS h1 h2).symm) h (tX ys) (p.trans (di ys).symm)
theorem NX:∀ (N:Nat) (l:List Nat),l.Nodup->(∀ x∈l,x < N)->l.length<=N
 | 0,l,_,h=>by
  cases l with
  | nil=>exact Nat.le_refl _
  | cons a l=>exact absurd (h a (List.mem_cons_self ..)) (Nat.not_lt_zero _)
 | N+1,l,nd,h=>by
  have h1:=NX N (l.erase N) (nd.erase N) fun x hx=>by
   have:=h x (List.mem_of_mem_erase hx)
   have:x≠N:=fun z=>by
    subst z
    exact (List.Nodup.not_mem_erase nd) hx
   omega
  have:=List.le_length_erase (l:=l) (a:=N)
  omega
theorem pK {N:Nat} {g:Nat->Nat} (h:∀ i,i < N->g i < N) (inj:∀ i j,i < j->j < N->g i≠g j):((List.range N).map g).Perm (List.range N):=by
 have nd:((List.range N).map g).Nodup:=by
  unfold List.Nodup
  rw [List.pairwise_iff_getElem]
  intro i j hi hj hij
  rw [List.length_map,List.length_range] at hi hj
  rw [List.getElem_map,List.getElem_map,List.getElem_range,List.getElem_range]
  exact inj i j hij hj
 have lt:∀ x∈(List.range N).map g,x < N:=fun x hx=>by
  obtain ⟨i,hi,rfl⟩:=List.mem_map.mp hx
  exact h i (List.mem_range.mp hi)
 refine (List.perm_ext_iff_of_nodup nd List.nodup_range).mpr fun a=>⟨fun ha=>List.mem_range.mpr (lt a ha),fun ha=>?_⟩
 refine Classical.byContradiction fun hn=>?_
 have:=NX N (a::(List.range N).map g) (List.nodup_cons.mpr ⟨hn,nd⟩) fun x hx=>by
  rcases List.mem_cons.mp hx with rfl | hx
  ·exact List.mem_range.mp ha
  ·exact lt x hx
 rw [List.length_cons,List.length_map,List.length_range] at this
 omega
theorem range_getD {α:Type} (l:List α) (d:α):(List.range l.length).map (fun i=>l.getD i d)=l:=by
 apply List.ext_getElem?
 intro i
 rw [List.getElem?_map]
 by_cases c:i < l.length
 ·rw [List.getElem?_range c]
  show some (l.getD i d)=_
  rw [List.getD_eq_getElem?_getD,List.getElem?_eq_getElem c];rfl
 ·rw [List.getElem?_eq_none (by rw [List.length_range];omega),List.getElem?_eq_none (by omega)];rfl
theorem JN {kss:List (List Int)} {g:Nat->Nat} (c:Sx.Cl g 0 kss.length) (so:Sx.So (Sx.Ec kss) g 0 kss.length):(List.range kss.length).map (fun i=>kss.getD (g i) [])=f_ kss:=by
 refine vE ?_ ?_
 ·have p:=pK (N:=kss.length) (g:=g) (fun i hi=>(c i (Nat.zero_le _) hi).2) fun i j hij hj z=>by
   have:=so i j (Nat.zero_le _) hij hj
   rw [z] at this
   exact this.EK
  have:=p.map fun i=>kss.getD i []
  rw [List.map_map,range_getD] at this
  exact this
 ·rw [List.pairwise_iff_getElem]
  intro i j hi hj hij
  rw [List.length_map,List.length_range] at hi hj
  rw [List.getElem_map,List.getElem_map,List.getElem_range,List.getElem_range]
  exact (so i j (Nat.zero_le _) hij hj).ge
theorem vB {K:PySem.W.Frag} {ρ:List Addr} {H:Hp} {α:Type} {f:α->A} {h:α->V}:∀ {l:List α},(∀ a∈l,AV K ρ H (f a) (h a))->AVs K ρ H (l.map f) (l.map h)
 | [],_=>.nil
 | a::l,e=>.cons (e a (List.mem_cons_self ..)) (vB fun b hb=>e b (List.mem_cons_of_mem _ hb))
section
variable {X:Cx}
end
section
variable {X:Cx}
end
noncomputable def RS.post (r:RS) (N:List A->az->Prop) (T:A->az->Prop) (B C:List A->az->Prop) (E:Str->az->Prop):Prop:=match r with
 | .nx τ S=>N τ S
 | .rt a S=>T a S
 | .bk τ S=>B τ S
 | .ct τ S=>C τ S
 | .ex c S=>E c S
 | .no=>False
noncomputable def RS.of {α:Type} (r:R α) (f:α->az->RS):RS:=match r with
 | .ok a S=>f a S
 | .ex c S=>.ex c S
 | .no=>.no
theorem of_post {α:Type} {r:R α} {f:α->az->RS} {N B C:List A->az->Prop} {T:A->az->Prop} {E:Str->az->Prop} (h:(RS.of r f).post N T B C E):r.post (fun a S=>(f a S).post N T B C E) E:=by
 cases r <;> exact h
theorem RS.mono {r:RS} {N B C N' B' C':List A->az->Prop} {T T':A->az->Prop} {E E':Str->az->Prop} (h:r.post N T B C E) (hn:∀ τ S,N τ S->N' τ S) (ht:∀ a S,T a S->T' a S) (hb:∀ τ S,B τ S->B' τ S) (hc:∀ τ S,C τ S->C' τ S) (he:∀ c S,E c S->E' c S):r.post N' T' B' C' E':=by
 cases r with
 | nx τ S=>exact hn _ _ h
 | rt a S=>exact ht _ _ h
 | bk τ S=>exact hb _ _ h
 | ct τ S=>exact hc _ _ h
 | ex c S=>exact he _ _ h
 | no=>exact h.elim
noncomputable def C8 (X:Cx) (ρ:List Addr) (H:Hp) (N:L2.St->Hp->Prop):List A->az->Prop:=fun τ' S'=>∀ ρ' H' σ',Ext ρ ρ' H H'->Rel X.K ρ' H' S'->SR X.K ρ' H' τ' σ'->N σ' H'
theorem C8.ext {X:Cx} {ρ ρ':List Addr} {H H':Hp} {N:L2.St->Hp->Prop} {τ:List A} {S:az} (h:C8 X ρ H N τ S) (e:Ext ρ ρ' H H'):C8 X ρ' H' N τ S:=fun ρ2 H2 σ2 e2=>h ρ2 H2 σ2 (e.trans e2)
noncomputable def o4 (X:Cx) (ρ:List Addr) (H:Hp) (D:Ends) (r:RS):Prop:=r.post (C8 X ρ H D.nx) (qo X ρ H D.rt) (C8 X ρ H D.bk) (C8 X ρ H D.ct) (XE X ρ H)
theorem o4.ext {X:Cx} {ρ ρ':List Addr} {H H':Hp} {D:Ends} {r:RS} (h:o4 X ρ H D r) (e:Ext ρ ρ' H H'):o4 X ρ' H' D r:=RS.mono h (fun _ _ z=>z.ext e) (fun _ _ z=>z.ext e) (fun _ _ z=>z.ext e) (fun _ _ z=>z.ext e) fun _ _ z=>z.ext e
noncomputable def tS (X:Cx) (c:Sm):TS:=fun D σ H=>∃ ρ S τ,Rel X.K ρ H S/\SR X.K ρ H τ σ/\o4 X ρ H D (c τ S)
noncomputable def AS (X:Cx) (st:Stmt) (c:Sm):Prop:=PS X st (tS X c)
noncomputable def z_ (X:Cx) (sts:List Stmt) (c:Sm):Prop:=qh X sts (tS X c)
noncomputable def tG (X:Cx) (g:Tg):TG:=fun v σ H Q=>∃ ρ S τ a,Rel X.K ρ H S/\SR X.K ρ H τ σ/\AV X.K ρ H a v/\(g a τ S).post (C8 X ρ H Q) (XE X ρ H)
noncomputable def AG (X:Cx) (e:Expr) (g:Tg):Prop:=PG X e (tG X g)
noncomputable abbrev E1:=List A->List A->az->R (List A)
noncomputable def N2 (X:Cx) (g:E1):Ib:=fun vs σ H Q=>∃ ρ S τ as,Rel X.K ρ H S/\SR X.K ρ H τ σ/\AVs X.K ρ H as vs/\(g as τ S).post (C8 X ρ H Q) (XE X ρ H)
noncomputable def Mj (X:Cx) (es:List Expr) (g:E1):Prop:=LC X es (N2 X g)
section
variable {X:Cx} {pos:Pos} {a b e:Expr} {st:Stmt} {rest:List Stmt} {c d:Sm}
theorem PS.imp {t t':TS} (h:PS X st t) (i:∀ D σ H,t' D σ H->t D σ H):PS X st t':=fun pins s σ H D I q=>h pins s σ H D I (i D σ H q)
theorem qh.imp {t t':TS} (h:qh X rest t) (i:∀ D σ H,t' D σ H->t D σ H):qh X rest t':=fun pins s σ H D I q=>h pins s σ H D I (i D σ H q)
theorem PG.imp {t t':TG} (h:PG X e t) (i:∀ v σ H Q,t' v σ H Q->t v σ H Q):PG X e t':=fun pins s σ H v u Q I r q=>h pins s σ H v u Q I r (i _ _ _ _ q)
noncomputable def bK (i:Nat):Tg:=fun a τ S=>.ok (τ.set i a) S
theorem aP {i:Nat} {x:Str} (hN:X.N.Nodup) (hi:X.N[i]?=some x:=by rfl) (hx:Loc X.env.scope x:=by first | exact Or.inl rfl | exact Or.inr rfl) (hf:X.fn x=true\/X.env.scope.names.lookup x=some .local:=by first | exact .inl rfl | exact .inr rfl | assumption):AG X (.Name x pos) (bK i):=
 PG.imp (xU hN hi hx hf) fun v σ H Q ⟨ρ,S,τ,a,R,r,va,h⟩=>h ρ H _ .refl R (r.set va)
noncomputable def pY:E1:=fun as τ S=>match as with
 | []=>.ok τ S
 | _=>.no
noncomputable def iL (g:Tg) (gs:E1):E1:=fun as τ S=>match as with
 | a::as=>(g a τ S).bind fun τ1 S1=>gs as τ1 S1
 | []=>.no
theorem dh:Mj X [] pY:=fun pins s σ H vs us Q I r ⟨ρ,S,τ,as,R,sr,va,h⟩=>Gp pins s σ H vs us Q I r (by
 cases va with
 | nil=>exact ⟨rfl,h ρ H σ .refl R sr⟩
 | cons _ _=>exact h.elim)
theorem aY {es:List Expr} {g:Tg} {gs:E1} (h1:AG X e g) (h2:Mj X es gs) (hs:(assignEach (e::es) X.env).map (·.2)=assign e X.env::(assignEach es X.env).map (·.2):=by rfl):Mj X (e::es) (iL g gs):=
 fun pins s σ H vs us Q I r ⟨ρ,S,τ,as,R,sr,va,h⟩=>ET h1 h2 hs pins s σ H vs us Q I r (by
  cases va with
  | nil=>exact h.elim
  | cons ha hr=>exact ⟨_,_,rfl,ρ,S,τ,_,R,sr,ha,aI (aM h) .refl fun τ1 S1 h1 ρ1 H1 σ1 e1 R1 sr1=>⟨ρ1,S1,τ1,_,R1,sr1,hr.ext e1,aI h1 e1 fun _ _ z=>z.ext e1⟩⟩)
noncomputable def qa (n:Nat) (gs:E1):Tg:=fun a τ S=>match a with
 | .tup xs | .ktu xs=>gd (xs.length=n) (gs xs τ S)
 | _=>.no
theorem eL {es:List Expr} {k n:Nat} {gs:E1} (hc:X.calm=true) (h:Mj X es gs) (hn:(assignEach es X.env).length=n:=by rfl) (hst:(assignEach es X.env).findIdx? (·.1)=none:=by rfl):AG X (.Tuple es k pos) (qa n gs):=
 PG.imp (Kw hc h hn hst) fun v σ H Q h9=>by
  obtain ⟨ρ,S,τ,a,R,r,va,h⟩:=h9
  cases va with
  | tup h1 r1=>
   obtain ⟨hl,h⟩:=bu h
   exact ⟨_,_,rfl,fC.of h1,by rw [<- r1.length];exact hl,ρ,S,τ,_,R,r,r1,h⟩
  | ktu h1 r1=>
   obtain ⟨hl,h⟩:=bu h
   exact ⟨_,_,rfl,.inr h1,by rw [<- r1.length];exact hl,ρ,S,τ,_,R,r,r1,h⟩
  | _=>exact h.elim
noncomputable def ur (o i v:A) (S:az):R Unit:=match o,i with
 | .ref n,.int k=>opt (au S n) fun xs=>opt (yC xs.length k) fun j=>.ok () (S.set n (.lst (xs.set j v)))
 | _,_=>.no
noncomputable def Oa (X:Cx):zP:=fun o i v H Q=>∃ ρ S ao ai av,Rel X.K ρ H S/\AV X.K ρ H ao o/\AV X.K ρ H ai i/\AV X.K ρ H av v/\(ur ao ai av S).post (fun _ S'=>∀ ρ' H',Ext ρ ρ' H H'->Rel X.K ρ' H' S'->Q H') (XE X ρ H)
theorem E3:AJ X (Oa X):=fun pins s σ H o i v ov iv u Q I ro ri rv h9=>by
 obtain ⟨ρ,S,ao,ai,av,R,h1,h2,h3,h⟩:=h9
 cases h1 with
 | @ref p n hp=>
  cases h2 with
  | int k=>
   obtain ⟨xs,hn,h⟩:=aL h
   obtain ⟨j,hj,h⟩:=aL h
   obtain ⟨vs,e,r⟩:=R.lst hp (aU hn)
   obtain ⟨ex,R'⟩:=R.put hp (aU hn) (r.set h3 j)
   exact set_list pins s σ H _ _ v ov iv u Q I ro ri rv ⟨p,vs,k,j,rfl,rfl,e,by rw [<- r.length];exact hj,h _ _ ex R'⟩
  | _=>exact h.elim
 | _=>exact h.elim
noncomputable def Mm (co ci:Ex):Tg:=fun a τ S=>(co τ S).bind fun o S1=>(ci τ S1).bind fun i S2=>(ur o i a S2).bind fun _ S3=>.ok τ S3
theorem BE {o i:Expr} {co ci:Ex} (ho:AE X o co) (hi:AE X i ci)
  (ha:∀ v,assign (.Subscript o i pos) X.env v=(do
   let ov <- holding [v] (eval o X.env)
   let iv <- holding [v,ov] (eval i X.env)
   standAt pos
   holding [v,ov,iv] (setItem ov iv v)
   release [v,ov,iv] []):=by intro _;rfl):AG X (.Subscript o i pos) (Mm co ci):=PG.imp (v8 ho hi E3 ha) fun v σ H Q h9=>by
 obtain ⟨ρ,S,τ,a,R,r,va,h⟩:=h9
 refine ⟨ρ,S,τ,R,r,aI (aM h) .refl fun o S1 h1 ρ1 H1 x e1 R1 v1=>⟨ρ1,S1,τ,R1,r.ext e1,aI (aM h1) e1 fun i S2 h2 ρ2 H2 y e2 R2 v2=>?_⟩⟩
 refine ⟨ρ2,S2,o,i,a,R2,v1.ext e2,v2,va.ext (e1.trans e2),aI (aM h2) (e1.trans e2) fun _ S3 h3 ρ3 H3 e3 R3=>?_⟩
 exact h3 ρ3 H3 σ ((e1.trans e2).trans e3) R3 (r.ext ((e1.trans e2).trans e3))
noncomputable def fO:Sm:=fun τ S=>.nx τ S
noncomputable def a_ (c d:Sm):Sm:=fun τ S=>match c τ S with
 | .nx τ' S'=>d τ' S'
 | r=>r
theorem bW:z_ X [] fO:=qh.imp FE fun D σ H ⟨ρ,S,τ,R,r,h⟩=>h ρ H σ .refl R r
theorem Gn {D:Ends} {σ:L2.St} {H:Hp} (h:tS X (a_ c d) D σ H):Le (tS X c) (tS X d) D σ H:=by
 obtain ⟨ρ,S,τ,R,r,h⟩:=h
 refine ⟨ρ,S,τ,R,r,?_⟩
 unfold a_ at h
 cases hc:c τ S with
 | nx τ1 S1=>
  rw [hc] at h
  exact fun ρ1 H1 σ1 e1 R1 r1=>⟨ρ1,S1,τ1,R1,r1,o4.ext h e1⟩
 | rt a S1=>rw [hc] at h;exact h
 | bk τ1 S1=>rw [hc] at h;exact h
 | ct τ1 S1=>rw [hc] at h;exact h
 | ex x S1=>rw [hc] at h;exact h
 | no=>rw [hc] at h;exact h
theorem aE (h1:AS X st c) (h2:z_ X rest d):z_ X (st::rest) (a_ c d):=qh.imp (EA h1 h2) fun D σ H h=>Gn h
theorem aG (h1:AS X st c):z_ X [st] c:=GA h1
noncomputable def Kz:Sm:=fun τ S=>.bk τ S
noncomputable def L7:Sm:=fun τ S=>.ct τ S
noncomputable def eF (e:Ex):Sm:=fun τ S=>.of (e τ S) fun _ S1=>.nx τ S1
theorem dz {f:Ex} (he:AE X e f) (hs:swapsWith e none pos.line X.env=pure false:=by rfl):AS X (.Expr e pos) (eF f):=PS.imp (FT he hs) fun D σ H ⟨ρ,S,τ,R,r,h⟩=>
 ⟨ρ,S,τ,R,r,aI (of_post h) .refl fun a S1 h1 ρ1 H1 x e1 R1 v1=>h1 ρ1 H1 σ e1 R1 (r.ext e1)⟩
noncomputable def cF (e:Ex):Sm:=fun τ S=>.of (e τ S) fun a S1=>.rt a S1
theorem bx {f:Ex} (he:AE X e f):AS X (.Return (some e) pos) (cF f):=PS.imp (JB he) fun D σ H ⟨ρ,S,τ,R,r,h⟩=>⟨ρ,S,τ,R,r,aI (of_post h) .refl fun a S1 h1=>h1⟩
noncomputable def K5:Sm:=fun τ S=>.rt .non S
noncomputable def nK (t:Te) (c d:Sm):Sm:=fun τ S=>.of (t τ S) fun b S1=>match b with | true=>c τ S1 | false=>d τ S1
theorem eO {t:Te} {ca cb:List Stmt} (ht:AT X e t) (ha:z_ X ca c) (hb:z_ X cb d):AS X (.If e ca cb pos) (nK t c d):=PS.imp (Lg ht ha hb) fun D σ H h9=>by
 obtain ⟨ρ,S,τ,R,r,h⟩:=h9
 refine ⟨ρ,S,τ,R,r,aI (of_post h) .refl fun b S1 h1 ρ1 H1 e1 R1=>?_⟩
 cases b with
 | true=>rw [if_pos rfl];exact ⟨ρ1,S1,τ,R1,r.ext e1,o4.ext h1 e1⟩
 | false=>rw [if_neg Bool.false_ne_true];exact ⟨ρ1,S1,τ,R1,r.ext e1,o4.ext h1 e1⟩
noncomputable def bD (e:Ex) (g:Tg):Sm:=fun τ S=>.of (e τ S) fun a S1=>.of (g a τ S1) fun τ' S2=>.nx τ' S2
theorem Fp {f:Ex} {g:Tg} {D:Ends} {σ:L2.St} {H:Hp} (h:tS X (bD f g) D σ H):Gd (tE X f) (tG X g) D σ H:=by
 obtain ⟨ρ,S,τ,R,r,h⟩:=h
 exact ⟨ρ,S,τ,R,r,aI (of_post h) .refl fun a S1 h1 ρ1 H1 x e1 R1 v1=>⟨ρ1,S1,τ,a,R1,r.ext e1,v1,aI (of_post h1) e1 fun τ2 S2 h2=>C8.ext h2 e1⟩⟩
theorem jc {tg:Expr} {f:Ex} {g:Tg} (he:AE X e f) (hg:AG X tg g) (hs:swapsWithSole [tg] e pos.line X.env=pure false:=by rfl) (hw:swappedStores [tg] e X.env=pure none:=by rfl)
  (h1:(assignEach [tg] X.env).map (·.2)=[assign tg X.env]:=by rfl):AS X (.Assign [tg] e pos) (bD f g):=PS.imp (Jj he hg hs hw h1) fun D σ H h=>Fp h
theorem aV {i:Nat} {x:Str} {f:Ex} {pos':Pos} (hN:X.N.Nodup) (he:AE X e f) (hi:X.N[i]?=some x:=by rfl) (hx:Loc X.env.scope x:=by first | exact Or.inl rfl | exact Or.inr rfl) (hs:swapsWith e (some (.Name x pos')) pos.line X.env=pure false:=by rfl) (hf:X.fn x=true\/X.env.scope.names.lookup x=some .local:=by first | exact .inl rfl | exact .inr rfl | assumption) :
  AS X (.Assign [.Name x pos'] e pos) (bD f (bK i)):=PS.imp (Ka hN hi hx he hs hf) fun D σ H ⟨ρ,S,τ,R,r,h⟩=>
 ⟨ρ,S,τ,R,r,aI (of_post h) .refl fun a S1 h1 ρ1 H1 x e1 R1 v1=>h1 ρ1 H1 _ e1 R1 ((r.ext e1).set v1)⟩
noncomputable def MI (i j:Nat) (c:gB):Sm:=fun τ S=>.of (c τ S) fun as S1=>match as with
 | [a,b]=>.nx ((τ.set i a).set j b) S1
 | _=>.no
noncomputable def Nt (a b:A) (S:az):R A:=match a,b with
 | .int i,.int j=>.ok (.int (i+j)) S
 | _,_=>.no
noncomputable def KR (i:Nat) (f:A->A->az->R A) (e:Ex):Sm:=fun τ S=>if (τ.getD i .unb).gp then .no else .of (e τ S) fun b S1=>.of (f (τ.getD i .unb) b S1) fun c S2=>.nx (τ.set i c) S2
noncomputable def FO (a b:A) (S:az):R A:=match a,b with
 | .ref n,.int i=>opt (au S n) fun xs=>gd (0<=i) (opt (xs[i.toNat]?) fun x=>.ok x S)
 | _,_=>.no
noncomputable def KW (co ci ce:Ex) (f:A->A->az->R A):Sm:=fun τ S=>.of (co τ S) fun o S1=>.of (ci τ S1) fun i S2=>.of (FO o i S2) fun x S3=>.of (ce τ S3) fun y S4=>.of (f x y S4) fun z S5=>.of (ur o i z S5) fun _ S6=>.nx τ S6
noncomputable def er (t:Te) (c:Sm):Nat->Sm
 | 0=>fun _ _=>.no
 | n+1=>fun τ S=>.of (t τ S) fun b S1=>match b with
  | false=>.nx τ S1
  | true=>match c τ S1 with
   | .nx τ' S'=>er t c n τ' S'
   | .ct τ' S'=>er t c n τ' S'
   | .bk τ' S'=>.nx τ' S'
   | r=>r
theorem EF (n:Nat) {t:Te} {body:List Stmt} (hp:PassesOwn (model X.prog X.w) X.A X.env X.xe) (ht:AT X e t) (hb:z_ X body c):AS X (.While e body [] pos) (er t c n):=PS.imp (DF hp ht hb) fun D σ H h9=>by
 obtain ⟨ρ,S,τ,R,r,h⟩:=h9
 refine ⟨fun m σ' H'=>∃ ρ' S' τ',Ext ρ ρ' H H'/\Rel X.K ρ' H' S'/\SR X.K ρ' H' τ' σ'/\o4 X ρ' H' D (er t c m τ' S'),⟨n,ρ,S,τ,.refl,R,r,h⟩,?_⟩
 rintro m σ1 H1 ⟨ρ1,S1,τ1,e1,R1,r1,h1⟩
 cases m with
 | zero=>exact h1.elim
 | succ m=>
  refine ⟨ρ1,S1,τ1,R1,r1,aI (of_post h1) .refl fun b S2 h2 ρ2 H2 e2 R2=>?_⟩
  cases b with
  | false=>rw [if_neg Bool.false_ne_true];exact h2 ρ2 H2 σ1 e2 R2 (r1.ext e2)
  | true=>
   rw [if_pos rfl]
   refine ⟨fun σ' H'=>∃ ρ' S' τ',Ext ρ ρ' H H'/\Rel X.K ρ' H' S'/\SR X.K ρ' H' τ' σ'/\o4 X ρ' H' D (er t c m τ' S'),fun σ' H' z=>⟨m,Nat.lt_succ_self _,z⟩,ρ2,S2,τ1,R2,r1.ext e2,?_⟩
   have h2:o4 X ρ1 H1 D (match c τ1 S2 with
    | .nx τ' S'=>er t c m τ' S'
    | .ct τ' S'=>er t c m τ' S'
    | .bk τ' S'=>.nx τ' S'
    | r=>r):=h2
   cases hc:c τ1 S2 with
   | nx τ3 S3=>rw [hc] at h2;exact fun ρ3 H3 σ3 e3 R3 r3=>⟨ρ3,S3,τ3,(e1.trans e2).trans e3,R3,r3,o4.ext h2 (e2.trans e3)⟩
   | ct τ3 S3=>rw [hc] at h2;exact fun ρ3 H3 σ3 e3 R3 r3=>⟨ρ3,S3,τ3,(e1.trans e2).trans e3,R3,r3,o4.ext h2 (e2.trans e3)⟩
   | bk τ3 S3=>rw [hc] at h2;exact C8.ext h2 e2
   | rt a S3=>rw [hc] at h2;exact qo.ext h2 e2
   | ex x S3=>rw [hc] at h2;exact XE.ext h2 e2
   | no=>rw [hc] at h2;exact h2
end
end Am
namespace L2
open PySem PySem.Spec PyProof.Rows
section
variable {X:Cx}
end
end L2
namespace Am
open PySem PySem.Spec PyProof.Rows L2
section
variable {X:Cx}
end
section
variable {X:Cx} {o e:Expr} {p2 spos pos:Pos} {co ci:Ex}
end
structure Src where
 k:Nat
 get:Nat->az->Option A
 fin:az->Bool
structure JR (K:PySem.W.Frag) (s:Src) (J:It) (ρ0:List Addr) (H0:Hp):Prop where
 go:∀ (i:Nat) (S:az) (H:Hp) (ρ:List Addr) (x:A),Ext0 ρ0 ρ H0 H->Rel K ρ H S->s.get i S=some x->J.go i H/\∀ v H',J.yld i H v H'->Ext ρ ρ H H'/\Rel K ρ H' S/\AV K ρ H' x v
 stop:∀ (S:az) (H:Hp) (ρ:List Addr),Ext0 ρ0 ρ H0 H->Rel K ρ H S->s.fin S=true->J.stop s.k H
noncomputable abbrev Ic:=List A->az->R Src
noncomputable def tI (X:Cx) (c:Ic):TI:=fun σ H Q=>∃ ρ S τ,Rel X.K ρ H S/\SR X.K ρ H τ σ/\(c τ S).post (fun s S'=>∀ ρ' H' J,Ext ρ ρ' H H'->Rel X.K ρ' H' S'->JR X.K s J ρ' H'->Q J H') (XE X ρ H)
noncomputable def AI (X:Cx) (tg iter:Expr) (c:Ic):Prop:=PI X tg iter (tI X c)
noncomputable def jd (xs:List A):Src:=⟨xs.length,fun i _=>xs[i]?,fun _=>true⟩
noncomputable def b9 (n k:Nat):Src:=⟨k,fun i S=>(au S n).bind (·[i]?),fun S=>match au S n with
 | some ys=>decide (ys.length<=k)
 | none=>false⟩
noncomputable def mY (lo hi:Int):Src:=⟨(hi - lo).toNat,fun i _=>if i < (hi - lo).toNat then some (.int (lo+i)) else none,fun _=>true⟩
noncomputable def cH (c:Ex):Ic:=fun τ S=>(c τ S).bind fun a S1=>match a with
 | .tup xs=>.ok (jd xs) S1
 | .frz xs=>.ok (jd xs) S1
 | .ref n=>opt (au S1 n) fun xs=>.ok (b9 n xs.length) S1
 | .str x=>gd (x.cps.all (· < 128)=true) (.ok (jd (x.cps.toList.map fun c=>.str ⟨#[c]⟩)) S1)
 | _=>.no
section
variable {X:Cx} {pos:Pos} {tg e a b:Expr}
theorem Km {K:PySem.W.Frag} {ρ0:List Addr} {H0:Hp} {p:Addr} {xs:List A} {vs:List V} (h:fC K H0 p vs) (r:AVs K ρ0 H0 xs vs):JR K (jd xs) (KG K p) ρ0 H0 where
 go:=fun i S H ρ x e R g=>by
  obtain ⟨v,ev,av⟩:=(AVs.eT e r).get g
  have hs:=e.NH h
  refine ⟨⟨vs,v,hs,ev⟩,fun w H' ⟨e1,y⟩=>?_⟩
  subst e1
  have:=y vs hs
  rw [ev] at this
  cases this
  exact ⟨.refl,R,av⟩
 stop:=fun S H ρ e R _=>⟨vs,e.NH h,by rw [<- r.length];exact Nat.le_refl _⟩
theorem Kr {K:PySem.W.Frag} {ρ0:List Addr} {H0:Hp} {p:Addr} {xs:List A} {vs:List V} (h:Fz K H0 p vs) (r:AVs K ρ0 H0 xs vs):JR K (jd xs) (K8 K p) ρ0 H0 where
 go:=fun i S H ρ x e R g=>by
  obtain ⟨v,ev,av⟩:=(AVs.eT e r).get g
  have hs:=(e.fz h).HU
  refine ⟨⟨vs,v,hs,ev⟩,fun w H' ⟨e1,y⟩=>?_⟩
  subst e1
  have:=y vs hs
  rw [ev] at this
  cases this
  exact ⟨.refl,R,av⟩
 stop:=fun S H ρ e R _=>⟨vs,(e.fz h).HU,by rw [<- r.length];exact Nat.le_refl _⟩
theorem Dk {K:PySem.W.Frag} {ρ0:List Addr} {H0:Hp} {p:Addr} {n k:Nat} (h:ρ0[n]?=some p):JR K (b9 n k) (K8 K p) ρ0 H0 where
 go:=fun i S H ρ x e R g=>by
  obtain ⟨ys,hn,hx⟩:=Option.bind_eq_some_iff.mp (show (au S n).bind (·[i]?)=some x from g)
  obtain ⟨vs,h1,r⟩:=R.lst (e.get h) (aU hn)
  obtain ⟨v,ev,av⟩:=r.get hx
  refine ⟨⟨vs,v,ir.of h1,ev⟩,fun w H' ⟨e1,y⟩=>?_⟩
  subst e1
  have:=y vs (ir.of h1)
  rw [ev] at this
  cases this
  exact ⟨.refl,R,av⟩
 stop:=fun S H ρ e R g=>by
  have g:(match au S n with
   | some ys=>decide (ys.length<=k)
   | none=>false)=true:=g
  cases hn:au S n with
  | none=>rw [hn] at g;cases g
  | some ys=>
   rw [hn] at g
   obtain ⟨vs,h1,r⟩:=R.lst (e.get h) (aU hn)
   exact ⟨vs,ir.of h1,by rw [<- r.length];exact of_decide_eq_true g⟩
theorem IW {K:PySem.W.Frag} {ρ0:List Addr} {H0:Hp} {lo hi:Int}:JR K (mY lo hi) (Mn lo (hi - lo).toNat) ρ0 H0 where
 go:=fun i S H ρ x e R g=>by
  have g:(if i < (hi - lo).toNat then some (A.int (lo+i)) else none)=some x:=g
  by_cases hi':i < (hi - lo).toNat
  ·rw [if_pos hi'] at g
   cases g
   refine ⟨hi',fun w H' ⟨e1,y⟩=>?_⟩
   subst e1 y
   exact ⟨.refl,R,.int _⟩
  ·rw [if_neg hi'] at g;cases g
 stop:=fun S H ρ e R _=>Nat.le_refl _
theorem IL {K:PySem.W.Frag} {ρ0:List Addr} {H0:Hp} {x:Str}:JR K (jd (x.cps.toList.map fun c=>A.str ⟨#[c]⟩)) (MG x) ρ0 H0 where
 go:=fun i S H ρ y e R g=>by
  have g:(x.cps.toList.map fun c=>A.str ⟨#[c]⟩)[i]?=some y:=g
  rw [List.getElem?_map] at g
  obtain ⟨c,hc,rfl⟩:=Option.map_eq_some_iff.mp g
  rw [Array.getElem?_toList] at hc
  refine ⟨(Array.getElem?_eq_some_iff.mp hc).1,fun w H' ⟨e1,c',hc',y'⟩=>?_⟩
  rw [hc] at hc'
  cases hc'
  subst e1 y'
  exact ⟨.refl,R,.str _⟩
 stop:=fun S H ρ e R _=>by
  show (x.cps.toList.map fun c=>A.str ⟨#[c]⟩).length=x.cps.size
  rw [List.length_map,Array.length_toList]
theorem cg {c:Ex} (he:AE X e c):AI X tg e (cH c):=fun pins s σ H Q I h9=>by
 obtain ⟨ρ,S,τ,R,r,h⟩:=h9
 have hb:=aM h
 cases hc:c τ S with
 | no=>rw [hc] at hb;exact hb.elim
 | ex x S1=>
  rw [hc] at hb
  exact CL he pins s σ H Q I ⟨ρ,S,τ,R,r,by rw [hc];exact hb⟩
 | ok a S1=>
  rw [hc] at hb
  cases a with
  | tup xs=>
   refine CL he pins s σ H Q I ⟨ρ,S,τ,R,r,?_⟩
   rw [hc]
   intro ρ1 H1 x e1 R1 v1
   cases v1 with
   | tup h1 r1=>exact ⟨_,rfl,⟨_,(fC.of h1)⟩,hb ρ1 H1 _ e1 R1 (Km (fC.of h1) r1)⟩
  | frz xs=>
   refine wU he pins s σ H Q I ⟨ρ,S,τ,R,r,?_⟩
   rw [hc]
   intro ρ1 H1 x e1 R1 v1
   cases v1 with
   | frz h1 r1=>exact ⟨_,rfl,⟨_,h1.HU⟩,hb ρ1 H1 _ e1 R1 (Kr h1 r1)⟩
  | ref n=>
   obtain ⟨xs,hn,hb⟩:=aL hb
   refine wU he pins s σ H Q I ⟨ρ,S,τ,R,r,?_⟩
   rw [hc]
   intro ρ1 H1 x e1 R1 v1
   cases v1 with
   | ref hp=>
    obtain ⟨vs,h1,r1⟩:=R1.lst hp (aU hn)
    exact ⟨_,rfl,⟨_,ir.of h1⟩,hb ρ1 H1 _ e1 R1 (Dk hp)⟩
  | str x=>
   obtain ⟨ha,hb⟩:=bu hb
   refine Jy he pins s σ H Q I ⟨ρ,S,τ,R,r,?_⟩
   rw [hc]
   intro ρ1 H1 v e1 R1 v1
   cases v1 with
   | str=>exact ⟨x,rfl,ha,hb ρ1 H1 _ e1 R1 IL⟩
  | _=>exact hb.elim
noncomputable def bnd (i:Int):Prop:=-(2 ^ 62)<=i/\i < 2 ^ 62
instance (i:Int):Decidable (bnd i):=by unfold bnd;infer_instance
noncomputable def iC (c:Ex):Ic:=fun τ S=>(c τ S).bind fun a S1=>match a with
 | .int j=>gd (bnd j) (.ok (mY 0 j) S1)
 | _=>.no
theorem eW {p:Pos} {c:Ex} (hm:X.mg "range" = none) (ha:AE X a c) (hg:Gl X "range" := by rfl) (hs:starEach [a] X.env=[(false,eval a X.env)]:=by rfl):AI X tg (.Call (.Name "range" p) [a] [] pos) (iC c):=fun pins s σ H Q I h9=>by
 obtain ⟨ρ,S,τ,R,r,h⟩:=h9
 refine zT hg hm (lX ha rV hs) hs pins s σ H Q I ⟨ρ,S,τ,R,r,aI (aM h) .refl fun x S1 h1 ρ1 H1 v e1 R1 v1=>?_⟩
 cases v1 with
 | int j=>
  obtain ⟨hb,h1⟩:=bu h1
  exact ⟨_,rfl,hb.1,hb.2,by have:=h1 ρ1 H1 _ e1 R1 IW;rwa [Int.sub_zero] at this⟩
 | _=>exact h1.elim
noncomputable def gD (s:Src) (g:Tg) (c:Sm):Nat->Nat->Sm
 | 0,_=>fun τ S=>if s.fin S then .nx τ S else .no
 | k+1,i=>fun τ S=>match s.get i S with
  | none=>.no
  | some x=>.of (g x τ S) fun τ1 S1=>match c τ1 S1 with
   | .nx τ' S'=>gD s g c k (i+1) τ' S'
   | .ct τ' S'=>gD s g c k (i+1) τ' S'
   | .bk τ' S'=>.nx τ' S'
   | r=>r
noncomputable def cE (src:Ic) (g:Tg) (c:Sm):Sm:=fun τ S=>.of (src τ S) fun s S1=>gD s g c s.k 0 τ S1
theorem cL {iter:Expr} {body:List Stmt} {src:Ic} {g:Tg} {c:Sm} (hp:PassesOwn (model X.prog X.w) X.A X.env X.xe) (hc:X.calm=true) (hi:AI X tg iter src) (hg:AG X tg g) (hb:z_ X body c)
  (hs:∀ x,foldedSetIterable iter X.env x=pure x:=by intro _;rfl):AS X (.For tg iter body [] pos) (cE src g c):=PS.imp (IZ hp hc hi hg hb hs) fun D σ H h9=>by
 obtain ⟨ρ,S,τ,R,r,h⟩:=h9
 refine ⟨ρ,S,τ,R,r,aI (of_post h) .refl fun s S1 h1 ρ1 H1 J e1 R1 jr=>?_⟩
 refine ⟨fun i m σ' H'=>m+i=s.k/\∃ ρ' S' τ',Ext ρ1 ρ' H1 H'/\Rel X.K ρ' H' S'/\SR X.K ρ' H' τ' σ'/\o4 X ρ' H' D (gD s g c m i τ' S'),⟨s.k,rfl,ρ1,S1,τ,.refl,R1,r.ext e1,o4.ext h1 e1⟩,?_⟩
 rintro i m σ2 H2 ⟨hm,ρ2,S2,τ2,e2,R2,r2,h2⟩
 cases m with
 | zero=>
  left
  have h2:o4 X ρ2 H2 D (if s.fin S2 then .nx τ2 S2 else .no):=h2
  cases hf:s.fin S2 with
  | false=>rw [hf] at h2;exact h2.elim
  | true=>
   rw [hf] at h2
   refine ⟨by rw [show i=s.k by omega];exact jr.stop S2 H2 ρ2 e2.toExt0 R2 hf,h2 ρ2 H2 σ2 .refl R2 r2⟩
 | succ m=>
  right
  have h2:o4 X ρ2 H2 D (match s.get i S2 with
   | none=>.no
   | some x=>.of (g x τ2 S2) fun τ1 S1=>match c τ1 S1 with
    | .nx τ' S'=>gD s g c m (i+1) τ' S'
    | .ct τ' S'=>gD s g c m (i+1) τ' S'
    | .bk τ' S'=>.nx τ' S'
    | r=>r):=h2
  cases hx:s.get i S2 with
  | none=>rw [hx] at h2;exact h2.elim
  | some x=>
   rw [hx] at h2
   obtain ⟨hgo,hy⟩:=jr.go i S2 H2 ρ2 x e2.toExt0 R2 hx
   refine ⟨hgo,fun σ' H'=>m+(i+1)=s.k/\∃ ρ' S' τ',Ext ρ1 ρ' H1 H'/\Rel X.K ρ' H' S'/\SR X.K ρ' H' τ' σ'/\o4 X ρ' H' D (gD s g c m (i+1) τ' S'),fun σ' H' z=>⟨m,Nat.lt_succ_self _,z⟩,fun v H3 y=>?_⟩
   obtain ⟨e3,R3,v3⟩:=hy v H3 y
   refine ⟨ρ2,S2,τ2,x,R3,r2.ext e3,v3,aI (of_post h2) e3 fun τ4 S4 h4 ρ4 H4 σ4 e4 R4 r4=>⟨ρ4,S4,τ4,R4,r4,?_⟩⟩
   have e24:=e3.trans e4
   cases hcc:c τ4 S4 with
   | nx τ5 S5=>rw [hcc] at h4;exact fun ρ5 H5 σ5 e5 R5 r5=>⟨by omega,ρ5,S5,τ5,(e2.trans e24).trans e5,R5,r5,o4.ext h4 (e24.trans e5)⟩
   | ct τ5 S5=>rw [hcc] at h4;exact fun ρ5 H5 σ5 e5 R5 r5=>⟨by omega,ρ5,S5,τ5,(e2.trans e24).trans e5,R5,r5,o4.ext h4 (e24.trans e5)⟩
   | bk τ5 S5=>rw [hcc] at h4;exact C8.ext h4 e24
   | rt x5 S5=>rw [hcc] at h4;exact qo.ext h4 e24
   | ex x5 S5=>rw [hcc] at h4;exact XE.ext h4 e24
   | no=>rw [hcc] at h4;exact h4
end
section
variable {X:Cx} {tg a b c0:Expr} {pos:Pos}
end
noncomputable def R.jj {α β:Type} (r:R α) (f:α->az->R β):R β:=match r with
 | .ok a S=>f a S
 | _=>.no
theorem lW {α β:Type} {r:R α} {f:α->az->R β} {b:β} {S2:az} (h:r.jj f=.ok b S2):∃ a S,r=.ok a S/\f a S=.ok b S2:=by
 cases r with
 | ok a S=>exact ⟨a,S,rfl,h⟩
 | ex _ _=>cases h
 | no=>cases h
theorem vA {α β:Type} {r:R α} {f:α->az->R β} {P:β->az->Prop} {E:Str->az->Prop} (h:(r.jj f).post P E):∃ a S,r=.ok a S/\(f a S).post P E:=by
 cases r with
 | ok a S=>exact ⟨a,S,rfl,h⟩
 | ex _ _=>exact h.elim
 | no=>exact h.elim
theorem Kg {α β:Type} {o:Option β} {f:β->R α} {a:α} {S:az} (h:opt o f=.ok a S):∃ b,o=some b/\f b=.ok a S:=by
 cases o with
 | none=>cases h
 | some b=>exact ⟨b,rfl,h⟩
noncomputable def dU (s:Src) (g:Tg) (t:Te) (e:Ex):Nat->Nat->List A->az->R (List A)
 | 0,_=>fun _ S=>if s.fin S then .ok [] S else .no
 | k+1,i=>fun τ S=>opt (s.get i S) fun x=>(g x τ S).jj fun τ1 S1=>(t τ1 S1).jj fun b S2=>match b with
  | true=>(e τ1 S2).jj fun y S3=>(dU s g t e k (i+1) τ1 S3).jj fun ys S4=>.ok (y::ys) S4
  | false=>dU s g t e k (i+1) τ1 S2
noncomputable def cT (cap:List (Option Nat)) (τ:List A):List A:=cap.map fun o=>match o with
 | some j=>τ.getD j .unb
 | none=>.unb
noncomputable def bQ (cap:List (Option Nat)) (src:Ic) (g:Tg) (t:Te) (e:Ex):Ex:=fun τ S=>(src τ S).bind fun s S1=>(dU s g t e s.k 0 (cT cap τ) S1).jj fun ys S2=>newL ys S2
noncomputable def g_:Te:=fun _ S=>.ok true S
theorem uS {s:Src} {g:Tg} {t:Te} {e:Ex} {k i:Nat} {τ:List A} {S S':az} {zs:List A} (h:dU s g t e (k+1) i τ S=.ok zs S') :
  ∃ x τ1 S1 b S2,s.get i S=some x/\g x τ S=.ok τ1 S1/\t τ1 S1=.ok b S2/\(b=true->∃ y S3 ws,e τ1 S2=.ok y S3/\dU s g t e k (i+1) τ1 S3=.ok ws S'/\zs=y::ws)/\(b=false->dU s g t e k (i+1) τ1 S2=.ok zs S'):=by
 obtain ⟨x,hx,h⟩:=Kg h
 obtain ⟨τ1,S1,h1,h⟩:=lW h
 obtain ⟨b,S2,h2,h⟩:=lW h
 refine ⟨x,τ1,S1,b,S2,hx,h1,h2,fun hb=>?_,fun hb=>?_⟩
 ·subst hb
  obtain ⟨y,S3,h3,h⟩:=lW h
  obtain ⟨ws,S4,h4,h⟩:=lW h
  cases h
  exact ⟨y,S3,ws,h3,h4,rfl⟩
 ·subst hb;exact h
noncomputable def K_ (K:PySem.W.Frag) (c:Ex):TE:=fun σ H Q=>∃ ρ S τ a S',Rel K ρ H S/\SR K ρ H τ σ/\c τ S=.ok a S'/\∀ ρ' H' v,Ext ρ ρ' H H'->Rel K ρ' H' S'->AV K ρ' H' a v->Q v H'
noncomputable def KD (K:PySem.W.Frag) (c:Te):TT:=fun σ H Q=>∃ ρ S τ a S',Rel K ρ H S/\SR K ρ H τ σ/\c τ S=.ok a S'/\∀ ρ' H',Ext ρ ρ' H H'->Rel K ρ' H' S'->Q a H'
noncomputable def Lh (K:PySem.W.Frag) (g:Tg):TG:=fun v σ H Q=>∃ ρ S τ a τ' S',Rel K ρ H S/\SR K ρ H τ σ/\AV K ρ H a v/\g a τ S=.ok τ' S'/\∀ ρ' H' σ',Ext ρ ρ' H H'->Rel K ρ' H' S'->SR K ρ' H' τ' σ'->Q σ' H'
section
variable {X:Cx} {pos:Pos} {tg iter elt e:Expr} {ifs:List Expr} {scope:Scope} {N:List Str} {cap:List (Option Nat)} {src:Ic} {g:Tg} {t:Te} {c:Ex}
theorem AE.e0 {K:PySem.W.Frag} (hK:X.K=K) (h:AE X e c):PE X e (K_ K c):=PE.imp h fun σ H Q ⟨ρ,S,τ,a,S',R,r,hc,q⟩=>⟨ρ,S,τ,by rw [hK];exact R,by rw [hK];exact r,by rw [hc];exact fun ρ' H' v e R' v'=>q ρ' H' v e (by rw [<- hK];exact R') (by rw [<- hK];exact v')⟩
theorem AT.t0 {K:PySem.W.Frag} (hK:X.K=K) (h:AT X e t):PT X e (KD K t):=PT.imp h fun σ H Q ⟨ρ,S,τ,a,S',R,r,hc,q⟩=>⟨ρ,S,τ,by rw [hK];exact R,by rw [hK];exact r,by rw [hc];exact fun ρ' H' e R'=>q ρ' H' e (by rw [<- hK];exact R')⟩
theorem AG.g0 {K:PySem.W.Frag} (hK:X.K=K) (h:AG X e g):PG X e (Lh K g):=PG.imp h fun v σ H Q ⟨ρ,S,τ,a,τ',S',R,r,va,hc,q⟩=>⟨ρ,S,τ,a,by rw [hK];exact R,by rw [hK];exact r,by rw [hK];exact va,by rw [hc];exact fun ρ' H' v e R' v'=>q ρ' H' v e (by rw [<- hK];exact R') (by rw [<- hK];exact v')⟩
noncomputable def Lz (X:Cx) (ifs:List Expr) (t:Te):Prop:=IK X ifs (KD X.K t)
theorem j4:Lz X [] g_:=fun pins s σ H Q I ⟨ρ,S,τ,a,S',R,r,hc,q⟩=>Fj pins s σ H Q I (by cases hc;exact q ρ H .refl R)
theorem n8 (h:AT X e t):Lz X [e] t:=GU (h.t0 rfl)
theorem Mc {K:PySem.W.Frag} {ρ:List Addr} {H:Hp} {τ:List A} {σ:L2.St} (r:SR K ρ H τ σ) (cap:List (Option Nat)):SR K ρ H (cT cap τ) (cap.map (Iu σ)):=by
 refine ⟨by simp [cT],fun i a h=>?_⟩
 unfold cT at h
 rw [List.getElem?_map] at h
 obtain ⟨o,ho,e⟩:=Option.map_eq_some_iff.mp h
 cases o with
 | none=>exact .inl e.symm
 | some j=>
  have e:τ.getD j .unb=a:=e
  cases hj:τ[j]? with
  | none=>rw [List.getD_eq_getElem?_getD,hj] at e;exact .inl e.symm
  | some b=>
   rw [List.getD_eq_getElem?_getD,hj] at e
   have e:b=a:=e
   subst e
   rcases r.at j b hj with z | ⟨v,h1,h2⟩
   ·exact .inl z
   ·exact .inr ⟨v,by rw [List.getElem?_map,ho];show some ((σ[j]?).getD none)=_;rw [h1];rfl,h2⟩
theorem Rel.Ew {K:PySem.W.Frag} {ρ:List Addr} {H:Hp} {S:az} {p:Addr} (R:Rel K ρ H S) (hp:H p=none):p∉ρ:=fun hm=>by
 obtain ⟨n,hn,e⟩:=List.mem_iff_getElem.mp hm
 have hl:n < S.length:=by rw [<- R.len];exact hn
 have:=R.at n p S[n] (by rw [List.getElem?_eq_getElem hn,e]) (List.getElem?_eq_getElem hl)
 cases ho:S[n] with
 | lst xs=>rw [ho] at this;obtain ⟨vs,h,_⟩:=this;rw [hp] at h;cases h
 | dct _ | eY _=>rw [ho] at this;obtain ⟨vs,h,_⟩:=this;rw [hp] at h;cases h
 | ins _ _=>rw [ho] at this;obtain ⟨_,_,h⟩:=this;rw [hp] at h;cases h
theorem pF (σ:L2.St) (H:Hp) (Q:VK) (h:tE X (bQ cap src g t c) σ H Q):Lq cap (tI X src) (Lh X.K g) (KD X.K t) (K_ X.K c) σ H Q:=by
 obtain ⟨ρ,S,τ,R,r,h⟩:=h
 refine ⟨ρ,S,τ,R,r,aI (aM h) .refl fun s S1 h1 ρ1 H1 J e1 R1 jr D hD=>?_⟩
 obtain ⟨ys,S2,hcg,h1⟩:=vA h1
 obtain ⟨hlen,h1⟩:=bu h1
 have h1:qo X ρ H Q (.ref S2.length) (S2++[.lst ys]):=h1
 obtain ⟨eD,RD⟩:=R1.im (u:=.lst []) hD
 have nD:=R1.Ew hD
 refine ⟨fun i m σ' H'=>m+i=s.k/\∃ ρ' S' τ' acc zs accV,Ext0 ρ1 ρ' H1 H'/\(∀ a u,a≠D->H1 a=some u->a∉ρ1->H' a=some u)/\(∀ a∈ρ',a∈ρ1\/H1 a=none)/\D∉ρ'/\H' D=some (.lst accV)/\Rel X.K ρ' H' S'/\SR X.K ρ' H' τ' σ'/\AVs X.K ρ' H' acc accV/\dU s g t c m i τ' S'=.ok zs S2/\acc++zs=ys,
  ⟨s.k,rfl,ρ1,S1,cT cap τ,[],ys,[],eD.toExt0,fun a u na hu _=>by rw [aK na];exact hu,fun a ha=>.inl ha,nD,bJ,RD,(Mc ((r.ext e1).ext eD) cap),.nil,hcg,rfl⟩,?_⟩
 rintro i m σ3 H3 ⟨hm,ρ3,S3,τ3,acc,zs,accV,e3,fr3,nw3,nD3,hD3,R3,r3,ac3,cg3,eys⟩
 cases m with
 | zero=>
  left
  have cg3:(if s.fin S3 then Am.R.ok [] S3 else .no)=.ok zs S2:=cg3
  cases hf:s.fin S3 with
  | false=>rw [hf] at cg3;cases cg3
  | true=>
   rw [hf] at cg3
   cases cg3
   rw [List.append_nil] at eys
   subst eys
   refine ⟨by rw [show i=s.k by omega];exact jr.stop _ H3 ρ3 e3 R3 hf,?_⟩
   obtain ⟨RT,gt⟩:=R3.take hD3 nD3 ac3
   refine h1 (ρ3++[D]) H3 _ (e1.trans ⟨⟨e3.pre.trans (List.prefix_append _ _),e3.im⟩,fun a u hu na=>fr3 a u (bf hu hD) hu na,fun a ha=>?_⟩) RT (.ref gt)
   rcases List.mem_append.mp ha with z | z
   ·exact nw3 a z
   ·have:a=D:=by simpa using z
    rw [this];exact .inr hD
 | succ m=>
  right
  obtain ⟨x,τ4,S4,b,S5,hx,hg4,ht5,hT,hF⟩:=uS cg3
  obtain ⟨hgo,hy⟩:=jr.go i S3 H3 ρ3 x e3 R3 hx
  refine ⟨hgo,fun v H4 y=>?_⟩
  obtain ⟨e4,R4,v4⟩:=hy v H4 y
  refine ⟨ρ3,S3,τ3,x,τ4,S4,R4,r3.ext e4,v4,hg4,fun ρ5 H5 σ5 e5 R5 r5=>?_⟩
  refine ⟨ρ5,S4,τ4,b,S5,R5,r5,ht5,fun ρ6 H6 e6 R6=>?_⟩
  have e36:=(e4.trans e5).trans e6
  have stay:∀ {ρ7:List Addr} {H7:Hp},Ext ρ3 ρ7 H3 H7->Ext0 ρ1 ρ7 H1 H7/\(∀ a u,a≠D->H1 a=some u->a∉ρ1->H7 a=some u)/\(∀ a∈ρ7,a∈ρ1\/H1 a=none)/\D∉ρ7/\H7 D=some (.lst accV):=fun {ρ7 H7} e7=>by
   refine ⟨⟨e3.pre.trans e7.pre,fun a u i h=>e7.im a u i (e3.im a u i h)⟩,fun a u na hu nr=>e7.fr a u (fr3 a u na hu nr) fun z=>(nw3 a z).elim nr fun z=>by (rw [z] at hu;cases hu),fun a ha=>?_,fun z=>(e7.nw D z).elim nD3 fun z=>by (rw [hD3] at z;cases z),e7.fr D _ hD3 nD3⟩
   by_cases hr:a∈ρ1
   ·exact .inl hr
   ·right
    cases q:H1 a with
    | none=>rfl
    | some u=>
     have aD:a≠D:=bf q hD
     rcases e7.nw a ha with z | z
     ·exact ((nw3 a z).elim hr fun z=>by (rw [z] at q;cases q)).elim
     ·rw [fr3 a u aD q hr] at z;cases z
  cases b with
  | false=>
   dsimp only
   rw [if_neg Bool.false_ne_true]
   obtain ⟨g1,g2,g3,g4,g5⟩:=stay e36
   exact ⟨m,Nat.lt_succ_self _,by omega,ρ6,S5,τ4,acc,zs,accV,g1,g2,g3,g4,g5,R6,r5.ext e6,ac3.ext e36,hF rfl,eys⟩
  | true=>
   dsimp only
   rw [if_pos rfl]
   obtain ⟨y,S6,ws,he6,cg6,ezs⟩:=hT rfl
   refine ⟨ρ6,S5,τ4,y,S6,R6,r5.ext e6,he6,fun ρ7 H7 w e7 R7 v7=>?_⟩
   obtain ⟨g1,g2,g3,g4,g5⟩:=stay (e36.trans e7)
   obtain ⟨ex8,R8⟩:=R7.out (ws:=accV++[w]) g5 g4
   have l1:=ac3.length
   refine ⟨accV,g5,?_,m,Nat.lt_succ_self _,by omega,ρ7,S6,τ4,acc++[y],ws,accV++[w],?_,fun a u na hu nr=>by rw [aK na];exact g2 a u na hu nr,g3,g4,bJ,R8,(r5.ext (e6.trans e7)).eT ex8,(AVs.eT ex8 ((ac3.ext (e36.trans e7)).append (.one v7))),cg6,?_⟩
   ·have:(acc++zs).length<=sizeLine:=by rw [eys];exact hlen
    rw [ezs,List.length_append,List.length_cons] at this
    omega
   ·exact ⟨g1.pre,fun a u i h=>ex8.im a u i (g1.im a u i h)⟩
   ·rw [List.append_assoc,<- eys,ezs];rfl
theorem gI (hc:X.calm=true) (Sc:CpScope X scope N cap) (hi:AI X tg iter src) (hg:∀ C s₀ H₀ ex,AG (dX X scope N C s₀ H₀ ex) tg g) (ht:∀ C s₀ H₀ ex,Lz (dX X scope N C s₀ H₀ ex) ifs t) (he:∀ C s₀ H₀ ex,AE (dX X scope N C s₀ H₀ ex) elt c)
  (hs:∀ x,foldedSetIterable iter X.env x=pure x:=by intro _;rfl):AE X (.ListComp elt [⟨tg,iter,ifs,0⟩] scope pos) (bQ cap src g t c):=
 PE.imp (LY hc Sc hi (g:=Lh X.K g) (tc:=KD X.K t) (te:=K_ X.K c) (fun C s₀ H₀ ex=>(hg C s₀ H₀ ex).g0 rfl) (fun C s₀ H₀ ex=>ht C s₀ H₀ ex) (fun C s₀ H₀ ex=>(he C s₀ H₀ ex).e0 rfl) hs) pF
theorem Gz {i:Nat} {x:Str} {pos' spos:Pos} (hN:X.N.Nodup) (hc:X.calm=true) (Sc:CpScope X scope N cap) (hi:AI X tg iter src) (hg:∀ C s₀ H₀ ex,AG (dX X scope N C s₀ H₀ ex) tg g) (ht:∀ C s₀ H₀ ex,Lz (dX X scope N C s₀ H₀ ex) ifs t) (he:∀ C s₀ H₀ ex,AE (dX X scope N C s₀ H₀ ex) elt c)
  (hi':X.N[i]?=some x:=by rfl) (hx:Loc X.env.scope x:=by first | exact Or.inl rfl | exact Or.inr rfl)
  (hsw:swapsWith (.ListComp elt [⟨tg,iter,ifs,0⟩] scope pos) (some (.Name x pos')) spos.line X.env=pure true:=by rfl) (hf:X.fn x=true\/X.env.scope.names.lookup x=some .local:=by first | exact .inl rfl | exact .inr rfl | assumption)
  (hs:∀ x,foldedSetIterable iter X.env x=pure x:=by intro _;rfl):AS X (.Assign [.Name x pos'] (.ListComp elt [⟨tg,iter,ifs,0⟩] scope pos) spos) (bD (bQ cap src g t c) (bK i)):=
 PS.imp (CV hN hi' hx hc Sc hi (g:=Lh X.K g) (tc:=KD X.K t) (te:=K_ X.K c) (fun C s₀ H₀ ex=>(hg C s₀ H₀ ex).g0 rfl) (fun C s₀ H₀ ex=>ht C s₀ H₀ ex) (fun C s₀ H₀ ex=>(he C s₀ H₀ ex).e0 rfl) hsw hf hs) fun D σ H ⟨ρ,S,τ,R,r,h⟩=>
  pF σ H _ ⟨ρ,S,τ,R,r,aI (of_post h) .refl fun a S1 h1 ρ1 H1 x e1 R1 v1=>h1 ρ1 H1 _ e1 R1 ((r.ext e1).set v1)⟩
end
noncomputable def A.lst? (S:az):A->Option (List A)
 | .ref n=>au S n
 | _=>none
noncomputable def Kq (f:A->List A->az->R A) (co:Ex) (d:gB):Ex:=fun τ S=>(co τ S).bind fun o S1=>opt (o.lst? S1) fun _=>(d τ S1).bind fun as S2=>f o as S2
noncomputable def Nx (f:A->List A->az->R A) (co:Ex):Ex:=fun τ S=>(co τ S).bind fun o S1=>opt (o.lst? S1) fun _=>f o [] S1
noncomputable def rM (X:Cx) (f:A->List A->az->R A):V->List V->Hp->VK->Prop:=fun x vs H Q=>∃ ρ S o as,Rel X.K ρ H S/\AV X.K ρ H o x/\AVs X.K ρ H as vs/\(f o as S).post (qo X ρ H Q) (XE X ρ H)
section
variable {X:Cx} {pos apos cpos:Pos} {o e:Expr} {es:List Expr} {name:Str} {id:String} {f:A->List A->az->R A} {co:Ex} {d:gB}
theorem lst?_ty {K:PySem.W.Frag} {ρ:List Addr} {H:Hp} {S:az} {x:A} {v:V} {xs:List A} (R:Rel K ρ H S) (h:AV K ρ H x v) (e:x.lst? S=some xs):LJ K "list" v H:=by
 cases h with
 | ref h=>
  obtain ⟨vs,h1,_⟩:=R.lst h (aU e)
  exact .inl ⟨rfl,vs,ir.of h1⟩
 | _=>cases e
theorem tO (slot:Slot "list" name id) (hty:typeOf (.builtin id)=pure (.type "method_descriptor")) (hm:HD X id (rM X f)) (ho:AE X o co) (ha:AL X (e::es) d)
  (hbase:attributeBase o name X.env (eval o X.env)=eval o X.env:=by rfl)
  (hfew:((backTo cpos (starEach (e::es) X.env)).all (fun x=>!x.1) && (backToKw cpos (keywordEach [] X.env)).all (fun x=>x.1.isSome)
   && decide ((e::es).length+([]:List Keyword).length+(if ([]:List Keyword).isEmpty then 0 else 1) < 30))=true:=by rfl)
  (hline:(apos.endLine == cpos.line)=true:=by rfl) (hs:starEach (e::es) X.env=(false,eval e X.env)::starEach es X.env:=by rfl) (hplain:(backTo cpos (starEach es X.env)).any (·.1)=false:=by rfl) :
  AE X (.Call (.Attribute o name apos) (e::es) [] cpos) (Kq f co d):=PE.imp (Ey PySem.F.plainAttrs_list slot hty hm ho ha hbase hfew hline hs hplain) fun σ H Q h9=>by
 obtain ⟨ρ,S,τ,R,r,h⟩:=h9
 refine ⟨ρ,S,τ,R,r,aI (aM h) .refl fun x S1 h1 ρ1 H1 v e1 R1 v1=>?_⟩
 obtain ⟨xs,hx,h1⟩:=aL h1
 refine ⟨lst?_ty R1 v1 hx,ρ1,S1,τ,R1,r.ext e1,aI (aM h1) e1 fun as S2 h2 ρ2 H2 vs e2 R2 v2=>?_⟩
 exact ⟨ρ2,S2,x,as,R2,v1.ext e2,v2,aI h2 (e1.trans e2) fun _ _ z=>z.ext (e1.trans e2)⟩
noncomputable def jT (o:A) (as:List A) (S:az):R A:=match o,as with
 | .ref n,[x]=>opt (au S n) fun xs=>gd (xs.length < sizeLine) (.ok .non (S.set n (.lst (xs++[x]))))
 | _,_=>.no
theorem lA:HD X "list.append" (rM X jT):=fun pins s σ H x vs v us Q I rx rv h9=>by
 obtain ⟨ρ,S,o,as,R,vo,va,h⟩:=h9
 cases vo with
 | @ref p n hp=>
  match as,va,h with
  | [],_,h=>exact h.elim
  | _::_::_,_,h=>exact h.elim
  | [y],va,h=>
   obtain ⟨w,rfl,hw⟩:=Fc va
   obtain ⟨xs,hn,h⟩:=aL h
   obtain ⟨hl,h⟩:=bu h
   obtain ⟨ws,h1,r⟩:=R.lst hp (aU hn)
   obtain ⟨ex,R'⟩:=R.put hp (aU hn) (r.append (.one hw))
   exact qq pins s σ H _ _ v us Q I rx rv ⟨p,ws,w,rfl,rfl,h1,by rw [<- r.length];exact hl,h _ _ _ ex R' .non⟩
 | _=>exact h.elim
noncomputable def vC (o:A) (as:List A) (S:az):R A:=match o,as with
 | .ref n,[.int i]=>opt (au S n) fun xs=>gd (-(2 ^ 63)<=i/\i < 2 ^ 63) (opt (seqIndex? i xs.length) fun k=>opt (xs[k]?) fun x=>.ok x (S.set n (.lst (xs.eraseIdx k))))
 | _,_=>.no
theorem Fx:HD X "list.pop" (rM X vC):=fun pins s σ H x vs v us Q I rx rv h9=>by
 obtain ⟨ρ,S,o,as,R,vo,va,h⟩:=h9
 cases vo with
 | @ref p n hp=>
  match as,va,h with
  | [],_,h=>exact h.elim
  | y::_::_,_,h=>exact (by cases y <;> exact h.elim)
  | [y],va,h=>
   obtain ⟨w,rfl,hw⟩:=Fc va
   cases hw with
   | int i=>
    obtain ⟨xs,hn,h⟩:=aL h
    obtain ⟨hi,h⟩:=bu h
    obtain ⟨k,hk,h⟩:=aL h
    obtain ⟨y,hy,h⟩:=aL h
    obtain ⟨ws,h1,r⟩:=R.lst hp (aU hn)
    obtain ⟨w,hw,vw⟩:=r.get hy
    obtain ⟨ex,R'⟩:=R.put hp (aU hn) (r.eraseIdx k)
    exact D7 pins s σ H _ _ v us Q I rx rv ⟨p,ws,i,k,w,rfl,rfl,h1,hi.1,hi.2,by rw [<- r.length];exact hk,hw,h _ _ _ ex R' (vw.ext ex)⟩
   | _=>exact h.elim
 | _=>exact h.elim
end
noncomputable def c_ (N:List Str) (m:Sm) (as:List A) (S:az):R A:=match m (as++List.replicate (N.length - as.length) .unb) S with
 | .rt a S'=>.ok a S'
 | .nx _ S'=>.ok .non S'
 | .ex c S'=>.ex c S'
 | _=>.no
noncomputable def j8 (K:PySem.W.Frag) (n:Nat) (F:List A->az->R A):Sp:=fun vs H Q _=>vs.length=n/\∃ ρ S as a S',Rel K ρ H S/\AVs K ρ H as vs/\F as S=.ok a S'/\∀ ρ' H' v,Ext ρ ρ' H H'->Rel K ρ' H' S'->AV K ρ' H' a v->Q v H'
theorem sG {K:PySem.W.Frag} {ρ:List Addr} {H:Hp} {as:List A} {vs:List V} (r:AVs K ρ H as vs) (N:List Str):SR K ρ H (as++List.replicate (N.length - as.length) .unb) (L2.start N vs):=by
 have hl:=r.length
 refine ⟨by unfold L2.start;simp [hl],fun i a h=>?_⟩
 by_cases hi:i < as.length
 ·rw [List.getElem?_append_left hi] at h
  obtain ⟨v,hv,av⟩:=r.get h
  exact .inr ⟨v,by unfold L2.start;rw [List.getElem?_append_left (by simp;omega),List.getElem?_map,hv];rfl,av⟩
 ·rw [List.getElem?_append_right (by omega),List.getElem?_replicate] at h
  split at h
  ·exact .inl (Option.some.inj h).symm
  ·cases h
section
variable {P:Program} {w:World} {K:PySem.W.Frag} {mg:Str->Option Value} {base:Heap}
theorem ny {x qual:Str} {st:Stmt} {f:Addr} {fd:FuncData} {N ps:List Str} {k:Nat} {m:Sm} (F:Fun K x qual st f fd) (Sc:FnScope N ps (aC st))
  (body:∀ (cdv:Value) (A:Around) (outer:List Env) (s:Shared) (H:Hp) (E:XK),Room k (A.deeper (envOfC qual (aC st) s.heap.objs.size f cdv))->z_ (kQ jn P w K mg base N qual (aC st) f cdv A outer s H E).KQ (aR st) m) :
  FnOk P w K mg base jn (k+1) f fd ps (j8 K ps.length (c_ N m)):=by
 refine F.ok Sc (fun vs H Q E h=>h.1) fun cdv B outer s H vs Q E hr ⟨hl,ρ,S,as,a,S',R,va,hF,q⟩=>⟨_,body cdv B outer s H E hr,ρ,S,_,R,sG va N,?_⟩
 unfold c_ at hF
 cases hm:m (as++List.replicate (N.length - as.length) .unb) S with
 | rt b S2=>rw [hm] at hF;cases hF;exact q
 | nx τ S2=>rw [hm] at hF;cases hF;exact fun ρ' H' σ' e R' _=>q ρ' H' _ e R' .non
 | bk τ S2=>rw [hm] at hF;cases hF
 | ct τ S2=>rw [hm] at hF;cases hF
 | ex c S2=>rw [hm] at hF;cases hF
 | no=>rw [hm] at hF;cases hF
end
noncomputable abbrev dZ (P:Program) (w:World) (K:PySem.W.Frag) (mg:Str->Option Value) (base:Heap) (k:Nat) (x:Str) (ps:List Str) (F:List A->az->R A):Prop:=Kn P w K mg base k x ps (j8 K ps.length F)
noncomputable def eFn (F:List A->az->R A) (d:gB):Ex:=fun τ S=>(d τ S).bind fun as S1=>match F as S1 with
 | .ok a S2=>.ok a S2
 | _=>.no
section
variable {X:Cx} {pos p:Pos} {e:Expr} {es:List Expr} {x:Str} {ps:List Str} {k:Nat} {F:List A->az->R A} {d:gB}
theorem bz (G:dZ X.prog X.w X.K X.mg X.base k x ps F) (hr:Room k X.A) (ha:AL X (e::es) d) (hl:∀ τ S as S',d τ S=.ok as S'->as.length=ps.length) (hg:Gl X x:=by rfl) (hdb:(x == ("__debug__" : Str))=false:=by decide)
  (hs:starEach (e::es) X.env=(false,eval e X.env)::starEach es X.env:=by rfl) (hplain:(backTo pos (starEach es X.env)).any (·.1)=false:=by rfl):AE X (.Call (.Name x p) (e::es) [] pos) (eFn F d):=
 PE.imp (K9 G hr ha hg hdb hs hplain) fun σ H Q h9=>by
  obtain ⟨ρ,S,τ,R,r,h⟩:=h9
  refine ⟨ρ,S,τ,R,r,?_⟩
  have hb:=aM h
  cases hd:d τ S with
  | no=>rw [hd] at hb;exact hb
  | ex c S1=>rw [hd] at hb;exact hb
  | ok as S1=>
   rw [hd] at hb
   intro ρ1 H1 vs e1 R1 v1
   rw [List.append_nil]
   refine ⟨by rw [<- v1.length];exact hl τ S as S1 hd,ρ1,S1,as,?_⟩
   have hb:Am.R.post (match F as S1 with
    | .ok a S2=>.ok a S2
    | _=>.no) (qo X ρ H Q) (XE X ρ H):=hb
   cases hF:F as S1 with
   | ok a S2=>rw [hF] at hb;exact ⟨a,S2,R1,v1,rfl,fun ρ2 H2 v e2=>hb ρ2 H2 v (e1.trans e2)⟩
   | ex c S2=>rw [hF] at hb;exact hb.elim
   | no=>rw [hF] at hb;exact hb.elim
theorem aN:∀ τ S as S',aH τ S=.ok as S'->as.length=0:=fun τ S as S' h=>by cases h;rfl
theorem aq {c:Ex} {d:gB} {n:Nat} (h:∀ τ S as S',d τ S=.ok as S'->as.length=n):∀ τ S as S',aj c d τ S=.ok as S'->as.length=n+1:=fun τ S as S' e=>by
 unfold aj at e
 cases hc:c τ S with
 | ok a S1=>
  rw [hc] at e
  cases hd:d τ S1 with
  | ok bs S2=>
   have e:R.bind (d τ S1) (fun as S2=>.ok (a::as) S2)=.ok as S':=e
   rw [hd] at e;cases e;rw [List.length_cons,h τ S1 bs _ hd]
  | ex _ _=>
   have e:R.bind (d τ S1) (fun as S2=>.ok (a::as) S2)=.ok as S':=e
   rw [hd] at e;cases e
  | no=>
   have e:R.bind (d τ S1) (fun as S2=>.ok (a::as) S2)=.ok as S':=e
   rw [hd] at e;cases e
 | ex _ _=>rw [hc] at e;cases e
 | no=>rw [hc] at e;cases e
end
section
variable {X:Cx} {pos:Pos} {a b c d:Expr}
end
section
variable {X:Cx}
end
section
variable {X:Cx}
end
section
variable {X:Cx} {pos apos cpos:Pos} {a b o e:Expr} {es:List Expr}
end
noncomputable def bA (S:az) (n:Nat):Option (List (List Int×A)):=match S[n]? with
 | some (.dct xs)=>some xs
 | _=>none
theorem eB {S:az} {n:Nat} {xs:List (List Int×A)} (h:bA S n=some xs):S[n]?=some (.dct xs):=by
 unfold bA at h
 split at h
 ·rename_i e;cases h;exact e
 ·cases h
theorem lE {S:az} {n:Nat} {xs:List (List Int×A)} (h:S[n]?=some (.dct xs)):bA S n=some xs:=by
 unfold bA;rw [h]
noncomputable def dJ (kvs:List (List Int×A)) (k:List Int):Option A:=(kvs.find? fun kv=>decide (kv.1=k)).map (·.2)
noncomputable def putD (kvs:List (List Int×A)) (k:List Int) (v:A):List (List Int×A):=
 if (dJ kvs k).isSome=true then kvs.map (fun kv=>if kv.1=k then (kv.1,v) else kv) else kvs++[(k,v)]
theorem r6:∀ {a b:List Int},a.map (Sum.inl:Int->Key)=b.map Sum.inl->a=b
 | [],[],_=>rfl
 | [],_::_,e=>by simp at e
 | _::_,[],e=>by simp at e
 | x::xs,y::ys,e=>by
  rw [List.map_cons,List.map_cons] at e
  injection e with e1 e2
  injection e1 with e1
  rw [e1,r6 e2]
theorem xF (ns:List Int):(ns.map (Sum.inl:Int->Key)).map kV=ns.map V.int:=by rw [List.map_map];rfl
section
variable {K:PySem.W.Frag} {ρ ρ':List Addr} {H H':Hp}
theorem zQ {p:List Int×A} {r:List (List Int×A)} {k:List Int} (e:p.1=k):dJ (p::r) k=some p.2:=by simp [dJ,List.find?_cons,e]
theorem zR {p:List Int×A} {r:List (List Int×A)} {k:List Int} (e:¬ p.1=k):dJ (p::r) k=dJ r k:=by simp [dJ,List.find?_cons,e]
theorem DV.look:∀ {kvs:List (List Int×A)} {ks:List (List Key×V)} (k:List Int),DV K ρ H kvs ks->(dJ kvs k).isSome=(fV ks (k.map Sum.inl)).isSome/\∀ x,dJ kvs k=some x->∃ v,fV ks (k.map Sum.inl)=some v/\AV K ρ H x v
 | [],[],k,_=>⟨rfl,fun x h=>nomatch h⟩
 | p::r,q::r',k,⟨⟨e,a⟩,t⟩=>by
  by_cases c:p.1=k
  ·have c':q.1=k.map Sum.inl:=by rw [e,c]
   rw [zQ c,jD c']
   exact ⟨rfl,fun x h=>by cases h;exact ⟨_,rfl,a⟩⟩
  ·have c':¬ q.1=k.map Sum.inl:=fun z=>c (r6 (e.symm.trans z))
   rw [zR c,jw c']
   exact DV.look k t
theorem DV.repl {x:A} {v:V} (h:AV K ρ H x v) (k:List Int):∀ {kvs:List (List Int×A)} {ks:List (List Key×V)},DV K ρ H kvs ks->DV K ρ H (kvs.map fun kv=>if kv.1=k then (kv.1,x) else kv) (ks.map fun kv=>if kv.1=k.map Sum.inl then (kv.1,v) else kv)
 | [],[],_=>trivial
 | p::r,q::r',⟨⟨e,a⟩,t⟩=>by
  refine ⟨?_,DV.repl h k t⟩
  dsimp only
  by_cases c:p.1=k
  ·rw [if_pos c,if_pos (by rw [e,c])];exact ⟨e,h⟩
  ·rw [if_neg c,if_neg (fun z=>c (r6 (e.symm.trans z)))];exact ⟨e,a⟩
theorem DV.snoc {x:A} {v:V} (h:AV K ρ H x v) (k:List Int):∀ {kvs:List (List Int×A)} {ks:List (List Key×V)},DV K ρ H kvs ks->DV K ρ H (kvs++[(k,x)]) (ks++[(k.map Sum.inl,v)])
 | [],[],_=>⟨⟨rfl,h⟩,trivial⟩
 | p::r,q::r',⟨a,t⟩=>⟨a,DV.snoc h k t⟩
theorem DV.put {x:A} {v:V} (h:AV K ρ H x v) (k:List Int) {kvs:List (List Int×A)} {ks:List (List Key×V)} (d:DV K ρ H kvs ks):DV K ρ H (putD kvs k x) (putK ks (k.map Sum.inl) v):=by
 unfold putD putK
 rw [lP,<- (d.look k).1]
 by_cases c:(dJ kvs k).isSome=true
 ·rw [if_pos c,if_pos c];exact DV.repl h k d
 ·rw [if_neg c,if_neg c];exact DV.snoc h k d
theorem DV.length:∀ {kvs:List (List Int×A)} {ks:List (List Key×V)},DV K ρ H kvs ks->kvs.length=ks.length
 | [],[],_=>rfl
 | _::_,_::_,⟨_,t⟩=>congrArg (·+1) t.length
theorem Rel.dct {S:az} {n:Nat} {a:Addr} {xs:List (List Int×A)} (R:Rel K ρ H S) (ha:ρ[n]?=some a) (hS:S[n]?=some (.dct xs)):∃ vs,H a=some (.dT vs)/\DV K ρ H xs vs:=R.at n a _ ha hS
theorem Rel.Ng {S:az} {p:Addr} {xs:List (List Int×A)} {vs:List (List Key×V)} (R:Rel K ρ H S) (hp:H p=none) (r:DV K ρ H xs vs):Ext ρ (ρ++[p]) H (upd H p (.dT vs))/\Rel K (ρ++[p]) (upd H p (.dT vs)) (S++[.dct xs])/\(ρ++[p])[S.length]?=some p:=by
 have ex:Ext ρ (ρ++[p]) H (upd H p (.dT vs)):=⟨⟨List.prefix_append _ _,fun a u _ h=>by rw [aK (bf h hp)];exact h⟩,fun a u h _=>by rw [aK (bf h hp)];exact h,fun a h=>by
  rcases List.mem_append.mp h with z | z
  ·exact .inl z
  ·have e:a=p:=by simpa using z
   rw [e];exact .inr hp⟩
 have np:p∉ρ:=R.Ew hp
 have last:(ρ++[p])[S.length]?=some p:=by rw [<- R.len];simp
 refine ⟨ex,⟨by simp [R.len],?_,?_⟩,last⟩
 ·rw [List.nodup_append]
  refine ⟨R.nd,by simp,fun a ha b hb e=>?_⟩
  have:b=p:=by simpa using hb
  exact np (by rw [<- this,<- e];exact ha)
 ·intro n a o h1 h2
  by_cases hn:n < S.length
  ·rw [List.getElem?_append_left (by rw [R.len];exact hn)] at h1
   rw [List.getElem?_append_left hn] at h2
   have na:a≠p:=fun z=>np (by rw [<- z];exact List.mem_of_getElem? h1)
   have:=R.at n a o h1 h2
   cases o with
   | lst ys=>obtain ⟨ws,e,q⟩:=this;exact ⟨ws,by rw [aK na];exact e,q.ext ex⟩
   | dct _ | eY _=>obtain ⟨ws,e,q⟩:=this;exact ⟨ws,by rw [aK na];exact e,q.ext ex⟩
   | ins _ _=>obtain ⟨oo,uu,e⟩:=this;exact ⟨oo,uu,by rw [aK na];exact e⟩
  ·have e:n=S.length:=by
    have:=(List.getElem?_eq_some_iff.mp h2).1
    simp at this
    omega
   subst e
   rw [last] at h1
   cases h1
   simp at h2
   subst h2
   exact ⟨vs,bJ,r.ext ex⟩
theorem Rel.putD {S:az} {n:Nat} {a:Addr} {xs ys:List (List Int×A)} {ws:List (List Key×V)} (R:Rel K ρ H S) (ha:ρ[n]?=some a) (hS:S[n]?=some (.dct xs)) (r:DV K ρ H ys ws):Ext ρ ρ H (upd H a (.dT ws))/\Rel K ρ (upd H a (.dT ws)) (S.set n (.dct ys)):=by
 obtain ⟨vs,e,_⟩:=R.at n a _ ha hS
 have ex:Ext ρ ρ H (upd H a (.dT ws)):=⟨⟨List.prefix_refl _,fun b u i h=>by
  have:b≠a:=by
   intro z;subst z;rw [e] at h;cases h;exact i
  rw [aK this];exact h⟩,fun b u h n=>by
  rw [aK (fun z=>n (by rw [z];exact List.mem_of_getElem? ha))];exact h,fun _ h=>.inl h⟩
 refine ⟨ex,by rw [List.length_set];exact R.len,R.nd,fun m b o h1 h2=>?_⟩
 by_cases hm:m=n
 ·subst hm
  rw [ha] at h1;cases h1
  rw [List.getElem?_set_self (List.getElem?_eq_some_iff.mp hS).1] at h2
  cases h2
  exact ⟨ws,bJ,r.ext ex⟩
 ·rw [List.getElem?_set_ne (Ne.symm hm)] at h2
  have nb:b≠a:=fun z=>by
   subst z
   obtain ⟨l1,e1⟩:=List.getElem?_eq_some_iff.mp ha
   obtain ⟨l2,e2⟩:=List.getElem?_eq_some_iff.mp h1
   exact hm ((List.getElem_inj R.nd).mp (e2.trans e1.symm))
  have:=R.at m b o h1 h2
  cases o with
  | lst ys=>obtain ⟨ws',e',q⟩:=this;exact ⟨ws',by rw [aK nb];exact e',q.ext ex⟩
  | dct _ | eY _=>obtain ⟨ws',e',q⟩:=this;exact ⟨ws',by rw [aK nb];exact e',q.ext ex⟩
  | ins _ _=>obtain ⟨oo,uu,e'⟩:=this;exact ⟨oo,uu,by rw [aK nb];exact e'⟩
end
section
variable {X:Cx} {pos:Pos} {a b:Expr}
theorem xK {ρ:List Addr} {H:Hp} {S:az} {p q:Addr} {n:Nat} {xs:List A} {vs:List V} {kvs:List (List Int×A)} {ns:List Int} (R:Rel X.K ρ H S) (hp:ρ[n]?=some p) (hn:bA S n=some kvs) (hq:H q=some (.tup vs)) (r:AVs X.K ρ H xs vs) (hi:A.ints xs=some ns) :
  ∃ ks,H p=some (.dT ks)/\DV X.K ρ H kvs ks/\H q=some (.tup ((ns.map (Sum.inl:Int->Key)).map kV))/\mP H p (.ref q) (fV ks (ns.map Sum.inl)):=by
 obtain ⟨ks,e,d⟩:=R.dct hp (eB hn)
 have z:=rF r hi
 subst z
 rw [<- xF] at hq
 exact ⟨ks,e,d,hq,mP.t e hq⟩
noncomputable def mw (x y:A) (S:az):R A:=match x,y with
 | .ref n,.tup xs=>opt (bA S n) fun kvs=>opt (A.ints xs) fun ns=>opt (dJ kvs ns) fun v=>.ok v S
 | _,_=>.no
theorem Ld (hu:X.A.units+64 < cLine):Hq X (r2 X mw):=fun value slice pins s σ H x y v u Q I rx ry ⟨ρ,S,a,b,R,va,vb,h⟩ hs=>by
 cases va with
 | @ref p n hp=>
  cases vb with
  | @tup q xs vs hq r=>
   obtain ⟨kvs,hn,h⟩:=aL h
   obtain ⟨ns,hi,h⟩:=aL h
   obtain ⟨z,hz,h⟩:=aL h
   obtain ⟨ks,e,d,hq',g⟩:=xK R hp hn hq r hi
   obtain ⟨w,hw,aw⟩:=(d.look ns).2 z hz
   rw [hw] at g
   exact yk (by omega) value slice pins s σ H _ _ v u Q I rx ry ⟨p,w,rfl,g,h _ _ _ .refl R aw⟩ hs
  | _=>exact h.elim
 | _=>exact h.elim
theorem pC (hu:X.A.units+64 < cLine) {ca cb:Ex} (ha:AE X a ca) (hb:AE X b cb) (hs:nI b:=by exact fun _ _=>rfl):AE X (.Subscript a b pos) (aJ mw ca cb):=PE.imp (B6 (Ld hu) ha hb hs) fun σ H Q h=>jU h
noncomputable def yf (o i v:A) (S:az):R Unit:=match o,i with
 | .ref n,.tup xs=>opt (bA S n) fun kvs=>opt (A.ints xs) fun ns=>gd (kvs.length < sizeLine) (.ok () (S.set n (.dct (putD kvs ns v))))
 | _,_=>.no
noncomputable def Ni (X:Cx):zP:=fun o i v H Q=>∃ ρ S ao ai av,Rel X.K ρ H S/\AV X.K ρ H ao o/\AV X.K ρ H ai i/\AV X.K ρ H av v/\(yf ao ai av S).post (fun _ S'=>∀ ρ' H',Ext ρ ρ' H H'->Rel X.K ρ' H' S'->Q H') (XE X ρ H)
theorem FL (hu:X.A.units+64 < cLine):AJ X (Ni X):=fun pins s σ H o i v ov iv u Q I ro ri rv h9=>by
 obtain ⟨ρ,S,ao,ai,av,R,h1,h2,h3,h⟩:=h9
 cases h1 with
 | @ref p n hp=>
  cases h2 with
  | @tup q xs vs hq r=>
   obtain ⟨kvs,hn,h⟩:=aL h
   obtain ⟨ns,hi,h⟩:=aL h
   obtain ⟨hl,h⟩:=bu h
   obtain ⟨ks,e,d,hq',g⟩:=xK R hp hn hq r hi
   obtain ⟨ex,R'⟩:=R.putD hp (eB hn) (d.put h3 ns)
   exact set_dict (by omega) pins s σ H _ _ v ov iv u Q I ro ri rv ⟨p,_,rfl,uM.t e hq' (by rw [<- d.length];exact hl),h _ _ ex R'⟩
  | _=>exact h.elim
 | _=>exact h.elim
noncomputable def Ck (co ci:Ex):Tg:=fun a τ S=>(co τ S).bind fun o S1=>(ci τ S1).bind fun i S2=>(yf o i a S2).bind fun _ S3=>.ok τ S3
theorem rT (hu:X.A.units+64 < cLine) {o i:Expr} {co ci:Ex} (ho:AE X o co) (hi:AE X i ci)
  (ha:∀ v,assign (.Subscript o i pos) X.env v=(do
   let ov <- holding [v] (eval o X.env)
   let iv <- holding [v,ov] (eval i X.env)
   standAt pos
   holding [v,ov,iv] (setItem ov iv v)
   release [v,ov,iv] []):=by intro _;rfl):AG X (.Subscript o i pos) (Ck co ci):=PG.imp (v8 ho hi (FL hu) ha) fun v σ H Q h9=>by
 obtain ⟨ρ,S,τ,a,R,r,va,h⟩:=h9
 refine ⟨ρ,S,τ,R,r,aI (aM h) .refl fun o S1 h1 ρ1 H1 x e1 R1 v1=>⟨ρ1,S1,τ,R1,r.ext e1,aI (aM h1) e1 fun i S2 h2 ρ2 H2 y e2 R2 v2=>?_⟩⟩
 refine ⟨ρ2,S2,o,i,a,R2,v1.ext e2,v2,va.ext (e1.trans e2),aI (aM h2) (e1.trans e2) fun _ S3 h3 ρ3 H3 e3 R3=>?_⟩
 exact h3 ρ3 H3 σ ((e1.trans e2).trans e3) R3 (r.ext ((e1.trans e2).trans e3))
noncomputable def oK:Ex:=fun _ S=>.ok (.ref S.length) (S++[.dct []])
theorem lq:AE X (.Dict [] [] pos) oK:=PE.imp B7 fun σ H Q ⟨ρ,S,τ,R,r,h⟩ p hp=>by
 obtain ⟨ex,R',hl⟩:=R.Ng (xs:=[]) (vs:=[]) hp trivial
 exact h _ _ _ ex R' (.ref hl)
noncomputable def dct? (a:A) (S:az):Option Unit:=match a with
 | .ref n=>(bA S n).map fun _=>()
 | _=>none
noncomputable def FY (f:A->List A->az->R A) (co:Ex) (d:gB):Ex:=fun τ S=>(co τ S).bind fun x S1=>opt (dct? x S1) fun _=>(d τ S1).bind fun as S2=>f x as S2
theorem dct?_ty {K:PySem.W.Frag} {ρ:List Addr} {H:Hp} {S:az} {x:A} {v:V} {u:Unit} (R:Rel K ρ H S) (a:AV K ρ H x v) (e:dct? x S=some u):LJ K "dict" v H:=by
 cases a with
 | @ref p n h=>
  obtain ⟨xs,hx,_⟩:=Option.map_eq_some_iff.mp e
  obtain ⟨vs,h1,_⟩:=R.dct h (eB hx)
  exact .inr (.inr (.inl ⟨rfl,.inr ⟨vs,h1⟩⟩))
 | _=>cases e
theorem Bx {o e:Expr} {es:List Expr} {name:Str} {id:String} {apos cpos:Pos} {f:A->List A->az->R A} {co:Ex} {d:gB} (slot:Slot "dict" name id) (hty:typeOf (.builtin id)=pure (.type "method_descriptor")) (hm:HD X id (rM X f)) (ho:AE X o co) (ha:AL X (e::es) d)
  (hbase:attributeBase o name X.env (eval o X.env)=eval o X.env:=by rfl)
  (hfew:((backTo cpos (starEach (e::es) X.env)).all (fun x=>!x.1) && (backToKw cpos (keywordEach [] X.env)).all (fun x=>x.1.isSome)
   && decide ((e::es).length+([]:List Keyword).length+(if ([]:List Keyword).isEmpty then 0 else 1) < 30))=true:=by rfl)
  (hline:(apos.endLine == cpos.line)=true:=by rfl) (hs:starEach (e::es) X.env=(false,eval e X.env)::starEach es X.env:=by rfl) (hplain:(backTo cpos (starEach es X.env)).any (·.1)=false:=by rfl) :
  AE X (.Call (.Attribute o name apos) (e::es) [] cpos) (FY f co d):=PE.imp (Ey PySem.F.plainAttrs_dict slot hty hm ho ha hbase hfew hline hs hplain) fun σ H Q h9=>by
 obtain ⟨ρ,S,τ,R,r,h⟩:=h9
 refine ⟨ρ,S,τ,R,r,aI (aM h) .refl fun x S1 h1 ρ1 H1 v e1 R1 v1=>?_⟩
 obtain ⟨xs,hx,h1⟩:=aL h1
 refine ⟨dct?_ty R1 v1 hx,ρ1,S1,τ,R1,r.ext e1,aI (aM h1) e1 fun as S2 h2 ρ2 H2 vs e2 R2 v2=>?_⟩
 exact ⟨ρ2,S2,x,as,R2,v1.ext e2,v2,aI h2 (e1.trans e2) fun _ _ z=>z.ext (e1.trans e2)⟩
noncomputable def Fb (o:A) (as:List A) (S:az):R A:=match o,as with
 | .ref n,[.tup xs,y]=>opt (bA S n) fun kvs=>opt (A.ints xs) fun k=>.ok ((dJ kvs k).getD y) S
 | _,_=>.no
theorem H_ (hu:X.A.units+64 < cLine):HD X "dict.get" (rM X Fb):=fun pins s σ H x vs v us Q I rx rv h9=>by
 obtain ⟨ρ,S,o,as,R,vo,va,h⟩:=h9
 cases vo with
 | @ref p n hp=>
  match as,va,h with
  | [],_,h=>exact h.elim
  | [z],_,h=>exact (by cases z <;> exact h.elim)
  | z::_::_::_,_,h=>exact (by cases z <;> exact h.elim)
  | [z,y],va,h=>
   obtain ⟨w1,w2,rfl,hz,hy⟩:=JW va
   cases hz with
   | @tup q xs ws hq rr=>
    obtain ⟨kvs,hn,h⟩:=aL h
    obtain ⟨ns,hi,h⟩:=aL h
    have z:=rF rr hi
    subst z
    obtain ⟨ks,h1,dv⟩:=R.dct hp (eB hn)
    refine G0 (by omega) pins s σ H _ _ v us Q I rx rv ⟨p,q,ns.map Sum.inl,ks,w2,rfl,rfl,h1,by rw [xF];exact hq,h _ _ _ .refl R ?_⟩
    obtain ⟨l1,l2⟩:=dv.look ns
    cases e1:dJ kvs ns with
    | none=>
     rw [e1] at l1
     cases e2:fV ks (ns.map Sum.inl) with
     | none=>exact hy
     | some _=>rw [e2] at l1;cases l1
    | some x1=>
     obtain ⟨v1,e2,a1⟩:=l2 x1 e1
     rw [e2]
     exact a1
   | _=>exact h.elim
 | _=>exact h.elim
end
section
variable {X:Cx} {pos:Pos} {a b:Expr}
end
section
variable {X:Cx} {pos:Pos} {a b tg:Expr}
end
structure Out (ρ1:List Addr) (H1:Hp) (D:Addr) (accV:List V) (ρ:List Addr) (H:Hp):Prop where
 e0:Ext0 ρ1 ρ H1 H
 fr:∀ a u,a≠D->H1 a=some u->a∉ρ1->H a=some u
 nw:∀ a∈ρ,a∈ρ1\/H1 a=none
 nD:D∉ρ
 hD:H D=some (.lst accV)
section
variable {X:Cx} {pos:Pos} {tg iter tg2 iter2 elt e:Expr} {ifs ifs2:List Expr} {scope:Scope} {N:List Str} {cap:List (Option Nat)} {src src2:Ic} {g g2:Tg} {t t2:Te} {c:Ex}
end
noncomputable def LR (K:PySem.W.Frag) (n:Nat) (F:List A->az->R A):Sp:=fun vs H Q E=>vs.length=n/\∃ ρ S as,Rel K ρ H S/\AVs K ρ H as vs/\(F as S).post (fun a S'=>∀ ρ' H' v,Ext ρ ρ' H H'->Rel K ρ' H' S'->AV K ρ' H' a v->Q v H') (fun c S'=>∀ C ρ' H',wK K c C->Ext ρ ρ' H H'->Rel K ρ' H' S'->E (.ref C) none H')
section
variable {P:Program} {w:World} {K:PySem.W.Frag} {mg:Str->Option Value} {base:Heap}
theorem Fun.N7 {x qual:Str} {st:Stmt} {f:Addr} {fd:FuncData} {N ps:List Str} {k:Nat} {sp:Sp} (F:Fun K x qual st f fd) (S:FnScope N ps (aC st)) (len:∀ vs H Q E,sp vs H Q E->vs.length=ps.length)
  (hb:∀ (cdv:Value) (A:Around) (outer:List Env) (s:Shared) (H:Hp) (vs:List V) (Q:VK) (E:XK),Room k (A.deeper (envOfC qual (aC st) s.heap.objs.size f cdv))->sp vs H Q E->∃ t,qh (kQ (Ar P w) P w K mg base N qual (aC st) f cdv A outer s H E) (aR st) t/\t { nx:=fun _ H'=>Q .non H',rt:=Q } (L2.start N vs) H):FnOk P w K mg base (Ar P w) (k+1) f fd ps sp:=by
 obtain ⟨oc,od,kV,doc,pm,an,cdv,ct,osl,rfl,lk,hcd⟩:=F.ex
 exact Hs lk hcd S len fun A outer s H vs Q E hr hsp=>hb cdv A outer s H vs Q E hr hsp
theorem fnX {x qual:Str} {st:Stmt} {f:Addr} {fd:FuncData} {N ps:List Str} {k:Nat} {m:Sm} (F:Fun K x qual st f fd) (Sc:FnScope N ps (aC st))
  (body:∀ (cdv:Value) (A:Around) (outer:List Env) (s:Shared) (H:Hp) (E:XK),Room k (A.deeper (envOfC qual (aC st) s.heap.objs.size f cdv))->z_ (kQ (Ar P w) P w K mg base N qual (aC st) f cdv A outer s H E) (aR st) m) :
  FnOk P w K mg base (Ar P w) (k+1) f fd ps (LR K ps.length (c_ N m)):=by
 refine Fun.N7 F Sc (fun vs H Q E h=>h.1) fun cdv B outer s H vs Q E hr ⟨hl,ρ,S,as,R,va,q⟩=>⟨_,body cdv B outer s H E hr,ρ,S,_,R,sG va N,?_⟩
 unfold c_ at q
 cases hm:m (as++List.replicate (N.length - as.length) .unb) S with
 | rt b S2=>rw [hm] at q;exact q
 | nx τ S2=>rw [hm] at q;exact fun ρ' H' σ' e R' _=>q ρ' H' _ e R' .non
 | bk τ S2=>rw [hm] at q;exact q.elim
 | ct τ S2=>rw [hm] at q;exact q.elim
 | no=>rw [hm] at q;exact q.elim
 | ex c S2=>
  rw [hm] at q
  intro C ρ' H' n e R'
  exact ⟨rfl,fun pins σ' s' ea I Ra=>Aa I rfl Ra (q C ρ' H' n e R')⟩
end
noncomputable def G_ (P:Program) (w:World) (K:PySem.W.Frag) (mg:Str->Option Value) (base:Heap) (k:Nat) (x:Str) (ps:List Str) (F:List A->az->R A):Prop:=
 ∃ (f:Addr) (fd:FuncData),FnOk P w K mg base (Ar P w) k f fd ps (LR K ps.length F)/\mg x=some (.ref f)/\PySem.W.keepIn K (.ref f)=true/\Binds K fd ps []
noncomputable def z9 (F:List A->az->R A) (d:gB):Ex:=fun τ S=>(d τ S).bind fun as S1=>F as S1
section
variable {X:Cx} {pos p:Pos} {e:Expr} {es:List Expr} {x:Str} {ps:List Str} {k:Nat} {F:List A->az->R A} {d:gB}
theorem sq (G:G_ X.prog X.w X.K X.mg X.base k x ps F) (hr:Room k X.A) (ha:AL X (e::es) d) (hl:∀ τ S as S',d τ S=.ok as S'->as.length=ps.length) (hg:Gl X x:=by rfl) (hdb:(x == ("__debug__" : Str))=false:=by decide)
  (hs:starEach (e::es) X.env=(false,eval e X.env)::starEach es X.env:=by rfl) (hplain:(backTo pos (starEach es X.env)).any (·.1)=false:=by rfl):AE X (.Call (.Name x p) (e::es) [] pos) (z9 F d):=by
 obtain ⟨f,fd,Fo,hm,hk,hb⟩:=G
 refine PE.imp (yx Fo hr hg hm hk hb .nil (By (X:=X) rfl rfl) ha hdb hs hplain) fun σ H Q h9=>?_
 obtain ⟨ρ,S,τ,R,r,h⟩:=h9
 refine ⟨ρ,S,τ,R,r,?_⟩
 have hq:=aM h
 cases hd:d τ S with
 | no=>rw [hd] at hq;exact hq
 | ex c S1=>rw [hd] at hq;exact hq
 | ok as S1=>
  rw [hd] at hq
  intro ρ1 H1 vs e1 R1 v1
  rw [List.append_nil]
  refine ⟨by rw [<- v1.length];exact hl τ S as S1 hd,ρ1,S1,as,R1,v1,mQ hq (fun a S2 q ρ2 H2 v e2=>q ρ2 H2 v (e1.trans e2)) fun c S2 q C ρ2 H2 n e2=>q C ρ2 H2 n (e1.trans e2)⟩
end
noncomputable def Gb:List Value:=[.type "ValueError",.type "Exception",.type "BaseException",.type "object"]
theorem Lb {K:PySem.W.Frag} {mg:Str->Option Value} {base:Heap} {x:Str} {C:Addr} {bmB:List Value} {newId:String} (M:Mod K mg base) (e:wK K x C) (q:PySem.W.excIn K C bmB newId=true):OwnCls x C bmB newId mg base:=by
 refine ⟨PySem.W.mg_of M.kin M.glob e,?_⟩
 unfold PySem.W.excIn at q
 split at q
 ·rename_i dd cd sl ho
  split at q
  ·rename_i C' bm k0 k1 k2 k3 nw k5 hm hs
   rw [Bool.and_eq_true,Bool.and_eq_true,Bool.and_eq_true,Bool.and_eq_true,Bool.and_eq_true] at q
   obtain ⟨⟨⟨⟨⟨q1,q2⟩,q3⟩,q4⟩,q5⟩,q6⟩:=q
   have q1:=beq_iff_eq.mp q1
   have q2:=beq_iff_eq.mp q2
   have q3:cd.hasDel=false:=by simpa using q3
   have q6:=beq_iff_eq.mp q6
   subst q1 q2
   obtain ⟨nm,bs,mro,ns,qn,hd,sn,sub,ab,col,del⟩:=cd
   have hm:mro=_:=hm
   have q3:del=false:=q3
   subst hm q3
   obtain ⟨sl⟩:=sl
   have hs:sl=_:=hs
   subst hs
   exact ⟨bm,ns,nm,qn,bs,hd,sn,sub,ab,col,dd,k0,k1,k2,k3,k5,_,M.kin _ _ ho,.of_isNs (PySem.W.isNs_of_in M.kin q5),PySem.W.nsMap_none_of_in M.kin q5 q6,PySem.W.tail_of_in M.kin q4⟩
  ·cases q
 ·cases q
noncomputable def CJ:List (Str ⊕ Ex)->List A->az->R Unit
 | [],_,S=>.ok () S
 | .inl _::ps,τ,S=>CJ ps τ S
 | .inr e::ps,τ,S=>(e τ S).bind fun v S1=>match v with
  | .int i=>gd (i.natAbs.log2 < 64) (CJ ps τ S1)
  | _=>.no
noncomputable def GK:List (Str ⊕ Ex)->Bool
 | []=>true
 | .inl x::ps=>decide (x.length<=1000) && GK ps
 | .inr _::ps=>GK ps
noncomputable def wD (c:Str) (ps:List (Str ⊕ Ex)):Sm:=fun τ S=>.of (CJ ps τ S) fun _ S1=>.ex c S1
noncomputable def Ms (X:Cx):List (Str ⊕ Ex)->List (Str ⊕ TE)
 | []=>[]
 | .inl x::ps=>.inl x::Ms X ps
 | .inr e::ps=>.inr (tE X e)::Ms X ps
section
variable {X:Cx} {pos np cpos fp:Pos} {x:Str} {C:Addr} {e1 e2:Expr} {es:List Expr} {ps:List (Str ⊕ Ex)}
theorem m8 {ρ0:List Addr} {H0:Hp} {σ:L2.St} {τ:List A} {k:Hp->Prop} (c:Str) (hk:∀ ρ H S,Ext ρ0 ρ H0 H->Rel X.K ρ H S->XE X ρ0 H0 c S->k H):∀ (ps:List (Str ⊕ Ex)) (ρ:List Addr) (H:Hp) (S:az),GK ps=true->Ext ρ0 ρ H0 H->Rel X.K ρ H S->SR X.K ρ H τ σ ->
  (CJ ps τ S).post (fun _ S'=>XE X ρ0 H0 c S') (XE X ρ0 H0)->pq (Ms X ps) σ H k
 | [],ρ,H,S,_,e,R,r,h=>hk ρ H S e R h
 | .inl x::ps,ρ,H,S,ok,e,R,r,h=>by
  obtain ⟨hx,ok⟩:=Bool.and_eq_true_iff.mp ok
  exact ⟨of_decide_eq_true hx,m8 c hk ps ρ H S ok e R r h⟩
 | .inr a::ps,ρ,H,S,ok,e,R,r,h=>by
  refine ⟨ρ,S,τ,R,r,?_⟩
  have h:=aM h
  refine mQ h (fun v S1 h1 ρ1 H1 u e1 R1 v1=>?_) fun c' S' z=>z.ext e
  cases v with
  | int i=>
   obtain ⟨hi,h1⟩:=bu h1
   cases v1
   exact ⟨i,rfl,hi,m8 c hk ps ρ1 H1 S1 ok (e.trans e1) R1 (r.ext e1) h1⟩
  | _=>exact h1.elim
theorem Ay (hn:wK X.K x C) (hq:PySem.W.excIn X.K C Gb "ValueError.__new__" = true) (hh:X.A.handled=none) (hp:FParts X (e1::e2::es) (Ms X ps)) (hfs:GK ps=true:=by rfl) (hg:Gl X x:=by rfl) (hl:2000 * (e1::e2::es).length<=sizeLine:=by decide)
  (hs:starEach [.JoinedStr (e1::e2::es) fp] X.env=(false,eval (.JoinedStr (e1::e2::es) fp) X.env)::starEach [] X.env:=by rfl) (hpl:(backTo cpos (starEach [] X.env)).any (·.1)=false:=by rfl) (hd:(x == ("__debug__" : Str))=false:=by decide) :
  AS X (.Raise (some (.Call (.Name x np) [.JoinedStr (e1::e2::es) fp] [] cpos)) none pos) (wD x ps):=by
 intro pins s σ H D I ⟨ρ,S,τ,R,r,h⟩
 refine Et (Lb I.mod hn hq) PySem.F.excBase_ValueError hh (lX (K4 hp hl) rV hs) hg hs hpl hd pins s σ H D I ?_
 refine m8 (X:=X) (ρ0:=ρ) (H0:=H) x (fun ρ1 H1 S1 e1 R1 z y hy=>?_) ps ρ H S hfs .refl R r (of_post h)
 exact ⟨(show 1<=sizeLine by decide),z C ρ1 H1 hn e1 R1⟩
end
noncomputable def Gm (i:Nat):RS->RS
 | .nx τ S=>.nx (τ.set i .unb) S
 | .bk τ S=>.bk (τ.set i .unb) S
 | .ct τ S=>.ct (τ.set i .unb) S
 | .rt a S=>.rt a S
 | _=>.no
noncomputable def uE (i n:Nat) (cs:List Str) (c d:Sm):Sm:=fun τ S=>match c τ S with
 | .ex x S1=>if x∈cs then Gm i (d ((List.replicate n .unb).set i (.exn x)) S1) else .no
 | r=>r
theorem SR.unset {K:PySem.W.Frag} {ρ:List Addr} {H:Hp} {τ:List A} {σ:L2.St} {i:Nat} (s:SR K ρ H τ σ):SR K ρ H (τ.set i .unb) (σ.set i none):=by
 refine ⟨by simp [s.len],fun j b e=>?_⟩
 by_cases hj:j=i
 ·subst hj
  have hl:j < τ.length:=by
   have:=(List.getElem?_eq_some_iff.mp e).1
   simpa using this
  rw [List.getElem?_set_self hl] at e
  cases e
  exact .inl rfl
 ·rw [List.getElem?_set_ne (Ne.symm hj)] at e
  rw [List.getElem?_set_ne (Ne.symm hj)]
  exact s.at j b e
section
variable {X:Cx} {pos np hp:Pos} {y n:Str} {Dc:Addr} {i:Nat} {body suite:List Stmt} {b0:Stmt} {c d:Sm} {cs:List Str}
theorem J6 (hb:∀ pn' xe',z_ (X.p9 pn' xe') body c) (hh:∀ pn' e oe C,XO C oe->z_ (X.hand pn' e oe) (b0::suite) d) (hN:X.N.Nodup) (hD:wK X.K y Dc) (mD:L2.mroIn X.K Dc=some Gb) (hcs:∀ x∈cs,∃ C,wK X.K x C/\L2.mroIn X.K C=some (.ref Dc::Gb))
  {ln:Nat} (hln:X.N.length=ln:=by rfl) (hi:X.N[i]?=some n:=by rfl) (hlo:X.env.scope.names.lookup n=some .local:=by rfl) (hst:X.stack=X.env::X.outer:=by rfl) (hf:X.env.frame=some X.env.locals:=by rfl) (hex:X.ex=[]:=by rfl) (hg:Gl X y:=by rfl) (hdb:(y == ("__debug__" : Str))=false:=by decide) :
  AS X (.Try body [.ExceptHandler (some (.Name y np)) (some n) (b0::suite) hp] [] [] pos) (uE i ln cs c d):=by
 subst hln
 intro pins s σ H D I ⟨ρ,S,τ,R,r,h⟩
 refine wpAny_Try_except ?_
 have tl:τ.length=X.N.length:=by rw [r.len];exact I.len
 have hgo:∀ xe',(∀ x S1,c τ S=.ex x S1->XE (X.p9 (X.pn++pins) xe') ρ H x S1)->o4 (X.p9 (X.pn++pins) xe') ρ H D (c τ S):=fun xe' hx=>by
  have h:o4 X ρ H D (uE i X.N.length cs c d τ S):=h
  unfold uE at h
  cases hc:c τ S with
  | nx τ' S'=>rw [hc] at h;exact h
  | rt a S'=>rw [hc] at h;exact h
  | bk τ' S'=>rw [hc] at h;exact h
  | ct τ' S'=>rw [hc] at h;exact h
  | no=>rw [hc] at h;exact h
  | ex x S1=>exact hx x S1 hc
 refine wpAny_mono (hb (X.pn++pins) _ [] s σ H D (I.p9 _) ⟨ρ,S,τ,R,r,hgo _ fun x S1 hc C ρ1 H1 hn e1 R1=>?_⟩) (fun f s1 hs=>?_) fun e s1 z=>z
 ·refine ⟨hex,fun pins' σ' s' e I' R'=>?_⟩
  have h:o4 X ρ H D (uE i X.N.length cs c d τ S):=h
  unfold uE at h
  rw [hc] at h
  have h:o4 X ρ H D (if x∈cs then Gm i (d ((List.replicate X.N.length .unb).set i (.exn x)) S1) else .no):=h
  by_cases hx:x∈cs
  ·rw [if_pos hx] at h
   obtain ⟨C',hn',mC⟩:=hcs x hx
   have:C'=C:=by
    have z:=hn'.symm.trans hn
    injection z with z
    injection z with z
    injection z
   subst this
   have hm:X.mg y=some (.ref Dc):=PySem.W.mg_of I.mod.kin I.mod.glob hD
   refine A8 hst hf hex hN hi hlo hg hm mD (by decide) I' R' mC (by simp) (fun oe s6 xo hn0 I6=>?_) I.ok hdb
   obtain ⟨ex,Rn⟩:=R1.im (u:=.frz oe xu) hn0
   refine hh (X.pn++pins) e oe C' xo [] s6 _ _ (MV i D) I6 ⟨ρ1,S1,(List.replicate X.N.length .unb).set i (.exn x),Rn,SR.set ⟨?_,fun j b z=>?_⟩ (.exn hn' bJ xo),?_⟩
   ·rw [List.length_replicate];exact I'.len.symm
   ·rw [List.getElem?_replicate] at z
    split at z
    ·exact .inl (Option.some.inj z).symm
    ·cases z
   ·have e2:=e1.trans ex
    cases hd:d ((List.replicate X.N.length .unb).set i (.exn x)) S1 with
    | nx τ' S'=>rw [hd] at h;exact fun ρ' H' σ' e' R' r'=>h ρ' H' _ (e2.trans e') R' r'.unset
    | bk τ' S'=>rw [hd] at h;exact fun ρ' H' σ' e' R' r'=>h ρ' H' _ (e2.trans e') R' r'.unset
    | ct τ' S'=>rw [hd] at h;exact fun ρ' H' σ' e' R' r'=>h ρ' H' _ (e2.trans e') R' r'.unset
    | rt a S'=>rw [hd] at h;exact fun ρ' H' v e' R' r'=>h ρ' H' v (e2.trans e') R' r'
    | ex _ _=>rw [hd] at h;exact h.elim
    | no=>rw [hd] at h;exact h.elim
  ·rw [if_neg hx] at h;exact h.elim
 ·cases f with
  | next=>obtain ⟨σ',H',J,q⟩:=hs;exact wpAny_execs_nil ⟨σ',H',J.zq,q⟩
  | brk=>obtain ⟨σ',H',J,q⟩:=hs;exact ⟨σ',H',J.zq,q⟩
  | cont=>obtain ⟨σ',H',J,q⟩:=hs;exact ⟨σ',H',J.zq,q⟩
  | ret u=>obtain ⟨v,σ',H',J,rv,q⟩:=hs;exact ⟨v,σ',H',J.zq,rv,q⟩
end
noncomputable def mE (f:Str->Option Bool) (c:Ex):Ex:=fun τ S=>(c τ S).bind fun v S1=>match v with
 | .exn x=>opt (f x) fun b=>.ok (.bl b) S1
 | _=>.no
section
variable {X:Cx} {pos p py:Pos} {a:Expr} {y:Str} {vy:V} {cy:Value} {f:Str->Option Bool} {c:Ex}
theorem DE (ry:∀ u,RelV vy u->u=cy) (hf:∀ x b C,f x=some b->wK X.K x C->XCls X.K C/\(PySem.W.clsIn X.K C).isSome=true/\PySem.W.kitOne X.K (.ref C) cy=some b) :
  bF X (.builtin "isinstance") (fun xs H Q=>∃ ρ S x v b,Rel X.K ρ H S/\xs=[v,vy]/\AV X.K ρ H (.exn x) v/\f x=some b/\Q (.bl b) H):=by
 intro pins s σ H xs us Q I r ⟨ρ,S,x,v,b,R,exs,va,hb,q⟩
 subst exs
 obtain ⟨u,w',rfl,r1,r2⟩:=vals2 r
 have:=ry _ r2
 subst this
 cases va with
 | exn n h xo=>
  obtain ⟨g1,g2,g3⟩:=hf _ _ _ hb n
  cases (show u=Value.ref _ from r1)
  exact wk g1 g2 I h xo g3 fun tk=>⟨.bl b,H,I.tok tk,rfl,q⟩
theorem C_ (hy:PE X (.Name y py) (tC vy)) (ry:∀ u,RelV vy u->u=cy) (hf:∀ x b C,f x=some b->wK X.K x C->XCls X.K C/\(PySem.W.clsIn X.K C).isSome=true/\PySem.W.kitOne X.K (.ref C) cy=some b) (ha:AE X a c) (hm:X.mg "isinstance" = none) (hg:Gl X "isinstance" := by rfl)
  (he:starEach [a,.Name y py] X.env=(false,eval a X.env)::starEach [.Name y py] X.env:=by rfl) (he2:starEach [.Name y py] X.env=(false,eval (.Name y py) X.env)::starEach [] X.env:=by rfl) (hpl:(backTo pos (starEach [.Name y py] X.env)).any (·.1)=false:=by rfl) :
  AE X (.Call (.Name "isinstance" p) [a,.Name y py] [] pos) (mE f c):=
 PE.imp (tP (DE ry hf) hg hm bZ (lX ha (lX hy rV he2) he) (by decide) (by decide) he hpl) fun σ H Q h9=>by
  obtain ⟨ρ,S,τ,R,r,h⟩:=h9
  refine ⟨ρ,S,τ,R,r,aI (aM h) .refl fun v S1 h1 ρ1 H1 x e1 R1 v1=>?_⟩
  cases v with
  | exn n=>
   obtain ⟨b,hb,h1⟩:=aL h1
   exact ⟨ρ1,S1,n,x,b,R1,rfl,v1,hb,h1 ρ1 H1 _ e1 R1 (.bl b)⟩
  | _=>exact h1.elim
end
structure ExcK (K:PySem.W.Frag) (U:Addr) (c:Str) (C:Addr):Prop where
 n:wK K c C
 q:PySem.W.excIn K C Gb "ValueError.__new__" = true
 r:L2.mroIn K C=some (.ref U::Gb)
 x:XCls K C
 cl:(PySem.W.clsIn K C).isSome=true
 v:PySem.W.kitOne K (.ref C) (.type "ValueError")=some true
theorem pX:bootBuiltins "ValueError" = some (.type "ValueError"):=by decide +kernel
noncomputable def Ag (tb:List (Str×Bool)):Str->Option Bool:=fun x=>tb.lookup x
theorem Hu {K:PySem.W.Frag} {cy:Value} {tb:List (Str×Bool)} (h:∀ p∈tb,∃ C,wK K p.1 C/\XCls K C/\(PySem.W.clsIn K C).isSome=true/\PySem.W.kitOne K (.ref C) cy=some p.2):∀ x b C,Ag tb x=some b->wK K x C->XCls K C/\(PySem.W.clsIn K C).isSome=true/\PySem.W.kitOne K (.ref C) cy=some b:=fun x b C e n=>by
 obtain ⟨C',n',g⟩:=h (x,b) (PySem.mem_of_lookup e)
 have:C'=C:=by
  have z:=n'.symm.trans n
  injection z with z
  injection z with z
  injection z
 subst this
 exact g
section
variable {X:Cx} {pos p py:Pos} {a:Expr} {y:Str} {Cy:Addr} {tb:List (Str×Bool)} {c:Ex}
theorem jJ (hm:X.mg y=some (.ref Cy)) (h:∀ p∈tb,∃ C,wK X.K p.1 C/\XCls X.K C/\(PySem.W.clsIn X.K C).isSome=true/\PySem.W.kitOne X.K (.ref C) (.ref Cy)=some p.2) (ha:AE X a c) (hi:X.mg "isinstance" = none) (hg:Gl X "isinstance" := by rfl) (hgy:Gl X y:=by rfl) (hdb:(y == ("__debug__" : Str))=false:=by decide)
  (he:starEach [a,.Name y py] X.env=(false,eval a X.env)::starEach [.Name y py] X.env:=by rfl) (he2:starEach [.Name y py] X.env=(false,eval (.Name y py) X.env)::starEach [] X.env:=by rfl) (hpl:(backTo pos (starEach [.Name y py] X.env)).any (·.1)=false:=by rfl) :
  AE X (.Call (.Name "isinstance" p) [a,.Name y py] [] pos) (mE (Ag tb) c):=C_ (vy:=.ref Cy) (cy:=.ref Cy) (Gf hgy hm rfl hdb) (fun u r=>r) (Hu h) ha hi hg he he2 hpl
theorem I_ (hm:X.mg "ValueError" = none) (h:∀ p∈tb,∃ C,wK X.K p.1 C/\XCls X.K C/\(PySem.W.clsIn X.K C).isSome=true/\PySem.W.kitOne X.K (.ref C) (.type "ValueError")=some p.2) (ha:AE X a c) (hi:X.mg "isinstance" = none) (hg:Gl X "isinstance" := by rfl) (hgy:Gl X "ValueError" := by rfl)
  (he:starEach [a,.Name "ValueError" py] X.env=(false,eval a X.env)::starEach [.Name "ValueError" py] X.env:=by rfl) (he2:starEach [.Name "ValueError" py] X.env=(false,eval (.Name "ValueError" py) X.env)::starEach [] X.env:=by rfl) (hpl:(backTo pos (starEach [.Name "ValueError" py] X.env)).any (·.1)=false:=by rfl) :
  AE X (.Call (.Name "isinstance" p) [a,.Name "ValueError" py] [] pos) (mE (Ag tb) c):=C_ (vy:=.ty "ValueError") (cy:=.type "ValueError") (x_ hgy hm pX rfl (by decide) (by decide)) (fun u r=>r) (Hu h) ha hi hg he he2 hpl
end
section
variable {P:Program} {w:World} {K:PySem.W.Frag} {mg:Str->Option Value} {base:Heap}
theorem N5 {x qual:Str} {st:Stmt} {f:Addr} {fd:FuncData} {N ps:List Str} {k:Nat} {m:Sm} (F:Fun K x qual st f fd) (Sc:FnScope N ps (aC st))
  (body:∀ (cdv:Value) (A:Around) (outer:List Env) (s:Shared) (H:Hp) (e:Addr) (oe:Obj) (C:Addr),qx k (A.deeper (envOfC qual (aC st) s.heap.objs.size f cdv))->A.handled=some (.ref e)->H e=some (.frz oe xu)->XO C oe->z_ (Mw P w K mg base N qual (aC st) f cdv A outer s H) (aR st) m) :
  FnOkH P w K mg base (k+1) f fd ps (j8 K ps.length (c_ N m)):=by
 refine Jt F Sc (fun vs H Q E h=>h.1) fun cdv B outer s H vs Q e oe C hr hx ⟨hl,ρ,S,as,a,S',R,va,hF,q⟩=>⟨_,body cdv B outer s H e oe C hr hx.hh hx.h0 hx.xo,ρ,S,_,R,sG va N,?_⟩
 unfold c_ at hF
 cases hm:m (as++List.replicate (N.length - as.length) .unb) S with
 | rt b S2=>rw [hm] at hF;cases hF;exact q
 | nx τ S2=>rw [hm] at hF;cases hF;exact fun ρ' H' σ' e R' _=>q ρ' H' _ e R' .non
 | bk τ S2=>rw [hm] at hF;cases hF
 | ct τ S2=>rw [hm] at hF;cases hF
 | ex c S2=>rw [hm] at hF;cases hF
 | no=>rw [hm] at hF;cases hF
end
noncomputable abbrev IB (P:Program) (w:World) (K:PySem.W.Frag) (mg:Str->Option Value) (base:Heap) (k:Nat) (x:Str) (ps:List Str) (F:List A->az->R A):Prop:=NB P w K mg base k x ps (j8 K ps.length F)
theorem Jf {X:Cx} {pos p:Pos} {a:Expr} {es:List Expr} {x:Str} {ps:List Str} {k:Nat} {F:List A->az->R A} {d:gB} {e C:Addr} {oe:Obj} (G:IB X.prog X.w X.K X.mg X.base k x ps F) (hr:qx k X.A) (hh:X.A.handled=some (.ref e)) (h0:X.H₀ e=some (.frz oe xu)) (xo:XO C oe) (ha:AL X (a::es) d) (hl:∀ τ S as S',d τ S=.ok as S'->as.length=ps.length) (hg:Gl X x:=by rfl) (hdb:(x == ("__debug__" : Str))=false:=by decide)
  (hs:starEach (a::es) X.env=(false,eval a X.env)::starEach es X.env:=by rfl) (hplain:(backTo pos (starEach es X.env)).any (·.1)=false:=by rfl):AE X (.Call (.Name x p) (a::es) [] pos) (eFn F d):=
 PE.imp (JO G hr hh h0 xo ha hg hdb hs hplain) fun σ H Q h9=>by
  obtain ⟨ρ,S,τ,R,r,h⟩:=h9
  refine ⟨ρ,S,τ,R,r,?_⟩
  have hq:=aM h
  cases hd:d τ S with
  | no=>rw [hd] at hq;exact hq
  | ex c S1=>rw [hd] at hq;exact hq
  | ok as S1=>
   rw [hd] at hq
   intro ρ1 H1 vs e1 R1 v1
   rw [List.append_nil]
   refine ⟨by rw [<- v1.length];exact hl τ S as S1 hd,ρ1,S1,as,?_⟩
   have hq:Am.R.post (match F as S1 with
    | .ok a S2=>.ok a S2
    | _=>.no) (qo X ρ H Q) (XE X ρ H):=hq
   cases hF:F as S1 with
   | ok a S2=>rw [hF] at hq;exact ⟨a,S2,R1,v1,rfl,fun ρ2 H2 v e2=>hq ρ2 H2 v (e1.trans e2)⟩
   | ex c S2=>rw [hF] at hq;exact hq.elim
   | no=>rw [hF] at hq;exact hq.elim
noncomputable def LU (F:List A->az->R A) (d:gB):Ex:=fun τ S=>match d τ S with
 | .ok as S1=>F as S1
 | _=>.no
section
variable {X:Cx} {pos p:Pos} {e:Expr} {es:List Expr} {x:Str} {ps:List Str} {k:Nat} {F:List A->az->R A} {d:gB}
noncomputable def LN (t:Te) (c d:Sm):Sm:=fun τ S=>match t τ S with
 | .ok true S1=>c τ S1
 | .ok false S1=>d τ S1
 | _=>.no
end
noncomputable def HG (i:Nat) (cs:List Str) (c d:Sm):Sm:=fun τ S=>match c τ S with
 | .ex x S1=>if x∈cs then Gm i (d (τ.set i (.exn x)) S1) else .no
 | r=>r
section
variable {X:Cx} {pos np hp:Pos} {y n:Str} {Dc:Addr} {i:Nat} {suite:List Stmt} {b b0:Stmt} {c d:Sm} {cs:List Str}
end
end Am
namespace L2
open PySem PySem.Spec PyProof.Rows
noncomputable def HX (e:Addr) (oe:Obj) (Y:Cx):Prop:=Y.A.handled=some (.ref e)/\Y.H₀ e=some (.frz oe xu)
theorem wL {P:Program} {w:World} {K:PySem.W.Frag} {tg:Expr} {e C:Addr} {oe:Obj} (ho:XO C oe) (a it:Addr):TurnG (HX e oe) P w K tg (K8 K a) [it] it (fun i h=>h.IsListIter it a i) where
 obj:=(mL (P:=P) (w:=w) (K:=K) (tg:=tg) a it).obj
 keep:=(mL (P:=P) (w:=w) (K:=K) (tg:=tg) a it).keep
 item:=by
  intro X hP hw hK hc i pins s σ H E I hf st hg
  subst hP hw hK
  obtain ⟨xs,x,hq,hx⟩:=hg
  obtain ⟨its,rv,p,hz⟩:=I.list hq
  obtain ⟨u,hu,ru⟩:=rv.get hx
  obtain ⟨f0,f1,f2,f3,f4,f5⟩:=hf it (by simp)
  refine wpAny_pyNext_list_item st p.isList (x:=u) (by simpa using hu) fun h' st' sb=>?_
  have I1:Inv X pins σ H { s with heap:=h' }:=I.turned (t':=s.toks) (fun b o hb e=>(sb.2 b hb).trans e) f0 f1 f3 f4 f5
  obtain ⟨o,e,c,d⟩:=id st'
  exact ⟨u,rfl,uo (s:={ s with heap:=h' }) e c d (by decide) ⟨x,H,I1,ru,⟨rfl,fun ys hy=>by rw [I.uy hy hq];exact hx⟩,st',fun b hb=>(hf b hb).1⟩⟩
 done:=by
  intro X hP hw hK hc i pins s σ H E I hf st hg
  subst hP hw hK
  obtain ⟨xs,hq,hx⟩:=hg
  obtain ⟨its,rv,p,hz⟩:=I.list hq
  obtain ⟨f0,f1,f2,f3,f4,f5⟩:=hf it (by simp)
  obtain ⟨vs,d1,d2⟩:=ho.ctx
  have fe:=I.base.frzs e oe xu hc.2
  obtain ⟨ge,_⟩:=I.hok e _ fe
  have hl:=rv.length
  exact wj hc.1 ge d1 d2 (fun z=>by rw [z,f0] at fe;cases fe) st p.isList (by simp;omega) fun h' eb=>⟨rfl,I.turned (t':=s.toks) (fun b o hb e=>eb b o hb e) f0 f1 f3 f4 f5⟩
 self:=fun _ _ _ _ _ st h=>wpAny_pyIter_listiter st h
theorem tH {X:Cx} {tg:Expr} {e C:Addr} {oe:Obj} (ho:XO C oe) {l:Expr} {tl:TE} (hl:PE X l tl):LW (HX e oe) X tg l (Ie X.K tl):=by
 intro pins s σ H R I h
 refine eS (hl pins s σ H _ I h) fun v s1 h9=>?_
 obtain ⟨x,H1,I1,r1,q1⟩:=h9
 obtain ⟨a,e,⟨xs,hq⟩,q⟩:=q1
 subst e
 cases r1
 obtain ⟨its,rv,p,hz⟩:=I1.list hq
 refine wpAny_pyIter_list p.isList ?_
 refine ⟨s1.heap.objs.size,[s1.heap.objs.size],_,_,H1,rfl,I1.kept (t':=s1.toks) fun b o e=>Heap.get?_push_of_some _ e,wL ho a _,⟨_,Heap.get?_push_size _ rfl,rfl,rfl⟩,fun b hb=>?_,q⟩
 have e:b=s1.heap.objs.size:=by simpa using hb
 subst e
 exact I1.zM (Nat.le_refl _) (I1.hok.fresh (Nat.le_refl _))
end L2
namespace Am
open PySem PySem.Spec PyProof.Rows L2
noncomputable def qJ (c:Ex):Ic:=fun τ S=>(c τ S).bind fun a S1=>match a with
 | .ref n=>opt (au S1 n) fun xs=>.ok (b9 n xs.length) S1
 | _=>.no
theorem Gj {X:Cx} {tg l:Expr} {e C:Addr} {oe:Obj} (ho:XO C oe) {c:Ex} (he:AE X l c):LW (HX e oe) X tg l (tI X (qJ c)):=fun pins s σ H Q I h9=>by
 obtain ⟨ρ,S,τ,R,r,h⟩:=h9
 have hb:=aM h
 cases hc:c τ S with
 | no=>rw [hc] at hb;exact hb.elim
 | ex x S1=>
  rw [hc] at hb
  exact tH ho he pins s σ H Q I ⟨ρ,S,τ,R,r,by rw [hc];exact hb⟩
 | ok a S1=>
  rw [hc] at hb
  cases a with
  | ref n=>
   obtain ⟨xs,hn,hb⟩:=aL hb
   refine tH ho he pins s σ H Q I ⟨ρ,S,τ,R,r,?_⟩
   rw [hc]
   intro ρ1 H1 x e1 R1 v1
   cases v1 with
   | ref hp=>
    obtain ⟨vs,h1,r1⟩:=R1.lst hp (aU hn)
    exact ⟨_,rfl,⟨_,ir.of h1⟩,hb ρ1 H1 _ e1 R1 (Dk hp)⟩
  | _=>exact hb.elim
theorem Eg {X:Cx} {tg iter elt:Expr} {ifs:List Expr} {scope:Scope} {pos:Pos} {N:List Str} {cap:List (Option Nat)} {g:Tg} {t:Te} {c ci:Ex} {e C:Addr} {oe:Obj} (hh:X.A.handled=some (.ref e)) (h0:X.H₀ e=some (.frz oe xu)) (ho:XO C oe)
  (Sc:CpScope X scope N cap) (hi:AE X iter ci) (hg:∀ C s₀ H₀ ex,AG (dX X scope N C s₀ H₀ ex) tg g) (ht:∀ C s₀ H₀ ex,Lz (dX X scope N C s₀ H₀ ex) ifs t) (he:∀ C s₀ H₀ ex,AE (dX X scope N C s₀ H₀ ex) elt c)
  (hs:∀ x,foldedSetIterable iter X.env x=pure x:=by intro _;rfl):AE X (.ListComp elt [⟨tg,iter,ifs,0⟩] scope pos) (bQ cap (qJ ci) g t c):=
 PE.imp (Bw Sc (fun _ _ _ _ hk=>⟨hh,hk e oe xu h0⟩) (Gj ho hi) (g:=Lh X.K g) (tc:=KD X.K t) (te:=K_ X.K c) (fun C s₀ H₀ ex=>(hg C s₀ H₀ ex).g0 rfl) (fun C s₀ H₀ ex=>ht C s₀ H₀ ex) (fun C s₀ H₀ ex=>(he C s₀ H₀ ex).e0 rfl) hs) pF
theorem A2 {K:PySem.W.Frag} {H:Hp} {a:Addr} {ns:List Int} {F:List A->az->R A} (hO:FP H) (hS:ir K H a (ns.map V.int)) (h:∃ S',F [.frz (ns.map .int)] []=.ok (.bl true) S'):j8 K 1 F [.ref a] H (fun v _=>v=.bl true) fun _ _ _=>False:=by
 obtain ⟨S',h⟩:=h
 have fz:Fz K H a (ns.map V.int):=by
  rcases hS with (h | ⟨o,h⟩) | h
  ·rcases hO a with z | ⟨ob,xs,z⟩
   ·rw [h] at z;cases z
   ·rw [h] at z;cases z
  ·exact .inl ⟨o,h⟩
  ·exact .inr h
 exact ⟨rfl,[],[],_,_,S',⟨rfl,List.nodup_nil,fun n a o h=>by simp at h⟩,.cons (.frz fz (jG ns)) .nil,h,fun ρ' H' v _ _ hv=>Bo hv⟩
section
variable {P:Program} {w:World} {K:PySem.W.Frag} {mg:Str->Option Value} {base:Heap} {f:Addr} {fd:FuncData} {ps:List Str} {k n:Nat}
end
theorem Cf {P:List Value->Prop} (h:∀ a0,P [a0]):∀ us:List Value,us.length=1->P us
 | [_],_=>h _
theorem vt {P:List Value->Prop} (h:∀ a0 a1,P [a0,a1]):∀ us:List Value,us.length=2->P us
 | [_,_],_=>h _ _
theorem wF {n:Nat} {us:List Value} (h:us.length=n+1):∃ a t,us=a::t/\t.length=n:=by
 cases us with
 | nil=>simp at h
 | cons a t=>exact ⟨a,t,rfl,by simpa using h⟩
theorem MJ {P:List Value->Prop} (h:∀ a0 a1 a2,P [a0,a1,a2]):∀ us:List Value,us.length=3->P us:=fun us e=>by
 obtain ⟨a0,t0,rfl,e0⟩:=wF e
 obtain ⟨a1,t1,rfl,e1⟩:=wF e0
 obtain ⟨a2,t2,rfl,e2⟩:=wF e1
 cases List.length_eq_zero_iff.mp e2
 exact h _ _ _
theorem Ob {P:List Value->Prop} (h:∀ a0 a1 a2 a3,P [a0,a1,a2,a3]):∀ us:List Value,us.length=4->P us:=fun us e=>by
 obtain ⟨a0,t0,rfl,e0⟩:=wF e
 obtain ⟨a1,t1,rfl,e1⟩:=wF e0
 obtain ⟨a2,t2,rfl,e2⟩:=wF e1
 obtain ⟨a3,t3,rfl,e3⟩:=wF e2
 cases List.length_eq_zero_iff.mp e3
 exact h _ _ _ _
end Am
namespace Am
open PySem L2
section
variable {α β:Type} {a b:A} {S S1 S2:az} {τ:List A} {x:α}
@[simp] theorem R.iQ {f:α->az->R β}:(R.ok x S).bind f=f x S:=rfl
@[simp] theorem R.xC {f:α->az->R β} {c:Str}:(R.ex c S:R α).bind f=.ex c S:=rfl
@[simp] theorem R.cO {f:α->az->R β}:(R.ok x S).jj f=f x S:=rfl
@[simp] theorem RS.of_ok {f:α->az->RS}:RS.of (R.ok x S) f=f x S:=rfl
@[simp] theorem RS.HZ {f:α->az->RS} {c:Str}:RS.of (R.ex c S:R α) f=.ex c S:=rfl
@[simp] theorem cD {f:β->R α} {y:β}:opt (some y) f=f y:=rfl
@[simp] theorem zl {r:R α}:gd True r=r:=if_pos trivial
theorem gJ {c:Prop} [Decidable c] {r:R α} (h:c):gd c r=r:=if_pos h
@[simp] theorem zB {i:Nat}:ak i τ S=bif (τ.getD i .unb).gp then .no else .ok (τ.getD i .unb) S:=by unfold ak;cases (τ.getD i .unb).gp <;> rfl
@[simp] theorem yL {xs:List A}:A.gp (.tup xs)=false:=rfl
@[simp] theorem yp {xs:List A}:A.gp (.frz xs)=false:=rfl
@[simp] theorem zv {i:Int}:A.gp (.int i)=false:=rfl
@[simp] theorem DH {i:Bool}:A.gp (.bl i)=false:=rfl
@[simp] theorem wR {i:Str}:A.gp (.str i)=false:=rfl
@[simp] theorem yv {i:Nat}:A.gp (.ref i)=false:=rfl
@[simp] theorem yd:A.gp .non=false:=rfl
@[simp] theorem yR {i j:Int}:A.gp (.rng i j)=false:=rfl
@[simp] theorem zw {c:Str}:A.gp (.exn c)=false:=rfl
@[simp] theorem Ik:eC a τ S=.ok a S:=rfl
noncomputable def Lu (f:A->A->az->R A) (cb:Ex) (τ:List A) (a:A) (S:az):R A:=(cb τ S).bind (f a)
@[simp] theorem zb {f:A->A->az->R A} {cb:Ex}:Lu f cb τ a S=(cb τ S).bind (f a):=rfl
@[simp] theorem yE {f:A->A->az->R A} {ca cb:Ex}:aJ f ca cb τ S=(ca τ S).bind (Lu f cb τ):=rfl
@[simp] theorem CT {f:A->az->R A} {ca:Ex}:Mv f ca τ S=(ca τ S).bind f:=rfl
@[simp] theorem yj {c:Ex}:gC c τ S=(c τ S).bind fun a S1=>opt (a.Jp S1) fun b=>.ok b S1:=rfl
noncomputable def aB (a:A) (S:az):R Bool:=match a with
 | .bl b=>.ok b S
 | _=>.no
@[simp] theorem HK {b:Bool}:aB (.bl b) S=.ok b S:=rfl
@[simp] theorem BC {c:Ex}:kh c τ S=(c τ S).bind aB:=rfl
@[simp] theorem zy {c:Te}:jS c τ S=(c τ S).bind fun b S1=>.ok (!b) S1:=rfl
noncomputable def Jq (d:Te) (τ:List A) (b:Bool) (S:az):R Bool:=match b with | true=>d τ S | false=>.ok false S
noncomputable def MH (d:Te) (τ:List A) (b:Bool) (S:az):R Bool:=match b with | true=>.ok true S | false=>d τ S
@[simp] theorem Bf {d:Te}:Jq d τ true S=d τ S:=rfl
@[simp] theorem Ek {d:Te}:Jq d τ false S=.ok false S:=rfl
@[simp] theorem Hh {d:Te}:MH d τ true S=.ok true S:=rfl
@[simp] theorem HA {d:Te}:MH d τ false S=d τ S:=rfl
@[simp] theorem xV {c d:Te}:rO c d τ S=(c τ S).bind (Jq d τ):=rfl
@[simp] theorem Cd {c d:Te}:tD c d τ S=(c τ S).bind (MH d τ):=rfl
@[simp] theorem zm:g_ τ S=.ok true S:=rfl
noncomputable def Cm (d:Ex) (τ:List A) (a:A) (S:az):R A:=match a with | .bl true=>d τ S | .bl false=>.ok (.bl false) S | _=>.no
noncomputable def JA (d:Ex) (τ:List A) (a:A) (S:az):R A:=match a with | .bl true=>.ok (.bl true) S | .bl false=>d τ S | _=>.no
@[simp] theorem yc {d:Ex}:Cm d τ (.bl true) S=d τ S:=rfl
@[simp] theorem zh {d:Ex}:Cm d τ (.bl false) S=.ok (.bl false) S:=rfl
@[simp] theorem Bs {d:Ex}:JA d τ (.bl true) S=.ok (.bl true) S:=rfl
@[simp] theorem BK {d:Ex}:JA d τ (.bl false) S=d τ S:=rfl
@[simp] theorem ye {c d:Ex}:Ga c d τ S=(c τ S).bind (Cm d τ):=by
 unfold Ga
 cases c τ S with
 | ok a S1=>cases a <;> first | rfl | (rename_i b;cases b <;> rfl)
 | _=>rfl
@[simp] theorem Ef {c d:Ex}:NW c d τ S=(c τ S).bind (JA d τ):=by
 unfold NW
 cases c τ S with
 | ok a S1=>cases a <;> first | rfl | (rename_i b;cases b <;> rfl)
 | _=>rfl
noncomputable def Ht (a:A) (S:az):R A:=match a with | .bl b=>.ok (.bl !b) S | _=>.no
@[simp] theorem uC {b:Bool}:Ht (.bl b) S=.ok (.bl !b) S:=rfl
@[simp] theorem zu {c:Ex}:MZ c τ S=(c τ S).bind Ht:=rfl
noncomputable def IP (c d:Ex) (τ:List A) (b:Bool) (S:az):R A:=match b with | true=>c τ S | false=>d τ S
@[simp] theorem Dz {c d:Ex}:IP c d τ true S=c τ S:=rfl
@[simp] theorem D_ {c d:Ex}:IP c d τ false S=d τ S:=rfl
@[simp] theorem CU {t:Te} {c d:Ex}:N8 t c d τ S=(t τ S).bind (IP c d τ):=rfl
@[simp] theorem ym:aH τ S=.ok [] S:=rfl
noncomputable def vW (a:A) (as:List A) (S:az):R (List A):=.ok (a::as) S
noncomputable def G9 (d:gB) (τ:List A) (a:A) (S:az):R (List A):=(d τ S).bind (vW a)
@[simp] theorem qX {as:List A}:vW a as S=.ok (a::as) S:=rfl
@[simp] theorem tM {d:gB}:G9 d τ a S=(d τ S).bind (vW a):=rfl
@[simp] theorem uG {c:Ex} {d:gB}:aj c d τ S=(c τ S).bind (G9 d τ):=rfl
@[simp] theorem zx {d:gB}:fm d τ S=(d τ S).bind fun as S1=>gd (as.length<=sizeLine) (.ok (.tup as) S1):=rfl
@[simp] theorem xD {d:gB}:fJ d τ S=(d τ S).bind newL:=rfl
theorem bC {as:List A} (h:as.length<=16777216):newL as S=.ok (.ref S.length) (S++[.lst as]):=gJ (by rw [sizeLine_eq];exact h)
@[simp] theorem uR {f:List A->az->R A} {d:gB}:bB f d τ S=(d τ S).bind f:=rfl
noncomputable def Nj (r:R A):R A:=match r with
 | .ok a S=>.ok a S
 | _=>.no
@[simp] theorem DY:Nj (.ok a S)=.ok a S:=rfl
noncomputable def NT (f:List A->az->R A) (as:List A) (S:az):R A:=Nj (f as S)
@[simp] theorem DC {f:List A->az->R A} {as:List A}:NT f as S=Nj (f as S):=rfl
@[simp] theorem D4 {f:List A->az->R A} {d:gB}:eFn f d τ S=(d τ S).bind (NT f):=rfl
@[simp] theorem HJ {g:A->az->R A}:f1 g [a] S=g a S:=rfl
@[simp] theorem HE {g:A->A->az->R A}:f2 g [a,b] S=g a b S:=rfl
noncomputable def Ks (h:Pt) (τ:List A) (a:A) (l:Option Int) (S:az):R A:=(h τ S).bind (Mp a l)
noncomputable def NF (l h:Pt) (τ:List A) (a:A) (S:az):R A:=(l τ S).bind (Ks h τ a)
@[simp] theorem zk {h:Pt} {l:Option Int}:Ks h τ a l S=(h τ S).bind (Mp a l):=rfl
@[simp] theorem Bm {l h:Pt}:NF l h τ a S=(l τ S).bind (Ks h τ a):=rfl
@[simp] theorem CC {c:Ex} {l h:Pt}:N_ c l h τ S=(c τ S).bind (NF l h τ):=rfl
@[simp] theorem uf:LO τ S=.ok none S:=rfl
noncomputable def NV (a:A) (S:az):R (Option Int):=match a with
 | .int i=>.ok (some i) S
 | _=>.no
@[simp] theorem xH {i:Int}:NV (.int i) S=.ok (some i) S:=rfl
@[simp] theorem uq {c:Ex}:L6 c τ S=(c τ S).bind NV:=rfl
noncomputable def Jc (f:A->List A->az->R A) (d:gB) (τ:List A) (o:A) (S:az) (_:List A):R A:=(d τ S).bind (f o)
noncomputable def NJ (f:A->List A->az->R A) (d:gB) (τ:List A) (o:A) (S:az):R A:=opt (o.lst? S) (Jc f d τ o S)
@[simp] theorem zg {f:A->List A->az->R A} {d:gB} {xs:List A}:Jc f d τ a S xs=(d τ S).bind (f a):=rfl
@[simp] theorem Bp {f:A->List A->az->R A} {d:gB}:NJ f d τ a S=opt (a.lst? S) (Jc f d τ a S):=rfl
@[simp] theorem Cz {f:A->List A->az->R A} {c:Ex} {d:gB}:Kq f c d τ S=(c τ S).bind (NJ f d τ):=rfl
@[simp] theorem xJ {f:A->List A->az->R A} {c:Ex}:Nx f c τ S=(c τ S).bind fun o S1=>opt (o.lst? S1) fun _=>f o [] S1:=rfl
@[simp] theorem lst?_ref {n:Nat}:A.lst? S (.ref n)=au S n:=rfl
noncomputable def RS.seq (r:RS) (d:Sm):RS:=match r with
 | .nx τ S=>d τ S
 | r=>r
@[simp] theorem RS.C2 {d:Sm}:RS.seq (.nx τ S) d=d τ S:=rfl
@[simp] theorem RS.C7 {d:Sm}:RS.seq (.rt a S) d=.rt a S:=rfl
@[simp] theorem RS.B3 {d:Sm} {c:Str}:RS.seq (.ex c S) d=.ex c S:=rfl
@[simp] theorem RS.Ea {d:Sm}:RS.seq (.bk τ S) d=.bk τ S:=rfl
@[simp] theorem RS.BX {d:Sm}:RS.seq (.ct τ S) d=.ct τ S:=rfl
@[simp] theorem zE {c d:Sm}:a_ c d τ S=RS.seq (c τ S) d:=by unfold a_ RS.seq;cases c τ S <;> rfl
@[simp] theorem zC:fO τ S=.nx τ S:=rfl
@[simp] theorem qS:Kz τ S=.bk τ S:=rfl
@[simp] theorem uQ:L7 τ S=.ct τ S:=rfl
@[simp] theorem uz {e:Ex}:eF e τ S=RS.of (e τ S) fun _ S1=>.nx τ S1:=rfl
@[simp] theorem xj {e:Ex}:cF e τ S=RS.of (e τ S) .rt:=rfl
@[simp] theorem vg:K5 τ S=.rt .non S:=rfl
noncomputable def Mu (c d:Sm) (τ:List A) (b:Bool) (S:az):RS:=match b with | true=>c τ S | false=>d τ S
@[simp] theorem Hz {c d:Sm}:Mu c d τ true S=c τ S:=rfl
@[simp] theorem Ho {c d:Sm}:Mu c d τ false S=d τ S:=rfl
@[simp] theorem EG {t:Te} {c d:Sm}:nK t c d τ S=RS.of (t τ S) (Mu c d τ):=rfl
noncomputable def KL (g:Tg) (τ:List A) (a:A) (S:az):RS:=RS.of (g a τ S) .nx
@[simp] theorem yb {g:Tg}:KL g τ a S=RS.of (g a τ S) .nx:=rfl
@[simp] theorem yH {e:Ex} {g:Tg}:bD e g τ S=RS.of (e τ S) (KL g τ):=rfl
@[simp] theorem EN {i:Nat}:bK i a τ S=.ok (τ.set i a) S:=rfl
noncomputable def Jx (a o:A) (τ:List A) (i:A) (S:az):R (List A):=(ur o i a S).bind fun _ S3=>.ok τ S3
noncomputable def NP (ci:Ex) (τ:List A) (a o:A) (S:az):R (List A):=(ci τ S).bind (Jx a o τ)
@[simp] theorem xx {o i:A}:Jx a o τ i S=(ur o i a S).bind fun _ S3=>.ok τ S3:=rfl
@[simp] theorem DO {ci:Ex} {o:A}:NP ci τ a o S=(ci τ S).bind (Jx a o τ):=rfl
@[simp] theorem Bg {co ci:Ex}:Mm co ci a τ S=(co τ S).bind (NP ci τ a):=rfl
@[simp] theorem DL {n:Nat} {gs:E1} {xs:List A}:qa n gs (.tup xs) τ S=gd (xs.length=n) (gs xs τ S):=rfl
@[simp] theorem Bk:pY [] τ S=.ok τ S:=rfl
@[simp] theorem BY {g:Tg} {gs:E1} {as:List A}:iL g gs (a::as) τ S=(g a τ S).bind (gs as):=rfl
noncomputable def NK (i j:Nat) (τ:List A) (as:List A) (S:az):RS:=match as with
 | [a,b]=>.nx ((τ.set i a).set j b) S
 | _=>.no
@[simp] theorem B_ {i j:Nat}:NK i j τ [a,b] S=.nx ((τ.set i a).set j b) S:=rfl
@[simp] theorem xM {i j:Nat} {c:gB}:MI i j c τ S=RS.of (c τ S) (NK i j τ):=rfl
noncomputable def CI (i:Nat) (τ:List A) (c:A) (S:az):RS:=.nx (τ.set i c) S
noncomputable def Li (i:Nat) (f:A->A->az->R A) (τ:List A) (b:A) (S:az):RS:=.of (f (τ.getD i .unb) b S) (CI i τ)
@[simp] theorem tN {i:Nat}:CI i τ a S=.nx (τ.set i a) S:=rfl
@[simp] theorem yi {i:Nat} {f:A->A->az->R A}:Li i f τ a S=.of (f (τ.getD i .unb) a S) (CI i τ):=rfl
@[simp] theorem zD {i:Nat} {f:A->A->az->R A} {e:Ex}:KR i f e τ S=bif (τ.getD i .unb).gp then .no else .of (e τ S) (Li i f τ):=by
 unfold KR;cases (τ.getD i .unb).gp <;> rfl
noncomputable def Nf (o i:A) (τ:List A) (z:A) (S:az):RS:=.of (ur o i z S) fun _ S6=>.nx τ S6
noncomputable def MU (f:A->A->az->R A) (o i x:A) (τ:List A) (y:A) (S:az):RS:=.of (f x y S) (Nf o i τ)
noncomputable def MY (ce:Ex) (f:A->A->az->R A) (o i:A) (τ:List A) (x:A) (S:az):RS:=.of (ce τ S) (MU f o i x τ)
noncomputable def Ls (ce:Ex) (f:A->A->az->R A) (o:A) (τ:List A) (i:A) (S:az):RS:=.of (FO o i S) (MY ce f o i τ)
noncomputable def Mr (ci ce:Ex) (f:A->A->az->R A) (τ:List A) (o:A) (S:az):RS:=.of (ci τ S) (Ls ce f o τ)
@[simp] theorem Ez {o i:A}:Nf o i τ a S=.of (ur o i a S) fun _ S6=>.nx τ S6:=rfl
@[simp] theorem Ep {f:A->A->az->R A} {o i x:A}:MU f o i x τ a S=.of (f x a S) (Nf o i τ):=rfl
@[simp] theorem B5 {ce:Ex} {f:A->A->az->R A} {o i:A}:MY ce f o i τ a S=.of (ce τ S) (MU f o i a τ):=rfl
@[simp] theorem A_ {ce:Ex} {f:A->A->az->R A} {o:A}:Ls ce f o τ a S=.of (FO o a S) (MY ce f o a τ):=rfl
@[simp] theorem Er {ci ce:Ex} {f:A->A->az->R A}:Mr ci ce f τ a S=.of (ci τ S) (Ls ce f a τ):=rfl
@[simp] theorem tK {co ci ce:Ex} {f:A->A->az->R A}:KW co ci ce f τ S=RS.of (co τ S) (Mr ci ce f τ):=rfl
noncomputable def RS.end (r:RS):R A:=match r with
 | .rt a S'=>.ok a S'
 | .nx _ S'=>.ok .non S'
 | .ex c S'=>.ex c S'
 | _=>.no
@[simp] theorem RS.Em:RS.end (.rt a S)=.ok a S:=rfl
@[simp] theorem RS.Dg:RS.end (.nx τ S)=.ok .non S:=rfl
@[simp] theorem RS.Cb {c:Str}:RS.end (.ex c S)=.ex c S:=rfl
theorem oh {N:List Str} {m:Sm} {as:List A}:c_ N m as S=RS.end (m (as++List.replicate (N.length - as.length) .unb) S):=by
 unfold c_ RS.end;cases m (as++List.replicate (N.length - as.length) .unb) S <;> rfl
@[simp] theorem Bh {i j:Int}:cI (.int i) (.int j) S=.ok (.int (i+j)) S:=rfl
@[simp] theorem C5 {i j:Int}:aSub (.int i) (.int j) S=.ok (.int (i - j)) S:=rfl
@[simp] theorem EY {i j:Int}:Nt (.int i) (.int j) S=.ok (.int (i+j)) S:=rfl
theorem zA {i j:Int} (h:-18446744073709551616 < i) (h':i < 18446744073709551616):ly (.int i) (.int j) S=.ok (.int (i * j)) S:=gJ (by unfold uX;simp;left;exact ⟨by omega,by omega⟩)
theorem mul_r {i j:Int} (h:-18446744073709551616 < j) (h':j < 18446744073709551616):ly (.int i) (.int j) S=.ok (.int (i * j)) S:=gJ (by unfold uX;simp;right;exact ⟨by omega,by omega⟩)
theorem DK {i j:Int} (h:0 < j) (h':j < 1073741824):xX (.int i) (.int j) S=.ok (.int (i / j)) S:=gJ ⟨h,by omega⟩
theorem qL {i j:Int} (h:0 < j):nF (.int i) (.int j) S=.ok (.int (i % j)) S:=gJ h
@[simp] theorem HN {i j:Int}:Me (.int i) (.int j) S=.ok (.bl (decide (i < j))) S:=rfl
@[simp] theorem Hr {i j:Int}:MX (.int i) (.int j) S=.ok (.bl (decide (i<=j))) S:=rfl
@[simp] theorem G8 {i j:Int}:LV (.int i) (.int j) S=.ok (.bl (decide (j < i))) S:=rfl
@[simp] theorem HP {i j:Int}:Mq (.int i) (.int j) S=.ok (.bl (decide (j<=i))) S:=rfl
@[simp] theorem HY {i j:Bool}:G6 false (.bl i) (.bl j) S=.ok (.bl (i == j)) S:=rfl
@[simp] theorem Ct {i j:Bool}:G6 true (.bl i) (.bl j) S=.ok (.bl (i != j)) S:=rfl
@[simp] theorem Ca {i:Int}:FG (.int i) S=.ok (.int (-i)) S:=rfl
@[simp] theorem DJ {xs:List A}:jq (.tup xs) S=.ok (.int xs.length) S:=rfl
@[simp] theorem BH {xs:List A}:jq (.frz xs) S=.ok (.int xs.length) S:=rfl
@[simp] theorem DT {n:Nat}:jq (.ref n) S=opt (au S n) fun xs=>.ok (.int xs.length) S:=rfl
@[simp] theorem EH {i:Int}:M4 (.int i) S=.ok (.int (if i < 0 then -i else i)) S:=rfl
@[simp] theorem zp {i j:Int}:BD (.int i) (.int j) S=.ok (.int (if j > i then j else i)) S:=rfl
@[simp] theorem xy {i j:Int}:BF (.int i) (.int j) S=.ok (.int (if j < i then j else i)) S:=rfl
@[simp] theorem zd {i:Int}:yW (.int i) S=.ok (.int i) S:=rfl
@[simp] theorem xR {i:Bool}:yW (.bl i) S=.ok (.int (if i then 1 else 0)) S:=rfl
@[simp] theorem qj {i j:Int}:rE (.int i) (.int j) S=.ok (.rng i j) S:=rfl
@[simp] theorem Io {xs:List A} {i:Int}:kO (.tup xs) (.int i) S=opt (kG xs i) fun x=>.ok x S:=rfl
@[simp] theorem Hv {xs:List A} {i:Int}:kO (.frz xs) (.int i) S=opt (kG xs i) fun x=>.ok x S:=rfl
@[simp] theorem HC {n:Nat} {i:Int}:kO (.ref n) (.int i) S=opt (au S n) fun xs=>opt (kG xs i) fun x=>.ok x S:=rfl
@[simp] theorem BJ {n:Nat} {k:Int}:ur (.ref n) (.int k) a S=opt (au S n) fun xs=>opt (yC xs.length k) fun j=>.ok () (S.set n (.lst (xs.set j a))):=rfl
@[simp] theorem Be {n:Nat} {i:Int}:FO (.ref n) (.int i) S=opt (au S n) fun xs=>gd (0<=i) (opt (xs[i.toNat]?) fun x=>.ok x S):=rfl
theorem zH {i j:Int} (h:qI i j):lI (.rng i j) S=.ok (.ref S.length) (S++[.lst ((ie i j).map .int)]):=gJ h
@[simp] theorem yo {xs:List A}:lI (.tup xs) S=.ok (.ref S.length) (S++[.lst xs]):=rfl
@[simp] theorem xW {xs:List A}:lI (.frz xs) S=.ok (.ref S.length) (S++[.lst xs]):=rfl
@[simp] theorem yY {n:Nat}:lI (.ref n) S=opt (au S n) fun xs=>.ok (.ref S.length) (S++[.lst xs]):=rfl
@[simp] theorem vj {xs:List A}:oG (.tup xs) S=.ok (.tup xs) S:=rfl
@[simp] theorem uY {n:Nat}:oG (.ref n) S=opt (au S n) fun xs=>.ok (.tup xs) S:=rfl
@[simp] theorem DU {xs:List A}:K2 (.tup xs) S=.ok (.tup xs.reverse) S:=rfl
@[simp] theorem BQ {n:Nat}:K2 (.ref n) S=opt (au S n) fun xs=>.ok (.ref S.length) (S++[.lst xs.reverse]):=rfl
@[simp] theorem HQ {n:Nat} {l u:Option Int}:Mp (.ref n) l u S=opt (au S n) fun xs=>.ok (.ref S.length) (S++[.lst (GW xs l u)]):=rfl
@[simp] theorem pQ {n:Nat}:jT (.ref n) [a] S=opt (au S n) fun xs=>gd (xs.length < sizeLine) (.ok .non (S.set n (.lst (xs++[a])))):=rfl
@[simp] theorem Bq {b:Bool}:A.Jp (.bl b) S=some b:=rfl
@[simp] theorem ya {i:Int}:A.Jp (.int i) S=some (i != 0):=rfl
theorem wG {o:O}:(S++[o])[S.length]?=some o:=by simp
@[simp] theorem aQ {xs:List A}:au (S++[.lst xs]) S.length=some xs:=kX wG
theorem aX {o:O} {n:Nat} {xs:List A} (h:au S n=some xs):au (S++[o]) n=some xs:=by
 have h':=aU h
 exact kX (by rw [List.getElem?_append_left (List.getElem?_eq_some_iff.mp h').1];exact h')
theorem gQ {n:Nat} {xs:List A} (h:au S n=some xs):n < S.length:=(List.getElem?_eq_some_iff.mp (aU h)).1
theorem iX {n:Nat} {ys:List A} (h:n < S.length):au (S.set n (.lst ys)) n=some ys:=kX (List.getElem?_set_self h)
theorem dm {n m:Nat} {ys:List A} (h:n≠m):au (S.set n (.lst ys)) m=au S m:=by unfold au;rw [List.getElem?_set_ne h]
theorem rW {xs:List A} {i:Int} {k:Nat} {x:A} (h:i=k) (hx:xs[k]?=some x):kG xs i=some x:=by rw [h];exact GV hx
theorem DG {n:Nat} {i:Int} {k:Nat} (h:i=k) (hk:k < n):yC n i=some k:=by
 subst h
 unfold yC
 rw [if_pos (by omega),if_pos (by omega)]
 simp
end
structure Kp (b:Nat->Prop) (S S':az):Prop where
 len:S.length<=S'.length
 obj:∀ (n:Nat) (o:O),¬ b n->S[n]?=some o->S'[n]?=some o
noncomputable abbrev dW:=Kp fun _=>False
theorem Kp.lst {b:Nat->Prop} {S S':az} (h:Kp b S S') (n:Nat) (xs:List A) (hb:¬ b n) (e:au S n=some xs):au S' n=some xs:=kX (h.obj n _ hb (aU e))
theorem Kp.dct {b:Nat->Prop} {S S':az} (h:Kp b S S') (n:Nat) (xs:List (List Int×A)) (hb:¬ b n) (e:bA S n=some xs):bA S' n=some xs:=lE (h.obj n _ hb (eB e))
theorem Kp.refl {b:Nat->Prop} {S:az}:Kp b S S:=⟨Nat.le_refl _,fun _ _ _ h=>h⟩
theorem Kp.trans {b:Nat->Prop} {S S1 S2:az} (h:Kp b S S1) (h':Kp b S1 S2):Kp b S S2:=⟨Nat.le_trans h.len h'.len,fun n xs hb e=>h'.obj n xs hb (h.obj n xs hb e)⟩
theorem su {S:az} {n:Nat} {o:O} (e:S[n]?=some o):n < S.length:=(List.getElem?_eq_some_iff.mp e).1
theorem Kp.lay {b:Nat->Prop} {S S1:az} {o:O} (h:Kp b S S1):Kp b S (S1++[o]):=⟨Nat.le_trans h.len (by simp),fun n xs hb e=>by
 have:=h.obj n xs hb e
 rw [List.getElem?_append_left (su this)];exact this⟩
theorem Kp.tB {b:Nat->Prop} {S S1:az} {m:Nat} {o:O} (h:Kp b S S1) (hm:b m\/S.length<=m):Kp b S (S1.set m o):=⟨by rw [List.length_set];exact h.len,fun n xs hb e=>by
 have:m≠n:=fun z=>by
  subst z
  rcases hm with z | z
  ·exact hb z
  ·exact absurd (su e) (by omega)
 rw [List.getElem?_set_ne this]
 exact h.obj n xs hb e⟩
theorem Kp.set {b:Nat->Prop} {S S1:az} {m:Nat} {ys:List A} (h:Kp b S S1) (hm:b m\/S.length<=m):Kp b S (S1.set m (.lst ys)):=h.tB hm
theorem Kp.mono {b c:Nat->Prop} {S S1:az} (h:Kp b S S1) (hb:∀ n,n < S.length->b n->c n):Kp c S S1:=⟨h.len,fun n xs hc e=>h.obj n xs (fun z=>hc (hb n (su e) z)) e⟩
theorem Kp.of0 {b:Nat->Prop} {S S1:az} (h:dW S S1):Kp b S S1:=h.mono fun _ _ z=>z.elim
theorem Kp.old {b c:Nat->Prop} {S S1 S2:az} (h:Kp b S S1) (h':Kp c S1 S2) (hc:∀ n,n < S.length->¬ b n->¬ c n):Kp b S S2:=⟨Nat.le_trans h.len h'.len,fun n xs hb e=>h'.obj n xs (hc n (su e) hb) (h.obj n xs hb e)⟩
theorem pS {t:Te} {c:Sm} (Inv:List A->az->Prop) (μ:List A->az->Nat) (Post:RS->Prop)
  (h:∀ τ S,Inv τ S->(∃ S1,t τ S=.ok false S1/\Post (.nx τ S1))\/(∃ S1,t τ S=.ok true S1/\((∃ τ' S',c τ S1=.nx τ' S'/\Inv τ' S'/\μ τ' S' < μ τ S)\/(∃ a S',c τ S1=.rt a S'/\Post (.rt a S'))))) :
  ∀ n τ S,Inv τ S->μ τ S < n->Post (er t c n τ S)
 | 0,_,_,_,hn=>absurd hn (Nat.not_lt_zero _)
 | n+1,τ,S,hi,hn=>by
  unfold er
  rcases h τ S hi with ⟨S1,e,q⟩ | ⟨S1,e,⟨τ',S',e2,hi',hm⟩ | ⟨a,S',e2,q⟩⟩
  ·rw [e];exact q
  ·rw [e]
   show Post (match c τ S1 with
    | .nx τ' S'=>er t c n τ' S'
    | .ct τ' S'=>er t c n τ' S'
    | .bk τ' S'=>.nx τ' S'
    | r=>r)
   rw [e2]
   exact pS Inv μ Post h n τ' S' hi' (by omega)
  ·rw [e]
   show Post (match c τ S1 with
    | .nx τ' S'=>er t c n τ' S'
    | .ct τ' S'=>er t c n τ' S'
    | .bk τ' S'=>.nx τ' S'
    | r=>r)
   rw [e2]
   exact q
theorem rP {s:Src} {g:Tg} {c:Sm} (Inv:Nat->List A->az->Prop) (Post:RS->Prop)
  (step:∀ i τ S,i < s.k->Inv i τ S->∃ x τ1 S1,s.get i S=some x/\g x τ S=.ok τ1 S1/\((∃ τ' S',c τ1 S1=.nx τ' S'/\Inv (i+1) τ' S')\/(∃ a S',c τ1 S1=.rt a S'/\Post (.rt a S'))))
  (fin:∀ τ S,Inv s.k τ S->s.fin S=true/\Post (.nx τ S)):∀ k i τ S,k+i=s.k->Inv i τ S->Post (gD s g c k i τ S)
 | 0,i,τ,S,hk,hi=>by
  have:i=s.k:=by omega
  subst this
  obtain ⟨hf,q⟩:=fin τ S hi
  unfold gD
  rw [if_pos hf]
  exact q
 | k+1,i,τ,S,hk,hi=>by
  obtain ⟨x,τ1,S1,hx,hg,h⟩:=step i τ S (by omega) hi
  unfold gD
  rw [hx]
  show Post (RS.of (g x τ S) fun τ1 S1=>match c τ1 S1 with
   | .nx τ' S'=>gD s g c k (i+1) τ' S'
   | .ct τ' S'=>gD s g c k (i+1) τ' S'
   | .bk τ' S'=>.nx τ' S'
   | r=>r)
  rw [hg]
  show Post (match c τ1 S1 with
   | .nx τ' S'=>gD s g c k (i+1) τ' S'
   | .ct τ' S'=>gD s g c k (i+1) τ' S'
   | .bk τ' S'=>.nx τ' S'
   | r=>r)
  rcases h with ⟨τ',S',e,hi'⟩ | ⟨a,S',e,q⟩
  ·rw [e];exact rP Inv Post step fin k (i+1) τ' S' (by omega) hi'
  ·rw [e];exact q
theorem j6 {lo hi:Int} {j:Nat} {c:Sm} {src:Ic} {τ:List A} {S S1:az} (hs:src τ S=.ok (mY lo hi) S1) (Inv:Nat->List A->az->Prop) (Post:RS->Prop) (h0:Inv 0 τ S1)
  (step:∀ (i:Nat) τ S,(i:Int) < hi - lo->Inv i τ S->(∃ τ' S',c (τ.set j (.int (lo+i))) S=.nx τ' S'/\Inv (i+1) τ' S')\/(∃ a S',c (τ.set j (.int (lo+i))) S=.rt a S'/\Post (.rt a S')))
  (fin:∀ τ S,Inv (hi - lo).toNat τ S->Post (.nx τ S)):Post (cE src (bK j) c τ S):=by
 unfold cE
 rw [hs]
 refine rP (s:=mY lo hi) Inv Post (fun i τ S hi' h=>?_) (fun τ S h=>⟨rfl,fin τ S h⟩) _ 0 τ S1 rfl h0
 have hi':i < (hi - lo).toNat:=hi'
 exact ⟨.int (lo+i),_,S,if_pos hi',rfl,step i τ S (by omega) h⟩
theorem yJ {xs:List A} {g:Tg} {c:Sm} {src:Ic} {τ:List A} {S S1:az} (hs:src τ S=.ok (jd xs) S1) (Inv:Nat->List A->az->Prop) (Post:RS->Prop) (h0:Inv 0 τ S1)
  (step:∀ (i:Nat) x τ S,xs[i]?=some x->Inv i τ S->∃ τ1 S1,g x τ S=.ok τ1 S1/\((∃ τ' S',c τ1 S1=.nx τ' S'/\Inv (i+1) τ' S')\/(∃ a S',c τ1 S1=.rt a S'/\Post (.rt a S'))))
  (fin:∀ τ S,Inv xs.length τ S->Post (.nx τ S)):Post (cE src g c τ S):=by
 unfold cE
 rw [hs]
 refine rP (s:=jd xs) Inv Post (fun i τ S hi' h=>?_) (fun τ S h=>⟨rfl,fin τ S h⟩) _ 0 τ S1 rfl h0
 have hi':i < xs.length:=hi'
 obtain ⟨τ1,S1,e,q⟩:=step i xs[i] τ S (List.getElem?_eq_getElem hi') h
 exact ⟨xs[i],τ1,S1,List.getElem?_eq_getElem hi',e,q⟩
theorem iP {n:Nat} {xs:List A} {g:Tg} {c:Sm} {src:Ic} {τ:List A} {S S1:az} (hs:src τ S=.ok (b9 n xs.length) S1) (Inv:Nat->List A->az->Prop) (Post:RS->Prop) (h0:Inv 0 τ S1) (hl:∀ i τ S,Inv i τ S->au S n=some xs)
  (step:∀ (i:Nat) x τ S,xs[i]?=some x->Inv i τ S->∃ τ1 S1,g x τ S=.ok τ1 S1/\((∃ τ' S',c τ1 S1=.nx τ' S'/\Inv (i+1) τ' S')\/(∃ a S',c τ1 S1=.rt a S'/\Post (.rt a S'))))
  (fin:∀ τ S,Inv xs.length τ S->Post (.nx τ S)):Post (cE src g c τ S):=by
 unfold cE
 rw [hs]
 refine rP (s:=b9 n xs.length) Inv Post (fun i τ S hi' h=>?_) (fun τ S h=>⟨?_,fin τ S h⟩) _ 0 τ S1 rfl h0
 ·have hi':i < xs.length:=hi'
  obtain ⟨τ1,S1,e,q⟩:=step i xs[i] τ S (List.getElem?_eq_getElem hi') h
  exact ⟨xs[i],τ1,S1,by show (au S n).bind _=_;rw [hl i τ S h];exact List.getElem?_eq_getElem hi',e,q⟩
 ·show (match au S n with
   | some ys=>decide (ys.length<=xs.length)
   | none=>false)=true
  rw [hl _ τ S h]
  exact decide_eq_true (Nat.le_refl _)
@[simp] theorem fX {c:Ex} {τ:List A} {S S1:az} {j:Int} (h:c τ S=.ok (.int j) S1) (hb:bnd j):iC c τ S=.ok (mY 0 j) S1:=by
 unfold iC;rw [h];exact gJ hb
theorem IS {c:Ex} {τ:List A} {S S1:az} {xs:List A} (h:c τ S=.ok (.tup xs) S1):cH c τ S=.ok (jd xs) S1:=by unfold cH;rw [h];rfl
theorem dc {c:Ex} {τ:List A} {S S1:az} {n:Nat} {xs:List A} (h:c τ S=.ok (.ref n) S1) (hl:au S1 n=some xs):cH c τ S=.ok (b9 n xs.length) S1:=by
 unfold cH;rw [h];show opt (au S1 n) _=_;rw [hl];rfl
theorem kY {s:Src} {g:Tg} {t:Te} {e:Ex} {P:az->Prop} {T:List A->Prop} (it:Nat->A) (p:Nat->Bool) (f:Nat->A)
  (hget:∀ i S,i < s.k->P S->s.get i S=some (it i)) (hfin:∀ S,P S->s.fin S=true)
  (step:∀ i τ S,i < s.k->T τ->P S->∃ τ1 S1 S2,g (it i) τ S=.ok τ1 S1/\t τ1 S1=.ok (p i) S2/\T τ1/\(p i=false->P S2)/\(p i=true->∃ S3,e τ1 S2=.ok (f i) S3/\P S3)) :
  ∀ k i τ S,k+i=s.k->T τ->P S->∃ S',dU s g t e k i τ S=.ok (((List.range' i k).filter p).map f) S'/\P S'
 | 0,i,τ,S,hk,hT,hP=>⟨S,by unfold dU;rw [if_pos (hfin S hP)];rfl,hP⟩
 | k+1,i,τ,S,hk,hT,hP=>by
  obtain ⟨τ1,S1,S2,hg,ht,hT1,hF,hTr⟩:=step i τ S (by omega) hT hP
  unfold dU
  rw [hget i S (by omega) hP,cD,hg,R.cO,ht,R.cO,List.range'_succ,List.filter_cons]
  cases hp:p i with
  | false=>
   obtain ⟨S',h1,h2⟩:=kY it p f hget hfin step k (i+1) τ1 S2 (by omega) hT1 (hF hp)
   exact ⟨S',by simpa using h1,h2⟩
  | true=>
   obtain ⟨S3,he,hP3⟩:=hTr hp
   obtain ⟨S',h1,h2⟩:=kY it p f hget hfin step k (i+1) τ1 S3 (by omega) hT1 hP3
   refine ⟨S',?_,h2⟩
   show (e τ1 S2).jj _=_
   rw [he,R.cO,h1]
   rfl
theorem rf {s:Src} {cap:List (Option Nat)} {src:Ic} {t:Te} {e:Ex} {τ:List A} {S S1:az} (hs:src τ S=.ok s S1) (it:Nat->A) (p:Nat->Bool) (f:Nat->A) (hget:∀ i,i < s.k->s.get i S1=some (it i)) (hfin:s.fin S1=true)
  (ht:∀ i,i < s.k->t (it i::cT cap τ) S1=.ok (p i) S1) (he:∀ i,i < s.k->p i=true->e (it i::cT cap τ) S1=.ok (f i) S1) (hl:s.k<=16777216) :
  bQ (none::cap) src (bK 0) t e τ S=.ok (.ref S1.length) (S1++[.lst (((List.range s.k).filter p).map f)]):=by
 unfold bQ
 rw [hs,R.iQ]
 obtain ⟨S',h1,h2⟩:=kY (s:=s) (g:=bK 0) (t:=t) (e:=e) (P:=fun S=>S=S1) (T:=fun τ'=>∃ y,τ'=y::cT cap τ) it p f (fun i S hi h=>by subst h;exact hget i hi) (fun S h=>by subst h;exact hfin)
  (fun i τ' S hi ⟨y,hy⟩ h=>by
   subst h hy
   exact ⟨it i::cT cap τ,S,S,rfl,ht i hi,⟨_,rfl⟩,fun _=>rfl,fun hp=>⟨S,he i hi hp,rfl⟩⟩) s.k 0 (cT (none::cap) τ) S1 rfl ⟨_,rfl⟩ rfl
 subst h2
 rw [h1,R.cO,List.range_eq_range']
 refine bC ?_
 rw [List.length_map]
 refine Nat.le_trans (List.length_filter_le _ _) ?_
 rw [List.length_range']
 exact hl
theorem iw {α β:Type} (xs:List α) (p:α->Bool) (f:α->β):∀ (d:α) ,(((List.range xs.length).filter fun i=>p (xs.getD i d)).map fun i=>f (xs.getD i d))=(xs.filter p).map f:=by
 intro d
 induction xs with
 | nil=>rfl
 | cons x xs ih=>
  rw [List.length_cons,List.range_succ_eq_map,List.filter_cons,List.filter_cons]
  have e:((List.filter (fun i=>p ((x::xs).getD i d)) (List.map Nat.succ (List.range xs.length))).map fun i=>f ((x::xs).getD i d))=(xs.filter p).map f:=by
   rw [List.filter_map,List.map_map]
   rw [<- ih]
   rfl
  show List.map _ (if p x=true then _ else _)=List.map f (if p x=true then _ else _)
  by_cases hp:p x=true
  ·rw [if_pos hp,if_pos hp,List.map_cons,List.map_cons,e];rfl
  ·rw [if_neg hp,if_neg hp,e]
theorem DS {lo hi:Int} {cap:List (Option Nat)} {src:Ic} {t:Te} {e:Ex} {τ:List A} {S S1:az} (hs:src τ S=.ok (mY lo hi) S1) (p:Int->Bool) (f:Int->A)
  (ht:∀ k,lo<=k->k < hi->t (.int k::cT cap τ) S1=.ok (p k) S1) (he:∀ k,lo<=k->k < hi->p k=true->e (.int k::cT cap τ) S1=.ok (f k) S1) (hl:(hi - lo).toNat<=16777216) :
  bQ (none::cap) src (bK 0) t e τ S=.ok (.ref S1.length) (S1++[.lst (((ie lo hi).filter p).map f)]):=by
 rw [rf hs (fun i=>.int (lo+i)) (fun i=>p (lo+i)) (fun i=>f (lo+i)) (fun i hi'=>if_pos hi') rfl (fun i hi'=>ht _ (by omega) (by have:i < (hi - lo).toNat:=hi';omega)) (fun i hi'=>he _ (by omega) (by have:i < (hi - lo).toNat:=hi';omega)) hl]
 unfold ie
 rw [List.filter_map,List.map_map]
 rfl
@[simp] theorem ED {cap:List (Option Nat)} {τ:List A}:cT (none::cap) τ=.unb::cT cap τ:=rfl
@[simp] theorem Ce {cap:List (Option Nat)} {τ:List A} {j:Nat}:cT (some j::cap) τ=τ.getD j .unb::cT cap τ:=rfl
@[simp] theorem tF {τ:List A}:cT [] τ=[]:=rfl
theorem rz {x:A} {xs:List A}:kG (x::xs) 0=some x:=rW (k:=0) rfl rfl
theorem za {x y:A} {xs:List A}:kG (x::y::xs) 1=some y:=rW (k:=1) rfl rfl
theorem Fe {ns:List Int} {i:Int} {k:Nat} {x:Int} (h:i=k) (hx:ns[k]?=some x):kG (ns.map A.int) i=some (.int x):=rW h (by rw [List.getElem?_map,hx];rfl)
theorem kL {j:Int} (h:-4611686018427387904<=j) (h':j < 4611686018427387904):bnd j:=⟨by omega,by omega⟩
theorem Dq {i j:Int} (h1:-1000000<=i) (h2:i<=1000000) (h3:-1000000<=j) (h4:j<=1000000) (h5:j - i<=1000):qI i j:=⟨⟨by omega,by omega,by omega,by omega⟩,by omega⟩
theorem ints_map:∀ (ns:List Int),A.ints (ns.map .int)=some ns
 | []=>rfl
 | n::ns=>by show (A.ints (ns.map .int)).map (n::·)=_;rw [ints_map ns];rfl
theorem mG {S:az} {n:Nat}:∀ (xs ys:List Int),gb (iK S (n+1)) (xs.map .int) (ys.map .int)=some (decide (xs=ys))
 | [],[]=>rfl
 | [],_::_=>rfl
 | _::_,[]=>rfl
 | x::xs,y::ys=>by
  show (iK S (n+1) (.int x) (.int y)).bind _=_
  show Option.bind (some (x == y)) _=_
  show Option.map _ (gb (iK S (n+1)) (xs.map .int) (ys.map .int))=_
  rw [mG xs ys]
  show some (x == y && decide (xs=ys))=_
  by_cases h1:x=y <;> by_cases h2:xs=ys <;> simp [h1,h2]
@[simp] theorem HW {S:az} {x y:Bool}:fL false (.bl x) (.bl y) S=.ok (.bl (x == y)) S:=rfl
@[simp] theorem Ih {S:az} {x y:Bool}:fL true (.bl x) (.bl y) S=.ok (.bl (!(x == y))) S:=rfl
@[simp] theorem Hl {S:az} {x y:Int}:fL false (.int x) (.int y) S=.ok (.bl (x == y)) S:=rfl
@[simp] theorem Hg {S:az} {x y:Int}:fL true (.int x) (.int y) S=.ok (.bl (!(x == y))) S:=rfl
@[simp] theorem w9 {S:az}:G6 false .non .non S=.ok (.bl true) S:=rfl
@[simp] theorem wV {S:az} {xs:List A}:G6 false (.tup xs) .non S=.ok (.bl false) S:=rfl
@[simp] theorem xP {S:az} {n:Nat}:G6 false (.ref n) .non S=.ok (.bl false) S:=rfl
@[simp] theorem t8 {S:az}:G6 true .non .non S=.ok (.bl false) S:=rfl
@[simp] theorem uO {S:az} {xs:List A}:G6 true (.tup xs) .non S=.ok (.bl true) S:=rfl
@[simp] theorem u_ {S:az} {n:Nat}:G6 true (.ref n) .non S=.ok (.bl true) S:=rfl
@[simp] theorem wQ {S:az} {x:A} {c:String}:sV x (.ty c) S=opt (x.kd S) fun k=>opt (pW k c) fun b=>.ok (.bl b) S:=rfl
@[simp] theorem HR {S:az} {b:Bool}:A.kd (.bl b) S=some .bl:=rfl
@[simp] theorem BR {S:az} {b:Int}:A.kd (.int b) S=some .int:=rfl
@[simp] theorem BA {S:az} {b:List A}:A.kd (.tup b) S=some .tup:=rfl
@[simp] theorem Co {S:az}:A.kd .non S=some .non:=rfl
@[simp] theorem Dp {S:az} {b:Str}:A.kd (.str b) S=some .str:=rfl
@[simp] theorem BZ {S:az} {n:Nat}:A.kd (.ref n) S=(au S n).map fun _=>.lst:=rfl
@[simp] theorem Dr {S:az}:newL [] S=.ok (.ref S.length) (S++[.lst []]):=bC (by simp)
@[simp] theorem Dw {S:az} {x0:A}:newL [x0] S=.ok (.ref S.length) (S++[.lst [x0]]):=bC (by simp)
@[simp] theorem BI {S:az} {x0 x1:A}:newL [x0,x1] S=.ok (.ref S.length) (S++[.lst [x0,x1]]):=bC (by simp)
@[simp] theorem Cq {S:az} {x0 x1 x2:A}:newL [x0,x1,x2] S=.ok (.ref S.length) (S++[.lst [x0,x1,x2]]):=bC (by simp)
@[simp] theorem Bu {S:az} {x0 x1 x2 x3:A}:newL [x0,x1,x2,x3] S=.ok (.ref S.length) (S++[.lst [x0,x1,x2,x3]]):=bC (by simp)
@[simp] theorem BU {S:az} {x0 x1 x2 x3 x4:A}:newL [x0,x1,x2,x3,x4] S=.ok (.ref S.length) (S++[.lst [x0,x1,x2,x3,x4]]):=bC (by simp)
@[simp] theorem Cs {S:az} {x0 x1 x2 x3 x4 x5:A}:newL [x0,x1,x2,x3,x4,x5] S=.ok (.ref S.length) (S++[.lst [x0,x1,x2,x3,x4,x5]]):=bC (by simp)
@[simp] theorem Bj {S:az} {x0 x1 x2 x3 x4 x5 x6:A}:newL [x0,x1,x2,x3,x4,x5,x6] S=.ok (.ref S.length) (S++[.lst [x0,x1,x2,x3,x4,x5,x6]]):=bC (by simp)
@[simp] theorem vV {S:az} {x0 x1 x2 x3 x4 x5 x6 x7:A}:newL [x0,x1,x2,x3,x4,x5,x6,x7] S=.ok (.ref S.length) (S++[.lst [x0,x1,x2,x3,x4,x5,x6,x7]]):=bC (by simp)
@[simp] theorem Dh {S:az} {x0 x1 x2 x3 x4 x5 x6 x7 x8:A}:newL [x0,x1,x2,x3,x4,x5,x6,x7,x8] S=.ok (.ref S.length) (S++[.lst [x0,x1,x2,x3,x4,x5,x6,x7,x8]]):=bC (by simp)
@[simp] theorem yM {S:az} {x0 x1 x2 x3 x4 x5 x6 x7 x8 x9:A}:newL [x0,x1,x2,x3,x4,x5,x6,x7,x8,x9] S=.ok (.ref S.length) (S++[.lst [x0,x1,x2,x3,x4,x5,x6,x7,x8,x9]]):=bC (by simp)
theorem eG {α:Type} {n:Nat} {r:R α} (h:n<=16777216):gd (n<=sizeLine) r=r:=gJ (by rw [sizeLine_eq];exact h)
theorem lg {α:Type} {n:Nat} {r:R α} (h:n < 16777216):gd (n < sizeLine) r=r:=gJ (by rw [sizeLine_eq];exact h)
theorem HS {x:A} {xs:List A}:(x::xs).getD 0 .unb=x:=rfl
theorem G7 {x:A} {xs:List A} {n:Nat}:(x::xs).getD (n+1) .unb=xs.getD n .unb:=rfl
theorem KU {x y:A} {xs:List A}:(x::xs).set 0 y=y::xs:=rfl
theorem sets {x y:A} {xs:List A} {n:Nat}:(x::xs).set (n+1) y=x::xs.set n y:=rfl
theorem rep0 {x:A}:List.replicate 0 x=[]:=rfl
theorem reps {x:A} {n:Nat}:List.replicate (n+1) x=x::List.replicate n x:=rfl
theorem Lv {x:A} {xs ys:List A}:(x::xs)++ys=x::(xs++ys):=rfl
theorem LK {ys:List A}:[]++ys=ys:=rfl
theorem LQ {S:az} {n m:Nat} {xs ys:List A} (h:au S n=some xs) (h':au S m=some ys) (hl:xs.length+ys.length<=16777216):cI (.ref n) (.ref m) S=.ok (.ref S.length) (S++[.lst (xs++ys)]):=by
 show opt (au S n) _=_
 rw [h,cD,h',cD]
 exact gJ (by rw [sizeLine_eq];exact hl)
theorem bI:type_of% (And.intro @R.iQ (And.intro @R.xC (And.intro @R.cO (And.intro @RS.of_ok (And.intro @RS.HZ (And.intro @cD (And.intro @zl (And.intro @zB (And.intro @yL (And.intro @yp (And.intro @zv (And.intro @DH (And.intro @wR (And.intro @yv (And.intro @yd (And.intro @yR (And.intro @zw (And.intro @Ik (And.intro @yE (And.intro @CT (And.intro @yj (And.intro @HK (And.intro @BC (And.intro @zy (And.intro @xV (And.intro @Cd (And.intro @zm (And.intro @yc (And.intro @zh (And.intro @Bs (And.intro @BK (And.intro @ye (And.intro @Ef (And.intro @uC (And.intro @zu (And.intro @CU (And.intro @ym (And.intro @uG (And.intro @zx (And.intro @xD (And.intro @uR (And.intro @DY (And.intro @D4 (And.intro @HJ (And.intro @HE (And.intro @CC (And.intro @uf (And.intro @xH (And.intro @uq (And.intro @Cz (And.intro @xJ (And.intro @lst?_ref (And.intro @RS.C2 (And.intro @RS.C7 (And.intro @RS.B3 (And.intro @RS.Ea (And.intro @RS.BX (And.intro @zE (And.intro @zC (And.intro @qS (And.intro @uQ (And.intro @uz (And.intro @xj (And.intro @vg (And.intro @EG (And.intro @yH (And.intro @EN (And.intro @Bg (And.intro @DL (And.intro @Bk (And.intro @BY (And.intro @B_ (And.intro @xM (And.intro @zD (And.intro @tK (And.intro @RS.Em (And.intro @RS.Dg (And.intro @RS.Cb (And.intro @Bh (And.intro @C5 (And.intro @EY (And.intro @HN (And.intro @Hr (And.intro @G8 (And.intro @HP (And.intro @HY (And.intro @Ct (And.intro @Ca (And.intro @DJ (And.intro @BH (And.intro @DT (And.intro @EH (And.intro @zp (And.intro @xy (And.intro @zd (And.intro @xR (And.intro @qj (And.intro @Io (And.intro @Hv (And.intro @HC (And.intro @BJ (And.intro @Be (And.intro @yo (And.intro @xW (And.intro @yY (And.intro @vj (And.intro @uY (And.intro @DU (And.intro @BQ (And.intro @HQ (And.intro @pQ (And.intro @Bq (And.intro @ya (And.intro @aQ (And.intro @ED (And.intro @Ce (And.intro @tF (And.intro @HW (And.intro @Ih (And.intro @Hl (And.intro @Hg (And.intro @w9 (And.intro @wV (And.intro @xP (And.intro @t8 (And.intro @uO (And.intro @u_ (And.intro @wQ (And.intro @HR (And.intro @BR (And.intro @BA (And.intro @Co (And.intro @Dp (And.intro @BZ (And.intro @Dr (And.intro @Dw (And.intro @BI (And.intro @Cq (And.intro @Bu (And.intro @BU (And.intro @Cs (And.intro @Bj (And.intro @vV (And.intro @Dh (And.intro @yM (And.intro @HS (And.intro @G7 (And.intro @KU (And.intro @sets (And.intro @rep0 (And.intro @reps (And.intro @Lv (And.intro @LK (And.intro @oh (And.intro @zb (And.intro @Bf (And.intro @Ek (And.intro @Hh (And.intro @HA (And.intro @Dz (And.intro @D_ (And.intro @qX (And.intro @tM (And.intro @DC (And.intro @zk (And.intro @Bm (And.intro @zg (And.intro @Bp (And.intro @Hz (And.intro @Ho (And.intro @yb (And.intro @xx (And.intro @DO (And.intro @tN (And.intro @yi (And.intro @Er (And.intro @A_ (And.intro @B5 (And.intro @Ep (@Ez)))))))))))))))))))))))))))))))))))))))))))))))))))))))))))))))))))))))))))))))))))))))))))))))))))))))))))))))))))))))))))))))))))))))))))))))))))))))))))))))))))))))))))))))))))):=And.intro @R.iQ (And.intro @R.xC (And.intro @R.cO (And.intro @RS.of_ok (And.intro @RS.HZ (And.intro @cD (And.intro @zl (And.intro @zB (And.intro @yL (And.intro @yp (And.intro @zv (And.intro @DH (And.intro @wR (And.intro @yv (And.intro @yd (And.intro @yR (And.intro @zw (And.intro @Ik (And.intro @yE (And.intro @CT (And.intro @yj (And.intro @HK (And.intro @BC (And.intro @zy (And.intro @xV (And.intro @Cd (And.intro @zm (And.intro @yc (And.intro @zh (And.intro @Bs (And.intro @BK (And.intro @ye (And.intro @Ef (And.intro @uC (And.intro @zu (And.intro @CU (And.intro @ym (And.intro @uG (And.intro @zx (And.intro @xD (And.intro @uR (And.intro @DY (And.intro @D4 (And.intro @HJ (And.intro @HE (And.intro @CC (And.intro @uf (And.intro @xH (And.intro @uq (And.intro @Cz (And.intro @xJ (And.intro @lst?_ref (And.intro @RS.C2 (And.intro @RS.C7 (And.intro @RS.B3 (And.intro @RS.Ea (And.intro @RS.BX (And.intro @zE (And.intro @zC (And.intro @qS (And.intro @uQ (And.intro @uz (And.intro @xj (And.intro @vg (And.intro @EG (And.intro @yH (And.intro @EN (And.intro @Bg (And.intro @DL (And.intro @Bk (And.intro @BY (And.intro @B_ (And.intro @xM (And.intro @zD (And.intro @tK (And.intro @RS.Em (And.intro @RS.Dg (And.intro @RS.Cb (And.intro @Bh (And.intro @C5 (And.intro @EY (And.intro @HN (And.intro @Hr (And.intro @G8 (And.intro @HP (And.intro @HY (And.intro @Ct (And.intro @Ca (And.intro @DJ (And.intro @BH (And.intro @DT (And.intro @EH (And.intro @zp (And.intro @xy (And.intro @zd (And.intro @xR (And.intro @qj (And.intro @Io (And.intro @Hv (And.intro @HC (And.intro @BJ (And.intro @Be (And.intro @yo (And.intro @xW (And.intro @yY (And.intro @vj (And.intro @uY (And.intro @DU (And.intro @BQ (And.intro @HQ (And.intro @pQ (And.intro @Bq (And.intro @ya (And.intro @aQ (And.intro @ED (And.intro @Ce (And.intro @tF (And.intro @HW (And.intro @Ih (And.intro @Hl (And.intro @Hg (And.intro @w9 (And.intro @wV (And.intro @xP (And.intro @t8 (And.intro @uO (And.intro @u_ (And.intro @wQ (And.intro @HR (And.intro @BR (And.intro @BA (And.intro @Co (And.intro @Dp (And.intro @BZ (And.intro @Dr (And.intro @Dw (And.intro @BI (And.intro @Cq (And.intro @Bu (And.intro @BU (And.intro @Cs (And.intro @Bj (And.intro @vV (And.intro @Dh (And.intro @yM (And.intro @HS (And.intro @G7 (And.intro @KU (And.intro @sets (And.intro @rep0 (And.intro @reps (And.intro @Lv (And.intro @LK (And.intro @oh (And.intro @zb (And.intro @Bf (And.intro @Ek (And.intro @Hh (And.intro @HA (And.intro @Dz (And.intro @D_ (And.intro @qX (And.intro @tM (And.intro @DC (And.intro @zk (And.intro @Bm (And.intro @zg (And.intro @Bp (And.intro @Hz (And.intro @Ho (And.intro @yb (And.intro @xx (And.intro @DO (And.intro @tN (And.intro @yi (And.intro @Er (And.intro @A_ (And.intro @B5 (And.intro @Ep (@Ez)))))))))))))))))))))))))))))))))))))))))))))))))))))))))))))))))))))))))))))))))))))))))))))))))))))))))))))))))))))))))))))))))))))))))))))))))))))))))))))))))))))))))))))))))))
theorem bools:(∀ b:Bool,cond false b b=b)/\(∀ (α:Type) (x y:α),cond false x y=y)/\(∀ (α:Type) (x y:α),cond true x y=x):=⟨fun _=>rfl,fun _ _ _=>rfl,fun _ _ _=>rfl⟩
theorem dY:(∀ (x:Str) (xs:List Str),(x::xs).length=xs.length+1)/\([]:List Str).length=0/\(∀ (x:A) (xs:List A),(x::xs).length=xs.length+1)/\([]:List A).length=0:=⟨fun _ _=>rfl,rfl,fun _ _=>rfl,rfl⟩
section
variable {τ:List A} {S:az}
theorem yt {f:List A->az->R A} {d:gB}:z9 f d τ S=(d τ S).bind f:=rfl
noncomputable def NR (c:Str):Unit->az->RS:=fun _ S1=>.ex c S1
theorem BL {c:Str} {u:Unit}:NR c u S=.ex c S:=rfl
theorem qv {c:Str} {ps:List (Str ⊕ Ex)}:wD c ps τ S=RS.of (CJ ps τ S) (NR c):=rfl
theorem xQ:CJ [] τ S=.ok () S:=rfl
theorem zo {x:Str} {ps:List (Str ⊕ Ex)}:CJ (.inl x::ps) τ S=CJ ps τ S:=rfl
noncomputable def NS (ps:List (Str ⊕ Ex)) (τ:List A):A->az->R Unit:=fun v S1=>match v with
 | .int i=>gd (i.natAbs.log2 < 64) (CJ ps τ S1)
 | _=>.no
theorem w6 {e:Ex} {ps:List (Str ⊕ Ex)}:CJ (.inr e::ps) τ S=(e τ S).bind (NS ps τ):=rfl
theorem Hj {n:Nat} {ps:List (Str ⊕ Ex)} (h:n < 18446744073709551616):NS ps τ (.int (n:Int)) S=CJ ps τ S:=by
 show gd ((n:Int).natAbs.log2 < 64) _=_
 refine M7 ?_
 rw [Int.natAbs_natCast]
 by_cases z:n=0
 ·subst z;decide
 ·exact (Nat.log2_lt z).mpr h
noncomputable def RS.try (i n:Nat) (cs:List Str) (d:Sm):RS->RS
 | .ex x S1=>if x∈cs then Gm i (d ((List.replicate n .unb).set i (.exn x)) S1) else .no
 | r=>r
theorem yq {i n:Nat} {cs:List Str} {c d:Sm}:uE i n cs c d τ S=RS.try i n cs d (c τ S):=by
 unfold uE RS.try;cases c τ S <;> rfl
theorem C1 {i n:Nat} {cs:List Str} {d:Sm}:RS.try i n cs d (.nx τ S)=.nx τ S:=rfl
theorem Df {i n:Nat} {cs:List Str} {d:Sm} {a:A}:RS.try i n cs d (.rt a S)=.rt a S:=rfl
theorem CW {i n:Nat} {x:Str} {cs:List Str} {d:Sm}:RS.try i n (x::cs) d (.ex x S)=Gm i (d ((List.replicate n .unb).set i (.exn x)) S):=if_pos (.head _)
theorem CD {i:Nat} {a:A}:Gm i (.rt a S)=.rt a S:=rfl
theorem Ed {i:Nat}:Gm i (.nx τ S)=.nx (τ.set i .unb) S:=rfl
noncomputable def Mb (f:Str->Option Bool):A->az->R A:=fun v S1=>match v with
 | .exn x=>opt (f x) fun b=>.ok (.bl b) S1
 | _=>.no
theorem yy {f:Str->Option Bool} {c:Ex}:mE f c τ S=(c τ S).bind (Mb f):=rfl
theorem Ei {x:Str} {b:Bool} {tb:List (Str×Bool)}:Mb (Ag ((x,b)::tb)) (.exn x) S=.ok (.bl b) S:=by
 show opt (List.lookup x ((x,b)::tb)) _=_
 rw [List.lookup_cons,beq_self_eq_true];rfl
noncomputable def R.CQ {α β:Type} (r:R α) (f:α->az->R β):R β:=match r with
 | .ok a S=>f a S
 | _=>.no
theorem tU {α β:Type} {a:α} {f:α->az->R β}:R.CQ (.ok a S) f=f a S:=rfl
theorem yZ {f:List A->az->R A} {d:gB}:LU f d τ S=R.CQ (d τ S) f:=by unfold LU R.CQ;cases d τ S <;> rfl
noncomputable def RS.MW {α:Type} (r:R α) (f:α->az->RS):RS:=match r with
 | .ok a S=>f a S
 | _=>.no
theorem CK {α:Type} {a:α} {f:α->az->RS}:RS.MW (.ok a S) f=f a S:=rfl
theorem yw {t:Te} {c d:Sm}:LN t c d τ S=RS.MW (t τ S) (Mu c d τ):=by
 unfold LN RS.MW
 cases t τ S with
 | ok b S1=>cases b <;> rfl
 | ex _ _=>rfl
 | no=>rfl
noncomputable def RS.EI (i:Nat) (cs:List Str) (d:Sm) (τ:List A):RS->RS
 | .ex x S1=>if x∈cs then Gm i (d (τ.set i (.exn x)) S1) else .no
 | r=>r
theorem tW {i:Nat} {cs:List Str} {c d:Sm}:HG i cs c d τ S=RS.EI i cs d τ (c τ S):=by
 unfold HG RS.EI;cases c τ S <;> rfl
theorem yX {i:Nat} {cs:List Str} {d:Sm} {τ':List A}:RS.EI i cs d τ (.nx τ' S)=.nx τ' S:=rfl
theorem yG {i:Nat} {cs:List Str} {d:Sm} {a:A}:RS.EI i cs d τ (.rt a S)=.rt a S:=rfl
theorem wX {i:Nat} {x:Str} {cs:List Str} {d:Sm}:RS.EI i (x::cs) d τ (.ex x S)=Gm i (d (τ.set i (.exn x)) S):=if_pos (.head _)
theorem uh:A.HF []=some []:=rfl
theorem mK {b:Bool} {xs:List A}:A.HF (.bl b::xs)=(A.HF xs).map (b::·):=rfl
end
theorem rj:type_of% (And.intro @yt (And.intro @qv (And.intro @BL (And.intro @xQ (And.intro @zo (And.intro @w6 (And.intro @yq (And.intro @C1 (And.intro @Df (And.intro @CW (And.intro @CD (And.intro @Ed (And.intro @yy (And.intro @Ei (And.intro @uh (And.intro @mK (And.intro @tU (And.intro @yZ (And.intro @CK (And.intro @yw (And.intro @tW (And.intro @yX (And.intro @yG (And.intro @wX (trivial))))))))))))))))))))))))):=And.intro @yt (And.intro @qv (And.intro @BL (And.intro @xQ (And.intro @zo (And.intro @w6 (And.intro @yq (And.intro @C1 (And.intro @Df (And.intro @CW (And.intro @CD (And.intro @Ed (And.intro @yy (And.intro @Ei (And.intro @uh (And.intro @mK (And.intro @tU (And.intro @yZ (And.intro @CK (And.intro @yw (And.intro @tW (And.intro @yX (And.intro @yG (And.intro @wX (trivial))))))))))))))))))))))))
end Am
namespace L2
open PySem PySem.Spec PyProof.Rows
section
variable {P:Program} {w:World} {A:Around} {E:Value->Shared->Prop} {s:Shared} {it d:Addr} {i ep:Nat} {es:Array DictEntry} {o:Obj}
theorem Kv {Q:Option Value->Shared->Prop} (hi:s.heap.IsKeyIter it d i es.size ep) (ho:s.heap.get? d=some o) (hd:o.data=.dict es ep) (lt:i < es.size)
  (q:∀ h',h'.IsKeyIter it d (i+1) es.size ep->Heap.SameBut it s.heap h'->Q (some es[i].key) { s with heap:=h' }):wpAny (model P w) A (pyNext (.ref it)) Q E s:=by
 have ty:=hi.typeIs
 obtain ⟨oi,hoi,hci,hdi⟩:=id hi
 have own:Builtin.Dict_items.ownsTuple "dict_keyiterator" = false:=by decide
 have nn:¬ ((Value.ref d == Value.none)=true):=Bool.false_ne_true
 have n0:¬ ((i:Int) < 0):=by omega
 unfold pyNext
 refine wpAny_bind (wpAny_attempt (wpAny_callSpecial?_slot (name:=Str.ofString "__next__") ty PySem.F.slot_dict_keyiterator_next (wpAny_call_entry PySem.F.slot_dict_keyiterator_next ty PySem.F.entry_dict_keyiterator_next ?_ (PySem.F.args_dict_keyiterator_next_1 _))))
 refine wpAny_bind (wpAny_pure (wpAny_bind (wpAny_bind ?_)))
 first
  | refine wpAny_bind (wpAny_typeNameOfWhole_keyiter ty (wpAny_pure (wpAny_bind (wpAny_fieldsOf hoi hdi ?_))))
  | refine wpAny_bind (wpAny_typeNameOf_keyiter ty (wpAny_pure (wpAny_bind (wpAny_fieldsOf hoi hdi ?_))))
 simp only [own,if_false,Bool.false_eq_true]
 show wpAny (model P w) _ (if (Value.ref d == Value.none)=true then _ else _) _ _ s
 rw [if_neg nn]
 refine wpAny_bind (wpAny_pure (wpAny_bind (wpAny_dictEntries ho hd ?_)))
 rw [if_neg (show ¬ _ by simp)]
 refine wpAny_bind (wpAny_pure (wpAny_bind (wpAny_dictEpoch ho hd ?_)))
 rw [if_neg (show ¬ _ by simp)]
 refine wpAny_pure ?_
 simp only [n0,if_false,Int.toNat_natCast,Array.getElem?_eq_getElem lt]
 refine wpAny_bind ?_
 first
  | refine wpAny_bind (wpAny_typeNameOfWhole_keyiter ty (wpAny_pure (wpAny_bind (wpAny_isOneOf_keyiter ty ?_))))
  | refine wpAny_bind (wpAny_typeNameOf_keyiter ty (wpAny_pure (wpAny_bind (wpAny_isOneOf_keyiter ty ?_))))
 show wpAny (model P w) _ (setField (.ref it) 1 (rawInt ((i:Int)+1)) >>= _) _ _ s
 refine wpAny_bind (wpAny_setField hoi hdi (show _ by simp) ?_)
 have hi':(s.heap.update it (Obj.mapFields fun fs=>fs.setIfInBounds 1 (rawInt ((i:Int)+1)))).IsKeyIter it d (i+1) es.size ep:=
  ⟨_,Heap.get?_update_self _ hoi (Obj.isFreed_of_fields (Obj.data_mapFields hdi _)),(Obj.cls_mapFields ..).trans hci,by
   rw [Obj.data_mapFields hdi]
   simp [rawInt]⟩
 have ty':Shared.TypeIs { s with heap:=s.heap.update it (Obj.mapFields fun fs=>fs.setIfInBounds 1 (rawInt ((i:Int)+1))) } (.ref it) "dict_keyiterator" := Heap.IsKeyIter.typeIs (s:={ s with heap:=_ }) hi'
 refine wpAny_bind (wpAny_holding (wpAny_bind (wpAny_isOneOf_keyiter ty' ?_)))
 show wpAny (model P w) _ (pure es[i].key) _ _ _
 exact wpAny_pure (wpAny_pure ⟨_,rfl,wpAny_pure (q _ hi' (Heap.SameBut.update ..))⟩)
theorem F0 {Q:Option Value->Shared->Prop} (hh:A.handled=none) (hi:s.heap.IsKeyIter it d i es.size ep) (ho:s.heap.get? d=some o) (hd:o.data=.dict es ep) (ge:es.size<=i)
  (q:∀ h',Heap.ExtBut it s.heap h'->Q none { s with heap:=h' }):wpAny (model P w) A (pyNext (.ref it)) Q E s:=by
 have ty:=hi.typeIs
 obtain ⟨oi,hoi,hci,hdi⟩:=id hi
 have own:Builtin.Dict_items.ownsTuple "dict_keyiterator" = false:=by decide
 have nn:¬ ((Value.ref d == Value.none)=true):=Bool.false_ne_true
 have n0:¬ ((i:Int) < 0):=by omega
 unfold pyNext
 refine wpAny_bind (wpAny_attempt (wpAny_callSpecial?_slot (name:=Str.ofString "__next__") ty PySem.F.slot_dict_keyiterator_next (wpAny_call_entry PySem.F.slot_dict_keyiterator_next ty PySem.F.entry_dict_keyiterator_next ?_ (PySem.F.args_dict_keyiterator_next_1 _))))
 refine wpAny_bind (wpAny_pure (wpAny_bind (wpAny_bind ?_)))
 first
  | refine wpAny_bind (wpAny_typeNameOfWhole_keyiter ty (wpAny_pure (wpAny_bind (wpAny_fieldsOf hoi hdi ?_))))
  | refine wpAny_bind (wpAny_typeNameOf_keyiter ty (wpAny_pure (wpAny_bind (wpAny_fieldsOf hoi hdi ?_))))
 simp only [own,if_false,Bool.false_eq_true]
 show wpAny (model P w) _ (if (Value.ref d == Value.none)=true then _ else _) _ _ s
 rw [if_neg nn]
 refine wpAny_bind (wpAny_pure (wpAny_bind (wpAny_dictEntries ho hd ?_)))
 rw [if_neg (show ¬ _ by simp)]
 refine wpAny_bind (wpAny_pure (wpAny_bind (wpAny_dictEpoch ho hd ?_)))
 rw [if_neg (show ¬ _ by simp)]
 refine wpAny_pure ?_
 simp only [n0,if_false,Int.toNat_natCast,Array.getElem?_eq_none ge]
 refine wpAny_bind ?_
 first
  | refine wpAny_bind (wpAny_typeNameOfWhole_keyiter ty (wpAny_pure ?_))
  | refine wpAny_bind (wpAny_typeNameOf_keyiter ty (wpAny_pure ?_))
 show wpAny (model P w) _ (setField (.ref it) 0 .none >>= _) _ _ s
 refine wpAny_bind (wpAny_setField hoi hdi (show _ by simp) ?_)
 show wpAny (model P w) _ (newExc (.type "StopIteration") [] >>= _) _ _ _
 refine wpAny_bind ?_
 simp only [newExc,newTuple]
 refine wpAny_bind (wpAny_newObj_type (wpAny_bind (m:=firstArgMember _ _) (wpAny_of_eq (a:=Value.none) (by first | rfl | (simp only [firstArgMember];rfl)) (wpAny_newObj_type ?_ (by size_fits)))) (by size_fits))
 simp only [raiseNew]
 have hn:A.in1.handled=none:=hh
 refine wpAny_bind (wpAny_handled (?_))
 rw [hn]
 refine wpAny_bind (wpAny_pure (wpAny_throw (?_)))
 refine wpAny_bind (wpAny_isInstance (b:=true) (T := "StopIteration") ⟨_,Heap.get?_push_size _ rfl,rfl⟩ isSubtype_stop (wpAny_pure (q _ (((Heap.SameBut.update ..).extBut.push _).push _))))
theorem vz {Q:Value->Shared->Prop} (ty:s.TypeIs (.ref d) "dict") (hs:(d == sysModules)=false) (ho:s.heap.get? d=some o) (hd:o.data=.dict es ep)
  (q:Q (.ref s.heap.objs.size) { s with heap:=s.heap.push { cls:=.type "dict_keyiterator",data:=.fields #[.ref d,.int 0 0,.int es.size 0,.int ep 0] } }):wpAny (model P w) A (pyIter (.ref d)) Q E s:=by
 refine wpAny_pyIter_slot ty PySem.F.slot_dict_iter (wpAny_call_entry PySem.F.slot_dict_iter ty PySem.F.entry_dict_iter ?_ (PySem.F.args_dict_iter_1 _))
 delta Builtin.«dict.__iter__»
 refine wpAny_bind ?_
 delta Builtin.Dict.dictSlotNone
 refine wpAny_bind (wpAny_notOrdered_dict ty ?_)
 show wpAny (model P w) _ (pure (Value.ref d)) _ _ s
 refine wpAny_pure ?_
 show wpAny (model P w) _ (Builtin.Dict.showsAll d >>= _) _ _ s
 delta Builtin.Dict.showsAll
 have nd:¬ ((d == sysModules)=true):=by rw [hs];exact Bool.false_ne_true
 rw [if_neg nd]
 refine wpAny_bind (wpAny_pure (wpAny_bind (wpAny_dictEntries ho hd (wpAny_bind (wpAny_dictEpoch ho hd ?_)))))
 refine wpAny_bind (wpAny_newObj_type (wpAny_pure ⟨_,rfl, "dict_keyiterator",_,⟨_,Heap.get?_push_size _ rfl,rfl⟩,PySem.F.slot_dict_keyiterator_next.lookup,?_⟩))
 simpa [rawInt] using q
end
section
variable {P:Program} {w:World}
theorem zU {A:Around} (hh:A.handled=none) (it d:Addr) (ne:d≠it) {es:Array DictEntry} {ep:Nat} {o:Obj} (hd:o.data=.dict es ep) :
  Walks P w A it [it,d] [it] es.size (fun i v=>(es[i]?).map (fun e=>e.key)=some v) (fun i h=>h.IsKeyIter it d i es.size ep/\h.get? d=some o) where
 sub:=fun b hb=>by
  rw [List.mem_singleton.mp hb]
  exact List.mem_cons_self ..
 frame:=fun _ _ _ st hk=>⟨st.1.at fun x e=>hk it (List.mem_cons_self ..) x e,hk d (List.mem_cons_of_mem _ (List.mem_cons_self ..)) o st.2⟩
 item:=fun i s Q E lt st q=>Kv st.1 st.2 hd lt fun h' k1 k2=>q _ h' s.toks (by rw [Array.getElem?_eq_getElem lt];rfl) ⟨k1,k2.extBut d o ne st.2⟩ fun b x nb e=>k2.extBut b x (fun z=>nb (List.mem_singleton.mpr z)) e
 done:=fun s Q E st q=>F0 hh st.1 st.2 hd (Nat.le_refl _) fun h' k=>q h' s.toks fun b x nb e=>k b x (fun z=>nb (List.mem_singleton.mpr z)) e
 self:=fun _ _ _ _ st q=>wpAny_pyIter_keyiter st.1 q
theorem FZ {d:Addr} {es:Array DictEntry} {ep:Nat} {o:Obj} (hs:(d == sysModules)=false) (hc:o.cls=.type "dict") (hd:o.data=.dict es ep) :
  PySem.W.KdlSrc P w "dict" d d es.size (fun i v=>(es[i]?).map (fun e=>e.key)=some v) (fun h=>h.get? d=some o) where
 type:=fun _ hm=>⟨o,hm,hc⟩
 there:=fun _ hm=>⟨Heap.lt_size hm,Heap.lt_size hm⟩
 keep:=fun _ _ hm hk=>hk d (.inl rfl) o hm
 notList:=by decide
 notTuple:=by decide
 hint:=fun _ _ _ _ hm hq=>PySem.W.kdl_hint_dict ⟨o,hm,hc⟩ hq
 iter:=fun _ s hh hm=>⟨_,_,(fun _ _ hq=>vz ⟨o,hm,hc⟩ hs hm hd hq),zU hh _ d (Nat.ne_of_lt (Heap.lt_size hm)) hd,⟨⟨_,Heap.get?_push_size _ rfl,rfl,rfl⟩,Heap.get?_push_of_some _ hm⟩⟩
end
section
variable {X:Cx}
theorem JH {pins:List (Addr×Obj)} {σ:St} {H:Hp} {s:Shared} {d:Addr} {kvs:List (List Key×V)} (I:Inv X pins σ H s) (ed:H d=some (.dT kvs)) :
  ∃ (ob:Obj) (es:Array DictEntry) (ep:Nat) (rs:List Addr),s.heap.get? d=some ob/\ob.cls=.type "dict" /\ ob.data=.dict es ep/\(d == sysModules)=false/\kvs.length<=sizeLine/\rs.length=kvs.length/\es.size=kvs.length /\
   (∀ i:Nat,(es[i]?).map (fun e:DictEntry=>e.key)=(rs[i]?).map Value.ref)/\∀ (i:Nat) r p,rs[i]?=some r->kvs[i]?=some p->H r=some (.tup (p.1.map kV)):=by
 obtain ⟨z,hd,xs,rel,dd⟩:=Dj I.hok ed
 obtain ⟨ob,es,ep,g1,g2,g3,g4,g5,g6⟩:=id dd
 obtain ⟨kl,kt⟩:=kt_at rel
 have hes:es.size=xs.length:=by have:=congrArg List.length g4;simpa using this
 refine ⟨ob,es,ep,xs.map fun y=>y.2.1,g1,g2.1,g3,hd,z,by rw [List.length_map,kl],by rw [hes,kl],fun i=>?_,fun i r p e1 e2=>?_⟩
 ·rw [<- Array.getElem?_toList,g4,List.getElem?_map,List.getElem?_map,Option.map_map,Option.map_map]
  cases xs[i]? <;> rfl
 ·obtain ⟨y,h1,h2,h3,h4⟩:=kt i p e2
  rw [List.getElem?_map,h1] at e1
  cases e1
  exact h3
theorem rC (hc:X.calm=true):bF X (.builtin "sorted") (fun xs H Q=>∃ (d:Addr) (kvs:List (List Key×V)) (kss:List (List Int)),xs=[.ref d]/\H d=some (.dT kvs)/\kvs.map (fun p=>p.1)=kss.map (fun ks=>ks.map Sum.inl)/\(∀ ks∈kss,ks≠[]) /\
  ∀ (rs:List Addr) l g,rs.length=kss.length->(∀ (i:Nat) (r:Addr) (ks:List Int),rs[i]?=some r->kss[i]?=some ks->H r=some (.tup (ks.map V.int)))->H l=none->Sx.Cl g 0 kss.length->Sx.So (Sx.Ec kss) g 0 kss.length ->
   Q (.ref l) (upd H l (.lst (((List.range kss.length).map fun i=>rs.getD (g i) 0).map V.ref)))):=by
 intro pins s σ H xs us Q I r h
 obtain ⟨d,kvs,kss,rfl,ed,ek,hne,q⟩:=h
 obtain ⟨u,rfl,rx⟩:=vals1 r
 cases rx
 obtain ⟨ob,es,ep,rs,g1,g2,g3,g4,g5,g6,g7,g8,g9⟩:=JH I ed
 have kl:kvs.length=kss.length:=by have:=congrArg List.length ek;simpa using this
 have tp:∀ (i:Nat) (r:Addr) (ks:List Int),rs[i]?=some r->kss[i]?=some ks->H r=some (.tup (ks.map V.int)):=fun i r ks e1 e2=>by
  have lt:i < kvs.length:=by rw [kl];exact (List.getElem?_eq_some_iff.mp e2).1
  have h1:=g9 i r kvs[i] e1 (List.getElem?_eq_getElem lt)
  have h2:(kvs.map (fun p=>p.1))[i]?=(kss.map (fun ks=>ks.map Sum.inl))[i]?:=by rw [ek]
  rw [List.getElem?_map,List.getElem?_map,e2,List.getElem?_eq_getElem lt] at h2
  have h3:kvs[i].1=ks.map Sum.inl:=Option.some.inj h2
  rw [h3,List.map_map] at h1
  exact h1
 refine Calls.call_function_entry kind_sorted plain_sorted entry_sorted (args_sorted1 _) ?_
 unfold Builtin.«sorted»
 refine wpAny_bind (m:=checkCount "sorted" 1 1 _) (wpAny_pure ?_)
 refine wpAny_bind (PySem.W.kdu_collect (FZ g4 g2 g3) (show X.A.in1.handled=none from I.ok.hd hc) g1 (by rw [g7];exact g5) fun h' tk acc hk hacc=>?_)
 have ea:acc.toList=rs.map Value.ref:=by
  refine List.ext_getElem? fun j=>?_
  rw [Array.getElem?_toList,List.getElem?_map,<- g8 j]
  cases e:acc[j]? with
  | some v=>exact (hacc.2 j v e).symm
  | none=>
   have:acc.size<=j:=Array.getElem?_eq_none_iff.mp e
   rw [Array.getElem?_eq_none (by rw [<- hacc.1];exact this)]
   rfl
 rw [ea]
 exact AF (s:=s) (I.kept (t':=tk) hk) (by rw [g6,kl]) (by rw [g6];exact g5) (fun i r ks e1 e2=>⟨fC.of (tp i r ks e1 e2),hne ks (List.mem_of_getElem? e2)⟩) fun l g h1 h2 h3=>q rs l g (by rw [g6,kl]) tp h1 h2 h3
end
section
variable {P:Program} {w:World} {A:Around} {E:Value->Shared->Prop} {s:Shared}
theorem Ah:typeLookup (.type "list") "keys" = pure none:=am_miss_of_fast (by kernel_rfl)
theorem AY {a:Addr} {o:Obj} {xs:Array Value} {k:Nat} {Q:Option Value->Shared->Prop} (hx:s.heap.get? a=some o) (hc:o.cls=.type "list") (hdat:o.data=.seq xs k) (hd:o.dict=none) (hA:A.handled=none)
  (h:∀ h' tk,(∀ b ob,s.heap.get? b=some ob->h'.get? b=some ob)->Q none { s with heap:=h',toks:=tk }):wpAny (model P w) A (getAttr? (.ref a) "keys") Q E s:=by
 obtain ⟨c,dct,dat,sl⟩:=o
 simp only at hc hdat hd
 subst hc hdat hd
 obtain ⟨hp,g,d,tk,os⟩:=s
 have hT:∀ tk',(⟨hp,g,d,tk',os⟩:Shared).TypeIs (.ref a) "list" := fun _=>⟨_,hx,rfl⟩
 have f1:=sub_AttributeError
 have f3:=F.slot_list_getattribute.lookup
 have f4:=F.slot_list_getattribute.bind (.ref a)
 have f5:=am_list_getattr_none
 unfold getAttr? getAttrBy? getAttrBy
 repeat (any_goals (first | assumption | exact hT _ | ((with_reducible show wpAny _ _ (call (Value.builtin "list.__getattribute__") _ _) _ _ _);refine call_meets F.slot_list_getattribute (hT _) am_entry_list_getattribute (F.args_list_getattribute_2 _ _) (meets_getattribute_miss_list a xs k sl "keys" _ Ah (by decide) (by size_fits)) ⟨hx,hA,fun h' tk' e hx'=>?_⟩) | wp_step))
 obtain ⟨t',u',he⟩:=hx'.there
 show wpAny _ _ (getattributeRaised _ _ _ _ _ _ _) _ _ _
 unfold getattributeRaised
 repeat (any_goals (first | assumption | wp_step))
 exact h _ _ hx'.keeps
theorem qW:entryFor table "dict.update.loop" = some Builtin.«dict.update.loop»:=entryFor_of_tree (by kernel_rfl)
theorem j0:plainId "dict.update.loop" = true:=by decide +kernel
noncomputable def DW (h:Heap) (d I:Addr) (its:List Value) (ps:List (Int×Value)):Prop:=∀ (i:Nat) (v:Value),its[i]?=some v->∃ (b:Addr) (p:Int×Value) (t:Tok),v=.ref b/\b≠d/\b≠I/\ps[i]?=some p/\IsTup h b #[.int p.1 t,p.2]
theorem DW.mono {h h':Heap} {d I:Addr} {its:List Value} {ps:List (Int×Value)} (x:DW h d I its ps) (k:∀ b o,b≠d->b≠I->h.get? b=some o->h'.get? b=some o):DW h' d I its ps:=fun i v hv=>by
 obtain ⟨b,p,t,h1,h2,h3,h4,o,h5,h6⟩:=x i v hv
 exact ⟨b,p,t,h1,h2,h3,h4,o,k b o h2 h3 h5,h6⟩
noncomputable def IE (ps:List (Int×Value)):List (Key×Value):=ps.foldl (fun acc p=>stored acc (Sum.inl p.1) p.2) []
theorem DQ (ps:List (Int×Value)) (i:Nat) (p:Int×Value) (h:ps[i]?=some p):IE (ps.take (i+1))=stored (IE (ps.take i)) (Sum.inl p.1) p.2:=by
 unfold IE
 rw [List.take_add_one,h,List.foldl_append];rfl
theorem zf:∀ (ps:List (Int×Value)) (acc:List (Key×Value)),(ps.foldl (fun acc p=>stored acc (Sum.inl p.1) p.2) acc).length<=acc.length+ps.length
 | [],acc=>Nat.le_refl _
 | p::ps,acc=>by
  have:=zf ps (stored acc (Sum.inl p.1) p.2)
  have h:(stored acc (Sum.inl p.1) p.2).length<=acc.length+1:=by
   unfold stored
   split
   ·rw [List.length_map];omega
   ·rw [List.length_append];exact Nat.le_refl _
  rw [List.foldl_cons,List.length_cons]
  omega
theorem Cj {R:Result->Shared->Prop} {I l d:Addr} {St:Nat->Heap->Prop} {its:List Value} {ps:List (Int×Value)} (W:Walks P w A.in1 I [I,l] [I] its.length (fun i v=>its[i]?=some v) St) (hdI:d≠I) (hdl:d≠l) (hl:ps.length=its.length) (hz:ps.length<=sizeLine) :
  ∀ (k i:Nat) (s:Shared),its.length - i=k->i<=its.length->St i s.heap->s.heap.DictOf (bN P w) d (IE (ps.take i))->DW s.heap d I its ps ->
   (∀ h' tk,h'.DictOf (bN P w) d (IE ps)->(∀ b o,b≠d->b≠I->s.heap.get? b=some o->h'.get? b=some o)->R (.ok (.ret .none)) { s with heap:=h',toks:=tk }) ->
   codeAny (model P w) A (.builtin "dict.update.loop" ⟨[.ref d,.ref I,rawInt i,.none],[]⟩) R s:=by
 intro k
 induction k with
 | zero=>
  intro i s hk hi hst hD hP hR
  have hin:i=its.length:=by omega
  subst hin
  refine codeAny_builtin qW ?_
  rw [Around.under_plainId j0 _]
  show wpAny _ A.in1 (pyNext (.ref I) >>= _) _ _ s
  refine wpAny_bind (W.done s _ _ hst fun h' tk hm=>?_)
  show wpAny _ A.in1 (Builtin.Dict.addKeywords d [] >>= _) _ _ _
  refine wpAny_bind (wpAny_pure (wpAny_pure (hR h' tk ?_ fun b o _ h2 e=>hm b o (by simpa using h2) e)))
  rw [<- hl,List.take_length] at hD
  obtain ⟨o,es,ep,ho,rest⟩:=hD
  exact ⟨o,es,ep,hm d o (by simpa using hdI) ho,rest⟩
 | succ k ih=>
  intro i s hk hi hst hD hP hR
  have hlt:i < its.length:=by omega
  refine codeAny_builtin qW ?_
  rw [Around.under_plainId j0 _]
  show wpAny _ A.in1 (pyNext (.ref I) >>= _) _ _ s
  refine wpAny_bind (W.item i s _ _ hlt hst fun v h' tk hv hst' hm=>?_)
  have hP':DW h' d I its ps:=hP.mono fun b o h1 h2 e=>hm b o (by simpa using h2) e
  obtain ⟨b,p,t,rfl,hbd,hbI,hp,o,ho,hc,n,hd⟩:=hP' i v hv
  have hD':h'.DictOf (bN P w) d (IE (ps.take i)):=by
   obtain ⟨o,es,ep,ho,rest⟩:=hD
   exact ⟨o,es,ep,hm d o (by simpa using hdI) ho,rest⟩
  have hT:Shared.TypeIs { s with heap:=h',toks:=tk } (.ref b) "tuple" := ⟨o,ho,hc⟩
  have hpair:∀ (A:Around) (E:Value->Shared->Prop) (Q:List Value->Shared->Prop),Q [.int p.1 t,p.2] { s with heap:=h',toks:=tk }->wpAny (model P w) A (Builtin.Dict.pairItems (.ref b)) Q E { s with heap:=h',toks:=tk }:=fun A E Q q=>by
   unfold Builtin.Dict.pairItems
   refine wpAny_bind (wpAny_typeOf hT ?_)
   rw [if_pos (by decide)]
   refine wpAny_bind (wpAny_seqItems ho hd (wpAny_pure q))
  have hlen:(IE (ps.take i)).length<=sizeLine:=by
   refine Nat.le_trans (zf (ps.take i) []) ?_
   rw [List.length_take,List.length_nil]
   omega
  refine wpAny_bind (wpAny_holding (wpAny_bind (wpAny_tryCatch (hpair _ _ _ ?_))))
  show wpAny _ _ (holding [Value.int p.1 t,p.2] (dictSet d (.int p.1 t) p.2)) _ _ _
  refine wpAny_holding (wpAny_dictSet_pairs (hsz:=hlen) (knd:=bN P w) (k:=Sum.inl p.1) (s:={ s with heap:=h',toks:=tk }) (show Value.isInt p.1 (.int p.1 t)=true by simp [Value.isInt]) hD' fun h2 hD2 hs=>?_)
  refine wpAny_pure ⟨plainId_quiet j0 _,?_⟩
  have hsame:∀ b o,b≠d->b≠I->s.heap.get? b=some o->h2.get? b=some o:=fun b o h3 h4 e=>by rw [hs.2 b h3];exact hm b o (by simpa using h4) e
  refine ih (i+1) _ (by omega) hlt (W.frame _ _ _ hst' fun b hb o e=>?_) (by rw [DQ ps i p hp];exact hD2) (hP.mono hsame) fun h3 tk3 hD3 hs3=>hR h3 tk3 hD3 fun b o h4 h5 e=>hs3 b o h4 h5 (hsame b o h4 h5 e)
  have hne:b≠d:=by
   intro z
   subst z
   rcases List.mem_cons.mp hb with z | z
   ·exact hdI z
   ·exact hdl (by simpa using z)
  show h2.get? b=some o
  rw [hs.2 b hne];exact e
theorem qm {pins:List (Addr×Obj)} {σ:L2.St} {H:Hp} {X:Cx} (I:Inv X pins σ H s):∀ (rs:List Addr) (ps:List (Int×V)),rs.length=ps.length->(∀ (i:Nat) (r:Addr) (q:Int×V),rs[i]?=some r->ps[i]?=some q->fC X.K H r [.int q.1,q.2]) ->
  ∃ qs:List (Int×Value),KV ps qs/\∀ (i:Nat) (r:Addr),rs[i]?=some r->∃ q t,qs[i]?=some q/\IsTup s.heap r #[.int q.1 t,q.2]
 | [],[],_,_=>⟨[],.nil,fun i r h=>by simp at h⟩
 | [],_::_,h,_=>nomatch h
 | _::_,[],h,_=>nomatch h
 | r::rs,p::ps,hl,hh=>by
  obtain ⟨qs,h1,h2⟩:=qm I rs ps (by simpa using hl) fun i r q e1 e2=>hh (i+1) r q (by simpa using e1) (by simpa using e2)
  obtain ⟨its,rv,tp,_⟩:=I.tuple (hh 0 r p rfl rfl)
  obtain ⟨u1,u2,rfl,r1,r2⟩:=vals2 rv
  obtain ⟨t,rfl⟩:∃ t,u1=Value.int p.1 t:=r1
  refine ⟨(p.1,u2)::qs,.cons ⟨rfl,r2⟩ h1,fun i r' e=>?_⟩
  cases i with
  | zero=>cases e;exact ⟨(p.1,u2),t,rfl,tp⟩
  | succ i=>exact h2 i r' (by simpa using e)
noncomputable def M3 (ps:List (Int×V)):List (Key×V):=ps.foldl (fun acc p=>putK acc (Sum.inl p.1) p.2) []
theorem LD:∀ {ps:List (Int×V)} {qs:List (Int×Value)},KV ps qs->∀ {as:List (Key×V)} {bs:List (Key×Value)},KV as bs->KV (ps.foldl (fun acc p=>putK acc (Sum.inl p.1) p.2) as) (qs.foldl (fun acc p=>stored acc (Sum.inl p.1) p.2) bs):=by
 intro ps qs h
 unfold KV at h
 induction h with
 | nil=>exact fun h=>h
 | @cons p q ps qs h t ih=>
  intro as bs h2
  rw [List.foldl_cons,List.foldl_cons]
  obtain ⟨e,r⟩:=h
  rw [e]
  exact ih (h2.put _ r)
theorem xY:∀ (ps:List (Int×V)) (acc:List (Key×V)),(ps.foldl (fun acc p=>putK acc (Sum.inl p.1) p.2) acc).length<=acc.length+ps.length
 | [],acc=>Nat.le_refl _
 | p::ps,acc=>by
  have:=xY ps (putK acc (Sum.inl p.1) p.2)
  have:=jv acc (Sum.inl p.1) p.2
  rw [List.foldl_cons,List.length_cons]
  omega
end
section
variable {X:Cx}
theorem wN (hc:X.calm=true):bF X (.type "dict") (fun xs H Q=>∃ (p:Addr) (rs:List Addr) (ps:List (Int×V)),xs=[.ref p]/\ir X.K H p (rs.map V.ref)/\rs.length=ps.length /\
  (∀ (i:Nat) (r:Addr) (q:Int×V),rs[i]?=some r->ps[i]?=some q->fC X.K H r [.int q.1,q.2])/\∀ l,H l=none->Q (.ref l) (upd H l (.dK (M3 ps)))):=by
 intro pins s σ H xs us Q I r h
 obtain ⟨p,rs,ps,rfl,hq,hlen,hT,q⟩:=h
 obtain ⟨u,rfl,rx⟩:=vals1 r
 cases rx
 obtain ⟨its,rv,pl,hz⟩:=I.list hq
 have ei:=qO rv
 subst ei
 rw [List.length_map] at hz
 obtain ⟨qs,kv,tp⟩:=qm I rs ps hlen hT
 have ql:ps.length=qs.length:=kv.length
 obtain ⟨o,n,ho,hcl,hdn,hd⟩:=pl
 have lp:p < s.heap.objs.size:=Heap.lt_size ho
 refine callType_codes (Q₁:=fun obj s₁=>obj=.ref s.heap.objs.size/\s₁={ s with heap:=s.heap.push { cls:=.type "dict",data:=.dict #[] } }) F.kt_called_dict (F.kt_typeCall_dict_1 _) F.entry_dict_init (kt_code_dict_new _ ⟨rfl,rfl⟩) ?_
 rintro obj s₁ ⟨rfl,rfl⟩
 have hnew:(s.heap.push { cls:=.type "dict",data:=.dict #[] }).DictOf (bN X.prog X.w) s.heap.objs.size []:=Heap.DictOf.new s.heap
 have ho':(s.heap.push { cls:=.type "dict",data:=.dict #[] }).get? p=some o:=Heap.get?_push_of_some _ ho
 have hTy:Shared.TypeIs { s with heap:=s.heap.push { cls:=.type "dict",data:=.dict #[] } } (.ref p) "list" := ⟨o,ho',hcl⟩
 refine ⟨hnew.typeIs,F.args_dict_init_2 _ _,?_⟩
 unfold Builtin.«dict.__init__»
 refine wpAny_bind ?_
 unfold Builtin.Dict.selfAndRest
 refine wpAny_bind (wpAny_notOrdered_dict hnew.typeIs ?_)
 show wpAny _ _ (pure (s.heap.objs.size,[Value.ref p])) _ _ _
 refine wpAny_pure ?_
 show wpAny _ _ (Builtin.Dict.updateFrom "dict.__init__" s.heap.objs.size (.ref p) [] .none) _ _ _
 unfold Builtin.Dict.updateFrom
 refine wpAny_bind (wpAny_typeOf hTy ?_)
 rw [if_pos (by decide)]
 refine wpAny_bind (AY ho' hcl hd hdn (show X.A.in1.in1.handled=none from I.ok.hd hc) fun h' tk hk=>?_)
 rw [if_pos (by rfl)]
 refine wpAny_bind (wpAny_rule ?_)
 have hl2:h'.IsList p (rs.map Value.ref).toArray:=⟨o,hk p o ho',hcl,n,hd⟩
 refine wpAny_bind (wpAny_pyIter_list (s:={ s with heap:=h',toks:=tk }) hl2 ?_)
 refine wpAny_pure ⟨plainId_quiet j0 _,?_⟩
 have sz:s.heap.objs.size < h'.objs.size:=Heap.lt_size (hk _ _ (Heap.get?_push_size _ rfl))
 have W:Walks X.prog X.w X.A.in1.in1 h'.objs.size [h'.objs.size,p] [h'.objs.size] (rs.map Value.ref).length (fun i v=>(rs.map Value.ref)[i]?=some v) (fun i h=>h.IsListIter h'.objs.size p i/\h.IsList p (rs.map Value.ref).toArray):=by
  have W:=Walks.list (prog:=X.prog) (w:=X.w) (A:=X.A.in1.in1) (I.ok.hd hc) h'.objs.size p (Nat.ne_of_lt (Heap.lt_size (hk p o ho'))) (rs.map Value.ref).toArray
  rw [List.size_toArray] at W
  simp only [List.getElem?_toArray] at W
  exact W
 refine Cj (d:=s.heap.objs.size) (its:=rs.map Value.ref) (ps:=qs) W (Nat.ne_of_lt sz) (Ne.symm (Nat.ne_of_lt lp)) (by rw [List.length_map];omega) (by omega) (rs.map Value.ref).length 0 _ (by omega) (Nat.zero_le _)
  ⟨⟨_,Heap.get?_push_size _ rfl,rfl,rfl⟩,hl2.push _⟩ ?_ (fun i v hv=>?_) fun h2 tk2 hD hs=>⟨rfl,.ref s.heap.objs.size,_,I.laid (t':=tk2) (o:=.dK (M3 ps)) (fun b ob eb=>?_) (Nat.le_refl _) ?_,rfl,q _ (I.hok.fresh (Nat.le_refl _))⟩
 ·obtain ⟨o,es,ep,e,rest⟩:=hnew
  exact ⟨o,es,ep,Heap.get?_push_of_some _ (hk _ _ e),rest⟩
 ·rw [List.getElem?_map] at hv
  obtain ⟨r,hr,rfl⟩:=Option.map_eq_some_iff.mp hv
  obtain ⟨q,t,h1,o2,h2,h3⟩:=tp i r hr
  have lr:=Heap.lt_size h2
  exact ⟨r,q,t,rfl,Nat.ne_of_lt lr,Nat.ne_of_lt (Nat.lt_trans lr sz),h1,o2,Heap.get?_push_of_some _ (hk _ _ (Heap.get?_push_of_some _ h2)),h3⟩
 ·have lb:=Heap.lt_size eb
  exact hs b ob (Nat.ne_of_lt lb) (Nat.ne_of_lt (Nat.lt_trans lb sz)) (Heap.get?_push_of_some _ (hk _ _ (Heap.get?_push_of_some _ eb)))
 ·refine Di (Nat.le_trans (xY ps []) (by rw [List.length_nil];omega)) ?_ (LD kv .nil) hD
  exact beq_eq_false_iff_ne.mpr (Ne.symm (Nat.ne_of_lt I.big))
noncomputable def Gs (ns:List Int):Sx.Ord where
 lt i j:=decide (ns.getD i 0 < ns.getD j 0)
 EK i:=decide_eq_false (by omega)
 tr i j k h1 h2:=decide_eq_true (by have:=of_decide_eq_true h1;have:=of_decide_eq_true h2;omega)
 neg i j k h:=by
  have:=of_decide_eq_true h
  by_cases c:ns.getD i 0 < ns.getD j 0
  ·exact .inl (decide_eq_true c)
  ·exact .inr (decide_eq_true (by omega))
theorem nS:∀ {vs:List Value} {ns:List Int},IntsAre vs ns->vs.length=ns.length/\∀ i,i < vs.length->∃ t,vs.getD i .none=.int (ns.getD i 0) t
 | _,_,.nil=>⟨rfl,fun i h=>absurd h (Nat.not_lt_zero _)⟩
 | _,_,.cons n t h=>by
  obtain ⟨h1,h2⟩:=nS h
  refine ⟨congrArg (·+1) h1,fun i hi=>?_⟩
  cases i with
  | zero=>exact ⟨t,rfl⟩
  | succ i=>exact h2 i (by simpa using hi)
theorem oM {f:Nat->Int} {h:Nat->Value}:∀ (l:List Nat),(∀ i∈l,∃ t,h i=.int (f i) t)->Vals (l.map fun i=>V.int (f i)) (l.map h)
 | [],_=>.nil
 | i::l,e=>.cons (e i (List.mem_cons_self ..)) (oM l fun j hj=>e j (List.mem_cons_of_mem _ hj))
theorem vM {pins:List (Addr×Obj)} {s:Shared} {σ:St} {H:Hp} {Q:VK} {h':Heap} {tk:Nat} {vs:List Value} {ns:List Int} (I1:Inv X pins σ H { s with heap:=h',toks:=tk }) (hi:IntsAre vs ns) (hz:vs.length<=sizeLine)
  (q:∀ l g,H l=none->Sx.Cl g 0 ns.length->Sx.So (Gs ns) g 0 ns.length->Q (.ref l) (upd H l (.lst ((List.range ns.length).map fun i=>V.int (ns.getD (g i) 0))))) :
  wpAny (model X.prog X.w) X.A.in1 (do
   let l <- newList vs
   let _ <- holding [l] (call (Value.builtin "list.sort") [l] [])
   ret l) (fun fin s'=>∃ v,fin=Fin.done (Flow.ret v)/\EP X pins σ Q v s') X.xe { s with heap:=h',toks:=tk }:=by
 obtain ⟨hN,at_⟩:=nS hi
 refine wpAny_bind (wpAny_newList ?_)
 have hoL:(h'.push (seqObj "list" vs.toArray 0)).get? h'.objs.size=some (seqObj "list" vs.toArray 0):=Heap.get?_push_size _ rfl
 show wpAny _ _ _ _ _ { s with toks:=tk,heap:=h'.push (seqObj "list" vs.toArray 0) }
 refine wpAny_bind (wpAny_holding (wpAny_call_entry slot_list_sort ⟨_,hoL,rfl⟩ entry_list_sort (Sx.rB (o:=Gs ns) (kd:=oneType') hoL hz (fun h2 Q' q'=>?_) (fun h2 i j hi' hj E' Q' q'=>?_) fun g hc hs=>⟨_,rfl,?_⟩) (args_list_sort _)))
 ·obtain ⟨a,b,r,rfl⟩:∃ a b r,vs=a::b::r:=by
   cases vs with
   | nil=>simp at h2
   | cons a vs=>cases vs with
    | nil=>simp at h2
    | cons b r=>exact ⟨a,b,r,rfl⟩
  exact wpAny_of_eq (keyKind_ints hi) q'
 ·obtain ⟨t,e1⟩:=at_ i hi'
  obtain ⟨u,e2⟩:=at_ j hj
  show wpAny _ _ (keyLt' oneType' (vs.getD i .none) (vs.getD j .none)) Q' E' _
  rw [e1,e2,keyLt'_oneType]
  exact Sx.yl true q'
 ·rw [hN] at hc hs ⊢
  obtain ⟨e,he⟩:=sortedHeap_at (out:=((List.range ns.length).map fun i=>vs.getD (g i) .none).toArray) hoL
  have old:∀ b ob,h'.get? b=some ob->(sortedHeap (h'.push (seqObj "list" vs.toArray 0)) h'.objs.size vs ((List.range ns.length).map fun i=>vs.getD (g i) .none).toArray).get? b=some ob:=fun b ob eb=>by
   rw [sortedHeap_old (Nat.ne_of_lt (Heap.lt_size eb)) (by rw [Heap.size_push];exact Nat.lt_succ_of_lt (Heap.lt_size eb))]
   exact Heap.get?_push_of_some _ eb
  refine wpAny_pure ⟨_,rfl,.ref h'.objs.size,_,I1.laid (t':=tk) (o:=.lst ((List.range ns.length).map fun i=>V.int (ns.getD (g i) 0))) old (Nat.le_refl _) ?_,rfl,q _ g (I1.hok.fresh (Nat.le_refl _)) hc hs⟩
  refine ⟨by rw [List.length_map,List.length_range];omega,(List.range ns.length).map fun i=>vs.getD (g i) .none,e,oM _ fun i hi=>at_ _ (by have:=(hc i (Nat.zero_le _) (List.mem_range.mp hi)).2;omega),he⟩
theorem Ai {P:Program} {w:World} {vs:List (Key×Value)}:∀ {acc:List Value} {ns:List Int},vs.map (·.1)=ns.map Sum.inl->acc.length=vs.length->(∀ (j:Nat) v,acc[j]?=some v->∃ k x,vs[j]?=some (k,x)/\(bN P w).is k v=true)->IntsAre acc ns:=by
 intro acc ns hk hl h
 induction acc generalizing vs ns with
 | nil=>cases vs with
  | nil=>cases ns with
   | nil=>exact .nil
   | cons=>cases hk
  | cons=>cases hl
 | cons a acc ih=>cases vs with
  | nil=>cases hl
  | cons v vs=>cases ns with
   | nil=>cases hk
   | cons n ns=>
    rw [List.map_cons,List.map_cons,List.cons.injEq] at hk
    obtain ⟨k,x,e1,e2⟩:=h 0 a rfl
    cases e1
    obtain ⟨e3,e4⟩:=hk
    have e3:k=Sum.inl n:=e3
    subst e3
    obtain ⟨t,rfl⟩:=Value.isInt_shape (k:=n) (v:=a) e2
    exact .cons n t (ih e4 (by simpa using hl) fun j v e=>h (j+1) v (by simpa using e))
theorem rG (hc:X.calm=true):bF X (.builtin "sorted") (fun xs H Q=>∃ (d:Addr) (kvs:List (Key×V)) (ns:List Int),xs=[.ref d]/\H d=some (.dK kvs)/\kvs.map (fun p=>p.1)=ns.map Sum.inl /\
  ∀ l g,H l=none->Sx.Cl g 0 ns.length->Sx.So (Gs ns) g 0 ns.length->Q (.ref l) (upd H l (.lst ((List.range ns.length).map fun i=>V.int (ns.getD (g i) 0))))):=by
 intro pins s σ H xs us Q I r h
 obtain ⟨d,kvs,ns,rfl,ed,ek,q⟩:=h
 obtain ⟨u,rfl,rx⟩:=vals1 r
 cases rx
 obtain ⟨z,hd,vs,rel,dd⟩:=Hf I.hok ed
 obtain ⟨ep,da⟩:=dd.dictAt
 have kl:kvs.length=vs.length:=rel.length
 have ke:vs.map (·.1)=kvs.map (·.1):=by
  clear ek z dd da kl ed
  unfold KV at rel
  induction rel with
  | nil=>rfl
  | cons h _ ih=>rw [List.map_cons,List.map_cons,ih,h.1]
 refine Calls.call_function_entry kind_sorted plain_sorted entry_sorted (args_sorted1 _) ?_
 unfold Builtin.«sorted»
 refine wpAny_bind (m:=checkCount "sorted" 1 1 _) (wpAny_pure ?_)
 refine wpAny_bind (PySem.W.kdu_collect (PySem.W.kdl_dict hd) (show X.A.in1.handled=none from I.ok.hd hc) da (by omega) fun h' tk acc hk hacc=>?_)
 have al:acc.toList.length=vs.length:=by rw [Array.length_toList];exact hacc.1
 exact vM (s:=s) (I.kept (t':=tk) hk) (Ai (P:=X.prog) (w:=X.w) (ke.trans ek) al fun j v e=>hacc.2 j v (by rw [Array.getElem?_toList] at e;exact e)) (by omega) q
end
end L2
namespace Am
open PySem PySem.Spec PyProof.Rows L2
noncomputable def b8 (S:az) (n:Nat):Option (List (Int×A)):=match S[n]? with
 | some (.eY xs)=>some xs
 | _=>none
theorem fN {S:az} {n:Nat} {xs:List (Int×A)} (h:b8 S n=some xs):S[n]?=some (.eY xs):=by
 unfold b8 at h
 split at h
 ·rename_i e;cases h;exact e
 ·cases h
theorem tw {S:az} {n:Nat} {xs:List (Int×A)} (h:S[n]?=some (.eY xs)):b8 S n=some xs:=by
 unfold b8;rw [h]
noncomputable def dP (kvs:List (Int×A)) (k:Int):Option A:=(kvs.find? fun kv=>decide (kv.1=k)).map (·.2)
noncomputable def mW (kvs:List (Int×A)) (k:Int) (v:A):List (Int×A):=
 if (dP kvs k).isSome=true then kvs.map (fun kv=>if kv.1=k then (kv.1,v) else kv) else kvs++[(k,v)]
section
variable {K:PySem.W.Frag} {ρ ρ':List Addr} {H H':Hp}
theorem zS {p:Int×A} {r:List (Int×A)} {k:Int} (e:p.1=k):dP (p::r) k=some p.2:=by simp [dP,List.find?_cons,e]
theorem Az {p:Int×A} {r:List (Int×A)} {k:Int} (e:¬ p.1=k):dP (p::r) k=dP r k:=by simp [dP,List.find?_cons,e]
theorem LP {a b:Int} (e:(Sum.inl a:Key)=Sum.inl b):a=b:=by injection e
theorem DI.look:∀ {kvs:List (Int×A)} {ks:List (Key×V)} (k:Int),DI K ρ H kvs ks->(dP kvs k).isSome=(fV ks (Sum.inl k:Key)).isSome/\∀ x,dP kvs k=some x->∃ v,fV ks (Sum.inl k:Key)=some v/\AV K ρ H x v
 | [],[],k,_=>⟨rfl,fun x h=>nomatch h⟩
 | p::r,q::r',k,⟨⟨e,a⟩,t⟩=>by
  by_cases c:p.1=k
  ·have c':q.1=(Sum.inl k:Key):=by rw [e,c]
   rw [zS c,jD c']
   exact ⟨rfl,fun x h=>by cases h;exact ⟨_,rfl,a⟩⟩
  ·have c':¬ q.1=(Sum.inl k:Key):=fun z=>c (LP (e.symm.trans z))
   rw [Az c,jw c']
   exact DI.look k t
theorem DI.repl {x:A} {v:V} (h:AV K ρ H x v) (k:Int):∀ {kvs:List (Int×A)} {ks:List (Key×V)},DI K ρ H kvs ks->DI K ρ H (kvs.map fun kv=>if kv.1=k then (kv.1,x) else kv) (ks.map fun kv=>if kv.1=(Sum.inl k:Key) then (kv.1,v) else kv)
 | [],[],_=>trivial
 | p::r,q::r',⟨⟨e,a⟩,t⟩=>by
  refine ⟨?_,DI.repl h k t⟩
  dsimp only
  by_cases c:p.1=k
  ·rw [if_pos c,if_pos (by rw [e,c])];exact ⟨e,h⟩
  ·rw [if_neg c,if_neg (fun z=>c (LP (e.symm.trans z)))];exact ⟨e,a⟩
theorem DI.snoc {x:A} {v:V} (h:AV K ρ H x v) (k:Int):∀ {kvs:List (Int×A)} {ks:List (Key×V)},DI K ρ H kvs ks->DI K ρ H (kvs++[(k,x)]) (ks++[(Sum.inl k,v)])
 | [],[],_=>⟨⟨rfl,h⟩,trivial⟩
 | p::r,q::r',⟨a,t⟩=>⟨a,DI.snoc h k t⟩
theorem DI.put {x:A} {v:V} (h:AV K ρ H x v) (k:Int) {kvs:List (Int×A)} {ks:List (Key×V)} (d:DI K ρ H kvs ks):DI K ρ H (mW kvs k x) (putK ks (Sum.inl k:Key) v):=by
 unfold mW putK
 rw [lP,<- (d.look k).1]
 by_cases c:(dP kvs k).isSome=true
 ·rw [if_pos c,if_pos c];exact DI.repl h k d
 ·rw [if_neg c,if_neg c];exact DI.snoc h k d
theorem DI.length:∀ {kvs:List (Int×A)} {ks:List (Key×V)},DI K ρ H kvs ks->kvs.length=ks.length
 | [],[],_=>rfl
 | _::_,_::_,⟨_,t⟩=>congrArg (·+1) t.length
theorem DI.keys:∀ {kvs:List (Int×A)} {ks:List (Key×V)},DI K ρ H kvs ks->ks.map (·.1)=kvs.map fun kv=>(Sum.inl kv.1:Key)
 | [],[],_=>rfl
 | _::_,_::_,⟨⟨e,_⟩,t⟩=>by rw [List.map_cons,List.map_cons,e,DI.keys t]
theorem Rel.eY {S:az} {n:Nat} {a:Addr} {xs:List (Int×A)} (R:Rel K ρ H S) (ha:ρ[n]?=some a) (hS:S[n]?=some (.eY xs)):∃ vs,H a=some (.dK vs)/\DI K ρ H xs vs:=R.at n a _ ha hS
theorem Rel.Lo {S:az} {p:Addr} {xs:List (Int×A)} {vs:List (Key×V)} (R:Rel K ρ H S) (hp:H p=none) (r:DI K ρ H xs vs):Ext ρ (ρ++[p]) H (upd H p (.dK vs))/\Rel K (ρ++[p]) (upd H p (.dK vs)) (S++[.eY xs])/\(ρ++[p])[S.length]?=some p:=by
 have ex:Ext ρ (ρ++[p]) H (upd H p (.dK vs)):=⟨⟨List.prefix_append _ _,fun a u _ h=>by rw [aK (bf h hp)];exact h⟩,fun a u h _=>by rw [aK (bf h hp)];exact h,fun a h=>by
  rcases List.mem_append.mp h with z | z
  ·exact .inl z
  ·have e:a=p:=by simpa using z
   rw [e];exact .inr hp⟩
 have np:p∉ρ:=R.Ew hp
 have last:(ρ++[p])[S.length]?=some p:=by rw [<- R.len];simp
 refine ⟨ex,⟨by simp [R.len],?_,?_⟩,last⟩
 ·rw [List.nodup_append]
  refine ⟨R.nd,by simp,fun a ha b hb e=>?_⟩
  have:b=p:=by simpa using hb
  exact np (by rw [<- this,<- e];exact ha)
 ·intro n a o h1 h2
  by_cases hn:n < S.length
  ·rw [List.getElem?_append_left (by rw [R.len];exact hn)] at h1
   rw [List.getElem?_append_left hn] at h2
   have na:a≠p:=fun z=>np (by rw [<- z];exact List.mem_of_getElem? h1)
   have:=R.at n a o h1 h2
   cases o with
   | lst ys=>obtain ⟨ws,e,q⟩:=this;exact ⟨ws,by rw [aK na];exact e,q.ext ex⟩
   | dct _ | eY _=>obtain ⟨ws,e,q⟩:=this;exact ⟨ws,by rw [aK na];exact e,q.ext ex⟩
   | ins _ _=>obtain ⟨oo,uu,e⟩:=this;exact ⟨oo,uu,by rw [aK na];exact e⟩
  ·have e:n=S.length:=by
    have:=(List.getElem?_eq_some_iff.mp h2).1
    simp at this
    omega
   subst e
   rw [last] at h1
   cases h1
   simp at h2
   subst h2
   exact ⟨vs,bJ,r.ext ex⟩
theorem Rel.mW {S:az} {n:Nat} {a:Addr} {xs ys:List (Int×A)} {ws:List (Key×V)} (R:Rel K ρ H S) (ha:ρ[n]?=some a) (hS:S[n]?=some (.eY xs)) (r:DI K ρ H ys ws):Ext ρ ρ H (upd H a (.dK ws))/\Rel K ρ (upd H a (.dK ws)) (S.set n (.eY ys)):=by
 obtain ⟨vs,e,_⟩:=R.at n a _ ha hS
 have ex:Ext ρ ρ H (upd H a (.dK ws)):=⟨⟨List.prefix_refl _,fun b u i h=>by
  have:b≠a:=by
   intro z;subst z;rw [e] at h;cases h;exact i
  rw [aK this];exact h⟩,fun b u h n=>by
  rw [aK (fun z=>n (by rw [z];exact List.mem_of_getElem? ha))];exact h,fun _ h=>.inl h⟩
 refine ⟨ex,by rw [List.length_set];exact R.len,R.nd,fun m b o h1 h2=>?_⟩
 by_cases hm:m=n
 ·subst hm
  rw [ha] at h1;cases h1
  rw [List.getElem?_set_self (List.getElem?_eq_some_iff.mp hS).1] at h2
  cases h2
  exact ⟨ws,bJ,r.ext ex⟩
 ·rw [List.getElem?_set_ne (Ne.symm hm)] at h2
  have nb:b≠a:=fun z=>by
   subst z
   obtain ⟨l1,e1⟩:=List.getElem?_eq_some_iff.mp ha
   obtain ⟨l2,e2⟩:=List.getElem?_eq_some_iff.mp h1
   exact hm ((List.getElem_inj R.nd).mp (e2.trans e1.symm))
  have:=R.at m b o h1 h2
  cases o with
  | lst ys=>obtain ⟨ws',e',q⟩:=this;exact ⟨ws',by rw [aK nb];exact e',q.ext ex⟩
  | dct _ | eY _=>obtain ⟨ws',e',q⟩:=this;exact ⟨ws',by rw [aK nb];exact e',q.ext ex⟩
  | ins _ _=>obtain ⟨oo,uu,e'⟩:=this;exact ⟨oo,uu,by rw [aK nb];exact e'⟩
end
section
variable {X:Cx} {pos:Pos} {a b:Expr}
noncomputable def mJ (x y:A) (S:az):R A:=match x,y with
 | .ref n,.int k=>opt (b8 S n) fun kvs=>opt (dP kvs k) fun v=>.ok v S
 | _,_=>.no
theorem Ax {x y:A} {S:az} {P:A->az->Prop} {E:Str->az->Prop} (h:(mJ x y S).post P E):∃ n k kvs v,x=.ref n/\y=.int k/\b8 S n=some kvs/\dP kvs k=some v/\P v S:=by
 unfold mJ at h
 split at h
 ·obtain ⟨kvs,h1,h⟩:=aL h
  obtain ⟨v,h2,h⟩:=aL h
  exact ⟨_,_,kvs,v,rfl,rfl,h1,h2,h⟩
 ·exact h.elim
theorem Lm (hu:X.A.units+64 < cLine):Hq X (r2 X mJ):=fun value slice pins s σ H x y v u Q I rx ry ⟨ρ,S,a,b,R,va,vb,h⟩ hs=>by
 obtain ⟨n,k,kvs,z,ha,hb,hn,hz,hP⟩:=Ax h
 subst ha hb
 cases vb
 cases va with
 | @ref p _ hp=>
  obtain ⟨ks,e,d⟩:=R.eY hp (fN hn)
  obtain ⟨w,hw,aw⟩:=(d.look k).2 z hz
  have g:mP H p (kV (Sum.inl k)) (fV ks (Sum.inl k)):=mP.k e
  rw [hw] at g
  exact yk (by omega) value slice pins s σ H _ _ v u Q I rx ry ⟨p,w,rfl,g,hP _ _ _ .refl R aw⟩ hs
theorem rR (hu:X.A.units+64 < cLine) {ca cb:Ex} (ha:AE X a ca) (hb:AE X b cb) (hs:nI b:=by exact fun _ _=>rfl):AE X (.Subscript a b pos) (aJ mJ ca cb):=PE.imp (B6 (Lm hu) ha hb hs) fun σ H Q h=>jU h
noncomputable def qA (o i v:A) (S:az):R Unit:=match o,i with
 | .ref n,.int k=>opt (b8 S n) fun kvs=>gd (kvs.length < sizeLine) (.ok () (S.set n (.eY (mW kvs k v))))
 | _,_=>.no
theorem vL {x y v:A} {S:az} {P:Unit->az->Prop} {E:Str->az->Prop} (h:(qA x y v S).post P E):∃ n k kvs,x=.ref n/\y=.int k/\b8 S n=some kvs/\kvs.length < sizeLine/\P () (S.set n (.eY (mW kvs k v))):=by
 unfold qA at h
 split at h
 ·obtain ⟨kvs,h1,h⟩:=aL h
  obtain ⟨h2,h⟩:=bu h
  exact ⟨_,_,kvs,rfl,rfl,h1,h2,h⟩
 ·exact h.elim
noncomputable def Nk (X:Cx):zP:=fun o i v H Q=>∃ ρ S ao ai av,Rel X.K ρ H S/\AV X.K ρ H ao o/\AV X.K ρ H ai i/\AV X.K ρ H av v/\(qA ao ai av S).post (fun _ S'=>∀ ρ' H',Ext ρ ρ' H H'->Rel X.K ρ' H' S'->Q H') (XE X ρ H)
theorem E7 (hu:X.A.units+64 < cLine):AJ X (Nk X):=fun pins s σ H o i v ov iv u Q I ro ri rv h9=>by
 obtain ⟨ρ,S,ao,ai,av,R,h1,h2,h3,h⟩:=h9
 obtain ⟨n,k,kvs,ha,hb,hn,hl,hP⟩:=vL h
 subst ha hb
 cases h2
 cases h1 with
 | @ref p _ hp=>
  obtain ⟨ks,e,d⟩:=R.eY hp (fN hn)
  obtain ⟨ex,R'⟩:=R.mW hp (fN hn) (d.put h3 k)
  exact set_dict (by omega) pins s σ H _ _ v ov iv u Q I ro ri rv ⟨p,_,rfl,uM.k (k:=Sum.inl k) e (by rw [<- d.length];exact hl),hP _ _ ex R'⟩
noncomputable def vf (co ci:Ex):Tg:=fun a τ S=>(co τ S).bind fun o S1=>(ci τ S1).bind fun i S2=>(qA o i a S2).bind fun _ S3=>.ok τ S3
theorem nJ (hu:X.A.units+64 < cLine) {o i:Expr} {co ci:Ex} (ho:AE X o co) (hi:AE X i ci)
  (ha:∀ v,assign (.Subscript o i pos) X.env v=(do
   let ov <- holding [v] (eval o X.env)
   let iv <- holding [v,ov] (eval i X.env)
   standAt pos
   holding [v,ov,iv] (setItem ov iv v)
   release [v,ov,iv] []):=by intro _;rfl):AG X (.Subscript o i pos) (vf co ci):=PG.imp (v8 ho hi (E7 hu) ha) fun v σ H Q h9=>by
 obtain ⟨ρ,S,τ,a,R,r,va,h⟩:=h9
 refine ⟨ρ,S,τ,R,r,aI (aM h) .refl fun o S1 h1 ρ1 H1 x e1 R1 v1=>⟨ρ1,S1,τ,R1,r.ext e1,aI (aM h1) e1 fun i S2 h2 ρ2 H2 y e2 R2 v2=>?_⟩⟩
 refine ⟨ρ2,S2,o,i,a,R2,v1.ext e2,v2,va.ext (e1.trans e2),aI (aM h2) (e1.trans e2) fun _ S3 h3 ρ3 H3 e3 R3=>?_⟩
 exact h3 ρ3 H3 σ ((e1.trans e2).trans e3) R3 (r.ext ((e1.trans e2).trans e3))
noncomputable def oW:Ex:=fun _ S=>.ok (.ref S.length) (S++[.eY []])
theorem oF:AE X (.Dict [] [] pos) oW:=PE.imp CB fun σ H Q ⟨ρ,S,τ,R,r,h⟩ p hp=>by
 obtain ⟨ex,R',hl⟩:=R.Lo (xs:=[]) (vs:=[]) hp trivial
 exact h _ _ _ ex R' (.ref hl)
noncomputable def dk? (a:A) (S:az):Option Unit:=match a with
 | .ref n=>(b8 S n).map fun _=>()
 | _=>none
noncomputable def ug (f:A->List A->az->R A) (co:Ex) (d:gB):Ex:=fun τ S=>(co τ S).bind fun x S1=>opt (dk? x S1) fun _=>(d τ S1).bind fun as S2=>f x as S2
theorem dk?_ty {K:PySem.W.Frag} {ρ:List Addr} {H:Hp} {S:az} {x:A} {v:V} {u:Unit} (R:Rel K ρ H S) (a:AV K ρ H x v) (e:dk? x S=some u):LJ K "dict" v H:=by
 cases a with
 | @ref p n h=>
  obtain ⟨xs,hx,_⟩:=Option.map_eq_some_iff.mp e
  obtain ⟨vs,h1,_⟩:=R.eY h (fN hx)
  exact .inr (.inr (.inl ⟨rfl,.inl ⟨vs,h1⟩⟩))
 | _=>cases e
theorem sC {o e:Expr} {es:List Expr} {name:Str} {id:String} {apos cpos:Pos} {f:A->List A->az->R A} {co:Ex} {d:gB} (slot:Slot "dict" name id) (hty:typeOf (.builtin id)=pure (.type "method_descriptor")) (hm:HD X id (rM X f)) (ho:AE X o co) (ha:AL X (e::es) d)
  (hbase:attributeBase o name X.env (eval o X.env)=eval o X.env:=by rfl)
  (hfew:((backTo cpos (starEach (e::es) X.env)).all (fun x=>!x.1) && (backToKw cpos (keywordEach [] X.env)).all (fun x=>x.1.isSome)
   && decide ((e::es).length+([]:List Keyword).length+(if ([]:List Keyword).isEmpty then 0 else 1) < 30))=true:=by rfl)
  (hline:(apos.endLine == cpos.line)=true:=by rfl) (hs:starEach (e::es) X.env=(false,eval e X.env)::starEach es X.env:=by rfl) (hplain:(backTo cpos (starEach es X.env)).any (·.1)=false:=by rfl) :
  AE X (.Call (.Attribute o name apos) (e::es) [] cpos) (ug f co d):=PE.imp (Ey PySem.F.plainAttrs_dict slot hty hm ho ha hbase hfew hline hs hplain) fun σ H Q h9=>by
 obtain ⟨ρ,S,τ,R,r,h⟩:=h9
 refine ⟨ρ,S,τ,R,r,aI (aM h) .refl fun x S1 h1 ρ1 H1 v e1 R1 v1=>?_⟩
 obtain ⟨xs,hx,h1⟩:=aL h1
 refine ⟨dk?_ty R1 v1 hx,ρ1,S1,τ,R1,r.ext e1,aI (aM h1) e1 fun as S2 h2 ρ2 H2 vs e2 R2 v2=>?_⟩
 exact ⟨ρ2,S2,x,as,R2,v1.ext e2,v2,aI h2 (e1.trans e2) fun _ _ z=>z.ext (e1.trans e2)⟩
noncomputable def kD (o:A) (as:List A) (S:az):R A:=match o,as with
 | .ref n,[.int k,y]=>opt (b8 S n) fun kvs=>.ok ((dP kvs k).getD y) S
 | _,_=>.no
theorem vZ {x:A} {as:List A} {S:az} {P:A->az->Prop} {E:Str->az->Prop} (h:(kD x as S).post P E):∃ n k y kvs,x=.ref n/\as=[.int k,y]/\b8 S n=some kvs/\P ((dP kvs k).getD y) S:=by
 unfold kD at h
 split at h
 ·obtain ⟨kvs,h1,h⟩:=aL h
  exact ⟨_,_,_,kvs,rfl,rfl,h1,h⟩
 ·exact h.elim
theorem sP (hu:X.A.units+64 < cLine):HD X "dict.get" (rM X kD):=fun pins s σ H x vs v us Q I rx rv h9=>by
 obtain ⟨ρ,S,o,as,R,vo,va,h⟩:=h9
 obtain ⟨n,k,y,kvs,ho,has,hn,hP⟩:=vZ h
 subst ho has
 obtain ⟨w1,w2,rfl,hz,hy⟩:=JW va
 cases hz
 cases vo with
 | @ref p _ hp=>
  obtain ⟨ks,h1,dv⟩:=R.eY hp (fN hn)
  cases rx
  obtain ⟨u1,u2,rfl,r1,r2⟩:=vals2 rv
  refine Jh (by omega) I (mP.k (k:=Sum.inl k) h1) r1 r2 fun w' s' I' rw'=>⟨_,H,I',rw',hP _ _ _ .refl R ?_⟩
  obtain ⟨l1,l2⟩:=dv.look k
  cases e1:dP kvs k with
  | none=>
   rw [e1] at l1
   cases e2:fV ks (Sum.inl k:Key) with
   | none=>exact hy
   | some _=>rw [e2] at l1;cases l1
  | some x1=>
   obtain ⟨v1,e2,a1⟩:=l2 x1 e1
   rw [e2]
   exact a1
end
section
variable {X:Cx}
noncomputable def IX (n:Nat) (S:az):R A:=opt (bA S n) fun kvs=>match (kvs.map Prod.fst).all (fun ks=>!ks.isEmpty) with
 | true=>.ok (.ref S.length) (S++[.lst ((f_ (kvs.map Prod.fst)).map fun ks=>.tup (ks.map .int))])
 | false=>.no
noncomputable def jQ (x:A) (S:az):R A:=match x with
 | .ref n=>IX n S
 | _=>.no
theorem wW {K:PySem.W.Frag} {ρ:List Addr} {H:Hp}:∀ {kvs:List (List Int×A)} {ks:List (List Key×V)},DV K ρ H kvs ks->ks.map (fun p=>p.1)=(kvs.map Prod.fst).map (fun ks=>ks.map Sum.inl)
 | [],[],_=>rfl
 | a::kvs,b::ks,⟨z,t⟩=>by
  have:=wW t
  show b.1::ks.map _=a.1.map Sum.inl::_
  rw [this,z.1]
theorem sY (hc:X.calm=true):bF X (.builtin "sorted") (rN X (f1 jQ)):=bF.imp (rC hc) fun vs H Q h0=>by
 obtain ⟨w,rfl,ρ,S,x,R,hv,h⟩:=Im h0
 clear h0
 cases hv with
 | ref hp=>
  rename_i p n
  obtain ⟨kvs,hn,h⟩:=aL h
  obtain ⟨ks,g1,dv⟩:=R.dct hp (eB hn)
  cases hb:(kvs.map Prod.fst).all (fun ks=>!ks.isEmpty) with
  | false=>rw [hb] at h;exact h.elim
  | true=>
   rw [hb] at h
   refine ⟨p,ks,kvs.map Prod.fst,rfl,g1,wW dv,fun k hk z=>?_,fun rs l g hl hh hl' hc hs=>?_⟩
   ·have:=List.all_eq_true.mp hb k hk
    rw [z] at this
    cases this
   have av:AVs X.K ρ H ((f_ (kvs.map Prod.fst)).map fun ks=>.tup (ks.map .int)) (((List.range (kvs.map Prod.fst).length).map fun i=>rs.getD (g i) 0).map V.ref):=by
    rw [<- JN hc hs,List.map_map,List.map_map]
    refine vB fun i hi=>?_
    have lt:=(hc i (Nat.zero_le _) (List.mem_range.mp hi)).2
    have e1:rs[g i]?=some (rs.getD (g i) 0):=by rw [List.getD_eq_getElem?_getD,List.getElem?_eq_getElem (by rw [hl];exact lt)];rfl
    have e2:(kvs.map Prod.fst)[g i]?=some ((kvs.map Prod.fst).getD (g i) []):=by rw [List.getD_eq_getElem?_getD,List.getElem?_eq_getElem lt];rfl
    exact .tup (hh _ _ _ e1 e2) (jG _)
   exact fM R av .refl h l hl'
 | _=>exact h.elim
end
noncomputable def E5:List A->Option (List (Int×A))
 | []=>some []
 | .tup [.int k,x]::r=>(E5 r).map fun ps=>(k,x)::ps
 | _=>none
noncomputable def FQ (ps:List (Int×A)):List (Int×A):=ps.foldl (fun acc p=>mW acc p.1 p.2) []
section
variable {K:PySem.W.Frag} {ρ:List Addr} {H:Hp}
theorem FH {x y:A} {vs:List V} (r:AVs K ρ H [x,y] vs):∃ v w,vs=[v,w]/\AV K ρ H x v/\AV K ρ H y w:=by
 cases r with
 | cons h t=>cases t with
  | cons h' t'=>cases t';exact ⟨_,_,rfl,h,h'⟩
theorem CA {x:A} {xs:List A} {ps:List (Int×A)} (e:E5 (x::xs)=some ps):∃ k y ps',x=.tup [.int k,y]/\E5 xs=some ps'/\ps=(k,y)::ps':=by
 unfold E5 at e
 split at e
 ·rename_i e2;cases e2
 ·rename_i k y r e2
  cases e2
  obtain ⟨ps',h1,h2⟩:=Option.map_eq_some_iff.mp e
  exact ⟨_,_,_,rfl,h1,h2.symm⟩
 ·cases e
theorem KS:∀ {xs:List A} {vs:List V} {ps:List (Int×A)},AVs K ρ H xs vs->E5 xs=some ps ->
  ∃ (rs:List Addr) (qs:List (Int×V)),vs=rs.map V.ref/\rs.length=qs.length/\(∀ (i:Nat) (r:Addr) (q:Int×V),rs[i]?=some r->qs[i]?=some q->fC K H r [.int q.1,q.2]) /\
   ∀ as bs,DI K ρ H as bs->DI K ρ H (ps.foldl (fun acc p=>mW acc p.1 p.2) as) (qs.foldl (fun acc p=>putK acc (Sum.inl p.1) p.2) bs):=by
 intro xs
 induction xs with
 | nil=>intro vs ps r e;cases r;cases e;exact ⟨[],[],rfl,rfl,fun i r q h=>by simp at h,fun as bs h=>h⟩
 | cons x xs ih=>
  intro vs ps r e
  obtain ⟨k,y,ps',rfl,e1,rfl⟩:=CA e
  cases r with
  | cons h t=>
   obtain ⟨rs,qs,rfl,hl,hh,hd⟩:=ih t e1
   cases h with
   | @tup a _ us h r=>
    obtain ⟨v,w,rfl,h1,h2⟩:=FH r
    cases h1
    refine ⟨a::rs,(k,w)::qs,rfl,by rw [List.length_cons,List.length_cons,hl],fun i r q e1 e2=>?_,fun as bs d=>hd _ _ (d.put h2 k)⟩
    cases i with
    | zero=>cases e1;cases e2;exact fC.of h
    | succ i=>exact hh i r q (by simpa using e1) (by simpa using e2)
end
section
variable {X:Cx}
noncomputable def vH (x:A) (S:az):R A:=match x with
 | .ref n=>opt (au S n) fun xs=>opt (E5 xs) fun ps=>.ok (.ref S.length) (S++[.eY (FQ ps)])
 | _=>.no
theorem GO (hc:X.calm=true):bF X (.type "dict") (rN X (f1 vH)):=bF.imp (wN hc) fun vs H Q h0=>by
 obtain ⟨w,rfl,ρ,S,x,R,hv,h⟩:=Im h0
 clear h0
 cases hv with
 | ref hp=>
  rename_i p n
  obtain ⟨xs,hn,h⟩:=aL h
  obtain ⟨ps,hb,h⟩:=aL h
  obtain ⟨us,h1,r⟩:=R.lst hp (aU hn)
  obtain ⟨rs,qs,rfl,hl,hh,hd⟩:=KS r hb
  refine ⟨p,rs,qs,rfl,ir.of h1,hl,hh,fun l hl'=>?_⟩
  obtain ⟨ex,R',hl⟩:=R.Lo (xs:=FQ ps) (vs:=M3 qs) hl' (hd [] [] trivial)
  exact h _ _ _ ex R' (.ref hl)
 | _=>exact h.elim
noncomputable def mX (x:A) (S:az):R A:=match x with
 | .ref n=>opt (b8 S n) fun kvs=>.ok (.ref S.length) (S++[.lst ((sortI (kvs.map Prod.fst)).map .int)])
 | _=>.no
theorem GZ {ns:List Int} {g:Nat->Nat} (c:Sx.Cl g 0 ns.length) (so:Sx.So (Gs ns) g 0 ns.length):(List.range ns.length).map (fun i=>ns.getD (g i) 0)=sortI ns:=by
 refine Ge ?_ ?_ (pG ns)
 ·refine List.Perm.trans ?_ (sortI_perm ns).symm
  have p:=pK (N:=ns.length) (g:=g) (fun i hi=>(c i (Nat.zero_le _) hi).2) fun i j hij hj z=>by
   have:=so i j (Nat.zero_le _) hij hj
   rw [z] at this
   exact this.EK
  have:=p.map fun i=>ns.getD i 0
  rw [List.map_map,range_getD] at this
  exact this
 ·rw [List.pairwise_iff_getElem]
  intro i j hi hj hij
  rw [List.length_map,List.length_range] at hi hj
  rw [List.getElem_map,List.getElem_map,List.getElem_range,List.getElem_range]
  have:=of_decide_eq_false (so i j (Nat.zero_le _) hij hj).ge
  omega
theorem zj (hc:X.calm=true):bF X (.builtin "sorted") (rN X (f1 mX)):=bF.imp (rG hc) fun vs H Q h0=>by
 obtain ⟨w,rfl,ρ,S,x,R,hv,h⟩:=Im h0
 clear h0
 cases hv with
 | ref hp=>
  rename_i p n
  obtain ⟨kvs,hn,h⟩:=aL h
  obtain ⟨ks,g1,dv⟩:=R.eY hp (fN hn)
  refine ⟨p,ks,kvs.map Prod.fst,rfl,g1,by rw [dv.keys,List.map_map];rfl,fun l g hl' hc hs=>?_⟩
  have av:AVs X.K ρ H ((sortI (kvs.map Prod.fst)).map .int) ((List.range (kvs.map Prod.fst).length).map fun i=>V.int ((kvs.map Prod.fst).getD (g i) 0)):=by
   rw [<- GZ hc hs,List.map_map]
   exact vB fun i _=>.int _
  exact fM R av .refl h l hl'
 | _=>exact h.elim
@[irreducible] noncomputable def big:Nat:=2 ^ 4096
theorem sU:big=2 ^ 4096:=by unfold big;rfl
theorem t9 {i:Int} (h:i.natAbs < big):Builtin.Int.intBits i<=2 ^ 20:=by
 rw [sU] at h
 exact Nat.le_trans (intBits_le h) (by decide)
noncomputable def tR (a b:A) (S:az):R A:=match a,b with
 | .int i,.int j=>gd (i.natAbs < big/\j.natAbs < big) (.ok (.int (i * j)) S)
 | _,_=>.no
theorem El:gz X (binaryOp .Mult) (r2 X tR):=fun pins s σ H x y v u Q I rx ry h9=>by
 obtain ⟨ρ,S,a,b,R,va,vb,h⟩:=h9
 cases va with
 | int i=>cases vb with
  | int j=>
   obtain ⟨⟨h1,h2⟩,h⟩:=bu h
   obtain ⟨t,rfl⟩:∃ t,v=Value.int i t:=rx
   obtain ⟨t',rfl⟩:∃ t,u=Value.int j t:=ry
   exact mul_int ⟨.int _,H,I.tok _,⟨_,rfl⟩,h _ _ _ .refl R (.int _)⟩ (IntMulOk.of_bits (t9 h1) (t9 h2))
  | _=>exact h.elim
 | _=>exact h.elim
end
theorem Gy:bootBuiltins "dict" = some (.type "dict"):=by decide +kernel
end Am
namespace Bl
open L2
theorem take_snoc {l:List Int} {i:Nat} (h:i < l.length):l.take (i+1)=l.take i++[l[i]]:=by
 rw [List.take_succ,List.getElem?_eq_getElem h];rfl
end Bl
namespace Am
open PySem L2 Bl
end Am
namespace Tb
noncomputable def fg (r:List Int) (x:Int):Nat:=r.findIdx fun y=>decide (x < y)
noncomputable def put:List (List Int)->Int->List (List Int)
 | [],x=>[[x]]
 | r::rs,x=>if fg r x=r.length then (r++[x])::rs else r.set (fg r x) x::put rs (r.getD (fg r x) 0)
noncomputable def row:List (List Int)->Int->Nat
 | [],_=>0
 | r::rs,x=>if fg r x=r.length then 0 else row rs (r.getD (fg r x) 0)+1
theorem FI {r:List Int} {rs:List (List Int)} {x:Int} (h:fg r x=r.length):put (r::rs) x=(r++[x])::rs:=if_pos h
theorem IG {r:List Int} {rs:List (List Int)} {x:Int} (h:fg r x≠r.length):put (r::rs) x=r.set (fg r x) x::put rs (r.getD (fg r x) 0):=if_neg h
theorem yu {r:List Int} {rs:List (List Int)} {x:Int} (h:fg r x=r.length):row (r::rs) x=0:=if_pos h
theorem C4 {r:List Int} {rs:List (List Int)} {x:Int} (h:fg r x≠r.length):row (r::rs) x=row rs (r.getD (fg r x) 0)+1:=if_neg h
theorem Dt:∀ (T:List (List Int)) (x:Int),row T x<=T.length
 | [],_=>Nat.le_refl _
 | r::rs,x=>by
  by_cases h:fg r x=r.length
  ·rw [yu h];exact Nat.zero_le _
  ·rw [C4 h,List.length_cons];exact Nat.succ_le_succ (Dt rs _)
noncomputable def bump:List Nat->Nat->List Nat
 | [],_=>[1]
 | n::ns,0=>(n+1)::ns
 | n::ns,i+1=>n::bump ns i
theorem qT:∀ (T:List (List Int)) (x:Int),(put T x).map List.length=bump (T.map List.length) (row T x)
 | [],_=>rfl
 | r::rs,x=>by
  by_cases h:fg r x=r.length
  ·rw [FI h,yu h,List.map_cons,List.map_cons,List.length_append];rfl
  ·rw [IG h,C4 h,List.map_cons,List.map_cons,List.length_set,qT rs];rfl
theorem uT:∀ (ns:List Nat) (i:Nat),i<=ns.length->(bump ns i).length=if i=ns.length then ns.length+1 else ns.length
 | [],i,h=>by
  have:i=0:=by simpa using h
  subst this;rfl
 | n::ns,0,_=>by rw [if_neg (by simp)];rfl
 | n::ns,i+1,h=>by
  have h':i<=ns.length:=Nat.le_of_succ_le_succ h
  show (bump ns i).length+1=_
  rw [uT ns i h']
  by_cases e:i=ns.length
  ·rw [if_pos e,if_pos (by rw [List.length_cons,e])];rfl
  ·rw [if_neg e,if_neg (by rw [List.length_cons];omega)];rfl
theorem r9 (T:List (List Int)) (x:Int):(put T x).length=if row T x=T.length then T.length+1 else T.length:=by
 have:=congrArg List.length (qT T x)
 rw [List.length_map,uT _ _ (by rw [List.length_map];exact Dt T x),List.length_map] at this
 exact this
noncomputable def add:List (List Int)->Nat->Int->List (List Int)
 | [],_,k=>[[k]]
 | q::qs,0,k=>(q++[k])::qs
 | q::qs,i+1,k=>q::add qs i k
noncomputable def gs (r:List Int) (x:Int):List Nat:=(List.range r.length).filter fun k=>decide (x < r.getD k 0)
end Tb
namespace Am
open PySem L2
noncomputable def Rows (S:az):List Nat->List (List Int)->Prop
 | [],[]=>True
 | r::rs,x::T=>au S r=some (x.map .int)/\Rows S rs T
 | _,_=>False
structure Tab (S:az) (n:Nat) (rs:List Nat) (T:List (List Int)):Prop where
 top:au S n=some (rs.map .ref)
 rows:Rows S rs T
 nd:(n::rs).Nodup
theorem ud {s:Src} {g:Tg} {e:Ex} {T:List A->Prop} (P:Nat->List A->az->Prop)
  (step:∀ i acc τ S,i < s.k->T τ->P i acc S->∃ x τ1 S1 y S3,s.get i S=some x/\g x τ S=.ok τ1 S1/\T τ1/\e τ1 S1=.ok y S3/\P (i+1) (acc++[y]) S3) (hfin:∀ acc S,P s.k acc S->s.fin S=true) :
  ∀ k i acc τ S,k+i=s.k->T τ->P i acc S->∃ ys S',dU s g g_ e k i τ S=.ok ys S'/\P s.k (acc++ys) S'
 | 0,i,acc,τ,S,hk,hT,hP=>by
  have:i=s.k:=by omega
  subst this
  exact ⟨[],S,by unfold dU;rw [if_pos (hfin acc S hP)],by rw [List.append_nil];exact hP⟩
 | k+1,i,acc,τ,S,hk,hT,hP=>by
  obtain ⟨x,τ1,S1,y,S3,hx,hg,hT1,he,hP3⟩:=step i acc τ S (by omega) hT hP
  obtain ⟨ys,S',h1,h2⟩:=ud P step hfin k (i+1) (acc++[y]) τ1 S3 (by omega) hT1 hP3
  refine ⟨y::ys,S',?_,by rw [List.append_assoc] at h2;exact h2⟩
  unfold dU
  rw [hx,cD,hg,R.cO]
  show (e τ1 S1).jj _=_
  rw [he,R.cO,h1]
  rfl
theorem eq_nil {S:az} {a b:Nat} {xs:List A} (h:au S a=some xs) (h':au S b=some []):iK S 12 (.ref a) (.ref b)=some xs.isEmpty:=by
 show (au S a).bind (fun xs=>(au S b).bind fun ys=>gb (iK S 11) xs ys)=_
 rw [h,Option.bind_some,h',Option.bind_some]
 cases xs <;> rfl
theorem Ba {S:az} {a b:A} {k:Bool} (h:iK S 12 a b=some k):fL false a b S=.ok (.bl k) S:=by unfold fL;rw [h];rfl
theorem gW {S:az} {a b:A} {k:Bool} (h:iK S 12 a b=some k):fL true a b S=.ok (.bl (!k)) S:=by unfold fL;rw [h];rfl
theorem vh {xs:List A} {n:Nat} {cap:List (Option Nat)} {src:Ic} {t:Te} {e:Ex} {τ:List A} {S:az} (hs:src τ S=.ok (b9 n xs.length) S) (hx:au S n=some xs) (p:A->Bool) (f:A->A)
  (ht:∀ x∈xs,t (x::cT cap τ) S=.ok (p x) S) (he:∀ x∈xs,p x=true->e (x::cT cap τ) S=.ok (f x) S) (hl:xs.length<=16777216) :
  bQ (none::cap) src (bK 0) t e τ S=.ok (.ref S.length) (S++[.lst ((xs.filter p).map f)]):=by
 have hm:∀ i,i < xs.length->xs.getD i .unb∈xs:=fun i hi=>by
  rw [List.getD_eq_getElem?_getD,List.getElem?_eq_getElem hi];exact List.getElem_mem hi
 rw [rf hs (fun i=>xs.getD i .unb) (fun i=>p (xs.getD i .unb)) (fun i=>f (xs.getD i .unb)) (fun i hi=>by
  have hi:i < xs.length:=hi
  show (au S n).bind _=_
  rw [hx,Option.bind_some,List.getD_eq_getElem?_getD,List.getElem?_eq_getElem hi];rfl) (by
   show (match au S n with
    | some ys=>decide (ys.length<=xs.length)
    | none=>false)=true
   rw [hx]
   simp) (fun i hi=>ht _ (hm i hi)) (fun i hi=>he _ (hm i hi)) hl]
 have:=iw xs p f .unb
 show R.ok _ (S++[O.lst (((List.range xs.length).filter _).map _)])=_
 rw [this]
theorem getD_at {r:List Int} {k:Nat} (h:k < r.length):r[k]?=some (r.getD k 0):=by rw [List.getD_eq_getElem?_getD,List.getElem?_eq_getElem h];rfl
end Am
namespace Po
open Am
noncomputable abbrev Pl:=List (Int×Int)
noncomputable def val (d:Pl) (k:Int):Int:=((d.find? fun p=>decide (p.1=k)).map (·.2)).getD 0
noncomputable def has (d:Pl) (k:Int):Bool:=d.any fun p=>decide (p.1=k)
noncomputable def put (d:Pl) (k v:Int):Pl:=if has d k=true then d.map (fun p=>if p.1=k then (p.1,v) else p) else d++[(k,v)]
noncomputable def acc (d:Pl) (k v:Int):Pl:=put d k (val d k+v)
noncomputable def cf:Pl->Int->Int
 | [],_=>0
 | p::l,k=>(if p.1=k then p.2 else 0)+cf l k
theorem fS {p:Int×Int} {d:Pl} {k:Int}:val (p::d) k=if p.1=k then p.2 else val d k:=by
 unfold val
 rw [List.find?_cons]
 by_cases h:p.1=k
 ·rw [decide_eq_true h,if_pos h];rfl
 ·rw [decide_eq_false h,if_neg h]
theorem o_ {p:Int×Int} {d:Pl} {k:Int}:has (p::d) k=(decide (p.1=k) || has d k):=rfl
theorem lH {d:Pl} {k:Int}:has d k=true ↔ k∈d.map Prod.fst:=by
 unfold has
 rw [List.any_eq_true,List.mem_map]
 constructor
 ·rintro ⟨p,h1,h2⟩;exact ⟨p,h1,of_decide_eq_true h2⟩
 ·rintro ⟨p,h1,h2⟩;exact ⟨p,h1,decide_eq_true h2⟩
theorem EL {d:Pl} {k:Int} (h:has d k=false):val d k=0:=by
 induction d with
 | nil=>rfl
 | cons p d ih=>
  rw [o_,Bool.or_eq_false_iff] at h
  rw [fS,if_neg (of_decide_eq_false h.1),ih h.2]
theorem GD {d:Pl} {k v j:Int} (h:has d k=false):val (d++[(k,v)]) j=if j=k then v else val d j:=by
 induction d with
 | nil=>
  show val [(k,v)] j=_
  rw [fS]
  by_cases c:k=j
  ·rw [if_pos c,if_pos c.symm]
  ·rw [if_neg c,if_neg (fun z=>c z.symm)]
 | cons p d ih=>
  rw [o_,Bool.or_eq_false_iff] at h
  have:=of_decide_eq_false h.1
  rw [List.cons_append,fS,fS,ih h.2]
  by_cases c:p.1=j
  ·rw [if_pos c,if_pos c,if_neg (fun z=>this (c.trans z))]
  ·rw [if_neg c,if_neg c]
theorem FU {d:Pl} {k v j:Int}:val (d.map fun p=>if p.1=k then (p.1,v) else p) j=if j=k/\has d k=true then v else val d j:=by
 induction d with
 | nil=>
  rw [if_neg (fun z=>by cases z.2)];rfl
 | cons p d ih=>
  rw [List.map_cons,fS,fS,ih,o_]
  by_cases c:p.1=k
  ·rw [if_pos c,decide_eq_true c,Bool.true_or]
   by_cases e:j=k
   ·rw [if_pos (show p.1=j by omega),if_pos ⟨e,rfl⟩]
   ·rw [if_neg (show ¬ p.1=j by omega),if_neg (fun z=>e z.1),if_neg (fun z=>e z.1),if_neg (show ¬ p.1=j by omega)]
  ·rw [if_neg c,decide_eq_false c,Bool.false_or]
   by_cases e:p.1=j
   ·rw [if_pos e,if_pos e,if_neg (fun z=>c (e.trans z.1))]
   ·rw [if_neg e,if_neg e]
theorem GG {d:Pl} {k v j:Int}:val (put d k v) j=if j=k then v else val d j:=by
 unfold put
 cases h:has d k with
 | true=>
  rw [if_pos rfl,FU,h]
  by_cases c:j=k
  ·rw [if_pos ⟨c,rfl⟩,if_pos c]
  ·rw [if_neg (fun z=>c z.1),if_neg c]
 | false=>rw [if_neg (by simp),GD h]
theorem E8 {d:Pl} {k v j:Int}:val (acc d k v) j=val d j+if k=j then v else 0:=by
 unfold acc
 rw [GG]
 by_cases c:j=k
 ·subst c;rw [if_pos rfl,if_pos rfl]
 ·rw [if_neg c,if_neg (fun z=>c z.symm),Int.add_zero]
theorem CM {d:Pl} {k v:Int}:(put d k v).map Prod.fst=if has d k=true then d.map Prod.fst else d.map Prod.fst++[k]:=by
 unfold put
 split
 ·rw [List.map_map]
  apply List.map_congr_left
  intro p _
  show (if p.1=k then (p.1,v) else p).1=p.1
  split <;> rfl
 ·rw [List.map_append];rfl
theorem IU {d:Pl} {k v:Int} (h:(d.map Prod.fst).Nodup):((put d k v).map Prod.fst).Nodup:=by
 rw [CM]
 split
 ·exact h
 ·rename_i c
  rw [List.nodup_append]
  refine ⟨h,List.pairwise_singleton _ _,fun a ha b hb z=>c ?_⟩
  rw [List.mem_singleton] at hb
  rw [lH,<- hb,<- z];exact ha
theorem Fq {d:Pl} {k v:Int}:(put d k v).length<=d.length+1:=by
 unfold put
 split
 ·rw [List.length_map];omega
 ·rw [List.length_append];exact Nat.le_refl _
noncomputable def Bd (c:Nat) (d:Pl):Prop:=∀ p∈d,p.2.natAbs<=c
noncomputable def fT (d ps:Pl):Pl:=ps.foldl (fun d p=>acc d p.1 p.2) d
theorem Cg (d:Pl):fT d []=d:=rfl
theorem oO (d ps qs:Pl):fT d (ps++qs)=fT (fT d ps) qs:=by unfold fT;rw [List.foldl_append]
theorem u5 (ps:Pl):∀ (d:Pl) (k:Int),val (fT d ps) k=val d k+cf ps k:=by
 induction ps with
 | nil=>intro d k;rw [Cg];show _=_+0;rw [Int.add_zero]
 | cons p ps ih=>
  intro d k
  show val (fT (acc d p.1 p.2) ps) k=_
  rw [ih,E8]
  show _=_+(_+_)
  rw [Int.add_assoc]
theorem n9 (ps:Pl):∀ {d:Pl},(d.map Prod.fst).Nodup->((fT d ps).map Prod.fst).Nodup:=by
 induction ps with
 | nil=>intro d h;exact h
 | cons p ps ih=>intro d h;exact ih (IU h)
theorem eo (ps:Pl):∀ (d:Pl),(fT d ps).length<=d.length+ps.length:=by
 induction ps with
 | nil=>intro d;exact Nat.le_refl _
 | cons p ps ih=>
  intro d
  have h1:=ih (acc d p.1 p.2)
  have h2:(acc d p.1 p.2).length<=d.length+1:=Fq
  show (fT (acc d p.1 p.2) ps).length<=_
  rw [List.length_cons]
  omega
structure Ok (l:Pl):Prop where
 up:l.Pairwise fun p q=>p.1 < q.1
 nz:∀ p∈l,p.2≠0
theorem Ok.tail {p:Int×Int} {l:Pl} (h:Ok (p::l)):Ok l:=⟨(List.pairwise_cons.mp h.up).2,fun q hq=>h.nz q (List.mem_cons_of_mem _ hq)⟩
theorem ue {l:Pl} {k:Int} (h:∀ p∈l,k < p.1):cf l k=0:=by
 induction l with
 | nil=>rfl
 | cons p l ih=>
  show (if p.1=k then p.2 else 0)+cf l k=0
  have:=h p (List.mem_cons_self ..)
  rw [if_neg (by omega),ih fun q hq=>h q (List.mem_cons_of_mem _ hq)];rfl
theorem Ok.head {p:Int×Int} {l:Pl} (h:Ok (p::l)):cf (p::l) p.1=p.2:=by
 show (if p.1=p.1 then p.2 else 0)+cf l p.1=p.2
 rw [if_pos rfl,ue (List.pairwise_cons.mp h.up).1,Int.add_zero]
theorem Ok.low {p:Int×Int} {l:Pl} (h:Ok (p::l)) {k:Int} (hk:k < p.1):cf (p::l) k=0:=ue fun q hq=>by
 rcases List.mem_cons.mp hq with rfl | z
 ·exact hk
 ·have:=(List.pairwise_cons.mp h.up).1 q z;omega
theorem uniq:∀ {l m:Pl},Ok l->Ok m->(∀ k,cf l k=cf m k)->l=m
 | [],[],_,_,_=>rfl
 | [],q::m,_,h,e=>by
  have:=e q.1
  rw [h.head] at this
  exact absurd this.symm (h.nz q (List.mem_cons_self ..))
 | p::l,[],h,_,e=>by
  have:=e p.1
  rw [h.head] at this
  exact absurd this (h.nz p (List.mem_cons_self ..))
 | p::l,q::m,h,h',e=>by
  have n1:=h.nz p (List.mem_cons_self ..)
  have n2:=h'.nz q (List.mem_cons_self ..)
  have e1:p.1=q.1:=by
   rcases Int.lt_trichotomy p.1 q.1 with c | c | c
   ·have:=e p.1;rw [h.head,h'.low c] at this;exact absurd this n1
   ·exact c
   ·have:=e q.1;rw [h'.head,h.low c] at this;exact absurd this.symm n2
  have e2:p.2=q.2:=by
   have:=e p.1
   rw [h.head,e1,h'.head] at this
   exact this
  have e3:p=q:=Prod.ext e1 e2
  subst e3
  rw [uniq h.tail h'.tail fun k=>by
   have:(if p.1=k then p.2 else 0)+cf l k=(if p.1=k then p.2 else 0)+cf m k:=e k
   omega]
noncomputable def wJ (d:Pl):Pl:=((sortI (d.map Prod.fst)).filter fun k=>val d k != 0).map fun k=>(k,val d k)
theorem G3 {ks:List Int} (h:ks.Nodup):(sortI ks).Pairwise (· < ·):=by
 have p:=pG ks
 have n:(sortI ks).Nodup:=(sortI_perm ks).nodup_iff.mpr h
 have:(sortI ks).Pairwise fun a b=>a<=b/\a≠b:=p.and n
 exact this.imp fun ⟨a,b⟩=>by omega
theorem se {d:Pl} (h:(d.map Prod.fst).Nodup):Ok (wJ d):=by
 refine ⟨?_,fun p hp=>?_⟩
 ·unfold wJ
  rw [List.pairwise_map]
  exact (G3 h).filter _
 ·obtain ⟨k,hk,rfl⟩:=List.mem_map.mp hp
  have:=(List.mem_filter.mp hk).2
  simpa using this
theorem DX {d:Pl} {k:Int}:∀ {ks:List Int},ks.Nodup->cf (ks.map fun j=>(j,val d j)) k=if k∈ks then val d k else 0
 | [],_=>by rw [if_neg (by simp)];rfl
 | j::ks,h=>by
  obtain ⟨h1,h2⟩:=List.nodup_cons.mp h
  show (if j=k then val d j else 0)+cf (ks.map fun j=>(j,val d j)) k=_
  rw [DX h2]
  by_cases c:j=k
  ·subst c
   rw [if_pos rfl,if_neg h1,if_pos (List.mem_cons_self ..),Int.add_zero]
  ·rw [if_neg c,Int.zero_add]
   by_cases e:k∈ks
   ·rw [if_pos e,if_pos (List.mem_cons_of_mem _ e)]
   ·rw [if_neg e,if_neg fun z=>(List.mem_cons.mp z).elim (fun z=>c z.symm) e]
theorem CH {d:Pl} (h:(d.map Prod.fst).Nodup) (k:Int):cf (wJ d) k=val d k:=by
 unfold wJ
 rw [DX (((sortI_perm _).nodup_iff.mpr h).filter _)]
 split
 ·rfl
 ·rename_i c
  cases e:has d k with
  | false=>exact (EL e).symm
  | true=>
   by_cases z:val d k=0
   ·exact z.symm
   ·exact absurd (List.mem_filter.mpr ⟨(sortI_perm _).mem_iff.mpr (lH.mp e),by simpa using z⟩) c
theorem Jm {d e:Pl} (h:(d.map Prod.fst).Nodup) (h':(e.map Prod.fst).Nodup) (hv:∀ k,val d k=val e k):wJ d=wJ e:=
 uniq (se h) (se h') fun k=>by rw [CH h,CH h',hv]
theorem Ok.nd {l:Pl} (h:Ok l):(l.map Prod.fst).Nodup:=by
 unfold List.Nodup
 rw [List.pairwise_map]
 exact h.up.imp fun a=>by omega
theorem JP {l:Pl} (h:(l.map Prod.fst).Nodup) (k:Int):val l k=cf l k:=by
 induction l with
 | nil=>rfl
 | cons p l ih=>
  obtain ⟨h1,h2⟩:=List.nodup_cons.mp h
  rw [fS]
  show _=(if p.1=k then p.2 else 0)+cf l k
  rw [<- ih h2]
  by_cases c:p.1=k
  ·have:has l k=false:=by
    cases e:has l k with
    | false=>rfl
    | true=>exact absurd (lH.mp e) (by rw [<- c];exact h1)
   rw [if_pos c,if_pos c,EL this,Int.add_zero]
  ·rw [if_neg c,if_neg c,Int.zero_add]
noncomputable def CY (d ps:Pl):Pl:=ps.foldl (fun d p=>put d p.1 p.2) d
theorem zc:∀ (ps d:Pl),((d++ps).map Prod.fst).Nodup->CY d ps=d++ps
 | [],d,_=>by rw [List.append_nil];rfl
 | p::ps,d,h=>by
  have hn:has d p.1=false:=by
   cases e:has d p.1 with
   | false=>rfl
   | true=>
    rw [List.map_append,List.nodup_append] at h
    exact absurd rfl (h.2.2 _ (lH.mp e) p.1 (List.mem_map_of_mem (List.mem_cons_self ..)))
  have e:put d p.1 p.2=d++[p]:=by unfold put;rw [hn];rfl
  show CY (put d p.1 p.2) ps=_
  rw [e,zc ps (d++[p]) (by rw [List.append_assoc];exact h),List.append_assoc];rfl
theorem GS {l:Pl} (h:Ok l):CY [] l=l:=zc l [] h.nd
noncomputable def plus (a b:Pl):Pl:=wJ (fT a b)
noncomputable def eK (a b:Pl):Pl:=wJ (fT [] (a++b))
theorem Gu {a b:Pl} (h:Ok a):plus a b=eK a b:=by
 refine Jm (n9 _ h.nd) (n9 _ List.nodup_nil) fun k=>?_
 rw [u5,u5,JP h.nd]
 have:∀ (a b:Pl),cf (a++b) k=cf a k+cf b k:=fun a b=>by
  induction a with
  | nil=>exact (Int.zero_add _).symm
  | cons p a ih=>
   show _+cf (a++b) k=_+_+_
   rw [ih,Int.add_assoc]
 rw [this]
 show _=0+_
 rw [Int.zero_add]
theorem EU (a b:Pl):Ok (eK a b):=se (n9 _ List.nodup_nil)
noncomputable def yP (a b:Pl):Pl:=a.flatMap fun p=>b.map fun q=>(p.1+q.1,p.2 * q.2)
noncomputable def times (a b:Pl):Pl:=wJ (fT [] (yP a b))
theorem uc (a b:Pl):Ok (times a b):=se (n9 _ List.nodup_nil)
theorem Bt (a:Pl) (p:Int×Int) (b:Pl):yP (a++[p]) b=yP a b++b.map fun q=>(p.1+q.1,p.2 * q.2):=by
 unfold yP
 rw [List.flatMap_append,List.flatMap_cons,List.flatMap_nil,List.append_nil]
theorem nL (a b:Pl):(yP a b).length=a.length * b.length:=by
 induction a with
 | nil=>simp [yP]
 | cons p a ih=>
  show ((b.map _)++yP a b).length=_
  rw [List.length_append,List.length_map,ih,List.length_cons,Nat.succ_mul]
  omega
theorem yS (d:Pl):(wJ d).length<=d.length:=by
 unfold Po.wJ
 rw [List.length_map]
 refine Nat.le_trans (List.length_filter_le _ _) ?_
 rw [(sortI_perm _).length_eq,List.length_map]
 exact Nat.le_refl _
noncomputable def turn (a:Pl):Pl:=a.reverse.map fun p=>(-p.1,p.2)
noncomputable def iv (d:Pl):List (Int×A):=d.map fun p=>(p.1,.int p.2)
noncomputable def pA (p:Int×Int):A:=.tup [.int p.1,.int p.2]
noncomputable def pl (l:Pl):List A:=l.map pA
theorem sI (d:Pl) (k:Int):dP (iv d) k=(d.find? fun p=>decide (p.1=k)).map fun p=>.int p.2:=by
 unfold dP iv
 rw [List.find?_map,Option.map_map];rfl
theorem CP (d:Pl) (k:Int):(dP (iv d) k).getD (.int 0)=.int (val d k):=by
 rw [sI]
 unfold val
 cases d.find? fun p=>decide (p.1=k) <;> rfl
theorem tQ {d:Pl} {k:Int} (h:k∈d.map Prod.fst):dP (iv d) k=some (.int (val d k)):=by
 have:=lH.mpr h
 unfold has at this
 rw [sI]
 unfold val
 cases e:d.find? fun p=>decide (p.1=k) with
 | some p=>rfl
 | none=>
  obtain ⟨p,hp,hd⟩:=List.any_eq_true.mp this
  exact absurd hd (List.find?_eq_none.mp e p hp)
theorem wH (d:Pl) (k v:Int):mW (iv d) k (.int v)=iv (put d k v):=by
 have e:(dP (iv d) k).isSome=has d k:=by
  rw [sI,Option.isSome_map]
  unfold has
  rw [Bool.eq_iff_iff,List.find?_isSome,List.any_eq_true]
 unfold mW put
 rw [e]
 unfold iv
 split
 ·rw [List.map_map,List.map_map]
  apply List.map_congr_left
  intro p _
  show (if p.1=k then (p.1,A.int v) else (p.1,.int p.2))=_
  show _=((if p.1=k then (p.1,v) else p).1,A.int (if p.1=k then (p.1,v) else p).2)
  split <;> rfl
 ·rw [List.map_append];rfl
theorem Fl (d:Pl):(iv d).map Prod.fst=d.map Prod.fst:=by
 unfold iv
 rw [List.map_map];rfl
theorem HL:∀ l:Pl,E5 (pl l)=some (iv l)
 | []=>rfl
 | p::l=>by
  show (E5 (pl l)).map _=_
  rw [HL l];rfl
theorem GR (l:Pl):FQ (iv l)=iv (CY [] l):=by
 have:∀ (l d:Pl),(iv l).foldl (fun acc p=>mW acc p.1 p.2) (iv d)=iv (CY d l):=by
  intro l
  induction l with
  | nil=>intro d;rfl
  | cons p l ih=>
   intro d
   show (iv l).foldl _ (mW (iv d) p.1 (.int p.2))=_
   rw [wH,ih];rfl
 exact this l []
end Po
namespace Am
open PySem L2 Po
noncomputable abbrev Ke:Tg:=qa 2 (iL (bK 0) (iL (bK 1) pY))
theorem v9 {s:Src} {cap:List (Option Nat)} {src:Ic} {e:Ex} {τ:List A} {S S1:az} (hs:src τ S=.ok s S1) (a b f:Nat->A) (hget:∀ i,i < s.k->s.get i S1=some (.tup [a i,b i])) (hfin:s.fin S1=true)
  (he:∀ i,i < s.k->e (a i::b i::cT cap τ) S1=.ok (f i) S1) (hl:s.k<=16777216) :
  bQ (none::none::cap) src Ke g_ e τ S=.ok (.ref S1.length) (S1++[.lst ((List.range s.k).map f)]):=by
 unfold bQ
 rw [hs,R.iQ]
 obtain ⟨S',h1,h2⟩:=kY (s:=s) (g:=Ke) (t:=g_) (e:=e) (P:=fun S=>S=S1) (T:=fun τ'=>∃ y z,τ'=y::z::cT cap τ) (fun i=>.tup [a i,b i]) (fun _=>true) f (fun i S hi h=>by subst h;exact hget i hi) (fun S h=>by subst h;exact hfin)
  (fun i τ' S hi ⟨y,z,hy⟩ h=>by
   subst h hy
   exact ⟨a i::b i::cT cap τ,S,S,rfl,rfl,⟨_,_,rfl⟩,fun h=>(nomatch h),fun hp=>⟨S,he i hi,rfl⟩⟩) s.k 0 (cT (none::none::cap) τ) S1 rfl ⟨_,_,rfl⟩ rfl
 subst h2
 rw [h1,R.cO,List.range_eq_range',List.filter_eq_self.mpr (fun _ _=>rfl)]
 refine bC ?_
 rw [List.length_map,List.length_range']
 exact hl
theorem Hy {l:Pl} {i:Nat} (h:i < l.length):(pl l)[i]?=some (.tup [.int (l.getD i (0,0)).1,.int (l.getD i (0,0)).2]):=by
 unfold pl
 rw [List.getElem?_map,List.getElem?_eq_getElem h,List.getD_eq_getElem?_getD,List.getElem?_eq_getElem h];rfl
theorem jx (l:Pl):(pl l).length=l.length:=List.length_map ..
theorem BS {l:Pl} {n:Nat} {cap:List (Option Nat)} {src:Ic} {e:Ex} {τ:List A} {S S1:az} (hs:src τ S=.ok (b9 n (pl l).length) S1) (hx:au S1 n=some (pl l)) (f:Int×Int->A)
  (he:∀ p:Int×Int,e (.int p.1::.int p.2::cT cap τ) S1=.ok (f p) S1) (hl:l.length<=16777216) :
  bQ (none::none::cap) src Ke g_ e τ S=.ok (.ref S1.length) (S1++[.lst (l.map f)]):=by
 rw [v9 hs (fun i=>.int (l.getD i (0,0)).1) (fun i=>.int (l.getD i (0,0)).2) (fun i=>f (l.getD i (0,0))) (fun i hi=>by
  have hi:i < (pl l).length:=hi
  rw [jx] at hi
  show (au S1 n).bind _=_
  rw [hx,Option.bind_some,Hy hi]) (by
   show (match au S1 n with
    | some ys=>decide (ys.length<=(pl l).length)
    | none=>false)=true
   rw [hx]
   simp) (fun i _=>he _) (by show (pl l).length<=_;rw [jx];exact hl)]
 have:=range_getD l (0,0)
 show R.ok _ (S1++[O.lst ((List.range (pl l).length).map _)])=_
 rw [jx]
 conv=>rhs;rw [<- this,List.map_map]
 rfl
theorem Av {xs:List A} {n:Nat} {cap:List (Option Nat)} {src:Ic} {t:Te} {e:Ex} {τ:List A} {S S1:az} (hs:src τ S=.ok (b9 n xs.length) S1) (hx:au S1 n=some xs) (p:A->Bool) (f:A->A)
  (ht:∀ x∈xs,t (x::cT cap τ) S1=.ok (p x) S1) (he:∀ x∈xs,p x=true->e (x::cT cap τ) S1=.ok (f x) S1) (hl:xs.length<=16777216) :
  bQ (none::cap) src (bK 0) t e τ S=.ok (.ref S1.length) (S1++[.lst ((xs.filter p).map f)]):=by
 have:=vh (S:=S1) (src:=fun _ _=>.ok (b9 n xs.length) S1) (τ:=τ) rfl hx p f ht he hl
 unfold bQ at this ⊢
 rw [hs]
 exact this
theorem rX {S:az} {d:List (Int×A)}:b8 (S++[.eY d]) S.length=some d:=tw wG
theorem BO {S:az} {o:O} {n:Nat} {d:List (Int×A)} (h:b8 S n=some d):b8 (S++[o]) n=some d:=by
 have h':=fN h
 exact tw (by rw [List.getElem?_append_left (List.getElem?_eq_some_iff.mp h').1];exact h')
theorem Ii {S:az} {n:Nat} {d:List (Int×A)} (h:b8 S n=some d):n < S.length:=(List.getElem?_eq_some_iff.mp (fN h)).1
theorem CG {S:az} {n:Nat} {d:List (Int×A)} (h:n < S.length):b8 (S.set n (.eY d)) n=some d:=tw (List.getElem?_set_self h)
theorem zG {S:az} {n m:Nat} {d:List (Int×A)} {xs:List A} (h:b8 S n=some d) (h':au S m=some xs):n≠m:=fun z=>by
 subst z
 have e1:=fN h
 rw [aU h'] at e1
 cases e1
theorem xG {f:A->List A->az->R A} {co:Ex} {d:gB} {τ:List A} {S:az}:ug f co d τ S=(co τ S).bind fun x S1=>opt (dk? x S1) fun _=>(d τ S1).bind fun as S2=>f x as S2:=rfl
theorem D6 {n:Nat} {S:az}:dk? (.ref n) S=(b8 S n).map fun _=>():=rfl
theorem u7 {n:Nat} {k:Int} {y:A} {S:az}:kD (.ref n) [.int k,y] S=opt (b8 S n) fun kvs=>.ok ((dP kvs k).getD y) S:=rfl
theorem zF {co ci:Ex} {a:A} {τ:List A} {S:az}:vf co ci a τ S=(co τ S).bind fun o S1=>(ci τ S1).bind fun i S2=>(qA o i a S2).bind fun _ S3=>.ok τ S3:=rfl
theorem tV {n:Nat} {k:Int} {v:A} {S:az}:qA (.ref n) (.int k) v S=opt (b8 S n) fun kvs=>gd (kvs.length < sizeLine) (.ok () (S.set n (.eY (mW kvs k v)))):=rfl
theorem xB {n:Nat} {k:Int} {S:az}:mJ (.ref n) (.int k) S=opt (b8 S n) fun kvs=>opt (dP kvs k) fun v=>.ok v S:=rfl
theorem mO {τ:List A} {S:az}:oW τ S=.ok (.ref S.length) (S++[.eY []]):=rfl
theorem AZ {n:Nat} {S:az}:mX (.ref n) S=opt (b8 S n) fun kvs=>.ok (.ref S.length) (S++[.lst ((sortI (kvs.map Prod.fst)).map .int)]):=rfl
theorem z8 {n:Nat} {S:az}:vH (.ref n) S=opt (au S n) fun xs=>opt (E5 xs) fun ps=>.ok (.ref S.length) (S++[.eY (FQ ps)]):=rfl
theorem MK {i j:Int} {S:az} (h:i.natAbs < big) (h':j.natAbs < big):tR (.int i) (.int j) S=.ok (.int (i * j)) S:=gJ ⟨h,h'⟩
theorem B9 (d:Pl):(iv d).length=d.length:=List.length_map ..
noncomputable abbrev J_:Sm:=bD (aJ cI (ug kD (ak 2) (aj (ak 3) (aj (eC (.int 0)) (aH)))) (ak 4)) (vf (ak 2) (ak 3))
theorem acc_step {S:az} {d:Nat} {D:Pl} {x0 x1:A} {k v:Int} (hd:b8 S d=some (iv D)) (hl:D.length < 16777216):J_ [x0,x1,.ref d,.int k,.int v] S=.nx [x0,x1,.ref d,.int k,.int v] (S.set d (.eY (iv (acc D k v)))):=by
 unfold J_
 simp only [bI,bools,xG,D6,hd,Option.map_some,u7,CP,zF,tV,lg (show (iv D).length < 16777216 by rw [B9];exact hl),wH]
 rfl
noncomputable abbrev HB:Tg:=qa 2 (iL (bK 3) (iL (bK 4) pY))
theorem xr {S S1:az} {d n:Nat} {D l:Pl} {x0 x1 x3 x4:A} {src:Ic} (hs:src [x0,x1,.ref d,x3,x4] S=.ok (b9 n (pl l).length) S1) (hn:au S1 n=some (pl l)) (hd:b8 S1 d=some (iv D)) (hl:D.length+l.length < 16777216) :
  ∃ y3 y4 S',cE src HB J_ [x0,x1,.ref d,x3,x4] S=.nx [x0,x1,.ref d,y3,y4] S'/\b8 S' d=some (iv (fT D l))/\Kp (·=d) S1 S':=by
 have nd:=zG hd hn
 refine iP (n:=n) (xs:=pl l) hs (fun i τ T=>(∃ y3 y4,τ=[x0,x1,.ref d,y3,y4])/\b8 T d=some (iv (fT D (l.take i)))/\Kp (·=d) S1 T)
  (fun r=>∃ y3 y4 S',r=.nx [x0,x1,.ref d,y3,y4] S'/\b8 S' d=some (iv (fT D l))/\Kp (·=d) S1 S') ⟨⟨_,_,rfl⟩,hd,Kp.refl⟩ (fun i τ T h=>h.2.2.lst _ _ (Ne.symm nd) hn) ?_ ?_
 ·rintro i z τ T hz ⟨⟨y3,y4,rfl⟩,hD,kp⟩
  unfold pl at hz
  rw [List.getElem?_map] at hz
  obtain ⟨p,hp,rfl⟩:=Option.map_eq_some_iff.mp hz
  refine ⟨[x0,x1,.ref d,.int p.1,.int p.2],T,rfl,.inl ?_⟩
  have hlen:=eo (l.take i) D
  have hi:=(List.getElem?_eq_some_iff.mp hp).1
  rw [List.length_take] at hlen
  refine ⟨_,_,acc_step hD (by omega),⟨_,_,rfl⟩,?_,kp.tB (.inl rfl)⟩
  rw [CG (Ii hD),List.take_add_one,hp,oO];rfl
 ·rintro τ T ⟨⟨y3,y4,rfl⟩,hD,kp⟩
  rw [jx,List.take_length] at hD
  exact ⟨y3,y4,T,rfl,hD,kp⟩
noncomputable abbrev GL:Sm:=bD (aJ cI (ug kD (ak 2) (aj (aJ cI (ak 3) (ak 5)) (aj (eC (.int 0)) (aH)))) (aJ tR (ak 4) (ak 6))) (vf (ak 2) (aJ cI (ak 3) (ak 5)))
noncomputable abbrev NY:Tg:=qa 2 (iL (bK 5) (iL (bK 6) pY))
theorem DA {S:az} {d:Nat} {D:Pl} {x0 x1:A} {k v j u:Int} (hd:b8 S d=some (iv D)) (hl:D.length < 16777216) (hv:v.natAbs < big) (hu:u.natAbs < big):GL [x0,x1,.ref d,.int k,.int v,.int j,.int u] S=.nx [x0,x1,.ref d,.int k,.int v,.int j,.int u] (S.set d (.eY (iv (acc D (k+j) (v * u))))):=by
 unfold GL
 simp only [bI,bools,xG,D6,hd,Option.map_some,u7,CP,MK hv hu,zF,tV,lg (show (iv D).length < 16777216 by rw [B9];exact hl),wH]
 rfl
theorem FJ {S:az} {d n:Nat} {D l:Pl} {x0 x5 x6:A} {k v:Int} (hn:au S n=some (pl l)) (hd:b8 S d=some (iv D)) (hl:D.length+l.length < 16777216) (hv:v.natAbs < big) (hu:∀ p∈l,p.2.natAbs < big) :
  ∃ y5 y6 S',cE (cH (ak 1)) NY GL [x0,.ref n,.ref d,.int k,.int v,x5,x6] S=.nx [x0,.ref n,.ref d,.int k,.int v,y5,y6] S'/\b8 S' d=some (iv (fT D (l.map fun q=>(k+q.1,v * q.2))))/\Kp (·=d) S S':=by
 have nd:=zG hd hn
 refine iP (n:=n) (xs:=pl l) (S1:=S) (dc (by simp only [bI,bools]) hn) (fun i τ T=>(∃ y5 y6,τ=[x0,.ref n,.ref d,.int k,.int v,y5,y6])/\b8 T d=some (iv (fT D ((l.take i).map fun q=>(k+q.1,v * q.2))))/\Kp (·=d) S T)
  (fun r=>∃ y5 y6 S',r=.nx [x0,.ref n,.ref d,.int k,.int v,y5,y6] S'/\b8 S' d=some (iv (fT D (l.map fun q=>(k+q.1,v * q.2))))/\Kp (·=d) S S') ⟨⟨_,_,rfl⟩,hd,Kp.refl⟩ (fun i τ T h=>h.2.2.lst _ _ (Ne.symm nd) hn) ?_ ?_
 ·rintro i z τ T hz ⟨⟨y5,y6,rfl⟩,hD,kp⟩
  unfold pl at hz
  rw [List.getElem?_map] at hz
  obtain ⟨p,hp,rfl⟩:=Option.map_eq_some_iff.mp hz
  refine ⟨[x0,.ref n,.ref d,.int k,.int v,.int p.1,.int p.2],T,rfl,.inl ?_⟩
  have hlen:=eo ((l.take i).map fun q=>(k+q.1,v * q.2)) D
  have hi:=(List.getElem?_eq_some_iff.mp hp).1
  rw [List.length_map,List.length_take] at hlen
  refine ⟨_,_,DA hD (by omega) hv (hu p (List.mem_of_getElem? hp)),⟨_,_,rfl⟩,?_,kp.tB (.inl rfl)⟩
  rw [CG (Ii hD),List.take_add_one,hp,List.map_append,oO];rfl
 ·rintro τ T ⟨⟨y5,y6,rfl⟩,hD,kp⟩
  rw [jx,List.take_length] at hD
  exact ⟨y5,y6,T,rfl,hD,kp⟩
noncomputable abbrev C9:Sm:=cE (cH (ak 1)) NY GL
theorem wA (f:Int×Int->A) (hf:∀ p τ S,HB (f p) τ S=HB (pA p) τ S) {S:az} {d n m:Nat} {a b:Pl} {x3 x4 x5 x6:A} (hn:au S n=some (a.map f)) (hm:au S m=some (pl b)) (hd:b8 S d=some []) (hl:a.length * b.length < 16777216) (ha:∀ p∈a,p.2.natAbs < big) (hb:∀ p∈b,p.2.natAbs < big) :
  ∃ y3 y4 y5 y6 S',cE (cH (ak 0)) HB C9 [.ref n,.ref m,.ref d,x3,x4,x5,x6] S=.nx [.ref n,.ref m,.ref d,y3,y4,y5,y6] S'/\b8 S' d=some (iv (fT [] (yP a b)))/\Kp (·=d) S S':=by
 have nd:=zG hd hn
 have md:=zG hd hm
 refine iP (n:=n) (xs:=a.map f) (S1:=S) (dc (by simp only [bI,bools]) hn) (fun i τ T=>(∃ y3 y4 y5 y6,τ=[.ref n,.ref m,.ref d,y3,y4,y5,y6])/\b8 T d=some (iv (fT [] (yP (a.take i) b)))/\Kp (·=d) S T)
  (fun r=>∃ y3 y4 y5 y6 S',r=.nx [.ref n,.ref m,.ref d,y3,y4,y5,y6] S'/\b8 S' d=some (iv (fT [] (yP a b)))/\Kp (·=d) S S') ⟨⟨_,_,_,_,rfl⟩,hd,Kp.refl⟩ (fun i τ T h=>h.2.2.lst _ _ (Ne.symm nd) hn) ?_ ?_
 ·rintro i z τ T hz ⟨⟨y3,y4,y5,y6,rfl⟩,hD,kp⟩
  rw [List.getElem?_map] at hz
  obtain ⟨p,hp,rfl⟩:=Option.map_eq_some_iff.mp hz
  refine ⟨[.ref n,.ref m,.ref d,.int p.1,.int p.2,y5,y6],T,hf _ _ _,.inl ?_⟩
  have hlen:=eo (yP (a.take i) b) []
  have hi:=(List.getElem?_eq_some_iff.mp hp).1
  rw [nL,List.length_take,Nat.min_eq_left (Nat.le_of_lt hi),List.length_nil,Nat.zero_add] at hlen
  have hmul:i * b.length+b.length<=a.length * b.length:=by rw [<- Nat.succ_mul];exact Nat.mul_le_mul_right _ hi
  obtain ⟨z5,z6,T',e,hD',kp'⟩:=FJ (x0:=.ref n) (x5:=y5) (x6:=y6) (k:=p.1) (v:=p.2) (kp.lst _ _ (Ne.symm md) hm) hD (by omega) (ha p (List.mem_of_getElem? hp)) hb
  refine ⟨_,_,e,⟨_,_,_,_,rfl⟩,?_,kp.trans kp'⟩
  rw [hD',List.take_add_one,hp,Option.toList_some,Bt,oO]
 ·rintro τ T ⟨⟨y3,y4,y5,y6,rfl⟩,hD,kp⟩
  rw [List.length_map,List.take_length] at hD
  exact ⟨y3,y4,y5,y6,T,rfl,hD,kp⟩
theorem q_ {S:az} {d n m:Nat} {a b:Pl} {x3 x4 x5 x6:A} (hn:au S n=some (pl a)) (hm:au S m=some (pl b)) (hd:b8 S d=some []) (hl:a.length * b.length < 16777216) (ha:∀ p∈a,p.2.natAbs < big) (hb:∀ p∈b,p.2.natAbs < big) :
  ∃ y3 y4 y5 y6 S',cE (cH (ak 0)) HB C9 [.ref n,.ref m,.ref d,x3,x4,x5,x6] S=.nx [.ref n,.ref m,.ref d,y3,y4,y5,y6] S'/\b8 S' d=some (iv (fT [] (yP a b)))/\Kp (·=d) S S':=wA pA (fun _ _ _=>rfl) hn hm hd hl ha hb
noncomputable abbrev MC:Ex:=bQ [none,some 0] (cH (bB (f1 mX) (aj (ak 0) (aH)))) (bK 0) (kh (aJ (fL true) (aJ mJ (ak 1) (ak 0)) (eC (.int 0)))) (fm (aj (ak 0) (aj (aJ mJ (ak 1) (ak 0)) (aH))))
theorem Cr {S:az} {d:Nat} {D:Pl} (hd:b8 S d=some (iv D)) (hl:D.length<=16777216):∃ S',MC [.ref d] S=.ok (.ref (S.length+1)) S'/\au S' (S.length+1)=some (pl (wJ D))/\dW S S':=by
 have hd1:b8 (S++[.lst ((sortI (D.map Prod.fst)).map .int)]) d=some (iv D):=BO hd
 have ls:(S++[O.lst ((sortI (D.map Prod.fst)).map A.int)]).length=S.length+1:=by simp
 have cc:=Av (n:=S.length) (xs:=(sortI (D.map Prod.fst)).map A.int) (cap:=[some 0]) (src:=cH (bB (f1 mX) (aj (ak 0) (aH)))) (t:=kh (aJ (fL true) (aJ mJ (ak 1) (ak 0)) (eC (.int 0)))) (e:=fm (aj (ak 0) (aj (aJ mJ (ak 1) (ak 0)) (aH)))) (τ:=[.ref d]) (S:=S) (S1:=S++[.lst ((sortI (D.map Prod.fst)).map .int)])
  (dc (by simp only [bI,bools,AZ,hd,Fl]) aQ) aQ (fun x=>match x with | .int k=>val D k != 0 | _=>false) (fun x=>match x with | .int k=>pA (k,val D k) | _=>.non) (fun x hx=>by
   obtain ⟨k,hk,rfl⟩:=List.mem_map.mp hx
   have hk:=(sortI_perm _).mem_iff.mp hk
   simp only [bI,bools,xB,hd1,tQ hk]
   rfl) (fun x hx _=>by
   obtain ⟨k,hk,rfl⟩:=List.mem_map.mp hx
   have hk:=(sortI_perm _).mem_iff.mp hk
   simp only [bI,bools,xB,hd1,tQ hk]
   exact eG (show 2<=16777216 by decide)) (by rw [List.length_map,(sortI_perm _).length_eq,List.length_map];exact hl)
 refine ⟨_,cc.trans (by rw [ls]),?_,Kp.refl.lay.lay⟩
 rw [<- ls,aQ]
 congr 1
 unfold pl wJ
 rw [List.map_map,List.filter_map,List.map_map];rfl
end Am
namespace Su
open Am Po PySem L2
noncomputable abbrev En:=List Int×Nat×Pl
noncomputable abbrev Es:=List En
noncomputable def ent (e:En):A:=.tup [.tup (e.1.map .int),.ref e.2.1]
noncomputable def kv (e:En):List Int×A:=(e.1,.ref e.2.1)
noncomputable def At (S:az) (es:Es):Prop:=∀ e∈es,au S e.2.1=some (pl e.2.2)
noncomputable abbrev Ps:=List (List Int×Pl)
noncomputable def sm (es:Es):Ps:=es.map fun e=>(e.1,e.2.2)
theorem fq (es:Es):(sm es).length=es.length:=List.length_map ..
theorem wI (a b:Es):sm (a++b)=sm a++sm b:=List.map_append
noncomputable def vS (D:Ps) (o:List Int):Pl:=((D.find? fun e=>decide (e.1=o)).map (·.2)).getD []
noncomputable def hS (D:Ps) (o:List Int):Bool:=D.any fun e=>decide (e.1=o)
noncomputable def IJ (D:Ps) (o:List Int) (p:Pl):Ps:=if hS D o=true then D.map (fun e=>if e.1=o then (e.1,p) else e) else D++[(o,p)]
noncomputable def z7 (D:Ps) (o:List Int) (p:Pl):Ps:=IJ D o (eK (vS D o) p)
noncomputable def adds (D l:Ps):Ps:=l.foldl (fun D e=>z7 D e.1 e.2) D
noncomputable def toS (D:Ps):Ps:=((f_ (D.map Prod.fst)).filter fun o=>!(vS D o).isEmpty).map fun o=>(o,vS D o)
noncomputable def fE (D:Es) (o:List Int):Option En:=D.find? fun e=>decide (e.1=o)
noncomputable def iD (D:Es) (o:List Int) (r:Nat) (p:Pl):Es:=if (fE D o).isSome=true then D.map (fun e=>if e.1=o then (e.1,r,p) else e) else D++[(o,r,p)]
theorem Gr (D:Es) (o:List Int):(sm D).find? (fun e=>decide (e.1=o))=(fE D o).map fun e=>(e.1,e.2.2):=by
 unfold sm fE
 rw [List.find?_map];rfl
theorem Eh (D:Es) (o:List Int):vS (sm D) o=((fE D o).map fun e=>e.2.2).getD []:=by
 unfold vS
 rw [Gr,Option.map_map];rfl
theorem Nq (D:Es) (o:List Int):hS (sm D) o=(fE D o).isSome:=by
 unfold hS sm fE
 rw [List.any_map,Bool.eq_iff_iff,List.find?_isSome,List.any_eq_true];rfl
theorem Ja (D:Es) (o:List Int) (r:Nat) (p:Pl):sm (iD D o r p)=IJ (sm D) o p:=by
 unfold iD IJ
 rw [Nq]
 unfold sm
 split
 ·rw [List.map_map,List.map_map]
  apply List.map_congr_left
  intro e _
  show ((if e.1=o then (e.1,r,p) else e).1,(if e.1=o then (e.1,r,p) else e).2.2)=if e.1=o then (e.1,p) else (e.1,e.2.2)
  split <;> rfl
 ·rw [List.map_append];rfl
theorem rK (D:Es) (o:List Int):dJ (D.map kv) o=(fE D o).map fun e=>.ref e.2.1:=by
 unfold dJ fE
 rw [List.find?_map,Option.map_map];rfl
theorem vP (D:Es) (o:List Int) (r:Nat) (p:Pl):putD (D.map kv) o (.ref r)=(iD D o r p).map kv:=by
 unfold putD iD
 rw [rK,Option.isSome_map]
 split
 ·rw [List.map_map,List.map_map]
  apply List.map_congr_left
  intro e _
  show (if e.1=o then (e.1,A.ref r) else (e.1,.ref e.2.1))=kv (if e.1=o then (e.1,r,p) else e)
  split <;> rfl
 ·rw [List.map_append];rfl
theorem gO {D:Es} {o:List Int} {r:Nat} {p:Pl} {e:En} (h:e∈iD D o r p):e∈D\/e=(o,r,p):=by
 unfold iD at h
 split at h
 ·obtain ⟨e',h1,rfl⟩:=List.mem_map.mp h
  split
  ·rename_i c;exact .inr (by rw [c])
  ·exact .inl h1
 ·rcases List.mem_append.mp h with z | z
  ·exact .inl z
  ·exact .inr (List.mem_singleton.mp z)
theorem r9 {D:Es} {o:List Int} {r:Nat} {p:Pl}:(iD D o r p).length<=D.length+1:=by
 unfold iD
 split
 ·rw [List.length_map];omega
 ·rw [List.length_append];exact Nat.le_refl _
theorem o7 {D:Es} {o:List Int} {e:En} (h:fE D o=some e):e∈D/\e.1=o:=⟨List.mem_of_find?_eq_some h,by
 unfold fE at h
 have:=List.find?_some h
 simpa using this⟩
theorem At.put {S:az} {D:Es} {o:List Int} {r:Nat} {p:Pl} (h:At S D) (hr:au S r=some (pl p)):At S (iD D o r p):=fun e he=>by
 rcases gO he with z | z
 ·exact h e z
 ·rw [z];exact hr
theorem At.kp {S S':az} {D:Es} {b:Nat->Prop} (h:At S D) (k:Kp b S S') (hb:∀ e∈D,¬ b e.2.1):At S' D:=fun e he=>k.lst _ _ (hb e he) (h e he)
theorem At.vq {S S':az} {D:Es} (h:At S D) (k:dW S S'):At S' D:=h.kp k fun _ _ z=>z
theorem At.app {S:az} {a b:Es} (h:At S a) (h':At S b):At S (a++b):=fun e he=>(List.mem_append.mp he).elim (h e) (h' e)
theorem je {S:az} {n m:Nat} {d:List (List Int×A)} {xs:List A} (h:bA S n=some d) (h':au S m=some xs):n≠m:=fun z=>by
 subst z
 have e1:=eB h
 rw [aU h'] at e1
 cases e1
theorem At.NN {S S':az} {D:Es} {d:Nat} {kvs:List (List Int×A)} (h:At S D) (k:Kp (·=d) S S') (hd:bA S d=some kvs):At S' D:=h.kp k fun e he z=>je hd (h e he) z.symm
noncomputable def Vl (k b:Nat) (D:Es):Prop:=∀ e∈D,Ok e.2.2/\e.2.2.length<=k/\b<=e.2.1
theorem Vl.mono {k k' b:Nat} {D:Es} (h:Vl k b D) (hk:k<=k'):Vl k' b D:=fun e he=>⟨(h e he).1,Nat.le_trans (h e he).2.1 hk,(h e he).2.2⟩
theorem Vl.v {k b:Nat} {D:Es} (h:Vl k b D) (o:List Int):Ok (vS (sm D) o)/\(vS (sm D) o).length<=k:=by
 rw [Eh]
 cases e:fE D o with
 | none=>exact ⟨⟨List.Pairwise.nil,fun _ z=>nomatch z⟩,Nat.zero_le _⟩
 | some e'=>exact ⟨(h e' (o7 e).1).1,(h e' (o7 e).1).2.1⟩
theorem A3 (a b:Pl):(eK a b).length<=a.length+b.length:=by
 refine Nat.le_trans (yS _) (Nat.le_trans (eo _ _) ?_)
 rw [List.length_append,List.length_nil];omega
theorem zN (a b:Pl):(times a b).length<=a.length * b.length:=by
 refine Nat.le_trans (yS _) (Nat.le_trans (eo _ _) ?_)
 rw [nL,List.length_nil];omega
theorem Vl.add {k b j r:Nat} {D:Es} {o:List Int} {p:Pl} (h:Vl k b D) (hp:p.length<=j) (hr:b<=r):Vl (k+j) b (iD D o r (eK (vS (sm D) o) p)):=fun e he=>by
 rcases gO he with z | z
 ·exact (h.mono (Nat.le_add_right _ _)) e z
 ·rw [z]
  refine ⟨EU _ _,?_,hr⟩
  have:=A3 (vS (sm D) o) p
  have:=(h.v o).2
  show (eK (vS (sm D) o) p).length<=_
  omega
theorem lN {S:az} {xs:List (List Int×A)}:bA (S++[.dct xs]) S.length=some xs:=lE wG
theorem nM {S:az} {o:O} {n:Nat} {xs:List (List Int×A)} (h:bA S n=some xs):bA (S++[o]) n=some xs:=by
 have h':=eB h
 exact lE (by rw [List.getElem?_append_left (List.getElem?_eq_some_iff.mp h').1];exact h')
theorem vJ {S:az} {n:Nat} {xs:List (List Int×A)} (h:bA S n=some xs):n < S.length:=(List.getElem?_eq_some_iff.mp (eB h)).1
theorem sA {S:az} {n:Nat} {ys:List (List Int×A)} (h:n < S.length):bA (S.set n (.dct ys)) n=some ys:=lE (List.getElem?_set_self h)
theorem yU {f:A->List A->az->R A} {co:Ex} {d:gB} {τ:List A} {S:az}:FY f co d τ S=(co τ S).bind fun x S1=>opt (dct? x S1) fun _=>(d τ S1).bind fun as S2=>f x as S2:=rfl
theorem wY {n:Nat} {S:az}:dct? (.ref n) S=(bA S n).map fun _=>():=rfl
theorem jH {τ:List A} {S:az}:oK τ S=.ok (.ref S.length) (S++[.dct []]):=rfl
theorem sH {co ci:Ex} {a:A} {τ:List A} {S:az}:Ck co ci a τ S=(co τ S).bind fun o S1=>(ci τ S1).bind fun i S2=>(yf o i a S2).bind fun _ S3=>.ok τ S3:=rfl
theorem yO {n:Nat} {o:List Int} {y:A} {S:az}:Fb (.ref n) [.tup (o.map .int),y] S=opt (bA S n) fun kvs=>.ok ((dJ kvs o).getD y) S:=by
 show opt (bA S n) (fun kvs=>opt (A.ints (o.map .int)) fun k=>.ok ((dJ kvs k).getD y) S)=_
 rw [ints_map];rfl
theorem pB {n:Nat} {o:List Int} {v:A} {S:az}:yf (.ref n) (.tup (o.map .int)) v S=opt (bA S n) fun kvs=>gd (kvs.length < sizeLine) (.ok () (S.set n (.dct (putD kvs o v)))):=by
 show opt (bA S n) (fun kvs=>opt (A.ints (o.map .int)) fun ns=>gd (kvs.length < sizeLine) (.ok () (S.set n (.dct (putD kvs ns v)))))=_
 rw [ints_map];rfl
theorem lK {n:Nat} {o:List Int} {S:az}:mw (.ref n) (.tup (o.map .int)) S=opt (bA S n) fun kvs=>opt (dJ kvs o) fun v=>.ok v S:=by
 show opt (bA S n) (fun kvs=>opt (A.ints (o.map .int)) fun ns=>opt (dJ kvs ns) fun v=>.ok v S)=_
 rw [ints_map];rfl
theorem get_or {S:az} {d:Nat} {D:Es} {o:List Int} (hd:bA S d=some (D.map kv)) (hA:At S D):∃ x:Nat,(dJ (D.map kv) o).getD (.ref S.length)=.ref x/\au (S++[.lst []]) x=some (pl (vS (sm D) o)):=by
 rw [rK,Eh]
 cases e:fE D o with
 | none=>exact ⟨S.length,rfl,aQ⟩
 | some e'=>exact ⟨e'.2.1,rfl,aX (hA e' (o7 e).1)⟩
theorem Gi {α:Type} {xs:List α} (g:α->A) {n:Nat} {cap:List (Option Nat)} {src:Ic} {t:Te} {e:Ex} {τ:List A} {S S1:az} (hs:src τ S=.ok (b9 n (xs.map g).length) S1) (hx:au S1 n=some (xs.map g)) (d:α) (p:α->Bool) (f:α->A)
  (step:∀ x∈xs,∀ T,dW S1 T->∃ T1,t (g x::cT cap τ) T=.ok (p x) T1/\dW S1 T1/\(p x=true->∃ T2,e (g x::cT cap τ) T1=.ok (f x) T2/\dW S1 T2)) (hl:xs.length<=16777216) :
  ∃ S',bQ (none::cap) src (bK 0) t e τ S=.ok (.ref S'.length) (S'++[.lst ((xs.filter p).map f)])/\dW S1 S':=by
 have hm:∀ i,i < xs.length->xs.getD i d∈xs:=fun i hi=>by
  rw [List.getD_eq_getElem?_getD,List.getElem?_eq_getElem hi];exact List.getElem_mem hi
 have hk:(xs.map g).length=xs.length:=List.length_map ..
 obtain ⟨S',h1,h2⟩:=kY (s:=b9 n (xs.map g).length) (g:=bK 0) (t:=t) (e:=e) (P:=fun T=>dW S1 T) (T:=fun τ'=>∃ y,τ'=y::cT cap τ) (fun i=>g (xs.getD i d)) (fun i=>p (xs.getD i d)) (fun i=>f (xs.getD i d)) (fun i T hi h=>by
   have hi:i < (xs.map g).length:=hi
   show (au T n).bind _=_
   rw [h.lst _ _ (fun z=>z) hx,Option.bind_some,List.getElem?_map,List.getElem?_eq_getElem (by omega),List.getD_eq_getElem?_getD,List.getElem?_eq_getElem (by omega)];rfl) (fun T h=>by
   show (match au T n with
    | some ys=>decide (ys.length<=(xs.map g).length)
    | none=>false)=true
   rw [h.lst _ _ (fun z=>z) hx]
   simp)
  (fun i τ' T hi ⟨y,hy⟩ h=>by
   have hi:i < (xs.map g).length:=hi
   subst hy
   obtain ⟨T1,e1,k1,e2⟩:=step _ (hm i (by omega)) T h
   exact ⟨g (xs.getD i d)::cT cap τ,T,T1,rfl,e1,⟨_,rfl⟩,fun _=>k1,e2⟩) (xs.map g).length 0 (cT (none::cap) τ) S1 rfl ⟨_,rfl⟩ Kp.refl
 refine ⟨S',?_,h2⟩
 unfold bQ
 rw [hs,R.iQ]
 show (dU (b9 n (xs.map g).length) (bK 0) t e (xs.map g).length 0 (cT (none::cap) τ) S1).jj _=_
 rw [h1,R.cO,<- List.range_eq_range',hk,iw xs p f d]
 refine bC ?_
 rw [List.length_map]
 exact Nat.le_trans (List.length_filter_le _ _) hl
theorem vd {es:Es} {n:Nat} {cap:List (Option Nat)} {src:Ic} {ex:Ex} {τ:List A} {S:az} (hs:src τ S=.ok (b9 n (es.map ent).length) S) (hx:au S n=some (es.map ent)) (F:Pl->Pl)
  (step:∀ e∈es,∀ T,dW S T->∃ (r:Nat) (T':az),ex (.tup (e.1.map .int)::.ref e.2.1::cT cap τ) T=.ok (.tup [.tup (e.1.map .int),.ref r]) T'/\au T' r=some (pl (F e.2.2))/\T.length<=r/\dW T T') (hl:es.length<=16777216) :
  ∃ (m:Nat) (S':az) (fs:Es),bQ (none::none::cap) src Ke g_ ex τ S=.ok (.ref m) S'/\au S' m=some (fs.map ent)/\At S' fs/\sm fs=es.map (fun e=>(e.1,F e.2.2))/\(∀ e∈fs,S.length<=e.2.1/\e.2.1 < m)/\S.length<=m/\dW S S':=by
 have hk:(es.map ent).length=es.length:=List.length_map ..
 obtain ⟨ys,S',h1,k1,fs,rfl,h2,h3,h4⟩:=ud (s:=b9 n (es.map ent).length) (g:=Ke) (e:=ex) (T:=fun τ'=>∃ y z,τ'=y::z::cT cap τ) (fun i acc T=>dW S T/\∃ fs:Es,acc=fs.map ent/\At T fs/\sm fs=(es.take i).map (fun e=>(e.1,F e.2.2))/\∀ e∈fs,S.length<=e.2.1/\e.2.1 < T.length)
  (fun i acc τ' T hi ⟨y,z,hy⟩ hP=>by
   have hi:i < (es.map ent).length:=hi
   obtain ⟨kT,fs,rfl,a1,a2,a3⟩:=hP
   subst hy
   have he:es[i]?=some es[i]:=List.getElem?_eq_getElem (by omega)
   obtain ⟨r,T',e1,e2,e3,e4⟩:=step es[i] (List.mem_of_getElem? he) T kT
   have lr:=gQ e2
   refine ⟨ent es[i],.tup (es[i].1.map .int)::.ref es[i].2.1::cT cap τ,T,_,T',?_,rfl,⟨_,_,rfl⟩,e1,kT.trans e4,fs++[(es[i].1,r,F es[i].2.2)],by rw [List.map_append];rfl,?_,?_,?_⟩
   ·show (au T n).bind _=_
    rw [kT.lst _ _ (fun z=>z) hx,Option.bind_some,List.getElem?_map,he];rfl
   ·refine (a1.vq e4).app fun e h=>?_
    rw [List.mem_singleton.mp h];exact e2
   ·rw [wI,a2,List.take_add_one,he,List.map_append];rfl
   ·intro e h
    have:=e4.len
    have:=kT.len
    rcases List.mem_append.mp h with z | z
    ·have:=a3 e z;omega
    ·rw [List.mem_singleton.mp z];show S.length<=r/\r < _;omega) (fun acc T hP=>by
   show (match au T n with
    | some ys=>decide (ys.length<=(es.map ent).length)
    | none=>false)=true
   rw [hP.1.lst _ _ (fun z=>z) hx]
   simp) (es.map ent).length 0 [] (cT (none::none::cap) τ) S rfl ⟨_,_,rfl⟩ ⟨Kp.refl,[],rfl,(fun _ h=>nomatch h),by rw [List.take_zero];rfl,fun _ h=>nomatch h⟩
 rw [show (b9 n (es.map ent).length).k=es.length from hk,List.take_length] at h3
 have lf:fs.length=es.length:=by have:=congrArg List.length h3;rwa [fq,List.length_map] at this
 refine ⟨S'.length,S'++[.lst (fs.map ent)],fs,?_,aQ,h2.vq Kp.refl.lay,h3,fun e he=>h4 e he,k1.len,k1.lay⟩
 unfold bQ
 rw [hs,R.iQ]
 show (dU (b9 n (es.map ent).length) Ke g_ ex (es.map ent).length 0 (cT (none::none::cap) τ) S).jj _=_
 rw [h1,R.cO]
 exact bC (by rw [List.length_map,lf];exact hl)
theorem Ig {D:Es} {o:List Int} (h:o∈D.map Prod.fst):∃ e,fE D o=some e:=by
 unfold fE
 cases e:D.find? fun e=>decide (e.1=o) with
 | some x=>exact ⟨x,rfl⟩
 | none=>
  obtain ⟨x,hx,rfl⟩:=List.mem_map.mp h
  exact absurd (decide_eq_true rfl) (List.find?_eq_none.mp e x hx)
noncomputable def m9 (k:List Int):A:=.tup (k.map .int)
theorem pH {S:az} {d:Nat} {D:Es} (hd:bA S d=some (D.map kv)) (hne:∀ e∈D,e.1≠[]):jQ (.ref d) S=.ok (.ref S.length) (S++[.lst ((f_ (D.map Prod.fst)).map m9)]):=by
 have ek:(D.map kv).map Prod.fst=D.map Prod.fst:=by rw [List.map_map];rfl
 show opt (bA S d) _=_
 rw [hd,cD]
 have:((D.map kv).map Prod.fst).all (fun ks=>!ks.isEmpty)=true:=by
  rw [ek,List.all_map,List.all_eq_true]
  intro e he
  have:=hne e he
  show (!(e.1).isEmpty)=true
  cases h:e.1 with
  | nil=>exact absurd h this
  | cons=>rfl
 rw [ek] at this ⊢
 rw [this];rfl
noncomputable def gA (D:Es) (p:Pl->Bool):Es:=((f_ (D.map Prod.fst)).filter fun o=>p (vS (sm D) o)).map fun o=>(o,((fE D o).map fun e=>e.2.1).getD 0,vS (sm D) o)
theorem nV (D:Es):sm (gA D fun p=>!p.isEmpty)=toS (sm D):=by
 unfold gA toS sm
 rw [List.map_map,List.map_map];rfl
theorem jW {D:Es} {p:Pl->Bool} {e:En} (h:e∈gA D p):e∈D/\p e.2.2=true:=by
 obtain ⟨o,ho,rfl⟩:=List.mem_map.mp h
 obtain ⟨h1,h2⟩:=List.mem_filter.mp ho
 obtain ⟨e,he⟩:=Ig ((di _).mem_iff.mp h1)
 rw [Eh,he] at h2
 rw [Eh,he]
 obtain ⟨m,rfl⟩:=o7 he
 exact ⟨m,h2⟩
theorem pR {S:az} {d:Nat} {D:Es} {cap:List (Option Nat)} {τ:List A} {src:Ic} {t:Te} {e:Ex} (hd:bA S d=some (D.map kv)) (hA:At S D) (hs:src τ S=.ok (b9 S.length ((f_ (D.map Prod.fst)).map m9).length) (S++[.lst ((f_ (D.map Prod.fst)).map m9)])) (p:Pl->Bool)
  (ht:∀ (o:List Int) (r:Nat) (q:Pl) (T:az),bA T d=some (D.map kv)->dJ (D.map kv) o=some (.ref r)->au T r=some (pl q)->∃ T1,t (m9 o::cT cap τ) T=.ok (p q) T1/\dW T T1)
  (he:∀ (o:List Int) (r:Nat) (T:az),bA T d=some (D.map kv)->dJ (D.map kv) o=some (.ref r)->e (m9 o::cT cap τ) T=.ok (.tup [m9 o,.ref r]) T) (hl:D.length<=16777216) :
  ∃ (n:Nat) (S':az),bQ (none::cap) src (bK 0) t e τ S=.ok (.ref n) S'/\au S' n=some ((gA D p).map ent)/\At S' (gA D p)/\S.length < n/\dW S S':=by
 have kx:dW S (S++[.lst ((f_ (D.map Prod.fst)).map m9)]):=Kp.refl.lay
 obtain ⟨S',e1,k1⟩:=Gi m9 (t:=t) (e:=e) (cap:=cap) hs aQ [] (fun o=>p (vS (sm D) o)) (fun o=>ent (o,((fE D o).map fun e=>e.2.1).getD 0,vS (sm D) o)) (fun o ho T kT=>by
  obtain ⟨e',he'⟩:=Ig ((di _).mem_iff.mp ho)
  have lk:dJ (D.map kv) o=some (.ref e'.2.1):=by rw [rK,he'];rfl
  have kST:=kx.trans kT
  have dT:=kST.dct _ _ (fun z=>z) hd
  have lT:=kST.lst _ _ (fun z=>z) (hA e' (o7 he').1)
  obtain ⟨T1,h1,h2⟩:=ht o e'.2.1 e'.2.2 T dT lk lT
  rw [Eh,he']
  exact ⟨T1,h1,kT.trans h2,fun _=>⟨T1,he o e'.2.1 T1 (h2.dct _ _ (fun z=>z) dT) lk,kT.trans h2⟩⟩) (by
  rw [(di _).length_eq,List.length_map];exact hl)
 have kS:=kx.trans k1
 refine ⟨S'.length,_,e1,?_,(?_:At S' (gA D p)).vq Kp.refl.lay,?_,kS.lay⟩
 ·rw [aQ]
  unfold gA
  rw [List.map_map];rfl
 ·exact fun e h=>kS.lst _ _ (fun z=>z) (hA e (jW h).1)
 ·have:=k1.len
  rw [List.length_append] at this
  exact this
noncomputable def lC (F:List A->az->R A):Prop:=∀ {S:az} {d r:Nat} {D:Es} {o:List Int} {p:Pl} {k b:Nat},bA S d=some (D.map kv)->At S D->Vl k b D->au S r=some (pl p)->D.length < 16777216->k+p.length < 16777216 ->
  ∃ (L:Nat) (S':az),F [.ref d,.tup (o.map .int),.ref r] S=.ok .non S'/\bA S' d=some ((iD D o L (eK (vS (sm D) o) p)).map kv)/\At S' (iD D o L (eK (vS (sm D) o) p))/\S.length<=L/\Kp (·=d) S S'
noncomputable def m7 (F:List A->az->R A):Prop:=∀ {S:az} {n m:Nat} {a b:Pl},au S n=some (pl a)->au S m=some (pl b)->a.length * b.length < 16777216->(∀ p∈a,p.2.natAbs < big)->(∀ p∈b,p.2.natAbs < big) ->
  ∃ (L:Nat) (S':az),F [.ref n,.ref m] S=.ok (.ref L) S'/\au S' L=some (pl (times a b))/\S.length<=L/\dW S S'
structure Fil (T:az) (d b i j:Nat) (P:Ps) (D:Es):Prop where
 dd:bA T d=some (D.map kv)
 aa:At T D
 ss:sm D=P
 vv:Vl (i * j) b D
 kk:∀ e∈D,e.1≠[]
 ll:D.length<=i
theorem Fil.new {S:az} {d b j:Nat} (hd:bA S d=some []):Fil S d b 0 j [] []:=⟨hd,(fun _ h=>nomatch h),rfl,(fun _ h=>nomatch h),(fun _ h=>nomatch h),Nat.le_refl _⟩
theorem Fil.vq {S T:az} {d b i j:Nat} {P:Ps} {D:Es} (h:Fil S d b i j P D) (k:dW S T):Fil T d b i j P D:=⟨k.dct _ _ (fun z=>z) h.dd,h.aa.vq k,h.ss,h.vv,h.kk,h.ll⟩
theorem Fil.add {F:List A->az->R A} (hF:lC F) {T:az} {d b i j r:Nat} {P:Ps} {D:Es} {o:List Int} {p:Pl} (h:Fil T d b i j P D) (hr:au T r=some (pl p)) (hp:p.length<=j) (ho:o≠[]) (hb:b<=T.length) (hl:i * j+j < 16777216) (hi:i < 16777216) :
  ∃ (D':Es) (T':az),F [.ref d,.tup (o.map .int),.ref r] T=.ok .non T'/\Fil T' d b (i+1) j (z7 P o p) D'/\Kp (·=d) T T':=by
 have hl0:=h.ll
 obtain ⟨L,T',e,h1,h2,h3,h4⟩:=hF (o:=o) h.dd h.aa h.vv hr (by omega) (by omega)
 refine ⟨_,T',e,⟨h1,h2,by rw [Ja,h.ss];rfl,?_,fun e he=>?_,?_⟩,h4⟩
 ·have:=h.vv.add (o:=o) (p:=p) (j:=j) hp (show b<=L by omega)
  rw [Nat.succ_mul];exact this
 ·rcases gO he with z | z
  ·exact h.kk e z
  ·rw [z];exact ho
 ·have:=r9 (D:=D) (o:=o) (r:=L) (p:=eK (vS (sm D) o) p)
  omega
theorem xO {S S1:az} {d n j b i0 w:Nat} {P:Ps} {D0:Es} {es:Es} {x0 x1 x3 x4:A} {xs:List A} {src:Ic} {c:Sm} (G:En->Ps->Ps) (hs:src (x0::x1::.ref d::x3::x4::xs) S=.ok (b9 n (es.map ent).length) S1) (hn:au S1 n=some (es.map ent)) (hd:Fil S1 d b i0 j P D0)
  (step:∀ (i:Nat) (e:En) (T:az) (Q:Ps) (D:Es),i < es.length->e∈es->Kp (·=d) S1 T->Fil T d b (i0+w * i) j Q D->∃ (D':Es) (T':az),c (x0::x1::.ref d::.tup (e.1.map .int)::.ref e.2.1::xs) T=.nx (x0::x1::.ref d::.tup (e.1.map .int)::.ref e.2.1::xs) T'/\Fil T' d b (i0+w * (i+1)) j (G e Q) D'/\Kp (·=d) T T') :
  ∃ (y3 y4:A) (D:Es) (S':az),cE src HB c (x0::x1::.ref d::x3::x4::xs) S=.nx (x0::x1::.ref d::y3::y4::xs) S'/\Fil S' d b (i0+w * es.length) j (es.foldl (fun Q e=>G e Q) P) D/\Kp (·=d) S1 S':=by
 have hle:(es.map ent).length=es.length:=List.length_map ..
 refine iP (n:=n) (xs:=es.map ent) (S1:=S1) hs (fun i τ T=>(∃ y3 y4,τ=x0::x1::.ref d::y3::y4::xs)/\(∃ D,Fil T d b (i0+w * i) j ((es.take i).foldl (fun Q e=>G e Q) P) D)/\Kp (·=d) S1 T)
  (fun r=>∃ (y3 y4:A) (D:Es) (S':az),r=.nx (x0::x1::.ref d::y3::y4::xs) S'/\Fil S' d b (i0+w * es.length) j (es.foldl (fun Q e=>G e Q) P) D/\Kp (·=d) S1 S') ⟨⟨_,_,rfl⟩,⟨D0,hd⟩,Kp.refl⟩ (fun i τ T h=>h.2.2.lst _ _ (Ne.symm (je hd.dd hn)) hn) ?_ ?_
 ·rintro i z τ T hz ⟨⟨y3,y4,rfl⟩,⟨D,f⟩,kp⟩
  rw [List.getElem?_map] at hz
  obtain ⟨e,he,rfl⟩:=Option.map_eq_some_iff.mp hz
  refine ⟨x0::x1::.ref d::.tup (e.1.map .int)::.ref e.2.1::xs,T,rfl,.inl ?_⟩
  obtain ⟨D',T',e1,f',k'⟩:=step i e T _ D (List.getElem?_eq_some_iff.mp he).1 (List.mem_of_getElem? he) kp f
  refine ⟨_,T',e1,⟨_,_,rfl⟩,⟨D',?_⟩,kp.trans k'⟩
  rw [List.take_add_one,he,List.foldl_append];exact f'
 ·rintro τ T ⟨⟨y3,y4,rfl⟩,⟨D,f⟩,kp⟩
  rw [hle,List.take_length] at f
  exact ⟨y3,y4,D,T,rfl,f,kp⟩
theorem Ad (P:Ps) (es:Es):es.foldl (fun Q e=>z7 Q e.1 e.2.2) P=adds P (sm es):=by
 unfold adds sm
 rw [List.foldl_map]
theorem AA (q:Pl) (P:Ps) (es:Es):es.foldl (fun Q e=>z7 Q e.1 (times q e.2.2)) P=adds P ((sm es).map fun e=>(e.1,times q e.2)):=by
 unfold adds sm
 rw [List.foldl_map,List.foldl_map]
theorem xZ {F:List A->az->R A} (hF:lC F) {S S1:az} {d n j b i0:Nat} {P:Ps} {D0:Es} {es:Es} {x0 x1 x3 x4:A} {xs:List A} {src:Ic} (hs:src (x0::x1::.ref d::x3::x4::xs) S=.ok (b9 n (es.map ent).length) S1) (hn:au S1 n=some (es.map ent)) (hA:At S1 es) (hd:Fil S1 d b i0 j P D0) (hb:b<=S1.length)
  (hj:∀ e∈es,e.2.2.length<=j/\e.1≠[]) (hl:(i0+es.length) * j+j < 16777216) (hl':i0+es.length < 16777216) :
  ∃ (y3 y4:A) (D:Es) (S':az),cE src HB (eF (eFn F (aj (ak 2) (aj (ak 3) (aj (ak 4) aH))))) (x0::x1::.ref d::x3::x4::xs) S=.nx (x0::x1::.ref d::y3::y4::xs) S'/\Fil S' d b (i0+es.length) j (adds P (sm es)) D/\Kp (·=d) S1 S':=by
 have:=xO (w:=1) (c:=eF (eFn F (aj (ak 2) (aj (ak 3) (aj (ak 4) aH))))) (fun e Q=>z7 Q e.1 e.2.2) hs hn hd fun i e T Q D hi hm kp f=>by
  have hle':=kp.len
  rw [Nat.one_mul] at f ⊢
  have hmul:(i0+i) * j<=(i0+es.length) * j:=Nat.mul_le_mul_right _ (by omega)
  obtain ⟨D',T',e1,f',k'⟩:=f.add hF (o:=e.1) ((hA.NN kp hd.dd) e hm) (hj e hm).1 (hj e hm).2 (by omega) (by omega) (by omega)
  exact ⟨D',T',by simp only [bI,bools,e1],f',k'⟩
 rw [Nat.one_mul,Ad] at this
 exact this
theorem uP {F G:List A->az->R A} (hF:lC F) (hG:m7 G) {S S1:az} {d n j b i0 m:Nat} {P:Ps} {D0:Es} {es:Es} {q:Pl} {x1 x3 x4:A} {xs:List A} {src:Ic} (hs:src (.ref m::x1::.ref d::x3::x4::xs) S=.ok (b9 n (es.map ent).length) S1) (hn:au S1 n=some (es.map ent)) (hA:At S1 es) (hm:au S1 m=some (pl q)) (hd:Fil S1 d b i0 j P D0) (hb:b<=S1.length)
  (hj:∀ e∈es,q.length * e.2.2.length<=j/\e.1≠[]/\∀ p∈e.2.2,p.2.natAbs < big) (hq:∀ p∈q,p.2.natAbs < big) (hl:(i0+es.length) * j+j < 16777216) (hl':i0+es.length < 16777216) :
  ∃ (y3 y4:A) (D:Es) (S':az),cE src HB (eF (eFn F (aj (ak 2) (aj (ak 3) (aj (eFn G (aj (ak 0) (aj (ak 4) aH))) aH))))) (.ref m::x1::.ref d::x3::x4::xs) S=.nx (.ref m::x1::.ref d::y3::y4::xs) S'/\Fil S' d b (i0+es.length) j (adds P ((sm es).map fun e=>(e.1,times q e.2))) D/\Kp (·=d) S1 S':=by
 have:=xO (w:=1) (c:=eF (eFn F (aj (ak 2) (aj (ak 3) (aj (eFn G (aj (ak 0) (aj (ak 4) aH))) aH))))) (fun e Q=>z7 Q e.1 (times q e.2.2)) hs hn hd fun i e T Q D hi he kp f=>by
  have hle':=kp.len
  rw [Nat.one_mul] at f ⊢
  obtain ⟨j1,j2,j3⟩:=hj e he
  have hmul:(i0+i) * j<=(i0+es.length) * j:=Nat.mul_le_mul_right _ (by omega)
  obtain ⟨L,T1,e1,l1,l2,k1⟩:=hG (kp.lst _ _ (Ne.symm (je hd.dd hm)) hm) ((hA.NN kp hd.dd) e he) (by omega) hq j3
  have k1l:=k1.len
  obtain ⟨D',T',e2,f',k'⟩:=(f.vq k1).add hF (o:=e.1) l1 (Nat.le_trans (zN _ _) j1) j2 (by omega) (by omega) (by omega)
  exact ⟨D',T',by simp only [bI,bools,e1,e2],f',k1.of0.trans k'⟩
 rw [Nat.one_mul,AA] at this
 exact this
end Su
namespace K26
open PySem L2 Am
noncomputable def top (i:Nat):Stmt:=PySem.Challenge.pw_undercells_k26_sums_added.main.body.getD i (.Pass ⟨0,0,0,0⟩)
noncomputable abbrev eg:Stmt:=top 11
noncomputable def jN:List Str:=["one", "other"]
noncomputable def gM:Sm:=
 nK (kh (aJ (fL true) (bB (f1 jq) (aj (ak 0) (aH))) (bB (f1 jq) (aj (ak 1) (aH)))))
 (wD "NoPair" [.inl "orders of ",.inr (bB (f1 jq) (aj (ak 0) (aH))),.inl " and of ",.inr (bB (f1 jq) (aj (ak 1) (aH))),.inl " things"])
 (fO)
noncomputable def cQ:List A->az->R A:=c_ jN gM
noncomputable abbrev cj:Stmt:=top 13
noncomputable def jo:List Str:=["numbers"]
noncomputable def fy:Sm:=
 cF (bQ [none,some 0] (cH (bB (f1 mX) (aj (ak 0) (aH)))) (bK 0) (kh (aJ (fL true) (aJ mJ (ak 1) (ak 0)) (eC (.int 0)))) (fm (aj (ak 0) (aj (aJ mJ (ak 1) (ak 0)) (aH)))))
noncomputable def bO:List A->az->R A:=c_ jo fy
noncomputable abbrev mZ:Stmt:=top 14
noncomputable def CO:List Str:=["one", "other", "numbers", "power", "number"]
noncomputable def lO:Ic:=
 cH (ak 1)
noncomputable def uK:Sm:=
 bD (aJ cI (ug kD (ak 2) (aj (ak 3) (aj (eC (.int 0)) (aH)))) (ak 4)) (vf (ak 2) (ak 3))
noncomputable def v_:Sm:=
 a_ (bD (bB (f1 vH) (aj (ak 0) (aH))) (bK 2))
 (a_ (cE (lO) (qa 2 (iL (bK 3) (iL (bK 4) (pY))))
 (uK))
 (cF (eFn bO (aj (ak 2) (aH)))))
noncomputable def mF:List A->az->R A:=c_ CO v_
noncomputable abbrev jX:Stmt:=top 15
noncomputable def xm:List Str:=["one", "other", "numbers", "power", "number", "high", "many"]
noncomputable def Ao:Ic:=
 cH (ak 1)
noncomputable def A4:Sm:=
 bD (aJ cI (ug kD (ak 2) (aj (aJ cI (ak 3) (ak 5)) (aj (eC (.int 0)) (aH)))) (aJ tR (ak 4) (ak 6))) (vf (ak 2) (aJ cI (ak 3) (ak 5)))
noncomputable def qG:Ic:=
 cH (ak 0)
noncomputable def rg:Sm:=
 cE (Ao) (qa 2 (iL (bK 5) (iL (bK 6) (pY))))
 (A4)
noncomputable def sO:Sm:=
 a_ (bD (oW) (bK 2))
 (a_ (cE (qG) (qa 2 (iL (bK 3) (iL (bK 4) (pY))))
 (rg))
 (cF (eFn bO (aj (ak 2) (aH)))))
noncomputable def iT:List A->az->R A:=c_ xm sO
noncomputable abbrev dB:Stmt:=top 17
noncomputable def lJ:List Str:=["found", "order", "poly"]
noncomputable def iW:Sm:=
 bD (eFn mF (aj (FY Fb (ak 0) (aj (ak 1) (aj (fJ (aH)) (aH)))) (aj (ak 2) (aH)))) (Ck (ak 0) (ak 1))
noncomputable def bX:List A->az->R A:=c_ lJ iW
noncomputable abbrev iB:Stmt:=top 18
noncomputable def uA:List Str:=["found"]
noncomputable def oz:Sm:=
 cF (bQ [none,some 0] (cH (bB (f1 jQ) (aj (ak 0) (aH)))) (bK 0) (gC (aJ mw (ak 1) (ak 0))) (fm (aj (ak 0) (aj (aJ mw (ak 1) (ak 0)) (aH)))))
noncomputable def e_:List A->az->R A:=c_ uA oz
noncomputable abbrev d7:Stmt:=top 19
noncomputable def jz:List Str:=["one", "other"]
noncomputable def gG:Sm:=
 nK (rO (gC (ak 0)) (gC (ak 1)))
 (eF (z9 cQ (aj (aJ kO (aJ kO (ak 0) (eC (.int 0))) (eC (.int 0))) (aj (aJ kO (aJ kO (ak 1) (eC (.int 0))) (eC (.int 0))) (aH)))))
 (fO)
noncomputable def cP:List A->az->R A:=c_ jz gG
noncomputable abbrev jV:Stmt:=top 20
noncomputable def rY:List Str:=["one", "other", "found", "order", "poly"]
noncomputable def j9:Ic:=
 cH (aJ cI (ak 0) (ak 1))
noncomputable def qp:Sm:=
 eF (eFn bX (aj (ak 2) (aj (ak 3) (aj (ak 4) (aH)))))
noncomputable def nZ:Sm:=
 a_ (eF (z9 cP (aj (ak 0) (aj (ak 1) (aH)))))
 (a_ (bD (oK) (bK 2))
 (a_ (cE (j9) (qa 2 (iL (bK 3) (iL (bK 4) (pY))))
 (qp))
 (cF (eFn e_ (aj (ak 2) (aH))))))
noncomputable def e8:List A->az->R A:=c_ rY nZ
noncomputable abbrev iH:Stmt:=top 21
noncomputable def uI:List Str:=["poly", "one", "found", "order", "many"]
noncomputable def jb:Ic:=
 cH (ak 1)
noncomputable def pI:Sm:=
 eF (eFn bX (aj (ak 2) (aj (ak 3) (aj (eFn iT (aj (ak 0) (aj (ak 4) (aH)))) (aH)))))
noncomputable def pD:Sm:=
 a_ (bD (oK) (bK 2))
 (a_ (cE (jb) (qa 2 (iL (bK 3) (iL (bK 4) (pY))))
 (pI))
 (cF (eFn e_ (aj (ak 2) (aH)))))
noncomputable def iu:List A->az->R A:=c_ uI pD
noncomputable abbrev fR:Stmt:=top 23
noncomputable def qZ:List Str:=["_law_script", "_law_at", "_law_cell", "_law_great"]
noncomputable def mS:Sm:=
 a_ (bD (eC (.int 0)) (bK 2))
 (a_ (nK (kh (aJ Me (ak 1) (bB (f1 jq) (aj (ak 0) (aH)))))
 (bD (aJ kO (ak 0) (ak 1)) (bK 2))
 (fO))
 (a_ (bD (eC (.int 0)) (bK 3))
 (a_ (nK (kh (aJ Mq (ak 2) (aJ we (eC (.int 10)) (eC (.int 18)))))
 (bD (ak 2) (bK 3))
 (fO))
 (cF (fJ (aj (ak 3) (aj (aJ nF (aJ cI (aJ cI (ak 2) (aJ ly (eC (.int 7919)) (ak 1))) (eC (.int 13))) (eC (.int 2147483647))) (aH))))))))
noncomputable def fP:List A->az->R A:=c_ qZ mS
noncomputable abbrev ef:Stmt:=top 24
noncomputable def jK:List Str:=["_law_bag_here", "_law_many", "_law_found"]
noncomputable def gE:Sm:=
 a_ (nK (kh (aJ LV (aJ kO (ak 0) (eC (.int 0))) (eC (.int 0))))
 (a_ (bD (aJ nF (aJ kO (ak 0) (eC (.int 0))) (ak 1)) (bK 2))
 (a_ (bD (aJ xX (aJ kO (ak 0) (eC (.int 0))) (ak 1)) (Mm (ak 0) (eC (.int 0))))
 (cF (ak 2))))
 (fO))
 (a_ (bD (aJ nF (aJ cI (aJ ly (aJ kO (ak 0) (eC (.int 1))) (eC (.int 48271))) (eC (.int 11))) (eC (.int 2147483647))) (Mm (ak 0) (eC (.int 1))))
 (cF (aJ nF (aJ nF (aJ ly (aJ xX (aJ kO (ak 0) (eC (.int 1))) (eC (.int 8))) (eC (.int 69621))) (eC (.int 2147483629))) (ak 1))))
noncomputable def aO:List A->az->R A:=c_ jK gE
noncomputable abbrev dG:Stmt:=top 25
noncomputable def lD:List Str:=["_law_bag_here", "_law_way", "_law_number", "_law_k"]
noncomputable def jF:Ic:=
 iC (aJ kO (fJ (aj (eC (.int 0)) (aj (eC (.int 0)) (aj (eC (.int 1)) (aj (eC (.int 3)) (aH)))))) (ak 1))
noncomputable def ju:Sm:=
 bD (aJ cI (aJ ly (ak 2) (aJ we (eC (.int 10)) (eC (.int 9)))) (eFn aO (aj (ak 0) (aj (aJ we (eC (.int 10)) (eC (.int 9))) (aH))))) (bK 2)
noncomputable def iO:Sm:=
 a_ (bD (eFn aO (aj (ak 0) (aj (eC (.int 4)) (aH)))) (bK 1))
 (a_ (bD (eFn aO (aj (ak 0) (aj (aJ kO (fJ (aj (eC (.int 4)) (aj (eC (.int 4)) (aj (eC (.int 1000)) (aj (eC (.int 1000)) (aH)))))) (ak 1)) (aH)))) (bK 2))
 (a_ (cE (jF) (bK 3)
 (ju))
 (cF (aJ ly (ak 2) (aJ kO (fJ (aj (eC (.int 1)) (aj (Mv FG (eC (.int 1))) (aH)))) (eFn aO (aj (ak 0) (aj (eC (.int 2)) (aH)))))))))
noncomputable def dH:List A->az->R A:=c_ lD iO
noncomputable abbrev eV:Stmt:=top 26
noncomputable def om:List Str:=["_law_bag_here", "_law_most", "_law_far", "_law_found", "_law_power", "_law_k", "_law_number"]
noncomputable def iV:Ic:=
 iC (eFn aO (aj (ak 0) (aj (aJ cI (ak 1) (eC (.int 1))) (aH))))
noncomputable def jf:Sm:=
 a_ (bD (eFn dH (aj (ak 0) (aH))) (bK 6))
 (a_ (nK (rO (kh (aJ (fL true) (ak 6) (eC (.int 0)))) (kh (aJ MX (ak 4) (ak 2))))
 (eF (Kq jT (ak 3) (aj (fm (aj (ak 4) (aj (ak 6) (aH)))) (aH))))
 (fO))
 (bD (aJ cI (aJ cI (ak 4) (eC (.int 1))) (eFn aO (aj (ak 0) (aj (eC (.int 3)) (aH))))) (bK 4)))
noncomputable def kI:Sm:=
 a_ (bD (fJ (aH)) (bK 3))
 (a_ (bD (aJ aSub (eFn aO (aj (ak 0) (aj (aJ cI (aJ ly (eC (.int 2)) (ak 2)) (eC (.int 1))) (aH)))) (ak 2)) (bK 4))
 (a_ (nK (kh (aJ LV (ak 1) (eC (.int 20))))
 (bD (aJ aSub (eC (.int 0)) (ak 2)) (bK 4))
 (fO))
 (a_ (cE (iV) (bK 5)
 (jf))
 (cF (ak 3)))))
noncomputable def cS:List A->az->R A:=c_ om kI
noncomputable abbrev cM:Stmt:=top 27
noncomputable def jI:List Str:=["_law_held"]
noncomputable def gu:Sm:=
 cF (bQ [none,some 0] (cH (bB (f1 mX) (aj (ak 0) (aH)))) (bK 0) (kh (aJ (fL true) (aJ mJ (ak 1) (ak 0)) (eC (.int 0)))) (fm (aj (ak 0) (aj (aJ mJ (ak 1) (ak 0)) (aH)))))
noncomputable def bR:List A->az->R A:=c_ jI gu
noncomputable abbrev cK:Stmt:=top 28
noncomputable def jA:List Str:=["_law_one", "_law_other", "_law_held", "_law_power", "_law_number"]
noncomputable def dD:Ic:=
 cH (aJ cI (ak 0) (ak 1))
noncomputable def iF:Sm:=
 bD (aJ cI (ug kD (ak 2) (aj (ak 3) (aj (eC (.int 0)) (aH)))) (ak 4)) (vf (ak 2) (ak 3))
noncomputable def fZ:Sm:=
 a_ (bD (oW) (bK 2))
 (a_ (cE (dD) (qa 2 (iL (bK 3) (iL (bK 4) (pY))))
 (iF))
 (cF (eFn bR (aj (ak 2) (aH)))))
noncomputable def cN:List A->az->R A:=c_ jA fZ
noncomputable abbrev ck:Stmt:=top 29
noncomputable def jk:List Str:=["_law_one", "_law_other", "_law_held", "_law_power", "_law_number", "_law_more", "_law_many"]
noncomputable def lu:Ic:=
 cH (ak 1)
noncomputable def lM:Sm:=
 bD (aJ cI (ug kD (ak 2) (aj (aJ cI (ak 3) (ak 5)) (aj (eC (.int 0)) (aH)))) (aJ tR (ak 4) (ak 6))) (vf (ak 2) (aJ cI (ak 3) (ak 5)))
noncomputable def gF:Ic:=
 cH (ak 0)
noncomputable def gP:Sm:=
 cE (lu) (qa 2 (iL (bK 5) (iL (bK 6) (pY))))
 (lM)
noncomputable def fD:Sm:=
 a_ (bD (oW) (bK 2))
 (a_ (cE (gF) (qa 2 (iL (bK 3) (iL (bK 4) (pY))))
 (gP))
 (cF (eFn bR (aj (ak 2) (aH)))))
noncomputable def bU:List A->az->R A:=c_ jk fD
noncomputable abbrev d9:Stmt:=top 30
noncomputable def nh:List Str:=["_law_bag_here", "_law_n", "_law_left", "_law_made"]
noncomputable def gR:Te:=
 kh (aJ LV (bB (f1 jq) (aj (ak 2) (aH))) (eC (.int 0)))
noncomputable def gU:Sm:=
 eF (Kq jT (ak 3) (aj (Kq vC (ak 2) (aj (eFn aO (aj (ak 0) (aj (bB (f1 jq) (aj (ak 2) (aH))) (aH)))) (aH))) (aH)))
noncomputable def jR:Sm:=
 a_ (bD (bB (f1 lI) (aj (bB (f2 rE) (aj (eC (.int 1)) (aj (aJ cI (ak 1) (eC (.int 1))) (aH)))) (aH))) (bK 2))
 (a_ (bD (fJ (aH)) (bK 3))
 (a_ (er (gR)
 (gU) 1000000)
 (cF (bB (f1 oG) (aj (ak 3) (aH))))))
noncomputable def d_:List A->az->R A:=c_ nh jR
noncomputable abbrev fQ:Stmt:=top 31
noncomputable def qt:List Str:=["_law_bag_here", "_law_n", "_law_most", "_law_size", "_law_held", "_law_k", "_law_one", "_law_own"]
noncomputable def ni:Ic:=
 iC (eFn aO (aj (ak 0) (aj (aJ cI (ak 2) (eC (.int 1))) (aH))))
noncomputable def ng:Sm:=
 a_ (bD (eFn d_ (aj (ak 0) (aj (ak 1) (aH)))) (bK 6))
 (a_ (bD (eFn cS (aj (ak 0) (aj (ak 3) (aj (eC (.int 3)) (aH))))) (bK 7))
 (nK (kh (aJ (fL true) (ak 7) (fJ (aH))))
 (bD (ak 7) (Ck (ak 4) (ak 6)))
 (fO)))
noncomputable def mq:Sm:=
 a_ (bD (oK) (bK 4))
 (a_ (cE (ni) (bK 5)
 (ng))
 (cF (bQ [none,some 4] (cH (bB (f1 jQ) (aj (ak 4) (aH)))) (bK 0) (g_) (fm (aj (ak 0) (aj (aJ mw (ak 1) (ak 0)) (aH)))))))
noncomputable def dw:List A->az->R A:=c_ qt mq
noncomputable abbrev cY:Stmt:=top 32
noncomputable def kq:List Str:=["_law_found", "_law_one", "_law_number"]
noncomputable def ji:Ic:=
 cH (ak 1)
noncomputable def jm:Sm:=
 nK (tD (jS (gC (bB (f2 sV) (aj (ak 2) (aj (eC (.ty "int")) (aH)))))) (gC (bB (f2 sV) (aj (ak 2) (aj (eC (.ty "bool")) (aH))))))
 (cF (eC (.bl false)))
 (fO)
noncomputable def jg:Ic:=
 cH (ak 0)
noncomputable def jl:Sm:=
 a_ (nK (tD (jS (gC (bB (f2 sV) (aj (ak 1) (aj (eC (.ty "tuple")) (aH)))))) (tD (kh (aJ (fL true) (bB (f1 jq) (aj (ak 1) (aH))) (eC (.int 2)))) (kh (aJ (fL false) (aJ kO (ak 1) (eC (.int 1))) (eC (.int 0))))))
 (cF (eC (.bl false)))
 (fO))
 (cE (ji) (bK 2)
 (jm))
noncomputable def gZ:Sm:=
 a_ (nK (jS (gC (bB (f2 sV) (aj (ak 0) (aj (eC (.ty "list")) (aH))))))
 (cF (eC (.bl false)))
 (fO))
 (a_ (cE (jg) (bK 1)
 (jl))
 (cF (bB (f1 JX) (aj (bQ [none,some 0] (iC (aJ aSub (bB (f1 jq) (aj (ak 0) (aH))) (eC (.int 1)))) (bK 0) (g_) (aJ Me (aJ kO (aJ kO (ak 1) (ak 0)) (eC (.int 0))) (aJ kO (aJ kO (ak 1) (aJ cI (ak 0) (eC (.int 1)))) (eC (.int 0))))) (aH)))))
noncomputable def cW:List A->az->R A:=c_ kq gZ
noncomputable abbrev dI:Stmt:=top 33
noncomputable def k_:List Str:=["_law_found", "_law_one"]
noncomputable def jP:Ic:=
 cH (ak 0)
noncomputable def jC:Sm:=
 a_ (nK (tD (jS (gC (bB (f2 sV) (aj (ak 1) (aj (eC (.ty "tuple")) (aH)))))) (tD (kh (aJ (fL true) (bB (f1 jq) (aj (ak 1) (aH))) (eC (.int 2)))) (jS (gC (bB (f2 sV) (aj (aJ kO (ak 1) (eC (.int 0))) (aj (eC (.ty "tuple")) (aH))))))))
 (cF (eC (.bl false)))
 (fO))
 (nK (tD (jS (gC (eFn cW (aj (aJ kO (ak 1) (eC (.int 1))) (aH))))) (kh (aJ (fL false) (aJ kO (ak 1) (eC (.int 1))) (fJ (aH)))))
 (cF (eC (.bl false)))
 (fO))
noncomputable def iN:Sm:=
 a_ (nK (jS (gC (bB (f2 sV) (aj (ak 0) (aj (eC (.ty "list")) (aH))))))
 (cF (eC (.bl false)))
 (fO))
 (a_ (cE (jP) (bK 1)
 (jC))
 (cF (eC (.bl true))))
noncomputable def cA:List A->az->R A:=c_ k_ iN
noncomputable abbrev eX:Stmt:=top 34
noncomputable def oR:List Str:=["_law_some"]
noncomputable def kK:Sm:=
 cF (bQ [none,none] (cH (ak 0)) (qa 2 (iL (bK 0) (iL (bK 1) (pY)))) (g_) (fm (aj (ak 0) (aj (bB (f1 lI) (aj (ak 1) (aH))) (aH)))))
noncomputable def cU:List A->az->R A:=c_ oR kK
noncomputable abbrev cu:Stmt:=top 35
noncomputable def jh:List Str:=["_law_held", "_law_one", "_law_own", "_law_made"]
noncomputable def fB:Sm:=
 a_ (bD (eFn cN (aj (FY Fb (ak 0) (aj (ak 1) (aj (fJ (aH)) (aH)))) (aj (ak 2) (aH)))) (bK 3))
 (bD (ak 3) (Ck (ak 0) (ak 1)))
noncomputable def bG:List A->az->R A:=c_ jh fB
noncomputable abbrev cX:Stmt:=top 36
noncomputable def kC:List Str:=["_law_held"]
noncomputable def gS:Sm:=
 cF (bQ [none,some 0] (cH (bB (f1 jQ) (aj (ak 0) (aH)))) (bK 0) (kh (aJ (fL true) (aJ mw (ak 1) (ak 0)) (fJ (aH)))) (fm (aj (ak 0) (aj (aJ mw (ak 1) (ak 0)) (aH)))))
noncomputable def bY:List A->az->R A:=c_ kC gS
noncomputable abbrev ig:Stmt:=top 37
noncomputable def uH:List Str:=["_law_e", "_law_due", "_law_found", "_law_names"]
noncomputable def oN:Sm:=
 a_ (bD (fJ (aj (mE (Ag [("NoPair",false)]) (ak 0)) (aj (mE (Ag [("NoPair",false)]) (ak 0)) (aj (mE (Ag [("NoPair",true)]) (ak 0)) (aj (mE (Ag [("NoPair",false)]) (ak 0)) (aH)))))) (bK 2))
 (a_ (bD (aJ cI (ak 2) (fJ (aj (mE (Ag [("NoPair",false)]) (ak 0)) (aj (mE (Ag [("NoPair",false)]) (ak 0)) (aj (mE (Ag [("NoPair",false)]) (ak 0)) (aj (mE (Ag [("NoPair",false)]) (ak 0)) (aH))))))) (bK 2))
 (a_ (bD (fJ (aj (eC (.str (PySem.Str.ofString "word"))) (aj (eC (.str (PySem.Str.ofString "number"))) (aj (eC (.str (PySem.Str.ofString "pair"))) (aj (eC (.str (PySem.Str.ofString "many"))) (aj (eC (.str (PySem.Str.ofString "tables"))) (aj (eC (.str (PySem.Str.ofString "text"))) (aj (eC (.str (PySem.Str.ofString "row"))) (aj (eC (.str (PySem.Str.ofString "name"))) (aH)))))))))) (bK 3))
 (cF (Ga (mE (Ag [("NoPair",true)]) (ak 0)) (aJ (fL false) (ak 2) (bQ [none,some 1] (qJ (ak 3)) (bK 0) (g_) (aJ (fL false) (ak 0) (ak 1))))))))
noncomputable def iA:List A->az->R A:=c_ uH oN
noncomputable abbrev cZ:Stmt:=top 38
noncomputable def kj:List Str:=["_law_one", "_law_other", "_law_e"]
noncomputable def gY:Sm:=
 a_ (uE 2 3 ["NoPair"] (eF (z9 e8 (aj (ak 0) (aj (ak 1) (aH)))))
 (cF (eFn iA (aj (ak 2) (aj (eC (.str (PySem.Str.ofString "pair"))) (aH))))))
 (cF (eC (.bl false)))
noncomputable def cG:List A->az->R A:=c_ kj gY
noncomputable abbrev d8:Stmt:=top 39
noncomputable def nj:List Str:=["_law_found", "_law_one", "_law_own"]
noncomputable def kr:Ic:=
 cH (ak 0)
noncomputable def ku:Sm:=
 eF (Kq jT (ak 2) (aj (fm (aj (eC (.int 99)) (aj (eC (.int 1)) (aH)))) (aH)))
noncomputable def jE:Sm:=
 a_ (cE (kr) (qa 2 (iL (bK 1) (iL (bK 2) (pY))))
 (ku))
 (eF (Kq jT (ak 0) (aj (fm (aj (fm (aj (eC (.int 1)) (aH))) (aj (fJ (aj (fm (aj (eC (.int 0)) (aj (eC (.int 1)) (aH)))) (aH))) (aH)))) (aH))))
noncomputable def cR:List A->az->R A:=c_ nj jE
noncomputable abbrev bS:Stmt:=top 40
noncomputable def gH:List Str:=["_law_one", "_law_other", "_law_held", "_law_some", "_law_own", "_law_due", "_law_first", "_law_second", "_law_turn", "_law_found"]
noncomputable def cJ:Ic:=
 cH (aJ cI (ak 0) (ak 1))
noncomputable def fH:Sm:=
 eF (eFn bG (aj (ak 2) (aj (ak 3) (aj (ak 4) (aH)))))
noncomputable def fG:Ic:=
 iC (eC (.int 2))
noncomputable def fF:Sm:=
 a_ (bD (z9 e8 (aj (ak 6) (aj (ak 7) (aH)))) (bK 9))
 (a_ (nK (tD (jS (gC (eFn cA (aj (ak 9) (aH))))) (tD (kh (aJ (fL true) (ak 9) (ak 5))) (tD (kh (aJ (fL true) (ak 6) (ak 0))) (kh (aJ (fL true) (ak 7) (ak 1))))))
 (cF (eC (.bl false)))
 (fO))
 (eF (eFn cR (aj (ak 9) (aH)))))
noncomputable def eN:Sm:=
 a_ (bD (oK) (bK 2))
 (a_ (cE (cJ) (qa 2 (iL (bK 3) (iL (bK 4) (pY))))
 (fH))
 (a_ (bD (eFn bY (aj (ak 2) (aH))) (bK 5))
 (a_ (bD (eFn cU (aj (ak 0) (aH))) (bK 6))
 (a_ (bD (eFn cU (aj (ak 1) (aH))) (bK 7))
 (a_ (cE (fG) (bK 8)
 (fF))
 (cF (eC (.bl true))))))))
noncomputable def bL:List A->az->R A:=c_ gH eN
noncomputable abbrev bP:Stmt:=top 41
noncomputable def gc:List Str:=["_law_own", "_law_one", "_law_held", "_law_some", "_law_more", "_law_due", "_law_first", "_law_second", "_law_turn", "_law_found"]
noncomputable def cB:Ic:=
 cH (ak 1)
noncomputable def e9:Sm:=
 eF (eFn bG (aj (ak 2) (aj (ak 3) (aj (eFn bU (aj (ak 0) (aj (ak 4) (aH)))) (aH)))))
noncomputable def fh:Ic:=
 iC (eC (.int 2))
noncomputable def fj:Sm:=
 a_ (bD (eFn iu (aj (ak 6) (aj (ak 7) (aH)))) (bK 9))
 (a_ (nK (tD (jS (gC (eFn cA (aj (ak 9) (aH))))) (tD (kh (aJ (fL true) (ak 9) (ak 5))) (tD (kh (aJ (fL true) (ak 6) (ak 0))) (kh (aJ (fL true) (ak 7) (ak 1))))))
 (cF (eC (.bl false)))
 (fO))
 (eF (eFn cR (aj (ak 9) (aH)))))
noncomputable def dS:Sm:=
 a_ (bD (oK) (bK 2))
 (a_ (cE (cB) (qa 2 (iL (bK 3) (iL (bK 4) (pY))))
 (e9))
 (a_ (bD (eFn bY (aj (ak 2) (aH))) (bK 5))
 (a_ (bD (bB (f1 lI) (aj (ak 0) (aH))) (bK 6))
 (a_ (bD (eFn cU (aj (ak 1) (aH))) (bK 7))
 (a_ (cE (fh) (bK 8)
 (fj))
 (cF (eC (.bl true))))))))
noncomputable def bH:List A->az->R A:=c_ gc dS
noncomputable abbrev kW:Stmt:=top 42
noncomputable def G5:List Str:=["_law_script", "_law_k", "_law_bag_here", "_law_n", "_law_most", "_law_one", "_law_other", "_law_unlike"]
noncomputable def w_:Ic:=
 iC (bB (f2 BD) (aj (eC (.int 2)) (aj (bB (f2 BF) (aj (bB (f1 jq) (aj (ak 0) (aH))) (aj (eC (.int 6)) (aH)))) (aH))))
noncomputable def yr:Sm:=
 a_ (bD (eFn fP (aj (ak 0) (aj (ak 1) (aH)))) (bK 2))
 (a_ (bD (aJ cI (eC (.int 2)) (eFn aO (aj (ak 2) (aj (eC (.int 4)) (aH))))) (bK 3))
 (a_ (bD (aJ kO (fJ (aj (eC (.int 6)) (aj (eC (.int 40)) (aH)))) (bB (f1 yW) (aj (aJ (fL false) (eFn aO (aj (ak 2) (aj (eC (.int 8)) (aH)))) (eC (.int 5))) (aH)))) (bK 4))
 (a_ (bD (eFn dw (aj (ak 2) (aj (ak 3) (aj (ak 4) (aj (eC (.int 3)) (aH)))))) (bK 5))
 (a_ (bD (eFn dw (aj (ak 2) (aj (ak 3) (aj (ak 4) (aj (eC (.int 3)) (aH)))))) (bK 6))
 (a_ (nK (kh (aJ (fL false) (eFn aO (aj (ak 2) (aj (eC (.int 4)) (aH)))) (eC (.int 1))))
 (bD (bQ [none,none] (cH (ak 5)) (qa 2 (iL (bK 0) (iL (bK 1) (pY)))) (g_) (fm (aj (ak 0) (aj (bQ [none,none] (cH (ak 1)) (qa 2 (iL (bK 0) (iL (bK 1) (pY)))) (g_) (fm (aj (ak 0) (aj (aJ aSub (eC (.int 0)) (ak 1)) (aH))))) (aH))))) (bK 6))
 (fO))
 (a_ (nK (tD (jS (gC (eFn bL (aj (ak 5) (aj (ak 6) (aH)))))) (jS (gC (eFn bH (aj (eFn cS (aj (ak 2) (aj (eC (.int 4)) (aj (eC (.int 3)) (aH))))) (aj (ak 5) (aH)))))))
 (cF (eC (.bl false)))
 (fO))
 (a_ (bD (eFn dw (aj (ak 2) (aj (aJ cI (eC (.int 2)) (aJ nF (aJ aSub (ak 3) (eC (.int 1))) (eC (.int 4)))) (aj (eC (.int 3)) (aj (eC (.int 3)) (aH)))))) (bK 7))
 (nK (rO (kh (aJ (fL true) (ak 5) (fJ (aH)))) (rO (kh (aJ (fL true) (ak 7) (fJ (aH)))) (jS (gC (eFn cG (aj (ak 5) (aj (ak 7) (aH))))))))
 (cF (eC (.bl false)))
 (fO)))))))))
noncomputable def Dn:Sm:=
 a_ (cE (w_) (bK 1)
 (yr))
 (cF (eC (.bl true)))
noncomputable def rA:List A->az->R A:=c_ G5 Dn
section
variable {P:Program} {w:World} {K:PySem.W.Frag} {mg:Str->Option Value} {base:Heap}
theorem rJ:FnScope ["one", "other"] ["one", "other"] (aC eg):=⟨rfl,rfl,rfl,by decide +kernel,rfl,by decide +kernel,by decide +kernel⟩
theorem sR {f:Addr} {fd:FuncData} (F:Fun K "need_pair" "need_pair" eg f fd) {U:Addr} {C_NoPair:Addr} (e_NoPair:ExcK K U "NoPair" C_NoPair) (b_len:mg "len" = none):FnOk P w K mg base (Ar P w) 1 f fd ["one", "other"] (LR K 2 cQ):=fnX (m:=gM) F rJ fun cdv B outer s H E hr=>
 aG (eO (bV (kg hr.units) (bh jt b_len gj (af (ah 0) (aA))) (bh jt b_len gj (af (ah 1) (aA))))
 (aG (Ay (ps:=[.inl "orders of ",.inr (bB (f1 jq) (aj (ak 0) (aH))),.inl " and of ",.inr (bB (f1 jq) (aj (ak 1) (aH))),.inl " things"]) e_NoPair.n e_NoPair.q hr.hd (.txt (.val (bh jt b_len gj (af (ah 0) (aA))) (.txt (.val (bh jt b_len gj (af (ah 1) (aA))) (.txt .nil)))))))
 (bW))
theorem mH:FnScope ["numbers"] ["numbers"] (aC cj):=⟨rfl,rfl,rfl,by decide +kernel,rfl,by decide +kernel,by decide +kernel⟩
theorem mT {f:Addr} {fd:FuncData} (F:Fun K "as_polynomial" "as_polynomial" cj f fd) (b_sorted:mg "sorted" = none):FnOk P w K mg base jn 1 f fd ["numbers"] (j8 K 1 bO):=ny (m:=fy) F mH fun cdv B outer s H E hr=>
 aG (bx (gI (N:=["power", "numbers"]) (cap:=[none,some 0]) rfl (ko ["numbers"] rfl (by decide +kernel) (by decide +kernel) (by decide +kernel) (by decide +kernel) (by decide +kernel) (List.forall_mem_cons.mpr ⟨by first | exact Or.inl rfl | exact Or.inr rfl,(fun _ h=>nomatch h)⟩) ⟨rfl,by decide +kernel,trivial⟩) (cg (bh (zj rfl) b_sorted iy (af (ah 0) (aA)))) (fun _ _ _ _=>aP (i:=0) (show (["power", "numbers"]:List Str).Nodup by decide +kernel) rfl (Or.inl rfl) (.inr rfl)) (fun _ _ _ _=>n8 (bV (kg hr.units) (rR hr.units (ah 1) (ah 0)) (aF))) (fun _ _ _ _=>eU (af (ah 0) (af (rR hr.units (ah 1) (ah 0)) (aA))))))
theorem nX:FnScope ["one", "other", "numbers", "power", "number"] ["one", "other"] (aC mZ):=⟨rfl,rfl,rfl,by decide +kernel,rfl,by decide +kernel,by decide +kernel⟩
theorem Fd {f:Addr} {fd:FuncData} (F:Fun K "plus" "plus" mZ f fd) (b_dict:mg "dict" = none) (G_as_polynomial:dZ P w K mg base 1 "as_polynomial" ["numbers"] bO):FnOk P w K mg base jn 2 f fd ["one", "other"] (j8 K 2 mF):=ny (m:=v_) F nX fun cdv B outer s H E hr=>
 aE (aV (i:=2) nX.nd (gr (GO rfl) b_dict Gy (af (ah 0) (aA))))
 (aE (cL PassesOwn.never rfl (cg (ah 1)) (eL rfl (aY (aP (i:=3) nX.nd) (aY (aP (i:=4) nX.nd) (dh))))
 (aG (jc (aS cV (sC PySem.F.slot_dict_get PySem.F.type_dict_get (sP hr.units) (ah 2) (af (ah 3) (af (aF) (aA)))) (ah 4)) (nJ hr.units (ah 2) (ah 3)))))
 (aG (bx (bz G_as_polynomial (hr.mono (by decide)) (af (ah 2) (aA)) (aq aN)))))
theorem iJ:FnScope ["one", "other", "numbers", "power", "number", "high", "many"] ["one", "other"] (aC jX):=⟨rfl,rfl,rfl,by decide +kernel,rfl,by decide +kernel,by decide +kernel⟩
theorem C6 {f:Addr} {fd:FuncData} (F:Fun K "times" "times" jX f fd) (G_as_polynomial:dZ P w K mg base 1 "as_polynomial" ["numbers"] bO):FnOk P w K mg base jn 2 f fd ["one", "other"] (j8 K 2 iT):=ny (m:=sO) F iJ fun cdv B outer s H E hr=>
 aE (aV (i:=2) iJ.nd (oF))
 (aE (cL PassesOwn.never rfl (cg (ah 0)) (eL rfl (aY (aP (i:=3) iJ.nd) (aY (aP (i:=4) iJ.nd) (dh))))
 (aG (cL PassesOwn.never rfl (cg (ah 1)) (eL rfl (aY (aP (i:=5) iJ.nd) (aY (aP (i:=6) iJ.nd) (dh))))
 (aG (jc (aS cV (sC PySem.F.slot_dict_get PySem.F.type_dict_get (sP hr.units) (ah 2) (af (aS cV (ah 3) (ah 5)) (af (aF) (aA)))) (aS El (ah 4) (ah 6))) (nJ hr.units (ah 2) (aS cV (ah 3) (ah 5))))))))
 (aG (bx (bz G_as_polynomial (hr.mono (by decide)) (af (ah 2) (aA)) (aq aN)))))
theorem p8:FnScope ["found", "order", "poly"] ["found", "order", "poly"] (aC dB):=⟨rfl,rfl,rfl,by decide +kernel,rfl,by decide +kernel,by decide +kernel⟩
theorem qd {f:Addr} {fd:FuncData} (F:Fun K "put_before" "put_before" dB f fd) (G_plus:dZ P w K mg base 2 "plus" ["one", "other"] mF):FnOk P w K mg base jn 3 f fd ["found", "order", "poly"] (j8 K 3 bX):=ny (m:=iW) F p8 fun cdv B outer s H E hr=>
 aG (jc (bz G_plus (hr.mono (by decide)) (af (Bx PySem.F.slot_dict_get PySem.F.type_dict_get (H_ hr.units) (ah 0) (af (ah 1) (af (dg (aA)) (aA)))) (af (ah 2) (aA))) (aq (aq aN))) (rT hr.units (ah 0) (ah 1)))
theorem AN:FnScope ["found"] ["found"] (aC iB):=⟨rfl,rfl,rfl,by decide +kernel,rfl,by decide +kernel,by decide +kernel⟩
theorem AK {f:Addr} {fd:FuncData} (F:Fun K "as_sum" "as_sum" iB f fd) (b_sorted:mg "sorted" = none):FnOk P w K mg base jn 1 f fd ["found"] (j8 K 1 e_):=ny (m:=oz) F AN fun cdv B outer s H E hr=>
 aG (bx (gI (N:=["order", "found"]) (cap:=[none,some 0]) rfl (ko ["found"] rfl (by decide +kernel) (by decide +kernel) (by decide +kernel) (by decide +kernel) (by decide +kernel) (List.forall_mem_cons.mpr ⟨by first | exact Or.inl rfl | exact Or.inr rfl,(fun _ h=>nomatch h)⟩) ⟨rfl,by decide +kernel,trivial⟩) (cg (bh (sY rfl) b_sorted iy (af (ah 0) (aA)))) (fun _ _ _ _=>aP (i:=0) (show (["order", "found"]:List Str).Nodup by decide +kernel) rfl (Or.inl rfl) (.inr rfl)) (fun _ _ _ _=>n8 (dO (pC hr.units (ah 1) (ah 0)))) (fun _ _ _ _=>eU (af (ah 0) (af (pC hr.units (ah 1) (ah 0)) (aA))))))
theorem rL:FnScope ["one", "other"] ["one", "other"] (aC d7):=⟨rfl,rfl,rfl,by decide +kernel,rfl,by decide +kernel,by decide +kernel⟩
theorem sL {f:Addr} {fd:FuncData} (F:Fun K "need_like" "need_like" d7 f fd) (G_need_pair:G_ P w K mg base 1 "need_pair" ["one", "other"] cQ):FnOk P w K mg base (Ar P w) 2 f fd ["one", "other"] (LR K 2 cP):=fnX (m:=gG) F rL fun cdv B outer s H E hr=>
 aG (eO (AW.at (sD (dO (ah 0)) (sf (dO (ah 1)))))
 (aG (dz (sq G_need_pair (hr.mono (by decide)) (af (dM (dM (ah 0) (aF)) (aF)) (af (dM (dM (ah 1) (aF)) (aF)) (aA))) (aq (aq aN)))))
 (bW))
theorem lY:FnScope ["one", "other", "found", "order", "poly"] ["one", "other"] (aC jV):=⟨rfl,rfl,rfl,by decide +kernel,rfl,by decide +kernel,by decide +kernel⟩
theorem Cw {f:Addr} {fd:FuncData} (F:Fun K "added" "added" jV f fd) (G_need_like:G_ P w K mg base 2 "need_like" ["one", "other"] cP) (G_put_before:dZ P w K mg base 3 "put_before" ["found", "order", "poly"] bX) (G_as_sum:dZ P w K mg base 1 "as_sum" ["found"] e_):FnOk P w K mg base (Ar P w) 4 f fd ["one", "other"] (LR K 2 e8):=fnX (m:=nZ) F lY fun cdv B outer s H E hr=>
 aE (dz (sq G_need_like (hr.mono (by decide)) (af (ah 0) (af (ah 1) (aA))) (aq (aq aN))))
 (aE (aV (i:=2) lY.nd (lq))
 (aE (cL PassesOwn.leaving rfl (cg (aS cV (ah 0) (ah 1))) (eL rfl (aY (aP (i:=3) lY.nd) (aY (aP (i:=4) lY.nd) (dh))))
 (aG (dz (bz G_put_before (hr.mono (by decide)) (af (ah 2) (af (ah 3) (af (ah 4) (aA)))) (aq (aq (aq aN)))))))
 (aG (bx (bz G_as_sum (hr.mono (by decide)) (af (ah 2) (aA)) (aq aN))))))
theorem j7:FnScope ["poly", "one", "found", "order", "many"] ["poly", "one"] (aC iH):=⟨rfl,rfl,rfl,by decide +kernel,rfl,by decide +kernel,by decide +kernel⟩
theorem AX {f:Addr} {fd:FuncData} (F:Fun K "scaled" "scaled" iH f fd) (G_put_before:dZ P w K mg base 3 "put_before" ["found", "order", "poly"] bX) (G_times:dZ P w K mg base 2 "times" ["one", "other"] iT) (G_as_sum:dZ P w K mg base 1 "as_sum" ["found"] e_):FnOk P w K mg base jn 4 f fd ["poly", "one"] (j8 K 2 iu):=ny (m:=pD) F j7 fun cdv B outer s H E hr=>
 aE (aV (i:=2) j7.nd (lq))
 (aE (cL PassesOwn.never rfl (cg (ah 1)) (eL rfl (aY (aP (i:=3) j7.nd) (aY (aP (i:=4) j7.nd) (dh))))
 (aG (dz (bz G_put_before (hr.mono (by decide)) (af (ah 2) (af (ah 3) (af (bz G_times (hr.mono (by decide)) (af (ah 0) (af (ah 4) (aA))) (aq (aq aN))) (aA)))) (aq (aq (aq aN)))))))
 (aG (bx (bz G_as_sum (hr.mono (by decide)) (af (ah 2) (aA)) (aq aN)))))
theorem fY:FnScope ["_law_script", "_law_at", "_law_cell", "_law_great"] ["_law_script", "_law_at"] (aC fR):=⟨rfl,rfl,rfl,by decide +kernel,rfl,by decide +kernel,by decide +kernel⟩
theorem wz {f:Addr} {fd:FuncData} (F:Fun K "_law_bag" "_law_bag" fR f fd) (b_len:mg "len" = none):FnOk P w K mg base jn 1 f fd ["_law_script", "_law_at"] (j8 K 2 fP):=ny (m:=mS) F fY fun cdv B outer s H E hr=>
 aE (aV (i:=2) fY.nd (aF))
 (aE (eO (bV (Ll hr.units) (ah 1) (bh jt b_len gj (af (ah 0) (aA))))
 (aG (aV (i:=2) fY.nd (dM (ah 0) (ah 1))))
 (bW))
 (aE (aV (i:=3) fY.nd (aF))
 (aE (eO (bV Ny (ah 2) (aS CN (aF) (aF)))
 (aG (aV (i:=3) fY.nd (ah 2)))
 (bW))
 (aG (bx (dg (af (ah 3) (af (aS qB (aS cV (aS cV (ah 2) (aS qw (aF) (ah 1))) (aF)) (aF)) (aA)))))))))
theorem lz:FnScope ["_law_bag_here", "_law_many", "_law_found"] ["_law_bag_here", "_law_many"] (aC ef):=⟨rfl,rfl,rfl,by decide +kernel,rfl,by decide +kernel,by decide +kernel⟩
theorem rD {f:Addr} {fd:FuncData} (F:Fun K "_law_digit" "_law_digit" ef f fd):FnOk P w K mg base jn 1 f fd ["_law_bag_here", "_law_many"] (j8 K 2 aO):=ny (m:=gE) F lz fun cdv B outer s H E hr=>
 aE (eO (bV (JT hr.units) (dM (ah 0) (aF)) (aF))
 (aE (aV (i:=2) lz.nd (aS qB (dM (ah 0) (aF)) (ah 1)))
 (aE (jc (aS DZ (dM (ah 0) (aF)) (ah 1)) (BE (ah 0) (aF)))
 (aG (bx (ah 2)))))
 (bW))
 (aE (jc (aS qB (aS cV (aS qw (dM (ah 0) (aF)) (aF)) (aF)) (aF)) (BE (ah 0) (aF)))
 (aG (bx (aS qB (aS qB (aS qw (aS DZ (dM (ah 0) (aF)) (aF)) (aF)) (aF)) (ah 1)))))
theorem dQ:FnScope ["_law_bag_here", "_law_way", "_law_number", "_law_k"] ["_law_bag_here"] (aC dG):=⟨rfl,rfl,rfl,by decide +kernel,rfl,by decide +kernel,by decide +kernel⟩
theorem qf {f:Addr} {fd:FuncData} (F:Fun K "_law_signed" "_law_signed" dG f fd) (b_range:mg "range" = none) (G_law_digit:dZ P w K mg base 1 "_law_digit" ["_law_bag_here", "_law_many"] aO):FnOk P w K mg base jn 2 f fd ["_law_bag_here"] (j8 K 1 dH):=ny (m:=iO) F dQ fun cdv B outer s H E hr=>
 aE (aV (i:=1) dQ.nd (bz G_law_digit (hr.mono (by decide)) (af (ah 0) (af (aF) (aA))) (aq (aq aN))))
 (aE (aV (i:=2) dQ.nd (bz G_law_digit (hr.mono (by decide)) (af (ah 0) (af (dM (dg (af (aF) (af (aF) (af (aF) (af (aF) (aA)))))) (ah 1)) (aA))) (aq (aq aN))))
 (aE (cL PassesOwn.never rfl (eW b_range (dM (dg (af (aF) (af (aF) (af (aF) (af (aF) (aA)))))) (ah 1))) (aP (i:=3) dQ.nd)
 (aG (aV (i:=2) dQ.nd (aS cV (aS qw (ah 2) (aS CN (aF) (aF))) (bz G_law_digit (hr.mono (by decide)) (af (ah 0) (af (aS CN (aF) (aF)) (aA))) (aq (aq aN)))))))
 (aG (bx (aS qw (ah 2) (dM (dg (af (aF) (af (Ku (aF)) (aA)))) (bz G_law_digit (hr.mono (by decide)) (af (ah 0) (af (aF) (aA))) (aq (aq aN)))))))))
theorem dj:FnScope ["_law_bag_here", "_law_most", "_law_far", "_law_found", "_law_power", "_law_k", "_law_number"] ["_law_bag_here", "_law_most", "_law_far"] (aC eV):=⟨rfl,rfl,rfl,by decide +kernel,rfl,by decide +kernel,by decide +kernel⟩
theorem ve {f:Addr} {fd:FuncData} (F:Fun K "_law_poly" "_law_poly" eV f fd) (b_range:mg "range" = none) (G_law_digit:dZ P w K mg base 1 "_law_digit" ["_law_bag_here", "_law_many"] aO) (G_law_signed:dZ P w K mg base 2 "_law_signed" ["_law_bag_here"] dH):FnOk P w K mg base jn 3 f fd ["_law_bag_here", "_law_most", "_law_far"] (j8 K 3 cS):=ny (m:=kI) F dj fun cdv B outer s H E hr=>
 aE (aV (i:=3) dj.nd (dg (aA)))
 (aE (aV (i:=4) dj.nd (aS u9 (bz G_law_digit (hr.mono (by decide)) (af (ah 0) (af (aS cV (aS qw (aF) (ah 2)) (aF)) (aA))) (aq (aq aN))) (ah 2)))
 (aE (eO (bV (JT hr.units) (ah 1) (aF))
 (aG (aV (i:=4) dj.nd (aS u9 (aF) (ah 2))))
 (bW))
 (aE (cL PassesOwn.never rfl (eW b_range (bz G_law_digit (hr.mono (by decide)) (af (ah 0) (af (aS cV (ah 1) (aF)) (aA))) (aq (aq aN)))) (aP (i:=5) dj.nd)
 (aE (aV (i:=6) dj.nd (bz G_law_signed (hr.mono (by decide)) (af (ah 0) (aA)) (aq aN)))
 (aE (eO (AW.at (sD (bV (kg hr.units) (ah 6) (aF)) (sf (bV MF (ah 4) (ah 2)))))
 (aG (dz (tO PySem.F.slot_list_append PySem.F.type_list_append lA (ah 3) (af (eU (af (ah 4) (af (ah 6) (aA)))) (aA)))))
 (bW))
 (aG (aV (i:=4) dj.nd (aS cV (aS cV (ah 4) (aF)) (bz G_law_digit (hr.mono (by decide)) (af (ah 0) (af (aF) (aA))) (aq (aq aN)))))))))
 (aG (bx (ah 3))))))
theorem nE:FnScope ["_law_held"] ["_law_held"] (aC cM):=⟨rfl,rfl,rfl,by decide +kernel,rfl,by decide +kernel,by decide +kernel⟩
theorem nA {f:Addr} {fd:FuncData} (F:Fun K "_law_own_poly" "_law_own_poly" cM f fd) (b_sorted:mg "sorted" = none):FnOk P w K mg base jn 1 f fd ["_law_held"] (j8 K 1 bR):=ny (m:=gu) F nE fun cdv B outer s H E hr=>
 aG (bx (gI (N:=["_law_power", "_law_held"]) (cap:=[none,some 0]) rfl (ko ["_law_held"] rfl (by decide +kernel) (by decide +kernel) (by decide +kernel) (by decide +kernel) (by decide +kernel) (List.forall_mem_cons.mpr ⟨by first | exact Or.inl rfl | exact Or.inr rfl,(fun _ h=>nomatch h)⟩) ⟨rfl,by decide +kernel,trivial⟩) (cg (bh (zj rfl) b_sorted iy (af (ah 0) (aA)))) (fun _ _ _ _=>aP (i:=0) (show (["_law_power", "_law_held"]:List Str).Nodup by decide +kernel) rfl (Or.inl rfl) (.inr rfl)) (fun _ _ _ _=>n8 (bV (kg hr.units) (rR hr.units (ah 1) (ah 0)) (aF))) (fun _ _ _ _=>eU (af (ah 0) (af (rR hr.units (ah 1) (ah 0)) (aA))))))
theorem dR:FnScope ["_law_one", "_law_other", "_law_held", "_law_power", "_law_number"] ["_law_one", "_law_other"] (aC cK):=⟨rfl,rfl,rfl,by decide +kernel,rfl,by decide +kernel,by decide +kernel⟩
theorem nB {f:Addr} {fd:FuncData} (F:Fun K "_law_own_plus" "_law_own_plus" cK f fd) (G_law_own_poly:dZ P w K mg base 1 "_law_own_poly" ["_law_held"] bR):FnOk P w K mg base jn 2 f fd ["_law_one", "_law_other"] (j8 K 2 cN):=ny (m:=fZ) F dR fun cdv B outer s H E hr=>
 aE (aV (i:=2) dR.nd (oF))
 (aE (cL PassesOwn.never rfl (cg (aS cV (ah 0) (ah 1))) (eL rfl (aY (aP (i:=3) dR.nd) (aY (aP (i:=4) dR.nd) (dh))))
 (aG (jc (aS cV (sC PySem.F.slot_dict_get PySem.F.type_dict_get (sP hr.units) (ah 2) (af (ah 3) (af (aF) (aA)))) (ah 4)) (nJ hr.units (ah 2) (ah 3)))))
 (aG (bx (bz G_law_own_poly (hr.mono (by decide)) (af (ah 2) (aA)) (aq aN)))))
theorem b7:FnScope ["_law_one", "_law_other", "_law_held", "_law_power", "_law_number", "_law_more", "_law_many"] ["_law_one", "_law_other"] (aC ck):=⟨rfl,rfl,rfl,by decide +kernel,rfl,by decide +kernel,by decide +kernel⟩
theorem mj {f:Addr} {fd:FuncData} (F:Fun K "_law_own_times" "_law_own_times" ck f fd) (G_law_own_poly:dZ P w K mg base 1 "_law_own_poly" ["_law_held"] bR):FnOk P w K mg base jn 2 f fd ["_law_one", "_law_other"] (j8 K 2 bU):=ny (m:=fD) F b7 fun cdv B outer s H E hr=>
 aE (aV (i:=2) b7.nd (oF))
 (aE (cL PassesOwn.never rfl (cg (ah 0)) (eL rfl (aY (aP (i:=3) b7.nd) (aY (aP (i:=4) b7.nd) (dh))))
 (aG (cL PassesOwn.never rfl (cg (ah 1)) (eL rfl (aY (aP (i:=5) b7.nd) (aY (aP (i:=6) b7.nd) (dh))))
 (aG (jc (aS cV (sC PySem.F.slot_dict_get PySem.F.type_dict_get (sP hr.units) (ah 2) (af (aS cV (ah 3) (ah 5)) (af (aF) (aA)))) (aS El (ah 4) (ah 6))) (nJ hr.units (ah 2) (aS cV (ah 3) (ah 5))))))))
 (aG (bx (bz G_law_own_poly (hr.mono (by decide)) (af (ah 2) (aA)) (aq aN)))))
theorem iZ:FnScope ["_law_bag_here", "_law_n", "_law_left", "_law_made"] ["_law_bag_here", "_law_n"] (aC d9):=⟨rfl,rfl,rfl,by decide +kernel,rfl,by decide +kernel,by decide +kernel⟩
theorem sX {f:Addr} {fd:FuncData} (F:Fun K "_law_order" "_law_order" d9 f fd) (b_list:mg "list" = none) (b_range:mg "range" = none) (b_len:mg "len" = none) (b_tuple:mg "tuple" = none) (G_law_digit:dZ P w K mg base 1 "_law_digit" ["_law_bag_here", "_law_many"] aO):FnOk P w K mg base jn 2 f fd ["_law_bag_here", "_law_n"] (j8 K 2 d_):=ny (m:=jR) F iZ fun cdv B outer s H E hr=>
 aE (aV (i:=2) iZ.nd (gr (vY rfl) b_list kZ (af (gr Bc b_range Cc (af (aF) (af (aS cV (ah 1) (aF)) (aA)))) (aA))))
 (aE (aV (i:=3) iZ.nd (dg (aA)))
 (aE (EF 1000000 PassesOwn.never (bV (JT hr.units) (bh jt b_len gj (af (ah 2) (aA))) (aF))
 (aG (dz (tO PySem.F.slot_list_append PySem.F.type_list_append lA (ah 3) (af (tO PySem.F.slot_list_pop PySem.F.type_list_pop Fx (ah 2) (af (bz G_law_digit (hr.mono (by decide)) (af (ah 0) (af (bh jt b_len gj (af (ah 2) (aA))) (aA))) (aq (aq aN))) (aA))) (aA))))))
 (aG (bx (gr (GC rfl) b_tuple lG (af (ah 3) (aA)))))))
theorem gq:FnScope ["_law_bag_here", "_law_n", "_law_most", "_law_size", "_law_held", "_law_k", "_law_one", "_law_own"] ["_law_bag_here", "_law_n", "_law_most", "_law_size"] (aC fQ):=⟨rfl,rfl,rfl,by decide +kernel,rfl,by decide +kernel,by decide +kernel⟩
theorem vX {f:Addr} {fd:FuncData} (F:Fun K "_law_sum" "_law_sum" fQ f fd) (b_range:mg "range" = none) (b_sorted:mg "sorted" = none) (G_law_digit:dZ P w K mg base 1 "_law_digit" ["_law_bag_here", "_law_many"] aO) (G_law_order:dZ P w K mg base 2 "_law_order" ["_law_bag_here", "_law_n"] d_) (G_law_poly:dZ P w K mg base 3 "_law_poly" ["_law_bag_here", "_law_most", "_law_far"] cS):FnOk P w K mg base jn 4 f fd ["_law_bag_here", "_law_n", "_law_most", "_law_size"] (j8 K 4 dw):=ny (m:=mq) F gq fun cdv B outer s H E hr=>
 aE (aV (i:=4) gq.nd (lq))
 (aE (cL PassesOwn.never rfl (eW b_range (bz G_law_digit (hr.mono (by decide)) (af (ah 0) (af (aS cV (ah 2) (aF)) (aA))) (aq (aq aN)))) (aP (i:=5) gq.nd)
 (aE (aV (i:=6) gq.nd (bz G_law_order (hr.mono (by decide)) (af (ah 0) (af (ah 1) (aA))) (aq (aq aN))))
 (aE (aV (i:=7) gq.nd (bz G_law_poly (hr.mono (by decide)) (af (ah 0) (af (ah 3) (af (aF) (aA)))) (aq (aq (aq aN)))))
 (aG (eO (bV (kg hr.units) (ah 7) (dg (aA)))
 (aG (jc (ah 7) (rT hr.units (ah 4) (ah 6))))
 (bW))))))
 (aG (bx (gI (N:=["_law_one", "_law_held"]) (cap:=[none,some 4]) rfl (ko ["_law_held"] rfl (by decide +kernel) (by decide +kernel) (by decide +kernel) (by decide +kernel) (by decide +kernel) (List.forall_mem_cons.mpr ⟨by first | exact Or.inl rfl | exact Or.inr rfl,(fun _ h=>nomatch h)⟩) ⟨rfl,by decide +kernel,trivial⟩) (cg (bh (sY rfl) b_sorted iy (af (ah 4) (aA)))) (fun _ _ _ _=>aP (i:=0) (show (["_law_one", "_law_held"]:List Str).Nodup by decide +kernel) rfl (Or.inl rfl) (.inr rfl)) (fun _ _ _ _=>j4) (fun _ _ _ _=>eU (af (ah 0) (af (pC hr.units (ah 1) (ah 0)) (aA))))))))
theorem gw:FnScope ["_law_found", "_law_one", "_law_number"] ["_law_found"] (aC cY):=⟨rfl,rfl,rfl,by decide +kernel,rfl,by decide +kernel,by decide +kernel⟩
theorem pJ {f:Addr} {fd:FuncData} (F:Fun K "_law_is_poly" "_law_is_poly" cY f fd) (b_isinstance:mg "isinstance" = none) (b_list:mg "list" = none) (b_len:mg "len" = none) (b_tuple:mg "tuple" = none) (b_bool:mg "bool" = none) (b_int:mg "int" = none) (b_all:mg "all" = none) (b_range:mg "range" = none):FnOk P w K mg base jn 1 f fd ["_law_found"] (j8 K 1 cW):=ny (m:=gZ) F gw fun cdv B outer s H E hr=>
 aE (eO (fu (dO (bh o8 b_isinstance bZ (af (ah 0) (af (oV b_list kZ) (aA))))))
 (aG (bx (gf)))
 (bW))
 (aE (cL PassesOwn.never rfl (cg (ah 0)) (aP (i:=1) gw.nd)
 (aE (eO (AW.at (h_ (fu (dO (bh o8 b_isinstance bZ (af (ah 1) (af (oV b_tuple lG) (aA)))))) (h_ (bV (kg hr.units) (bh jt b_len gj (af (ah 1) (aA))) (aF)) (kF (bV (Ac hr.units) (dM (ah 1) (aF)) (aF))))))
 (aG (bx (gf)))
 (bW))
 (aG (cL PassesOwn.never rfl (cg (ah 1)) (aP (i:=2) gw.nd)
 (aG (eO (AW.at (h_ (fu (dO (bh o8 b_isinstance bZ (af (ah 2) (af (oV b_int EB) (aA)))))) (kF (dO (bh o8 b_isinstance bZ (af (ah 2) (af (oV b_bool E4) (aA))))))))
 (aG (bx (gf)))
 (bW)))))))
 (aG (bx (bh (Mf rfl) b_all JC (af (gI (N:=["_law_k", "_law_found"]) (cap:=[none,some 0]) rfl (ko ["_law_found"] rfl (by decide +kernel) (by decide +kernel) (by decide +kernel) (by decide +kernel) (by decide +kernel) (List.forall_mem_cons.mpr ⟨by first | exact Or.inl rfl | exact Or.inr rfl,(fun _ h=>nomatch h)⟩) ⟨rfl,by decide +kernel,trivial⟩) (eW b_range (aS u9 (bh jt b_len gj (af (ah 0) (aA))) (aF))) (fun _ _ _ _=>aP (i:=0) (show (["_law_k", "_law_found"]:List Str).Nodup by decide +kernel) rfl (Or.inl rfl) (.inr rfl)) (fun _ _ _ _=>j4) (fun _ _ _ _=>tu (Ll hr.units) (dM (dM (ah 1) (ah 0)) (aF)) (dM (dM (ah 1) (aS cV (ah 0) (aF))) (aF)))) (aA))))))
theorem kB:FnScope ["_law_found", "_law_one"] ["_law_found"] (aC dI):=⟨rfl,rfl,rfl,by decide +kernel,rfl,by decide +kernel,by decide +kernel⟩
theorem p_ {f:Addr} {fd:FuncData} (F:Fun K "_law_is_sum" "_law_is_sum" dI f fd) (b_isinstance:mg "isinstance" = none) (b_list:mg "list" = none) (b_tuple:mg "tuple" = none) (b_len:mg "len" = none) (G_law_is_poly:dZ P w K mg base 1 "_law_is_poly" ["_law_found"] cW):FnOk P w K mg base jn 2 f fd ["_law_found"] (j8 K 1 cA):=ny (m:=iN) F kB fun cdv B outer s H E hr=>
 aE (eO (fu (dO (bh o8 b_isinstance bZ (af (ah 0) (af (oV b_list kZ) (aA))))))
 (aG (bx (gf)))
 (bW))
 (aE (cL PassesOwn.never rfl (cg (ah 0)) (aP (i:=1) kB.nd)
 (aE (eO (AW.at (h_ (fu (dO (bh o8 b_isinstance bZ (af (ah 1) (af (oV b_tuple lG) (aA)))))) (h_ (bV (kg hr.units) (bh jt b_len gj (af (ah 1) (aA))) (aF)) (kF (fu (dO (bh o8 b_isinstance bZ (af (dM (ah 1) (aF)) (af (oV b_tuple lG) (aA))))))))))
 (aG (bx (gf)))
 (bW))
 (aG (eO (AW.at (h_ (fu (dO (bz G_law_is_poly (hr.mono (by decide)) (af (dM (ah 1) (aF)) (aA)) (aq aN)))) (kF (bV (Ac hr.units) (dM (ah 1) (aF)) (dg (aA))))))
 (aG (bx (gf)))
 (bW)))))
 (aG (bx (gf))))
theorem uF:FnScope ["_law_some"] ["_law_some"] (aC eX):=⟨rfl,rfl,rfl,by decide +kernel,rfl,by decide +kernel,by decide +kernel⟩
theorem ux {f:Addr} {fd:FuncData} (F:Fun K "_law_copy" "_law_copy" eX f fd) (b_list:mg "list" = none):FnOk P w K mg base jn 1 f fd ["_law_some"] (j8 K 1 cU):=ny (m:=kK) F uF fun cdv B outer s H E hr=>
 aG (bx (gI (N:=["_law_one", "_law_own"]) (cap:=[none,none]) rfl (ko [] rfl (by decide +kernel) (by decide +kernel) (by decide +kernel) (by decide +kernel) (by decide +kernel) (fun _ h=>nomatch h) trivial) (cg (ah 0)) (fun _ _ _ _=>eL rfl (aY (aP (i:=0) (show (["_law_one", "_law_own"]:List Str).Nodup by decide +kernel) rfl (Or.inl rfl) (.inr rfl)) (aY (aP (i:=1) (show (["_law_one", "_law_own"]:List Str).Nodup by decide +kernel) rfl (Or.inl rfl) (.inr rfl)) (dh)))) (fun _ _ _ _=>j4) (fun _ _ _ _=>eU (af (ah 0) (af (gr (vY rfl) b_list kZ (af (ah 1) (aA))) (aA))))))
theorem iz:FnScope ["_law_held", "_law_one", "_law_own", "_law_made"] ["_law_held", "_law_one", "_law_own"] (aC cu):=⟨rfl,rfl,rfl,by decide +kernel,rfl,by decide +kernel,by decide +kernel⟩
theorem mR {f:Addr} {fd:FuncData} (F:Fun K "_law_own_added" "_law_own_added" cu f fd) (G_law_own_plus:dZ P w K mg base 2 "_law_own_plus" ["_law_one", "_law_other"] cN):FnOk P w K mg base jn 3 f fd ["_law_held", "_law_one", "_law_own"] (j8 K 3 bG):=ny (m:=fB) F iz fun cdv B outer s H E hr=>
 aE (aV (i:=3) iz.nd (bz G_law_own_plus (hr.mono (by decide)) (af (Bx PySem.F.slot_dict_get PySem.F.type_dict_get (H_ hr.units) (ah 0) (af (ah 1) (af (dg (aA)) (aA)))) (af (ah 2) (aA))) (aq (aq aN))))
 (aG (jc (ah 3) (rT hr.units (ah 0) (ah 1))))
theorem oS:FnScope ["_law_held"] ["_law_held"] (aC cX):=⟨rfl,rfl,rfl,by decide +kernel,rfl,by decide +kernel,by decide +kernel⟩
theorem ou {f:Addr} {fd:FuncData} (F:Fun K "_law_own_sum" "_law_own_sum" cX f fd) (b_sorted:mg "sorted" = none):FnOk P w K mg base jn 1 f fd ["_law_held"] (j8 K 1 bY):=ny (m:=gS) F oS fun cdv B outer s H E hr=>
 aG (bx (gI (N:=["_law_one", "_law_held"]) (cap:=[none,some 0]) rfl (ko ["_law_held"] rfl (by decide +kernel) (by decide +kernel) (by decide +kernel) (by decide +kernel) (by decide +kernel) (List.forall_mem_cons.mpr ⟨by first | exact Or.inl rfl | exact Or.inr rfl,(fun _ h=>nomatch h)⟩) ⟨rfl,by decide +kernel,trivial⟩) (cg (bh (sY rfl) b_sorted iy (af (ah 0) (aA)))) (fun _ _ _ _=>aP (i:=0) (show (["_law_one", "_law_held"]:List Str).Nodup by decide +kernel) rfl (Or.inl rfl) (.inr rfl)) (fun _ _ _ _=>n8 (bV (kg hr.units) (pC hr.units (ah 1) (ah 0)) (dg (aA)))) (fun _ _ _ _=>eU (af (ah 0) (af (pC hr.units (ah 1) (ah 0)) (aA))))))
theorem jZ:FnScope ["_law_e", "_law_due", "_law_found", "_law_names"] ["_law_e", "_law_due"] (aC ig):=⟨rfl,rfl,rfl,by decide +kernel,rfl,by decide +kernel,by decide +kernel⟩
theorem zW {f:Addr} {fd:FuncData} (F:Fun K "_law_is" "_law_is" ig f fd) {U:Addr} {C_NoPair:Addr} {C_TooMany:Addr} {C_NoNumber:Addr} {C_NoWord:Addr} {C_NoName:Addr} {C_NoRow:Addr} {C_NoText:Addr} {C_NoTables:Addr} (e_NoPair:ExcK K U "NoPair" C_NoPair) (m_TooMany:mg "TooMany" = some (.ref C_TooMany)) (m_NoPair:mg "NoPair" = some (.ref C_NoPair)) (m_NoNumber:mg "NoNumber" = some (.ref C_NoNumber)) (m_NoWord:mg "NoWord" = some (.ref C_NoWord)) (m_NoName:mg "NoName" = some (.ref C_NoName)) (m_NoRow:mg "NoRow" = some (.ref C_NoRow)) (m_NoText:mg "NoText" = some (.ref C_NoText)) (m_NoTables:mg "NoTables" = some (.ref C_NoTables)) (k_NoPair_TooMany:PySem.W.kitOne K (.ref C_NoPair) (.ref C_TooMany)=some false) (k_NoPair_NoPair:PySem.W.kitOne K (.ref C_NoPair) (.ref C_NoPair)=some true) (k_NoPair_NoNumber:PySem.W.kitOne K (.ref C_NoPair) (.ref C_NoNumber)=some false) (k_NoPair_NoWord:PySem.W.kitOne K (.ref C_NoPair) (.ref C_NoWord)=some false) (k_NoPair_NoName:PySem.W.kitOne K (.ref C_NoPair) (.ref C_NoName)=some false) (k_NoPair_NoRow:PySem.W.kitOne K (.ref C_NoPair) (.ref C_NoRow)=some false) (k_NoPair_NoText:PySem.W.kitOne K (.ref C_NoPair) (.ref C_NoText)=some false) (k_NoPair_NoTables:PySem.W.kitOne K (.ref C_NoPair) (.ref C_NoTables)=some false) (b_isinstance:mg "isinstance" = none) (b_ValueError:mg "ValueError" = none):FnOkH P w K mg base 1 f fd ["_law_e", "_law_due"] (j8 K 2 iA):=N5 (m:=oN) F jZ fun cdv B outer s H e oe C hr hh h0 xo=>
 aE (aV (i:=2) jZ.nd (dg (af (jJ m_NoWord (tb:=[("NoPair",false)]) (List.forall_mem_cons.mpr ⟨⟨_,e_NoPair.n,e_NoPair.x,e_NoPair.cl,k_NoPair_NoWord⟩,(fun _ h=>nomatch h)⟩) (ah 0) b_isinstance) (af (jJ m_NoNumber (tb:=[("NoPair",false)]) (List.forall_mem_cons.mpr ⟨⟨_,e_NoPair.n,e_NoPair.x,e_NoPair.cl,k_NoPair_NoNumber⟩,(fun _ h=>nomatch h)⟩) (ah 0) b_isinstance) (af (jJ m_NoPair (tb:=[("NoPair",true)]) (List.forall_mem_cons.mpr ⟨⟨_,e_NoPair.n,e_NoPair.x,e_NoPair.cl,k_NoPair_NoPair⟩,(fun _ h=>nomatch h)⟩) (ah 0) b_isinstance) (af (jJ m_TooMany (tb:=[("NoPair",false)]) (List.forall_mem_cons.mpr ⟨⟨_,e_NoPair.n,e_NoPair.x,e_NoPair.cl,k_NoPair_TooMany⟩,(fun _ h=>nomatch h)⟩) (ah 0) b_isinstance) (aA)))))))
 (aE (aV (i:=2) jZ.nd (aS cV (ah 2) (dg (af (jJ m_NoTables (tb:=[("NoPair",false)]) (List.forall_mem_cons.mpr ⟨⟨_,e_NoPair.n,e_NoPair.x,e_NoPair.cl,k_NoPair_NoTables⟩,(fun _ h=>nomatch h)⟩) (ah 0) b_isinstance) (af (jJ m_NoText (tb:=[("NoPair",false)]) (List.forall_mem_cons.mpr ⟨⟨_,e_NoPair.n,e_NoPair.x,e_NoPair.cl,k_NoPair_NoText⟩,(fun _ h=>nomatch h)⟩) (ah 0) b_isinstance) (af (jJ m_NoRow (tb:=[("NoPair",false)]) (List.forall_mem_cons.mpr ⟨⟨_,e_NoPair.n,e_NoPair.x,e_NoPair.cl,k_NoPair_NoRow⟩,(fun _ h=>nomatch h)⟩) (ah 0) b_isinstance) (af (jJ m_NoName (tb:=[("NoPair",false)]) (List.forall_mem_cons.mpr ⟨⟨_,e_NoPair.n,e_NoPair.x,e_NoPair.cl,k_NoPair_NoName⟩,(fun _ h=>nomatch h)⟩) (ah 0) b_isinstance) (aA))))))))
 (aE (aV (i:=3) jZ.nd (dg (af (iS) (af (iS) (af (iS) (af (iS) (af (iS) (af (iS) (af (iS) (af (iS) (aA)))))))))))
 (aG (bx (IQ (I_ b_ValueError (tb:=[("NoPair",true)]) (List.forall_mem_cons.mpr ⟨⟨_,e_NoPair.n,e_NoPair.x,e_NoPair.cl,e_NoPair.v⟩,(fun _ h=>nomatch h)⟩) (ah 0) b_isinstance) (IA (tu (Ac hr.units) (ah 2) (Eg (N:=["_law_name", "_law_due"]) (cap:=[none,some 1]) hh h0 xo (ko ["_law_due"] rfl (by decide +kernel) (by decide +kernel) (by decide +kernel) (by decide +kernel) (by decide +kernel) (List.forall_mem_cons.mpr ⟨by first | exact Or.inl rfl | exact Or.inr rfl,(fun _ h=>nomatch h)⟩) ⟨rfl,by decide +kernel,trivial⟩) (ah 3) (fun _ _ _ _=>aP (i:=0) (show (["_law_name", "_law_due"]:List Str).Nodup by decide +kernel) rfl (Or.inl rfl) (.inr rfl)) (fun _ _ _ _=>j4) (fun _ _ _ _=>tu (Ac hr.units) (ah 0) (ah 1))))))))))
theorem jM:FnScope ["_law_one", "_law_other", "_law_e"] ["_law_one", "_law_other"] (aC cZ):=⟨rfl,rfl,rfl,by decide +kernel,rfl,by decide +kernel,by decide +kernel⟩
theorem oq {f:Addr} {fd:FuncData} (F:Fun K "_law_refused" "_law_refused" cZ f fd) {U:Addr} {C_NoPair:Addr} (hU:wK K "UnderError" U) (mU:L2.mroIn K U=some Gb) (e_NoPair:ExcK K U "NoPair" C_NoPair) (G_added:G_ P w K mg base 4 "added" ["one", "other"] e8) (G_law_is:IB P w K mg base 1 "_law_is" ["_law_e", "_law_due"] iA):FnOk P w K mg base jn 5 f fd ["_law_one", "_law_other"] (j8 K 2 cG):=ny (m:=gY) F jM fun cdv B outer s H E hr=>
 aE (by (refine J6 (i:=2) (cs:=["NoPair"]) ?hb ?hh jM.nd hU mU (List.forall_mem_cons.mpr ⟨⟨_,e_NoPair.n,e_NoPair.r⟩,(fun _ h=>nomatch h)⟩);(case hb=>exact (fun _ _=>aG (dz (sq G_added (hr.mono (by decide)) (af (ah 0) (af (ah 1) (aA))) (aq (aq aN))))));(case hh=>exact (fun _ _ _ _ xo=>aG (bx (Jf G_law_is (AB hr (by decide)) rfl bJ xo (af (ah 2) (af (iS) (aA))) (aq (aq aN))))))))
 (aG (bx (gf)))
theorem ja:FnScope ["_law_found", "_law_one", "_law_own"] ["_law_found"] (aC d8):=⟨rfl,rfl,rfl,by decide +kernel,rfl,by decide +kernel,by decide +kernel⟩
theorem sW {f:Addr} {fd:FuncData} (F:Fun K "_law_spoil" "_law_spoil" d8 f fd):FnOk P w K mg base jn 1 f fd ["_law_found"] (j8 K 1 cR):=ny (m:=jE) F ja fun cdv B outer s H E hr=>
 aE (cL PassesOwn.never rfl (cg (ah 0)) (eL rfl (aY (aP (i:=1) ja.nd) (aY (aP (i:=2) ja.nd) (dh))))
 (aG (dz (tO PySem.F.slot_list_append PySem.F.type_list_append lA (ah 2) (af (eU (af (aF) (af (aF) (aA)))) (aA))))))
 (aG (dz (tO PySem.F.slot_list_append PySem.F.type_list_append lA (ah 0) (af (eU (af (eU (af (aF) (aA))) (af (dg (af (eU (af (aF) (af (aF) (aA)))) (aA))) (aA)))) (aA)))))
theorem br:FnScope ["_law_one", "_law_other", "_law_held", "_law_some", "_law_own", "_law_due", "_law_first", "_law_second", "_law_turn", "_law_found"] ["_law_one", "_law_other"] (aC bS):=⟨rfl,rfl,rfl,by decide +kernel,rfl,by decide +kernel,by decide +kernel⟩
theorem kH {f:Addr} {fd:FuncData} (F:Fun K "_law_added_right" "_law_added_right" bS f fd) (b_range:mg "range" = none) (G_law_own_added:dZ P w K mg base 3 "_law_own_added" ["_law_held", "_law_one", "_law_own"] bG) (G_law_own_sum:dZ P w K mg base 1 "_law_own_sum" ["_law_held"] bY) (G_law_copy:dZ P w K mg base 1 "_law_copy" ["_law_some"] cU) (G_added:G_ P w K mg base 4 "added" ["one", "other"] e8) (G_law_is_sum:dZ P w K mg base 2 "_law_is_sum" ["_law_found"] cA) (G_law_spoil:dZ P w K mg base 1 "_law_spoil" ["_law_found"] cR):FnOk P w K mg base jn 5 f fd ["_law_one", "_law_other"] (j8 K 2 bL):=ny (m:=eN) F br fun cdv B outer s H E hr=>
 aE (aV (i:=2) br.nd (lq))
 (aE (cL PassesOwn.never rfl (cg (aS cV (ah 0) (ah 1))) (eL rfl (aY (aP (i:=3) br.nd) (aY (aP (i:=4) br.nd) (dh))))
 (aG (dz (bz G_law_own_added (hr.mono (by decide)) (af (ah 2) (af (ah 3) (af (ah 4) (aA)))) (aq (aq (aq aN)))))))
 (aE (aV (i:=5) br.nd (bz G_law_own_sum (hr.mono (by decide)) (af (ah 2) (aA)) (aq aN)))
 (aE (aV (i:=6) br.nd (bz G_law_copy (hr.mono (by decide)) (af (ah 0) (aA)) (aq aN)))
 (aE (aV (i:=7) br.nd (bz G_law_copy (hr.mono (by decide)) (af (ah 1) (aA)) (aq aN)))
 (aE (cL PassesOwn.never rfl (eW b_range (aF)) (aP (i:=8) br.nd)
 (aE (aV (i:=9) br.nd (sq G_added (hr.mono (by decide)) (af (ah 6) (af (ah 7) (aA))) (aq (aq aN))))
 (aE (eO (AW.at (h_ (fu (dO (bz G_law_is_sum (hr.mono (by decide)) (af (ah 9) (aA)) (aq aN)))) (h_ (bV (kg hr.units) (ah 9) (ah 5)) (h_ (bV (kg hr.units) (ah 6) (ah 0)) (kF (bV (kg hr.units) (ah 7) (ah 1)))))))
 (aG (bx (gf)))
 (bW))
 (aG (dz (bz G_law_spoil (hr.mono (by decide)) (af (ah 9) (aA)) (aq aN)))))))
 (aG (bx (gf))))))))
theorem aZ:FnScope ["_law_own", "_law_one", "_law_held", "_law_some", "_law_more", "_law_due", "_law_first", "_law_second", "_law_turn", "_law_found"] ["_law_own", "_law_one"] (aC bP):=⟨rfl,rfl,rfl,by decide +kernel,rfl,by decide +kernel,by decide +kernel⟩
theorem ki {f:Addr} {fd:FuncData} (F:Fun K "_law_scaled_right" "_law_scaled_right" bP f fd) (b_list:mg "list" = none) (b_range:mg "range" = none) (G_law_own_added:dZ P w K mg base 3 "_law_own_added" ["_law_held", "_law_one", "_law_own"] bG) (G_law_own_times:dZ P w K mg base 2 "_law_own_times" ["_law_one", "_law_other"] bU) (G_law_own_sum:dZ P w K mg base 1 "_law_own_sum" ["_law_held"] bY) (G_law_copy:dZ P w K mg base 1 "_law_copy" ["_law_some"] cU) (G_scaled:dZ P w K mg base 4 "scaled" ["poly", "one"] iu) (G_law_is_sum:dZ P w K mg base 2 "_law_is_sum" ["_law_found"] cA) (G_law_spoil:dZ P w K mg base 1 "_law_spoil" ["_law_found"] cR):FnOk P w K mg base jn 5 f fd ["_law_own", "_law_one"] (j8 K 2 bH):=ny (m:=dS) F aZ fun cdv B outer s H E hr=>
 aE (aV (i:=2) aZ.nd (lq))
 (aE (cL PassesOwn.never rfl (cg (ah 1)) (eL rfl (aY (aP (i:=3) aZ.nd) (aY (aP (i:=4) aZ.nd) (dh))))
 (aG (dz (bz G_law_own_added (hr.mono (by decide)) (af (ah 2) (af (ah 3) (af (bz G_law_own_times (hr.mono (by decide)) (af (ah 0) (af (ah 4) (aA))) (aq (aq aN))) (aA)))) (aq (aq (aq aN)))))))
 (aE (aV (i:=5) aZ.nd (bz G_law_own_sum (hr.mono (by decide)) (af (ah 2) (aA)) (aq aN)))
 (aE (aV (i:=6) aZ.nd (gr (vY rfl) b_list kZ (af (ah 0) (aA))))
 (aE (aV (i:=7) aZ.nd (bz G_law_copy (hr.mono (by decide)) (af (ah 1) (aA)) (aq aN)))
 (aE (cL PassesOwn.never rfl (eW b_range (aF)) (aP (i:=8) aZ.nd)
 (aE (aV (i:=9) aZ.nd (bz G_scaled (hr.mono (by decide)) (af (ah 6) (af (ah 7) (aA))) (aq (aq aN))))
 (aE (eO (AW.at (h_ (fu (dO (bz G_law_is_sum (hr.mono (by decide)) (af (ah 9) (aA)) (aq aN)))) (h_ (bV (kg hr.units) (ah 9) (ah 5)) (h_ (bV (kg hr.units) (ah 6) (ah 0)) (kF (bV (kg hr.units) (ah 7) (ah 1)))))))
 (aG (bx (gf)))
 (bW))
 (aG (dz (bz G_law_spoil (hr.mono (by decide)) (af (ah 9) (aA)) (aq aN)))))))
 (aG (bx (gf))))))))
theorem iR:FnScope ["_law_script", "_law_k", "_law_bag_here", "_law_n", "_law_most", "_law_one", "_law_other", "_law_unlike"] ["_law_script"] (aC kW):=⟨rfl,rfl,rfl,by decide +kernel,rfl,by decide +kernel,by decide +kernel⟩
theorem JY {f:Addr} {fd:FuncData} (F:Fun K "law" "law" kW f fd) (b_range:mg "range" = none) (b_max:mg "max" = none) (b_min:mg "min" = none) (b_len:mg "len" = none) (b_int:mg "int" = none) (G_law_bag:dZ P w K mg base 1 "_law_bag" ["_law_script", "_law_at"] fP) (G_law_digit:dZ P w K mg base 1 "_law_digit" ["_law_bag_here", "_law_many"] aO) (G_law_sum:dZ P w K mg base 4 "_law_sum" ["_law_bag_here", "_law_n", "_law_most", "_law_size"] dw) (G_law_scaled_right:dZ P w K mg base 5 "_law_scaled_right" ["_law_own", "_law_one"] bH) (G_law_poly:dZ P w K mg base 3 "_law_poly" ["_law_bag_here", "_law_most", "_law_far"] cS) (G_law_added_right:dZ P w K mg base 5 "_law_added_right" ["_law_one", "_law_other"] bL) (G_law_refused:dZ P w K mg base 5 "_law_refused" ["_law_one", "_law_other"] cG):FnOk P w K mg base jn 6 f fd ["_law_script"] (j8 K 1 rA):=ny (m:=Dn) F iR fun cdv B outer s H E hr=>
 aE (cL PassesOwn.never rfl (eW b_range (bh (IV rfl) b_max J2 (af (aF) (af (bh (JS rfl) b_min Kf (af (bh jt b_len gj (af (ah 0) (aA))) (af (aF) (aA)))) (aA))))) (aP (i:=1) iR.nd)
 (aE (aV (i:=2) iR.nd (bz G_law_bag (hr.mono (by decide)) (af (ah 0) (af (ah 1) (aA))) (aq (aq aN))))
 (aE (aV (i:=3) iR.nd (aS cV (aF) (bz G_law_digit (hr.mono (by decide)) (af (ah 2) (af (aF) (aA))) (aq (aq aN)))))
 (aE (aV (i:=4) iR.nd (dM (dg (af (aF) (af (aF) (aA)))) (gr Kc b_int EB (af (tu (Ac hr.units) (bz G_law_digit (hr.mono (by decide)) (af (ah 2) (af (aF) (aA))) (aq (aq aN))) (aF)) (aA)))))
 (aE (aV (i:=5) iR.nd (bz G_law_sum (hr.mono (by decide)) (af (ah 2) (af (ah 3) (af (ah 4) (af (aF) (aA))))) (aq (aq (aq (aq aN))))))
 (aE (aV (i:=6) iR.nd (bz G_law_sum (hr.mono (by decide)) (af (ah 2) (af (ah 3) (af (ah 4) (af (aF) (aA))))) (aq (aq (aq (aq aN))))))
 (aE (eO (bV (Ac hr.units) (bz G_law_digit (hr.mono (by decide)) (af (ah 2) (af (aF) (aA))) (aq (aq aN))) (aF))
 (aG (Gz (i:=6) (N:=["_law_some", "_law_own"]) (cap:=[none,none]) iR.nd rfl (ko [] rfl (by decide +kernel) (by decide +kernel) (by decide +kernel) (by decide +kernel) (by decide +kernel) (fun _ h=>nomatch h) trivial) (cg (ah 5)) (fun _ _ _ _=>eL rfl (aY (aP (i:=0) (show (["_law_some", "_law_own"]:List Str).Nodup by decide +kernel) rfl (Or.inl rfl) (.inr rfl)) (aY (aP (i:=1) (show (["_law_some", "_law_own"]:List Str).Nodup by decide +kernel) rfl (Or.inl rfl) (.inr rfl)) (dh)))) (fun _ _ _ _=>j4) (fun _ _ _ _=>eU (af (ah 0) (af (gI (N:=["_law_power", "_law_number"]) (cap:=[none,none]) rfl (ko [] rfl (by decide +kernel) (by decide +kernel) (by decide +kernel) (by decide +kernel) (by decide +kernel) (fun _ h=>nomatch h) trivial) (cg (ah 1)) (fun _ _ _ _=>eL rfl (aY (aP (i:=0) (show (["_law_power", "_law_number"]:List Str).Nodup by decide +kernel) rfl (Or.inl rfl) (.inr rfl)) (aY (aP (i:=1) (show (["_law_power", "_law_number"]:List Str).Nodup by decide +kernel) rfl (Or.inl rfl) (.inr rfl)) (dh)))) (fun _ _ _ _=>j4) (fun _ _ _ _=>eU (af (ah 0) (af (aS u9 (aF) (ah 1)) (aA))))) (aA)))) ))
 (bW))
 (aE (eO (AW.at (h_ (fu (dO (bz G_law_added_right (hr.mono (by decide)) (af (ah 5) (af (ah 6) (aA))) (aq (aq aN))))) (kF (fu (dO (bz G_law_scaled_right (hr.mono (by decide)) (af (bz G_law_poly (hr.mono (by decide)) (af (ah 2) (af (aF) (af (aF) (aA)))) (aq (aq (aq aN)))) (af (ah 5) (aA))) (aq (aq aN))))))))
 (aG (bx (gf)))
 (bW))
 (aE (aV (i:=7) iR.nd (bz G_law_sum (hr.mono (by decide)) (af (ah 2) (af (aS cV (aF) (aS qB (aS u9 (ah 3) (aF)) (aF))) (af (aF) (af (aF) (aA))))) (aq (aq (aq (aq aN))))))
 (aG (eO (AW.at (sD (bV (kg hr.units) (ah 5) (dg (aA))) (sD (bV (kg hr.units) (ah 7) (dg (aA))) (sf (fu (dO (bz G_law_refused (hr.mono (by decide)) (af (ah 5) (af (ah 7) (aA))) (aq (aq aN)))))))))
 (aG (bx (gf)))
 (bW))))))))))))
 (aG (bx (gf)))
end
end K26
namespace K26
open PySem L2 Am
noncomputable def kM (S:az) (b:Nat):Prop:=∃ g st:Int,au S b=some [.int g,.int st]/\0<=g/\0<=st/\st < 4294967296
theorem kM.kp {S S':az} {b:Nat} {c:Nat->Prop} (h:kM S b) (k:Kp c S S') (hb:¬ c b):kM S' b:=by
 obtain ⟨g,st,e,q⟩:=h
 exact ⟨g,st,k.lst b _ hb e,q⟩
theorem kM.lt {S:az} {b:Nat} (h:kM S b):b < S.length:=by obtain ⟨_,_,e,_⟩:=h;exact gQ e
theorem Ft {S:az} {ns:List Int} {k:Int} (h0:0<=k) (h1:k<=100):∃ S',fP [.frz (ns.map .int),.int k] S=.ok (.ref S.length) S'/\kM S' S.length/\dW S S':=by
 have e3:we (.int 10) (.int 18)=fun S=>R.ok (.int 1000000000000000000) S:=by
  funext S;exact gJ ⟨by decide,by decide,by decide⟩
 have m1:∀ x:Int,nF (.int x) (.int 2147483647)=fun S=>R.ok (.int (x % 2147483647)) S:=fun x=>by funext S;exact qL (by decide)
 have m3:∀ x:Int,ly (.int 7919) (.int x)=fun S=>R.ok (.int (7919 * x)) S:=fun x=>by funext S;exact zA (by decide) (by decide)
 have s0:∀ x:Int,0<=x % 2147483647:=fun x=>Int.emod_nonneg _ (by decide)
 have s1:∀ x:Int,x % 2147483647 < 4294967296:=fun x=>by have:=Int.emod_lt_of_pos x (show (0:Int) < 2147483647 by decide);omega
 have go:∀ cell:Int,∃ S',((RS.seq (.nx [A.frz (ns.map .int),.int k,.int cell,.unb] S) (a_ (bD (eC (.int 0)) (bK 3))
  (a_ (nK (kh (aJ Mq (ak 2) (aJ we (eC (.int 10)) (eC (.int 18))))) (bD (ak 2) (bK 3)) (fO))
  (cF (fJ (aj (ak 3) (aj (aJ nF (aJ cI (aJ cI (ak 2) (aJ ly (eC (.int 7919)) (ak 1))) (eC (.int 13))) (eC (.int 2147483647))) (aH)))))))).end=.ok (.ref S.length) S')/\kM S' S.length/\dW S S':=by
  intro cell
  by_cases hc:1000000000000000000<=cell
  ·simp only [bI,bools,e3,m1,m3,decide_eq_true hc]
   exact ⟨_,rfl,⟨_,_,aQ,by omega,s0 _,s1 _⟩,Kp.refl.lay⟩
  ·simp only [bI,bools,e3,m1,m3,decide_eq_false hc]
   exact ⟨_,rfl,⟨_,_,aQ,Int.le_refl 0,s0 _,s1 _⟩,Kp.refl.lay⟩
 unfold fP mS qZ
 simp only [bI,bools,dY,Nat.reduceAdd,Nat.reduceSub,List.length_map]
 by_cases hk:k < (ns.length:Int)
 ·have hn:k.toNat < ns.length:=by omega
  have ha:kG (ns.map A.int) k=some (.int ns[k.toNat]):=Fe (k:=k.toNat) (by omega) (List.getElem?_eq_getElem hn)
  rw [decide_eq_true hk]
  simp only [bI,bools,ha]
  have:=go ns[k.toNat]
  simpa only [bI,bools] using this
 ·rw [decide_eq_false hk]
  simp only [bI,bools]
  have:=go 0
  simpa only [bI,bools] using this
theorem digit {S:az} {b:Nat} {m:Int} (h:kM S b) (h1:1<=m) (h2:m < 1073741824):∃ d S',aO [.ref b,.int m] S=.ok (.int d) S'/\0<=d/\d < m/\kM S' b/\Kp (·=b) S S':=by
 obtain ⟨g,st,hl,hg,hs,hs2⟩:=h
 have hb:=gQ hl
 have i0:yC 2 0=some 0:=DG rfl (by decide)
 have i1:yC 2 1=some 1:=DG rfl (by decide)
 have fin:∀ d g' st':Int,0<=d->d < m->0<=g'->0<=st'->st' < 4294967296->aO [.ref b,.int m] S=.ok (.int d) (S.set b (.lst [.int g',.int st']))->∃ d S',aO [.ref b,.int m] S=.ok (.int d) S'/\0<=d/\d < m/\kM S' b/\Kp (·=b) S S':=
  fun d g' st' a1 a2 a3 a4 a5 e=>⟨d,_,e,a1,a2,⟨g',st',iX hb,a3,a4,a5⟩,Kp.refl.set (.inl rfl)⟩
 by_cases hg0:0 < g
 ·refine fin (g % m) (g / m) st (Int.emod_nonneg _ (by omega)) (Int.emod_lt_of_pos _ (by omega)) (Int.ediv_nonneg hg (by omega)) hs hs2 ?_
  unfold aO gE jK
  rw [oh]
  simp [hl,rz,za,hg0,qL (show 0 < m by omega),DK (show 0 < m by omega) h2,i0]
 ·have e1:0<=(st * 48271+11) % 2147483647:=Int.emod_nonneg _ (by decide)
  have e2:(st * 48271+11) % 2147483647 < 2147483647:=Int.emod_lt_of_pos _ (by decide)
  have e3:0<=(st * 48271+11) % 2147483647 / 8:=by omega
  refine fin ((st * 48271+11) % 2147483647 / 8 * 69621 % 2147483629 % m) g ((st * 48271+11) % 2147483647) (Int.emod_nonneg _ (by omega)) (Int.emod_lt_of_pos _ (by omega)) hg e1 (by omega) ?_
  unfold aO gE jK
  rw [oh]
  simp [hl,rz,za,hg0,i1,zA (show -18446744073709551616 < st by omega) (by omega),qL (show (0:Int) < 2147483647 by decide),iX hb,DK (show (0:Int) < 8 by decide) (by decide),zA (show -18446744073709551616 < (st * 48271+11) % 2147483647 / 8 by omega) (by omega),qL (show (0:Int) < 2147483629 by decide),qL (show 0 < m by omega)]
theorem MO:we (.int 10) (.int 9)=fun S=>R.ok (.int 1000000000) S:=by funext S;exact gJ ⟨by decide,by decide,by decide⟩
open Po (Pl Ok Bd)
theorem ER {S:az} {d:Nat} {D:Pl} (hd:b8 S d=some (Po.iv D)) (hl:D.length<=16777216):∃ S',bO [.ref d] S=.ok (.ref (S.length+1)) S'/\au S' (S.length+1)=some (Po.pl (Po.wJ D))/\dW S S':=by
 obtain ⟨S',e,h1,h2⟩:=Cr hd hl
 refine ⟨S',?_,h1,h2⟩
 unfold bO fy jo
 simp only [bI,bools,dY,Nat.reduceAdd,Nat.reduceSub]
 rw [show bQ [none,some 0] _ _ _ _ _ _=_ from e]
 rfl
theorem G1 {S:az} {n m:Nat} {a b:Pl} (hn:au S n=some (Po.pl a)) (hm:au S m=some (Po.pl b)) (ha:Ok a) (hl:a.length+b.length < 16777216) :
  ∃ (L:Nat) (S':az),mF [.ref n,.ref m] S=.ok (.ref L) S'/\au S' L=some (Po.pl (Po.eK a b))/\S.length<=L/\dW S S':=by
 have hd:b8 (S++[.eY (Po.iv a)]) S.length=some (Po.iv a):=rX
 obtain ⟨y3,y4,T,e,hD,kp⟩:=xr (S:=S++[.eY (Po.iv a)]) (S1:=S++[.eY (Po.iv a)]) (x0:=.ref n) (x1:=.ref m) (x3:=.unb) (x4:=.unb) (src:=lO) (l:=b) (show lO _ _=_ from dc (by simp only [bI,bools]) (aX hm)) (aX hm) hd hl
 have ln:=Po.eo b a
 obtain ⟨S',e2,h1,h2⟩:=ER hD (by omega)
 have k1:dW S T:=(Kp.refl.lay (o:=.eY (Po.iv a))).old kp fun q hq _ z=>by omega
 refine ⟨T.length+1,S',?_,by rw [h1,<- Po.Gu ha];rfl,by have:=k1.len;omega,k1.trans h2⟩
 unfold mF v_ CO
 simp only [bI,bools,dY,Nat.reduceAdd,Nat.reduceSub,z8,hn,Po.HL,Po.GR,Po.GS ha]
 rw [show cE lO _ uK _ _=_ from e]
 simp only [bI,bools,e2]
theorem uc {S:az} {n m:Nat} {a b:Pl} (hn:au S n=some (Po.pl a)) (hm:au S m=some (Po.pl b)) (hl:a.length * b.length < 16777216) (ha:∀ p∈a,p.2.natAbs < big) (hb:∀ p∈b,p.2.natAbs < big) :
  ∃ (L:Nat) (S':az),iT [.ref n,.ref m] S=.ok (.ref L) S'/\au S' L=some (Po.pl (Po.times a b))/\S.length<=L/\dW S S':=by
 have hd:b8 (S++[.eY []]) S.length=some []:=rX
 obtain ⟨y3,y4,y5,y6,T,e,hD,kp⟩:=q_ (S:=S++[.eY []]) (x3:=.unb) (x4:=.unb) (x5:=.unb) (x6:=.unb) (aX hn) (aX hm) hd hl ha hb
 have ln:=Po.eo (Po.yP a b) []
 rw [Po.nL,List.length_nil,Nat.zero_add] at ln
 obtain ⟨S',e2,h1,h2⟩:=ER hD (by omega)
 have k1:dW S T:=(Kp.refl.lay (o:=.eY [])).old kp fun q hq _ z=>by omega
 refine ⟨T.length+1,S',?_,h1,by have:=k1.len;omega,k1.trans h2⟩
 unfold iT sO xm
 simp only [bI,bools,dY,Nat.reduceAdd,Nat.reduceSub,mO]
 rw [show cE qG _ rg _ _=_ from e]
 simp only [bI,bools,e2]
theorem yN {S:az} {d:Nat} {D:Pl} (hd:b8 S d=some (Po.iv D)) (hl:D.length<=16777216):∃ S',bR [.ref d] S=.ok (.ref (S.length+1)) S'/\au S' (S.length+1)=some (Po.pl (Po.wJ D))/\dW S S':=by
 obtain ⟨S',e,h1,h2⟩:=Cr hd hl
 refine ⟨S',?_,h1,h2⟩
 unfold bR gu jI
 simp only [bI,bools,dY,Nat.reduceAdd,Nat.reduceSub]
 rw [show bQ [none,some 0] _ _ _ _ _ _=_ from e]
 rfl
theorem Cn {S:az} {n m:Nat} {a b:Pl} (hn:au S n=some (Po.pl a)) (hm:au S m=some (Po.pl b)) (hl:a.length+b.length < 16777216) :
  ∃ (L:Nat) (S':az),cN [.ref n,.ref m] S=.ok (.ref L) S'/\au S' L=some (Po.pl (Po.eK a b))/\S.length<=L/\dW S S':=by
 have hd:b8 (S++[.eY []]++[.lst (Po.pl (a++b))]) S.length=some (Po.iv []):=BO rX
 have ad:cI (.ref n) (.ref m) (S++[.eY []])=.ok (.ref (S++[O.eY []]).length) (S++[.eY []]++[.lst (Po.pl (a++b))]):=by
  show opt (au (S++[.eY []]) n) _=_
  rw [aX hn,cD,aX hm,cD]
  unfold Po.pl
  rw [List.map_append]
  exact eG (show (a.map Po.pA).length+(b.map Po.pA).length<=16777216 by rw [List.length_map,List.length_map];omega)
 obtain ⟨y3,y4,T,e,hD,kp⟩:=xr (S:=S++[.eY []]) (S1:=S++[.eY []]++[.lst (Po.pl (a++b))]) (x0:=.ref n) (x1:=.ref m) (x3:=.unb) (x4:=.unb) (src:=dD) (l:=a++b) (show dD _ _=_ from dc (by simp only [bI,bools,ad]) aQ) aQ hd (by rw [List.length_append];simpa using hl)
 have ln:=Po.eo (a++b) []
 rw [List.length_append,List.length_nil,Nat.zero_add] at ln
 obtain ⟨S',e2,h1,h2⟩:=yN hD (by omega)
 have k1:dW S T:=((Kp.refl.lay (o:=.eY [])).lay (o:=.lst (Po.pl (a++b)))).old kp fun q hq _ z=>by omega
 refine ⟨T.length+1,S',?_,h1,by have:=k1.len;omega,k1.trans h2⟩
 unfold cN fZ jA
 simp only [bI,bools,dY,Nat.reduceAdd,Nat.reduceSub,mO]
 rw [show cE dD _ iF _ _=_ from e]
 simp only [bI,bools,e2]
theorem Af {S:az} {n m:Nat} {a b:Pl} (hn:au S n=some (Po.pl a)) (hm:au S m=some (Po.pl b)) (hl:a.length * b.length < 16777216) (ha:∀ p∈a,p.2.natAbs < big) (hb:∀ p∈b,p.2.natAbs < big) :
  ∃ (L:Nat) (S':az),bU [.ref n,.ref m] S=.ok (.ref L) S'/\au S' L=some (Po.pl (Po.times a b))/\S.length<=L/\dW S S':=by
 have hd:b8 (S++[.eY []]) S.length=some []:=rX
 obtain ⟨y3,y4,y5,y6,T,e,hD,kp⟩:=q_ (S:=S++[.eY []]) (x3:=.unb) (x4:=.unb) (x5:=.unb) (x6:=.unb) (aX hn) (aX hm) hd hl ha hb
 have ln:=Po.eo (Po.yP a b) []
 rw [Po.nL,List.length_nil,Nat.zero_add] at ln
 obtain ⟨S',e2,h1,h2⟩:=yN hD (by omega)
 have k1:dW S T:=(Kp.refl.lay (o:=.eY [])).old kp fun q hq _ z=>by omega
 refine ⟨T.length+1,S',?_,h1,by have:=k1.len;omega,k1.trans h2⟩
 unfold bU fD jk
 simp only [bI,bools,dY,Nat.reduceAdd,Nat.reduceSub,mO]
 rw [show cE gF _ gP _ _=_ from e]
 simp only [bI,bools,e2]
open Po (Pl Ok Bd)
theorem zI {S:az} {b:Nat} (h:kM S b):∃ (x:Int) (S':az),dH [.ref b] S=.ok (.int x) S'/\x.natAbs<=10 ^ 31/\kM S' b/\Kp (·=b) S S':=by
 obtain ⟨w,S1,e1,w0,w1,b1,k1⟩:=digit (m:=4) h (by decide) (by decide)
 obtain ⟨mx,tr,h4,h5,h6,h7,h8⟩:∃ mx tr:Int,kG ([.int 4,.int 4,.int 1000,.int 1000]:List A) w=some (.int mx)/\kG ([.int 0,.int 0,.int 1,.int 3]:List A) w=some (.int tr)/\1<=mx/\mx<=1000/\(0<=tr/\tr<=3):=by
  rcases (by omega:w=0\/w=1\/w=2\/w=3) with z | z | z | z <;> subst z
  ·exact ⟨4,0,rfl,rfl,by decide,by decide,by decide⟩
  ·exact ⟨4,0,rfl,rfl,by decide,by decide,by decide⟩
  ·exact ⟨1000,1,rfl,rfl,by decide,by decide,by decide⟩
  ·exact ⟨1000,3,rfl,rfl,by decide,by decide,by decide⟩
 have hb:=h.lt
 have n4:∀ S:az,newL [.int 4,.int 4,.int 1000,.int 1000] S=.ok (.ref S.length) (S++[.lst [.int 4,.int 4,.int 1000,.int 1000]]):=fun S=>bC (show 4<=16777216 by decide)
 have n5:∀ S:az,newL [.int 0,.int 0,.int 1,.int 3] S=.ok (.ref S.length) (S++[.lst [.int 0,.int 0,.int 1,.int 3]]):=fun S=>bC (show 4<=16777216 by decide)
 obtain ⟨x0,S2,e2,x1,x2,b2,k2⟩:=digit (m:=mx) (b1.kp (c:=fun _=>False) (Kp.refl.lay (o:=.lst [.int 4,.int 4,.int 1000,.int 1000])) fun z=>z) h6 (by omega)
 unfold dH iO lD
 simp only [bI,bools,dY,Nat.reduceAdd,Nat.reduceSub,e1,n4,h4,e2]
 have Ls:Kp (·=b) S S2:=(k1.lay).trans k2
 refine j6 (lo:=0) (hi:=tr) (S1:=S2++[.lst [.int 0,.int 0,.int 1,.int 3]]) (show jF _ _=_ from fX (by simp only [bI,bools,n5,h5]) (kL (by omega) (by omega)))
  (fun i τ T=>∃ (x:Int) (a3:A),τ=[.ref b,.int w,.int x,a3]/\0<=x/\x < 1000 * 1000000000 ^ i/\kM T b/\Kp (·=b) S T)
  (fun r=>∃ (x:Int) (S':az),RS.end (RS.seq r _)=.ok (.int x) S'/\x.natAbs<=10 ^ 31/\kM S' b/\Kp (·=b) S S')
  ⟨x0,_,rfl,x1,by show x0 < 1000 * 1;omega,b2.kp (c:=fun _=>False) (Kp.refl.lay) fun z=>z,Ls.lay⟩ ?_ ?_
 ·rintro i τ T hi ⟨x,a3,rfl,y0,y1,bT,kT⟩
  left
  obtain ⟨d,T1,e3,d0,d1,b3,k3⟩:=digit (m:=1000000000) bT (by decide) (by decide)
  have ml:ly (.int x) (.int 1000000000)=fun S=>R.ok (.int (x * 1000000000)) S:=by funext S;exact mul_r (by decide) (by decide)
  unfold ju
  simp only [bI,bools,MO,ml,e3]
  refine ⟨_,_,rfl,_,_,rfl,by omega,?_,b3,kT.trans k3⟩
  rw [Int.pow_succ]
  generalize (1000000000:Int) ^ i=q at *
  omega
 ·rintro τ T ⟨x,a3,rfl,y0,y1,bT,kT⟩
  have n6:∀ S:az,newL [.int 1,.int (-1)] S=.ok (.ref S.length) (S++[.lst [.int 1,.int (-1)]]):=fun S=>bC (show 2<=16777216 by decide)
  obtain ⟨d,T1,e3,d0,d1,b3,k3⟩:=digit (m:=2) (bT.kp (c:=fun _=>False) (Kp.refl.lay (o:=.lst [.int 1,.int (-1)])) fun z=>z) (by decide) (by decide)
  have hL:au T1 T.length=some [.int 1,.int (-1)]:=k3.lst _ _ (by have:=bT.lt;omega) aQ
  obtain ⟨s,hs,s1⟩:∃ s:Int,kG ([.int 1,.int (-1)]:List A) d=some (.int s)/\(s=1\/s=-1):=by
   rcases (by omega:d=0\/d=1) with z | z <;> subst z
   ·exact ⟨1,rfl,.inl rfl⟩
   ·exact ⟨-1,rfl,.inr rfl⟩
  have ml:ly (.int x) (.int s)=fun S=>R.ok (.int (x * s)) S:=by funext S;exact mul_r (by omega) (by omega)
  simp only [bI,bools,n6,e3,hL,hs,ml]
  refine ⟨_,_,rfl,?_,b3,(kT.lay).trans k3⟩
  have lt:x < 1000 * 1000000000 ^ 3:=by
   rcases (by omega:(tr - 0).toNat=0\/(tr - 0).toNat=1\/(tr - 0).toNat=2\/(tr - 0).toNat=3) with z | z | z | z <;> rw [z] at y1 <;> omega
  rcases s1 with z | z <;> subst z <;> omega
theorem uJ {S:az} {b:Nat} {most far:Int} (h:kM S b) (h0:0<=most) (h1:most<=1000) (f0:0<=far) (f1:far<=1000) :
  ∃ (l:Pl) (L:Nat) (S':az),cS [.ref b,.int most,.int far] S=.ok (.ref L) S'/\au S' L=some (Po.pl l)/\Ok l/\Bd (10 ^ 31) l/\(l.length:Int)<=most/\kM S' b/\Kp (·=b) S S'/\S.length<=L:=by
 have nb:S.length≠b:=by have:=h.lt;omega
 obtain ⟨d,S1,e1,d0,d1,b1,k1⟩:=digit (S:=S++[.lst []]) (m:=2 * far+1) (h.kp (c:=fun _=>False) Kp.refl.lay fun z=>z) (by omega) (by omega)
 have m2:ly (.int 2) (.int far)=fun S=>R.ok (.int (2 * far)) S:=by funext S;exact zA (by decide) (by decide)
 have hL1:au S1 S.length=some []:=k1.lst _ _ nb aQ
 have Mr:Kp (·=b) S S1:=(Kp.refl.lay).trans k1
 obtain ⟨c,S2,e2,c0,c1,b2,k2⟩:=digit (S:=S1) (m:=most+1) b1 (by omega) (by omega)
 have go:∀ p0:Int,∃ (l:Pl) (L:Nat) (S':az),RS.end (RS.seq (cE iV (bK 5) jf [.ref b,.int most,.int far,.ref S.length,.int p0,.unb,.unb] S1) (cF (ak 3)))=.ok (.ref L) S'/\au S' L=some (Po.pl l)/\Ok l/\Bd (10 ^ 31) l/\(l.length:Int)<=most/\kM S' b/\Kp (·=b) S S'/\S.length<=L:=by
  intro p0
  refine j6 (lo:=0) (hi:=c) (S1:=S2) (show iV _ _=_ from fX (by simp only [bI,bools,e2]) (kL (by omega) (by omega)))
   (fun i τ T=>∃ (l:Pl) (p:Int) (a5 a6:A),τ=[.ref b,.int most,.int far,.ref S.length,.int p,a5,a6]/\au T S.length=some (Po.pl l)/\Ok l/\(∀ q∈l,q.1 < p)/\Bd (10 ^ 31) l/\l.length<=i/\kM T b/\Kp (·=b) S T)
   (fun r=>∃ (l:Pl) (L:Nat) (S':az),RS.end (RS.seq r _)=.ok (.ref L) S'/\au S' L=some (Po.pl l)/\Ok l/\Bd (10 ^ 31) l/\(l.length:Int)<=most/\kM S' b/\Kp (·=b) S S'/\S.length<=L)
   ⟨[],p0,_,_,rfl,k2.lst _ _ nb hL1,⟨List.Pairwise.nil,fun _ h=>nomatch h⟩,(fun _ h=>nomatch h),(fun _ h=>nomatch h),Nat.le_refl _,b2,Mr.trans k2⟩ ?_ ?_
  ·rintro i τ T hi ⟨l,p,a5,a6,rfl,hL,ok,lt,bd,len,bT,kT⟩
   left
   obtain ⟨x,T1,e3,x1,b3,k3⟩:=zI bT
   have hL3:=k3.lst _ _ nb hL
   unfold jf
   simp only [bI,bools,e3]
   have tail:∀ (l':Pl) (T2:az),kM T2 b->Kp (·=b) S T2->au T2 S.length=some (Po.pl l')->Ok l'->(∀ q∈l',q.1 < p+1)->Bd (10 ^ 31) l'->l'.length<=i+1 ->
     ∃ τ' S',RS.seq (.nx [.ref b,.int most,.int far,.ref S.length,.int p,.int (0+(i:Int)),.int x] T2) (bD (aJ cI (aJ cI (ak 4) (eC (.int 1))) (eFn aO (aj (ak 0) (aj (eC (.int 3)) (aH))))) (bK 4))=.nx τ' S' /\
     ∃ (l:Pl) (p:Int) (a5 a6:A),τ'=[.ref b,.int most,.int far,.ref S.length,.int p,a5,a6]/\au S' S.length=some (Po.pl l)/\Ok l/\(∀ q∈l,q.1 < p)/\Bd (10 ^ 31) l/\l.length<=i+1/\kM S' b/\Kp (·=b) S S':=by
    intro l' T2 bb kk hh oo ll dd ee
    obtain ⟨y,T4,e4,y0,y1,b4,k4⟩:=digit (S:=T2) (m:=3) bb (by decide) (by decide)
    simp only [bI,bools,e4]
    exact ⟨_,_,rfl,l',_,_,_,rfl,k4.lst _ _ nb hh,oo,fun q hq=>by have:=ll q hq;omega,dd,ee,b4,kk.trans k4⟩
   have stay:=tail l T1 b3 (kT.trans k3) hL3 ok (fun q hq=>by have:=lt q hq;omega) bd (by omega)
   by_cases hx:x=0
   ·subst hx
    simp only [bI,bools,beq_self_eq_true] at stay ⊢
    exact stay
   ·have hx':(x == 0)=false:=by simpa using hx
    by_cases hp:p<=far
    ·have gl:gd ((Po.pl l).length < sizeLine)=fun r:Am.R A=>r:=by funext r;exact lg (show (Po.pl l).length < 16777216 by rw [jx];omega)
     have lL:=gQ hL3
     have ap:=tail (l++[(p,x)]) (T1.set S.length (.lst (Po.pl (l++[(p,x)])))) (by
       obtain ⟨g,st,e,q⟩:=b3
       exact ⟨g,st,by rw [dm nb];exact e,q⟩) ((kT.trans k3).set (.inr (Nat.le_refl _))) (iX lL)
      ⟨by
       rw [List.pairwise_append]
       exact ⟨ok.up,List.pairwise_singleton _ _,fun a ha c hc=>by rw [List.mem_singleton.mp hc];exact lt a ha⟩,fun q hq=>by
       rcases List.mem_append.mp hq with z | z
       ·exact ok.nz q z
       ·rw [List.mem_singleton.mp z];exact hx⟩
      (fun q hq=>by
       rcases List.mem_append.mp hq with z | z
       ·have:=lt q z;omega
       ·rw [List.mem_singleton.mp z];show p < p+1;omega)
      (fun q hq=>by
       rcases List.mem_append.mp hq with z | z
       ·exact bd q z
       ·rw [List.mem_singleton.mp z];exact x1) (by rw [List.length_append];show l.length+1<=_;omega)
     have et:Po.pl l++[A.tup [.int p,.int x]]=Po.pl (l++[(p,x)]):=by unfold Po.pl;rw [List.map_append];rfl
     simp only [bI,bools,hx',Bool.not_false,decide_eq_true hp,eG (show ([A.int p,.int x]:List A).length<=16777216 by simp),hL3,gl,et] at ap ⊢
     exact ap
    ·simp only [bI,bools,hx',Bool.not_false,decide_eq_false hp] at stay ⊢
     exact stay
  ·rintro τ T ⟨l,p,a5,a6,rfl,hL,ok,lt,bd,len,bT,kT⟩
   simp only [bI,bools]
   exact ⟨l,S.length,T,rfl,hL,ok,bd,by omega,bT,kT,Nat.le_refl _⟩
 unfold cS kI om
 simp only [bI,bools,dY,Nat.reduceAdd,Nat.reduceSub,m2,e1]
 by_cases hm:20 < most
 ·rw [decide_eq_true (show most > 20 from hm)]
  simp only [bI,bools]
  exact go _
 ·rw [decide_eq_false (show ¬ most > 20 from hm)]
  simp only [bI,bools]
  exact go _
open Po (Pl Ok Bd)
theorem D3 {S:az} {L:Nat} {l:Pl} (hL:au S L=some (Po.pl l)) (ok:Ok l) (hl:l.length<=1000000):∃ S',cW [.ref L] S=.ok (.bl true) S'/\dW S S':=by
 unfold cW gZ kq
 simp only [bI,bools,dY,Nat.reduceAdd,Nat.reduceSub,hL,Option.map_some,show pW .lst "list" = some true from rfl,Bool.not_true]
 refine iP (n:=L) (xs:=Po.pl l) (S1:=S) (show jg _ _=_ from dc (by simp only [bI,bools]) hL)
  (fun i τ T=>(∃ a1 a2:A,τ=[.ref L,a1,a2])/\T=S) (fun r=>∃ S',RS.end (RS.seq r _)=.ok (.bl true) S'/\dW S S') ⟨⟨_,_,rfl⟩,rfl⟩ (fun i τ T h=>by rw [h.2];exact hL) ?_ ?_
 ·rintro i z τ T hz ⟨⟨a1,a2,rfl⟩,rfl⟩
  unfold Po.pl at hz
  rw [List.getElem?_map] at hz
  obtain ⟨p,hp,rfl⟩:=Option.map_eq_some_iff.mp hz
  have nz:(p.2 == 0)=false:=by simpa using ok.nz p (List.mem_of_getElem? hp)
  refine ⟨[.ref L,.tup [.int p.1,.int p.2],a2],T,rfl,.inl ?_⟩
  unfold jl
  simp only [bI,bools,show pW .tup "tuple" = some true from rfl,Bool.not_true,List.length_cons,List.length_nil,Nat.zero_add,Nat.reduceAdd,show (((2:Nat):Int) == 2)=true from rfl,za,nz]
  refine yJ (xs:=[.int p.1,.int p.2]) (S1:=T) (show ji _ _=_ from IS (by simp only [bI,bools]))
   (fun j τ T'=>(∃ a2:A,τ=[.ref L,.tup [.int p.1,.int p.2],a2])/\T'=T) (fun r=>∃ τ' S',r=.nx τ' S'/\(∃ a1 a2:A,τ'=[.ref L,a1,a2])/\S'=T) ⟨⟨_,rfl⟩,rfl⟩ ?_ ?_
  ·rintro j y τ T' hy ⟨⟨a2,rfl⟩,rfl⟩
   obtain ⟨q,rfl⟩:∃ q:Int,y=.int q:=by
    have:=List.mem_of_getElem? hy
    simp at this
    rcases this with z | z
    ·exact ⟨_,z⟩
    ·exact ⟨_,z⟩
   refine ⟨[.ref L,.tup [.int p.1,.int p.2],.int q],T',rfl,.inl ?_⟩
   unfold jm
   simp only [bI,bools,show pW .int "int" = some true from rfl,show pW .int "bool" = some false from rfl,Bool.not_true]
   exact ⟨_,_,rfl,⟨_,rfl⟩,rfl⟩
  ·rintro τ T' ⟨⟨a2,rfl⟩,rfl⟩
   exact ⟨_,_,rfl,⟨_,_,rfl⟩,rfl⟩
 ·rintro τ T ⟨⟨a1,a2,rfl⟩,rfl⟩
  have ix:∀ j:Int,0<=j->j < (l.length:Int)->kG (Po.pl l) j=some (.tup [.int (l.getD j.toNat (0,0)).1,.int (l.getD j.toNat (0,0)).2]):=fun j h0 h1=>rW (k:=j.toNat) (by omega) (Hy (by omega))
  have cc:=DS (lo:=0) (hi:=(l.length:Int) - 1) (cap:=[some 0]) (src:=iC (aJ aSub (bB (f1 jq) (aj (ak 0) (aH))) (eC (.int 1)))) (t:=g_) (e:=aJ Me (aJ kO (aJ kO (ak 1) (ak 0)) (eC (.int 0))) (aJ kO (aJ kO (ak 1) (aJ cI (ak 0) (eC (.int 1)))) (eC (.int 0)))) (τ:=[.ref L,a1,a2]) (S:=T) (S1:=T)
   (fX (by simp only [bI,bools,hL,jx]) (kL (by omega) (by omega))) (fun _=>true) (fun _=>.bl true) (fun _ _ _=>rfl) (fun j h0 h1 _=>by
    have lt:(l.getD j.toNat (0,0)).1 < (l.getD (j+1).toNat (0,0)).1:=by
     have e1:(j+1).toNat=j.toNat+1:=by omega
     rw [e1,List.getD_eq_getElem?_getD,List.getD_eq_getElem?_getD,List.getElem?_eq_getElem (show j.toNat < l.length by omega),List.getElem?_eq_getElem (show j.toNat+1 < l.length by omega)]
     exact List.pairwise_iff_getElem.mp ok.up _ _ _ _ (by omega)
    simp only [bI,bools,hL,ix j h0 (by omega),ix (j+1) (by omega) (by omega),rz,decide_eq_true lt]) (by omega)
  have al:∀ (xs:List Int) (S:az) (n:Nat),au S n=some (xs.map fun _=>.bl true)->JX (.ref n) S=.ok (.bl true) S:=fun xs S n h=>by
   show opt (au S n) _=_
   rw [h]
   show opt (A.HF _) _=_
   have b1:∀ xs:List Int,A.HF (xs.map fun _=>A.bl true)=some (xs.map fun _=>true):=fun xs=>by
    induction xs with
    | nil=>rfl
    | cons x xs ih=>rw [List.map_cons,mK,ih];rfl
   rw [b1]
   have b2:∀ xs:List Int,((xs.map fun _=>true).all fun b=>b)=true:=fun xs=>by
    induction xs with
    | nil=>rfl
    | cons x xs ih=>exact ih
   show Am.R.ok (A.bl _) S=_
   rw [b2]
  simp only [bI,bools,cc,al _ _ _ aQ]
  exact ⟨_,rfl,Kp.refl.lay⟩
end K26
namespace K26
open PySem L2 Am
open Po (Pl Ok Bd)
open Su (Es At Vl)
theorem Kh {S:az} {d r:Nat} {D:Es} {o:List Int} {p:Pl} {k b:Nat} (hd:bA S d=some (D.map Su.kv)) (hA:At S D) (hv:Vl k b D) (hr:au S r=some (Po.pl p)) (hl:D.length < 16777216) (hk:k+p.length < 16777216) :
  ∃ (L:Nat) (S':az),bX [.ref d,.tup (o.map .int),.ref r] S=.ok .non S'/\bA S' d=some ((Su.iD D o L (Po.eK (Su.vS (Su.sm D) o) p)).map Su.kv)/\At S' (Su.iD D o L (Po.eK (Su.vS (Su.sm D) o) p))/\S.length<=L/\Kp (·=d) S S':=by
 obtain ⟨x,ex,hx⟩:=Su.get_or (o:=o) hd hA
 have vo:=hv.v o
 obtain ⟨L,S2,e2,h1,h2,k2⟩:=G1 hx (aX (o:=.lst []) hr) vo.1 (by omega)
 have kS:dW S S2:=(Kp.refl.lay).trans k2
 have hd2:=kS.dct _ _ (fun z=>z) hd
 have hd1:bA (S++[.lst []]) d=some (D.map Su.kv):=Su.nM hd
 refine ⟨L,S2.set d (.dct ((Su.iD D o L (Po.eK (Su.vS (Su.sm D) o) p)).map Su.kv)),?_,Su.sA (Su.vJ hd2),?_,by simp at h2;omega,kS.of0.tB (.inl rfl)⟩
 ·unfold bX iW lJ
  have n0:newL [] S=.ok (.ref S.length) (S++[.lst []]):=bC (show 0<=16777216 by decide)
  simp only [bI,bools,dY,Nat.reduceAdd,Nat.reduceSub,Su.yU,Su.wY,hd,Option.map_some,n0,Su.yO,hd1,ex,e2,Su.sH,Su.pB,hd2,lg (show (D.map Su.kv).length < 16777216 by rw [List.length_map];exact hl),Su.vP (p:=Po.eK (Su.vS (Su.sm D) o) p)]
 ·refine (Su.At.put (hA.vq kS) h1).kp (Kp.refl.tB (.inl rfl)) fun e he z=>?_
  rcases Su.gO he with y | y
  ·exact Su.je hd (hA e y) z
  ·rw [y] at z
   exact Su.je hd2 h1 z
theorem B8 {S:az} {d:Nat} {D:Es} (hd:bA S d=some (D.map Su.kv)) (hA:At S D) (hne:∀ e∈D,e.1≠[]) (hl:D.length<=16777216) :
  ∃ (n:Nat) (S':az),e_ [.ref d] S=.ok (.ref n) S'/\au S' n=some ((Su.gA D fun p=>!p.isEmpty).map Su.ent)/\At S' (Su.gA D fun p=>!p.isEmpty)/\S.length < n/\dW S S':=by
 have n0:=Su.pH hd hne
 obtain ⟨n,S',e,h1,h2,h3,h4⟩:=Su.pR (cap:=[some 0]) (τ:=[.ref d]) (src:=cH (bB (f1 jQ) (aj (ak 0) (aH)))) (t:=gC (aJ mw (ak 1) (ak 0))) (e:=fm (aj (ak 0) (aj (aJ mw (ak 1) (ak 0)) (aH)))) hd hA (dc (by simp only [bI,bools,n0]) aQ) (fun p=>!p.isEmpty)
  (fun o r q T hT hk hr=>⟨T,by
   have tr:A.Jp (.ref r) T=some (!q.isEmpty):=by
    show (au T r).map _=_
    rw [hr]
    cases q <;> rfl
   simp only [bI,bools,Su.m9,Su.lK,hT,hk,tr],Kp.refl⟩)
  (fun o r T hT hk=>by
   simp only [bI,bools,Su.m9,Su.lK,hT,hk]
   exact eG (show 2<=16777216 by decide)) hl
 refine ⟨n,S',?_,h1,h2,h3,h4⟩
 unfold e_ oz uA
 simp only [bI,bools,dY,Nat.reduceAdd,Nat.reduceSub,e]
theorem vn:Su.lC bX:=fun h1 h2 h3 h4 h5 h6=>Kh h1 h2 h3 h4 h5 h6
theorem wo:Su.m7 iT:=fun h1 h2 h3 h4 h5=>uc h1 h2 h3 h4 h5
open Po (Pl Ok Bd)
open Su (Es At Vl)
structure Sm (S:az) (n:Nat) (es:Es):Prop where
 l:au S n=some (es.map Su.ent)
 a:At S es
theorem Sm.kp {S S':az} {n:Nat} {es:Es} (h:Sm S n es) (k:dW S S'):Sm S' n es:=⟨k.lst _ _ (fun z=>z) h.l,h.a.vq k⟩
noncomputable def Fi (n k:Nat) (es:Es):Prop:=∀ e∈es,e.1.length=n/\Ok e.2.2/\e.2.2≠[]/\e.2.2.length<=k/\Bd (10 ^ 31) e.2.2
theorem rZ {S:az} {a b:List Int} (h:a.length=b.length):cQ [.tup (a.map .int),.tup (b.map .int)] S=.ok .non S:=by
 unfold cQ gM jN
 have:((a.length:Int) == (b.length:Int))=true:=by rw [h];exact beq_self_eq_true _
 simp only [bI,rj,bools,dY,Nat.reduceAdd,Nat.reduceSub,List.length_map,this,Bool.not_true]
theorem rm {S:az} {n:Nat} {xs:List A} (h:au S n=some xs):A.Jp (.ref n) S=some (!xs.isEmpty):=by
 show (au S n).map _=_
 rw [h];rfl
theorem sZ {S:az} {n m N:Nat} {es fs:Es} (h:Sm S n es) (h':Sm S m fs) (h1:∀ e∈es,e.1.length=N) (h2:∀ e∈fs,e.1.length=N):cP [.ref n,.ref m] S=.ok .non S:=by
 unfold cP gG jz
 simp only [bI,rj,bools,dY,Nat.reduceAdd,Nat.reduceSub,rm h.l,rm h'.l]
 cases es with
 | nil=>simp only [bI,rj,bools,List.map_nil,List.isEmpty_nil,Bool.not_true]
 | cons e es=>cases fs with
  | nil=>simp only [bI,rj,bools,List.map_nil,List.isEmpty_nil,Bool.not_true,List.map_cons,List.isEmpty_cons,Bool.not_false,rm h'.l]
  | cons f fs=>
   have q:=rZ (S:=S) ((h1 e (List.mem_cons_self ..)).trans (h2 f (List.mem_cons_self ..)).symm)
   have hl:=h.l
   have hl':=h'.l
   rw [List.map_cons] at hl hl'
   simp only [bI,rj,bools,List.map_cons,List.isEmpty_cons,Bool.not_false,rm hl',hl,hl',rz,Su.ent,q]
theorem BN {S:az} {n m N:Nat} {es fs:Es} (h:Sm S n es) (h':Sm S m fs) (h1:Fi N 4 es) (h2:Fi N 4 fs) (hN:1<=N) (hl:es.length+fs.length<=1000) :
  ∃ (L:Nat) (S':az) (rs:Es),e8 [.ref n,.ref m] S=.ok (.ref L) S'/\Sm S' L rs/\Su.sm rs=Su.toS (Su.adds [] (Su.sm (es++fs)))/\(∀ e∈rs,Ok e.2.2/\e.2.2≠[]/\e.2.2.length<=10000/\S.length<=e.2.1/\e.2.1 < L)/\S.length<=L/\dW S S':=by
 have nl:=sZ h h' (fun e he=>(h1 e he).1) (fun e he=>(h2 e he).1)
 have hle:(es++fs).length=es.length+fs.length:=List.length_append ..
 have n1:au (S++[.dct []]) n=some (es.map Su.ent):=aX h.l
 have n2:au (S++[.dct []]) m=some (fs.map Su.ent):=aX h'.l
 have ad:cI (.ref n) (.ref m) (S++[.dct []])=.ok (.ref (S++[O.dct []]).length) (S++[.dct []]++[.lst ((es++fs).map Su.ent)]):=by
  show opt (au (S++[.dct []]) n) _=_
  rw [n1,cD,n2,cD,List.map_append]
  exact eG (show (es.map Su.ent).length+(fs.map Su.ent).length<=16777216 by rw [List.length_map,List.length_map];omega)
 have k0:dW S (S++[.dct []]++[.lst ((es++fs).map Su.ent)]):=Kp.refl.lay.lay
 have hj:∀ e∈es++fs,e.2.2.length<=4/\e.1≠[]:=fun e he=>by
  have:e.1.length=N/\e.2.2.length<=4:=(List.mem_append.mp he).elim (fun z=>⟨(h1 e z).1,(h1 e z).2.2.2.1⟩) fun z=>⟨(h2 e z).1,(h2 e z).2.2.2.1⟩
  exact ⟨this.2,fun z=>by rw [z] at this;have:=this.1;simp at this;omega⟩
 obtain ⟨y3,y4,D,T,e1,f,kp⟩:=Su.xZ vn (j:=4) (b:=S.length) (i0:=0) (S:=S++[.dct []]) (S1:=S++[.dct []]++[.lst ((es++fs).map Su.ent)]) (d:=S.length) (x0:=.ref n) (x1:=.ref m) (x3:=.unb) (x4:=.unb) (xs:=[]) (src:=j9) (es:=es++fs)
  (show j9 _ _=_ from dc (by simp only [bI,bools,ad]) aQ) aQ ((h.a.app h'.a).vq k0) (Su.Fil.new (Su.nM Su.lN)) k0.len hj (by omega) (by omega)
 have kT:dW S T:=k0.old kp fun q hq _ z=>by omega
 have fl:=f.ll
 obtain ⟨L,S',e2,r1,r2,r3,r4⟩:=B8 f.dd f.aa f.kk (by omega)
 have tl:=kT.len
 refine ⟨L,S',_,?_,⟨r1,r2⟩,by rw [Su.nV,f.ss],fun e he=>?_,by omega,kT.trans r4⟩
 ·unfold e8 nZ rY
  simp only [bI,rj,bools,dY,Nat.reduceAdd,Nat.reduceSub,nl,Su.jH]
  rw [show cE j9 _ qp _ _=_ from e1]
  simp only [bI,rj,bools,e2]
 ·obtain ⟨m1,m2⟩:=Su.jW he
  obtain ⟨v1,v2,v3⟩:=f.vv e m1
  have lt:=gQ (f.aa e m1)
  refine ⟨v1,fun z=>(by rw [z] at m2;cases m2),by omega,v3,by omega⟩
theorem Ak {S:az} {n m N:Nat} {es:Es} {q:Pl} (h:Sm S n es) (hq:au S m=some (Po.pl q)) (h1:Fi N 4 es) (hN:1<=N) (hl:es.length<=1000) (ql:q.length<=4) (qb:Bd (10 ^ 31) q) :
  ∃ (L:Nat) (S':az) (rs:Es),iu [.ref m,.ref n] S=.ok (.ref L) S'/\Sm S' L rs/\Su.sm rs=Su.toS (Su.adds [] ((Su.sm es).map fun e=>(e.1,Po.times q e.2)))/\(∀ e∈rs,Ok e.2.2/\e.2.2≠[]/\e.2.2.length<=100000/\S.length<=e.2.1/\e.2.1 < L)/\S.length<=L/\dW S S':=by
 have k0:dW S (S++[.dct []]):=Kp.refl.lay
 have bg:∀ l:Pl,Bd (10 ^ 31) l->∀ p∈l,p.2.natAbs < big:=fun l b p hp=>by
  rw [sU]
  exact Nat.lt_of_le_of_lt (b p hp) (by decide +kernel)
 have hj:∀ e∈es,q.length * e.2.2.length<=16/\e.1≠[]/\∀ p∈e.2.2,p.2.natAbs < big:=fun e he=>by
  obtain ⟨a1,a2,a3,a4,a5⟩:=h1 e he
  exact ⟨Nat.mul_le_mul ql a4,fun z=>by rw [z] at a1;simp at a1;omega,bg _ a5⟩
 obtain ⟨y3,y4,D,T,e1,f,kp⟩:=Su.uP vn wo (j:=16) (b:=S.length) (i0:=0) (S:=S++[.dct []]) (S1:=S++[.dct []]) (d:=S.length) (x1:=.ref n) (x3:=.unb) (x4:=.unb) (xs:=[]) (src:=jb) (es:=es) (m:=m)
  (show jb _ _=_ from dc (by simp only [bI,bools]) (aX h.l)) (aX h.l) (h.a.vq k0) (aX hq) (Su.Fil.new Su.lN) k0.len hj (bg _ qb) (by omega) (by omega)
 have kT:dW S T:=k0.old kp fun q hq _ z=>by omega
 have fl:=f.ll
 obtain ⟨L,S',e2,r1,r2,r3,r4⟩:=B8 f.dd f.aa f.kk (by omega)
 have tl:=kT.len
 refine ⟨L,S',_,?_,⟨r1,r2⟩,by rw [Su.nV,f.ss],fun e he=>?_,by omega,kT.trans r4⟩
 ·unfold iu pD uI
  simp only [bI,rj,bools,dY,Nat.reduceAdd,Nat.reduceSub,Su.jH]
  rw [show cE jb _ pI _ _=_ from e1]
  simp only [bI,rj,bools,e2]
 ·obtain ⟨m1,m2⟩:=Su.jW he
  obtain ⟨v1,v2,v3⟩:=f.vv e m1
  have lt:=gQ (f.aa e m1)
  refine ⟨v1,fun z=>(by rw [z] at m2;cases m2),by omega,v3,by omega⟩
end K26
namespace K26
open PySem L2 Am
open Po (Pl Ok Bd)
theorem sj {S:az} {k:Nat}:∀ l:Pl,gb (iK S (k+2)) (Po.pl l) (Po.pl l)=some true
 | []=>rfl
 | p::l=>by
  have e:iK S (k+2) (Po.pA p) (Po.pA p)=some true:=by
   show gb (iK S (k+1)) (([p.1,p.2]:List Int).map .int) (([p.1,p.2]:List Int).map .int)=_
   rw [mG,decide_eq_true rfl]
  show (iK S (k+2) (Po.pA p) (Po.pA p)).bind _=_
  rw [e]
  show Option.map _ (gb (iK S (k+2)) (Po.pl l) (Po.pl l))=_
  rw [sj l];rfl
theorem KN {S:az} {a b:Nat} {l:Pl} (h:au S a=some (Po.pl l)) (h':au S b=some (Po.pl l)):iK S 12 (.ref a) (.ref b)=some true:=by
 show (au S a).bind (fun xs=>(au S b).bind fun ys=>gb (iK S 11) xs ys)=_
 rw [h,h']
 exact sj (k:=9) l
open Po (Pl Ok Bd)
open Su (Es At Vl)
theorem Fw {S:az} {d r:Nat} {D:Es} {o:List Int} {p:Pl} {k b:Nat} (hd:bA S d=some (D.map Su.kv)) (hA:At S D) (hv:Vl k b D) (hr:au S r=some (Po.pl p)) (hl:D.length < 16777216) (hk:k+p.length < 16777216) :
  ∃ (L:Nat) (S':az),bG [.ref d,.tup (o.map .int),.ref r] S=.ok .non S'/\bA S' d=some ((Su.iD D o L (Po.eK (Su.vS (Su.sm D) o) p)).map Su.kv)/\At S' (Su.iD D o L (Po.eK (Su.vS (Su.sm D) o) p))/\S.length<=L/\Kp (·=d) S S':=by
 obtain ⟨x,ex,hx⟩:=Su.get_or (o:=o) hd hA
 have vo:=hv.v o
 obtain ⟨L,S2,e2,h1,h2,k2⟩:=Cn hx (aX (o:=.lst []) hr) (by omega)
 have kS:dW S S2:=(Kp.refl.lay).trans k2
 have hd2:=kS.dct _ _ (fun z=>z) hd
 have hd1:bA (S++[.lst []]) d=some (D.map Su.kv):=Su.nM hd
 refine ⟨L,S2.set d (.dct ((Su.iD D o L (Po.eK (Su.vS (Su.sm D) o) p)).map Su.kv)),?_,Su.sA (Su.vJ hd2),?_,by simp at h2;omega,kS.of0.tB (.inl rfl)⟩
 ·unfold bG fB jh
  have n0:newL [] S=.ok (.ref S.length) (S++[.lst []]):=bC (show 0<=16777216 by decide)
  simp only [bI,bools,dY,Nat.reduceAdd,Nat.reduceSub,Su.yU,Su.wY,hd,Option.map_some,n0,Su.yO,hd1,ex,e2,Su.sH,Su.pB,hd2,lg (show (D.map Su.kv).length < 16777216 by rw [List.length_map];exact hl),Su.vP (p:=Po.eK (Su.vS (Su.sm D) o) p)]
 ·refine (Su.At.put (hA.vq kS) h1).kp (Kp.refl.tB (.inl rfl)) fun e he z=>?_
  rcases Su.gO he with y | y
  ·exact Su.je hd (hA e y) z
  ·rw [y] at z
   exact Su.je hd2 h1 z
theorem qU:Su.lC bG:=fun h1 h2 h3 h4 h5 h6=>Fw h1 h2 h3 h4 h5 h6
theorem uW:Su.m7 bU:=fun h1 h2 h3 h4 h5=>Af h1 h2 h3 h4 h5
theorem wO {S:az} {a b:Nat} {q:Pl} (h:au S a=some (Po.pl q)) (h':au S b=some []):iK S 12 (.ref a) (.ref b)=some q.isEmpty:=by
 show (au S a).bind (fun xs=>(au S b).bind fun ys=>gb (iK S 11) xs ys)=_
 rw [h,h']
 cases q <;> rfl
theorem wZ {S:az} {d:Nat} {D:Es} (hd:bA S d=some (D.map Su.kv)) (hA:At S D) (hne:∀ e∈D,e.1≠[]) (hl:D.length<=16777216) :
  ∃ (n:Nat) (S':az),bY [.ref d] S=.ok (.ref n) S'/\au S' n=some ((Su.gA D fun p=>!p.isEmpty).map Su.ent)/\At S' (Su.gA D fun p=>!p.isEmpty)/\S.length < n/\dW S S':=by
 have n0:=Su.pH hd hne
 obtain ⟨n,S',e,h1,h2,h3,h4⟩:=Su.pR (cap:=[some 0]) (τ:=[.ref d]) (src:=cH (bB (f1 jQ) (aj (ak 0) (aH)))) (t:=kh (aJ (fL true) (aJ mw (ak 1) (ak 0)) (fJ (aH)))) (e:=fm (aj (ak 0) (aj (aJ mw (ak 1) (ak 0)) (aH)))) hd hA (dc (by simp only [bI,bools,n0]) aQ) (fun p=>!p.isEmpty)
  (fun o r q T hT hk hr=>⟨T++[.lst []],by
   have nl:newL [] T=.ok (.ref T.length) (T++[.lst []]):=bC (show 0<=16777216 by decide)
   have q1:fL true (.ref r) (.ref T.length) (T++[.lst []])=.ok (.bl (!q.isEmpty)) (T++[.lst []]):=gW (wO (aX hr) aQ)
   simp only [bI,bools,Su.m9,Su.lK,hT,hk,nl,q1],Kp.refl.lay⟩)
  (fun o r T hT hk=>by
   simp only [bI,bools,Su.m9,Su.lK,hT,hk]
   exact eG (show 2<=16777216 by decide)) hl
 refine ⟨n,S',?_,h1,h2,h3,h4⟩
 unfold bY gS kC
 simp only [bI,bools,dY,Nat.reduceAdd,Nat.reduceSub,e]
theorem sN {S:az} {n:Nat} {es:Es} (h:Sm S n es) (hl:es.length<=16777216):∃ (m:Nat) (S':az) (fs:Es),cU [.ref n] S=.ok (.ref m) S'/\Sm S' m fs/\Su.sm fs=Su.sm es/\(∀ e∈fs,S.length<=e.2.1/\e.2.1 < m)/\S.length<=m/\dW S S':=by
 obtain ⟨m,S',fs,e,h1,h2,h3,h4,h5,h6⟩:=Su.vd (es:=es) (n:=n) (cap:=[]) (src:=cH (ak 0)) (ex:=fm (aj (ak 0) (aj (bB (f1 lI) (aj (ak 1) (aH))) (aH)))) (τ:=[.ref n]) (dc (by simp only [bI,bools]) h.l) h.l (fun p=>p)
  (fun e he T kT=>⟨T.length,T++[.lst (Po.pl e.2.2)],by
   simp only [bI,bools,(h.a.vq kT) e he]
   exact eG (show 2<=16777216 by decide),aQ,Nat.le_refl _,Kp.refl.lay⟩) hl
 refine ⟨m,S',fs,?_,⟨h1,h2⟩,h3,h4,h5,h6⟩
 unfold cU kK oR
 simp only [bI,bools,dY,Nat.reduceAdd,Nat.reduceSub]
 rw [show bQ [none,none] _ _ _ _ _ _=_ from e]
 rfl
theorem tZ {S:az} {n:Nat} {es:Es} (h:Sm S n es) (hv:∀ e∈es,Ok e.2.2/\e.2.2≠[]/\e.2.2.length<=1000000):∃ S',cA [.ref n] S=.ok (.bl true) S'/\dW S S':=by
 unfold cA iN k_
 simp only [bI,bools,dY,Nat.reduceAdd,Nat.reduceSub,h.l,Option.map_some,show pW .lst "list" = some true from rfl,Bool.not_true]
 refine iP (n:=n) (xs:=es.map Su.ent) (S1:=S) (show jP _ _=_ from dc (by simp only [bI,bools]) h.l)
  (fun i τ T=>(∃ a1:A,τ=[.ref n,a1])/\dW S T) (fun r=>∃ S',RS.end (RS.seq r _)=.ok (.bl true) S'/\dW S S') ⟨⟨_,rfl⟩,Kp.refl⟩ (fun i τ T k=>k.2.lst _ _ (fun z=>z) h.l) ?_ ?_
 ·rintro i z τ T hz ⟨⟨a1,rfl⟩,kT⟩
  rw [List.getElem?_map] at hz
  obtain ⟨e,he,rfl⟩:=Option.map_eq_some_iff.mp hz
  have hm:=List.mem_of_getElem? he
  obtain ⟨v1,v2,v3⟩:=hv e hm
  have hr:=(h.a.vq kT) e hm
  obtain ⟨T1,e1,k1⟩:=D3 hr v1 v3
  have nl:newL [] T1=.ok (.ref T1.length) (T1++[.lst []]):=bC (show 0<=16777216 by decide)
  have q1:fL false (.ref e.2.1) (.ref T1.length) (T1++[.lst []])=.ok (.bl false) (T1++[.lst []]):=by
   rw [Ba (wO (aX (k1.lst _ _ (fun z=>z) hr)) aQ)]
   cases hq:e.2.2 with
   | nil=>exact absurd hq v2
   | cons=>rfl
  refine ⟨[.ref n,Su.ent e],T,rfl,.inl ?_⟩
  unfold jC
  simp only [bI,bools,Su.ent,show pW .tup "tuple" = some true from rfl,Bool.not_true,List.length_cons,List.length_nil,Nat.zero_add,Nat.reduceAdd,show (((2:Nat):Int) == 2)=true from rfl,rz,za,e1,nl,q1]
  exact ⟨_,_,rfl,⟨_,rfl⟩,(kT.trans k1).lay⟩
 ·rintro τ T ⟨⟨a1,rfl⟩,kT⟩
  simp only [bI,bools]
  exact ⟨_,rfl,kT⟩
theorem t7 {S:az} {k:Nat}:∀ {es fs:Es},At S es->At S fs->Su.sm es=Su.sm fs->gb (iK S (k+4)) (es.map Su.ent) (fs.map Su.ent)=some true
 | [],[],_,_,_=>rfl
 | [],f::fs,_,_,h=>nomatch h
 | e::es,[],_,_,h=>nomatch h
 | e::es,f::fs,h1,h2,h3=>by
  obtain ⟨h4,h5⟩:=List.cons.inj h3
  have h4:(e.1,e.2.2)=(f.1,f.2.2):=h4
  obtain ⟨e1,e2⟩:=Prod.mk.inj h4
  have a1:=h1 e (List.mem_cons_self ..)
  have a2:=h2 f (List.mem_cons_self ..)
  rw [<- e2] at a2
  have q1:iK S (k+3) (.tup (e.1.map .int)) (.tup (f.1.map .int))=some true:=by
   rw [<- e1]
   show gb (iK S (k+2)) _ _=_
   rw [mG,decide_eq_true rfl]
  have q2:iK S (k+3) (.ref e.2.1) (.ref f.2.1)=some true:=by
   show (au S e.2.1).bind (fun xs=>(au S f.2.1).bind fun ys=>gb (iK S (k+2)) xs ys)=_
   rw [a1,a2]
   exact sj (k:=k) _
  have q:iK S (k+4) (Su.ent e) (Su.ent f)=some true:=by
   show gb (iK S (k+3)) [.tup (e.1.map .int),.ref e.2.1] [.tup (f.1.map .int),.ref f.2.1]=_
   show (iK S (k+3) _ _).bind (fun p=>((iK S (k+3) _ _).bind fun q=>(gb (iK S (k+3)) [] []).map fun r=>q && r).map fun q=>p && q)=_
   rw [q1,q2];rfl
  show (iK S (k+4) (Su.ent e) (Su.ent f)).bind _=_
  rw [q]
  show Option.map _ (gb (iK S (k+4)) (es.map Su.ent) (fs.map Su.ent))=_
  rw [t7 (fun x hx=>h1 x (List.mem_cons_of_mem _ hx)) (fun x hx=>h2 x (List.mem_cons_of_mem _ hx)) h5];rfl
theorem ow {S:az} {n m:Nat} {es fs:Es} (h:Sm S n es) (h':Sm S m fs) (e:Su.sm es=Su.sm fs):iK S 12 (.ref n) (.ref m)=some true:=by
 show (au S n).bind (fun xs=>(au S m).bind fun ys=>gb (iK S 11) xs ys)=_
 rw [h.l,h'.l]
 exact t7 (k:=7) h.a h'.a e
end K26
namespace K26
open PySem L2 Am
theorem pO:∀ (l:List Int) (j:Nat) (h:j < l.length),(l[j]::l.eraseIdx j).Perm l
 | x::l,0,_=>List.Perm.refl _
 | x::l,j+1,h=>(List.Perm.swap x _ _).trans (List.Perm.cons x (pO l j (Nat.lt_of_succ_lt_succ h)))
theorem zL {ls fs:List Int} {j:Nat} (h:j < ls.length):((fs++[ls[j]])++ls.eraseIdx j).Perm (fs++ls):=by
 rw [List.append_assoc]
 refine List.Perm.append_left fs ?_
 show (ls[j]::ls.eraseIdx j).Perm ls
 exact pO ls j h
theorem B0 {d:Int} {n:Nat} (h0:0<=d) (h:d.toNat < n):seqIndex? d n=some d.toNat:=by
 unfold seqIndex?
 simp
 omega
theorem nc {α β:Type} (f:α->β):∀ (l:List α) (k:Nat),(l.map f).eraseIdx k=(l.eraseIdx k).map f
 | [],_=>rfl
 | _::_,0=>rfl
 | x::l,k+1=>congrArg (f x::·) (nc f l k)
theorem CS {S:az} {b:Nat} {n:Int} (h:kM S b) (h1:1<=n) (h2:n<=20):∃ (xs:List Int) (S':az),d_ [.ref b,.int n] S=.ok (.tup (xs.map .int)) S'/\xs.Perm (ie 1 (n+1))/\kM S' b/\Kp (·=b) S S':=by
 have hbS:b < S.length:=by obtain ⟨_,_,e,_⟩:=h;exact gQ e
 unfold d_ jR nh
 simp only [bI,bools,dY,Nat.reduceAdd,Nat.reduceSub,zH (Dq (show (-1000000:Int)<=1 by decide) (by decide) (show -1000000<=n+1 by omega) (by omega) (by omega)),List.length_append]
 have key:=pS (t:=gR) (c:=gU)
  (fun τ S1=>∃ (ls fs:List Int),τ=[.ref b,.int n,.ref S.length,.ref (S.length+1)]/\au S1 S.length=some (ls.map .int)/\au S1 (S.length+1)=some (fs.map .int)/\(fs++ls).Perm (ie 1 (n+1))/\kM S1 b/\Kp (·=b) S S1)
  (fun τ S1=>((au S1 S.length).getD []).length)
  (fun r=>∃ (xs:List Int) (S':az),RS.end (RS.seq r (cF (bB (f1 oG) (aj (ak 3) aH))))=.ok (.tup (xs.map .int)) S'/\xs.Perm (ie 1 (n+1))/\kM S' b/\Kp (·=b) S S') ?_ 1000000
 ·refine key _ _ ⟨ie 1 (n+1),[],rfl,aX aQ,?_,List.Perm.refl _,h.kp (c:=fun _=>False) (Kp.refl.lay.lay) (fun z=>z),Kp.refl.lay.lay⟩ ?_
  ·have:au (S++[.lst ((ie 1 (n+1)).map .int)]++[.lst []]) (S++[O.lst ((ie 1 (n+1)).map .int)]).length=some []:=aQ
   simpa using this
  ·rw [aX aQ,Option.getD_some,List.length_map,jO]
   omega
 ·rintro τ S1 ⟨ls,fs,rfl,hL,hF,hp,hb,hk⟩
  have hlen:fs.length+ls.length<=20:=by
   have:=hp.length_eq
   rw [List.length_append,jO] at this
   omega
  unfold gR gU
  simp only [bI,bools,hL,List.length_map]
  by_cases h0:ls=[]
  ·subst h0
   left
   exact ⟨S1,rfl,fs,S1,by simp only [bI,bools,hF],by simpa using hp,hb,hk⟩
  ·right
   have hpos:0 < ls.length:=List.length_pos_iff.mpr h0
   refine ⟨S1,by rw [decide_eq_true (show (0:Int) < (ls.length:Int) by omega)],.inl ?_⟩
   obtain ⟨d,S2,e2,d0,d1,hb2,hk2⟩:=digit (m:=(ls.length:Int)) hb (by omega) (by omega)
   have hL2:=hk2.lst S.length _ (by omega) hL
   have hF2:=hk2.lst (S.length+1) _ (by omega) hF
   have hd:d.toNat < ls.length:=by omega
   have lF:=gQ hF2
   have lL:=gQ hL2
   have hsq:seqIndex? d ls.length=some d.toNat:=B0 d0 hd
   have hF3:au (S2.set S.length (.lst ((ls.map A.int).eraseIdx d.toNat))) (S.length+1)=some (fs.map .int):=by rw [dm (by omega)];exact hF2
   simp only [bI,bools,hL,hF,List.length_map,e2,hL2,vC,gJ (show -(2 ^ 63:Int)<=d/\d < 2 ^ 63 by omega),hsq,List.getElem?_map,List.getElem?_eq_getElem hd,Option.map_some,hF3,lg (show fs.length < 16777216 by omega)]
   refine ⟨_,_,rfl,⟨ls.eraseIdx d.toNat,fs++[ls[d.toNat]],rfl,?_,?_,(zL hd).trans hp,?_,?_⟩,?_⟩
   ·rw [dm (by omega),iX lL,nc]
   ·rw [iX (by rw [List.length_set];exact lF),List.map_append];rfl
   ·obtain ⟨g,st,e,q⟩:=hb2
    exact ⟨g,st,by rw [dm (by omega),dm (by omega)];exact e,q⟩
   ·exact ((hk.trans hk2).set (.inr (Nat.le_refl _))).set (.inr (by omega))
   ·rw [dm (by omega),iX lL,Option.getD_some,Option.getD_some,nc,List.length_map,List.length_map,List.length_eraseIdx_of_lt hd];omega
open Po (Pl Ok Bd)
open Su (Es At Vl)
theorem sS {S:az} {b N:Nat} {most size:Int} (h:kM S b) (hN:1<=N) (hN':N<=20) (h0:0<=most) (h1:most<=100) (s0:0<=size) (s1:size<=4) :
  ∃ (n:Nat) (S':az) (es:Es),dw [.ref b,.int N,.int most,.int size] S=.ok (.ref n) S'/\Sm S' n es/\Fi N 4 es/\(∀ e∈es,e.1.Perm (ie 1 ((N:Int)+1)))/\(es.length:Int)<=most/\(∀ e∈es,S.length<=e.2.1)/\S.length<=n/\kM S' b/\Kp (·=b) S S':=by
 have hbS:=h.lt
 have k0:dW S (S++[.dct []]):=Kp.refl.lay
 obtain ⟨c,S1,e1,c0,c1,b1,k1⟩:=digit (S:=S++[.dct []]) (m:=most+1) (h.kp k0 fun z=>z) (by omega) (by omega)
 have d1:bA S1 S.length=some []:=k1.dct _ _ (by omega) Su.lN
 unfold dw mq qt
 simp only [bI,bools,dY,Nat.reduceAdd,Nat.reduceSub,Su.jH]
 refine j6 (lo:=0) (hi:=c) (S1:=S1) (show ni _ _=_ from fX (by simp only [bI,bools,e1]) (kL (by omega) (by omega)))
  (fun i τ T=>∃ (D:Es) (a5 a6 a7:A),τ=[.ref b,.int N,.int most,.int size,.ref S.length,a5,a6,a7]/\bA T S.length=some (D.map Su.kv)/\At T D/\Fi N 4 D/\(∀ e∈D,e.1.Perm (ie 1 ((N:Int)+1))/\S.length<=e.2.1)/\D.length<=i/\kM T b/\Kp (·=b) S T)
  (fun r=>∃ (n:Nat) (S':az) (es:Es),RS.end (RS.seq r _)=.ok (.ref n) S'/\Sm S' n es/\Fi N 4 es/\(∀ e∈es,e.1.Perm (ie 1 ((N:Int)+1)))/\(es.length:Int)<=most/\(∀ e∈es,S.length<=e.2.1)/\S.length<=n/\kM S' b/\Kp (·=b) S S')
  ⟨[],_,_,_,rfl,d1,(fun _ h=>nomatch h),(fun _ h=>nomatch h),(fun _ h=>nomatch h),Nat.le_refl _,b1,k0.of0.trans k1⟩ ?_ ?_
 ·rintro i τ T hi ⟨D,a5,a6,a7,rfl,hd,hA,hF,hP,hl,bT,kT⟩
  left
  obtain ⟨o,T1,e2,po,b2,k2⟩:=CS (n:=(N:Int)) bT (by omega) (by omega)
  obtain ⟨l,L,T2,e3,l1,ok,bd,ll,b3,k3,lL⟩:=uJ (far:=3) b2 s0 (by omega) (by decide) (by decide)
  have nl:newL [] T2=.ok (.ref T2.length) (T2++[.lst []]):=bC (show 0<=16777216 by decide)
  have q1:fL true (.ref L) (.ref T2.length) (T2++[.lst []])=.ok (.bl (!l.isEmpty)) (T2++[.lst []]):=gW (wO (aX l1) aQ)
  have k12:=k2.trans k3
  have kE:dW T2 (T2++[.lst []]):=Kp.refl.lay
  have kTE:Kp (·=b) T (T2++[.lst []]):=k12.trans kE.of0
  have dT:bA (T2++[.lst []]) S.length=some (D.map Su.kv):=kTE.dct _ _ (by omega) hd
  have aT:At (T2++[.lst []]) D:=hA.kp kTE fun e he z=>by have:=(hP e he).2;omega
  have bE:kM (T2++[.lst []]) b:=b3.kp kE fun z=>z
  have tl:=kT.len
  have tl1:=k2.len
  unfold ng
  simp only [bI,bools,e2,e3,nl,q1]
  cases l with
  | nil=>
   simp only [bI,bools,List.isEmpty_nil,Bool.not_true]
   exact ⟨_,_,rfl,D,_,_,_,rfl,dT,aT,hF,hP,by omega,bE,kT.trans kTE⟩
  | cons p l=>
   have hlr:au (T2++[O.lst []]) L=some (Po.pl (p::l)):=aX l1
   have neL:=Su.je dT hlr
   simp only [bI,bools,List.isEmpty_cons,Bool.not_false,Su.sH,Su.pB,dT,lg (show (D.map Su.kv).length < 16777216 by rw [List.length_map];omega),Su.vP (p:=p::l)]
   have kS:Kp (·=S.length) (T2++[O.lst []]) ((T2++[O.lst []]).set S.length (.dct ((Su.iD D o L (p::l)).map Su.kv))):=Kp.refl.tB (.inl rfl)
   refine ⟨_,_,rfl,Su.iD D o L (p::l),_,_,_,rfl,Su.sA (Su.vJ dT),(Su.At.put aT hlr).kp kS fun e he z=>?_,fun e he=>?_,fun e he=>?_,?_,bE.kp kS (by omega),(kT.trans kTE).tB (.inr (Nat.le_refl _))⟩
   ·rcases Su.gO he with y | y
    ·exact Su.je dT (aT e y) z.symm
    ·rw [y] at z;exact neL z.symm
   ·rcases Su.gO he with y | y
    ·exact hF e y
    ·rw [y]
     have:o.length=N:=by have:=po.length_eq;rw [jO] at this;omega
     exact ⟨this,ok,(fun z=>nomatch z),by show (p::l).length<=4;omega,bd⟩
   ·rcases Su.gO he with y | y
    ·exact hP e y
    ·rw [y];exact ⟨po,by show S.length<=L;omega⟩
   ·have:=Su.r9 (D:=D) (o:=o) (r:=L) (p:=p::l)
    omega
 ·rintro τ T ⟨D,a5,a6,a7,rfl,hd,hA,hF,hP,hl,bT,kT⟩
  have hne:∀ e∈D,e.1≠[]:=fun e he z=>by have:=(hF e he).1;rw [z] at this;simp at this;omega
  have n0:=Su.pH hd hne
  obtain ⟨n,S',e,h1,h2,h3,h4⟩:=Su.pR (cap:=[some 4]) (τ:=[.ref b,.int N,.int most,.int size,.ref S.length,a5,a6,a7]) (src:=cH (bB (f1 jQ) (aj (ak 4) (aH)))) (t:=g_) (e:=fm (aj (ak 0) (aj (aJ mw (ak 1) (ak 0)) (aH)))) hd hA (dc (by simp only [bI,bools,n0]) aQ) (fun _=>true)
   (fun o r q T hT hk hr=>⟨T,rfl,Kp.refl⟩)
   (fun o r T hT hk=>by
    simp only [bI,bools,Su.m9,Su.lK,hT,hk]
    exact eG (show 2<=16777216 by decide)) (by omega)
  have tl:=kT.len
  simp only [bI,bools,e]
  refine ⟨n,S',Su.gA D fun _=>true,rfl,⟨h1,h2⟩,fun e he=>hF e (Su.jW he).1,fun e he=>(hP e (Su.jW he).1).1,?_,fun e he=>(hP e (Su.jW he).1).2,by omega,bT.kp h4 fun z=>z,kT.trans h4.of0⟩
  unfold Su.gA
  rw [List.length_map]
  have:=List.length_filter_le (fun o=>(fun _=>true) (Su.vS (Su.sm D) o)) (f_ (D.map Prod.fst))
  rw [(di _).length_eq,List.length_map] at this
  have:((D.length:Nat):Int)<=c:=by omega
  omega
theorem uv {S:az} {n b:Nat} {es:Es} (h:Sm S n es) (hb:∀ e∈es,b<=e.2.1/\e.2.1 < n/\e.2.2.length<=100000) (hn:b<=n) (hl:es.length<=100000):∃ S',cR [.ref n] S=.ok .non S'/\Kp (fun q=>b<=q) S S':=by
 have gt:gd (([A.int 99,.int 1]:List A).length<=sizeLine)=fun r:Am.R A=>r:=by funext r;exact eG (show 2<=16777216 by decide)
 unfold cR jE nj
 simp only [bI,bools,dY,Nat.reduceAdd,Nat.reduceSub]
 refine iP (n:=n) (xs:=es.map Su.ent) (S1:=S) (show kr _ _=_ from dc (by simp only [bI,bools]) h.l)
  (fun i τ T=>(∃ a1 a2:A,τ=[.ref n,a1,a2])/\au T n=some (es.map Su.ent)/\(∀ e∈es,∃ xs,au T e.2.1=some xs/\xs.length<=100000+i)/\Kp (fun q=>b<=q) S T) (fun r=>∃ S',RS.end (RS.seq r _)=.ok .non S'/\Kp (fun q=>b<=q) S S')
  ⟨⟨_,_,rfl⟩,h.l,fun e he=>⟨_,h.a e he,by rw [jx];exact (hb e he).2.2⟩,Kp.refl⟩ (fun i τ T k=>k.2.1) ?_ ?_
 ·rintro i z τ T hz ⟨⟨a1,a2,rfl⟩,hT,hx,kT⟩
  rw [List.getElem?_map] at hz
  obtain ⟨e,he,rfl⟩:=Option.map_eq_some_iff.mp hz
  have hm:=List.mem_of_getElem? he
  have hi:=(List.getElem?_eq_some_iff.mp he).1
  obtain ⟨xs,x1,x2⟩:=hx e hm
  obtain ⟨y1,y2,y3⟩:=hb e hm
  refine ⟨[.ref n,.tup (e.1.map .int),.ref e.2.1],T,rfl,.inl ?_⟩
  unfold ku
  simp only [bI,bools,gt,x1,lg (show xs.length < 16777216 by omega)]
  refine ⟨_,_,rfl,⟨_,_,rfl⟩,by rw [dm (by omega)];exact hT,fun f hf=>?_,kT.set (.inl y1)⟩
  obtain ⟨zs,z1,z2⟩:=hx f hf
  by_cases c:e.2.1=f.2.1
  ·rw [<- c]
   exact ⟨_,iX (gQ x1),by rw [List.length_append];show xs.length+1<=_;omega⟩
  ·exact ⟨zs,by rw [dm c];exact z1,by omega⟩
 ·rintro τ T ⟨⟨a1,a2,rfl⟩,hT,hx,kT⟩
  have n1:newL [.tup [.int 0,.int 1]] T=.ok (.ref T.length) (T++[.lst [.tup [.int 0,.int 1]]]):=bC (show 1<=16777216 by decide)
  have g1:∀ x:A,gd (([x]:List A).length<=sizeLine)=fun r:Am.R A=>r:=fun x=>by funext r;exact eG (show 1<=16777216 by decide)
  have g2:∀ x y:A,gd (([x,y]:List A).length<=sizeLine)=fun r:Am.R A=>r:=fun x y=>by funext r;exact eG (show 2<=16777216 by decide)
  simp only [bI,bools,hT,g1,g2,n1,aX (o:=.lst [.tup [.int 0,.int 1]]) hT,List.length_map,lg (show es.length < 16777216 by omega)]
  exact ⟨_,rfl,(kT.lay).set (.inl hn)⟩
end K26
namespace K26
open PySem L2 Am
theorem Gv {c:Ex} {τ:List A} {S S1:az} {n:Nat} {xs:List A} (h:c τ S=.ok (.ref n) S1) (hl:au S1 n=some xs):qJ c τ S=.ok (b9 n xs.length) S1:=by
 unfold qJ
 rw [h,R.iQ]
 show opt (au S1 n) _=_
 rw [hl,cD]
theorem z0 (S:az):∃ S',iA [.exn (PySem.Str.ofString "NoPair"),.str (PySem.Str.ofString "pair")] S=.ok (.bl true) S'/\dW S S':=by
 obtain ⟨S1,h1⟩:∃ S1,S1=S++[O.lst [.bl false,.bl false,.bl true,.bl false]]:=⟨_,rfl⟩
 obtain ⟨S2,h2⟩:∃ S2,S2=S1++[O.lst [.bl false,.bl false,.bl false,.bl false]]:=⟨_,rfl⟩
 obtain ⟨S3,h3⟩:∃ S3,S3=S2++[O.lst [.bl false,.bl false,.bl true,.bl false,.bl false,.bl false,.bl false,.bl false]]:=⟨_,rfl⟩
 obtain ⟨ns,hns⟩:∃ ns:List Str,ns=[PySem.Str.ofString "word",PySem.Str.ofString "number",PySem.Str.ofString "pair",PySem.Str.ofString "many",PySem.Str.ofString "tables",PySem.Str.ofString "text",PySem.Str.ofString "row",PySem.Str.ofString "name"]:=⟨_,rfl⟩
 obtain ⟨S4,h4⟩:∃ S4,S4=S3++[O.lst (ns.map A.str)]:=⟨_,rfl⟩
 have a1:au S2 S.length=some [.bl false,.bl false,.bl true,.bl false]:=by rw [h2,h1];exact aX aQ
 have a2:au S2 S1.length=some [.bl false,.bl false,.bl false,.bl false]:=by rw [h2];exact aQ
 have ec:=LQ a1 a2 (by decide)
 have a3:au S4 S2.length=some [.bl false,.bl false,.bl true,.bl false,.bl false,.bl false,.bl false,.bl false]:=by rw [h4,h3];exact aX aQ
 have a4:au S4 S3.length=some (ns.map A.str):=by rw [h4];exact aQ
 have hc:=vh (cap:=[some 1]) (src:=qJ (ak 3)) (t:=g_) (e:=aJ (fL false) (ak 0) (ak 1)) (τ:=[.exn (PySem.Str.ofString "NoPair"),.str (PySem.Str.ofString "pair"),.ref S2.length,.ref S3.length]) (Gv (by simp only [bI,bools]) a4) a4 (fun _=>true)
  (fun x=>match x with | .str s=>.bl (s == PySem.Str.ofString "pair") | _=>.non) (fun x _=>rfl) (fun x hx _=>by
   obtain ⟨s,_,rfl⟩:=List.mem_map.mp hx
   simp only [bI,bools];rfl) (by rw [hns];decide)
 have en:((ns.map A.str).filter fun _=>true).map (fun x=>match x with | .str s=>A.bl (s == PySem.Str.ofString "pair") | _=>.non)=[.bl false,.bl false,.bl true,.bl false,.bl false,.bl false,.bl false,.bl false]:=by
  rw [List.filter_eq_self.mpr fun _ _=>rfl,List.map_map,hns]
  show [A.bl (PySem.Str.ofString "word" == PySem.Str.ofString "pair"),A.bl (PySem.Str.ofString "number" == PySem.Str.ofString "pair"),A.bl (PySem.Str.ofString "pair" == PySem.Str.ofString "pair"),A.bl (PySem.Str.ofString "many" == PySem.Str.ofString "pair"),A.bl (PySem.Str.ofString "tables" == PySem.Str.ofString "pair"),A.bl (PySem.Str.ofString "text" == PySem.Str.ofString "pair"),A.bl (PySem.Str.ofString "row" == PySem.Str.ofString "pair"),A.bl (PySem.Str.ofString "name" == PySem.Str.ofString "pair")]=_
  rw [show (PySem.Str.ofString "word" == PySem.Str.ofString "pair")=false by decide +kernel,show (PySem.Str.ofString "number" == PySem.Str.ofString "pair")=false by decide +kernel,show (PySem.Str.ofString "pair" == PySem.Str.ofString "pair")=true by decide +kernel,show (PySem.Str.ofString "many" == PySem.Str.ofString "pair")=false by decide +kernel,show (PySem.Str.ofString "tables" == PySem.Str.ofString "pair")=false by decide +kernel,show (PySem.Str.ofString "text" == PySem.Str.ofString "pair")=false by decide +kernel,show (PySem.Str.ofString "row" == PySem.Str.ofString "pair")=false by decide +kernel,show (PySem.Str.ofString "name" == PySem.Str.ofString "pair")=false by decide +kernel]
 rw [en] at hc
 have ee:=Ba (S:=S4++[O.lst [.bl false,.bl false,.bl true,.bl false,.bl false,.bl false,.bl false,.bl false]]) (a:=.ref S2.length) (b:=.ref S4.length) (k:=true) (by
  show (au _ _).bind _=_
  rw [aX a3,Option.bind_some,aQ,Option.bind_some];rfl)
 have ec:cI (.ref S.length) (.ref S1.length) S2=.ok (.ref S2.length) S3:=by rw [ec,h3];rfl
 have e4:newL [A.str (PySem.Str.ofString "word"),.str (PySem.Str.ofString "number"),.str (PySem.Str.ofString "pair"),.str (PySem.Str.ofString "many"),.str (PySem.Str.ofString "tables"),.str (PySem.Str.ofString "text"),.str (PySem.Str.ofString "row"),.str (PySem.Str.ofString "name")] S3=.ok (.ref S3.length) S4:=by
  rw [vV,h4,hns];rfl
 refine ⟨S4++[O.lst [.bl false,.bl false,.bl true,.bl false,.bl false,.bl false,.bl false,.bl false]],?_,?_⟩
 ·unfold iA oN uH
  simp only [bI,rj,bools,dY,Nat.reduceAdd,Nat.reduceSub,<- h1,<- h2,ec,e4,hc,ee]
 ·rw [h4,h3,h2,h1];exact Kp.refl.lay.lay.lay.lay.lay
open Po (Pl Ok Bd)
open Su (Es At Vl)
theorem wM {S:az} {n m N M:Nat} {es fs:Es} (h:Sm S n es) (h':Sm S m fs) (h1:Fi N 4 es) (h2:Fi M 4 fs) (hNM:N≠M) (hN:N<=1000) (hM:M<=1000) (e0:es≠[]) (f0:fs≠[]):∃ S',cG [.ref n,.ref m] S=.ok (.bl true) S'/\dW S S':=by
 have ex:e8 [.ref n,.ref m] S=.ex "NoPair" S:=by
  cases es with
  | nil=>exact absurd rfl e0
  | cons e es=>cases fs with
   | nil=>exact absurd rfl f0
   | cons f fs=>
    have l1:=(h1 e (List.mem_cons_self ..)).1
    have l2:=(h2 f (List.mem_cons_self ..)).1
    have q:cQ [.tup (e.1.map .int),.tup (f.1.map .int)] S=.ex "NoPair" S:=by
     unfold cQ gM jN
     have:((e.1.length:Int) == (f.1.length:Int))=false:=by simp;omega
     simp only [bI,rj,bools,dY,Nat.reduceAdd,Nat.reduceSub,List.length_map,this,Bool.not_false,Hj (show e.1.length < 18446744073709551616 by omega),Hj (show f.1.length < 18446744073709551616 by omega)]
    have hl:=h.l
    have hl':=h'.l
    rw [List.map_cons] at hl hl'
    have nl:cP [.ref n,.ref m] S=.ex "NoPair" S:=by
     unfold cP gG jz
     simp only [bI,rj,bools,dY,Nat.reduceAdd,Nat.reduceSub,rm hl,rm hl',List.isEmpty_cons,Bool.not_false,hl,hl',rz,Su.ent,q]
    unfold e8 nZ rY
    simp only [bI,rj,bools,dY,Nat.reduceAdd,Nat.reduceSub,nl]
 obtain ⟨S',e1,k1⟩:=z0 S
 refine ⟨S',?_,k1⟩
 unfold cG gY kj
 simp only [bI,rj,bools,dY,Nat.reduceAdd,Nat.reduceSub,ex,e1]
end K26
namespace K26
open PySem L2 Am
open Po (Pl Ok Bd)
open Su (Es At Vl)
theorem Fi.of {N k:Nat} {es fs:Es} (h:Fi N k es) (e:Su.sm fs=Su.sm es):Fi N k fs:=fun f hf=>by
 have:(f.1,f.2.2)∈Su.sm es:=by rw [<- e];exact List.mem_map.mpr ⟨f,hf,rfl⟩
 obtain ⟨x,hx,ex⟩:=List.mem_map.mp this
 obtain ⟨e1,e2⟩:=Prod.mk.inj ex
 obtain ⟨a1,a2,a3,a4,a5⟩:=h x hx
 rw [<- e1,<- e2]
 exact ⟨a1,a2,a3,a4,a5⟩
theorem fq {es fs:Es} (e:Su.sm fs=Su.sm es):fs.length=es.length:=by have:=congrArg List.length e;rwa [Su.fq,Su.fq] at this
theorem G4 {S:az} {n m N:Nat} {es fs:Es} (h:Sm S n es) (h':Sm S m fs) (h1:Fi N 4 es) (h2:Fi N 4 fs) (hN:1<=N) (hl:es.length+fs.length<=1000):∃ S',bL [.ref n,.ref m] S=.ok (.bl true) S'/\dW S S':=by
 have hle:(es++fs).length=es.length+fs.length:=List.length_append ..
 have n1:au (S++[.dct []]) n=some (es.map Su.ent):=aX h.l
 have n2:au (S++[.dct []]) m=some (fs.map Su.ent):=aX h'.l
 have ad:cI (.ref n) (.ref m) (S++[.dct []])=.ok (.ref (S++[O.dct []]).length) (S++[.dct []]++[.lst ((es++fs).map Su.ent)]):=by
  show opt (au (S++[.dct []]) n) _=_
  rw [n1,cD,n2,cD,List.map_append]
  exact eG (show (es.map Su.ent).length+(fs.map Su.ent).length<=16777216 by rw [List.length_map,List.length_map];omega)
 have k0:dW S (S++[.dct []]++[.lst ((es++fs).map Su.ent)]):=Kp.refl.lay.lay
 have hj:∀ e∈es++fs,e.2.2.length<=4/\e.1≠[]:=fun e he=>by
  have:e.1.length=N/\e.2.2.length<=4:=(List.mem_append.mp he).elim (fun z=>⟨(h1 e z).1,(h1 e z).2.2.2.1⟩) fun z=>⟨(h2 e z).1,(h2 e z).2.2.2.1⟩
  exact ⟨this.2,fun z=>by rw [z] at this;have:=this.1;simp at this;omega⟩
 obtain ⟨y3,y4,D,T,e1,f,kp⟩:=Su.xZ qU (j:=4) (b:=S.length) (i0:=0) (S:=S++[.dct []]) (S1:=S++[.dct []]++[.lst ((es++fs).map Su.ent)]) (d:=S.length) (x0:=.ref n) (x1:=.ref m) (x3:=.unb) (x4:=.unb) (xs:=[.unb,.unb,.unb,.unb,.unb]) (src:=cJ) (es:=es++fs)
  (show cJ _ _=_ from dc (by simp only [bI,bools,ad]) aQ) aQ ((h.a.app h'.a).vq k0) (Su.Fil.new (Su.nM Su.lN)) k0.len hj (by omega) (by omega)
 have kT:dW S T:=k0.old kp fun q hq _ z=>by omega
 have fl:=f.ll
 obtain ⟨L,S2,e2,r1,r2,r3,r4⟩:=wZ f.dd f.aa f.kk (by omega)
 have due:Sm S2 L (Su.gA D fun p=>!p.isEmpty):=⟨r1,r2⟩
 have dueS:Su.sm (Su.gA D fun p=>!p.isEmpty)=Su.toS (Su.adds [] (Su.sm (es++fs))):=by rw [Su.nV,f.ss]
 have k2:=kT.trans r4
 obtain ⟨c1,S3,es',e3,s3,q3,_,_,k3⟩:=sN (h.kp k2) (by omega)
 obtain ⟨c2,S4,fs',e4,s4,q4,_,_,k4⟩:=sN ((h'.kp k2).kp k3) (by omega)
 have k24:=k3.trans k4
 unfold bL eN gH
 simp only [bI,rj,bools,dY,Nat.reduceAdd,Nat.reduceSub,Su.jH]
 rw [show cE cJ _ fH _ _=_ from e1]
 simp only [bI,rj,bools,e2,e3,e4]
 refine j6 (lo:=0) (hi:=2) (S1:=S4) (show fG _ _=_ from fX (by simp only [bI,bools]) (kL (by decide) (by decide)))
  (fun i τ U=>(∃ a8 a9:A,τ=[.ref n,.ref m,.ref S.length,y3,y4,.ref L,.ref c1,.ref c2,a8,a9])/\dW S4 U)
  (fun r=>∃ S',RS.end (RS.seq r _)=.ok (.bl true) S'/\dW S S') ⟨⟨_,_,rfl⟩,Kp.refl⟩ ?_ ?_
 ·rintro i τ U hi ⟨⟨a8,a9,rfl⟩,kU⟩
  left
  have u1:=(s3.kp k4).kp kU
  have u2:=s4.kp kU
  obtain ⟨R,U1,rs,e5,s5,q5,v5,g5,k5⟩:=BN u1 u2 (h1.of q3) (h2.of q4) hN (by rw [fq q3,fq q4];exact hl)
  have q5':Su.sm rs=Su.toS (Su.adds [] (Su.sm (es++fs))):=by rw [q5,Su.wI,Su.wI,q3,q4]
  obtain ⟨U2,e6,k6⟩:=tZ s5 fun e he=>⟨(v5 e he).1,(v5 e he).2.1,by have:=(v5 e he).2.2.1;omega⟩
  have kk:=(kU.trans k5).trans k6
  have kt:=k24.trans kk
  have w1:fL true (.ref R) (.ref L) U2=.ok (.bl false) U2:=gW (ow (s5.kp k6) (due.kp kt) (q5'.trans dueS.symm))
  have w2:fL true (.ref c1) (.ref n) U2=.ok (.bl false) U2:=gW (ow ((u1.kp k5).kp k6) ((h.kp k2).kp kt) q3)
  have w3:fL true (.ref c2) (.ref m) U2=.ok (.bl false) U2:=gW (ow ((u2.kp k5).kp k6) ((h'.kp k2).kp kt) q4)
  have rl:rs.length<=1000:=by
   have:=congrArg List.length (q5'.trans dueS.symm)
   rw [Su.fq,Su.fq] at this
   rw [this]
   unfold Su.gA
   rw [List.length_map]
   refine Nat.le_trans (List.length_filter_le _ _) ?_
   rw [(di _).length_eq,List.length_map];omega
  obtain ⟨U3,e7,k7⟩:=uv (b:=U.length) (s5.kp k6) (fun e he=>⟨(v5 e he).2.2.2.1,(v5 e he).2.2.2.2,by have:=(v5 e he).2.2.1;omega⟩) g5 (by omega)
  unfold fF
  simp only [bI,rj,bools,e5,e6,Bool.not_true,w1,w2,w3,e7]
  exact ⟨_,_,rfl,⟨_,_,rfl⟩,kk.old k7 fun q hq _ z=>by have:=kU.len;omega⟩
 ·rintro τ U ⟨⟨a8,a9,rfl⟩,kU⟩
  simp only [bI,bools]
  exact ⟨_,rfl,(k2.trans k24).trans kU⟩
theorem GX {S:az} {n m N:Nat} {es:Es} {q:Pl} (h:Sm S n es) (hq:au S m=some (Po.pl q)) (h1:Fi N 4 es) (hN:1<=N) (hl:es.length<=1000) (ql:q.length<=4) (qb:Bd (10 ^ 31) q):∃ S',bH [.ref m,.ref n] S=.ok (.bl true) S'/\dW S S':=by
 have k0:dW S (S++[.dct []]):=Kp.refl.lay
 have bg:∀ l:Pl,Bd (10 ^ 31) l->∀ p∈l,p.2.natAbs < big:=fun l b p hp=>by
  rw [sU]
  exact Nat.lt_of_le_of_lt (b p hp) (by decide +kernel)
 have hj:∀ e∈es,q.length * e.2.2.length<=16/\e.1≠[]/\∀ p∈e.2.2,p.2.natAbs < big:=fun e he=>by
  obtain ⟨a1,a2,a3,a4,a5⟩:=h1 e he
  exact ⟨Nat.mul_le_mul ql a4,fun z=>by rw [z] at a1;simp at a1;omega,bg _ a5⟩
 obtain ⟨y3,y4,D,T,e1,f,kp⟩:=Su.uP qU uW (j:=16) (b:=S.length) (i0:=0) (S:=S++[.dct []]) (S1:=S++[.dct []]) (d:=S.length) (x1:=.ref n) (x3:=.unb) (x4:=.unb) (xs:=[.unb,.unb,.unb,.unb,.unb]) (src:=cB) (es:=es) (m:=m)
  (show cB _ _=_ from dc (by simp only [bI,bools]) (aX h.l)) (aX h.l) (h.a.vq k0) (aX hq) (Su.Fil.new Su.lN) k0.len hj (bg _ qb) (by omega) (by omega)
 have kT:dW S T:=k0.old kp fun q hq _ z=>by omega
 have fl:=f.ll
 obtain ⟨L,S2,e2,r1,r2,r3,r4⟩:=wZ f.dd f.aa f.kk (by omega)
 have due:Sm S2 L (Su.gA D fun p=>!p.isEmpty):=⟨r1,r2⟩
 have dueS:Su.sm (Su.gA D fun p=>!p.isEmpty)=Su.toS (Su.adds [] ((Su.sm es).map fun e=>(e.1,Po.times q e.2))):=by rw [Su.nV,f.ss]
 have k2:=kT.trans r4
 have m2:=k2.lst _ _ (fun z=>z) hq
 obtain ⟨S3,hS3⟩:∃ S3,S3=S2++[O.lst (Po.pl q)]:=⟨_,rfl⟩
 have k3:dW S2 S3:=by rw [hS3];exact Kp.refl.lay
 have c3:au S3 S2.length=some (Po.pl q):=by rw [hS3];exact aQ
 obtain ⟨c2,S4,es',e4,s4,q4,_,_,k4⟩:=sN ((h.kp k2).kp k3) (by omega)
 have k24:=k3.trans k4
 unfold bH dS gc
 simp only [bI,rj,bools,dY,Nat.reduceAdd,Nat.reduceSub,Su.jH]
 rw [show cE cB _ e9 _ _=_ from e1]
 simp only [bI,rj,bools,e2,m2,<- hS3,e4]
 refine j6 (lo:=0) (hi:=2) (S1:=S4) (show fh _ _=_ from fX (by simp only [bI,bools]) (kL (by decide) (by decide)))
  (fun i τ U=>(∃ a8 a9:A,τ=[.ref m,.ref n,.ref S.length,y3,y4,.ref L,.ref S2.length,.ref c2,a8,a9])/\dW S4 U)
  (fun r=>∃ S',RS.end (RS.seq r _)=.ok (.bl true) S'/\dW S S') ⟨⟨_,_,rfl⟩,Kp.refl⟩ ?_ ?_
 ·rintro i τ U hi ⟨⟨a8,a9,rfl⟩,kU⟩
  left
  have u2:=s4.kp kU
  have u1:=kU.lst _ _ (fun z=>z) (k4.lst _ _ (fun z=>z) c3)
  obtain ⟨R,U1,rs,e5,s5,q5,v5,g5,k5⟩:=Ak u2 u1 (h1.of q4) hN (by rw [fq q4];exact hl) ql qb
  have q5':Su.sm rs=Su.toS (Su.adds [] ((Su.sm es).map fun e=>(e.1,Po.times q e.2))):=by rw [q5,q4]
  obtain ⟨U2,e6,k6⟩:=tZ s5 fun e he=>⟨(v5 e he).1,(v5 e he).2.1,by have:=(v5 e he).2.2.1;omega⟩
  have kk:=(kU.trans k5).trans k6
  have kt:=k24.trans kk
  have w1:fL true (.ref R) (.ref L) U2=.ok (.bl false) U2:=gW (ow (s5.kp k6) (due.kp kt) (q5'.trans dueS.symm))
  have w2:fL true (.ref S2.length) (.ref m) U2=.ok (.bl false) U2:=gW (KN ((k5.trans k6).lst _ _ (fun z=>z) u1) (kt.lst _ _ (fun z=>z) m2))
  have w3:fL true (.ref c2) (.ref n) U2=.ok (.bl false) U2:=gW (ow ((u2.kp k5).kp k6) ((h.kp k2).kp kt) q4)
  have rl:rs.length<=1000:=by
   have:=congrArg List.length (q5'.trans dueS.symm)
   rw [Su.fq,Su.fq] at this
   rw [this]
   unfold Su.gA
   rw [List.length_map]
   refine Nat.le_trans (List.length_filter_le _ _) ?_
   rw [(di _).length_eq,List.length_map];omega
  obtain ⟨U3,e7,k7⟩:=uv (b:=U.length) (s5.kp k6) (fun e he=>⟨(v5 e he).2.2.2.1,(v5 e he).2.2.2.2,by have:=(v5 e he).2.2.1;omega⟩) g5 (by omega)
  unfold fj
  simp only [bI,rj,bools,e5,e6,Bool.not_true,w1,w2,w3,e7]
  exact ⟨_,_,rfl,⟨_,_,rfl⟩,kk.old k7 fun q hq _ z=>by have:=kU.len;omega⟩
 ·rintro τ U ⟨⟨a8,a9,rfl⟩,kU⟩
  simp only [bI,bools]
  exact ⟨_,rfl,(k2.trans k24).trans kU⟩
end K26
namespace K26
open PySem L2 Am
open Po (Pl Ok Bd)
open Su (Es At Vl)
noncomputable def p6 (l:Pl):Pl:=l.map fun p=>(p.1,-p.2)
theorem GI {l:Pl} (h:Ok l):Ok (p6 l):=by
 refine ⟨?_,fun p hp=>?_⟩
 ·unfold p6;rw [List.pairwise_map];exact h.up
 ·obtain ⟨q,hq,rfl⟩:=List.mem_map.mp hp
  have:=h.nz q hq
  show -q.2≠0
  omega
theorem Gg {S:az} {n:Nat} {es:Es} {x0 x1 x2 x3 x4 x6 x7:A} (h:Sm S n es) (hl:es.length<=1000) (hl2:∀ e∈es,e.2.2.length<=1000):∃ (m:Nat) (S':az) (fs:Es),bQ [none,none] (cH (ak 5)) (qa 2 (iL (bK 0) (iL (bK 1) (pY)))) (g_) (fm (aj (ak 0) (aj (bQ [none,none] (cH (ak 1)) (qa 2 (iL (bK 0) (iL (bK 1) (pY)))) (g_) (fm (aj (ak 0) (aj (aJ aSub (eC (.int 0)) (ak 1)) (aH))))) (aH)))) [x0,x1,x2,x3,x4,.ref n,x6,x7] S=.ok (.ref m) S'/\Sm S' m fs/\Su.sm fs=es.map (fun e=>(e.1,p6 e.2.2))/\(∀ e∈fs,S.length<=e.2.1)/\S.length<=m/\dW S S':=by
 obtain ⟨m,S',fs,e,h1,h2,h3,h4,h5,h6⟩:=Su.vd (es:=es) (n:=n) (cap:=[]) (src:=cH (ak 5)) (ex:=fm (aj (ak 0) (aj (bQ [none,none] (cH (ak 1)) Ke (g_) (fm (aj (ak 0) (aj (aJ aSub (eC (.int 0)) (ak 1)) (aH))))) (aH)))) (τ:=[x0,x1,x2,x3,x4,.ref n,x6,x7]) (S:=S) (dc (by simp only [bI,bools]) h.l) h.l p6
  (fun e he T kT=>by
   have hr:=(h.a.vq kT) e he
   have cc:=BS (l:=e.2.2) (n:=e.2.1) (cap:=[]) (src:=cH (ak 1)) (e:=fm (aj (ak 0) (aj (aJ aSub (eC (.int 0)) (ak 1)) (aH)))) (τ:=[.tup (e.1.map .int),.ref e.2.1]) (S:=T) (S1:=T) (dc (by simp only [bI,bools]) hr) hr (fun p=>Po.pA (p.1,-p.2)) (fun p=>by
    simp only [bI,bools,Int.zero_sub]
    exact eG (show 2<=16777216 by decide)) (by have:=hl2 e he;omega)
   have et:e.2.2.map (fun p=>Po.pA (p.1,-p.2))=Po.pl (p6 e.2.2):=by
    unfold Po.pl p6
    rw [List.map_map];rfl
   rw [et] at cc
   refine ⟨T.length,T++[.lst (Po.pl (p6 e.2.2))],?_,aQ,Nat.le_refl _,Kp.refl.lay⟩
   have g2:∀ x y:A,gd (([x,y]:List A).length<=sizeLine)=fun r:Am.R A=>r:=fun x y=>by funext r;exact eG (show 2<=16777216 by decide)
   simp only [bI,bools,cc,g2]) (by omega)
 exact ⟨m,S',fs,e,⟨h1,h2⟩,h3,fun e he=>(h4 e he).1,h5,h6⟩
theorem Fi.neg {N k:Nat} {es fs:Es} (h:Fi N k es) (e:Su.sm fs=es.map (fun e=>(e.1,p6 e.2.2))):Fi N k fs:=fun f hf=>by
 have:(f.1,f.2.2)∈es.map (fun e=>(e.1,p6 e.2.2)):=by rw [<- e];exact List.mem_map.mpr ⟨f,hf,rfl⟩
 obtain ⟨x,hx,ex⟩:=List.mem_map.mp this
 obtain ⟨e1,e2⟩:=Prod.mk.inj ex
 obtain ⟨a1,a2,a3,a4,a5⟩:=h x hx
 rw [<- e1,<- e2]
 refine ⟨a1,GI a2,fun z=>a3 (List.map_eq_nil_iff.mp z),by unfold p6;rw [List.length_map];exact a4,fun p hp=>?_⟩
 obtain ⟨q,hq,rfl⟩:=List.mem_map.mp hp
 show (-q.2).natAbs<=_
 rw [Int.natAbs_neg];exact a5 q hq
theorem Sm.LA {S S':az} {n b k:Nat} {es:Es} (h:Sm S n es) (kp:Kp (·=b) S S') (hn:k<=n) (he:∀ e∈es,k<=e.2.1) (hb:b < k):Sm S' n es:=⟨kp.lst _ _ (by omega) h.l,h.a.kp kp fun e h z=>by have:=he e h;omega⟩
theorem Ji (ns:List Int) (hl:ns.length<=63):∃ S',rA [.frz (ns.map .int)] []=.ok (.bl true) S':=by
 unfold rA Dn G5
 simp only [bI,bools,dY,Nat.reduceAdd,Nat.reduceSub]
 refine j6 (lo:=0) (hi:=if (if 6 < (ns.length:Int) then 6 else (ns.length:Int)) > 2 then (if 6 < (ns.length:Int) then 6 else (ns.length:Int)) else 2) (S1:=[]) (show w_ _ _=_ from fX (by simp only [bI,bools,List.length_map]) (kL (by split <;> split <;> omega) (by split <;> split <;> omega)))
  (fun _ τ _=>∃ a1 a2 a3 a4 a5 a6 a7:A,τ=[.frz (ns.map .int),a1,a2,a3,a4,a5,a6,a7]) (fun r=>∃ S',RS.end (RS.seq r _)=.ok (.bl true) S') ⟨_,_,_,_,_,_,_,rfl⟩ ?_ ?_
 ·rintro i τ S hi ⟨a1,a2,a3,a4,a5,a6,a7,rfl⟩
  left
  have hi6:(i:Int) < 6:=by split at hi <;> split at hi <;> omega
  obtain ⟨S1,e1,b1,kp1⟩:=Ft (S:=S) (ns:=ns) (k:=0+(i:Int)) (by omega) (by omega)
  obtain ⟨d,S2,e2,d0,d1,b2,kp2⟩:=digit (S:=S1) (m:=4) b1 (by decide) (by decide)
  obtain ⟨N,hN⟩:∃ N:Nat,(N:Int)=2+d:=⟨(2+d).toNat,by omega⟩
  have n0:newL [.int 6,.int 40] S2=.ok (.ref S2.length) (S2++[.lst [.int 6,.int 40]]):=bC (show 2<=16777216 by decide)
  obtain ⟨c,S3,e3,c0,c1,b3,kp3⟩:=digit (S:=S2++[.lst [.int 6,.int 40]]) (m:=8) (b2.kp (c:=fun _=>False) Kp.refl.lay fun z=>z) (by decide) (by decide)
  have lb2:=b2.lt
  have hL:au S3 S2.length=some [.int 6,.int 40]:=kp3.lst _ _ (by omega) aQ
  obtain ⟨most,hmost,m0,m1⟩:∃ most:Int,kG ([.int 6,.int 40]:List A) (if (c == 5)=true then 1 else 0)=some (.int most)/\0<=most/\most<=40:=by
   cases c == 5
   ·exact ⟨6,rfl,by decide,by decide⟩
   ·exact ⟨40,rfl,by decide,by decide⟩
  have lb3:=b3.lt
  obtain ⟨n,S4,es,e4,s4,f4,p4,l4,r4,n4,b4,k4⟩:=sS (N:=N) (size:=3) b3 (by omega) (by omega) m0 (by omega) (by decide) (by decide)
  have lb4:=b4.lt
  obtain ⟨m,S5,fs,e5,s5,f5,p5,l5,r5,n5,b5,k5⟩:=sS (N:=N) (size:=3) b4 (by omega) (by omega) m0 (by omega) (by decide) (by decide)
  have lb5:=b5.lt
  obtain ⟨g,S6,e6,g0,g1,b6,k6⟩:=digit (S:=S5) (m:=4) b5 (by decide) (by decide)
  have t6:Sm S6 n es:=(s4.LA k5 n4 r4 (by omega)).LA k6 n4 r4 (by omega)
  have u6:Sm S6 m fs:=s5.LA k6 n5 r5 (by omega)
  obtain ⟨M,hM⟩:∃ M:Nat,(M:Int)=2+((N:Int) - 1) % 4:=⟨(2+((N:Int) - 1) % 4).toNat,by omega⟩
  have hNM:N≠M:=by omega
  have tail:∀ (m:Nat) (fs:Es) (T:az),Sm T n es->Sm T m fs->Fi N 4 fs->fs.length<=40->kM T S.length ->
    ∃ τ' S',RS.seq (.nx [.frz (ns.map .int),.int (0+(i:Int)),.ref S.length,.int N,.int most,.ref n,.ref m,a7] T) (a_ (nK (tD (jS (gC (eFn bL (aj (ak 5) (aj (ak 6) (aH)))))) (jS (gC (eFn bH (aj (eFn cS (aj (ak 2) (aj (eC (.int 4)) (aj (eC (.int 3)) (aH))))) (aj (ak 5) (aH)))))))
 (cF (eC (.bl false)))
 (fO))
 (a_ (bD (eFn dw (aj (ak 2) (aj (aJ cI (eC (.int 2)) (aJ nF (aJ aSub (ak 3) (eC (.int 1))) (eC (.int 4)))) (aj (eC (.int 3)) (aj (eC (.int 3)) (aH)))))) (bK 7))
 (nK (rO (kh (aJ (fL true) (ak 5) (fJ (aH)))) (rO (kh (aJ (fL true) (ak 7) (fJ (aH)))) (jS (gC (eFn cG (aj (ak 5) (aj (ak 7) (aH))))))))
 (cF (eC (.bl false)))
 (fO))))=.nx τ' S'/\∃ a1 a2 a3 a4 a5 a6 a7:A,τ'=[.frz (ns.map .int),a1,a2,a3,a4,a5,a6,a7]:=by
   intro m fs T t u ff fl bT
   have ltT:=bT.lt
   obtain ⟨T1,x1,k1⟩:=G4 t u f4 ff (by omega) (by omega)
   have bT1:=bT.kp k1 fun z=>z
   obtain ⟨q,Q,T2,x2,q1,_,qb,ql,b2,k2,_⟩:=uJ (far:=3) (most:=4) bT1 (by decide) (by decide) (by decide) (by decide)
   have t2:=(t.kp k1).LA k2 n4 r4 (by omega)
   obtain ⟨T3,x3,k3⟩:=GX t2 q1 f4 (by omega) (by omega) (by omega) qb
   have b3:=b2.kp k3 fun z=>z
   have lt3:=b3.lt
   obtain ⟨w,T4,gs,x4,s4',f4',p4',l4',r4',n4',b4',k4'⟩:=sS (N:=M) (size:=3) (most:=3) b3 (by omega) (by omega) (by decide) (by decide) (by decide) (by decide)
   have t4:=(t2.kp k3).LA k4' n4 r4 (by omega)
   have md:∀ x:Int,nF (.int x) (.int 4)=fun S=>R.ok (.int (x % 4)) S:=fun x=>by funext S;exact qL (by decide)
   have nl:∀ T:az,newL [] T=.ok (.ref T.length) (T++[.lst []]):=fun T=>bC (show 0<=16777216 by decide)
   have q1':fL true (.ref n) (.ref T4.length) (T4++[.lst []])=.ok (.bl (!(es.map Su.ent).isEmpty)) (T4++[.lst []]):=gW (eq_nil (aX t4.l) aQ)
   simp only [bI,bools,x1,x2,x3,Bool.not_true,md,<- hM,x4,nl,q1']
   by_cases c1:es=[]
   ·subst c1
    simp only [bI,bools,List.map_nil,List.isEmpty_nil,Bool.not_true]
    exact ⟨_,_,rfl,_,_,_,_,_,_,_,rfl⟩
   ·have z1:(es.map Su.ent).isEmpty=false:=by cases es with | nil=>exact absurd rfl c1 | cons=>rfl
    have kE:dW T4 (T4++[.lst []]++[.lst []]):=Kp.refl.lay.lay
    have q2':fL true (.ref w) (.ref (T4++[O.lst []]).length) (T4++[.lst []]++[.lst []])=.ok (.bl (!(gs.map Su.ent).isEmpty)) (T4++[.lst []]++[.lst []]):=gW (eq_nil (aX (aX s4'.l)) aQ)
    by_cases c2:gs=[]
    ·subst c2
     simp only [bI,bools,z1,Bool.not_false,q2',List.map_nil,List.isEmpty_nil,Bool.not_true]
     exact ⟨_,_,rfl,_,_,_,_,_,_,_,rfl⟩
    ·have z2:(gs.map Su.ent).isEmpty=false:=by cases gs with | nil=>exact absurd rfl c2 | cons=>rfl
     obtain ⟨T5,x5,_⟩:=wM (t4.kp kE) (s4'.kp kE) f4 f4' hNM (by omega) (by omega) c1 c2
     simp only [bI,bools,z1,Bool.not_false,q2',z2,x5,Bool.not_true]
     exact ⟨_,_,rfl,_,_,_,_,_,_,_,rfl⟩
  unfold yr
  simp only [bI,bools,e1,e2,<- hN,n0,e3,hL,hmost,e4,e5,e6]
  by_cases hg:g=1
  ·subst hg
   obtain ⟨m',S7,gs,e7,s7,q7,r7,n7,k7⟩:=Gg (x0:=.frz (ns.map .int)) (x1:=.int (0+(i:Int))) (x2:=.ref S.length) (x3:=.int N) (x4:=.int most) (x6:=.ref m) (x7:=a7) t6 (by omega) (fun e he=>by have:=(f4 e he).2.2.2.1;omega)
   have gl:gs.length=es.length:=by have:=congrArg List.length q7;rwa [Su.fq,List.length_map] at this
   have:=tail m' gs S7 (t6.kp k7) s7 (f4.neg q7) (by omega) (b6.kp k7 fun z=>z)
   simp only [bI,bools,show ((1:Int) == 1)=true from rfl,e7] at this ⊢
   exact this
  ·have hg':(g == 1)=false:=by simpa using hg
   have:=tail m fs S6 t6 u6 f5 (by omega) b6
   simp only [bI,bools,hg'] at this ⊢
   exact this
 ·rintro τ S ⟨a1,a2,a3,a4,a5,a6,a7,rfl⟩
  simp only [bI,bools]
  exact ⟨_,rfl⟩
end K26
namespace K26
open PySem L2 Am
theorem all_mk {l:PySem.W.OpenLaw} {w:World} {K:PySem.W.Frag} {h:Heap} {mg:Str->Option Value} {fa f1 f2 f3 f4 f5 f6 f7 f8 f9 f10 f11 f12 f13 f14 f15 f16 f17 f18 f19 f20 f21 f22 f23 f24 f25 f26 f27 f28 f29:Addr} (X:K.In h) (G:h.Ns mainGlobals mg) (hfa:mg "law" = some (.ref fa))
  {od1 an1 od2 an2 od3 an3 od4 an4 od5 an5 od6 an6 od7 an7 od8 an8 od9 an9 od10 an10 od11 an11 od12 an12 od13 an13 od14 an14 od15 an15 od16 an16 od17 an17 od18 an18 od19 an19 od20 an20 od21 an21 od22 an22 od23 an23 od24 an24 od25 an25 od26 an26 od27 an27 od28 an28 od29 an29:Option Addr} {sl1 sl2 sl3 sl4 sl5 sl6 sl7 sl8 sl9 sl10 sl11 sl12 sl13 sl14 sl15 sl16 sl17 sl18 sl19 sl20 sl21 sl22 sl23 sl24 sl25 sl26 sl27 sl28 sl29:Array (Option Value)} {oc1 kV1 dc1 pm1 cd1 ct1 oc2 kV2 dc2 pm2 cd2 ct2 oc3 kV3 dc3 pm3 cd3 ct3 oc4 kV4 dc4 pm4 cd4 ct4 oc5 kV5 dc5 pm5 cd5 ct5 oc6 kV6 dc6 pm6 cd6 ct6 oc7 kV7 dc7 pm7 cd7 ct7 oc8 kV8 dc8 pm8 cd8 ct8 oc9 kV9 dc9 pm9 cd9 ct9 oc10 kV10 dc10 pm10 cd10 ct10 oc11 kV11 dc11 pm11 cd11 ct11 oc12 kV12 dc12 pm12 cd12 ct12 oc13 kV13 dc13 pm13 cd13 ct13 oc14 kV14 dc14 pm14 cd14 ct14 oc15 kV15 dc15 pm15 cd15 ct15 oc16 kV16 dc16 pm16 cd16 ct16 oc17 kV17 dc17 pm17 cd17 ct17 oc18 kV18 dc18 pm18 cd18 ct18 oc19 kV19 dc19 pm19 cd19 ct19 oc20 kV20 dc20 pm20 cd20 ct20 oc21 kV21 dc21 pm21 cd21 ct21 oc22 kV22 dc22 pm22 cd22 ct22 oc23 kV23 dc23 pm23 cd23 ct23 oc24 kV24 dc24 pm24 cd24 ct24 oc25 kV25 dc25 pm25 cd25 ct25 oc26 kV26 dc26 pm26 cd26 ct26 oc27 kV27 dc27 pm27 cd27 ct27 oc28 kV28 dc28 pm28 cd28 ct28 oc29 kV29 dc29 pm29 cd29 ct29:Value}
  (a1:PySem.W.nsIn K mainGlobals "need_pair" = some (some (.ref f1))) (l1:K.lookup f1=some ⟨oc1,od1,.func (PySem.W.fnOf "need_pair" "need_pair" (aW eg) (aR eg) (aC eg) .none kV1 dc1 pm1 an1 cd1 ct1),sl1⟩) (c1:PySem.W.codeIn K cd1 "need_pair" = true) (k1:PySem.W.keepIn K (.ref f1)=true)
  (a2:PySem.W.nsIn K mainGlobals "as_polynomial" = some (some (.ref f2))) (l2:K.lookup f2=some ⟨oc2,od2,.func (PySem.W.fnOf "as_polynomial" "as_polynomial" (aW cj) (aR cj) (aC cj) .none kV2 dc2 pm2 an2 cd2 ct2),sl2⟩) (c2:PySem.W.codeIn K cd2 "as_polynomial" = true) (k2:PySem.W.keepIn K (.ref f2)=true)
  (a3:PySem.W.nsIn K mainGlobals "plus" = some (some (.ref f3))) (l3:K.lookup f3=some ⟨oc3,od3,.func (PySem.W.fnOf "plus" "plus" (aW mZ) (aR mZ) (aC mZ) .none kV3 dc3 pm3 an3 cd3 ct3),sl3⟩) (c3:PySem.W.codeIn K cd3 "plus" = true) (k3:PySem.W.keepIn K (.ref f3)=true)
  (a4:PySem.W.nsIn K mainGlobals "times" = some (some (.ref f4))) (l4:K.lookup f4=some ⟨oc4,od4,.func (PySem.W.fnOf "times" "times" (aW jX) (aR jX) (aC jX) .none kV4 dc4 pm4 an4 cd4 ct4),sl4⟩) (c4:PySem.W.codeIn K cd4 "times" = true) (k4:PySem.W.keepIn K (.ref f4)=true)
  (a5:PySem.W.nsIn K mainGlobals "put_before" = some (some (.ref f5))) (l5:K.lookup f5=some ⟨oc5,od5,.func (PySem.W.fnOf "put_before" "put_before" (aW dB) (aR dB) (aC dB) .none kV5 dc5 pm5 an5 cd5 ct5),sl5⟩) (c5:PySem.W.codeIn K cd5 "put_before" = true) (k5:PySem.W.keepIn K (.ref f5)=true)
  (a6:PySem.W.nsIn K mainGlobals "as_sum" = some (some (.ref f6))) (l6:K.lookup f6=some ⟨oc6,od6,.func (PySem.W.fnOf "as_sum" "as_sum" (aW iB) (aR iB) (aC iB) .none kV6 dc6 pm6 an6 cd6 ct6),sl6⟩) (c6:PySem.W.codeIn K cd6 "as_sum" = true) (k6:PySem.W.keepIn K (.ref f6)=true)
  (a7:PySem.W.nsIn K mainGlobals "need_like" = some (some (.ref f7))) (l7:K.lookup f7=some ⟨oc7,od7,.func (PySem.W.fnOf "need_like" "need_like" (aW d7) (aR d7) (aC d7) .none kV7 dc7 pm7 an7 cd7 ct7),sl7⟩) (c7:PySem.W.codeIn K cd7 "need_like" = true) (k7:PySem.W.keepIn K (.ref f7)=true)
  (a8:PySem.W.nsIn K mainGlobals "added" = some (some (.ref f8))) (l8:K.lookup f8=some ⟨oc8,od8,.func (PySem.W.fnOf "added" "added" (aW jV) (aR jV) (aC jV) .none kV8 dc8 pm8 an8 cd8 ct8),sl8⟩) (c8:PySem.W.codeIn K cd8 "added" = true) (k8:PySem.W.keepIn K (.ref f8)=true)
  (a9:PySem.W.nsIn K mainGlobals "scaled" = some (some (.ref f9))) (l9:K.lookup f9=some ⟨oc9,od9,.func (PySem.W.fnOf "scaled" "scaled" (aW iH) (aR iH) (aC iH) .none kV9 dc9 pm9 an9 cd9 ct9),sl9⟩) (c9:PySem.W.codeIn K cd9 "scaled" = true) (k9:PySem.W.keepIn K (.ref f9)=true)
  (a10:PySem.W.nsIn K mainGlobals "_law_bag" = some (some (.ref f10))) (l10:K.lookup f10=some ⟨oc10,od10,.func (PySem.W.fnOf "_law_bag" "_law_bag" (aW fR) (aR fR) (aC fR) .none kV10 dc10 pm10 an10 cd10 ct10),sl10⟩) (c10:PySem.W.codeIn K cd10 "_law_bag" = true) (k10:PySem.W.keepIn K (.ref f10)=true)
  (a11:PySem.W.nsIn K mainGlobals "_law_digit" = some (some (.ref f11))) (l11:K.lookup f11=some ⟨oc11,od11,.func (PySem.W.fnOf "_law_digit" "_law_digit" (aW ef) (aR ef) (aC ef) .none kV11 dc11 pm11 an11 cd11 ct11),sl11⟩) (c11:PySem.W.codeIn K cd11 "_law_digit" = true) (k11:PySem.W.keepIn K (.ref f11)=true)
  (a12:PySem.W.nsIn K mainGlobals "_law_signed" = some (some (.ref f12))) (l12:K.lookup f12=some ⟨oc12,od12,.func (PySem.W.fnOf "_law_signed" "_law_signed" (aW dG) (aR dG) (aC dG) .none kV12 dc12 pm12 an12 cd12 ct12),sl12⟩) (c12:PySem.W.codeIn K cd12 "_law_signed" = true) (k12:PySem.W.keepIn K (.ref f12)=true)
  (a13:PySem.W.nsIn K mainGlobals "_law_poly" = some (some (.ref f13))) (l13:K.lookup f13=some ⟨oc13,od13,.func (PySem.W.fnOf "_law_poly" "_law_poly" (aW eV) (aR eV) (aC eV) .none kV13 dc13 pm13 an13 cd13 ct13),sl13⟩) (c13:PySem.W.codeIn K cd13 "_law_poly" = true) (k13:PySem.W.keepIn K (.ref f13)=true)
  (a14:PySem.W.nsIn K mainGlobals "_law_own_poly" = some (some (.ref f14))) (l14:K.lookup f14=some ⟨oc14,od14,.func (PySem.W.fnOf "_law_own_poly" "_law_own_poly" (aW cM) (aR cM) (aC cM) .none kV14 dc14 pm14 an14 cd14 ct14),sl14⟩) (c14:PySem.W.codeIn K cd14 "_law_own_poly" = true) (k14:PySem.W.keepIn K (.ref f14)=true)
  (a15:PySem.W.nsIn K mainGlobals "_law_own_plus" = some (some (.ref f15))) (l15:K.lookup f15=some ⟨oc15,od15,.func (PySem.W.fnOf "_law_own_plus" "_law_own_plus" (aW cK) (aR cK) (aC cK) .none kV15 dc15 pm15 an15 cd15 ct15),sl15⟩) (c15:PySem.W.codeIn K cd15 "_law_own_plus" = true) (k15:PySem.W.keepIn K (.ref f15)=true)
  (a16:PySem.W.nsIn K mainGlobals "_law_own_times" = some (some (.ref f16))) (l16:K.lookup f16=some ⟨oc16,od16,.func (PySem.W.fnOf "_law_own_times" "_law_own_times" (aW ck) (aR ck) (aC ck) .none kV16 dc16 pm16 an16 cd16 ct16),sl16⟩) (c16:PySem.W.codeIn K cd16 "_law_own_times" = true) (k16:PySem.W.keepIn K (.ref f16)=true)
  (a17:PySem.W.nsIn K mainGlobals "_law_order" = some (some (.ref f17))) (l17:K.lookup f17=some ⟨oc17,od17,.func (PySem.W.fnOf "_law_order" "_law_order" (aW d9) (aR d9) (aC d9) .none kV17 dc17 pm17 an17 cd17 ct17),sl17⟩) (c17:PySem.W.codeIn K cd17 "_law_order" = true) (k17:PySem.W.keepIn K (.ref f17)=true)
  (a18:PySem.W.nsIn K mainGlobals "_law_sum" = some (some (.ref f18))) (l18:K.lookup f18=some ⟨oc18,od18,.func (PySem.W.fnOf "_law_sum" "_law_sum" (aW fQ) (aR fQ) (aC fQ) .none kV18 dc18 pm18 an18 cd18 ct18),sl18⟩) (c18:PySem.W.codeIn K cd18 "_law_sum" = true) (k18:PySem.W.keepIn K (.ref f18)=true)
  (a19:PySem.W.nsIn K mainGlobals "_law_is_poly" = some (some (.ref f19))) (l19:K.lookup f19=some ⟨oc19,od19,.func (PySem.W.fnOf "_law_is_poly" "_law_is_poly" (aW cY) (aR cY) (aC cY) .none kV19 dc19 pm19 an19 cd19 ct19),sl19⟩) (c19:PySem.W.codeIn K cd19 "_law_is_poly" = true) (k19:PySem.W.keepIn K (.ref f19)=true)
  (a20:PySem.W.nsIn K mainGlobals "_law_is_sum" = some (some (.ref f20))) (l20:K.lookup f20=some ⟨oc20,od20,.func (PySem.W.fnOf "_law_is_sum" "_law_is_sum" (aW dI) (aR dI) (aC dI) .none kV20 dc20 pm20 an20 cd20 ct20),sl20⟩) (c20:PySem.W.codeIn K cd20 "_law_is_sum" = true) (k20:PySem.W.keepIn K (.ref f20)=true)
  (a21:PySem.W.nsIn K mainGlobals "_law_copy" = some (some (.ref f21))) (l21:K.lookup f21=some ⟨oc21,od21,.func (PySem.W.fnOf "_law_copy" "_law_copy" (aW eX) (aR eX) (aC eX) .none kV21 dc21 pm21 an21 cd21 ct21),sl21⟩) (c21:PySem.W.codeIn K cd21 "_law_copy" = true) (k21:PySem.W.keepIn K (.ref f21)=true)
  (a22:PySem.W.nsIn K mainGlobals "_law_own_added" = some (some (.ref f22))) (l22:K.lookup f22=some ⟨oc22,od22,.func (PySem.W.fnOf "_law_own_added" "_law_own_added" (aW cu) (aR cu) (aC cu) .none kV22 dc22 pm22 an22 cd22 ct22),sl22⟩) (c22:PySem.W.codeIn K cd22 "_law_own_added" = true) (k22:PySem.W.keepIn K (.ref f22)=true)
  (a23:PySem.W.nsIn K mainGlobals "_law_own_sum" = some (some (.ref f23))) (l23:K.lookup f23=some ⟨oc23,od23,.func (PySem.W.fnOf "_law_own_sum" "_law_own_sum" (aW cX) (aR cX) (aC cX) .none kV23 dc23 pm23 an23 cd23 ct23),sl23⟩) (c23:PySem.W.codeIn K cd23 "_law_own_sum" = true) (k23:PySem.W.keepIn K (.ref f23)=true)
  (a24:PySem.W.nsIn K mainGlobals "_law_is" = some (some (.ref f24))) (l24:K.lookup f24=some ⟨oc24,od24,.func (PySem.W.fnOf "_law_is" "_law_is" (aW ig) (aR ig) (aC ig) .none kV24 dc24 pm24 an24 cd24 ct24),sl24⟩) (c24:PySem.W.codeIn K cd24 "_law_is" = true) (k24:PySem.W.keepIn K (.ref f24)=true)
  (a25:PySem.W.nsIn K mainGlobals "_law_refused" = some (some (.ref f25))) (l25:K.lookup f25=some ⟨oc25,od25,.func (PySem.W.fnOf "_law_refused" "_law_refused" (aW cZ) (aR cZ) (aC cZ) .none kV25 dc25 pm25 an25 cd25 ct25),sl25⟩) (c25:PySem.W.codeIn K cd25 "_law_refused" = true) (k25:PySem.W.keepIn K (.ref f25)=true)
  (a26:PySem.W.nsIn K mainGlobals "_law_spoil" = some (some (.ref f26))) (l26:K.lookup f26=some ⟨oc26,od26,.func (PySem.W.fnOf "_law_spoil" "_law_spoil" (aW d8) (aR d8) (aC d8) .none kV26 dc26 pm26 an26 cd26 ct26),sl26⟩) (c26:PySem.W.codeIn K cd26 "_law_spoil" = true) (k26:PySem.W.keepIn K (.ref f26)=true)
  (a27:PySem.W.nsIn K mainGlobals "_law_added_right" = some (some (.ref f27))) (l27:K.lookup f27=some ⟨oc27,od27,.func (PySem.W.fnOf "_law_added_right" "_law_added_right" (aW bS) (aR bS) (aC bS) .none kV27 dc27 pm27 an27 cd27 ct27),sl27⟩) (c27:PySem.W.codeIn K cd27 "_law_added_right" = true) (k27:PySem.W.keepIn K (.ref f27)=true)
  (a28:PySem.W.nsIn K mainGlobals "_law_scaled_right" = some (some (.ref f28))) (l28:K.lookup f28=some ⟨oc28,od28,.func (PySem.W.fnOf "_law_scaled_right" "_law_scaled_right" (aW bP) (aR bP) (aC bP) .none kV28 dc28 pm28 an28 cd28 ct28),sl28⟩) (c28:PySem.W.codeIn K cd28 "_law_scaled_right" = true) (k28:PySem.W.keepIn K (.ref f28)=true)
  (a29:PySem.W.nsIn K mainGlobals "law" = some (some (.ref f29))) (l29:K.lookup f29=some ⟨oc29,od29,.func (PySem.W.fnOf "law" "law" (aW kW) (aR kW) (aC kW) .none kV29 dc29 pm29 an29 cd29 ct29),sl29⟩) (c29:PySem.W.codeIn K cd29 "law" = true) (k29:PySem.W.keepIn K (.ref f29)=true)
  (z_len:PySem.W.nsIn K mainGlobals "len" = some none)
  (z_sorted:PySem.W.nsIn K mainGlobals "sorted" = some none)
  (z_dict:PySem.W.nsIn K mainGlobals "dict" = some none)
  (z_range:PySem.W.nsIn K mainGlobals "range" = some none)
  (z_list:PySem.W.nsIn K mainGlobals "list" = some none)
  (z_tuple:PySem.W.nsIn K mainGlobals "tuple" = some none)
  (z_isinstance:PySem.W.nsIn K mainGlobals "isinstance" = some none)
  (z_bool:PySem.W.nsIn K mainGlobals "bool" = some none)
  (z_int:PySem.W.nsIn K mainGlobals "int" = some none)
  (z_all:PySem.W.nsIn K mainGlobals "all" = some none)
  (z_ValueError:PySem.W.nsIn K mainGlobals "ValueError" = some none)
  (z_max:PySem.W.nsIn K mainGlobals "max" = some none)
  (z_min:PySem.W.nsIn K mainGlobals "min" = some none)
  {U C_NoPair C_TooMany C_NoNumber C_NoWord C_NoName C_NoRow C_NoText C_NoTables:Addr} (u0:PySem.W.nsIn K mainGlobals "UnderError" = some (some (.ref U))) (u1:L2.mroIn K U=some Gb)
  (n_NoPair:PySem.W.nsIn K mainGlobals "NoPair" = some (some (.ref C_NoPair)))
  (n_TooMany:PySem.W.nsIn K mainGlobals "TooMany" = some (some (.ref C_TooMany)))
  (n_NoNumber:PySem.W.nsIn K mainGlobals "NoNumber" = some (some (.ref C_NoNumber)))
  (n_NoWord:PySem.W.nsIn K mainGlobals "NoWord" = some (some (.ref C_NoWord)))
  (n_NoName:PySem.W.nsIn K mainGlobals "NoName" = some (some (.ref C_NoName)))
  (n_NoRow:PySem.W.nsIn K mainGlobals "NoRow" = some (some (.ref C_NoRow)))
  (n_NoText:PySem.W.nsIn K mainGlobals "NoText" = some (some (.ref C_NoText)))
  (n_NoTables:PySem.W.nsIn K mainGlobals "NoTables" = some (some (.ref C_NoTables)))
  (q_NoPair:PySem.W.excIn K C_NoPair Gb "ValueError.__new__" = true)
  (r_NoPair:L2.mroIn K C_NoPair=some (.ref U::Gb))
  (xa_NoPair:PySem.W.findIn K (.ref C_NoPair) "__getattribute__" = some (some (.builtin "BaseException.__getattribute__")))
  (xb_NoPair:PySem.W.findIn K (.ref C_NoPair) "__getattr__" = some none)
  (xc_NoPair:PySem.W.findObj K C_NoPair none "__class__" = some (.bind (.builtin "getset_descriptor.__get__") (.builtin "object.__class__")))
  (xd_NoPair:PySem.W.mroIn K C_NoPair (.type "object")=some true)
  (xf_NoPair:PySem.W.subIn K (.ref C_NoPair) (.type "BaseException")=some true)
  (cl_NoPair:(PySem.W.clsIn K C_NoPair).isSome=true)
  (v_NoPair:PySem.W.kitOne K (.ref C_NoPair) (.type "ValueError")=some true)
  (k_NoPair_TooMany:PySem.W.kitOne K (.ref C_NoPair) (.ref C_TooMany)=some false)
  (k_NoPair_NoPair:PySem.W.kitOne K (.ref C_NoPair) (.ref C_NoPair)=some true)
  (k_NoPair_NoNumber:PySem.W.kitOne K (.ref C_NoPair) (.ref C_NoNumber)=some false)
  (k_NoPair_NoWord:PySem.W.kitOne K (.ref C_NoPair) (.ref C_NoWord)=some false)
  (k_NoPair_NoName:PySem.W.kitOne K (.ref C_NoPair) (.ref C_NoName)=some false)
  (k_NoPair_NoRow:PySem.W.kitOne K (.ref C_NoPair) (.ref C_NoRow)=some false)
  (k_NoPair_NoText:PySem.W.kitOne K (.ref C_NoPair) (.ref C_NoText)=some false)
  (k_NoPair_NoTables:PySem.W.kitOne K (.ref C_NoPair) (.ref C_NoTables)=some false)
  : ∃ fd:FuncData,(∀ (s:Shared) (v:Value),BindsTo s fd ⟨[v],[]⟩ [("_law_script",v)])/\∀ base:Heap,K.In base->base.Ns mainGlobals mg->FnOk l.prog w K mg base jn 6 fa fd ["_law_script"] (j8 K 1 rA):=by
 have e:=hfa.symm.trans (PySem.W.mg_of X G a29)
 cases e
 have e_NoPair:ExcK K U "NoPair" C_NoPair:=⟨n_NoPair,q_NoPair,r_NoPair,⟨xa_NoPair,xb_NoPair,xc_NoPair,xd_NoPair,xf_NoPair⟩,cl_NoPair,v_NoPair⟩
 have m_TooMany:=PySem.W.mg_of X G n_TooMany
 have m_NoPair:=PySem.W.mg_of X G n_NoPair
 have m_NoNumber:=PySem.W.mg_of X G n_NoNumber
 have m_NoWord:=PySem.W.mg_of X G n_NoWord
 have m_NoName:=PySem.W.mg_of X G n_NoName
 have m_NoRow:=PySem.W.mg_of X G n_NoRow
 have m_NoText:=PySem.W.mg_of X G n_NoText
 have m_NoTables:=PySem.W.mg_of X G n_NoTables
 have b_len:=PySem.W.mg_none_of X G z_len
 have b_sorted:=PySem.W.mg_none_of X G z_sorted
 have b_dict:=PySem.W.mg_none_of X G z_dict
 have b_range:=PySem.W.mg_none_of X G z_range
 have b_list:=PySem.W.mg_none_of X G z_list
 have b_tuple:=PySem.W.mg_none_of X G z_tuple
 have b_isinstance:=PySem.W.mg_none_of X G z_isinstance
 have b_bool:=PySem.W.mg_none_of X G z_bool
 have b_int:=PySem.W.mg_none_of X G z_int
 have b_all:=PySem.W.mg_none_of X G z_all
 have b_ValueError:=PySem.W.mg_none_of X G z_ValueError
 have b_max:=PySem.W.mg_none_of X G z_max
 have b_min:=PySem.W.mg_none_of X G z_min
 have F1:=bM (st:=eg) l1 c1 k1
 have i1:=F1.binds (ps:=["one", "other"]) fun _ _ _ _ _ _=>vt fun _ _=>rfl
 have F2:=bM (st:=cj) l2 c2 k2
 have i2:=F2.binds (ps:=["numbers"]) fun _ _ _ _ _ _=>Cf fun _=>rfl
 have F3:=bM (st:=mZ) l3 c3 k3
 have i3:=F3.binds (ps:=["one", "other"]) fun _ _ _ _ _ _=>vt fun _ _=>rfl
 have F4:=bM (st:=jX) l4 c4 k4
 have i4:=F4.binds (ps:=["one", "other"]) fun _ _ _ _ _ _=>vt fun _ _=>rfl
 have F5:=bM (st:=dB) l5 c5 k5
 have i5:=F5.binds (ps:=["found", "order", "poly"]) fun _ _ _ _ _ _=>MJ fun _ _ _=>rfl
 have F6:=bM (st:=iB) l6 c6 k6
 have i6:=F6.binds (ps:=["found"]) fun _ _ _ _ _ _=>Cf fun _=>rfl
 have F7:=bM (st:=d7) l7 c7 k7
 have i7:=F7.binds (ps:=["one", "other"]) fun _ _ _ _ _ _=>vt fun _ _=>rfl
 have F8:=bM (st:=jV) l8 c8 k8
 have i8:=F8.binds (ps:=["one", "other"]) fun _ _ _ _ _ _=>vt fun _ _=>rfl
 have F9:=bM (st:=iH) l9 c9 k9
 have i9:=F9.binds (ps:=["poly", "one"]) fun _ _ _ _ _ _=>vt fun _ _=>rfl
 have F10:=bM (st:=fR) l10 c10 k10
 have i10:=F10.binds (ps:=["_law_script", "_law_at"]) fun _ _ _ _ _ _=>vt fun _ _=>rfl
 have F11:=bM (st:=ef) l11 c11 k11
 have i11:=F11.binds (ps:=["_law_bag_here", "_law_many"]) fun _ _ _ _ _ _=>vt fun _ _=>rfl
 have F12:=bM (st:=dG) l12 c12 k12
 have i12:=F12.binds (ps:=["_law_bag_here"]) fun _ _ _ _ _ _=>Cf fun _=>rfl
 have F13:=bM (st:=eV) l13 c13 k13
 have i13:=F13.binds (ps:=["_law_bag_here", "_law_most", "_law_far"]) fun _ _ _ _ _ _=>MJ fun _ _ _=>rfl
 have F14:=bM (st:=cM) l14 c14 k14
 have i14:=F14.binds (ps:=["_law_held"]) fun _ _ _ _ _ _=>Cf fun _=>rfl
 have F15:=bM (st:=cK) l15 c15 k15
 have i15:=F15.binds (ps:=["_law_one", "_law_other"]) fun _ _ _ _ _ _=>vt fun _ _=>rfl
 have F16:=bM (st:=ck) l16 c16 k16
 have i16:=F16.binds (ps:=["_law_one", "_law_other"]) fun _ _ _ _ _ _=>vt fun _ _=>rfl
 have F17:=bM (st:=d9) l17 c17 k17
 have i17:=F17.binds (ps:=["_law_bag_here", "_law_n"]) fun _ _ _ _ _ _=>vt fun _ _=>rfl
 have F18:=bM (st:=fQ) l18 c18 k18
 have i18:=F18.binds (ps:=["_law_bag_here", "_law_n", "_law_most", "_law_size"]) fun _ _ _ _ _ _=>Ob fun _ _ _ _=>rfl
 have F19:=bM (st:=cY) l19 c19 k19
 have i19:=F19.binds (ps:=["_law_found"]) fun _ _ _ _ _ _=>Cf fun _=>rfl
 have F20:=bM (st:=dI) l20 c20 k20
 have i20:=F20.binds (ps:=["_law_found"]) fun _ _ _ _ _ _=>Cf fun _=>rfl
 have F21:=bM (st:=eX) l21 c21 k21
 have i21:=F21.binds (ps:=["_law_some"]) fun _ _ _ _ _ _=>Cf fun _=>rfl
 have F22:=bM (st:=cu) l22 c22 k22
 have i22:=F22.binds (ps:=["_law_held", "_law_one", "_law_own"]) fun _ _ _ _ _ _=>MJ fun _ _ _=>rfl
 have F23:=bM (st:=cX) l23 c23 k23
 have i23:=F23.binds (ps:=["_law_held"]) fun _ _ _ _ _ _=>Cf fun _=>rfl
 have F24:=bM (st:=ig) l24 c24 k24
 have i24:=F24.binds (ps:=["_law_e", "_law_due"]) fun _ _ _ _ _ _=>vt fun _ _=>rfl
 have F25:=bM (st:=cZ) l25 c25 k25
 have i25:=F25.binds (ps:=["_law_one", "_law_other"]) fun _ _ _ _ _ _=>vt fun _ _=>rfl
 have F26:=bM (st:=d8) l26 c26 k26
 have i26:=F26.binds (ps:=["_law_found"]) fun _ _ _ _ _ _=>Cf fun _=>rfl
 have F27:=bM (st:=bS) l27 c27 k27
 have i27:=F27.binds (ps:=["_law_one", "_law_other"]) fun _ _ _ _ _ _=>vt fun _ _=>rfl
 have F28:=bM (st:=bP) l28 c28 k28
 have i28:=F28.binds (ps:=["_law_own", "_law_one"]) fun _ _ _ _ _ _=>vt fun _ _=>rfl
 have F29:=bM (st:=kW) l29 c29 k29
 have i29:=F29.binds (ps:=["_law_script"]) fun _ _ _ _ _ _=>Cf fun _=>rfl
 refine ⟨PySem.W.fnOf "law" "law" (aW kW) (aR kW) (aC kW) .none kV29 dc29 pm29 an29 cd29 ct29,fun s v=>.of_eq rfl,fun base _ _=>?_⟩
 have G_need_pair:G_ l.prog w K mg base 1 "need_pair" ["one", "other"] cQ:=⟨f1,_,sR F1 e_NoPair b_len,PySem.W.mg_of X G a1,k1,i1⟩
 have G_as_polynomial:dZ l.prog w K mg base 1 "as_polynomial" ["numbers"] bO:=⟨f2,_,mT F2 b_sorted,PySem.W.mg_of X G a2,k2,i2⟩
 have G_plus:dZ l.prog w K mg base 2 "plus" ["one", "other"] mF:=⟨f3,_,Fd F3 b_dict G_as_polynomial,PySem.W.mg_of X G a3,k3,i3⟩
 have G_times:dZ l.prog w K mg base 2 "times" ["one", "other"] iT:=⟨f4,_,C6 F4 G_as_polynomial,PySem.W.mg_of X G a4,k4,i4⟩
 have G_put_before:dZ l.prog w K mg base 3 "put_before" ["found", "order", "poly"] bX:=⟨f5,_,qd F5 G_plus,PySem.W.mg_of X G a5,k5,i5⟩
 have G_as_sum:dZ l.prog w K mg base 1 "as_sum" ["found"] e_:=⟨f6,_,AK F6 b_sorted,PySem.W.mg_of X G a6,k6,i6⟩
 have G_need_like:G_ l.prog w K mg base 2 "need_like" ["one", "other"] cP:=⟨f7,_,sL F7 G_need_pair,PySem.W.mg_of X G a7,k7,i7⟩
 have G_added:G_ l.prog w K mg base 4 "added" ["one", "other"] e8:=⟨f8,_,Cw F8 G_need_like G_put_before G_as_sum,PySem.W.mg_of X G a8,k8,i8⟩
 have G_scaled:dZ l.prog w K mg base 4 "scaled" ["poly", "one"] iu:=⟨f9,_,AX F9 G_put_before G_times G_as_sum,PySem.W.mg_of X G a9,k9,i9⟩
 have G_law_bag:dZ l.prog w K mg base 1 "_law_bag" ["_law_script", "_law_at"] fP:=⟨f10,_,wz F10 b_len,PySem.W.mg_of X G a10,k10,i10⟩
 have G_law_digit:dZ l.prog w K mg base 1 "_law_digit" ["_law_bag_here", "_law_many"] aO:=⟨f11,_,rD F11,PySem.W.mg_of X G a11,k11,i11⟩
 have G_law_signed:dZ l.prog w K mg base 2 "_law_signed" ["_law_bag_here"] dH:=⟨f12,_,qf F12 b_range G_law_digit,PySem.W.mg_of X G a12,k12,i12⟩
 have G_law_poly:dZ l.prog w K mg base 3 "_law_poly" ["_law_bag_here", "_law_most", "_law_far"] cS:=⟨f13,_,ve F13 b_range G_law_digit G_law_signed,PySem.W.mg_of X G a13,k13,i13⟩
 have G_law_own_poly:dZ l.prog w K mg base 1 "_law_own_poly" ["_law_held"] bR:=⟨f14,_,nA F14 b_sorted,PySem.W.mg_of X G a14,k14,i14⟩
 have G_law_own_plus:dZ l.prog w K mg base 2 "_law_own_plus" ["_law_one", "_law_other"] cN:=⟨f15,_,nB F15 G_law_own_poly,PySem.W.mg_of X G a15,k15,i15⟩
 have G_law_own_times:dZ l.prog w K mg base 2 "_law_own_times" ["_law_one", "_law_other"] bU:=⟨f16,_,mj F16 G_law_own_poly,PySem.W.mg_of X G a16,k16,i16⟩
 have G_law_order:dZ l.prog w K mg base 2 "_law_order" ["_law_bag_here", "_law_n"] d_:=⟨f17,_,sX F17 b_list b_range b_len b_tuple G_law_digit,PySem.W.mg_of X G a17,k17,i17⟩
 have G_law_sum:dZ l.prog w K mg base 4 "_law_sum" ["_law_bag_here", "_law_n", "_law_most", "_law_size"] dw:=⟨f18,_,vX F18 b_range b_sorted G_law_digit G_law_order G_law_poly,PySem.W.mg_of X G a18,k18,i18⟩
 have G_law_is_poly:dZ l.prog w K mg base 1 "_law_is_poly" ["_law_found"] cW:=⟨f19,_,pJ F19 b_isinstance b_list b_len b_tuple b_bool b_int b_all b_range,PySem.W.mg_of X G a19,k19,i19⟩
 have G_law_is_sum:dZ l.prog w K mg base 2 "_law_is_sum" ["_law_found"] cA:=⟨f20,_,p_ F20 b_isinstance b_list b_tuple b_len G_law_is_poly,PySem.W.mg_of X G a20,k20,i20⟩
 have G_law_copy:dZ l.prog w K mg base 1 "_law_copy" ["_law_some"] cU:=⟨f21,_,ux F21 b_list,PySem.W.mg_of X G a21,k21,i21⟩
 have G_law_own_added:dZ l.prog w K mg base 3 "_law_own_added" ["_law_held", "_law_one", "_law_own"] bG:=⟨f22,_,mR F22 G_law_own_plus,PySem.W.mg_of X G a22,k22,i22⟩
 have G_law_own_sum:dZ l.prog w K mg base 1 "_law_own_sum" ["_law_held"] bY:=⟨f23,_,ou F23 b_sorted,PySem.W.mg_of X G a23,k23,i23⟩
 have G_law_is:IB l.prog w K mg base 1 "_law_is" ["_law_e", "_law_due"] iA:=⟨f24,_,zW F24 e_NoPair m_TooMany m_NoPair m_NoNumber m_NoWord m_NoName m_NoRow m_NoText m_NoTables k_NoPair_TooMany k_NoPair_NoPair k_NoPair_NoNumber k_NoPair_NoWord k_NoPair_NoName k_NoPair_NoRow k_NoPair_NoText k_NoPair_NoTables b_isinstance b_ValueError,PySem.W.mg_of X G a24,k24,i24⟩
 have G_law_refused:dZ l.prog w K mg base 5 "_law_refused" ["_law_one", "_law_other"] cG:=⟨f25,_,oq F25 u0 u1 e_NoPair G_added G_law_is,PySem.W.mg_of X G a25,k25,i25⟩
 have G_law_spoil:dZ l.prog w K mg base 1 "_law_spoil" ["_law_found"] cR:=⟨f26,_,sW F26,PySem.W.mg_of X G a26,k26,i26⟩
 have G_law_added_right:dZ l.prog w K mg base 5 "_law_added_right" ["_law_one", "_law_other"] bL:=⟨f27,_,kH F27 b_range G_law_own_added G_law_own_sum G_law_copy G_added G_law_is_sum G_law_spoil,PySem.W.mg_of X G a27,k27,i27⟩
 have G_law_scaled_right:dZ l.prog w K mg base 5 "_law_scaled_right" ["_law_own", "_law_one"] bH:=⟨f28,_,ki F28 b_list b_range G_law_own_added G_law_own_times G_law_own_sum G_law_copy G_scaled G_law_is_sum G_law_spoil,PySem.W.mg_of X G a28,k28,i28⟩
 exact JY F29 b_range b_max b_min b_len b_int G_law_bag G_law_digit G_law_sum G_law_scaled_right G_law_poly G_law_added_right G_law_refused
theorem walk {l:PySem.W.OpenLaw} {q:Program} {loose:List Str} {XP:(Str->Option Value)->Heap->Prop} {YP:World->Heap->Prop} {d:DefRec} {K:Params->PySem.W.Frag} (hn:l.most=some 63) (hdf:d.params.defaults=[])
  (hY:∀ (w:World) (h:Heap),YP w h->(K w.params).In h)
  (F:∀ (w:World) (mg:Str->Option Value) (fa:Addr) (h:Heap),(K w.params).In h->h.Ns mainGlobals mg->mg d.name=some (.ref fa) ->
   ∃ fd:FuncData,(∀ (s:Shared) (u:Value),BindsTo s fd ⟨[u],[]⟩ [("_law_script",u)])/\∀ base:Heap,(K w.params).In base->base.Ns mainGlobals mg->FnOk l.prog w (K w.params) mg base jn 6 fa fd ["_law_script"] (j8 (K w.params) 1 rA)) :
  PySem.W.WalkO q loose XP YP l.row.toRowW d [] (fun f vs=>PySem.call f vs):=
 L2.FN (n:=63) (k:=6) (x := "_law_script") (CX:=fun _=>jn) (sp:=fun w=>j8 (K w.params) 1 rA) hn (by decide) hdf ⟨rfl,by decide,by decide⟩ hY F (fun _ H a ns hl hO hS=>A2 hO hS (Ji ns hl)) fun _ _ _ _ _ z=>z
end K26
open PySem PySem.W PyProof.Rows
namespace PySem.W.Fast
theorem tw12127048855507879643:True:=trivial
theorem tw11353821322735213029:True:=trivial
theorem tw4069542618208246005:True:=trivial
theorem tw11615667907014518465:True:=trivial
theorem tw11221280023448234601:True:=trivial
theorem tw4193437342848720656:True:=trivial
theorem tw16042365336114806187:True:=trivial
theorem tw4075584190285514772:True:=trivial
theorem tw11948149075411304095:True:=trivial
theorem tw3611519538163282067:True:=trivial
theorem tw10864115082503448070:True:=trivial
theorem tw2675815065055362275:True:=trivial
theorem tw4748417268400317817:True:=trivial
theorem tw15047779111002842401:True:=trivial
theorem tw3014858105505405217:True:=trivial
theorem tw9161978379158179437:True:=trivial
theorem tw10806315417530394038:True:=trivial
theorem tw10267716887764356398:True:=trivial
theorem tw14051298416076572550:True:=trivial
theorem tw2690340595870884469:True:=trivial
theorem tw17430916876004402188:True:=trivial
theorem tw13253289831847137550:True:=trivial
theorem tw12892108071921119984:True:=trivial
theorem tw15148262314930405131:True:=trivial
theorem tw7350022276869599641:True:=trivial
theorem tw737863507226671168:True:=trivial
theorem tw2111705451941468639:True:=trivial
theorem tw3378414287721593858:True:=trivial
theorem tw3267964594012169568:True:=trivial
theorem tw17638157962161061635:True:=trivial
theorem tw9542969864319897716:True:=trivial
theorem tw16150865803982509000:True:=trivial
theorem tw9997622302046434932:True:=trivial
theorem tw6201371827972611254:True:=trivial
theorem tw14488817245262996521:True:=trivial
theorem tw4544822554379668615:True:=trivial
theorem tw10615027394995403970:True:=trivial
theorem tw782935695833656543:True:=trivial
theorem tw481820815016009959:True:=trivial
theorem tw778322098393024088:True:=trivial
theorem tw7839593293404966892:True:=trivial
theorem tw14355022702666967065:True:=trivial
theorem tw2573069340388361812:True:=trivial
theorem tw6811599905253503362:True:=trivial
theorem tw8832259262107554453:True:=trivial
theorem tw1661855052165857363:True:=trivial
theorem tw3128053508140583048:True:=trivial
theorem tw205677646833596969:True:=trivial
theorem tw8062218960132106549:True:=trivial
theorem tw8893502039902928132:True:=trivial
theorem tw5345740503899503193:True:=trivial
theorem tw7173653334152096394:True:=trivial
theorem tw853613702764806484:True:=trivial
theorem tw8373726954929987310:True:=trivial
theorem tw10487912575068260268:True:=trivial
theorem tw1740973602713022074:True:=trivial
theorem tw6381827705340235601:True:=trivial
theorem tw8963488272470998873:True:=trivial
theorem tw7668936865731298670:True:=trivial
theorem tw11147490907349404896:True:=trivial
end PySem.W.Fast
set_option maxRecDepth 100000 in
set_option maxHeartbeats 0 in
theorem PySem.Challenge.cw_undercells_k26_sums_added_holds : PySem.Challenge.rw_undercells_k26_sums_added.Holds := by
 w_on;o_law;k_head;(case hw=>w_witness2)
 k_fill
 refine K26.walk (l:=PySem.Challenge.rw_undercells_k26_sums_added) rfl rfl (fun w h Y=>PySem.W.kIn_of Y) ?F
 case F=>
  intro w mg fa h KX G hmg
  refine' K26.all_mk KX G hmg ?a1 ?l1 ?c1 ?k1 ?a2 ?l2 ?c2 ?k2 ?a3 ?l3 ?c3 ?k3 ?a4 ?l4 ?c4 ?k4 ?a5 ?l5 ?c5 ?k5 ?a6 ?l6 ?c6 ?k6 ?a7 ?l7 ?c7 ?k7 ?a8 ?l8 ?c8 ?k8 ?a9 ?l9 ?c9 ?k9 ?a10 ?l10 ?c10 ?k10 ?a11 ?l11 ?c11 ?k11 ?a12 ?l12 ?c12 ?k12 ?a13 ?l13 ?c13 ?k13 ?a14 ?l14 ?c14 ?k14 ?a15 ?l15 ?c15 ?k15 ?a16 ?l16 ?c16 ?k16 ?a17 ?l17 ?c17 ?k17 ?a18 ?l18 ?c18 ?k18 ?a19 ?l19 ?c19 ?k19 ?a20 ?l20 ?c20 ?k20 ?a21 ?l21 ?c21 ?k21 ?a22 ?l22 ?c22 ?k22 ?a23 ?l23 ?c23 ?k23 ?a24 ?l24 ?c24 ?k24 ?a25 ?l25 ?c25 ?k25 ?a26 ?l26 ?c26 ?k26 ?a27 ?l27 ?c27 ?k27 ?a28 ?l28 ?c28 ?k28 ?a29 ?l29 ?c29 ?k29 ?z_len ?z_sorted ?z_dict ?z_range ?z_list ?z_tuple ?z_isinstance ?z_bool ?z_int ?z_all ?z_ValueError ?z_max ?z_min ?u0 ?u1 ?n_NoPair ?n_TooMany ?n_NoNumber ?n_NoWord ?n_NoName ?n_NoRow ?n_NoText ?n_NoTables ?q_NoPair ?r_NoPair ?xa_NoPair ?xb_NoPair ?xc_NoPair ?xd_NoPair ?xf_NoPair ?cl_NoPair ?v_NoPair ?k_NoPair_TooMany ?k_NoPair_NoPair ?k_NoPair_NoNumber ?k_NoPair_NoWord ?k_NoPair_NoName ?k_NoPair_NoRow ?k_NoPair_NoText ?k_NoPair_NoTables
  (case a1=>k_is)
  (case l1=>k_is)
  (case c1=>k_is)
  (case k1=>k_is)
  (case a2=>k_is)
  (case l2=>k_is)
  (case c2=>k_is)
  (case k2=>k_is)
  (case a3=>k_is)
  (case l3=>k_is)
  (case c3=>k_is)
  (case k3=>k_is)
  (case a4=>k_is)
  (case l4=>k_is)
  (case c4=>k_is)
  (case k4=>k_is)
  (case a5=>k_is)
  (case l5=>k_is)
  (case c5=>k_is)
  (case k5=>k_is)
  (case a6=>k_is)
  (case l6=>k_is)
  (case c6=>k_is)
  (case k6=>k_is)
  (case a7=>k_is)
  (case l7=>k_is)
  (case c7=>k_is)
  (case k7=>k_is)
  (case a8=>k_is)
  (case l8=>k_is)
  (case c8=>k_is)
  (case k8=>k_is)
  (case a9=>k_is)
  (case l9=>k_is)
  (case c9=>k_is)
  (case k9=>k_is)
  (case a10=>k_is)
  (case l10=>k_is)
  (case c10=>k_is)
  (case k10=>k_is)
  (case a11=>k_is)
  (case l11=>k_is)
  (case c11=>k_is)
  (case k11=>k_is)
  (case a12=>k_is)
  (case l12=>k_is)
  (case c12=>k_is)
  (case k12=>k_is)
  (case a13=>k_is)
  (case l13=>k_is)
  (case c13=>k_is)
  (case k13=>k_is)
  (case a14=>k_is)
  (case l14=>k_is)
  (case c14=>k_is)
  (case k14=>k_is)
  (case a15=>k_is)
  (case l15=>k_is)
  (case c15=>k_is)
  (case k15=>k_is)
  (case a16=>k_is)
  (case l16=>k_is)
  (case c16=>k_is)
  (case k16=>k_is)
  (case a17=>k_is)
  (case l17=>k_is)
  (case c17=>k_is)
  (case k17=>k_is)
  (case a18=>k_is)
  (case l18=>k_is)
  (case c18=>k_is)
  (case k18=>k_is)
  (case a19=>k_is)
  (case l19=>k_is)
  (case c19=>k_is)
  (case k19=>k_is)
  (case a20=>k_is)
  (case l20=>k_is)
  (case c20=>k_is)
  (case k20=>k_is)
  (case a21=>k_is)
  (case l21=>k_is)
  (case c21=>k_is)
  (case k21=>k_is)
  (case a22=>k_is)
  (case l22=>k_is)
  (case c22=>k_is)
  (case k22=>k_is)
  (case a23=>k_is)
  (case l23=>k_is)
  (case c23=>k_is)
  (case k23=>k_is)
  (case a24=>k_is)
  (case l24=>k_is)
  (case c24=>k_is)
  (case k24=>k_is)
  (case a25=>k_is)
  (case l25=>k_is)
  (case c25=>k_is)
  (case k25=>k_is)
  (case a26=>k_is)
  (case l26=>k_is)
  (case c26=>k_is)
  (case k26=>k_is)
  (case a27=>k_is)
  (case l27=>k_is)
  (case c27=>k_is)
  (case k27=>k_is)
  (case a28=>k_is)
  (case l28=>k_is)
  (case c28=>k_is)
  (case k28=>k_is)
  (case a29=>k_is)
  (case l29=>k_is)
  (case c29=>k_is)
  (case k29=>k_is)
  (case z_len=>k_is)
  (case z_sorted=>k_is)
  (case z_dict=>k_is)
  (case z_range=>k_is)
  (case z_list=>k_is)
  (case z_tuple=>k_is)
  (case z_isinstance=>k_is)
  (case z_bool=>k_is)
  (case z_int=>k_is)
  (case z_all=>k_is)
  (case z_ValueError=>k_is)
  (case z_max=>k_is)
  (case z_min=>k_is)
  (case u0=>k_is)
  (case n_NoPair=>k_is)
  (case n_TooMany=>k_is)
  (case n_NoNumber=>k_is)
  (case n_NoWord=>k_is)
  (case n_NoName=>k_is)
  (case n_NoRow=>k_is)
  (case n_NoText=>k_is)
  (case n_NoTables=>k_is)
  (case u1=>kernel_rfl)
  (case q_NoPair=>kernel_rfl)
  (case r_NoPair=>kernel_rfl)
  (case xa_NoPair=>kernel_rfl)
  (case xb_NoPair=>kernel_rfl)
  (case xc_NoPair=>kernel_rfl)
  (case xd_NoPair=>kernel_rfl)
  (case xf_NoPair=>kernel_rfl)
  (case cl_NoPair=>kernel_rfl)
  (case v_NoPair=>kernel_rfl)
  (case k_NoPair_TooMany=>kernel_rfl)
  (case k_NoPair_NoPair=>kernel_rfl)
  (case k_NoPair_NoNumber=>kernel_rfl)
  (case k_NoPair_NoWord=>kernel_rfl)
  (case k_NoPair_NoName=>kernel_rfl)
  (case k_NoPair_NoRow=>kernel_rfl)
  (case k_NoPair_NoText=>kernel_rfl)
  (case k_NoPair_NoTables=>kernel_rfl)
