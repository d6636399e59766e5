import PyProof.Rows.All
import Wide.All
import OpenK.AllK
import Wide.FinOn
import Lean
import PyProof.EqAt
import PyProof.EqKinds
import PyProof.TupleCall
import PySem.Challenge.RW_undercells_k18_all_between
set_option Elab.async false
set_option linter.all false
set_option maxRecDepth 100000
set_option maxHeartbeats 4000000
namespace L2
open PySem PySem.Spec PyProof.Rows
noncomputable abbrev Key:=Sum Int Str
noncomputable def p_:Key->Value->Bool
 | .inl k,v=>Value.isInt k v
 | .inr x,v=>Value.isStrOf x v
noncomputable def M7 (w:World):Key->Int
 | .inl k=>hashInt k
 | .inr x=>hashStr w x
theorem b8:∀ {k:Key} {v:Value},p_ k v=true->(∃ i t,k=Sum.inl i/\v=Value.int i t)\/(∃ x t,k=Sum.inr x/\v=Value.str x t)
 | .inl i,v,h=>by
  obtain ⟨t,e⟩:=Value.isInt_shape (k:=i) (v:=v) h
  exact .inl ⟨i,t,rfl,e⟩
 | .inr x,v,h=>by
  obtain ⟨t,e⟩:=Value.isStrOf_shape (x:=x) (v:=v) h
  exact .inr ⟨x,t,rfl,e⟩
theorem zM (i:Int) (t:Tok):p_ (.inl i) (.int i t)=true:=by simp [p_,Value.isInt]
theorem zK (x:Str) (t:Tok):p_ (.inr x) (.str x t)=true:=by simp [p_,Value.isStrOf]
theorem JB (a b:Int):decide ((Sum.inl a:Key)=Sum.inl b)=(a == b):=by
 by_cases e:a=b
 ·subst e;simp
 ·have h:¬ (Sum.inl a:Key)=Sum.inl b:=fun q=>e (Sum.inl.inj q)
  rw [decide_eq_false h]
  exact (beq_eq_false_iff_ne.mpr e).symm
theorem IY (a b:Str):decide ((Sum.inr a:Key)=Sum.inr b)=decide (a=b):=by
 by_cases e:a=b
 ·subst e;simp
 ·have h:¬ (Sum.inr a:Key)=Sum.inr b:=fun q=>e (Sum.inr.inj q)
  rw [decide_eq_false h,decide_eq_false e]
theorem J7 (a:Int) (b:Str):decide ((Sum.inl a:Key)=Sum.inr b)=false:=decide_eq_false (fun q=>nomatch q)
theorem IZ (a:Str) (b:Int):decide ((Sum.inr a:Key)=Sum.inl b)=false:=decide_eq_false (fun q=>nomatch q)
noncomputable def cg (prog:Program) (w:World):PySem.KeyKind prog w Key where
 is:=p_
 hash:=M7 w
 inj:=fun v a b ha hb=>by
  rcases b8 ha with ⟨i,t,rfl,rfl⟩ | ⟨x,t,rfl,rfl⟩
  ·rcases b8 hb with ⟨j,u,rfl,e⟩ | ⟨y,u,rfl,e⟩
   ·injection e with e1 _;rw [e1]
   ·exact nomatch e
  ·rcases b8 hb with ⟨j,u,rfl,e⟩ | ⟨y,u,rfl,e⟩
   ·exact nomatch e
   ·injection e with e1 _;rw [e1]
 byValue:=fun k v h=>by
  rcases b8 h with ⟨i,t,rfl,rfl⟩ | ⟨x,t,rfl,rfl⟩ <;> rfl
 pyHash:=fun hv h=>by
  rcases b8 hv with ⟨i,t,rfl,rfl⟩ | ⟨x,t,rfl,rfl⟩
  ·exact wpAny_pyHash_int h
  ·exact wpAny_pyHash_str h
 eqBool:=fun hu hv h=>by
  rcases b8 hu with ⟨i,t,rfl,rfl⟩ | ⟨x,t,rfl,rfl⟩
  ·rcases b8 hv with ⟨j,u,rfl,rfl⟩ | ⟨y,u,rfl,rfl⟩
   ·rw [JB] at h;exact wpAny_eqBool_int h
   ·rw [J7] at h;exact SeqAt.EqAt.int_str i t y u _ _ _ _ h
  ·rcases b8 hv with ⟨j,u,rfl,rfl⟩ | ⟨y,u,rfl,rfl⟩
   ·rw [IZ] at h;exact SeqAt.EqAt.str_int x t j u _ _ _ _ h
   ·rw [IY] at h;exact wpAny_eqBool_str h
 «strs»:=fun k x t v h=>by
  rcases b8 h with ⟨i,u,rfl,e⟩ | ⟨y,u,rfl,e⟩
  ·exact nomatch e
  ·injection e with e1 _
   subst e1
   cases v <;> rfl
theorem uL (prog:Program) (w:World) (i:Int) (t:Tok):(cg prog w).is (.inl i) (.int i t)=true:=zM i t
theorem sD (prog:Program) (w:World) (x:Str) (t:Tok):(cg prog w).is (.inr x) (.str x t)=true:=zK x t
inductive V where
 | non | bl (b:Bool) | int (i:Int) | str (x:Str) | byt (b:Array UInt8) | flt (b:UInt64) | ref (a:Addr) | ty (n:String)
 deriving DecidableEq
noncomputable def RelV:V->Value->Prop
 | .non,u=>u=Value.none
 | .bl b,u=>u=Value.bool b
 | .int i,u=>∃ t,u=Value.int i t
 | .str x,u=>∃ t,u=Value.str x t
 | .byt b,u=>∃ t,u=Value.bytes b t
 | .flt b,u=>∃ t,u=Value.float b t
 | .ref a,u=>u=Value.ref a
 | .ty n,u=>u=Value.type n
noncomputable abbrev Vals:List V->List Value->Prop:=Paired RelV
theorem Vals.length {xs:List V} {us:List Value} (r:Vals xs us):xs.length=us.length:=Paired.length r
theorem Vals.get:∀ {xs:List V} {us:List Value} {i:Nat} {x:V},Vals xs us->xs[i]?=some x->∃ u,us[i]?=some u/\RelV x u
 | _,_,_,_,.nil,e=>by simp at e
 | _,_,0,_,.cons r _,e=>by simp at e;subst e;exact ⟨_,rfl,r⟩
 | _,_,i+1,x,.cons _ t,e=>by
  obtain ⟨u,h1,h2⟩:=Vals.get (i:=i) (x:=x) t (by simpa using e)
  exact ⟨u,by simpa using h1,h2⟩
theorem Vals.set {x:V} {u:Value} (r:RelV x u):∀ {xs:List V} {us:List Value} (i:Nat),Vals xs us->Vals (xs.set i x) (us.set i u)
 | _,_,_,.nil=>.nil
 | _,_,0,.cons _ t=>.cons r t
 | _,_,i+1,.cons q t=>.cons q (Vals.set r i t)
theorem Vals.append:∀ {xs ys:List V} {us ws:List Value},Vals xs us->Vals ys ws->Vals (xs++ys) (us++ws)
 | _,_,_,_,.nil,s=>s
 | _,_,_,_,.cons r t,s=>.cons r (Vals.append t s)
theorem Vals.take:∀ {xs:List V} {us:List Value} (n:Nat),Vals xs us->Vals (xs.take n) (us.take n)
 | _,_,0,_=>.nil
 | _,_,_+1,.nil=>.nil
 | _,_,n+1,.cons r t=>.cons r (Vals.take n t)
theorem Vals.drop:∀ {xs:List V} {us:List Value} (n:Nat),Vals xs us->Vals (xs.drop n) (us.drop n)
 | _,_,0,r=>r
 | _,_,_+1,.nil=>.nil
 | _,_,n+1,.cons _ t=>Vals.drop n t
noncomputable def nQ:Option V->Option Value->Prop
 | some v,some u=>RelV v u
 | none,none=>True
 | _,_=>False
noncomputable def KV {κ:Type}:List (κ×V)->List (κ×Value)->Prop:=Paired fun (p:κ×V) (q:κ×Value)=>p.1=q.1/\RelV p.2 q.2
noncomputable def kV:Key->V
 | .inl i=>.int i
 | .inr x=>.str x
inductive HO where
 | lst (xs:List V)
 | tup (xs:List V)
 | dK (kvs:List (Key×V)) | dT (kvs:List (List Key×V))
 | set (S:Int->Bool) (n:Nat)
 | ins (C dx:Addr) (fs:List (Str×V))
 | own (x:Addr)
 | xd (fs:List (Str×V))
 | met (f x:Addr)
 | rng (lo hi:Int)
 | frz (o:Obj) (u:HO)
 | tbl (ps:Array Value)
 | ext (φ:Heap->Prop)
noncomputable abbrev Hp:=Addr->Option HO
noncomputable def upd (H:Hp) (a:Addr) (o:HO):Hp:=fun b=>if b=a then some o else H b
theorem bG {H:Hp} {a:Addr} {o:HO}:upd H a o a=some o:=by unfold upd;rw [if_pos rfl]
theorem aN {H:Hp} {a b:Addr} {o:HO} (h:b≠a):upd H a o b=H b:=by unfold upd;rw [if_neg h]
theorem Dy {H:Hp} {a b:Addr} {o u:HO} (h:H a=some o) (h':H b=some u) (d:o≠u):a≠b:=by
 intro e;subst e;rw [h] at h';exact d (Option.some.inj h')
theorem aU {H:Hp} {a b:Addr} {o:HO} (h:H a=some o) (h':H b=none):a≠b:=by
 intro e;subst e;rw [h] at h';cases h'
noncomputable def e_ (h:Heap) (a:Addr) (items:Array Value):Prop:=∃ o,h.get? a=some o/\o.cls=.type "tuple" /\ o.dict=none/\∃ n,o.data=.seq items n
theorem e_.tup {h:Heap} {a:Addr} {items:Array Value}:e_ h a items->IsTup h a items:=fun ⟨o,e,c,_,n,d⟩=>⟨o,e,c,n,d⟩
theorem e_.new (h:Heap) (items:Array Value):e_ (h.push { cls:=.type "tuple",data:=.seq items }) h.objs.size items:=⟨_,Heap.get?_push_size _ rfl,rfl,rfl,_,rfl⟩
theorem e_.lt {h:Heap} {a:Addr} {items:Array Value} (x:e_ h a items):a < h.objs.size:=let ⟨_,ho,_⟩:=x;Heap.lt_size ho
section
variable (P:Program) (w:World)
noncomputable def bZ (H:Hp) (h:Heap) (a:Addr):HO->Prop
 | .lst xs=>xs.length<=sizeLine/\∃ (its:List Value) (n:Nat),Vals xs its/\h.get? a=some { cls:=.type "list",data:=.seq its.toArray n }
 | .tup xs=>xs.length<=sizeLine/\∃ its:List Value,Vals xs its/\e_ h a its.toArray
 | .dK kvs=>kvs.length<=sizeLine/\(a == sysModules)=false/\∃ vs,KV kvs vs/\h.DictOf (cg P w) a vs
 | .dT kvs=>kvs.length<=sizeLine/\(a == sysModules)=false/\∃ xs:List (List Key×Addr×Value),
   Paired (fun (p:List Key×V) (q:List Key×Addr×Value)=>p.1=q.1/\H q.2.1=some (.tup (p.1.map kV))/\RelV p.2 q.2.2) kvs xs /\
   ∃ o es ep,h.get? a=some o/\o.ExactDict/\o.data=.dict es ep/\es.toList=xs.map (entryOfKey (tupleKind (cg P w)))/\(xs.map (·.1)).Nodup
 | .set S n=>h.SetOf (intKind P w) a S n
 | .ins C dx fs=>H dx=some (.own a)/\fs.length<=1000/\dx≠a/\h.get? a=some (PySem.W.instObj C dx) /\
   ∃ mA,h.Ns1 dx mA/\(∀ f,nQ (fs.lookup f) (mA f))/\PySem.Within mA (fs.map (·.1))
 | .own _=>∃ o,h.get? a=some o
 | .xd fs=>∃ mA,h.Ns1 a mA/\∀ f,nQ (fs.lookup f) (mA f)
 | .rng lo hi=>∃ t u v,h.get? a=some { cls:=.type "range",data:=.fields #[.int lo t,.int hi u,.int 1 v] }
 | .frz o u=>h.get? a=some o/\bZ H h a u
 | .tbl ps=>h.get? a=some { cls:=.none,data:=.fields ps }
 | .met f x=>h.get? a=some (PySem.W.methodObj (.ref f) (.ref x))
 | .ext φ=>φ h/\(∃ o,h.get? a=some o)/\∀ h1 h2:Heap,φ h1->(∀ o,h1.get? a=some o->h2.get? a=some o)->φ h2
noncomputable def ku (H:Hp) (h:Heap):Prop:=∀ a o,H a=some o->bZ P w H h a o
end
section
variable {P:Program} {w:World} {H H':Hp} {h h':Heap} {a:Addr} {o:HO}
theorem bZ.lt (x:bZ P w H h a o):a < h.objs.size:=by
 cases o with
 | lst xs=>obtain ⟨_,_,_,_,e⟩:=x;exact Heap.lt_size e
 | tup xs=>obtain ⟨_,_,_,p⟩:=x;exact e_.lt p
 | dK kvs=>obtain ⟨_,_,_,_,o,_,_,e,_⟩:=x;exact Heap.lt_size e
 | dT kvs=>obtain ⟨_,_,_,_,o,_,_,e,_⟩:=x;exact Heap.lt_size e
 | set S n=>obtain ⟨o,_,_,_,e,_⟩:=x;exact Heap.lt_size e
 | ins C dx fs=>obtain ⟨_,_,_,e,_⟩:=x;exact Heap.lt_size e
 | own y=>obtain ⟨_,e⟩:=x;exact Heap.lt_size e
 | xd fs=>obtain ⟨_,⟨_,_,_,e,_⟩,_⟩:=x;exact Heap.lt_size e
 | rng lo hi=>obtain ⟨_,_,_,e⟩:=x;exact Heap.lt_size e
 | frz ob u=>obtain ⟨e,_⟩:=x;exact Heap.lt_size e
 | tbl ps=>exact Heap.lt_size (show h.get? a=some _ from x)
 | met f y=>exact Heap.lt_size (show h.get? a=some _ from x)
 | ext φ=>obtain ⟨_,⟨_,e⟩,_⟩:=x;exact Heap.lt_size e
theorem Paired.Ji {α β:Type} {F G:α->β->Prop}:∀ {l₁:List α} {l₂:List β},Paired F l₁ l₂->(∀ a b,F a b->G a b)->Paired G l₁ l₂
 | _,_,.nil,_=>.nil
 | _,_,.cons r t,f=>.cons (f _ _ r) (Paired.Ji t f)
theorem bZ.stay (x:bZ P w H h a o) (k:∀ b u,(b=a\/H b=some (.own a))->h.get? b=some u->h'.get? b=some u)
  (ho:∀ b,H b=some (.own a)->H' b=some (.own a)) (ht:∀ b xs,H b=some (.tup xs)->H' b=some (.tup xs)):bZ P w H' h' a o:=by
 induction o with
 | lst xs=>obtain ⟨z,its,n,r,e⟩:=x;exact ⟨z,its,n,r,k _ _ (.inl rfl) e⟩
 | tup xs=>obtain ⟨z,its,r,ob,e,c⟩:=x;exact ⟨z,its,r,ob,k _ _ (.inl rfl) e,c⟩
 | dK kvs=>obtain ⟨z,y,vs,r,ob,es,ep,e,c⟩:=x;exact ⟨z,y,vs,r,ob,es,ep,k _ _ (.inl rfl) e,c⟩
 | dT kvs=>
  obtain ⟨z,y,xs,r,ob,es,ep,e,c⟩:=x
  exact ⟨z,y,xs,Paired.Ji r fun p q z=>⟨z.1,ht _ _ z.2.1,z.2.2⟩,ob,es,ep,k _ _ (.inl rfl) e,c⟩
 | set S n=>obtain ⟨ob,es,ep,t,e,c⟩:=x;exact ⟨ob,es,ep,t,k _ _ (.inl rfl) e,c⟩
 | ins C dx fs=>
  obtain ⟨d,z,ne,e,mA,⟨od,es,ep,e2,c⟩,r⟩:=x
  exact ⟨ho _ d,z,ne,k _ _ (.inl rfl) e,mA,⟨od,es,ep,k _ _ (.inr d) e2,c⟩,r⟩
 | own y=>obtain ⟨ob,e⟩:=x;exact ⟨ob,k _ _ (.inl rfl) e⟩
 | xd fs=>obtain ⟨mA,⟨od,es,ep,e,c⟩,r⟩:=x;exact ⟨mA,⟨od,es,ep,k _ _ (.inl rfl) e,c⟩,r⟩
 | rng lo hi=>obtain ⟨t,u,v,e⟩:=x;exact ⟨t,u,v,k _ _ (.inl rfl) e⟩
 | frz ob u ih=>obtain ⟨e,q⟩:=x;exact ⟨k _ _ (.inl rfl) e,ih q⟩
 | tbl ps=>
  have e:h.get? a=some { cls:=.none,data:=.fields ps }:=x
  show h'.get? a=some { cls:=.none,data:=.fields ps }
  exact k a _ (.inl rfl) e
 | met f y=>
  have e:h.get? a=some (PySem.W.methodObj (.ref f) (.ref y)):=x
  show h'.get? a=some (PySem.W.methodObj (.ref f) (.ref y))
  exact k a _ (.inl rfl) e
 | ext φ=>obtain ⟨p,⟨o,e⟩,st⟩:=x;exact ⟨st _ _ p fun o q=>k _ _ (.inl rfl) q,⟨o,k _ _ (.inl rfl) e⟩,st⟩
theorem ku.lt (x:ku P w H h) (e:H a=some o):a < h.objs.size:=(x a o e).lt
theorem ku.fresh (x:ku P w H h) (e:h.objs.size<=a):H a=none:=by
 cases q:H a with
 | none=>rfl
 | some u=>exact absurd (Nat.lt_of_lt_of_le (x.lt q) e) (Nat.lt_irrefl _)
theorem ku.kept (x:ku P w H h) (k:∀ b u,h.get? b=some u->h'.get? b=some u):ku P w H h':=fun a o e=>
 (x a o e).stay (fun b u _ q=>k b u q) (fun _ q=>q) fun _ _ q=>q
theorem ku.laid (x:ku P w H h) (k:∀ b u,h.get? b=some u->h'.get? b=some u) (hp:h.objs.size<=a) (new:bZ P w (upd H a o) h' a o):ku P w (upd H a o) h':=fun b u e=>by
 have hn:=x.fresh hp
 by_cases hb:b=a
 ·subst hb;rw [bG] at e;cases e;exact new
 ·rw [aN hb] at e
  exact (x b u e).stay (fun c v _ q=>k c v q) (fun c q=>by rw [aN (aU q hn)];exact q) fun c xs q=>by rw [aN (aU q hn)];exact q
end
noncomputable def Rd (H:Hp) (a:Addr) (u:HO):Prop:=H a=some u\/∃ o,H a=some (.frz o u)
theorem Rd.ok {P:Program} {w:World} {H:Hp} {h:Heap} {a:Addr} {u:HO} (r:Rd H a u) (x:ku P w H h):bZ P w H h a u:=by
 rcases r with r | ⟨o,r⟩
 ·exact x a u r
 ·obtain ⟨_,q⟩:=x a _ r
  exact q
noncomputable def Lw:Option HO->Prop
 | some (.lst _)=>True
 | some (.dK _)=>True
 | some (.dT _)=>True
 | some (.set _ _)=>True
 | some (.ins _ _ _)=>True
 | some (.ext _)=>True
 | _=>False
section
variable {P:Program} {w:World} {H:Hp} {h h':Heap} {x e:Addr} {o':HO}
theorem ku.write (ok:ku P w H h) (mu:Lw (H x)) (he:e=x\/H e=some (.own x)) (k:∀ b u,b≠e->h.get? b=some u->h'.get? b=some u) (heo:∃ u,h'.get? e=some u)
  (new:bZ P w (upd H x o') h' x o'):ku P w (upd H x o') h':=fun b u q=>by
 have nown:∀ c y,H c=some (.own y)->c≠x:=fun c y r z=>by subst z;rw [r] at mu;exact mu
 have ntup:∀ c xs,H c=some (.tup xs)->c≠x:=fun c xs r z=>by subst z;rw [r] at mu;exact mu
 by_cases hb:b=x
 ·subst hb;rw [bG] at q;cases q;exact new
 ·rw [aN hb] at q
  by_cases hbe:b=e
  ·have q':H b=some (.own x):=by
    rcases he with z | z
    ·exact absurd (hbe.trans z) hb
    ·rw [hbe];exact z
   rw [q] at q';cases q'
   obtain ⟨v,hv⟩:=heo
   exact ⟨v,by rw [hbe];exact hv⟩
  ·refine (ok b u q).stay (fun c v hc r=>k c v ?_ r) (fun c r=>by rw [aN (nown c b r)];exact r) fun c xs r=>by rw [aN (ntup c xs r)];exact r
   rcases hc with rfl | hc
   ·exact hbe
   ·rintro rfl
    rcases he with z | z
    ·exact nown c b hc z
    ·rw [hc] at z;cases z;exact hb rfl
end
structure Un (fs ex:List Addr) (H H':Hp) (h h':Heap):Prop where
 keep:∀ b o,h.get? b=some o->H b=none->b∉fs->b∉ex->h'.get? b=some o
 slot:∀ b o,h.get? b=some o->H b=none->b∈fs->b∉ex->∃ sl,h'.get? b=some { o with slots:=sl }
 free:∀ b o,h.get? b=some o->H b=none->b∉ex->H' b=none
 there:∀ b o,h.get? b=some o->b∉ex->∃ o',h'.get? b=some o'
 tups:∀ b xs,H b=some (.tup xs)->H' b=some (.tup xs)
 frzs:∀ b o u,H b=some (.frz o u)->H' b=some (.frz o u)
 tbls:∀ b ps,H b=some (.tbl ps)->∃ more,H' b=some (.tbl (ps++more))
section
variable {fs fs' ex ex':List Addr} {H H1 H2:Hp} {h h1 h2 h':Heap} {a x e:Addr} {o:HO}
theorem Un.any (u:Un fs ex H H1 h h1) {b:Addr} {ob:Obj} (q:h.get? b=some ob) (n:H b=none) (hx:b∉ex):∃ sl,h1.get? b=some { ob with slots:=sl }:=by
 by_cases hb:b∈fs
 ·exact u.slot b ob q n hb hx
 ·exact ⟨ob.slots,u.keep b ob q n hb hx⟩
theorem Un.kept (k:∀ b u,h.get? b=some u->h'.get? b=some u):Un fs ex H H h h':=
 ⟨fun b ob q _ _ _=>k b ob q,fun b ob q _ _ _=>⟨ob.slots,k b ob q⟩,fun _ _ _ n _=>n,fun b ob q _=>⟨ob,k b ob q⟩,fun _ _ q=>q,fun _ _ _ q=>q,fun _ ps q=>⟨#[],by rw [q];simp⟩⟩
theorem Un.refl:Un fs ex H H h h:=Un.kept fun _ _ q=>q
theorem Un.laid (k:∀ b u,h.get? b=some u->h'.get? b=some u) (hp:h.objs.size<=a) (hn:H a=none):Un fs ex H (upd H a o) h h' where
 keep:=fun b u q _ _ _=>k b u q
 slot:=fun b u q _ _ _=>⟨u.slots,k b u q⟩
 free:=fun b u q n _=>by rw [aN (Nat.ne_of_lt (Nat.lt_of_lt_of_le (Heap.lt_size q) hp))];exact n
 there:=fun b u q _=>⟨u,k b u q⟩
 tups:=fun b xs q=>by rw [aN (aU q hn)];exact q
 frzs:=fun b u xs q=>by rw [aN (aU q hn)];exact q
 tbls:=fun b ps q=>⟨#[],by rw [aN (aU q hn),q];simp⟩
theorem Un.write (mu:Lw (H x)) (he:e=x\/H e=some (.own x)) (k:∀ b u,b≠e->h.get? b=some u->h'.get? b=some u) (heo:∃ u,h'.get? e=some u):Un fs ex H (upd H x o) h h':=by
 have hx:∀ b,H b=none->b≠x:=fun b n z=>by subst z;rw [n] at mu;exact mu
 have hb:∀ b,H b=none->b≠e:=fun b n z=>by
  subst z
  rcases he with r | r
  ·exact hx b n r
  ·rw [n] at r;cases r
 have hm:∀ b u,H b=some u->¬ Lw (some u)->b≠x:=fun b u q nm z=>by subst z;rw [q] at mu;exact nm mu
 refine ⟨fun b u q n _ _=>k b u (hb b n) q,fun b u q n _ _=>⟨u.slots,k b u (hb b n) q⟩,fun b u q n _=>by rw [aN (hx b n)];exact n,fun b u q _=>?_,
  fun b xs q=>by rw [aN (hm b _ q fun z=>z)];exact q,fun b u xs q=>by rw [aN (hm b _ q fun z=>z)];exact q,fun b ps q=>⟨#[],by rw [aN (hm b _ q fun z=>z),q];simp⟩⟩
 by_cases hbe:b=e
 ·subst hbe;exact heo
 ·exact ⟨u,k b u hbe q⟩
end
noncomputable def Mr (h:Heap) (H:Hp):List Addr:=(List.range h.objs.size).filter fun a=>(H a).isSome
noncomputable def rK (h:Heap) (H:Hp):Heap:=PySem.W.hideAll h (Mr h H)
theorem zY (h:Heap) (H:Hp):(rK h H).objs.size=h.objs.size:=PySem.W.hideAll_size _ _
theorem BU {h:Heap} {H:Hp} {b:Addr} {o:Obj} (e:h.get? b=some o) (n:H b=none):(rK h H).get? b=some o:=
 PySem.W.hideAll_get _ e fun hm=>by
  have q:(H b).isSome=true:=(List.mem_filter.mp hm).2
  rw [n] at q;simp at q
theorem Gp {h:Heap} {H:Hp} {b:Addr} {o:Obj} (e:(rK h H).get? b=some o):h.get? b=some o/\H b=none:=by
 have e':h.get? b=some o:=PySem.W.of_hideAll (Mr h H) e
 refine ⟨e',?_⟩
 cases q:H b with
 | none=>rfl
 | some x=>
  have hm:b∈Mr h H:=List.mem_filter.mpr ⟨List.mem_range.mpr (Heap.lt_size e'),by simp [q]⟩
  have z:(rK h H).get? b=none:=PySem.W.hideAll_none (Mr h H) hm
  rw [z] at e;cases e
noncomputable def E6 (g h:Heap) (L:Addr):List (Addr×Obj):=(List.range h.objs.size).filterMap fun a=>if a=L\/(g.get? a).isSome=true then none else (h.get? a).map fun o=>(a,o)
noncomputable def rest (g h:Heap) (L d:Addr):List (Addr×Obj):=(E6 g h L).filter fun p=>decide (p.1≠d)
structure Mod (K:PySem.W.Frag) (mg:Str->Option Value) (base:Heap):Prop where
 kin:K.In base
 glob:base.Ns mainGlobals mg
 blt:∃ mb,base.Ns builtinsNs mb/\∀ x:Str,x ≠ "__name__" -> mb x=bootBuiltins x
 nolimit:base.NoLimit
structure Cx where
 prog:Program
 w:World
 K:PySem.W.Frag
 mg:Str->Option Value
 base:Heap
 A:Around
 N:List Str
 s₀:Shared
 H₀:Hp
 env:Env
 outer:List Env
 stack:List Env
 ex:List Addr
 fn:Str->Bool
 calm:Bool
 pn:List (Addr×Obj)
 xe:Value->Shared->Prop
noncomputable def frs (l:List Env):List Addr:=l.filterMap (·.frame)
noncomputable abbrev Cx.fs (X:Cx):List Addr:=frs X.outer
noncomputable def Ku (sc:Scope) (x:Str):Prop:=sc.names.lookup x=some .local\/sc.names.lookup x=some .cell\/sc.names.lookup x=some .free
noncomputable def Loc (sc:Scope) (x:Str):Prop:=sc.names.lookup x=some .local\/sc.names.lookup x=some .cell
noncomputable def Look (env:Env) (h:Heap) (m:Str->Option Value) (x:Str) (u:Value):Prop:=
 (env.kindOf x=some .local/\m x=some u)\/((env.kindOf x=some .cell\/env.kindOf x=some .free)/\∃ c,env.cells.lookup x=some c/\h.IsCell c (some u))
structure Cx.Ok (X:Cx):Prop where
 mod:Mod X.K X.mg X.base
 kind:X.env.scope.kind=.function
 glob:X.env.globals=mainGlobals
 blt:X.env.builtins=builtinsNs
 above:X.s₀.heap.objs.size<=X.env.locals
 inj:∀ x y c,X.env.cells.lookup x=some c->X.env.cells.lookup y=some c->x=y
 has:∀ x,(X.env.kindOf x=some .cell\/X.env.kindOf x=some .free)->∃ c,X.env.cells.lookup x=some c
 cab:∀ x c,X.fn x=true->X.env.cells.lookup x=some c->X.s₀.heap.objs.size<=c
 hd:X.calm=true->X.A.handled=none
 frames:X.A.frames=some X.stack
 stk:X.stack=X.outer\/(X.stack=X.env::X.outer/\X.env.frame=some X.env.locals)
 exf:∀ b∈X.ex,b≠X.env.locals/\∀ x c,X.env.cells.lookup x=some c->c≠b
 bs:∀ b o,X.base.get? b=some o->X.s₀.heap.get? b=some o/\X.H₀ b=none
 bsz:X.base.objs.size<=X.s₀.heap.objs.size
 noex:∀ b o,X.base.get? b=some o->b∉X.ex
 exfs:∀ b∈X.ex,b∉X.fs
 pK:X.s₀.heap.FunFrames X.base X.outer
 frf:∀ b∈X.fs,X.H₀ b=none
structure Inv (X:Cx) (pins:List (Addr×Obj)) (σ:List (Option V)) (H:Hp) (s:Shared):Prop where
 ok:X.Ok
 os:s.os=X.s₀.os
 bare:AllBare s.gens
 base:Un X.fs X.ex X.H₀ H X.s₀.heap s.heap
 loc:∃ m,s.heap.Ns X.env.locals m/\∀ (i:Nat) (x:Str) (v:V),X.N[i]?=some x->σ[i]?=some (some v)->Ku X.env.scope x->∃ u,RelV v u/\Look X.env s.heap m x u
 cell:∀ x c,X.env.cells.lookup x=some c->∃ v,s.heap.IsCell c v
 free:H X.env.locals=none
 freeC:∀ x c,X.env.cells.lookup x=some c->H c=none
 pin:∀ p∈X.pn++pins,s.heap.get? p.1=some p.2/\H p.1=none/\p.1≠X.env.locals/\p.1∉X.fs/\∀ v,p.2.data≠.cell v
 hok:ku X.prog X.w H s.heap
 len:σ.length=X.N.length
section
variable {X:Cx} {pins:List (Addr×Obj)} {σ:List (Option V)} {H H':Hp} {s:Shared} {h':Heap}
theorem Cx.Ok.Nz (ok:X.Ok) {b:Addr} {o:Obj} (e:X.base.get? b=some o):b∉X.fs:=fun hb=>by
 have:=(ok.pK.mem hb).1
 rw [e] at this;cases this
theorem Inv.bs (I:Inv X pins σ H s):∀ b o,X.base.get? b=some o->s.heap.get? b=some o/\H b=none:=fun b o e=>
 ⟨I.base.keep b o (I.ok.bs b o e).1 (I.ok.bs b o e).2 (I.ok.Nz e) (I.ok.noex b o e),I.base.free b o (I.ok.bs b o e).1 (I.ok.bs b o e).2 (I.ok.noex b o e)⟩
theorem Inv.bk (I:Inv X pins σ H s):∀ b o,X.base.get? b=some o->s.heap.get? b=some o:=fun b o e=>(I.bs b o e).1
theorem Inv.mod (I:Inv X pins σ H s):Mod X.K X.mg X.base:=I.ok.mod
theorem Inv.rY (I:Inv X pins σ H s):X.K.In s.heap:=I.ok.mod.kin.keeps I.bk
theorem Inv.lt (I:Inv X pins σ H s):X.env.locals < s.heap.objs.size:=let ⟨_,hn,_⟩:=I.loc;hn.lt
theorem Inv.sz (I:Inv X pins σ H s):X.s₀.heap.objs.size<=s.heap.objs.size:=Nat.le_trans I.ok.above (Nat.le_of_lt I.lt)
theorem Inv.Nc (I:Inv X pins σ H s) {a:Addr} (h:s.heap.objs.size<=a):a∉X.fs:=fun hb=>by
 obtain ⟨_,o,ho,_⟩:=I.ok.pK.mem hb
 exact absurd (Nat.lt_of_lt_of_le (Heap.lt_size ho) (Nat.le_trans I.sz h)) (Nat.lt_irrefl _)
theorem Inv.IT (I:Inv X pins σ H s):∀ x c,X.env.cells.lookup x=some c->c≠X.env.locals:=fun x c e z=>by
 obtain ⟨v,o,ho,hd⟩:=I.cell x c e
 obtain ⟨m,⟨o',es,ep,ho',hd',_⟩,_⟩:=I.loc
 rw [z,ho'] at ho;cases ho;rw [hd'] at hd;cases hd
theorem Inv.pK (I:Inv X pins σ H s):s.heap.FunFrames X.base X.outer:=by
 have all:∀ (l:List Env),(∀ b∈frs l,b∈X.fs)->X.s₀.heap.FunFrames X.base l->s.heap.FunFrames X.base l:=by
  intro l
  induction l with
  | nil=>intro _ _;trivial
  | cons env r ih=>
   intro hs hl
   obtain ⟨hk,⟨L,o,hf,hn,ho,hd⟩,hr⟩:=hl
   have hL:L∈X.fs:=hs L (by unfold frs;rw [List.filterMap_cons,hf];exact List.mem_cons_self)
   obtain ⟨sl,e⟩:=I.base.slot L o ho (I.ok.frf L hL) hL fun z=>I.ok.exfs L z hL
   exact ⟨hk,⟨L,_,hf,hn,e,hd⟩,ih (fun b hb=>hs b (by unfold frs;rw [List.filterMap_cons,hf];exact List.mem_cons_of_mem _ hb)) hr⟩
 exact all X.outer (fun _ hb=>hb) I.ok.pK
theorem Inv.stack (I:Inv X pins σ H s):s.heap.FunFrames X.base X.stack:=by
 rcases I.ok.stk with e | ⟨e,hf⟩
 ·rw [e];exact I.pK
 ·rw [e]
  obtain ⟨m,hn,_⟩:=I.loc
  refine .cons (by rw [I.ok.kind];decide) hf hn ?_ I.pK
  exact Heap.get?_none_of_le (Nat.le_trans I.ok.bsz I.ok.above)
theorem Inv.vG (I:Inv X pins σ H s):∀ b∈frs X.stack,b∈X.env.locals::X.fs:=fun b hb=>by
 rcases I.ok.stk with e | ⟨e,hf⟩
 ·rw [e] at hb;exact List.mem_cons_of_mem _ hb
 ·rw [e] at hb
  unfold frs at hb
  rw [List.filterMap_cons,hf] at hb
  exact hb
theorem Inv.wD (I:Inv X pins σ H s):∀ b∈frs X.stack,H b=none:=fun b hb=>by
 rcases List.mem_cons.mp (I.vG b hb) with e | hb
 ·rw [e];exact I.free
 ·obtain ⟨_,o,ho,_⟩:=I.ok.pK.mem hb
  exact I.base.free b o ho (I.ok.frf b hb) fun z=>I.ok.exfs b z hb
theorem Inv.step {g':Array GenState} {t':Nat} {d':Drawn} {ch:List Addr} (I:Inv X pins σ H s)
  (hch:∀ b∈ch,(b∈X.ex\/X.s₀.heap.objs.size<=b)/\b≠X.env.locals/\(∀ x c,X.env.cells.lookup x=some c->c≠b)/\∀ p∈X.pn++pins,p.1≠b)
  (keep:∀ b o,b≠X.env.locals->b∉X.fs->b∉ch->s.heap.get? b=some o->H b=none->h'.get? b=some o)
  (slot:∀ b o,b≠X.env.locals->b∈X.fs->b∉ch->s.heap.get? b=some o->H b=none->∃ sl,h'.get? b=some { o with slots:=sl }) (free:∀ b o,b∉ch->s.heap.get? b=some o->H b=none->H' b=none)
  (there:∀ b o,b∉ch->s.heap.get? b=some o->∃ o',h'.get? b=some o')
  (tups:∀ b xs,H b=some (.tup xs)->H' b=some (.tup xs)) (frzs:∀ b o u,H b=some (.frz o u)->H' b=some (.frz o u)) (tbls:∀ b ps,H b=some (.tbl ps)->∃ more,H' b=some (.tbl (ps++more)))
  (ns:∀ m,s.heap.Ns X.env.locals m->h'.Ns X.env.locals m) (hok:ku X.prog X.w H' h') (hg:AllBare g') :
  Inv X pins σ H' { s with heap:=h',gens:=g',drawn:=d',toks:=t' }:=by
 have neL:∀ b o,X.s₀.heap.get? b=some o->b≠X.env.locals:=fun b o e=>Nat.ne_of_lt (Nat.lt_of_lt_of_le (Heap.lt_size e) I.ok.above)
 have neC:∀ b o,X.s₀.heap.get? b=some o->b∉X.ex->b∉ch:=fun b o e hx hb=>by
  rcases (hch b hb).1 with z | z
  ·exact hx z
  ·exact absurd (Nat.lt_of_lt_of_le (Heap.lt_size e) z) (Nat.lt_irrefl _)
 have cellK:∀ x c,X.env.cells.lookup x=some c->∀ v,s.heap.IsCell c v->h'.IsCell c v:=fun x c e v ⟨o,ho,hd⟩=>by
  have nch:c∉ch:=fun z=>(hch c z).2.2.1 x c e rfl
  by_cases hc:c∈X.fs
  ·obtain ⟨sl,q⟩:=slot c o (I.IT x c e) hc nch ho (I.freeC x c e)
   exact ⟨_,q,hd⟩
  ·exact ⟨o,keep c o (I.IT x c e) hc nch ho (I.freeC x c e),hd⟩
 refine ⟨I.ok,I.os,hg,⟨fun b o e n hb hx=>?_,fun b o e n hb hx=>?_,fun b o e n hx=>?_,fun b o e hx=>?_,fun b xs e=>tups b xs (I.base.tups b xs e),fun b o xs e=>frzs b o xs (I.base.frzs b o xs e),fun b ps e=>?_⟩,?_,fun x c e=>?_,?_,fun x c e=>?_,fun p hp=>?_,hok,I.len⟩
 ·exact keep b o (neL b o e) hb (neC b o e hx) (I.base.keep b o e n hb hx) (I.base.free b o e n hx)
 ·obtain ⟨sl,e1⟩:=I.base.slot b o e n hb hx
  obtain ⟨sl',e2⟩:=slot b _ (neL b o e) hb (neC b o e hx) e1 (I.base.free b o e n hx)
  exact ⟨sl',e2⟩
 ·obtain ⟨o',e1⟩:=I.base.there b o e hx
  exact free b o' (neC b o e hx) e1 (I.base.free b o e n hx)
 ·obtain ⟨o',e1⟩:=I.base.there b o e hx
  exact there b o' (neC b o e hx) e1
 ·obtain ⟨m1,e1⟩:=I.base.tbls b ps e
  obtain ⟨m2,e2⟩:=tbls b _ e1
  exact ⟨m1++m2,by rw [e2,Array.append_assoc]⟩
 ·obtain ⟨m,hn,hl⟩:=I.loc
  refine ⟨m,ns m hn,fun i x v e1 e2 e3=>?_⟩
  obtain ⟨u,r,l⟩:=hl i x v e1 e2 e3
  refine ⟨u,r,?_⟩
  rcases l with l | ⟨k,c,e,z⟩
  ·exact .inl l
  ·exact .inr ⟨k,c,e,cellK x c e _ z⟩
 ·obtain ⟨v,z⟩:=I.cell x c e
  exact ⟨v,cellK x c e v z⟩
 ·obtain ⟨m,⟨o,_,_,ho,_⟩,_⟩:=I.loc
  exact free _ o (fun z=>(hch _ z).2.1 rfl) ho I.free
 ·obtain ⟨v,o,ho,hd⟩:=I.cell x c e
  exact free c o (fun z=>(hch c z).2.2.1 x c e rfl) ho (I.freeC x c e)
 ·obtain ⟨e,n,ne,nf,d⟩:=I.pin p hp
  have nch:p.1∉ch:=fun z=>(hch p.1 z).2.2.2 p hp rfl
  exact ⟨keep p.1 p.2 ne nf nch e n,free p.1 p.2 nch e n,ne,nf,d⟩
theorem Inv.un {t':Nat} (I:Inv X pins σ H s) (u:Un X.fs [] H H' s.heap h') (hok:ku X.prog X.w H' h'):Inv X pins σ H' { s with heap:=h',toks:=t' }:=by
 obtain ⟨m,⟨o,es,ep,ho,r⟩,_⟩:=id I.loc
 obtain ⟨sl,hL⟩:=u.any ho I.free (by simp)
 exact I.step (g':=s.gens) (d':=s.drawn) (ch:=[]) (fun _ z=>nomatch z) (fun b o _ hb _ e n=>u.keep b o e n hb (by simp)) (fun b o _ hb _ e n=>u.slot b o e n hb (by simp)) (fun b o _ e n=>u.free b o e n (by simp)) (fun b o _ e=>u.there b o e (by simp)) u.tups u.frzs u.tbls (fun m' hm=>by
  obtain ⟨o',es',ep',ho',r'⟩:=hm
  rw [ho] at ho';cases ho'
  exact ⟨_,es',ep',hL,r'⟩) hok I.bare
theorem Inv.call {g':Array GenState} {t':Nat} {d':Drawn} {ch:List Addr} (I:Inv X pins σ H s) (u:Un (frs X.stack) ch H H' s.heap h') (hok:ku X.prog X.w H' h') (hg:AllBare g')
  (hch:∀ b∈ch,(b∈X.ex\/X.s₀.heap.objs.size<=b)/\b≠X.env.locals/\(∀ x c,X.env.cells.lookup x=some c->c≠b)/\∀ p∈X.pn++pins,p.1≠b) :
  Inv X pins σ H' { s with heap:=h',gens:=g',drawn:=d',toks:=t' }:=by
 obtain ⟨m,⟨o,es,ep,ho,r⟩,_⟩:=id I.loc
 obtain ⟨sl,hL⟩:=u.any ho I.free fun z=>(hch _ z).2.1 rfl
 exact I.step (ch:=ch) hch (fun b o hL hb hc e n=>u.keep b o e n (fun z=>(List.mem_cons.mp (I.vG b z)).elim hL hb) hc) (fun b o _ _ hc e n=>u.any e n hc) (fun b o hc e n=>u.free b o e n hc) (fun b o hc e=>u.there b o e hc) u.tups u.frzs u.tbls (fun m' hm=>by
  obtain ⟨o',es',ep',ho',r'⟩:=hm
  rw [ho] at ho';cases ho'
  exact ⟨_,es',ep',hL,r'⟩) hok hg
theorem Inv.turned {t':Nat} {it:Addr} (I:Inv X pins σ H s) (k:∀ b o,b≠it->s.heap.get? b=some o->h'.get? b=some o) (hn:H it=none) (hL:it≠X.env.locals)
  (h1:it∈X.ex\/X.s₀.heap.objs.size<=it) (h2:∀ x c,X.env.cells.lookup x=some c->c≠it) (h3:∀ p∈X.pn++pins,p.1≠it):Inv X pins σ H { s with heap:=h',toks:=t' }:=by
 have nit:∀ b u,H b=some u->b≠it:=fun b u e z=>by rw [z,hn] at e;cases e
 refine I.step (g':=s.gens) (d':=s.drawn) (ch:=[it]) (fun b hb=>?_) (fun b o _ _ hc e _=>k b o (fun z=>hc (by simp [z])) e) (fun b o _ _ hc e _=>⟨o.slots,k b o (fun z=>hc (by simp [z])) e⟩) (fun _ _ _ _ n=>n)
  (fun b o hc e=>⟨o,k b o (fun z=>hc (by simp [z])) e⟩) (fun _ _ e=>e) (fun _ _ _ e=>e) (fun b ps e=>⟨#[],by rw [e];simp⟩) (fun m hm=>?_) (fun b u e=>?_) I.bare
 ·have e:b=it:=by simpa using hb
  subst e
  exact ⟨h1,hL,h2,h3⟩
 ·obtain ⟨o,es,ep,ho,r⟩:=hm
  exact ⟨o,es,ep,k _ o (Ne.symm hL) ho,r⟩
 ·refine (I.hok b u e).stay (fun c v hc q=>k c v ?_ q) (fun _ q=>q) fun _ _ q=>q
  rcases hc with z | z
  ·rw [z];exact nit b u e
  ·exact nit c _ z
theorem Inv.tok (I:Inv X pins σ H s) (t:Nat):Inv X pins σ H { s with toks:=t }:=I.un (h':=s.heap) (t':=t) Un.refl I.hok
theorem Inv.kept {t':Nat} (I:Inv X pins σ H s) (k:∀ b u,s.heap.get? b=some u->h'.get? b=some u):Inv X pins σ H { s with heap:=h',toks:=t' }:=I.un (Un.kept k) (I.hok.kept k)
theorem Inv.laid {a:Addr} {o:HO} {t':Nat} (I:Inv X pins σ H s) (k:∀ b u,s.heap.get? b=some u->h'.get? b=some u) (hp:s.heap.objs.size<=a) (new:bZ X.prog X.w (upd H a o) h' a o) :
  Inv X pins σ (upd H a o) { s with heap:=h',toks:=t' }:=I.un (Un.laid k hp (I.hok.fresh hp)) (I.hok.laid k hp new)
theorem Inv.write {x e:Addr} {o:HO} {t':Nat} (I:Inv X pins σ H s) (mu:Lw (H x)) (he:e=x\/H e=some (.own x)) (k:∀ b u,b≠e->s.heap.get? b=some u->h'.get? b=some u) (heo:∃ u,h'.get? e=some u)
  (new:bZ X.prog X.w (upd H x o) h' x o):Inv X pins σ (upd H x o) { s with heap:=h',toks:=t' }:=I.un (Un.write mu he k heo) (I.hok.write mu he k heo new)
theorem Inv.wR {pins':List (Addr×Obj)} (I:Inv X pins σ H s) (h:∀ p∈pins',s.heap.get? p.1=some p.2/\H p.1=none/\p.1≠X.env.locals/\p.1∉X.fs/\∀ v,p.2.data≠.cell v):Inv X pins' σ H s:=
 ⟨I.ok,I.os,I.bare,I.base,I.loc,I.cell,I.free,I.freeC,fun p hp=>(List.mem_append.mp hp).elim (fun z=>I.pin p (List.mem_append_left _ z)) (h p),I.hok,I.len⟩
theorem uG {N:List Str} (hN:N.Nodup) {i j:Nat} {x:Str} (a:N[i]?=some x) (b:N[j]?=some x):i=j:=by
 obtain ⟨h1,e1⟩:=List.getElem?_eq_some_iff.mp a
 obtain ⟨h2,e2⟩:=List.getElem?_eq_some_iff.mp b
 exact (List.getElem_inj hN).mp (e1.trans e2.symm)
theorem zX {M:Model} {A:Around} {E:Value->Shared->Prop} {i:Nat} {x:Str} {v:V} {u:Value} {Q:Unit->Shared->Prop} (I:Inv X pins σ H s) (hN:X.N.Nodup) (hi:X.N[i]?=some x) (hx:Loc X.env.scope x) (r:RelV v u)
  (h:∀ s',Inv X pins (σ.set i (some v)) H s'->(∃ a,Heap.SameBut a s.heap s'.heap/\(a=X.env.locals\/X.env.cells.lookup x=some a))->Q () s') (hf:X.fn x=true\/X.env.scope.names.lookup x=some .local:=by first | exact .inl rfl | exact .inr rfl | assumption):wpAny M A (storeName X.env x u) Q E s:=by
 obtain ⟨m,hn,hl⟩:=id I.loc
 have hcls:(X.env.scope.kind == .class || (X.env.scope.kind == .module && X.env.locals != X.env.globals))=false:=by rw [I.ok.kind];rfl
 have hiσ:i < σ.length:=by rw [I.len];exact (List.getElem?_eq_some_iff.mp hi).1
 have IT:=I.IT
 have tracked:∀ {a:Addr} {h':Heap},(∃ o,s.heap.get? a=some o/\H a=none)->Heap.SameBut a s.heap h'->ku X.prog X.w H h':=fun {a h'} ha hs b ob e=>by
  obtain ⟨_,_,hfree⟩:=ha
  refine (I.hok b ob e).stay (fun c w' hc q=>(hs.2 c ?_).trans q) (fun _ q=>q) fun _ _ q=>q
  rintro rfl
  rcases hc with rfl | hc
  ·rw [hfree] at e;cases e
  ·rw [hfree] at hc;cases hc
 rcases hx with hk | hk
 ·refine wpAny_storeName_local hk hn (fun h' hn' hs=>?_) hcls
  obtain ⟨oL,_,_,hoL,_⟩:=id hn
  refine h _ ⟨I.ok,I.os,I.bare,⟨fun b o e n hb hx=>?_,fun b o e n hb hx=>?_,I.base.free,fun b o e hx=>?_,I.base.tups,I.base.frzs,I.base.tbls⟩,⟨_,hn',fun j y v' e1 e2 e3=>?_⟩,fun y c e=>?_,I.free,I.freeC,fun p hp=>?_,tracked ⟨oL,hoL,I.free⟩ hs,by simpa using I.len⟩ ⟨_,hs,.inl rfl⟩
  ·exact (hs.2 b (Nat.ne_of_lt (Nat.lt_of_lt_of_le (Heap.lt_size e) I.ok.above))).trans (I.base.keep b o e n hb hx)
  ·obtain ⟨sl,e1⟩:=I.base.slot b o e n hb hx
   exact ⟨sl,(hs.2 b (Nat.ne_of_lt (Nat.lt_of_lt_of_le (Heap.lt_size e) I.ok.above))).trans e1⟩
  ·obtain ⟨o',e1⟩:=I.base.there b o e hx
   exact ⟨o',(hs.2 b (Nat.ne_of_lt (Nat.lt_of_lt_of_le (Heap.lt_size e) I.ok.above))).trans e1⟩
  ·by_cases hj:j=i
   ·subst hj
    rw [hi] at e1;cases e1
    rw [List.getElem?_set_self hiσ] at e2
    cases e2
    exact ⟨u,r,.inl ⟨hk,by simp⟩⟩
   ·rw [List.getElem?_set_ne (Ne.symm hj)] at e2
    obtain ⟨u',r',q⟩:=hl j y v' e1 e2 e3
    refine ⟨u',r',?_⟩
    rcases q with ⟨k,e⟩ | ⟨k,c,e,z⟩
    ·refine .inl ⟨k,?_⟩
     have:y≠x:=fun e=>hj (uG hN e1 (e ▸ hi))
     simp [this,e]
    ·exact .inr ⟨k,c,e,z.sameBut hs (IT y c e)⟩
  ·obtain ⟨w',z⟩:=I.cell y c e
   exact ⟨w',z.sameBut hs (IT y c e)⟩
  ·obtain ⟨e,n,ne,nf,d⟩:=I.pin p hp
   exact ⟨(hs.2 p.1 ne).trans e,n,ne,nf,d⟩
 ·have hfn:X.fn x=true:=by
   rcases hf with z | z
   ·exact z
   ·rw [z] at hk;cases hk
  obtain ⟨c,hc⟩:=I.ok.has x (.inl hk)
  obtain ⟨w',z⟩:=I.cell x c hc
  refine wpAny_storeName_cell I.ok.kind hk hc z (fun h' hc' hs=>?_)
  obtain ⟨oc,hoc,hocd⟩:=id z
  refine h { s with heap:=h' } ⟨I.ok,I.os,I.bare,⟨fun b o e n hb hx=>?_,fun b o e n hb hx=>?_,I.base.free,fun b o e hx=>?_,I.base.tups,I.base.frzs,I.base.tbls⟩,⟨m,hn.sameBut hs (Ne.symm (IT x c hc)),fun j y v' e1 e2 e3=>?_⟩,fun y c' e=>?_,I.free,I.freeC,fun p hp=>?_,tracked ⟨oc,hoc,I.freeC x c hc⟩ hs,by simpa using I.len⟩ ⟨c,hs,.inr hc⟩
  ·exact (hs.2 b (Nat.ne_of_lt (Nat.lt_of_lt_of_le (Heap.lt_size e) (I.ok.cab x c hfn hc)))).trans (I.base.keep b o e n hb hx)
  ·obtain ⟨sl,e1⟩:=I.base.slot b o e n hb hx
   exact ⟨sl,(hs.2 b (Nat.ne_of_lt (Nat.lt_of_lt_of_le (Heap.lt_size e) (I.ok.cab x c hfn hc)))).trans e1⟩
  ·obtain ⟨o',e1⟩:=I.base.there b o e hx
   exact ⟨o',(hs.2 b (Nat.ne_of_lt (Nat.lt_of_lt_of_le (Heap.lt_size e) (I.ok.cab x c hfn hc)))).trans e1⟩
  ·by_cases hj:j=i
   ·subst hj
    rw [hi] at e1;cases e1
    rw [List.getElem?_set_self hiσ] at e2
    cases e2
    exact ⟨u,r,.inr ⟨.inl hk,c,hc,hc'⟩⟩
   ·rw [List.getElem?_set_ne (Ne.symm hj)] at e2
    obtain ⟨u',r',q⟩:=hl j y v' e1 e2 e3
    refine ⟨u',r',?_⟩
    rcases q with q | ⟨k,c',e,z'⟩
    ·exact .inl q
    ·refine .inr ⟨k,c',e,z'.sameBut hs ?_⟩
     rintro rfl
     exact hj (uG hN e1 (I.ok.inj _ _ _ e hc ▸ hi))
  ·by_cases hcc:c'=c
   ·subst hcc;exact ⟨_,hc'⟩
   ·obtain ⟨w2,z2⟩:=I.cell y c' e
    exact ⟨w2,z2.sameBut hs hcc⟩
  ·obtain ⟨e,n,ne,nf,d⟩:=I.pin p hp
   refine ⟨(hs.2 p.1 ?_).trans e,n,ne,nf,d⟩
   intro q
   rw [q,hoc] at e
   have q':oc=p.2:=Option.some.inj e
   exact d w' (by rw [<- q'];exact hocd)
theorem jt {M:Model} {A:Around} {E:Value->Shared->Prop} {i:Nat} {x:Str} {v:V} {u:Value} {Q:Unit->Shared->Prop} (I:Inv X pins σ H s) (hN:X.N.Nodup) (hi:X.N[i]?=some x) (hx:Loc X.env.scope x) (r:RelV v u)
  (h:∀ s',Inv X pins (σ.set i (some v)) H s'->Q () s') (hf:X.fn x=true\/X.env.scope.names.lookup x=some .local:=by first | exact .inl rfl | exact .inr rfl | assumption):wpAny M A (storeName X.env x u) Q E s:=
 zX I hN hi hx r (fun s' I' _=>h s' I') hf
theorem Inv.ze {s':Shared} {ch:List Addr} (I:Inv X pins σ H s) (ho:s'.os=s.os) (u:Un (frs X.stack) ch H H' s.heap s'.heap) (hok:ku X.prog X.w H' s'.heap) (hg:AllBare s'.gens)
  (hch:∀ b∈ch,(b∈X.ex\/X.s₀.heap.objs.size<=b)/\b≠X.env.locals/\(∀ x c,X.env.cells.lookup x=some c->c≠b)/\∀ p∈X.pn++pins,p.1≠b):Inv X pins σ H' s':=by
 obtain ⟨h',g',d',t',o'⟩:=s'
 have e:o'=s.os:=ho
 subst e
 exact I.call (g':=g') (t':=t') (d':=d') u hok hg hch
end
noncomputable abbrev XK:=Value->Option Addr->Hp->Prop
noncomputable abbrev St:=List (Option V)
noncomputable abbrev VK:=V->Hp->Prop
noncomputable abbrev TE:=St->Hp->VK->Prop
noncomputable abbrev TT:=St->Hp->(Bool->Hp->Prop)->Prop
noncomputable abbrev TA:=St->Hp->(List V->Hp->Prop)->Prop
structure Ends where
 nx:St->Hp->Prop
 rt:VK
 bk:St->Hp->Prop:=fun _ _=>False
 ct:St->Hp->Prop:=fun _ _=>False
noncomputable abbrev TS:=Ends->St->Hp->Prop
noncomputable def EP (X:Cx) (pins:List (Addr×Obj)) (σ:St) (Q:VK) (u:Value) (s':Shared):Prop:=∃ v H',Inv X pins σ H' s'/\RelV v u/\Q v H'
noncomputable def TP (X:Cx) (pins:List (Addr×Obj)) (σ:St) (Q:Bool->Hp->Prop) (b:Bool) (s':Shared):Prop:=∃ H',Inv X pins σ H' s'/\Q b H'
noncomputable def AP (X:Cx) (pins:List (Addr×Obj)) (σ:St) (Q:List V->Hp->Prop) (us:List Value) (s':Shared):Prop:=∃ vs H',Inv X pins σ H' s'/\Vals vs us/\Q vs H'
noncomputable def SP (X:Cx) (pins:List (Addr×Obj)) (D:Ends) (f:Flow) (s':Shared):Prop:=
 match f with
 | .next=>∃ σ' H',Inv X pins σ' H' s'/\D.nx σ' H'
 | .brk=>∃ σ' H',Inv X pins σ' H' s'/\D.bk σ' H'
 | .cont=>∃ σ' H',Inv X pins σ' H' s'/\D.ct σ' H'
 | .ret u=>∃ v σ' H',Inv X pins σ' H' s'/\RelV v u/\D.rt v H'
noncomputable def PE (X:Cx) (e:Expr) (t:TE):Prop:=
 ∀ (pins:List (Addr×Obj)) (s:Shared) (σ:St) (H:Hp) (Q:VK),Inv X pins σ H s->t σ H Q->wpAny (model X.prog X.w) X.A (eval e X.env) (EP X pins σ Q) X.xe s
noncomputable def PT (X:Cx) (e:Expr) (t:TT):Prop:=
 ∀ (pins:List (Addr×Obj)) (s:Shared) (σ:St) (H:Hp) (Q:Bool->Hp->Prop),Inv X pins σ H s->t σ H Q->wpAny (model X.prog X.w) X.A (isTrue e X.env (eval e X.env)) (TP X pins σ Q) X.xe s
noncomputable def PW (X:Cx) (e:Expr) (t:TT):Prop:=
 ∀ (whole:Sem Value) (pins:List (Addr×Obj)) (s:Shared) (σ:St) (H:Hp) (Q:Bool->Hp->Prop),Inv X pins σ H s->t σ H Q->wpAny (model X.prog X.w) X.A (isTrue e X.env whole) (TP X pins σ Q) X.xe s
noncomputable def PA (X:Cx) (es:List Expr) (t:TA):Prop:=
 ∀ (pos:Pos) (pins:List (Addr×Obj)) (s:Shared) (σ:St) (H:Hp) (Q:List V->Hp->Prop),Inv X pins σ H s->t σ H Q->wpAny (model X.prog X.w) X.A (spliced (backTo pos (starEach es X.env))) (AP X pins σ Q) X.xe s
noncomputable def PS (X:Cx) (st:Stmt) (t:TS):Prop:=
 ∀ (pins:List (Addr×Obj)) (s:Shared) (σ:St) (H:Hp) (D:Ends),Inv X pins σ H s->t D σ H->wpAny (model X.prog X.w) X.A (exec st X.env) (SP X pins D) X.xe s
noncomputable def qU (X:Cx) (st:List Stmt) (t:TS):Prop:=
 ∀ (pins:List (Addr×Obj)) (s:Shared) (σ:St) (H:Hp) (D:Ends),Inv X pins σ H s->t D σ H->wpAny (model X.prog X.w) X.A (execs st X.env) (SP X pins D) X.xe s
theorem bY {α:Type} {t:Sem α} {Q Q':α->Shared->Prop} {M:Model} {A:Around} {E:Value->Shared->Prop} {s:Shared} (h:wpAny M A t Q E s) (hQ:∀ a s,Q a s->Q' a s):wpAny M A t Q' E s:=wpAny_mono h hQ fun _ _ x=>x
section
variable {X:Cx}
noncomputable def KH (i:Nat):TE:=fun σ H Q=>∃ v,σ[i]?=some (some v)/\Q v H
noncomputable def tC (v:V):TE:=fun _ H Q=>Q v H
theorem D3 {i:Nat} {x:Str} {pos:Pos} (hN:X.N[i]?=some x) (hv:Ku X.env.scope x) (hd:(x == ("__debug__" : Str))=false:=by decide) (hcd:(x == ("__classdict__" : Str))=false:=by decide):PE X (.Name x pos) (KH i):=by
 intro pins s σ H Q I h
 obtain ⟨v,e,h⟩:=h
 obtain ⟨m,hn,hl⟩:=I.loc
 obtain ⟨u,r,l⟩:=hl i x v hN e hv
 have fin:EP X pins σ Q u s:=⟨v,H,I,r,h⟩
 rcases l with ⟨hk,hm⟩ | ⟨hk,c,hc,hcell⟩
 ·exact wpAny_Name (wpAny_loadName_local I.ok.kind hk hn hm fin) hd
 ·rcases hk with hk | hk
  ·exact wpAny_Name (wpAny_loadName_cell I.ok.kind hk hc hcell fin) hd
  ·exact wpAny_Name (wpAny_loadName_free I.ok.kind hk hc hcell fin hcd) hd
theorem vC {i j pos}:PE X (.Constant (.int i) j pos) (tC (.int i)):=fun _ _ _ H _ I h=>wpAny_Constant_int ⟨.int i,H,I.tok _,⟨_,rfl⟩,h⟩
theorem Lr {b j pos}:PE X (.Constant (.bool b) j pos) (tC (.bl b)):=fun _ _ _ H _ I h=>Constant_bool ⟨.bl b,H,I,rfl,h⟩
theorem Jp {j pos}:PE X (.Constant .none j pos) (tC .non):=fun _ _ _ H _ I h=>Constant_none ⟨.non,H,I,rfl,h⟩
noncomputable def Gl (X:Cx) (x:Str):Prop:=X.env.kindOf x=some .globalImplicit
theorem yS {E:Value->Shared->Prop} {pins:List (Addr×Obj)} {s:Shared} {σ:St} {H:Hp} {x:Str} {u:Value} {pos:Pos} {Q:Value->Shared->Prop} (I:Inv X pins σ H s) (hg:Gl X x) (hm:X.mg x=some u) (h:Q u s)
  (hd:(x == ("__debug__" : Str))=false:=by decide):wpAny (model X.prog X.w) X.A (eval (.Name x pos) X.env) Q E s:=
 Calls.Name_function_global I.ok.kind hg (Calls.loadGlobal_global (by rw [I.ok.glob];exact I.mod.glob.keeps I.bk) hm h) hd
theorem nX {E:Value->Shared->Prop} {pins:List (Addr×Obj)} {s:Shared} {σ:St} {H:Hp} {x:Str} {u:Value} {pos:Pos} {Q:Value->Shared->Prop} (I:Inv X pins σ H s) (hg:Gl X x) (hm:X.mg x=none) (hv:bootBuiltins x=some u) (h:Q u s)
  (hn:x ≠ "__name__" := by decide) (hd:(x == ("__debug__" : Str))=false:=by decide):wpAny (model X.prog X.w) X.A (eval (.Name x pos) X.env) Q E s:=by
 obtain ⟨mb,h1,h2⟩:=I.mod.blt
 exact Calls.Name_function_global I.ok.kind hg (Calls.loadGlobal_builtin (by rw [I.ok.glob];exact I.mod.glob.keeps I.bk) hm (by rw [I.ok.blt];exact h1.keeps I.bk) ((h2 x hn).trans hv) h) hd
theorem Gi {x:Str} {v:V} {u:Value} {pos:Pos} (hg:Gl X x) (hm:X.mg x=some u) (r:RelV v u) (hd:(x == ("__debug__" : Str))=false:=by decide):PE X (.Name x pos) (tC v):=
 fun _ _ _ H _ I h=>yS I hg hm ⟨v,H,I,r,h⟩ hd
theorem FQ {x:Str} {v:V} {u:Value} {pos:Pos} (hg:Gl X x) (hm:X.mg x=none) (hv:bootBuiltins x=some u) (r:RelV v u) (hn:x ≠ "__name__" := by decide) (hd:(x == ("__debug__" : Str))=false:=by decide):PE X (.Name x pos) (tC v):=
 fun _ _ _ H _ I h=>nX I hg hm hv ⟨v,H,I,r,h⟩ hn hd
variable {a b:Expr} {ta tb:TE} {pos:Pos}
variable {tA tB':TT} {rest:List Expr}
noncomputable def NQ (t u:TT):TT:=fun σ H Q=>t σ H fun c H1=>if c=true then Q true H1 else u σ H1 Q
noncomputable def M9 (t:TT):TT:=fun σ H Q=>t σ H fun c H1=>Q (!c) H1
theorem Ij (ha:PT X a tA):PW X (.BoolOp .Or [a] pos) tA:=by
 intro wh pins s σ H Q I h
 refine isTrue_or (bY (ha pins s σ H Q I h) fun c s1 e=>?_)
 cases c with
 | false=>exact isTrue_or_nil e
 | true=>exact e
theorem L_ (ha:PT X a tA) (hb:PW X (.BoolOp .Or (b::rest) pos) tB'):PW X (.BoolOp .Or (a::b::rest) pos) (NQ tA tB'):=by
 intro wh pins s σ H Q I h
 refine isTrue_or (bY (ha pins s σ H _ I h) fun c s1 ⟨H1,I1,q1⟩=>?_)
 cases c with
 | true=>exact ⟨H1,I1,q1⟩
 | false=>exact hb wh pins s1 σ H1 Q I1 q1
theorem JD (ha:PT X a tA):PT X (.UnaryOp .Not a pos) (M9 tA):=by
 intro pins s σ H Q I h
 exact isTrue_not (ha pins s σ H (fun c H1=>Q (!c) H1) I h)
noncomputable def Lm (ta tb:TE):TE:=fun σ H Q=>ta σ H fun x H1=>∃ c,x=.bl c/\if c=true then tb σ H1 Q else Q (.bl false) H1
noncomputable def MS (ta tb:TE):TE:=fun σ H Q=>ta σ H fun x H1=>∃ c,x=.bl c/\if c=true then Q (.bl true) H1 else tb σ H1 Q
noncomputable def K2 (ta:TE):TE:=fun σ H Q=>ta σ H fun x H1=>∃ c,x=.bl c/\Q (.bl (!c)) H1
theorem HF {op} {t:TE} (h:PE X a t):PE X (.BoolOp op [a] pos) t:=fun pins s σ H Q I hw=>BoolOp_one (h pins s σ H Q I hw)
theorem HE (ha:PE X a ta) (hb:PE X (.BoolOp .And (b::rest) pos) tb):PE X (.BoolOp .And (a::b::rest) pos) (Lm ta tb):=by
 intro pins s σ H Q I h
 refine BoolOp_and (bY (ha pins s σ H _ I h) fun v s1 ⟨x,H1,I1,r1,q1⟩=>?_)
 obtain ⟨c,rfl,q1⟩:=q1
 cases r1
 refine wpAny_truthy_bool ?_
 cases c with
 | true=>exact hb pins s1 σ H1 Q I1 q1
 | false=>exact ⟨.bl false,H1,I1,rfl,q1⟩
theorem LR (ha:PE X a ta) (hb:PE X (.BoolOp .Or (b::rest) pos) tb):PE X (.BoolOp .Or (a::b::rest) pos) (MS ta tb):=by
 intro pins s σ H Q I h
 refine BoolOp_or (bY (ha pins s σ H _ I h) fun v s1 ⟨x,H1,I1,r1,q1⟩=>?_)
 obtain ⟨c,rfl,q1⟩:=q1
 cases r1
 refine wpAny_truthy_bool ?_
 cases c with
 | false=>exact hb pins s1 σ H1 Q I1 q1
 | true=>exact ⟨.bl true,H1,I1,rfl,q1⟩
theorem Ik (ha:PE X a ta):PE X (.UnaryOp .Not a pos) (K2 ta):=by
 intro pins s σ H Q I h
 refine UnaryOp_ (bY (ha pins s σ H _ I h) fun v s1 ⟨x,H1,I1,r1,q1⟩=>?_)
 obtain ⟨c,rfl,q1⟩:=q1
 cases r1
 exact not_of (wpAny_truthy_bool ⟨.bl (!c),H1,I1,rfl,q1⟩)
end
noncomputable def fY (K:PySem.W.Frag) (H:Hp) (a:Addr) (xs:List V):Prop:=
 Rd H a (.lst xs) \/
  ∃ (o:Obj) (its:Array Value) (n:Nat),K.lookup a=some o/\o.cls=.type "list" /\ o.dict=none/\o.data=.seq its n/\its.size<=sizeLine/\Vals xs its.toList
noncomputable def dF (K:PySem.W.Frag) (H:Hp) (a:Addr) (xs:List V):Prop:=
 Rd H a (.tup xs) \/
  ∃ (o:Obj) (its:Array Value) (n:Nat),K.lookup a=some o/\o.cls=.type "tuple" /\ o.dict=none/\o.data=.seq its n/\its.size<=sizeLine/\Vals xs its.toList
noncomputable def NG:Value->Option V
 | .none=>some .non
 | .bool b=>some (.bl b)
 | .int i _=>some (.int i)
 | .str x _=>some (.str x)
 | .bytes b _=>some (.byt b)
 | .float b _=>some (.flt b)
 | .ref a=>some (.ref a)
 | .type n=>some (.ty n)
 | _=>none
theorem RelV.abs {x:V} {u:Value} (r:RelV x u):NG u=some x:=by
 cases x with
 | non=>cases r;rfl
 | bl _=>cases r;rfl
 | int _=>obtain ⟨t,rfl⟩:=r;rfl
 | str _=>obtain ⟨t,rfl⟩:=r;rfl
 | byt _=>obtain ⟨t,rfl⟩:=r;rfl
 | flt _=>obtain ⟨t,rfl⟩:=r;rfl
 | ref _=>cases r;rfl
 | ty _=>cases r;rfl
theorem RelV.inj {x y:V} {u:Value} (r:RelV x u) (q:RelV y u):x=y:=Option.some.inj (r.abs.symm.trans q.abs)
theorem Vals.inj:∀ {xs ys:List V} {us:List Value},Vals xs us->Vals ys us->xs=ys
 | _,_,_,.nil,.nil=>rfl
 | _,_,_,.cons r t,.cons r' t'=>by rw [r.inj r',Vals.inj t t']
section
variable {X:Cx} {pins:List (Addr×Obj)} {σ:St} {H:Hp} {s:Shared} {a:Addr} {xs ys:List V}
theorem fY.of {K:PySem.W.Frag} (h:H a=some (.lst xs)):fY K H a xs:=.inl (.inl h)
theorem dF.of {K:PySem.W.Frag} (h:H a=some (.tup xs)):dF K H a xs:=.inl (.inl h)
theorem Inv.list (I:Inv X pins σ H s) (h:fY X.K H a xs):∃ its:List Value,Vals xs its/\PlainL s.heap a its.toArray/\xs.length<=sizeLine:=by
 rcases h with h | ⟨o,its,n,hk,hc,hd,hs,hz,r⟩
 ·obtain ⟨z,its,n,r,e⟩:=h.ok I.hok
  exact ⟨its,r,⟨_,n,e,rfl,rfl,rfl⟩,z⟩
 ·refine ⟨its.toList,r,⟨o,n,I.rY a o hk,hc,hd,by simpa using hs⟩,?_⟩
  have e:=r.length
  simp only [Array.length_toList] at e
  omega
theorem Inv.tuple (I:Inv X pins σ H s) (h:dF X.K H a xs):∃ its:List Value,Vals xs its/\IsTup s.heap a its.toArray/\xs.length<=sizeLine:=by
 rcases h with h | ⟨o,its,n,hk,hc,_,hs,hz,r⟩
 ·obtain ⟨z,its,r,p⟩:=h.ok I.hok
  exact ⟨its,r,p.tup,z⟩
 ·refine ⟨its.toList,r,⟨o,I.rY a o hk,hc,n,by simpa using hs⟩,?_⟩
  have e:=r.length
  simp only [Array.length_toList] at e
  omega
theorem Inv.DQ (I:Inv X pins σ H s) (h:fY X.K H a xs) (h':fY X.K H a ys):xs=ys:=by
 obtain ⟨its,r,⟨o,n,e,_,_,d⟩,_⟩:=I.list h
 obtain ⟨its',r',⟨o',n',e',_,_,d'⟩,_⟩:=I.list h'
 rw [e] at e';cases e'
 rw [d] at d'
 injection d' with d1 _
 have:its=its':=by simpa using congrArg Array.toList d1
 subst this
 exact r.inj r'
theorem Inv.qy (I:Inv X pins σ H s) (h:dF X.K H a xs) (h':dF X.K H a ys):xs=ys:=by
 obtain ⟨its,r,⟨o,e,_,n,d⟩,_⟩:=I.tuple h
 obtain ⟨its',r',⟨o',e',_,n',d'⟩,_⟩:=I.tuple h'
 rw [e] at e';cases e'
 rw [d] at d'
 injection d' with d1 _
 have:its=its':=by simpa using congrArg Array.toList d1
 subst this
 exact r.inj r'
end
noncomputable abbrev Cx.pS (X:Cx) (E:Value->Shared->Prop):Cx:={ X with xe:=E }
noncomputable abbrev Cx.KY (X:Cx):Cx:=X.pS fun _ _=>False
theorem Cx.Ok.pS {X:Cx} (ok:X.Ok) (E:Value->Shared->Prop):(X.pS E).Ok:=
 ⟨ok.mod,ok.kind,ok.glob,ok.blt,ok.above,ok.inj,ok.has,ok.cab,ok.hd,ok.frames,ok.stk,ok.exf,ok.bs,ok.bsz,ok.noex,ok.exfs,ok.pK,ok.frf⟩
theorem Cx.Ok.ju {X:Cx} {E:Value->Shared->Prop} (ok:(X.pS E).Ok):X.Ok:=
 ⟨ok.mod,ok.kind,ok.glob,ok.blt,ok.above,ok.inj,ok.has,ok.cab,ok.hd,ok.frames,ok.stk,ok.exf,ok.bs,ok.bsz,ok.noex,ok.exfs,ok.pK,ok.frf⟩
section
variable {X:Cx} {pins:List (Addr×Obj)} {σ:St} {H:Hp} {s:Shared} {E:Value->Shared->Prop}
theorem Inv.pS (I:Inv X pins σ H s) (E:Value->Shared->Prop):Inv (X.pS E) pins σ H s:=⟨I.ok.pS E,I.os,I.bare,I.base,I.loc,I.cell,I.free,I.freeC,I.pin,I.hok,I.len⟩
theorem Inv.ju (I:Inv (X.pS E) pins σ H s):Inv X pins σ H s:=⟨I.ok.ju,I.os,I.bare,I.base,I.loc,I.cell,I.free,I.freeC,I.pin,I.hok,I.len⟩
theorem SP.ju {D:Ends} {f:Flow} {s':Shared} (h:SP (X.pS E) pins D f s'):SP X pins D f s':=by
 cases f with
 | next=>obtain ⟨σ',H',I,q⟩:=h;exact ⟨σ',H',I.ju,q⟩
 | brk=>obtain ⟨σ',H',I,q⟩:=h;exact ⟨σ',H',I.ju,q⟩
 | cont=>obtain ⟨σ',H',I,q⟩:=h;exact ⟨σ',H',I.ju,q⟩
 | ret u=>obtain ⟨v,σ',H',I,r,q⟩:=h;exact ⟨v,σ',H',I.ju,r,q⟩
theorem qU.KY {st:List Stmt} {t:TS} (h:qU X.KY st t):qU X st t:=fun pins s σ H D I hw=>
 wpAny_mono (h pins s σ H D (I.pS _) hw) (fun _ _ q=>q.ju) fun _ _ z=>False.elim z
end
section
variable {X:Cx} {st:Stmt} {rest:List Stmt} {t u:TS} {e:Expr} {te:TE} {pos:Pos}
noncomputable def LY:TS:=fun D σ H=>D.nx σ H
noncomputable def K1 (t u:TS):TS:=fun D σ H=>t { D with nx:=u D } σ H
theorem Eo:qU X [] LY:=fun _ _ σ H _ I h=>wpAny_execs_nil ⟨σ,H,I,h⟩
theorem AD (h1:PS X st t) (h2:qU X rest u):qU X (st::rest) (K1 t u):=by
 intro pins s σ H D I h
 refine wpAny_execs_cons (bY (h1 pins s σ H { D with nx:=u D } I h) fun f s1 q=>?_)
 cases f with
 | next=>
  obtain ⟨σ',H',I',q⟩:=q
  exact h2 pins s1 σ' H' D I' q
 | ret v=>exact q
 | brk=>exact q
 | cont=>exact q
theorem Ga (h1:PS X st t):qU X [st] t:=by
 intro pins s σ H D I h
 refine wpAny_execs_cons (bY (h1 pins s σ H D I h) fun f s1 q=>?_)
 cases f with
 | next=>exact wpAny_execs_nil q
 | ret v=>exact q
 | brk=>exact q
 | cont=>exact q
theorem Inv.quiet {pins:List (Addr×Obj)} {σ:St} {H:Hp} {s:Shared} (I:Inv X pins σ H s):interactive X.env=false:=by simp [interactive,I.ok.kind]
noncomputable def KR (te:TE):TS:=fun D σ H=>te σ H fun _ H1=>D.nx σ H1
theorem FA (he:PE X e te) (hs:swapsWith e none pos.line X.env=pure false:=by rfl):PS X (.Expr e pos) (KR te):=by
 intro pins s σ H D I h
 exact wpAny_Expr_any (bY (he pins s σ H _ I h) fun v s1 ⟨x,H1,I1,r1,q1⟩=>⟨σ,H1,I1,q1⟩) I.quiet hs
noncomputable def ME (te:TE):TS:=fun D σ H=>te σ H D.rt
theorem Ii (he:PE X e te):PS X (.Return (some e) pos) (ME te):=by
 intro pins s σ H D I h
 exact wpAny_Return_some (bY (he pins s σ H _ I h) fun v s1 ⟨x,H1,I1,r1,q1⟩=>⟨x,σ,H1,I1,r1,q1⟩)
noncomputable def Lj:TS:=fun D _ H=>D.rt .non H
theorem Fe:PS X (.Return none pos) Lj:=fun _ _ σ H _ I h=>wpAny_Return_none ⟨.non,σ,H,I,rfl,h⟩
noncomputable def MU (c:TT) (t u:TS):TS:=fun D σ H=>c σ H fun b H1=>if b=true then t D σ H1 else u D σ H1
theorem Lo {c:Expr} {a b:List Stmt} {tc:TT} (hc:PT X c tc) (ha:qU X a t) (hb:qU X b u):PS X (.If c a b pos) (MU tc t u):=by
 intro pins s σ H D I h
 refine wpAny_If (bY (hc pins s σ H _ I h) fun d s1 ⟨H1,I1,q1⟩=>?_)
 cases d with
 | true=>exact ha pins s1 σ H1 D I1 q1
 | false=>exact hb pins s1 σ H1 D I1 q1
noncomputable def Kl:TS:=fun _ _ _=>False
theorem Au:PS X st Kl:=fun _ _ _ _ _ _ h=>h.elim
end
noncomputable abbrev TG:=V->St->Hp->(St->Hp->Prop)->Prop
noncomputable abbrev Hf:=List V->St->Hp->(St->Hp->Prop)->Prop
noncomputable def PG (X:Cx) (target:Expr) (t:TG):Prop:=
 ∀ (pins:List (Addr×Obj)) (s:Shared) (σ:St) (H:Hp) (v:V) (u:Value) (Q:St->Hp->Prop),Inv X pins σ H s->RelV v u->t v σ H Q ->
  wpAny (model X.prog X.w) X.A (assign target X.env u) (fun _ s'=>∃ σ' H',Inv X pins σ' H' s'/\Q σ' H') X.xe s
noncomputable def L4 (X:Cx) (ts:List Expr) (t:Hf):Prop:=
 ∀ (pins:List (Addr×Obj)) (s:Shared) (σ:St) (H:Hp) (vs:List V) (us:List Value) (Q:St->Hp->Prop),Inv X pins σ H s->Vals vs us->t vs σ H Q ->
  wpAny (model X.prog X.w) X.A (assignInOrder ((assignEach ts X.env).map (·.2)) us) (fun _ s'=>∃ σ' H',Inv X pins σ' H' s'/\Q σ' H') X.xe s
noncomputable abbrev uN:=V->V->V->Hp->(Hp->Prop)->Prop
noncomputable def Ae (X:Cx) (t:uN):Prop:=
 ∀ (pins:List (Addr×Obj)) (s:Shared) (σ:St) (H:Hp) (o i v:V) (ov iv u:Value) (Q:Hp->Prop),Inv X pins σ H s->RelV o ov->RelV i iv->RelV v u->t o i v H Q ->
  wpAny (model X.prog X.w) X.A (setItem ov iv u) (fun _ s'=>∃ H',Inv X pins σ H' s'/\Q H') X.xe s
noncomputable abbrev HG:=V->V->Hp->VK->Prop
noncomputable def Hy (X:Cx) (op:Operator) (t:HG):Prop:=
 ∀ (pins:List (Addr×Obj)) (s:Shared) (σ:St) (H:Hp) (x y:V) (v u:Value) (Q:VK),Inv X pins σ H s->RelV x v->RelV y u->t x y H Q ->
  wpAny (model X.prog X.w) X.A (inplaceOp op v u) (EP X pins σ Q) X.xe s
section
variable {X:Cx} {pos:Pos}
noncomputable def D5 (i:Nat):TG:=fun v σ H Q=>Q (σ.set i (some v)) H
theorem yW {i:Nat} {x:Str} (hN:X.N.Nodup) (hi:X.N[i]?=some x) (hx:Loc X.env.scope x) (hf:X.fn x=true\/X.env.scope.names.lookup x=some .local:=by first | exact .inl rfl | exact .inr rfl | assumption):PG X (.Name x pos) (D5 i):=by
 intro pins s σ H v u Q I r h
 exact wpAny_assign_Name (jt I hN hi hx r (fun s' I'=>⟨_,H,I',h⟩) hf)
noncomputable def Nx:Hf:=fun vs σ H Q=>vs=[]/\Q σ H
noncomputable def LF (t:TG) (u:Hf):Hf:=fun vs σ H Q=>∃ v r,vs=v::r/\t v σ H fun σ' H'=>u r σ' H' Q
theorem E_:L4 X [] Nx:=by
 intro pins s σ H vs us Q I r h
 obtain ⟨e,h⟩:=h
 subst e
 cases r
 exact assignInOrder_nil ⟨σ,H,I,h⟩
theorem A_ {e:Expr} {es:List Expr} {t:TG} {u:Hf} (h1:PG X e t) (h2:L4 X es u)
  (hs:(assignEach (e::es) X.env).map (·.2)=assign e X.env::(assignEach es X.env).map (·.2):=by rfl):L4 X (e::es) (LF t u):=by
 intro pins s σ H vs us Q I r h
 obtain ⟨v,vr,e1,h⟩:=h
 subst e1
 cases r with
 | cons r rr=>
  rw [hs]
  refine assignInOrder_cons (bY (h1 pins s σ H _ _ _ I r h) fun _ s1 ⟨σ1,H1,I1,q1⟩=>?_)
  exact h2 pins s1 σ1 H1 _ _ Q I1 rr q1
noncomputable def Ni (K:PySem.W.Frag) (n:Nat) (t:Hf):TG:=fun v σ H Q=>∃ a xs,v=.ref a/\dF K H a xs/\xs.length=n/\t xs σ H Q
theorem JJ {es:List Expr} {k:Nat} {t:Hf} {n:Nat} (hc:X.calm=true) (h:L4 X es t)
  (hn:(assignEach es X.env).length=n:=by rfl) (hst:(assignEach es X.env).findIdx? (·.1)=none:=by rfl):PG X (.Tuple es k pos) (Ni X.K n t):=by
 intro pins s σ H v u Q I r hw
 obtain ⟨a,xs,e1,hq,hl,hw⟩:=hw
 subst e1
 cases r
 obtain ⟨its,rv,ht,hz⟩:=I.tuple hq
 refine assign_Tuple_tuple (I.ok.hd hc) ht (by simp [hn,<- hl,rv.length]) hst fun h' hx=>?_
 have I1:Inv X pins σ H { s with heap:=h' }:=I.kept (t':=s.toks) fun b o e=>hx b o (Nat.ne_of_lt (Heap.lt_size e)) e
 exact h pins _ σ H xs _ Q I1 (by simpa using rv) hw
noncomputable def MO (to ti:TE) (t:uN):TG:=fun v σ H Q=>to σ H fun o H1=>ti σ H1 fun i H2=>t o i v H2 fun H3=>Q σ H3
theorem DL {o i:Expr} {to ti:TE} {t:uN} (ho:PE X o to) (hi:PE X i ti) (hs:Ae X t)
  (ha:∀ v,assign (.Subscript o i pos) X.env v=(do
   let ov <- holding [v] (eval o X.env)
   let iv <- holding [v,ov] (eval i X.env)
   standAt pos
   holding [v,ov,iv] (setItem ov iv v)
   release [v,ov,iv] []):=by intro _;rfl):PG X (.Subscript o i pos) (MO to ti t):=by
 intro pins s σ H v u Q I r h
 rw [ha]
 refine wpAny_bind (wpAny_holding (bY (ho pins s σ H _ I h) fun ov s1 ⟨x,H1,I1,r1,q1⟩=>?_))
 refine wpAny_bind (wpAny_holding (bY (hi pins s1 σ H1 _ I1 q1) fun iv s2 ⟨y,H2,I2,r2,q2⟩=>?_))
 refine wpAny_bind (wpAny_standAt (wpAny_bind (wpAny_holding (bY (hs pins s2 σ H2 x y v ov iv u _ I2 r1 r2 r q2) fun _ s3 ⟨H3,I3,q3⟩=>?_))))
 exact wpAny_release ⟨σ,H3,I3,q3⟩
noncomputable def Gf (te:TE) (g:TG):TS:=fun D σ H=>te σ H fun x H1=>g x σ H1 D.nx
theorem JO {tg e:Expr} {te:TE} {g:TG} (he:PE X e te) (hg:PG X tg g) (hs:swapsWithSole [tg] e pos.line X.env=pure false:=by rfl) (hw:swappedStores [tg] e X.env=pure none:=by rfl)
  (h1:(assignEach [tg] X.env).map (·.2)=[assign tg X.env]:=by rfl):PS X (.Assign [tg] e pos) (Gf te g):=by
 intro pins s σ H D I h
 refine wpAny_Assign_stores (bY (he pins s σ H _ I h) fun v s1 ⟨x,H1,I1,r1,q1⟩=>?_) hs hw
 rw [h1]
 exact bY (hg pins s1 σ H1 x v _ I1 r1 q1) fun _ s2 q=>q
theorem I0 {i:Nat} {x:Str} {e:Expr} {te:TE} {pos':Pos} (hN:X.N.Nodup) (hi:X.N[i]?=some x) (hx:Loc X.env.scope x) (he:PE X e te) (hs:swapsWith e (some (.Name x pos')) pos.line X.env=pure false:=by rfl) (hf:X.fn x=true\/X.env.scope.names.lookup x=some .local:=by first | exact .inl rfl | exact .inr rfl | assumption) :
  PS X (.Assign [.Name x pos'] e pos) (Gf te (D5 i)):=by
 intro pins s σ H D I h
 refine wpAny_Assign_Name (bY (he pins s σ H _ I h) fun v s1 ⟨y,H1,I1,r1,q1⟩=>?_) hs
 exact jt I1 hN hi hx r1 (fun s2 I2=>⟨_,H1,I2,q1⟩) hf
noncomputable def NH (i j:Nat) (ta:TA):TS:=fun D σ H=>ta σ H fun vs H1=>∃ v w,vs=[v,w]/\D.nx ((σ.set i (some v)).set j (some w)) H1
theorem HS {i j:Nat} {x y:Str} {a b:Expr} {ta:TA} {px py pt:Pos} {kt k2 pt2} (hc:X.calm=true) (hN:X.N.Nodup) (hi:X.N[i]?=some x) (hj:X.N[j]?=some y) (hij:i≠j)
  (hx:X.env.scope.names.lookup x=some .local) (hy:X.env.scope.names.lookup y=some .local) (ha:PA X [a,b] ta)
  (hw:swappedStores [.Tuple [.Name x px,.Name y py] kt pt] (.Tuple [a,b] k2 pt2) X.env=pure (some [x,y]))
  (hs:swapsWithSole [.Tuple [.Name x px,.Name y py] kt pt] (.Tuple [a,b] k2 pt2) pos.line X.env=pure false:=by rfl) :
  PS X (.Assign [.Tuple [.Name x px,.Name y py] kt pt] (.Tuple [a,b] k2 pt2) pos) (NH i j ta):=by
 intro pins s σ H D I h
 rw [exec_Assign_arm]
 refine wpAny_bind (wpAny_standAt ?_)
 rw [hs]
 refine wpAny_bind (wpAny_pure ?_)
 rw [if_neg (by decide)]
 refine wpAny_bind (Tuple_ (bY (ha _ pins s σ H _ I h) fun us s1 ⟨vs,H1,I1,r1,q1⟩=>?_))
 obtain ⟨v,w,e1,q1⟩:=q1
 subst e1
 obtain ⟨u1,u2,rfl,rv,rw'⟩:∃ u1 u2,us=[u1,u2]/\RelV v u1/\RelV w u2:=by
  cases r1 with
  | cons p q=>
   cases q with
   | cons p' q'=>
    cases q'
    exact ⟨_,_,rfl,p,p'⟩
 refine wpAny_newObj_type ?_ (by show 2<=sizeLine;decide)
 have I2:Inv X pins σ H1 { s1 with heap:=s1.heap.push { cls:=.type "tuple",data:=.seq [u1,u2].toArray } }:=I1.kept (t':=s1.toks) fun b o e=>Heap.get?_push_of_some _ e
 rw [hw]
 refine wpAny_bind (wpAny_pure ?_)
 show wpAny (model X.prog X.w) X.A (do rule "assign.swapped-stores";let items <- unpackItems (.ref s1.heap.objs.size) 2 none;assignInOrder [fun v=>bindName X.env y v,fun v=>bindName X.env x v] items.reverse;pure Flow.next) _ _ _
 refine wpAny_bind (wpAny_rule (wpAny_bind (unpackItems_tuple (items:=#[u1,u2]) (I.ok.hd hc) (IsTup.new s1.heap _) fun h' hx'=>?_)))
 have I3:=I2.kept (h':=h') (t':=s1.toks) fun b o e=>hx' b o (Nat.ne_of_lt (Heap.lt_size e)) e
 show wpAny _ _ (assignInOrder [fun v=>bindName X.env y v,fun v=>bindName X.env x v] [u2,u1] >>= fun _=>pure Flow.next) _ _ _
 refine wpAny_bind (assignInOrder_cons (wpAny_bindName (jt I3 hN hj (.inl hy) rw' (fun s2 I4=>?_) (.inr hy))))
 refine assignInOrder_cons (wpAny_bindName (jt I4 hN hi (.inl hx) rv (fun s3 I5=>assignInOrder_nil (wpAny_pure ?_)) (.inr hx)))
 rw [List.set_comm _ _ (Ne.symm hij)] at I5
 exact ⟨_,H1,I5,q1⟩
noncomputable def MC (i:Nat) (te:TE) (ti:HG):TS:=fun D σ H=>∃ x,σ[i]?=some (some x)/\te σ H fun y H1=>ti x y H1 fun z H2=>D.nx (σ.set i (some z)) H2
theorem II {i:Nat} {x:Str} {e:Expr} {te:TE} {op:Operator} {ti:HG} {pos':Pos} (hN:X.N.Nodup) (hi:X.N[i]?=some x) (hx:Loc X.env.scope x) (he:PE X e te) (ho:Hy X op ti) (hf:X.fn x=true\/X.env.scope.names.lookup x=some .local:=by first | exact .inl rfl | exact .inr rfl | assumption) :
  PS X (.AugAssign (.Name x pos') op e pos) (MC i te ti):=by
 intro pins s σ H D I h
 obtain ⟨v,e1,h⟩:=h
 obtain ⟨m,hn,hl⟩:=I.loc
 have vis:Ku X.env.scope x:=by rcases hx with k | k;exact .inl k;exact .inr (.inl k)
 obtain ⟨u,r,l⟩:=hl i x v hi e1 vis
 refine wpAny_AugAssign_Name ?_
 have go:wpAny (model X.prog X.w) X.A (eval e X.env) (fun w s₂=>wpAny (model X.prog X.w) X.A (inplaceOp op u w) (fun r s₃=>wpAny (model X.prog X.w) X.A (storeName X.env x r) (fun _=>SP X pins D .next) X.xe s₃) X.xe s₂) X.xe s:=by
  refine bY (he pins s σ H _ I h) fun w s1 ⟨y,H1,I1,r1,q1⟩=>?_
  refine bY (ho pins s1 σ H1 v y u w _ I1 r r1 q1) fun z s2 ⟨zv,H2,I2,r2,q2⟩=>?_
  exact jt I2 hN hi hx r2 (fun s3 I3=>⟨_,H2,I3,q2⟩) hf
 rcases l with ⟨hk,hm⟩ | ⟨hk,c,hc,hcell⟩
 ·exact wpAny_loadName_local I.ok.kind hk hn hm go
 ·rcases hk with hk | hk
  ·exact wpAny_loadName_cell I.ok.kind hk hc hcell go
  ·rcases hx with k | k
   ·have:X.env.scope.names.lookup x=some .free:=hk
    rw [k] at this;cases this
   ·have:X.env.scope.names.lookup x=some .free:=hk
    rw [k] at this;cases this
noncomputable def K8 (to ti te:TE) (tget:V->V->Hp->VK->Prop) (tip:HG) (tset:uN):TS:=fun D σ H=>to σ H fun o H1=>ti σ H1 fun i H2=>tget o i H2 fun x H3=>te σ H3 fun y H4=>tip x y H4 fun z H5=>tset o i z H5 fun H6=>D.nx σ H6
noncomputable def J_ (X:Cx) (t:V->V->Hp->VK->Prop):Prop:=
 ∀ (pins:List (Addr×Obj)) (s:Shared) (σ:St) (H:Hp) (o i:V) (ov iv:Value) (Q:VK),Inv X pins σ H s->RelV o ov->RelV i iv->t o i H Q ->
  wpAny (model X.prog X.w) X.A (getItem ov iv) (EP X pins σ Q) X.xe s
theorem FF {o i e:Expr} {to ti te:TE} {tget:V->V->Hp->VK->Prop} {tip:HG} {tset:uN} {op:Operator} {tpos:Pos} (ho:PE X o to) (hi:PE X i ti) (hg:J_ X tget) (he:PE X e te) (hp:Hy X op tip) (hs:Ae X tset)
  (ha:∀ ov iv new,augStore i ov iv new=(do holding [new,ov,iv] (setItem ov iv new);release [new,ov,iv] [];pure .next):=by intros;rfl):PS X (.AugAssign (.Subscript o i tpos) op e pos) (K8 to ti te tget tip tset):=by
 intro pins s σ H D I h
 refine wpAny_AugAssign_SubscriptAny (bY (ho pins s σ H _ I h) fun ov s1 ⟨x1,H1,I1,r1,q1⟩=>?_) ha
 refine bY (hi pins s1 σ H1 _ I1 q1) fun iv s2 ⟨x2,H2,I2,r2,q2⟩=>?_
 refine bY (hg pins s2 σ H2 x1 x2 ov iv _ I2 r1 r2 q2) fun old s3 ⟨x3,H3,I3,r3,q3⟩=>?_
 refine bY (he pins s3 σ H3 _ I3 q3) fun v s4 ⟨x4,H4,I4,r4,q4⟩=>?_
 refine bY (hp pins s4 σ H4 x3 x4 old v _ I4 r3 r4 q4) fun new s5 ⟨x5,H5,I5,r5,q5⟩=>?_
 exact bY (hs pins s5 σ H5 x1 x2 x5 ov iv new _ I5 r1 r2 r5 q5) fun _ s6 ⟨H6,I6,q6⟩=>⟨σ,H6,I6,q6⟩
noncomputable def NO (f:Int->Int->Int):HG:=fun x y H Q=>∃ i j,x=.int i/\y=.int j/\Q (.int (f i j)) H
theorem IB:Hy X .Add (NO fun i j=>i+j):=by
 intro pins s σ H x y v u Q I r1 r2 h
 obtain ⟨i,j,e1,e2,q⟩:=h
 subst e1;subst e2
 obtain ⟨t,rfl⟩:=r1
 obtain ⟨t',rfl⟩:=r2
 exact iadd_int ⟨.int _,H,I.tok _,⟨_,rfl⟩,q⟩
theorem HQ:Hy X .Sub (NO fun i j=>i - j):=by
 intro pins s σ H x y v u Q I r1 r2 h
 obtain ⟨i,j,e1,e2,q⟩:=h
 subst e1;subst e2
 obtain ⟨t,rfl⟩:=r1
 obtain ⟨t',rfl⟩:=r2
 exact isub_int ⟨.int _,H,I.tok _,⟨_,rfl⟩,q⟩
end
section
variable {X:Cx} {pos:Pos}
noncomputable def Cp (c:TT) (tb:TS):TS:=fun D σ H=>∃ W:Nat->St->Hp->Prop,(∃ m,W m σ H)/\∀ m σ H,W m σ H ->
 c σ H fun b H1=>if b=true then ∃ N:St->Hp->Prop,(∀ σ' H',N σ' H'->∃ m',m' < m/\W m' σ' H')/\tb { D with nx:=N,ct:=N,bk:=D.nx } σ H1 else D.nx σ H1
theorem Co {c:Expr} {body:List Stmt} {tc:TT} {tb:TS} (hp:PassesOwn (model X.prog X.w) X.A X.env X.xe) (hc:PT X c tc) (hb:qU X body tb):PS X (.While c body [] pos) (Cp tc tb):=by
 intro pins s σ H D I h
 obtain ⟨W,⟨m0,w0⟩,turn⟩:=h
 refine wpAny_While (codeAny_whileLoop (fun n s'=>∃ σ' H',Inv X pins σ' H' s'/\W n σ' H') ?_ m0 ⟨σ,H,I,w0⟩)
 rintro n s1 ⟨σ1,H1,I1,w1⟩
 refine wpAny_passesOwn hp (bY (hc pins s1 σ1 H1 _ I1 (turn n σ1 H1 w1)) fun b s2 ⟨H2,I2,q2⟩=>?_)
 cases b with
 | true=>
  obtain ⟨N,hN,q2⟩:=q2
  rw [if_pos rfl]
  refine wpAny_passesOwn hp (bY (hb pins s2 σ1 H2 _ I2 q2) fun f s3 q3=>?_)
  cases f with
  | next=>
   obtain ⟨σ3,H3,I3,n3⟩:=q3
   obtain ⟨m',hm,w3⟩:=hN σ3 H3 n3
   exact ⟨m',hm,σ3,H3,I3,w3⟩
  | cont=>
   obtain ⟨σ3,H3,I3,n3⟩:=q3
   obtain ⟨m',hm,w3⟩:=hN σ3 H3 n3
   exact ⟨m',hm,σ3,H3,I3,w3⟩
  | brk=>exact q3
  | ret v=>exact q3
 | false=>
  rw [if_neg Bool.false_ne_true]
  exact wpAny_execs_nil ⟨σ1,H2,I2,q2⟩
end
structure It where
 go:Nat->Hp->Prop
 yld:Nat->Hp->V->Hp->Prop
 stop:Nat->Hp->Prop
noncomputable def iO (X:Cx) (pins:List (Addr×Obj)) (H:Hp) (b:Addr):Prop:=
 H b=none/\b≠X.env.locals/\b∉X.fs/\(b∈X.ex\/X.s₀.heap.objs.size<=b)/\(∀ x c,X.env.cells.lookup x=some c->c≠b)/\∀ p∈X.pn++pins,p.1≠b
theorem Inv.zo {X:Cx} {pins:List (Addr×Obj)} {σ:St} {H H':Hp} {s:Shared} {b:Addr} (I:Inv X pins σ H s) (hb:s.heap.objs.size<=b) (hn:H' b=none):iO X pins H' b:=by
 refine ⟨hn,Nat.ne_of_gt (Nat.lt_of_lt_of_le I.lt hb),I.Nc hb,.inr (Nat.le_trans I.sz hb),fun x c e z=>?_,fun p hp z=>?_⟩
 ·obtain ⟨v,q⟩:=I.cell x c e
  exact absurd (Nat.lt_of_lt_of_le q.lt (by rw [z];exact hb)) (Nat.lt_irrefl _)
 ·exact absurd (Nat.lt_of_lt_of_le (Heap.lt_size (I.pin p hp).1) (by rw [z];exact hb)) (Nat.lt_irrefl _)
structure Turn (P:Program) (w:World) (K:PySem.W.Frag) (tg:Expr) (J:It) (fp:List Addr) (it:Addr) (tn:Nat->Heap->Prop):Prop where
 mem:it∈fp
 obj:∀ i h,tn i h->∀ b∈fp,∃ o,h.get? b=some o/\∀ v,o.data≠.cell v
 keep:∀ i h h',tn i h->(∀ b∈fp,∀ o,h.get? b=some o->h'.get? b=some o)->tn i h'
 item:∀ (X:Cx),X.prog=P->X.w=w->X.K=K->X.calm=true->∀ (i:Nat) (pins:List (Addr×Obj)) (s:Shared) (σ:St) (H:Hp) (E:Value->Shared->Prop),Inv X pins σ H s->(∀ b∈fp,iO X pins H b)->tn i s.heap->J.go i H ->
  wpAny (model P w) X.A (pyNext (.ref it)) (fun r s1=>∃ u,r=some u /\
   wpAny (model P w) X.A (letOwnedTupleGo tg (.ref it) u) (fun _ s2=>∃ x H',Inv X pins σ H' s2/\RelV x u/\J.yld i H x H'/\tn (i+1) s2.heap/\∀ b∈fp,H' b=none) E s1) E s
 done:∀ (X:Cx),X.prog=P->X.w=w->X.K=K->X.calm=true->∀ (i:Nat) (pins:List (Addr×Obj)) (s:Shared) (σ:St) (H:Hp) (E:Value->Shared->Prop),Inv X pins σ H s->(∀ b∈fp,iO X pins H b)->tn i s.heap->J.stop i H ->
  wpAny (model P w) X.A (pyNext (.ref it)) (fun r s1=>r=none/\Inv X pins σ H s1) E s
 self:∀ (A:Around) (i:Nat) (s:Shared) (Q:Value->Shared->Prop) (E:Value->Shared->Prop),tn i s.heap->Q (.ref it) s->wpAny (model P w) A (pyIter (.ref it)) Q E s
noncomputable abbrev TI:=St->Hp->(It->Hp->Prop)->Prop
noncomputable def NL (X:Cx) (pins:List (Addr×Obj)) (σ:St) (tg:Expr) (R:It->Hp->Prop) (itv:Value) (s2:Shared):Prop:=
 ∃ (it:Addr) (fp:List Addr) (tn:Nat->Heap->Prop) (J:It) (H':Hp),itv=.ref it/\Inv X pins σ H' s2/\Turn X.prog X.w X.K tg J fp it tn/\tn 0 s2.heap/\(∀ b∈fp,iO X pins H' b)/\R J H'
noncomputable def PI (X:Cx) (tg iter:Expr) (wi:TI):Prop:=
 ∀ (pins:List (Addr×Obj)) (s:Shared) (σ:St) (H:Hp) (R:It->Hp->Prop),Inv X pins σ H s->wi σ H R ->
  wpAny (model X.prog X.w) X.A (eval iter X.env) (fun v s1=>wpAny (model X.prog X.w) X.A (pyIter v) (NL X pins σ tg R) X.xe s1) X.xe s
theorem yY {M:Model} {A:Around} {E:Value->Shared->Prop} {s:Shared} {tg:Expr} {it:Addr} {u:Value} {o:Obj} {n:String} {vs:Array Value} {Q:Unit->Shared->Prop} (ho:s.heap.get? it=some o) (hc:o.cls=.type n) (hd:o.data=.fields vs)
  (hn:["enumerate", "zip", "dict_itemiterator", "dict_reverseitemiterator", "odict_iterator", "itertools.zip_longest", "itertools.pairwise"].contains n=false) (hQ:Q () s):wpAny M A (letOwnedTupleGo tg (.ref it) u) Q E s:=by
 unfold letOwnedTupleGo
 cases tg <;> first
  | exact wpAny_pure hQ
  | (cases u <;> first
    | exact wpAny_pure hQ
    | (refine wpAny_bind (wpAny_load ho ?_)
       rw [hc,hd]
       show wpAny M A (if (["enumerate", "zip", "dict_itemiterator", "dict_reverseitemiterator", "odict_iterator", "itertools.zip_longest", "itertools.pairwise"].contains n && vs[0]? == some (rawInt _))=true then _ else _) Q E s
       rw [if_neg (by intro h;rw [hn,Bool.false_and] at h;cases h)]
       exact wpAny_pure hQ))
noncomputable def Mf (K:PySem.W.Frag) (a:Addr):It:=
 ⟨fun i H=>∃ xs x,fY K H a xs/\xs[i]?=some x,fun i H x H'=>H'=H/\∀ xs,fY K H a xs->xs[i]?=some x,fun i H=>∃ xs,fY K H a xs/\xs.length<=i⟩
noncomputable def Nv (K:PySem.W.Frag) (a:Addr):It:=
 ⟨fun i H=>∃ xs x,dF K H a xs/\xs[i]?=some x,fun i H x H'=>H'=H/\∀ xs,dF K H a xs->xs[i]?=some x,fun i H=>∃ xs,dF K H a xs/\xs.length<=i⟩
noncomputable def LB (lo:Int) (n:Nat):It:=⟨fun i _=>i < n,fun i H x H'=>H'=H/\x=.int (lo+i),fun i _=>n<=i⟩
theorem zw {P:Program} {w:World} {K:PySem.W.Frag} {tg:Expr} (a it:Addr):Turn P w K tg (Mf K a) [it] it (fun i h=>h.IsListIter it a i) where
 mem:=by simp
 obj:=fun i h st b hb=>by
  have e:b=it:=by simpa using hb
  subst e
  obtain ⟨o,e,c,d⟩:=st
  exact ⟨o,e,fun v z=>by rw [d] at z;cases z⟩
 keep:=fun i h h' st k=>st.at fun o e=>k it (by simp) o e
 item:=by
  intro X hP hw hK hc i pins s σ H E I hf st hg
  subst hP hw hK
  obtain ⟨xs,x,hq,hx⟩:=hg
  obtain ⟨its,rv,p,hz⟩:=I.list hq
  obtain ⟨u,hu,ru⟩:=rv.get hx
  obtain ⟨f0,f1,f2,f3,f4,f5⟩:=hf it (by simp)
  refine wpAny_pyNext_list_item st p.isList (x:=u) (by simpa using hu) fun h' st' sb=>?_
  have I1:Inv X pins σ H { s with heap:=h' }:=I.turned (t':=s.toks) (fun b o hb e=>(sb.2 b hb).trans e) f0 f1 f3 f4 f5
  obtain ⟨o,e,c,d⟩:=id st'
  exact ⟨u,rfl,yY (s:={ s with heap:=h' }) e c d (by decide) ⟨x,H,I1,ru,⟨rfl,fun ys hy=>by rw [I.DQ hy hq];exact hx⟩,st',fun b hb=>(hf b hb).1⟩⟩
 done:=by
  intro X hP hw hK hc i pins s σ H E I hf st hg
  subst hP hw hK
  obtain ⟨xs,hq,hx⟩:=hg
  obtain ⟨its,rv,p,hz⟩:=I.list hq
  obtain ⟨f0,f1,f2,f3,f4,f5⟩:=hf it (by simp)
  have hl:=rv.length
  exact wpAny_pyNext_list_end (I.ok.hd hc) st p.isList (by simp;omega) fun h' eb=>⟨rfl,I.turned (t':=s.toks) (fun b o hb e=>eb b o hb e) f0 f1 f3 f4 f5⟩
 self:=fun _ _ _ _ _ st h=>wpAny_pyIter_listiter st h
theorem uX {P:Program} {w:World} {K:PySem.W.Frag} {tg:Expr} (a it:Addr):Turn P w K tg (Nv K a) [it] it (fun i h=>h.IsTupleIter it a i) where
 mem:=by simp
 obj:=fun i h st b hb=>by
  have e:b=it:=by simpa using hb
  subst e
  obtain ⟨o,e,c,d⟩:=st
  exact ⟨o,e,fun v z=>by rw [d] at z;cases z⟩
 keep:=fun i h h' st k=>st.at fun o e=>k it (by simp) o e
 item:=by
  intro X hP hw hK hc i pins s σ H E I hf st hg
  subst hP hw hK
  obtain ⟨xs,x,hq,hx⟩:=hg
  obtain ⟨its,rv,p,hz⟩:=I.tuple hq
  obtain ⟨u,hu,ru⟩:=rv.get hx
  obtain ⟨f0,f1,f2,f3,f4,f5⟩:=hf it (by simp)
  refine wpAny_pyNext_tuple_item st (show s.heap.IsTuple a its.toArray from p) (x:=u) (by simpa using hu) fun h' st' sb=>?_
  have I1:Inv X pins σ H { s with heap:=h' }:=I.turned (t':=s.toks) (fun b o hb e=>(sb.2 b hb).trans e) f0 f1 f3 f4 f5
  obtain ⟨o,e,c,d⟩:=id st'
  exact ⟨u,rfl,yY (s:={ s with heap:=h' }) e c d (by decide) ⟨x,H,I1,ru,⟨rfl,fun ys hy=>by rw [I.qy hy hq];exact hx⟩,st',fun b hb=>(hf b hb).1⟩⟩
 done:=by
  intro X hP hw hK hc i pins s σ H E I hf st hg
  subst hP hw hK
  obtain ⟨xs,hq,hx⟩:=hg
  obtain ⟨its,rv,p,hz⟩:=I.tuple hq
  obtain ⟨f0,f1,f2,f3,f4,f5⟩:=hf it (by simp)
  have hl:=rv.length
  exact wpAny_pyNext_tuple_end (I.ok.hd hc) st (show s.heap.IsTuple a its.toArray from p) (by simp;omega) fun h' eb=>⟨rfl,I.turned (t':=s.toks) (fun b o hb e=>eb b o hb e) f0 f1 f3 f4 f5⟩
 self:=fun _ _ _ _ _ st h=>wpAny_pyIter_tupleiter st h
theorem u7 {P:Program} {w:World} {K:PySem.W.Frag} {tg:Expr} (it:Addr) (lo:Int) (n:Nat):Turn P w K tg (LB lo n) [it] it (fun i h=>IsRangeIter h it (lo+(i:Nat) * 1) ((n:Int) - (i:Nat)) 1) where
 mem:=by simp
 obj:=fun i h st b hb=>by
  have e:b=it:=by simpa using hb
  subst e
  exact ⟨_,st,fun v z=>by
   have z':Data.fields _=Data.cell v:=z
   cases z'⟩
 keep:=fun i h h' st k=>k it (by simp) _ st
 item:=by
  intro X hP hw hK hc i pins s σ H E I hf st hg
  subst hP hw hK
  obtain ⟨f0,f1,f2,f3,f4,f5⟩:=hf it (by simp)
  have W:=Walks.range (prog:=X.prog) (w:=X.w) (I.ok.hd hc) it lo 1 n
  refine W.item i s _ _ hg st fun v h' tk hv st' kk=>?_
  obtain ⟨t,rfl⟩:=hv
  have I1:Inv X pins σ H { s with heap:=h',toks:=tk }:=I.turned (fun b o hb e=>kk b o (by simpa using hb) e) f0 f1 f3 f4 f5
  refine ⟨_,rfl,yY (s:={ s with heap:=h',toks:=tk }) (n := "range_iterator") st' rfl rfl (by decide) ⟨.int (lo+i),H,I1,⟨t,?_⟩,⟨rfl,rfl⟩,st',fun b hb=>(hf b hb).1⟩⟩
  rw [Int.mul_one]
 done:=by
  intro X hP hw hK hc i pins s σ H E I hf st hg
  subst hP hw hK
  obtain ⟨f0,f1,f2,f3,f4,f5⟩:=hf it (by simp)
  exact wpAny_pyNext_range_end (I.ok.hd hc) st (by have:n<=i:=hg;omega) fun h' eb=>⟨rfl,I.turned (t':=s.toks) (fun b o hb e=>eb b o hb e) f0 f1 f3 f4 f5⟩
 self:=fun _ _ _ _ _ st h=>wpAny_pyIter_rangeiter st h
section
variable {X:Cx} {tg:Expr}
noncomputable def Li (K:PySem.W.Frag) (tl:TE):TI:=fun σ H R=>tl σ H fun x H1=>∃ a,x=.ref a/\(∃ xs,fY K H1 a xs)/\R (Mf K a) H1
noncomputable def MA (K:PySem.W.Frag) (tl:TE):TI:=fun σ H R=>tl σ H fun x H1=>∃ a,x=.ref a/\(∃ xs,dF K H1 a xs)/\R (Nv K a) H1
theorem wH {l:Expr} {tl:TE} (hl:PE X l tl):PI X tg l (Li X.K tl):=by
 intro pins s σ H R I h
 refine bY (hl pins s σ H _ I h) fun v s1 ⟨x,H1,I1,r1,q1⟩=>?_
 obtain ⟨a,e,⟨xs,hq⟩,q⟩:=q1
 subst e
 cases r1
 obtain ⟨its,rv,p,hz⟩:=I1.list hq
 refine wpAny_pyIter_list p.isList ?_
 refine ⟨s1.heap.objs.size,[s1.heap.objs.size],_,_,H1,rfl,I1.kept (t':=s1.toks) fun b o e=>Heap.get?_push_of_some _ e,zw a _,⟨_,Heap.get?_push_size _ rfl,rfl,rfl⟩,fun b hb=>?_,q⟩
 have e:b=s1.heap.objs.size:=by simpa using hb
 subst e
 exact I1.zo (Nat.le_refl _) (I1.hok.fresh (Nat.le_refl _))
theorem C7 {l:Expr} {tl:TE} (hl:PE X l tl):PI X tg l (MA X.K tl):=by
 intro pins s σ H R I h
 refine bY (hl pins s σ H _ I h) fun v s1 ⟨x,H1,I1,r1,q1⟩=>?_
 obtain ⟨a,e,⟨xs,hq⟩,q⟩:=q1
 subst e
 cases r1
 obtain ⟨its,rv,p,hz⟩:=I1.tuple hq
 refine wpAny_pyIter_tuple (show s1.heap.IsTuple a its.toArray from p) ?_
 refine ⟨s1.heap.objs.size,[s1.heap.objs.size],_,_,H1,rfl,I1.kept (t':=s1.toks) fun b o e=>Heap.get?_push_of_some _ e,uX a _,⟨_,Heap.get?_push_size _ rfl,rfl,rfl⟩,fun b hb=>?_,q⟩
 have e:b=s1.heap.objs.size:=by simpa using hb
 subst e
 exact I1.zo (Nat.le_refl _) (I1.hok.fresh (Nat.le_refl _))
theorem uK {pins:List (Addr×Obj)} {σ:St} {H:Hp} {s:Shared} {R:It->Hp->Prop} {E:Value->Shared->Prop} {lo hi:Int} {t u v:Tok} {tk:Nat} (I:Inv X pins σ H s) (h1:-(2 ^ 62)<=lo) (h2:lo < 2 ^ 62) (h3:-(2 ^ 62)<=hi) (h4:hi < 2 ^ 62)
  (q:R (LB lo (hi - lo).toNat) H):wpAny (model X.prog X.w) X.A (pyIter (.ref s.heap.objs.size)) (NL X pins σ tg R) E { s with heap:=s.heap.push { cls:=.type "range",data:=.fields #[.int lo t,.int hi u,.int 1 v] },toks:=tk }:=by
 refine wpAny_pyIter_range (IsRange.new ..) (small_one h1 h2 h3 h4) ?_
 have I1:Inv X pins σ H { s with heap:=s.heap.push { cls:=.type "range",data:=.fields #[.int lo t,.int hi u,.int 1 v] },toks:=tk }:=I.kept fun b o e=>Heap.get?_push_of_some _ e
 refine ⟨(s.heap.push { cls:=.type "range",data:=.fields #[.int lo t,.int hi u,.int 1 v] }).objs.size,[(s.heap.push { cls:=.type "range",data:=.fields #[.int lo t,.int hi u,.int 1 v] }).objs.size],_,_,H,rfl,
  I1.kept (t':=tk) fun b o e=>Heap.get?_push_of_some _ e,u7 _ lo (hi - lo).toNat,?_,fun b hb=>?_,q⟩
 ·have e1:lo+((0:Nat):Int) * 1=lo:=by simp
  have e2:(((hi - lo).toNat:Nat):Int) - ((0:Nat):Int)=Builtin.Range.rangeSize lo hi 1:=by rw [rangeSize_one];split <;> omega
  show IsRangeIter _ _ (lo+((0:Nat):Int) * 1) ((((hi - lo).toNat:Nat):Int) - ((0:Nat):Int)) 1
  rw [e1,e2]
  exact Heap.get?_push_size _ rfl
 ·have e:b=(s.heap.push { cls:=.type "range",data:=.fields #[.int lo t,.int hi u,.int 1 v] }).objs.size:=by simpa using hb
  subst e
  exact I1.zo (Nat.le_refl _) (I1.hok.fresh (Nat.le_refl _))
noncomputable def gY (ta:TA):TI:=fun σ H R=>ta σ H fun vs H1=>∃ j:Int,vs=[.int j]/\-(2 ^ 62)<=j/\j < 2 ^ 62/\R (LB 0 j.toNat) H1
noncomputable def gz (ta:TA):TI:=fun σ H R=>ta σ H fun vs H1=>∃ i j:Int,vs=[.int i,.int j]/\(-(2 ^ 62)<=i/\i < 2 ^ 62/\-(2 ^ 62)<=j/\j < 2 ^ 62)/\R (LB i (j - i).toNat) H1
theorem zF {a:Expr} {ta:TA} {p pos:Pos} (hg:Gl X "range") (hm:X.mg "range" = none) (ha:PA X [a] ta) (hs:starEach [a] X.env=[(false,eval a X.env)]:=by rfl):PI X tg (.Call (.Name "range" p) [a] [] pos) (gY ta):=by
 intro pins s σ H R I h
 refine Call_ (nX I hg hm boot_range (PyProof.Rows.callWith_type1 (bY (ha pos pins s σ H _ I h) fun us s1 ⟨vs,H1,I1,r1,q1⟩=>?_) hs rfl))
 obtain ⟨j,e,q1,q2,q⟩:=q1
 subst e
 cases r1 with
 | cons r rr=>
  cases rr
  obtain ⟨t,rfl⟩:=r
  exact call_range_1 (uK I1 (by omega) (by omega) q1 q2 (by simpa using q))
theorem zI {a b:Expr} {ta:TA} {p pos:Pos} (hg:Gl X "range") (hm:X.mg "range" = none) (ha:PA X [a,b] ta) (hs:starEach [a,b] X.env=[(false,eval a X.env),(false,eval b X.env)]:=by rfl) (hs2:starEach [b] X.env=[(false,eval b X.env)]:=by rfl) :
  PI X tg (.Call (.Name "range" p) [a,b] [] pos) (gz ta):=by
 intro pins s σ H R I h
 refine Call_ (nX I hg hm boot_range (PyProof.Rows.callWith_type1 (bY (ha pos pins s σ H _ I h) fun us s1 ⟨vs,H1,I1,r1,q1⟩=>?_) (by rw [hs,hs2]) (by rw [hs2];rfl)))
 obtain ⟨i,j,e,⟨q1,q2,q3,q4⟩,q⟩:=q1
 subst e
 cases r1 with
 | cons r rr=>
  cases rr with
  | cons r' rr=>
   cases rr
   obtain ⟨t,rfl⟩:=r
   obtain ⟨t',rfl⟩:=r'
   exact call_range_2 (uK I1 q1 q2 q3 q4 q)
noncomputable def ND (wi:TI) (g:TG) (tb:TS):TS:=fun D σ H=>wi σ H fun J H1=>∃ W:Nat->Nat->St->Hp->Prop,(∃ m,W 0 m σ H1)/\∀ i m σ H,W i m σ H ->
 (J.stop i H/\D.nx σ H)\/(J.go i H/\∃ N:St->Hp->Prop,(∀ σ' H',N σ' H'->∃ m',m' < m/\W (i+1) m' σ' H')/\∀ x H',J.yld i H x H'->g x σ H' fun σ2 H2=>tb { D with nx:=N,ct:=N,bk:=D.nx } σ2 H2)
noncomputable def jl (fp:List Addr) (h:Heap):List (Addr×Obj):=fp.filterMap fun b=>(h.get? b).map fun o=>(b,o)
theorem bV {fp:List Addr} {h:Heap} {b:Addr} {o:Obj} (hb:b∈fp) (e:h.get? b=some o):(b,o)∈jl fp h:=List.mem_filterMap.mpr ⟨b,hb,by rw [e];rfl⟩
theorem zy {fp:List Addr} {h:Heap} {p:Addr×Obj} (hp:p∈jl fp h):p.1∈fp/\h.get? p.1=some p.2:=by
 obtain ⟨b,hb,e⟩:=List.mem_filterMap.mp hp
 cases q:h.get? b with
 | none=>rw [q] at e;cases e
 | some o=>
  rw [q] at e
  have e':(b,o)=p:=Option.some.inj e
  subst e'
  exact ⟨hb,q⟩
theorem Inv.pinned {pins:List (Addr×Obj)} {σ:St} {H:Hp} {s:Shared} {fp:List Addr} (I:Inv X pins σ H s) (hf:∀ b∈fp,iO X pins H b) (ho:∀ b∈fp,∃ o,s.heap.get? b=some o/\∀ v,o.data≠.cell v):Inv X (pins++jl fp s.heap) σ H s:=
 I.wR fun p hp=>(List.mem_append.mp hp).elim (fun z=>I.pin p (List.mem_append_right _ z)) fun z=>by
  obtain ⟨hb,e⟩:=zy z
  obtain ⟨f0,f1,f2,_⟩:=hf p.1 hb
  obtain ⟨o,e',d⟩:=ho p.1 hb
  rw [e] at e';cases e'
  exact ⟨e,f0,f1,f2,d⟩
theorem Inv.fD {pins pl:List (Addr×Obj)} {σ:St} {H:Hp} {s:Shared} (I:Inv X (pins++pl) σ H s):Inv X pins σ H s:=I.wR fun p hp=>I.pin p (List.mem_append_right _ (List.mem_append_left _ hp))
theorem J8 {iter:Expr} {body:List Stmt} {wi:TI} {g:TG} {tb:TS} {pos:Pos} (hp:PassesOwn (model X.prog X.w) X.A X.env X.xe) (hc:X.calm=true) (hi:PI X tg iter wi) (hg:PG X tg g) (hb:qU X body tb)
  (hs:∀ x,foldedSetIterable iter X.env x=pure x:=by intro _;rfl):PS X (.For tg iter body [] pos) (ND wi g tb):=by
 intro pins s σ H D I h
 refine wpAny_For (bY (hi pins s σ H _ I h) fun v s1 h1=>bY h1 fun itv s2 h2=>?_) hs
 obtain ⟨it,fp,tn,J,H2,e,I2,T,st2,f2,W,⟨m0,w0⟩,turn⟩:=h2
 subst e
 have stat:∀ {H':Hp},(∀ b∈fp,H' b=none)->∀ b∈fp,iO X pins H' b:=fun hn b hb=>⟨hn b hb,(f2 b hb).2⟩
 refine codeAny_forLoop_any (fun n s'=>∃ i σ' H',Inv X pins σ' H' s'/\tn i s'.heap/\(∀ b∈fp,H' b=none)/\W i n σ' H') ?_ m0 ⟨0,σ,H2,I2,st2,fun b hb=>(f2 b hb).1,w0⟩
 rintro n s3 ⟨i,σ3,H3,I3,st3,fr3,w3⟩
 rcases turn i n σ3 H3 w3 with ⟨stop,qn⟩ | ⟨go,N,hN,step⟩
 ·refine wpAny_passesOwn hp (bY (T.done X rfl rfl rfl hc i pins s3 σ3 H3 X.xe I3 (stat fr3) st3 stop) fun r s4 ⟨hr,I4⟩=>?_)
  subst hr
  exact wpAny_execs_nil ⟨σ3,H3,I4,qn⟩
 ·refine wpAny_passesOwn hp (bY (T.item X rfl rfl rfl hc i pins s3 σ3 H3 X.xe I3 (stat fr3) st3 go) fun r s4 ⟨u,hr,h4⟩=>?_)
  subst hr
  refine wpAny_passesOwn hp (bY h4 fun _ s5 ⟨x,H5,I5,r5,y5,st5,fr5⟩=>?_)
  have I5':=I5.pinned (stat fr5) (T.obj _ _ st5)
  refine wpAny_passesOwn hp (bY (hg _ s5 σ3 H5 x u _ I5' r5 (step x H5 y5)) fun _ s6 ⟨σ6,H6,I6,q6⟩=>?_)
  refine wpAny_passesOwn hp (bY (hb _ s6 σ6 H6 _ I6 q6) fun f s7 q7=>?_)
  have again:∀ {σ7:St} {H7:Hp},Inv X (pins++jl fp s5.heap) σ7 H7 s7->N σ7 H7->∃ m,m < n/\∃ i σ' H',Inv X pins σ' H' s7/\tn i s7.heap/\(∀ b∈fp,H' b=none)/\W i m σ' H':=fun {σ7 H7} I7 n7=>by
   obtain ⟨m',hm,w7⟩:=hN σ7 H7 n7
   refine ⟨m',hm,i+1,σ7,H7,I7.fD,T.keep _ _ _ st5 fun b hb o e=>(I7.pin (b,o) (List.mem_append_right _ (List.mem_append_right _ (bV hb e)))).1,fun b hb=>?_,w7⟩
   obtain ⟨o,e,d⟩:=T.obj _ _ st5 b hb
   exact (I7.pin (b,o) (List.mem_append_right _ (List.mem_append_right _ (bV hb e)))).2.1
  cases f with
  | next=>obtain ⟨σ7,H7,I7,n7⟩:=q7;exact again I7 n7
  | cont=>obtain ⟨σ7,H7,I7,n7⟩:=q7;exact again I7 n7
  | brk=>obtain ⟨σ7,H7,I7,q7⟩:=q7;exact ⟨σ7,H7,I7.fD,q7⟩
  | ret v=>obtain ⟨x7,σ7,H7,I7,r7,q7⟩:=q7;exact ⟨x7,σ7,H7,I7.fD,r7,q7⟩
end
theorem jg {c:TT} {tb:TS} {D:Ends} {σ:St} {H:Hp} (Pv:St->Hp->Prop) (μ:St->Hp->Nat) (h0:Pv σ H)
  (hs:∀ σ H,Pv σ H->c σ H fun b H1=>if b=true then tb { D with nx:=fun σ' H'=>Pv σ' H'/\μ σ' H' < μ σ H,ct:=fun σ' H'=>Pv σ' H'/\μ σ' H' < μ σ H,bk:=D.nx } σ H1 else D.nx σ H1)
  (mono:∀ σ H Q Q',(∀ b H1,Q b H1->Q' b H1)->c σ H Q->c σ H Q'):Cp c tb D σ H:=by
 refine ⟨fun m σ H=>m=μ σ H/\Pv σ H,⟨_,rfl,h0⟩,?_⟩
 rintro m σ H ⟨rfl,p⟩
 refine mono σ H _ _ (fun b H1 q=>?_) (hs σ H p)
 cases b with
 | true=>exact ⟨_,fun σ' H' ⟨p',l⟩=>⟨_,l,rfl,p'⟩,q⟩
 | false=>exact q
noncomputable abbrev R2:=V->V->Hp->VK->Prop
noncomputable def eU (X:Cx) (f:Value->Value->Sem Value) (r:R2):Prop:=
 ∀ (pins:List (Addr×Obj)) (s:Shared) (σ:St) (H:Hp) (x y:V) (v u:Value) (Q:VK),Inv X pins σ H s->RelV x v->RelV y u->r x y H Q ->
  wpAny (model X.prog X.w) X.A (f v u) (EP X pins σ Q) X.xe s
noncomputable def NF (X:Cx) (f:Value->Sem Value) (r:V->Hp->VK->Prop):Prop:=
 ∀ (pins:List (Addr×Obj)) (s:Shared) (σ:St) (H:Hp) (x:V) (v:Value) (Q:VK),Inv X pins σ H s->RelV x v->r x H Q ->
  wpAny (model X.prog X.w) X.A (f v) (EP X pins σ Q) X.xe s
noncomputable def bw (X:Cx) (f:Value) (r:List V->Hp->VK->Prop):Prop:=
 ∀ (pins:List (Addr×Obj)) (s:Shared) (σ:St) (H:Hp) (xs:List V) (us:List Value) (Q:VK),Inv X pins σ H s->Vals xs us->r xs H Q ->
  wpAny (model X.prog X.w) X.A (call f us) (EP X pins σ Q) X.xe s
noncomputable def Mw (X:Cx) (r:V->Hp->(Bool->Hp->Prop)->Prop):Prop:=
 ∀ (pins:List (Addr×Obj)) (s:Shared) (σ:St) (H:Hp) (x:V) (v:Value) (Q:Bool->Hp->Prop),Inv X pins σ H s->RelV x v->r x H Q ->
  wpAny (model X.prog X.w) X.A (truthy v) (TP X pins σ Q) X.xe s
noncomputable def KP (r:R2) (ta tb:TE):TE:=fun σ H Q=>ta σ H fun x H1=>tb σ H1 fun y H2=>r x y H2 Q
noncomputable def Oc (r:V->Hp->VK->Prop) (ta:TE):TE:=fun σ H Q=>ta σ H fun x H1=>r x H1 Q
noncomputable def rI (C:Int->Int->Prop) (g:Int->Int->V):R2:=fun x y H Q=>∃ i j,x=.int i/\y=.int j/\C i j/\Q (g i j) H
noncomputable def Hs (g:Int->Int->V):R2:=fun x y H Q=>∃ i j,x=.int i/\y=.int j/\Q (g i j) H
noncomputable def rU (g:Int->V):V->Hp->VK->Prop:=fun x H Q=>∃ i,x=.int i/\Q (g i) H
section
variable {X:Cx} {a b c:Expr} {ta tb tc:TE} {pos:Pos}
theorem HM (ha:PE X a ta) (hb:PE X b tb) {pins:List (Addr×Obj)} {s:Shared} {σ:St} {H:Hp} {R:V->V->Hp->Prop} (I:Inv X pins σ H s)
  (h:ta σ H fun x H1=>tb σ H1 fun y H2=>R x y H2) {Q:Value->Shared->Prop} {f:Value->Value->Sem Value}
  (hf:∀ v u s2 x y H2,Inv X pins σ H2 s2->RelV x v->RelV y u->R x y H2->wpAny (model X.prog X.w) X.A (f v u) Q X.xe s2) :
  wpAny (model X.prog X.w) X.A (eval a X.env) (fun v s₁=>wpAny (model X.prog X.w) X.A (eval b X.env) (fun u s₂=>wpAny (model X.prog X.w) X.A (f v u) Q X.xe s₂) X.xe s₁) X.xe s:=by
 refine bY (ha pins s σ H _ I h) fun v s1 ⟨x,H1,I1,r1,q1⟩=>?_
 refine bY (hb pins s1 σ H1 _ I1 q1) fun u s2 ⟨y,H2,I2,r2,q2⟩=>?_
 exact hf v u s2 x y H2 I2 r1 r2 q2
theorem LQ {op:Operator} {r:R2} (ho:eU X (binaryOp op) r) (ha:PE X a ta) (hb:PE X b tb):PE X (.BinOp a op b pos) (KP r ta tb):=by
 intro pins s σ H Q I h
 exact wpAny_BinOp (HM ha hb I h fun v u s2 x y H2 I2 rx ry q=>ho pins s2 σ H2 x y v u Q I2 rx ry q)
theorem G9 {op:UnaryOp} {r:V->Hp->VK->Prop} (ho:NF X (unaryOp op) r) (ha:PE X a ta):PE X (.UnaryOp op a pos) (Oc r ta):=by
 intro pins s σ H Q I h
 exact UnaryOp_ (bY (ha pins s σ H _ I h) fun v s1 ⟨x,H1,I1,r1,q1⟩=>ho pins s1 σ H1 x v Q I1 r1 q1)
theorem Mp {f:Value->Value->Sem Value} {C:Int->Int->Prop} {g:Int->Int->Int}
  (rule:∀ (i j:Int) (t u:Tok) (s:Shared) (Q:Value->Shared->Prop) (E:Value->Shared->Prop),C i j->Q (.int (g i j) s.toks) { s with toks:=s.toks+1 }->wpAny (model X.prog X.w) X.A (f (.int i t) (.int j u)) Q E s) :
  eU X f (rI C fun i j=>.int (g i j)):=by
 intro pins s σ H x y v u Q I rx ry h
 obtain ⟨i,j,rfl,rfl,hc,q⟩:=h
 obtain ⟨t,rfl⟩:=rx
 obtain ⟨t',rfl⟩:=ry
 exact rule i j t t' s _ _ hc ⟨.int (g i j),H,I.tok _,⟨_,rfl⟩,q⟩
theorem KN {f:Value->Value->Sem Value} {g:Int->Int->Int}
  (rule:∀ (i j:Int) (t u:Tok) (s:Shared) (Q:Value->Shared->Prop) (E:Value->Shared->Prop),Q (.int (g i j) s.toks) { s with toks:=s.toks+1 }->wpAny (model X.prog X.w) X.A (f (.int i t) (.int j u)) Q E s) :
  eU X f (Hs fun i j=>.int (g i j)):=by
 intro pins s σ H x y v u Q I rx ry h
 obtain ⟨i,j,rfl,rfl,q⟩:=h
 obtain ⟨t,rfl⟩:=rx
 obtain ⟨t',rfl⟩:=ry
 exact rule i j t t' s _ _ ⟨.int (g i j),H,I.tok _,⟨_,rfl⟩,q⟩
theorem FZ {f:Value->Value->Sem Value} {g:Int->Int->Bool}
  (rule:∀ (i j:Int) (t u:Tok) (s:Shared) (Q:Value->Shared->Prop) (E:Value->Shared->Prop),Q (.bool (g i j)) s->wpAny (model X.prog X.w) X.A (f (.int i t) (.int j u)) Q E s) :
  eU X f (Hs fun i j=>.bl (g i j)):=by
 intro pins s σ H x y v u Q I rx ry h
 obtain ⟨i,j,rfl,rfl,q⟩:=h
 obtain ⟨t,rfl⟩:=rx
 obtain ⟨t',rfl⟩:=ry
 exact rule i j t t' s _ _ ⟨.bl (g i j),H,I,rfl,q⟩
noncomputable def Nj (i j:Int):Prop:=0<=j/\j<=1000000/\i.natAbs < 2 ^ 64
noncomputable def Fv (i j:Int):Prop:=(-(2 ^ 64) < i/\i < 2 ^ 64)\/(-(2 ^ 64) < j/\j < 2 ^ 64)
theorem Fv.ok {i j:Int} (h:Fv i j):IntMulOk i j:=by
 rcases h with ⟨h1,h2⟩ | ⟨h1,h2⟩
 ·exact .of_left (intBits_le_64 h1 h2)
 ·exact .of_right (intBits_le_64 h1 h2)
theorem Il:eU X (binaryOp .Add) (Hs fun i j=>.int (i+j)):=KN fun _ _ _ _ _ _ _ q=>add_int q
theorem HR:eU X (binaryOp .Sub) (Hs fun i j=>.int (i - j)):=KN fun _ _ _ _ _ _ _ q=>sub_int q
theorem Jg:eU X (binaryOp .Mult) (rI Fv fun i j=>.int (i * j)):=Mp fun _ _ _ _ _ _ _ hc q=>mul_int q hc.ok
theorem IQ:eU X (binaryOp .Mod) (rI (fun _ j=>0 < j) fun i j=>.int (i % j)):=Mp fun i j _ _ _ _ _ hc q=>by
 have h1:(0:Int) < j:=hc
 exact mod_int' (by omega) (by rw [Int.fmod_eq_emod_of_nonneg i (by omega)];exact q)
theorem Ju:eU X (binaryOp .Pow) (rI Nj fun i j=>.int (i ^ j.toNat)):=Mp fun _ _ _ _ _ _ _ hc q=>pow_int_small hc.1 hc.2.1 hc.2.2 q
theorem Og {f:Value->Sem Value} {g:Int->Int}
  (rule:∀ (i:Int) (t:Tok) (s:Shared) (Q:Value->Shared->Prop) (E:Value->Shared->Prop),Q (.int (g i) s.toks) { s with toks:=s.toks+1 }->wpAny (model X.prog X.w) X.A (f (.int i t)) Q E s) :
  NF X f (rU fun i=>.int (g i)):=by
 intro pins s σ H x v Q I rx h
 obtain ⟨i,rfl,q⟩:=h
 obtain ⟨t,rfl⟩:=rx
 exact rule i t s _ _ ⟨.int (g i),H,I.tok _,⟨_,rfl⟩,q⟩
theorem DY:NF X (unaryOp .USub) (rU fun i=>.int (-i)):=Og fun _ _ _ _ _ q=>neg_int q
end
section
variable {X:Cx} {a b c:Expr} {ta tb tc:TE} {pos:Pos}
theorem IS {pins:List (Addr×Obj)} {σ:St} {H:Hp} {s:Shared} {Q:VK} {k k':Bool} (I:Inv X pins σ H s) (q:Q (.bl k) H) (e:k=k'):EP X pins σ Q (.bool k') s:=by
 subst e
 exact ⟨.bl k,H,I,rfl,q⟩
theorem KS:eU X (compareOp .Lt) (Hs fun i j=>.bl (decide (i < j))):=FZ fun _ _ _ _ _ _ _ q=>lt_int q
theorem K_:eU X (compareOp .LtE) (Hs fun i j=>.bl (decide (i<=j))):=FZ fun _ _ _ _ _ _ _ q=>le_int q
theorem K0:eU X (compareOp .Gt) (Hs fun i j=>.bl (decide (j < i))):=FZ fun _ _ _ _ _ _ _ q=>gt_int q
theorem LW:eU X (compareOp .GtE) (Hs fun i j=>.bl (decide (j<=i))):=FZ fun _ _ _ _ _ _ _ q=>ge_int q
theorem HK:eU X (compareOp .Is) (fun x y H Q=>y=.non/\Q (.bl (decide (x=.non))) H):=by
 intro pins s σ H x y v u Q I rx ry h
 obtain ⟨rfl,q⟩:=h
 cases ry
 refine is_none_gen (IS I q ?_)
 cases x <;> first
  | (cases rx;rfl)
  | (obtain ⟨t,rfl⟩:=rx;rfl)
theorem Dl (b:Expr) {op:CmpOp} (h:op≠.In:=by decide) (h2:op≠.NotIn:=by decide):behindInMarks op b=false:=by
 have e1:(op == CmpOp.In)=false:=by cases op <;> first | rfl | exact absurd rfl h
 have e2:(op == CmpOp.NotIn)=false:=by cases op <;> first | rfl | exact absurd rfl h2
 cases b <;> simp [behindInMarks,e1,e2]
theorem FE {op:CmpOp} {r:R2} (ho:eU X (compareOp op) r) (ha:PE X a ta) (hb:PE X b tb) (hm:behindInMarks op b=false):PE X (.Compare a [op] [b] pos) (KP r ta tb):=by
 intro pins s σ H Q I h
 exact wpAny_Compare1 (HM ha hb I h fun v u s2 x y H2 I2 rx ry q=>ho pins s2 σ H2 x y v u Q I2 rx ry q) hm
noncomputable def LC (t:TE):TT:=fun σ H Q=>t σ H fun x H'=>∃ k,x=.bl k/\Q k H'
theorem Et {op:CmpOp} {r:R2} (ho:eU X (compareOp op) r) (ha:PE X a ta) (hb:PE X b tb) (hm:behindInMarks op b=false):PT X (.Compare a [op] [b] pos) (LC (KP r ta tb)):=by
 intro pins s σ H Q I h
 refine wpAny_isTrue_Compare1 (bY (ha pins s σ H _ I h) fun v s1 ⟨x,H1,I1,r1,q1⟩=>bY (hb pins s1 σ H1 _ I1 q1) fun u s2 ⟨y,H2,I2,r2,q2⟩=>
  bY (ho pins s2 σ H2 x y v u _ I2 r1 r2 q2) fun c s3 ⟨z,H3,I3,r3,k,e,q3⟩=>?_) hm
 subst e
 cases r3
 exact wpAny_truthy_bool ⟨H3,I3,q3⟩
noncomputable def AR (r r':R2) (ta tb tc:TE):TE:=fun σ H Q=>ta σ H fun x H1=>tb σ H1 fun y H2=>r x y H2 fun z H3=>∃ k,z=.bl k /\
 (if k=true then tc σ H3 fun w' H4=>r' y w' H4 Q else Q (.bl false) H3)
theorem DK {op op':CmpOp} {r r':R2} (ho:eU X (compareOp op) r) (ho':eU X (compareOp op') r') (ha:PE X a ta) (hb:PE X b tb) (hc:PE X c tc)
  (hm:lastMarks [op,op'] [b,c]=false:=by with_unfolding_all rfl):PE X (.Compare a [op,op'] [b,c] pos) (AR r r' ta tb tc):=by
 intro pins s σ H Q I h
 refine Compare_chain (bY (ha pins s σ H _ I h) fun v s1 ⟨x,H1,I1,r1,q1⟩=>chain_link (bY (hb pins s1 σ H1 _ I1 q1) fun u s2 ⟨y,H2,I2,r2,q2⟩=>
  bY (ho pins s2 σ H2 x y v u _ I2 r1 r2 q2) fun d s3 ⟨z,H3,I3,r3,k,e,q3⟩=>?_)) hm
 subst e
 cases r3
 refine wpAny_truthy_bool ?_
 cases k with
 | false=>exact ite_ff ⟨.bl false,H3,I3,rfl,q3⟩
 | true=>exact ite_tt (chain_last (bY (hc pins s3 σ H3 _ I3 q3) fun w' s4 ⟨z',H4,I4,r4,q4⟩=>ho' pins s4 σ H4 y z' u w' Q I4 r2 r4 q4))
noncomputable def Ie (K:PySem.W.Frag) (x:V) (H:Hp) (k:Bool):Prop:=
 match x with
 | .non=>k=false
 | .bl b=>k=b
 | .int i=>k=(i != 0)
 | .str y=>y.length<=sizeLine/\k=((y.length:Int) != 0)
 | .byt y=>y.size<=sizeLine/\k=((y.size:Int) != 0)
 | .ref p=>(∃ xs,fY K H p xs/\k=!xs.isEmpty)\/(∃ xs,dF K H p xs/\k=!xs.isEmpty)\/∃ kvs,H p=some (.dK kvs)/\k=!kvs.isEmpty
 | _=>False
theorem vp {κ:Type} {kvs:List (κ×V)} {vs:List (κ×Value)} (r:KV kvs vs):(!vs.isEmpty)=!kvs.isEmpty:=by
 cases r <;> rfl
theorem n_ {xs:List V} {its:List Value} (r:Vals xs its):(!its.toArray.isEmpty)=!xs.isEmpty:=by
 cases r <;> simp
theorem j9:(sizeLine:Nat) < 2 ^ 63:=by rw [sizeLine_eq];decide
theorem HH:Mw X (fun x H Q=>∃ k,Ie X.K x H k/\Q k H):=by
 intro pins s σ H x v Q I rx h
 obtain ⟨k,e,q⟩:=h
 have hl:=j9
 have hs:sizeLine=16777216:=sizeLine_eq
 cases x with
 | non=>
  cases rx
  have e':k=false:=e
  subst e'
  exact truthy_none ⟨H,I,q⟩
 | bl b=>
  cases rx
  have e':k=b:=e
  subst e'
  exact wpAny_truthy_bool ⟨H,I,q⟩
 | int i=>
  obtain ⟨t,rfl⟩:=rx
  have e':k=(i != 0):=e
  subst e'
  exact PySem.P.truthy_int ⟨H,I,q⟩
 | str y=>
  obtain ⟨t,rfl⟩:=rx
  obtain ⟨hy,e'⟩:y.length<=sizeLine/\k=((y.length:Int) != 0):=e
  subst e'
  exact PySem.P.truthy_str (by omega) ⟨H,I.tok _,q⟩
 | byt y=>
  obtain ⟨t,rfl⟩:=rx
  obtain ⟨hy,e'⟩:y.size<=sizeLine/\k=((y.size:Int) != 0):=e
  subst e'
  exact PySem.W.truthy_bytes (by omega) ⟨H,I.tok _,q⟩
 | ref p=>
  cases rx
  have e':(∃ xs,fY X.K H p xs/\k=!xs.isEmpty)\/(∃ xs,dF X.K H p xs/\k=!xs.isEmpty)\/∃ kvs,H p=some (.dK kvs)/\k=!kvs.isEmpty:=e
  rcases e' with ⟨xs,hx,e'⟩ | ⟨xs,hx,e'⟩ | ⟨kvs,hx,e'⟩
  ·subst e'
   obtain ⟨its,r,pl,hz⟩:=I.list hx
   have hlen:=r.length
   exact wpAny_truthy_list pl.isList (by simp only [List.size_toArray];omega) ⟨H,I.tok _,by rw [n_ r];exact q⟩
  ·subst e'
   obtain ⟨its,r,pl,hz⟩:=I.tuple hx
   have hlen:=r.length
   exact truthy_tuple pl (by simp only [List.size_toArray];omega) ⟨H,I.tok _,by rw [n_ r];exact q⟩
  ·subst e'
   obtain ⟨hz,hS,vs,r,m⟩:kvs.length<=sizeLine/\(p == sysModules)=false/\∃ vs,KV kvs vs/\s.heap.DictOf (cg X.prog X.w) p vs:=I.hok p _ hx
   have hlen:kvs.length=vs.length:=Paired.length r
   exact wpAny_truthy_dict hS m (by omega) ⟨H,I.tok _,by rw [vp r];exact q⟩
 | _=>exact (show False from e).elim
theorem DE (ha:PE X a ta) (he:∀ whole,isTrue a X.env whole=(do let v <- whole;standAt a.pos;holding [v] (truthy v))) :
  PT X a (fun σ H Q=>ta σ H fun x H'=>∃ k,Ie X.K x H' k/\Q k H'):=by
 intro pins s σ H Q I h
 exact isTrue_plain (bY (ha pins s σ H _ I h) fun v s1 ⟨x,H1,I1,r1,q1⟩=>HH pins s1 σ H1 x v Q I1 r1 q1) (he _)
theorem vd:eU X (binaryOp .Add) (fun x y H Q=>∃ i j,x=.str i/\y=.str j/\i.length+j.length<=sizeLine/\Q (.str (i++j)) H):=by
 intro pins s σ H x y v u Q I rx ry h
 obtain ⟨i,j,rfl,rfl,hz,q⟩:=h
 obtain ⟨t,rfl⟩:=rx
 obtain ⟨t',rfl⟩:=ry
 exact add_str (fun t' tk=>⟨.str (i++j),H,I.tok _,⟨_,rfl⟩,q⟩) hz
theorem vals1 {x:V} {us:List Value} (r:Vals [x] us):∃ u,us=[u]/\RelV x u:=by
 cases r with
 | cons r1 r2=>cases r2;exact ⟨_,rfl,r1⟩
theorem vals2 {x y:V} {us:List Value} (r:Vals [x,y] us):∃ u w',us=[u,w']/\RelV x u/\RelV y w':=by
 cases r with
 | cons r1 r2=>
  cases r2 with
  | cons r3 r4=>cases r4;exact ⟨_,_,rfl,r1,r3⟩
theorem DR:bw X (.builtin "abs") (fun xs H Q=>∃ i,xs=[.int i]/\Q (.int (if i < 0 then -i else i)) H):=by
 intro pins s σ H xs us Q I r h
 obtain ⟨i,rfl,q⟩:=h
 obtain ⟨u,rfl,t,rfl⟩:=vals1 r
 exact call_abs_int fun u tk=>⟨.int (if i < 0 then -i else i),H,I.tok _,⟨_,rfl⟩,q⟩
theorem Ai (hc:X.calm=true):bw X (.builtin "max") (fun xs H Q=>∃ i j,xs=[.int i,.int j]/\Q (.int (if j > i then j else i)) H):=by
 intro pins s σ H xs us Q I r h
 obtain ⟨i,j,rfl,q⟩:=h
 obtain ⟨u,w',rfl,⟨t,rfl⟩,⟨t',rfl⟩⟩:=vals2 r
 refine max_two_ints (I.ok.hd hc) fun h' tk k=>⟨_,H,I.kept k,?_,q⟩
 by_cases hj:j > i
 ·rw [if_pos hj,if_pos hj];exact ⟨_,rfl⟩
 ·rw [if_neg hj,if_neg hj];exact ⟨_,rfl⟩
theorem z_ (hc:X.calm=true):bw X (.builtin "min") (fun xs H Q=>∃ i j,xs=[.int i,.int j]/\Q (.int (if j < i then j else i)) H):=by
 intro pins s σ H xs us Q I r h
 obtain ⟨i,j,rfl,q⟩:=h
 obtain ⟨u,w',rfl,⟨t,rfl⟩,⟨t',rfl⟩⟩:=vals2 r
 refine min_two_ints (I.ok.hd hc) fun h' tk k=>⟨_,H,I.kept k,?_,q⟩
 by_cases hj:j < i
 ·rw [if_pos hj,if_pos hj];exact ⟨_,rfl⟩
 ·rw [if_neg hj,if_neg hj];exact ⟨_,rfl⟩
theorem qj:bw X (.type "int") (fun xs H Q=>(∃ i,xs=[.int i]/\Q (.int i) H)\/∃ k,xs=[.bl k]/\Q (.int (if k then 1 else 0)) H):=by
 intro pins s σ H xs us Q I r h
 rcases h with ⟨i,rfl,q⟩ | ⟨k,rfl,q⟩
 ·obtain ⟨u,rfl,t,rfl⟩:=vals1 r
  exact call_int_int ⟨.int i,H,I,⟨_,rfl⟩,q⟩
 ·obtain ⟨u,rfl,r1⟩:=vals1 r
  cases r1
  exact call_int_bool ⟨.int (if k then 1 else 0),H,I.tok _,⟨_,rfl⟩,q⟩
noncomputable def MW (K:PySem.W.Frag) (x:V) (H:Hp) (n:Nat):Prop:=
 match x with
 | .str y=>y.length<=sizeLine/\n=y.length
 | .byt y=>y.size<=sizeLine/\n=y.size
 | .ref p=>(∃ xs,fY K H p xs/\n=xs.length)\/∃ xs,dF K H p xs/\n=xs.length
 | _=>False
theorem DB:bw X (.builtin "len") (fun xs H Q=>∃ x n,xs=[x]/\MW X.K x H n/\Q (.int n) H):=by
 intro pins s σ H xs us Q I r h
 obtain ⟨x,n,rfl,e,q⟩:=h
 obtain ⟨u,rfl,rx⟩:=vals1 r
 have hl:=j9
 have hs:sizeLine=16777216:=sizeLine_eq
 cases x with
 | str y=>
  obtain ⟨t,rfl⟩:=rx
  obtain ⟨hy,e'⟩:y.length<=sizeLine/\n=y.length:=e
  subst e'
  exact len_str (by omega) ⟨.int _,H,I.tok _,⟨_,rfl⟩,q⟩
 | byt y=>
  obtain ⟨t,rfl⟩:=rx
  obtain ⟨hy,e'⟩:y.size<=sizeLine/\n=y.size:=e
  subst e'
  exact PySem.W.len_bytes (by omega) ⟨.int _,H,I.tok _,⟨_,rfl⟩,q⟩
 | ref p=>
  cases rx
  have e':(∃ xs,fY X.K H p xs/\n=xs.length)\/∃ xs,dF X.K H p xs/\n=xs.length:=e
  rcases e' with ⟨xs,hx,e'⟩ | ⟨xs,hx,e'⟩
  ·subst e'
   obtain ⟨its,r',pl,hz⟩:=I.list hx
   have hlen:=r'.length
   exact Calls.call_len_list pl.isList (by simp only [List.size_toArray];omega) ⟨.int xs.length,H,I.tok _,⟨_,by simp only [List.size_toArray];rw [hlen]⟩,q⟩
  ·subst e'
   obtain ⟨its,r',pl,hz⟩:=I.tuple hx
   have hlen:=r'.length
   exact len_tuple pl (by simp only [List.size_toArray];omega) ⟨.int xs.length,H,I.tok _,⟨_,by simp only [List.size_toArray];rw [hlen]⟩,q⟩
 | _=>exact (show False from e).elim
end
structure ObjM (h:Heap) (x dx C:Addr) (mA:Str->Option Value):Prop where
 obj:h.get? x=some (PySem.W.instObj C dx)
 ns:h.Ns1 dx mA
 ne:dx≠x
theorem zC {h:Heap} {dx:Addr} {mA:Str->Option Value} (n:h.Ns1 dx mA):∃ od,h.get? dx=some od/\∀ name,PySem.W.lookIn name od=some (mA name):=by
 obtain ⟨o,es,ep,ho,hd,hk,_,hm⟩:=n
 refine ⟨o,ho,fun name=>?_⟩
 have e:=hm name
 unfold nsFind findBy at e
 rw [<- Array.find?_toList] at e
 unfold PySem.W.lookIn
 rw [hd]
 dsimp only
 split
 ·rename_i y q
  rw [q] at e
  exact congrArg some e
 ·rename_i q
  rw [q] at e
  have a:es.toList.any (·.refKey)=false:=by
   rw [List.any_eq_false]
   intro y hy
   obtain ⟨z,t,hkey⟩:=hk y (Array.mem_toList_iff.mp hy)
   simp [DictEntry.refKey,hkey]
  have a':¬ es.toList.any (·.refKey)=true:=by rw [a];exact Bool.false_ne_true
  rw [if_neg a']
  exact congrArg some e
theorem ObjM.look {h:Heap} {x dx C:Addr} {mA:Str->Option Value} (I:ObjM h x dx C mA):∃ od,PySem.W.InstAt h x (PySem.W.instObj C dx) C (some od)/\∀ name,PySem.W.lookIn name od=some (mA name):=
 let ⟨od,ho,hl⟩:=zC I.ns
 ⟨od,⟨I.obj,rfl,rfl,ho⟩,hl⟩
section
variable {prog:Program} {w:World} {A:Around} {E:Value->Shared->Prop} {s:Shared} {K:PySem.W.Frag} {x dx C f:Addr} {mA:Str->Option Value} {name:Str} {v:Value}
end
theorem nQ.some_of {v:V} {o:Option Value} (r:nQ (some v) o):∃ u,o=some u/\RelV v u:=by
 cases o with
 | none=>exact (show False from r).elim
 | some u=>exact ⟨u,rfl,r⟩
section
variable {P:Program} {w:World} {H H':Hp} {h h':Heap} {a C dx:Addr} {fs fs':List (Str×V)}
theorem Er (hok:ku P w H h) (e:H a=some (.ins C dx fs)):∃ mA,ObjM h a dx C mA/\(∀ f,nQ (fs.lookup f) (mA f))/\PySem.Within mA (fs.map (·.1))/\fs.length<=1000/\H dx=some (.own a):=by
 obtain ⟨d,z,ne,ob,mA,n,r,q⟩:=(show bZ P w H h a (.ins C dx fs) from hok a _ e)
 exact ⟨mA,⟨ob,n,ne⟩,r,q,z,d⟩
end
structure Cls (K:PySem.W.Frag) (C:Addr):Prop where
 pg:PySem.W.plainGet K C Str.empty=true
 hd:PySem.W.hasDictIn K C=true
 po:PySem.W.plainOver K C=true
 sa:PySem.W.findIn K (.ref C) "__setattr__" = some (some (.builtin "object.__setattr__"))
theorem Cls.get {K:PySem.W.Frag} {C:Addr} (c:Cls K C) (f:Str):PySem.W.plainGet K C f=true:=c.pg
structure Con (K:PySem.W.Frag) (C:Addr) (f:Str) (v:V) (u:Value):Prop where
 at_:PySem.W.findIn K (.ref C) f=some (some u)
 rel:RelV v u
 get:PySem.W.specialIn K u "__get__" = some none
 cp:PySem.W.copiedNames.contains f=false
structure Meth (K:PySem.W.Frag) (C:Addr) (m:Str) (f:Addr):Prop where
 at_:PySem.W.findIn K (.ref C) m=some (some (.ref f))
 fn:PySem.W.isFn K (.ref f)=true
 kp:PySem.W.keepIn K (.ref f)=true
section
variable {X:Cx} {pins:List (Addr×Obj)} {σ:St} {H:Hp} {s:Shared} {a C dx:Addr} {fs:List (Str×V)} {f:Str} {v:V} {A:Around} {E:Value->Shared->Prop}
end
section
variable {X:Cx} {o e value:Expr} {f:Str} {pos pos' tpos:Pos} {ta tv:TE}
end
section
variable {X:Cx} {pins:List (Addr×Obj)} {σ:St} {H:Hp} {s:Shared} {A:Around} {E:Value->Shared->Prop} {Q:Value->Shared->Prop} {c:Value} {b:Bool}
inductive TyOf (K:PySem.W.Frag) (H:Hp):V->Value->Prop where
 | non:TyOf K H .non (.type "NoneType")
 | bl (x:Bool):TyOf K H (.bl x) (.type "bool")
 | int (i:Int):TyOf K H (.int i) (.type "int")
 | str (x:Str):TyOf K H (.str x) (.type "str")
 | flt (x:UInt64):TyOf K H (.flt x) (.type "float")
 | lst {a:Addr} {xs:List V} (e:H a=some (.lst xs)):TyOf K H (.ref a) (.type "list")
 | frz {a:Addr} {o:Obj} {xs:List V} (e:H a=some (.frz o (.lst xs))):TyOf K H (.ref a) (.type "list")
 | tup {a:Addr} {xs:List V} (e:H a=some (.tup xs)):TyOf K H (.ref a) (.type "tuple")
 | dK {a:Addr} {kvs:List (Key×V)} (e:H a=some (.dK kvs)):TyOf K H (.ref a) (.type "dict")
 | dT {a:Addr} {kvs:List (List Key×V)} (e:H a=some (.dT kvs)):TyOf K H (.ref a) (.type "dict")
 | ins {a C dx:Addr} {fs:List (Str×V)} (e:H a=some (.ins C dx fs)) (cl:Cls K C) (ha:PySem.W.findIn K (.ref C) "__class__" = some (some (.builtin "object.__class__")))
   (hn:PySem.W.specialIn K (.builtin "object.__class__") "__get__" = some (some (.builtin "getset_descriptor.__get__"))) (htk:PySem.W.takesIn K (.builtin "object.__class__")=some true)
   (hm:PySem.W.mroIn K C (.type "object")=some true):TyOf K H (.ref a) (.ref C)
theorem z6 {x:V} {u t:Value} (I:Inv X pins σ H s) (rx:RelV x u) (ty:TyOf X.K H x t) (e:PySem.W.kitOne X.K t c=some b) (h:∀ tk,Q (.bool b) { s with toks:=tk }) :
  wpAny (model X.prog X.w) A (call (.builtin "isinstance") [u,c]) Q E s:=by
 cases ty with
 | non=>cases (show u=Value.none from rx);exact PySem.W.kia_one PySem.W.kitx_none I.rY True.intro e (fun z=>nomatch z) h
 | bl y=>cases (show u=Value.bool y from rx);exact PySem.W.kia_one PySem.W.kitx_bool I.rY True.intro e (fun z=>nomatch z) h
 | int i=>obtain ⟨t,q⟩:=(show ∃ t,u=Value.int i t from rx);cases q;exact PySem.W.kia_one PySem.W.kitx_int I.rY True.intro e (fun z=>nomatch z) h
 | str y=>obtain ⟨t,q⟩:=(show ∃ t,u=Value.str y t from rx);cases q;exact PySem.W.kia_one PySem.W.kitx_str I.rY True.intro e (fun z=>nomatch z) h
 | flt y=>obtain ⟨t,q⟩:=(show ∃ t,u=Value.float y t from rx);cases q;exact PySem.W.kia_one PySem.W.kitx_float I.rY True.intro e (fun z=>nomatch z) h
 | @lst a xs ea=>
  cases (show u=Value.ref a from rx)
  obtain ⟨_,_,n,_,h1⟩:=(show bZ X.prog X.w H s.heap a (.lst xs) from I.hok a _ ea)
  exact PySem.W.kia_one PySem.W.kitx_list I.rY ⟨_,h1,rfl⟩ e (fun z=>nomatch z) h
 | @frz a ob xs ea=>
  cases (show u=Value.ref a from rx)
  obtain ⟨_,_,_,n,_,h1⟩:=(show bZ X.prog X.w H s.heap a (.frz ob (.lst xs)) from I.hok a _ ea)
  exact PySem.W.kia_one PySem.W.kitx_list I.rY ⟨_,h1,rfl⟩ e (fun z=>nomatch z) h
 | @tup a xs ea=>
  cases (show u=Value.ref a from rx)
  obtain ⟨_,_,_,p⟩:=(show bZ X.prog X.w H s.heap a (.tup xs) from I.hok a _ ea)
  obtain ⟨o,h1,h2,_⟩:=p
  exact PySem.W.kia_one PySem.W.kitx_tuple I.rY ⟨o,h1,h2⟩ e (fun z=>nomatch z) h
 | @dK a kvs ea=>
  cases (show u=Value.ref a from rx)
  obtain ⟨_,_,vs,_,p⟩:=(show bZ X.prog X.w H s.heap a (.dK kvs) from I.hok a _ ea)
  obtain ⟨o,es,ep,h1,h2,_⟩:=p
  exact PySem.W.kia_one PySem.W.kitx_dict I.rY ⟨o,h1,h2.1⟩ e (fun z=>nomatch z) h
 | @dT a kvs ea=>
  cases (show u=Value.ref a from rx)
  obtain ⟨_,_,xs,_,o,es,ep,h1,h2,_⟩:=(show bZ X.prog X.w H s.heap a (.dT kvs) from I.hok a _ ea)
  exact PySem.W.kia_one PySem.W.kitx_dict I.rY ⟨o,h1,h2.1⟩ e (fun z=>nomatch z) h
 | @ins a C dx fs ea cl ha hn htk hm=>
  cases (show u=Value.ref a from rx)
  obtain ⟨mA,O,_⟩:=Er I.hok ea
  obtain ⟨od,J,_⟩:=O.look
  exact PySem.W.kia_one (PySem.W.kitx_own (cl.get _) cl.hd ha hn htk hm) I.rY J e (fun z=>nomatch z) h
end
structure Room (k:Nat) (A:Around):Prop where
 hd:A.handled=none
 dp:A.depth+3 * k+5 < recursionLimit
 un:A.units+16 * k+200 < cLine
theorem Room.mono {j k:Nat} {A:Around} (r:Room k A) (h:j<=k):Room j A:=⟨r.hd,by have:=r.dp;omega,by have:=r.un;omega⟩
theorem Room.deeper {k:Nat} {A:Around} (r:Room (k+1) A) (env:Env):Room k (A.deeper env):=
 ⟨r.hd,by have:=r.dp;show A.depth+1+3 * k+5 < _;omega,by have:=r.un;show A.units+3+16 * k+200 < _;omega⟩
theorem Room.depth {k:Nat} {A:Around} (r:Room k A):A.depth < recursionLimit:=by have:=r.dp;omega
theorem Room.units {k:Nat} {A:Around} (r:Room k A):A.units+64 < cLine:=by have:=r.un;omega
noncomputable def Mx:TA:=fun _ H Q=>Q [] H
noncomputable def KG (ta:TE) (tr:TA):TA:=fun σ H Q=>ta σ H fun x H1=>tr σ H1 fun xs H2=>Q (x::xs) H2
section
variable {X:Cx} {e:Expr} {es:List Expr} {te:TE} {t:TA} {pos:Pos}
theorem u9:PA X [] Mx:=fun _ _ _ _ H Q I h=>Calls.spliced_nil ⟨[],H,I,.nil,h⟩
theorem ng (ha:PE X e te) (hr:PA X es t) (hs:starEach (e::es) X.env=(false,eval e X.env)::starEach es X.env:=by rfl):PA X (e::es) (KG te t):=by
 intro pos pins s σ H Q I h
 rw [hs]
 show wpAny _ _ (spliced ((false,eval e X.env)::backTo pos (starEach es X.env))) _ _ s
 refine Calls.spliced_cons (bY (ha pins s σ H _ I h) fun u s1 ⟨x,H1,I1,r1,q1⟩=>?_)
 exact bY (hr pos pins s1 σ H1 _ I1 q1) fun us s2 ⟨xs,H2,I2,r2,q2⟩=>⟨x::xs,H2,I2,.cons r1 r2,q2⟩
noncomputable def Nh (t:TA):TE:=fun σ H Q=>t σ H fun xs H1=>xs.length<=sizeLine/\∀ p,H1 p=none->Q (.ref p) (upd H1 p (.tup xs))
noncomputable def MY (t:TA):TE:=fun σ H Q=>t σ H fun xs H1=>xs.length<=sizeLine/\∀ p,H1 p=none->Q (.ref p) (upd H1 p (.lst xs))
theorem Js {x1} (h:PA X es t):PE X (.Tuple es x1 pos) (Nh t):=by
 intro pins s σ H Q I hq
 refine wpAny_Tuple_spliced (bY (h pos pins s σ H _ I hq) fun us s1 ⟨xs,H1,I1,r,z,q⟩=>⟨by rw [<- r.length];exact z,?_⟩)
 have hf:H1 s1.heap.objs.size=none:=I1.hok.fresh (Nat.le_refl _)
 refine ⟨.ref s1.heap.objs.size,upd H1 s1.heap.objs.size (.tup xs),I1.laid (t':=s1.toks) (fun b u e=>Heap.get?_push_of_some _ e) (Nat.le_refl _) ?_,rfl,q _ hf⟩
 exact ⟨z,us,r,⟨_,Heap.get?_push_size _ rfl,rfl,rfl,_,rfl⟩⟩
theorem JW (h:PA X es t):PE X (.List es pos) (MY t):=by
 intro pins s σ H Q I hq
 refine wpAny_List_spliced (bY (h pos pins s σ H _ I hq) fun us s1 ⟨xs,H1,I1,r,z,q⟩=>⟨by rw [<- r.length];exact z,?_⟩)
 have hf:H1 s1.heap.objs.size=none:=I1.hok.fresh (Nat.le_refl _)
 refine ⟨.ref s1.heap.objs.size,upd H1 s1.heap.objs.size (.lst xs),I1.laid (t':=s1.toks) (fun b u e=>Heap.get?_push_of_some _ e) (Nat.le_refl _) ?_,rfl,q _ hf⟩
 exact ⟨z,us,0,r,Heap.get?_push_size _ rfl⟩
end
noncomputable abbrev Sp:=List V->Hp->VK->XK->Prop
noncomputable abbrev DH:=List Env->Hp->Shared->XK->Value->Shared->Prop
structure Env0 (P:Program) (w:World) (K:PySem.W.Frag) (mg:Str->Option Value) (base:Heap) (A:Around) (outer:List Env) (s:Shared) (H:Hp):Prop where
 frames:A.frames=some outer
 mod:Mod K mg base
 bs:∀ b o,base.get? b=some o->s.heap.get? b=some o/\H b=none
 bsz:base.objs.size<=s.heap.objs.size
 pK:s.heap.FunFrames base outer
 frf:∀ b∈frs outer,H b=none
 hok:ku P w H s.heap
 bare:AllBare s.gens
noncomputable def CE (outer:List Env) (P:Program) (w:World) (H:Hp) (s:Shared) (Q:VK) (u:Value) (s':Shared):Prop:=
 ∃ v H',s'.os=s.os/\AllBare s'.gens/\Un (frs outer) [] H H' s.heap s'.heap/\ku P w H' s'.heap/\RelV v u/\Q v H'
noncomputable def CR (CX:DH) (outer:List Env) (P:Program) (w:World) (H:Hp) (s:Shared) (Q:VK) (E:XK) (r:Result) (s':Shared):Prop:=
 match r with
 | .ok (.ret u)=>CE outer P w H s Q u s'
 | .ok _=>False
 | .error e=>CX outer H s E e s'
structure FnOk (P:Program) (w:World) (K:PySem.W.Frag) (mg:Str->Option Value) (base:Heap) (CX:DH) (k:Nat) (f:Addr) (fd:FuncData) (ps:List Str) (sp:Sp):Prop where
 len:∀ vs H Q E,sp vs H Q E->vs.length=ps.length
 run:∀ (A:Around) (outer:List Env) (s:Shared) (H:Hp) (args:Args) (us:List Value) (vs:List V) (Q:VK) (E:XK),Room k A->Env0 P w K mg base A outer s H->BindsTo s fd args (ps.zip us)->Vals vs us->sp vs H Q E ->
  codeAny (model P w) A (.call (.ref f) args) (CR CX outer P w H s Q E) s
section
variable {X:Cx} {pins:List (Addr×Obj)} {σ:St} {H:Hp} {s s':Shared}
theorem Inv.M5 (I:Inv X pins σ H s):Env0 X.prog X.w X.K X.mg X.base X.A X.stack s H:=
 ⟨I.ok.frames,I.ok.mod,I.bs,Nat.le_trans I.ok.bsz I.sz,I.stack,I.wD,I.hok,I.bare⟩
theorem Inv.after {Q:VK} {u:Value} (I:Inv X pins σ H s) (h:CE X.stack X.prog X.w H s Q u s'):EP X pins σ Q u s':=by
 obtain ⟨v,H',os,bare,un,hok,r,q⟩:=h
 obtain ⟨hh,g,d,t,os'⟩:=s'
 obtain rfl:os'=s.os:=os
 exact ⟨v,H',I.call (h':=hh) (g':=g) (d':=d) (t':=t) (ch:=[]) un hok bare (fun b z=>absurd z (by simp)),r,q⟩
end
noncomputable def GD (sp:Sp) (dvs:List V) (E:XK) (t:TA):TE:=fun σ H Q=>t σ H fun vs H1=>sp (vs++dvs) H1 Q E
noncomputable def Binds (K:PySem.W.Frag) (fd:FuncData) (ps:List Str) (ds:List Value):Prop:=
 ∀ (s:Shared) (us:List Value),K.In s.heap->(us++ds).length=ps.length->BindsTo s fd ⟨us,[]⟩ (ps.zip (us++ds))
theorem Binds.all {K:PySem.W.Frag} {fd:FuncData} {ps:List Str} (h:∀ us:List Value,us.length=ps.length->bindArgs fd ⟨us,[]⟩=pure (ps.zip us)):Binds K fd ps []:=fun s us _ hl=>by
 rw [List.append_nil] at hl ⊢
 exact .of_eq (h us hl)
noncomputable def Passes (CX:DH) (X:Cx) (E:XK):Prop:=∀ (pins:List (Addr×Obj)) (σ:St) (H:Hp) (s:Shared) (e:Value) (s':Shared),Inv X pins σ H s->CX X.stack H s E e s'->X.xe e s'
section
variable {X:Cx} {CX:DH} {k:Nat} {f C:Addr} {fd:FuncData} {ps:List Str} {sp:Sp} {dvs:List V} {ds:List Value} {E:XK} {x m:Str} {p pos apos:Pos} {e o:Expr} {es:List Expr} {ta:TE} {t:TA}
theorem HZ {pins:List (Addr×Obj)} {σ:St} {H:Hp} {s:Shared} {Q:VK} {us:List Value} {vs:List V} (F:FnOk X.prog X.w X.K X.mg X.base CX k f fd ps sp) (hr:Room k X.A) (hb:Binds X.K fd ps ds) (hd:Vals dvs ds) (hx:Passes CX X E)
  (I:Inv X pins σ H s) (r:Vals vs us) (h:sp (vs++dvs) H Q E):wpAny (model X.prog X.w) X.A (call (.ref f) us) (EP X pins σ Q) X.xe s:=by
 have r2:Vals (vs++dvs) (us++ds):=r.append hd
 have hl:(us++ds).length=ps.length:=by rw [<- r2.length];exact F.len _ _ _ _ h
 refine wpAny_call (codeAny_mono (F.run X.A X.stack s H ⟨us,[]⟩ (us++ds) (vs++dvs) Q E hr I.M5 (hb s us I.rY hl) r2 h) fun r s' hq=>?_)
 cases r with
 | error e=>exact hx pins σ H s e s' I hq
 | ok fl=>
  cases fl with
  | ret u=>exact I.after hq
  | next=>exact False.elim hq
  | brk=>exact False.elim hq
  | cont=>exact False.elim hq
theorem Fq (F:FnOk X.prog X.w X.K X.mg X.base CX k f fd ps sp) (hr:Room k X.A) (hg:Gl X x) (hm:X.mg x=some (.ref f)) (hk:PySem.W.keepIn X.K (.ref f)=true) (hb:Binds X.K fd ps ds) (hd:Vals dvs ds) (hx:Passes CX X E)
  (ha:PA X (e::es) t) (hdb:(x == ("__debug__" : Str))=false:=by decide) (he:starEach (e::es) X.env=(false,eval e X.env)::starEach es X.env:=by rfl) (hpl:(backTo pos (starEach es X.env)).any (·.1)=false:=by rfl) :
  PE X (.Call (.Name x p) (e::es) [] pos) (GD sp dvs E t):=by
 intro pins s σ H Q I h
 refine wpAny_Call_Name_kw (yS I hg hm ?_ hdb)
 refine PySem.W.callWith_K (h₀:=X.base) I.ok.mod.kin hk (bY (ha pos pins s σ H _ I h) fun us s1 ⟨vs,H1,I1,r,q⟩=>⟨I1.rY,?_⟩) he hpl
 exact HZ F hr hb hd hx I1 r q
structure Mk (K:PySem.W.Frag) (C f:Addr):Prop where
 makes:PySem.W.makesIn K C=true
 init:PySem.W.findIn K (.ref C) "__init__" = some (some (.ref f))
 fn:PySem.W.isFn K (.ref f)=true
 kp:PySem.W.keepIn K (.ref C)=true
end
section
variable {X:Cx} {CX:DH} {k:Nat} {f C:Addr} {fd:FuncData} {ps ks:List Str} {sp:Sp} {E:XK} {x m:Str} {p pos apos kpos:Pos} {e o:Expr} {es:List Expr} {kws:List Keyword} {te ta:TE} {t tk:TA} {nm:Option Str}
structure KBinds (K:PySem.W.Frag) (fd:FuncData) (ps ks:List Str) (g:List Value->List Value->List Value) (gV:List V->List V->List V):Prop where
 to:∀ (s:Shared) (us ws:List Value),K.In s.heap->(g us ws).length=ps.length->BindsTo s fd ⟨us,ks.zip ws⟩ (ps.zip (g us ws))
 rel:∀ {vs:List V} {us:List Value} {zs:List V} {ws:List Value},Vals vs us->Vals zs ws->Vals (gV vs zs) (g us ws)
variable {g:List Value->List Value->List Value} {gV:List V->List V->List V}
end
structure FnScope (N P:List Str) (sc:Scope):Prop where
 kind:sc.kind=.function
 co:sc.isCoroutine=false
 gen:sc.isGenerator=false
 nd:N.Nodup
 pre:N.take P.length=P
 par:∀ x∈P,sc.names.lookup x=some .local\/sc.names.lookup x=some .cell
 nofree:∀ y∈sc.names,y.2≠.free
theorem qD {kindOf:Str->Option NameKind} {x:Str}:∀ {binds:List (Str×Value)} {m:Str->Option Value},(∀ v,(x,v)∉binds)->bindL kindOf binds m x=m x
 | [],_,_=>rfl
 | (n,v)::r,m,h=>by
  unfold bindL
  rw [qD fun w hw=>h w (List.mem_cons_of_mem _ hw)]
  split
  ·have:x≠n:=by rintro rfl;exact h v List.mem_cons_self
   simp [this]
  ·rfl
theorem qk {kindOf:Str->Option NameKind} {x:Str}:∀ {binds:List (Str×Value)} {m:Str->Option Value},(∀ v,(x,v)∉binds)->bindC kindOf binds m x=m x
 | [],_,_=>rfl
 | (n,v)::r,m,h=>by
  unfold bindC
  rw [qk fun w hw=>h w (List.mem_cons_of_mem _ hw)]
  split
  ·rfl
  ·have:x≠n:=by rintro rfl;exact h v List.mem_cons_self
   simp [this]
theorem qi {kindOf:Str->Option NameKind} {x:Str} {v:Value}:∀ {P:List Str} {vs:List Value} {i:Nat} {m:Str->Option Value},P.Nodup->P[i]?=some x->vs[i]?=some v->kindOf x=some .local ->
  bindL kindOf (P.zip vs) m x=some v
 | [],_,_,_,_,h,_,_=>by simp at h
 | _::_,[],_,_,_,_,h,_=>by simp at h
 | p::P,w::vs,0,m,nd,h1,h2,hk=>by
  simp at h1 h2;subst h1;subst h2
  show bindL kindOf ((p,w)::P.zip vs) m p=_
  unfold bindL
  rw [qD fun v hv=>(List.nodup_cons.mp nd).1 (List.of_mem_zip hv).1,if_pos hk]
  simp
 | p::P,w::vs,i+1,m,nd,h1,h2,hk=>by
  show bindL kindOf ((p,w)::P.zip vs) m x=_
  unfold bindL
  exact qi (i:=i) (List.nodup_cons.mp nd).2 (by simpa using h1) (by simpa using h2) hk
theorem qG {kindOf:Str->Option NameKind} {x:Str} {v:Value}:∀ {P:List Str} {vs:List Value} {i:Nat} {m:Str->Option Value},P.Nodup->P[i]?=some x->vs[i]?=some v->kindOf x≠some .local ->
  bindC kindOf (P.zip vs) m x=some v
 | [],_,_,_,_,h,_,_=>by simp at h
 | _::_,[],_,_,_,_,h,_=>by simp at h
 | p::P,w::vs,0,m,nd,h1,h2,hk=>by
  simp at h1 h2;subst h1;subst h2
  show bindC kindOf ((p,w)::P.zip vs) m p=_
  unfold bindC
  rw [qk fun v hv=>(List.nodup_cons.mp nd).1 (List.of_mem_zip hv).1,if_neg hk]
  simp
 | p::P,w::vs,i+1,m,nd,h1,h2,hk=>by
  show bindC kindOf ((p,w)::P.zip vs) m x=_
  unfold bindC
  exact qG (i:=i) (List.nodup_cons.mp nd).2 (by simpa using h1) (by simpa using h2) hk
noncomputable def start (N:List Str) (vs:List V):St:=vs.map some++List.replicate (N.length - vs.length) none
noncomputable def vA (CX:DH) (P:Program) (w:World) (K:PySem.W.Frag) (mg:Str->Option Value) (base:Heap) (N:List Str) (qual:Str) (scope:Scope) (f:Addr) (cd:Value) (A:Around) (outer:List Env) (s:Shared) (H:Hp) (E:XK):Cx where
 prog:=P
 w:=w
 K:=K
 mg:=mg
 base:=base
 A:=A.deeper (envOfC qual scope s.heap.objs.size f cd)
 N:=N
 s₀:=s
 H₀:=H
 env:=envOfC qual scope s.heap.objs.size f cd
 outer:=outer
 stack:=envOfC qual scope s.heap.objs.size f cd::outer
 ex:=[]
 calm:=true
 fn:=fun _=>true
 pn:=[]
 xe:=fun e s'=>wpAny (model P w) (A.deeper (envOfC qual scope s.heap.objs.size f cd)) (leaving (envOfC qual scope s.heap.objs.size f cd) e) (fun _ s''=>CX outer H s E e s'') (fun e' s''=>CX outer H s E e' s'') s'
theorem sq {sc:Scope} {n:Nat} {x:Str} (h:sc.names.lookup x=some .cell):∃ c,(cellsFrom n sc.names []).lookup x=some c:=by
 have q:=PySem.W.cellsFrom_some sc.names n [] (.inl h)
 exact Option.isSome_iff_exists.mp q
theorem zD {CX:DH} {P:Program} {w:World} {K:PySem.W.Frag} {mg:Str->Option Value} {base:Heap} {N ps:List Str} {qual:Str} {scope:Scope} {f:Addr} {cd:Value} {A:Around} {outer:List Env} {s s1:Shared} {H:Hp} {E:XK} {us:List Value} {vs:List V}
  (S:FnScope N ps scope) (hd:A.handled=none) (e0:Env0 P w K mg base A outer s H) (hl:vs.length=ps.length) (r:Vals vs us)
  (x:InCallC s s.heap.objs.size (bindL (envOfC qual scope s.heap.objs.size f cd).kindOf (ps.zip us) fun _=>none) (cellsFrom (s.heap.objs.size+1) scope.names []) (bindC (envOfC qual scope s.heap.objs.size f cd).kindOf (ps.zip us) fun _=>none) s1) :
  Inv (vA CX P w K mg base N qual scope f cd A outer s H E) [] (start N vs) H s1:=by
 have hpl:ps.length<=N.length:=by have:=congrArg List.length S.pre;rw [List.length_take] at this;omega
 obtain ⟨h1,tk,rfl,hk⟩:=x.done
 have noA:∀ b:Addr,b∉(vA CX P w K mg base N qual scope f cd A outer s H E).ex:=fun b z=>absurd (show b∈([]:List Addr) from z) (by simp)
 refine ⟨⟨e0.mod,S.kind,rfl,rfl,Nat.le_refl _,fun y z c h1 h2=>?_,fun y hy=>?_,fun y c _ h=>?_,fun _=>hd,Around.frames_deeper e0.frames,.inr ⟨rfl,rfl⟩,fun b z=>absurd z (noA b),e0.bs,e0.bsz,fun b _ _=>noA b,fun b z=>absurd z (noA b),e0.pK,e0.frf⟩,
  rfl,e0.bare,Un.kept hk,⟨_,x.toInCall.ns,fun i y v h1 h2 h3=>?_⟩,fun y c h=>⟨_,x.cell y c h⟩,e0.hok.fresh (Nat.le_refl _),fun y c h=>?_,fun p hp=>absurd (show p∈([]:List (Addr×Obj)) from hp) (by simp),e0.hok.kept hk,?_⟩
 ·exact name_of_addr x.apart (PySem.mem_of_lookup h1) (PySem.mem_of_lookup h2)
 ·have hy:scope.names.lookup y=some .cell\/scope.names.lookup y=some .free:=hy
  rcases hy with hy | hy
  ·exact sq hy
  ·exact absurd rfl (S.nofree _ (PySem.mem_of_lookup hy))
 ·exact Nat.le_of_lt (x.above y c (PySem.mem_of_lookup h))
 ·have hi:i < vs.length:=by
   unfold start at h2
   by_cases hi:i < vs.length
   ·exact hi
   ·rw [List.getElem?_append_right (by simpa using hi)] at h2
    rw [List.getElem?_replicate] at h2
    split at h2 <;> cases h2
  have ha:vs[i]?=some v:=by
   unfold start at h2
   rw [List.getElem?_append_left (by simpa using hi),List.getElem?_map] at h2
   cases e:vs[i]? with
   | none=>rw [e] at h2;cases h2
   | some a=>rw [e] at h2;cases h2;rfl
  obtain ⟨u,hu,rv⟩:=r.get ha
  have hp:ps[i]?=some y:=by
   rw [<- S.pre,List.getElem?_take_of_lt (by omega)];exact h1
  have ndP:ps.Nodup:=by rw [<- S.pre];exact S.nd.sublist (List.take_sublist _ _)
  refine ⟨u,rv,?_⟩
  rcases S.par y (List.mem_of_getElem? hp) with k | k
  ·exact .inl ⟨k,qi ndP hp hu k⟩
  ·obtain ⟨c,e⟩:=sq (n:=s.heap.objs.size+1) k
   refine .inr ⟨.inl k,c,e,?_⟩
   have q:=x.cell y c e
   rw [qG ndP hp hu (by show scope.names.lookup y≠_;rw [k];decide)] at q
   exact q
 ·exact e0.hok.fresh (Nat.le_of_lt (x.above y c (PySem.mem_of_lookup h)))
 ·unfold start
  show _=N.length
  rw [List.length_append,List.length_map,List.length_replicate]
  omega
theorem Ly {CX:DH} {P:Program} {w:World} {K:PySem.W.Frag} {mg:Str->Option Value} {base:Heap} {k:Nat} {f:Addr} {name qual:Str} {params:Arguments} {body:List Stmt} {scope:Scope} {dV kV doc pm cdv ct oc:Value} {an od:Option Addr}
  {osl:Array (Option Value)} {N ps:List Str} {sp:Sp} (lk:K.lookup f=some ⟨oc,od,.func (PySem.W.fnOf name qual params body scope dV kV doc pm an cdv ct),osl⟩) (hcd:PySem.W.codeIn K cdv qual=true) (S:FnScope N ps scope)
  (len:∀ vs H Q E,sp vs H Q E->vs.length=ps.length)
  (hbody:∀ (A:Around) (outer:List Env) (s:Shared) (H:Hp) (vs:List V) (Q:VK) (E:XK),Room k (A.deeper (envOfC qual scope s.heap.objs.size f cdv))->sp vs H Q E ->
   ∃ t,qU (vA CX P w K mg base N qual scope f cdv A outer s H E) body t/\t { nx:=fun _ H'=>Q .non H',rt:=Q } (start N vs) H) :
  FnOk P w K mg base CX (k+1) f (PySem.W.fnOf name qual params body scope dV kV doc pm an cdv ct) ps sp:=by
 refine ⟨len,fun A outer s H args us vs Q E hr e0 hb r hsp=>?_⟩
 have hl:=len _ _ _ _ hsp
 have KX:K.In s.heap:=e0.mod.kin.keeps fun b o e=>(e0.bs b o e).1
 have lim:s.heap.NoLimit:=e0.mod.nolimit.keeps fun b o e=>(e0.bs b o e).1
 have hkind:∀ y∈ps.zip us,scope.names.lookup y.1=some .local\/(scope.names.lookup y.1=some .cell/\((cellsFrom (s.heap.objs.size+1) scope.names []).lookup y.1).isSome=true):=fun ⟨n,v⟩ hy=>by
  rcases S.par n (List.of_mem_zip hy).1 with q | q
  ·exact .inl q
  ·exact .inr ⟨q,PySem.W.cellsFrom_some _ _ _ (.inl q)⟩
 refine codeAny_call_function hr.depth (KX _ _ lk) rfl S.co S.gen rfl (PySem.W.codeRec_of KX hcd) (hb _ _ _ _ ?_)
 refine wpAny_newFunctionEnv_cells S.kind hkind fun env he s1 x=>?_
 subst he
 refine ⟨lim.keeps x.toInCall.keep,codeAny_func ?_⟩
 obtain ⟨t,ht,hq⟩:=hbody A outer s H vs Q E (hr.deeper _) hsp
 have I:Inv (vA CX P w K mg base N qual scope f cdv A outer s H E) [] (start N vs) H s1:=zD S hr.hd e0 hl r x
 refine wpAny_mono (ht [] s1 (start N vs) H _ I hq) (fun fl s' hs=>?_) fun e s' hs=>hs
 have fin:∀ {σ':St} {H':Hp} {v:V} {u:Value},Inv (vA CX P w K mg base N qual scope f cdv A outer s H E) [] σ' H' s'->RelV v u->Q v H'->CE outer P w H s Q u s':=
  fun {σ' H' v u} J rv q=>⟨v,H',J.os,J.bare,J.base,J.hok,rv,q⟩
 cases fl with
 | ret u=>
  obtain ⟨v,σ',H',J,rv,q⟩:=hs
  exact fin J rv q
 | next=>
  obtain ⟨σ',H',J,q⟩:=hs
  exact fin (v:=V.non) (u:=Value.none) J rfl q
 | brk=>
  obtain ⟨_,_,_,q⟩:=hs
  exact False.elim q
 | cont=>
  obtain ⟨_,_,_,q⟩:=hs
  exact False.elim q
section
variable {X:Cx} {x:Str} {p pos:Pos} {e:Expr} {es:List Expr} {t:TA} {id T:String} {r:List V->Hp->VK->Prop}
noncomputable def MD (r:List V->Hp->VK->Prop) (t:TA):TE:=fun σ H Q=>t σ H fun vs H1=>r vs H1 Q
theorem BD (hc:bw X (.builtin id) r) (hg:Gl X x) (hm:X.mg x=none) (hv:bootBuiltins x=some (.builtin id)) (ha:PA X (e::es) t) (hn:x ≠ "__name__" := by decide) (hdb:(x == ("__debug__" : Str))=false:=by decide)
  (he:starEach (e::es) X.env=(false,eval e X.env)::starEach es X.env:=by rfl) (hpl:(backTo pos (starEach es X.env)).any (·.1)=false:=by rfl):PE X (.Call (.Name x p) (e::es) [] pos) (MD r t):=by
 intro pins s σ H Q I h
 refine wpAny_Call_Name_kw (nX I hg hm hv ?_ hn hdb)
 exact PyProof.Rows.callWith_builtin1 (bY (ha pos pins s σ H _ I h) fun us s1 ⟨vs,H1,I1,r1,q1⟩=>hc pins s1 σ H1 vs us Q I1 r1 q1) he hpl
theorem zu (hc:bw X (.type T) r) (hg:Gl X x) (hm:X.mg x=none) (hv:bootBuiltins x=some (.type T)) (ha:PA X (e::es) t) (hn:x ≠ "__name__" := by decide) (hdb:(x == ("__debug__" : Str))=false:=by decide)
  (he:starEach (e::es) X.env=(false,eval e X.env)::starEach es X.env:=by rfl) (hpl:(backTo pos (starEach es X.env)).any (·.1)=false:=by rfl):PE X (.Call (.Name x p) (e::es) [] pos) (MD r t):=by
 intro pins s σ H Q I h
 refine wpAny_Call_Name_kw (nX I hg hm hv ?_ hn hdb)
 exact PyProof.Rows.callWith_type1 (bY (ha pos pins s σ H _ I h) fun us s1 ⟨vs,H1,I1,r1,q1⟩=>hc pins s1 σ H1 vs us Q I1 r1 q1) he hpl
end
end L2
namespace HT
open PySem PyProof.Rows
noncomputable def lexLt:List Int->List Int->Bool
 | [],[]=>false
 | [],_::_=>true
 | _::_,[]=>false
 | x::xs,y::ys=>if x=y then lexLt xs ys else decide (x < y)
theorem dO (x y:Int) (xs ys:List Int):lexLt (x::xs) (y::ys)=if x=y then lexLt xs ys else decide (x < y):=rfl
theorem ig:lexLt [] []=false:=rfl
theorem d_ (y:Int) (ys:List Int):lexLt [] (y::ys)=true:=rfl
theorem gG (x:Int) (xs:List Int):lexLt (x::xs) []=false:=rfl
section
open PySem.SeqAt
open PySem.AutoSeq1 (wpAny_loadPart')
open PySem.MeetsSeq PySem.MeetsSeq2 PySem.MeetsSeq3
end
section
variable {prog:Program} {w:World} {A:Around} {E:Value->Shared->Prop} {s:Shared}
theorem ER {t b:Addr} {vs ws:List Value} {Q:Value->Shared->Prop} (ht:IsTup s.heap t vs.toArray) (hb:IsTup s.heap b ws.toArray) (hv:vs≠[])
  (h1:ws=[]->Q (.ref t) s) (h2:ws≠[]->Q (.ref s.heap.objs.size) { s with heap:=s.heap.push { cls:=.type "tuple",data:=.seq (vs++ws).toArray } })
  (hsz:vs.length+ws.length<=sizeLine):wpAny (model prog w) A (binaryOp .Add (.ref t) (.ref b)) Q E s:=by
 obtain ⟨⟨cls,dd,data,sl⟩,ho,hc,n,hd⟩:=id ht
 obtain ⟨⟨cls2,dd2,data2,sl2⟩,ho2,hc2,n2,hd2⟩:=id hb
 simp only at hc hd hc2 hd2
 subst hc hd hc2 hd2
 have e:vs.toArray++ws.toArray=(vs++ws).toArray:=by simp
 by_cases hw:ws=[]
 ·exact concat_meets ⟨_,ho,rfl⟩ ⟨_,ho2,rfl⟩ noFill_tuple_add seq_tuple_add PySem.F.slot_tuple_add PySem.F.entry_tuple_add (PySem.F.args_tuple_add_2 _ _)
   (tuple_addW1 t b vs.toArray ws.toArray n n2 dd dd2 sl sl2 (by simpa using hv) (by simp [hw])) ⟨ho,ho2,h1 hw⟩
 ·refine concat_meets ⟨_,ho,rfl⟩ ⟨_,ho2,rfl⟩ noFill_tuple_add seq_tuple_add PySem.F.slot_tuple_add PySem.F.entry_tuple_add (PySem.F.args_tuple_add_2 _ _)
   (tuple_addW2 t b vs.toArray ws.toArray n n2 dd dd2 sl sl2 (by simpa using hv) (by simpa using hw) (by rw [List.size_toArray,List.size_toArray];exact hsz)) ⟨ho,ho2,?_⟩
  rw [e]
  exact h2 hw
noncomputable def dU (n d:Nat):Option Int->Nat
 | none=>d
 | some v=>if v < 0 then (v+(n:Int)).toNat else min v.toNat n
theorem tX (n d:Nat):dU n d none=d:=rfl
theorem kN (n d k:Nat):dU n d (some (k:Int))=min k n:=by
 show (if (k:Int) < 0 then ((k:Int)+(n:Int)).toNat else min (k:Int).toNat n)=min k n
 rw [if_neg (by omega),Int.toNat_natCast]
theorem JE (n d:Nat) (hd:d<=n) (o:Option Int):dU n d o<=n:=by
 cases o with
 | none=>exact hd
 | some v=>
  show (if v < 0 then (v+(n:Int)).toNat else min v.toNat n)<=n
  by_cases hv:v < 0
  ·rw [if_pos hv];omega
  ·rw [if_neg hv];exact Nat.min_le_right _ _
theorem wj (v:Int) (n d:Nat):(if v < 0 then max (v+(n:Int)) 0 else min v (n:Int))=((dU n d (some v):Nat):Int):=by
 show (if v < 0 then max (v+(n:Int)) 0 else min v (n:Int))=(((if v < 0 then (v+(n:Int)).toNat else min v.toNat n):Nat):Int)
 by_cases hv:v < 0
 ·simp only [if_pos hv];omega
 ·simp only [if_neg hv];omega
theorem uW (lo hi:Option Int) (n:Nat):Builtin.Slice.sliceAdjust lo hi 1 (n:Int)=(((dU n 0 lo:Nat):Int),((dU n n hi:Nat):Int)):=by
 have h1:¬ ((1:Int) < 0):=by omega
 unfold Builtin.Slice.sliceAdjust
 simp only [h1,if_false]
 refine Prod.ext ?_ ?_
 ·cases lo with
  | none=>rfl
  | some v=>exact wj v n 0
 ·cases hi with
  | none=>rfl
  | some v=>exact wj v n n
theorem uV (i j:Nat):Builtin.Slice.slicePlaces (i:Int) (j:Int) 1=j - i:=by
 unfold Builtin.Slice.slicePlaces
 have h1:(1:Int) > 0:=by omega
 simp only [h1,if_true,Int.ediv_one]
 split <;> omega
theorem oR {v:Value} {o:Option Int} {Q:Option Int->Shared->Prop} (p:IsPart v o) (h:Q o s):wpAny (model prog w) A (Builtin.Slice.slicePartIndex v) Q E s:=by
 cases p with
 | none=>exact slicePart_none h
 | int i t=>exact slicePart_int h
theorem mD {sl:Addr} {vl vu:Value} {lo hi:Option Int} {n:Nat} {Q:Int×Int×Nat->Shared->Prop} (hs:s.heap.IsSliceOf sl vl vu .none) (pl:IsPart vl lo) (pu:IsPart vu hi)
  (h:Q (((dU n 0 lo:Nat):Int),1,dU n n hi - dU n 0 lo) s):wpAny (model prog w) A (Builtin.Slice.sliceApplied (.ref sl) (pure (n:Int))) Q E s:=by
 obtain ⟨os,hos,hcs,hds⟩:=id hs
 unfold Builtin.Slice.sliceApplied Builtin.Slice.sliceFields
 refine wpAny_bind (wpAny_bind (wpAny_field hos hds (x:=vl) rfl (wpAny_bind (wpAny_field hos hds (x:=vu) rfl (wpAny_bind (wpAny_field hos hds (x:=.none) rfl (wpAny_pure ?_)))))))
 refine wpAny_bind (slicePart_none ?_)
 show wpAny _ _ (if ((1:Int) == 0)=true then _ else _) _ _ s
 rw [if_neg (by decide)]
 refine wpAny_bind (oR pl (wpAny_bind (oR pu (wpAny_bind (wpAny_pure ?_)))))
 show wpAny _ _ (match Builtin.Slice.sliceAdjust lo hi 1 (n:Int) with | (lo,hi)=>pure (lo,(1:Int),Builtin.Slice.slicePlaces lo hi 1)) _ _ s
 rw [uW lo hi n]
 show wpAny _ _ (pure (((dU n 0 lo:Nat):Int),(1:Int),Builtin.Slice.slicePlaces ((dU n 0 lo:Nat):Int) ((dU n n hi:Nat):Int) 1)) _ _ s
 rw [uV]
 exact wpAny_pure h
theorem BQ (xs:Array Value) (i k:Nat):((List.range k).filterMap fun (m:Nat)=>xs[((i:Int)+(m:Int) * 1).toNat]?).toArray=((xs.toList.drop i).take k).toArray:=by
 have e:(fun (m:Nat)=>xs[((i:Int)+(m:Int) * 1).toNat]?)=fun m=>xs[i+m]?:=by
  funext m
  have:((i:Int)+(m:Int) * 1).toNat=i+m:=by omega
  rw [this]
 rw [e]
 have:=pick_run xs i k
 rw [List.filterMap_map] at this
 have e2:((fun x=>xs[x]?) ∘ fun x=>i+x)=fun m=>xs[i+m]?:=rfl
 rw [e2] at this
 rw [this]
theorem kT {t sl:Addr} {items:Array Value} {vl vu:Value} {lo hi:Option Int} {Q:Value->Shared->Prop} (ht:IsTup s.heap t items) (hs:s.heap.IsSliceOf sl vl vu .none) (pl:IsPart vl lo) (pu:IsPart vu hi)
  (hw:¬ (dU items.size 0 lo=0/\dU items.size items.size hi=items.size))
  (h:Q (.ref s.heap.objs.size) { s with heap:=s.heap.push { cls:=.type "tuple",data:=.seq ((items.toList.drop (dU items.size 0 lo)).take (dU items.size items.size hi - dU items.size 0 lo)).toArray } })
  (hsz:items.size<=sizeLine):wpAny (model prog w) A (getItem (.ref t) (.ref sl)) Q E s:=by
 have htake:sizeOk (.seq ((items.toList.drop (dU items.size 0 lo)).take (dU items.size items.size hi - dU items.size 0 lo)).toArray):=by
  show ((items.toList.drop (dU items.size 0 lo)).take (dU items.size items.size hi - dU items.size 0 lo)).toArray.size<=sizeLine
  rw [List.size_toArray,List.length_take,List.length_drop,Array.length_toList]
  omega
 have hj:dU items.size items.size hi<=items.size:=JE _ _ (Nat.le_refl _) hi
 obtain ⟨os,hos,hcs,hds⟩:=id hs
 have hTs:s.TypeIs (.ref sl) "slice" := ⟨os,hos,hcs⟩
 unfold getItem
 try with_reducible refine wpAny_holding ?_
 first | refine wpAny_bind (wpAny_pure ?_) | skip
 refine wpAny_bind (wpAny_sequenceKey ht.typeIs (by decide) ?_)
 refine wpAny_bind (wpAny_callSpecial?_slot (name:=Str.ofString "__getitem__") ht.typeIs PyProof.Rows.slot_tuple_getitem
  (wpAny_call_entry PyProof.Rows.slot_tuple_getitem ht.typeIs entry_tuple_getitem ?_ (args_tuple_getitem _ _)))
 show wpAny _ _ (Builtin.Tuple.tupleItemsOf (.ref t) >>= _) _ _ s
 refine wpAny_bind (tupleItemsOf_ ht ?_)
 refine wpAny_bind (wpAny_typeOf hTs ?_)
 rw [if_pos (by decide)]
 refine wpAny_bind (mD hs pl pu ?_)
 have hno:¬ ((((dU items.size 0 lo:Nat):Int) == 0 && (1:Int) == 1 && (dU items.size items.size hi - dU items.size 0 lo) == items.size)=true):=by
  intro q
  rw [Bool.and_eq_true,Bool.and_eq_true] at q
  have q1:((dU items.size 0 lo:Nat):Int)=0:=eq_of_beq q.1.1
  have q2:dU items.size items.size hi - dU items.size 0 lo=items.size:=eq_of_beq q.2
  exact hw ⟨by omega,by omega⟩
 show wpAny _ _ (if (((dU items.size 0 lo:Nat):Int) == 0 && (1:Int) == 1 && (dU items.size items.size hi - dU items.size 0 lo) == items.size)=true then _ else _) _ _ s
 rw [if_neg hno,BQ]
 first
  | exact wpAny_bind (m:=Builtin.Tuple.tupleExact _) (wpAny_newObj_type (wpAny_pure ⟨_,rfl,wpAny_pure h⟩) htake)
  | exact wpAny_bind (m:=Builtin.Tuple.tupleExact _) (wpAny_newObj_type (wpAny_bind (wpAny_pure (wpAny_pure ⟨_,rfl,wpAny_pure h⟩))) htake)
  | exact wpAny_bind (wpAny_bind (m:=Builtin.Tuple.tupleExact _) (wpAny_newObj_type (wpAny_pure (wpAny_pure ⟨_,rfl,wpAny_pure h⟩)) htake))
  | exact wpAny_bind (wpAny_bind (m:=Builtin.Tuple.tupleExact _) (wpAny_newObj_type (wpAny_pure ⟨_,rfl,wpAny_pure h⟩) htake))
end
end HT
namespace L2
open PySem PySem.Spec PyProof.Rows
noncomputable abbrev TO:=St->Hp->(Option Int->Hp->Prop)->Prop
noncomputable def PO (X:Cx) (e:Option Expr) (t:TO):Prop:=
 ∀ (pins:List (Addr×Obj)) (s:Shared) (σ:St) (H:Hp) (Q:Option Int->Hp->Prop),Inv X pins σ H s->t σ H Q ->
  wpAny (model X.prog X.w) X.A (evalPart e X.env) (fun u s'=>∃ o H',Inv X pins σ H' s'/\IsPart u o/\Q o H') X.xe s
noncomputable def Ej:TO:=fun _ H Q=>Q none H
noncomputable def KQ (t:TE):TO:=fun σ H Q=>t σ H fun x H1=>∃ i,x=.int i/\Q (some i) H1
theorem intsAre_of {ns:List Int}:∀ {us:List Value},Vals (ns.map V.int) us->IntsAre us ns:=by
 induction ns with
 | nil=>intro us r;rw [List.map_nil] at r;cases r;exact .nil
 | cons n ns ih=>
  intro us r
  rw [List.map_cons] at r
  cases r with
  | cons r1 r2=>
   obtain ⟨t,e⟩:=r1
   subst e
   exact .cons n t (ih r2)
section
variable {X:Cx} {e:Expr} {te:TE} {lo hi:Option Expr} {tl th:TO} {pos p2:Pos}
theorem EM:PO X none Ej:=by
 intro pins s σ H Q I h
 rw [evalPart_none]
 exact wpAny_pure ⟨none,H,I,.none,h⟩
theorem E5 (h:PE X e te):PO X (some e) (KQ te):=by
 intro pins s σ H Q I hw
 rw [evalPart_some]
 refine bY (h pins s σ H _ I hw) fun u s1 ⟨x,H1,I1,r1,q1⟩=>?_
 obtain ⟨i,rfl,q⟩:=q1
 obtain ⟨t,rfl⟩:=r1
 exact ⟨some i,H1,I1,.int i t,q⟩
noncomputable def Ml (X:Cx) (r:V->Option Int->Option Int->Hp->VK->Prop):Prop:=
 ∀ (pins:List (Addr×Obj)) (s:Shared) (σ:St) (H:Hp) (x:V) (v vl vu:Value) (lo hi:Option Int) (sl:Addr) (Q:VK),Inv X pins σ H s->RelV x v->s.heap.IsSliceOf sl vl vu .none->IsPart vl lo->IsPart vu hi->r x lo hi H Q ->
  ∃ T id,typeLookup (.type T) "__getitem__" = pure (some (.builtin id))/\s.TypeIs v T/\wpAny (model X.prog X.w) X.A (getItem v (.ref sl)) (EP X pins σ Q) X.xe s
noncomputable def N7 (r:V->Option Int->Option Int->Hp->VK->Prop) (te:TE) (tl th:TO):TE:=fun σ H Q=>te σ H fun x H1=>tl σ H1 fun l H2=>th σ H2 fun u H3=>r x l u H3 Q
theorem CJ {r:V->Option Int->Option Int->Hp->VK->Prop} (hr:Ml X r) (he:PE X e te) (hl:PO X lo tl) (hu:PO X hi th):PE X (.Subscript e (.Slice lo hi none p2) pos) (N7 r te tl th):=by
 intro pins s σ H Q I h
 refine Subscript_ (bY (he pins s σ H _ I h) fun v s1 ⟨x,H1,I1,r1,q1⟩=>?_)
 refine wpAny_Slice (bY (hl pins s1 σ H1 _ I1 q1) fun vl s2 ⟨l,H2,I2,pl,q2⟩=>bY (hu pins s2 σ H2 _ I2 q2) fun vu s3 ⟨u,H3,I3,pu,q3⟩=>?_)
 rw [evalPart_none]
 refine wpAny_pure ?_
 have I4:Inv X pins σ H3 { s3 with heap:=s3.heap.push { cls:=.type "slice",data:=.fields #[vl,vu,.none] } }:=I3.kept (t':=s3.toks) fun b ob q=>Heap.get?_push_of_some _ q
 obtain ⟨T,id,hT,ht,hg⟩:=hr pins { s3 with heap:=s3.heap.push { cls:=.type "slice",data:=.fields #[vl,vu,.none] } } σ H3 x v vl vu l u s3.heap.objs.size Q I4 r1 (Heap.IsSliceOf.new ..) pl pu q3
 show wpAny (model X.prog X.w) X.A (subscriptTail e (.Slice lo hi none p2) v (.ref s3.heap.objs.size)) (EP X pins σ Q) X.xe { s3 with heap:=s3.heap.push { cls:=.type "slice",data:=.fields #[vl,vu,.none] } }
 exact tail_any (ops:=[.ref s3.heap.objs.size,v]) ht hT hg (by with_unfolding_all rfl)
noncomputable def tY (xs:List V) (lo hi:Option Int):List V:=(xs.drop (HT.dU xs.length 0 lo)).take (HT.dU xs.length xs.length hi - HT.dU xs.length 0 lo)
theorem mO (xs:List V) (lo hi:Option Int):(tY xs lo hi).length<=xs.length:=by
 unfold tY
 rw [List.length_take,List.length_drop]
 omega
noncomputable def Nd (K:PySem.W.Frag):V->Option Int->Option Int->Hp->VK->Prop:=fun x lo hi H Q=>∃ a xs,x=.ref a/\dF K H a xs /\
 ¬ (HT.dU xs.length 0 lo=0/\HT.dU xs.length xs.length hi=xs.length)/\∀ p,H p=none->Q (.ref p) (upd H p (.tup (tY xs lo hi)))
theorem Jd:Ml X (Nd X.K):=by
 intro pins s σ H x v vl vu lo hi sl Q I rx hs pl pu h
 obtain ⟨a,xs,rfl,hx,hw,q⟩:=h
 cases rx
 obtain ⟨its,r,ht,hz⟩:=I.tuple hx
 have hlen:its.toArray.size=xs.length:=by rw [List.size_toArray];exact r.length.symm
 refine ⟨"tuple",_,PyProof.Rows.slot_tuple_getitem.lookup,ht.typeIs,?_⟩
 refine HT.kT ht hs pl pu (by rw [hlen];exact hw) ?_ (by rw [hlen];exact hz)
 rw [hlen]
 refine ⟨.ref s.heap.objs.size,_,I.laid (t':=s.toks) (o:=.tup (tY xs lo hi)) (fun b ob q=>Heap.get?_push_of_some _ q) (Nat.le_refl _) ?_,rfl,q _ (I.hok.fresh (Nat.le_refl _))⟩
 exact ⟨Nat.le_trans (mO xs lo hi) hz,_,(r.drop (HT.dU xs.length 0 lo)).take (HT.dU xs.length xs.length hi - HT.dU xs.length 0 lo),e_.new _ _⟩
noncomputable def L7 (K:PySem.W.Frag):R2:=fun x y H Q=>∃ a b xs ys,x=.ref a/\y=.ref b/\dF K H a xs/\dF K H b ys/\xs≠[]/\xs.length+ys.length<=sizeLine /\
 (ys=[]->Q (.ref a) H)/\(ys≠[]->∀ p,H p=none->Q (.ref p) (upd H p (.tup (xs++ys))))
theorem Vals.qY {xs:List V} {us:List Value} (r:Vals xs us):us=[] ↔ xs=[]:=by
 cases r with
 | nil=>simp
 | cons _ _=>simp
theorem Ge:eU X (binaryOp .Add) (L7 X.K):=by
 intro pins s σ H x y v u Q I rx ry h
 obtain ⟨a,b,xs,ys,rfl,rfl,ha,hb,hx,hz,q1,q2⟩:=h
 cases rx
 cases ry
 obtain ⟨its,r1,p1,_⟩:=I.tuple ha
 obtain ⟨its2,r2,p2,_⟩:=I.tuple hb
 refine HT.ER p1 p2 (fun z=>hx (r1.qY.mp z)) (fun z=>⟨.ref a,H,I,rfl,q1 (r2.qY.mp z)⟩) (fun z=>?_) (by rw [<- r1.length,<- r2.length];exact hz)
 refine ⟨.ref s.heap.objs.size,_,I.laid (t':=s.toks) (o:=.tup (xs++ys)) (fun b ob q=>Heap.get?_push_of_some _ q) (Nat.le_refl _) ?_,rfl,q2 (fun w=>z (r2.qY.mpr w)) _ (I.hok.fresh (Nat.le_refl _))⟩
 exact ⟨by rw [List.length_append];exact hz,_,r1.append r2,e_.new _ _⟩
end
noncomputable def oE (n:Nat) (i:Int):Option Nat:=if 0<=i then (if i < n then some i.toNat else none) else if -(n:Int)<=i then some (i+n).toNat else none
noncomputable def fB {α:Type} (xs:List α) (i:Int):Option α:=(oE xs.length i).bind fun j=>xs[j]?
theorem v8 {n:Nat} {i:Int} {j:Nat} (h:oE n i=some j):seqIndex? i n=some j/\j < n/\-(n:Int)<=i/\i < n:=by
 unfold oE at h
 by_cases h0:0<=i
 ·rw [if_pos h0] at h
  by_cases h1:i < n
  ·rw [if_pos h1] at h
   have e:i.toNat=j:=Option.some.inj h
   exact ⟨by rw [seqIndex_of h0 h1,e],by omega,by omega,h1⟩
  ·rw [if_neg h1] at h;cases h
 ·rw [if_neg h0] at h
  by_cases h1:-(n:Int)<=i
  ·rw [if_pos h1] at h
   have e:(i+n).toNat=j:=Option.some.inj h
   exact ⟨by rw [seqIndex_neg (by omega) h1,e],by omega,h1,by omega⟩
  ·rw [if_neg h1] at h;cases h
theorem rO {α:Type} {xs:List α} {i:Int} {v:α} (h:fB xs i=some v):∃ j,seqIndex? i xs.length=some j/\xs[j]?=some v/\j < xs.length/\-(xs.length:Int)<=i/\i < xs.length:=by
 unfold fB at h
 cases e:oE xs.length i with
 | none=>rw [e] at h;cases h
 | some j=>
  rw [e] at h
  obtain ⟨h1,h2,h3,h4⟩:=v8 e
  exact ⟨j,h1,h,h2,h3,h4⟩
theorem E8 {α:Type} {xs:List α} {j:Nat} {v:α} (h:xs[j]?=some v):fB xs (j:Int)=some v:=by
 have hj:j < xs.length:=(List.getElem?_eq_some_iff.mp h).1
 have e:oE xs.length (j:Int)=some j:=by
  unfold oE
  rw [if_pos (by omega),if_pos (by omega)];simp
 unfold fB;rw [e];exact h
noncomputable def qP (b:Expr):Prop:=∀ o i,subscripted b false o i=operate [o,i] (getItem o i)
noncomputable def Ig (X:Cx) (r:R2):Prop:=
 ∀ (value slice:Expr) (pins:List (Addr×Obj)) (s:Shared) (σ:St) (H:Hp) (x y:V) (v u:Value) (Q:VK),Inv X pins σ H s->RelV x v->RelV y u->r x y H Q ->
  subscripted slice false v u=operate [v,u] (getItem v u)->wpAny (model X.prog X.w) X.A (subscriptTail value slice v u) (EP X pins σ Q) X.xe s
noncomputable def IW (X:Cx) (id:String) (r:V->List V->Hp->VK->Prop):Prop:=
 ∀ (pins:List (Addr×Obj)) (s:Shared) (σ:St) (H:Hp) (x:V) (xs:List V) (v:Value) (us:List Value) (Q:VK),Inv X pins σ H s->RelV x v->Vals xs us->r x xs H Q ->
  wpAny (model X.prog X.w) X.A (call (.builtin id) (v::us)) (EP X pins σ Q) X.xe s
section
variable {X:Cx} {a b:Expr} {ta tb:TE} {pos:Pos}
theorem GX {r:R2} (hr:Ig X r) (ha:PE X a ta) (hb:PE X b tb) (hs:qP b):PE X (.Subscript a b pos) (KP r ta tb):=by
 intro pins s σ H Q I h
 exact Subscript_ (HM ha hb I h fun v u s2 x y H2 I2 rx ry q=>hr a b pins s2 σ H2 x y v u Q I2 rx ry q (hs _ _))
noncomputable def Nl (K:PySem.W.Frag):R2:=fun x y H Q=>∃ p xs i v,x=.ref p/\y=.int i/\fY K H p xs/\fB xs i=some v/\Q v H
noncomputable def Ny (K:PySem.W.Frag):R2:=fun x y H Q=>∃ p xs i v,x=.ref p/\y=.int i/\dF K H p xs/\fB xs i=some v/\Q v H
noncomputable def M8:R2:=fun x y H Q=>∃ z i c,x=.str z/\y=.int i/\z.length<=sizeLine/\fB z.cps.toList i=some c/\Q (.str ⟨#[c]⟩) H
theorem xG:Ig X (Nl X.K):=by
 intro value slice pins s σ H x y v u Q I rx ry h hs
 obtain ⟨p,xs,i,z,rfl,rfl,hq,he,q⟩:=h
 cases rx
 obtain ⟨t,rfl⟩:=ry
 obtain ⟨its,r,pl,hz⟩:=I.list hq
 obtain ⟨j,h1,h2,h3,h4,h5⟩:=rO he
 obtain ⟨w,ew,rw'⟩:=r.get h2
 have hl:=r.length
 have hn:=j9
 have fin:EP X pins σ Q w s:=⟨z,H,I,rw',q⟩
 by_cases h0:0<=i
 ·have hj:i.toNat=j:=by
   rw [seqIndex_of h0 h5] at h1
   exact Option.some.inj h1
  exact item_listR pl.isList h0 (by omega) (by rw [hj];simpa using ew) fin hs
 ·have hj:(i+(its.toArray.size:Int)).toNat=j:=by
   rw [seqIndex_neg (by omega) h4] at h1
   rw [List.size_toArray,<- hl]
   exact Option.some.inj h1
  exact subscriptTail_builtinR (x:=w) pl.isList.typeIs slot_list_getitem.lookup
   (wpAny_getItem_list_neg (Q:=fun r s'=>r=w/\EP X pins σ Q r s') pl.isList (by omega) (by rw [List.size_toArray] <;> omega) (by omega) (by rw [hj];simpa using ew) ⟨rfl,fin⟩) hs
theorem JV:Ig X (Ny X.K):=by
 intro value slice pins s σ H x y v u Q I rx ry h hs
 obtain ⟨p,xs,i,z,rfl,rfl,hq,he,q⟩:=h
 cases rx
 obtain ⟨t,rfl⟩:=ry
 obtain ⟨its,r,pl,hz⟩:=I.tuple hq
 obtain ⟨j,h1,h2,h3,h4,h5⟩:=rO he
 obtain ⟨w,ew,rw'⟩:=r.get h2
 have hl:=r.length
 have hn:=j9
 have fin:EP X pins σ Q w s:=⟨z,H,I,rw',q⟩
 exact subscriptTail_builtinR (x:=w) pl.typeIs slot_tuple_getitem.lookup
  (getItem_tuple (j:=j) (Q:=fun r s'=>r=w/\EP X pins σ Q r s') pl (by omega) (by omega) (by rw [List.size_toArray,<- hl];exact h1) (by simpa using ew) ⟨rfl,fin⟩) hs
theorem IX:Ig X M8:=by
 intro value slice pins s σ H x y v u Q I rx ry h hs
 obtain ⟨z,i,c,rfl,rfl,hz,he,q⟩:=h
 obtain ⟨t,rfl⟩:=rx
 obtain ⟨t',rfl⟩:=ry
 obtain ⟨j,h1,h2,h3,h4,h5⟩:=rO he
 have hl:z.cps.toList.length=z.length:=by simp [Str.length]
 rw [hl] at h1 h4 h5
 have hn:=j9
 exact tail_any (typeIs_str s z t) slot_str_getitem.lookup (getItem_str (c:=c) (by
  have e1:decide (i < -(2 ^ 63:Int))=false:=decide_eq_false (by omega)
  have e2:decide (i>=2 ^ 63)=false:=decide_eq_false (by omega)
  rw [e1,e2,Bool.or_false]) (by rw [h1];simpa using h2) ⟨.str ⟨#[c]⟩,H,I.tok _,⟨_,rfl⟩,q⟩) hs
theorem uZ (its:List Value) (n j:Nat) (u:Value):Obj.mapSeq (·.setIfInBounds j u) { cls:=.type "list",data:=.seq its.toArray n }={ cls:=.type "list",data:=.seq (its.set j u).toArray n }:=by
 simp [Obj.mapSeq]
theorem Inv.lst {pins:List (Addr×Obj)} {σ:St} {H:Hp} {s:Shared} {p:Addr} {xs:List V} (I:Inv X pins σ H s) (h:H p=some (.lst xs)) :
  ∃ (its:List Value) (n:Nat),Vals xs its/\s.heap.get? p=some { cls:=.type "list",data:=.seq its.toArray n }/\xs.length<=sizeLine:=by
 obtain ⟨z,its,n,r,e⟩:=I.hok p _ h
 exact ⟨its,n,r,e,z⟩
theorem Inv.J9 {pins:List (Addr×Obj)} {σ:St} {H:Hp} {s:Shared} {p:Addr} {xs ys:List V} {its its':List Value} {n n':Nat} {f:Obj->Obj} (I:Inv X pins σ H s) (h:H p=some (.lst xs))
  (ho:s.heap.get? p=some { cls:=.type "list",data:=.seq its.toArray n }) (hf:f { cls:=.type "list",data:=.seq its.toArray n }={ cls:=.type "list",data:=.seq its'.toArray n' }) (r:Vals ys its') (hz:ys.length<=sizeLine) (t:Nat) :
  Inv X pins σ (upd H p (.lst ys)) { s with heap:=s.heap.update p f,toks:=t }:=by
 have e:(s.heap.update p f).get? p=some { cls:=.type "list",data:=.seq its'.toArray n' }:=by
  rw [Heap.get?_update_self f ho (by rw [hf] <;> rfl),hf]
 refine I.write (x:=p) (e:=p) (by rw [h];trivial) (.inl rfl) (fun b u hb q=>(Heap.get?_update_other _ _ (Ne.symm hb)).trans q) ⟨_,e⟩ ?_
 exact ⟨hz,its',n',r,e⟩
noncomputable def KO:V->V->V->Hp->(Hp->Prop)->Prop:=fun o i v H Q=>∃ p xs k j,o=.ref p/\i=.int k/\H p=some (.lst xs)/\oE xs.length k=some j/\Q (upd H p (.lst (xs.set j v)))
theorem set_list:Ae X KO:=by
 intro pins s σ H o i v ov iv u Q I ro ri rv h
 obtain ⟨p,xs,k,j,rfl,rfl,hp,hj,q⟩:=h
 cases ro
 obtain ⟨t,rfl⟩:=ri
 obtain ⟨its,n,r,ho,hz⟩:=I.lst hp
 obtain ⟨h1,h2,h3,h4⟩:=v8 hj
 have hl:=r.length
 have hn:=j9
 have I':Inv X pins σ (upd H p (.lst (xs.set j v))) { s with heap:=s.heap.update p (Obj.mapSeq (·.setIfInBounds j u)) }:=
  I.J9 hp ho (uZ its n j u) (r.set rv j) (by rw [List.length_set];exact hz) s.toks
 by_cases h0:0<=k
 ·have hk:k.toNat=j:=by
   rw [seqIndex_of h0 h4] at h1
   exact Option.some.inj h1
  exact PySem.W.ki_setAt ho h0 (by omega) (by rw [List.size_toArray,<- hl];exact h4) (by rw [hk];exact ⟨_,I',q⟩)
 ·have hk:(k+(its.toArray.size:Int)).toNat=j:=by
   rw [seqIndex_neg (by omega) h3] at h1
   rw [List.size_toArray,<- hl]
   exact Option.some.inj h1
  exact PySem.W.ki_setBack ho (by omega) (by rw [List.size_toArray,<- hl];exact h3) (by omega) (by rw [hk];exact ⟨_,I',q⟩)
theorem rC (lo hi:Option Int) (n:Nat):(sliceBounds lo hi none n).1=((HT.dU n 0 lo:Nat):Int)/\(sliceBounds lo hi none n).2.1=((HT.dU n n hi:Nat):Int)/\(sliceBounds lo hi none n).2.2=1:=by
 refine ⟨?_,?_,rfl⟩
 ·cases lo with
  | none=>simp [sliceBounds,HT.dU]
  | some i=>
   simp only [sliceBounds,HT.dU,Option.getD_none,show (1:Int) > 0 by decide,if_true]
   by_cases h:i < 0
   ·simp only [h,if_true] <;> omega
   ·simp only [h,if_false] <;> omega
 ·cases hi with
  | none=>simp [sliceBounds,HT.dU]
  | some i=>
   simp only [sliceBounds,HT.dU,Option.getD_none,show (1:Int) > 0 by decide,if_true]
   by_cases h:i < 0
   ·simp only [h,if_true] <;> omega
   ·simp only [h,if_false] <;> omega
theorem pL (its:List Value) (lo hi:Option Int):slicePick its.toArray lo hi none=((its.drop (HT.dU its.length 0 lo)).take (HT.dU its.length its.length hi - HT.dU its.length 0 lo)).toArray:=by
 obtain ⟨h1,h2,h3⟩:=rC lo hi its.toArray.size
 unfold slicePick
 rw [h1,h2,h3]
 simp only [sliceRange_one,pick_run,List.size_toArray] <;> rfl
noncomputable def MQ (K:PySem.W.Frag):V->Option Int->Option Int->Hp->VK->Prop:=fun x lo hi H Q=>∃ a xs,x=.ref a/\fY K H a xs/\∀ p,H p=none->Q (.ref p) (upd H p (.lst (tY xs lo hi)))
theorem zg:Ml X (MQ X.K):=by
 intro pins s σ H x v vl vu lo hi sl Q I rx hs pl pu h
 obtain ⟨a,xs,rfl,hx,q⟩:=h
 cases rx
 obtain ⟨its,r,ht,hz⟩:=I.list hx
 have hlen:=r.length
 refine ⟨"list",_,slot_list_getitem.lookup,ht.isList.typeIs,?_⟩
 refine wpAny_getItem_list_slice ht.isList hs pl pu .none (by simp) ?_ (by rw [List.size_toArray] <;> omega)
 rw [pL,<- hlen]
 refine ⟨.ref s.heap.objs.size,_,I.laid (t':=s.toks) (o:=.lst (tY xs lo hi)) (fun b ob q=>Heap.get?_push_of_some _ q) (Nat.le_refl _) ?_,rfl,q _ (I.hok.fresh (Nat.le_refl _))⟩
 exact ⟨Nat.le_trans (mO xs lo hi) hz,_,0,(r.drop (HT.dU xs.length 0 lo)).take (HT.dU xs.length xs.length hi - HT.dU xs.length 0 lo),Heap.get?_push_size _ rfl⟩
theorem iR:bw X (.type "list") (fun xs H Q=>∃ p ys,xs=[.ref p]/\(fY X.K H p ys\/dF X.K H p ys)/\∀ l,H l=none->Q (.ref l) (upd H l (.lst ys))):=by
 intro pins s σ H xs us Q I r h
 obtain ⟨p,ys,rfl,hq,q⟩:=h
 obtain ⟨u,rfl,rx⟩:=vals1 r
 cases rx
 have fin:∀ (its:List Value),Vals ys its->ys.length<=sizeLine->∀ (h':Heap) (c':Nat),(∀ b o',s.heap.get? b=some o'->h'.get? b=some o') ->
   h'.get? s.heap.objs.size=some { cls:=.type "list",dict:=none,data:=.seq its.toArray c',slots:=#[] }->EP X pins σ Q (.ref s.heap.objs.size) { s with heap:=h' }:=fun its r' hz h' c' kp e=>
  ⟨.ref s.heap.objs.size,_,I.laid (t':=s.toks) kp (Nat.le_refl _) (show bZ X.prog X.w _ h' _ (.lst ys) from ⟨hz,its,c',r',e⟩),rfl,q _ (I.hok.fresh (Nat.le_refl _))⟩
 rcases hq with hq | hq
 ·obtain ⟨its,r',pl,hz⟩:=I.list hq
  have hlen:=r'.length
  obtain ⟨o,ho,hc,n,hd⟩:=pl.isList
  exact call_list_seq p (.inl rfl) ho hc hd (fun h' c' kp e=>fin its r' hz h' c' kp e) (by simp only [List.size_toArray] <;> omega)
 ·obtain ⟨its,r',pl,hz⟩:=I.tuple hq
  have hlen:=r'.length
  obtain ⟨o,ho,hc,n,hd⟩:=pl
  exact call_list_seq p (.inr rfl) ho hc hd (fun h' c' kp e=>fin its r' hz h' c' kp e) (by simp only [List.size_toArray] <;> omega)
theorem ir:bw X (.type "tuple") (fun xs H Q=>∃ p ys,xs=[.ref p]/\((fY X.K H p ys/\∀ l,H l=none->Q (.ref l) (upd H l (.tup ys)))\/(dF X.K H p ys/\Q (.ref p) H))):=by
 intro pins s σ H xs us Q I r h
 obtain ⟨p,ys,rfl,h⟩:=h
 obtain ⟨u,rfl,rx⟩:=vals1 r
 cases rx
 rcases h with ⟨hq,q⟩ | ⟨hq,q⟩
 ·obtain ⟨its,r',pl,hz⟩:=I.list hq
  have hlen:=r'.length
  refine call_tuple_list pl.isList (fun h' kp=>?_) (by simp only [List.size_toArray] <;> omega)
  have I1:Inv X pins σ H { s with heap:=h' }:=I.kept (t':=s.toks) kp
  have I2:Inv X pins σ (upd H h'.objs.size (.tup ys)) { s with heap:=h'.push { cls:=.type "tuple",data:=.seq its.toArray } }:=
   I1.laid (t':=s.toks) (fun b o e=>Heap.get?_push_of_some _ e) (Nat.le_refl _) (show bZ X.prog X.w _ _ _ (.tup ys) from ⟨hz,its,r',e_.new _ _⟩)
  exact ⟨.ref h'.objs.size,_,I2,rfl,q _ (I1.hok.fresh (Nat.le_refl _))⟩
 ·obtain ⟨its,r',pl,hz⟩:=I.tuple hq
  exact call_tuple_same pl ⟨.ref p,H,I,rfl,q⟩
noncomputable def Ma (K:PySem.W.Frag) (T:String) (x:V) (H:Hp):Prop:=match x with
 | .str _=>T = "str"
 | .int _=>T = "int"
 | .ref p=>(T = "list" /\ ∃ xs,fY K H p xs)\/(T = "tuple" /\ ∃ o,K.lookup p=some o/\o.cls=.type "tuple" /\ o.dict=none) \/
   (T = "dict" /\ ((∃ kvs,H p=some (.dK kvs))\/∃ kvs,H p=some (.dT kvs)))\/(T = "set" /\ ∃ S n,H p=some (.set S n))
 | _=>False
theorem Cs {pins:List (Addr×Obj)} {σ:St} {H:Hp} {s:Shared} {T:String} {x:V} {v:Value} (I:Inv X pins σ H s) (r:RelV x v) (ty:Ma X.K T x H) :
  s.TypeIs v T/\∀ a,v=.ref a->∃ ob,s.heap.get? a=some ob/\ob.dict=none:=by
 cases x with
 | str z=>
  obtain ⟨t,rfl⟩:=r
  cases (show T = "str" from ty)
  exact ⟨typeIs_str s z t,fun _ e=>nomatch e⟩
 | int i=>
  obtain ⟨t,rfl⟩:=r
  cases (show T = "int" from ty)
  exact ⟨typeIs_int s i t,fun _ e=>nomatch e⟩
 | ref p=>
  cases r
  rcases ty with ⟨rfl,xs,hq⟩ | ⟨rfl,o,hk,hc,hd⟩ | ⟨rfl,hk⟩ | ⟨rfl,S,n,hk⟩
  ·obtain ⟨its,_,pl,_⟩:=I.list hq
   refine ⟨pl.isList.typeIs,fun a e=>?_⟩
   cases e
   obtain ⟨o,n,e,c,hd,_⟩:=pl
   exact ⟨o,e,hd⟩
  ·refine ⟨⟨o,I.rY p o hk,hc⟩,fun a e=>?_⟩
   cases e
   exact ⟨o,I.rY _ o hk,hd⟩
  ·have z:∃ o,s.heap.get? p=some o/\o.ExactDict:=by
    rcases hk with ⟨kvs,hk⟩ | ⟨kvs,hk⟩
    ·obtain ⟨_,_,_,_,o,_,_,e,ex,_⟩:=I.hok p _ hk
     exact ⟨o,e,ex⟩
    ·obtain ⟨_,_,_,_,o,_,_,e,ex,_⟩:=I.hok p _ hk
     exact ⟨o,e,ex⟩
   obtain ⟨o,e,ex⟩:=z
   refine ⟨⟨o,e,ex.1⟩,fun a e2=>?_⟩
   cases e2
   exact ⟨o,e,ex.2.1⟩
  ·obtain ⟨o,_,_,_,e,ex,_⟩:=I.hok p _ hk
   refine ⟨⟨o,e,ex.1⟩,fun a e2=>?_⟩
   cases e2
   exact ⟨o,e,ex.2.1⟩
 | _=>exact False.elim ty
noncomputable def Nb (K:PySem.W.Frag) (T:String) (r:V->List V->Hp->VK->Prop) (to:TE):TE:=fun σ H Q=>to σ H fun x H1=>Ma K T x H1/\r x [] H1 Q
noncomputable def Ob (K:PySem.W.Frag) (T:String) (r:V->List V->Hp->VK->Prop) (to:TE) (t:TA):TE:=fun σ H Q=>to σ H fun x H1=>Ma K T x H1/\t σ H1 fun xs H2=>r x xs H2 Q
variable {o e:Expr} {es:List Expr} {to:TE} {t:TA} {name:Str} {apos cpos:Pos} {T id:String} {r:V->List V->Hp->VK->Prop}
theorem IA (pa:PlainAttrs T) (slot:Slot T name id) (hty:typeOf (.builtin id)=pure (.type "method_descriptor")) (hm:IW X id r) (ho:PE X o to)
  (hbase:attributeBase o name X.env (eval o X.env)=eval o X.env:=by rfl) (hline:(apos.endLine == cpos.line)=true:=by rfl):PE X (.Call (.Attribute o name apos) [] [] cpos) (Nb X.K T r to):=by
 intro pins s σ H Q I h
 refine wpAny_Call_method0_late hbase hline (bY (ho pins s σ H _ I h) fun v s1 ⟨x,H1,I1,r1,ty,q1⟩=>?_)
 obtain ⟨h1,h2⟩:=Cs I1 r1 ty
 exact ⟨T,id,pa,slot,hty,h1,h2,Calls.callWith_builtin rfl (PySem.evalArgs_none (hm pins s1 σ H1 x [] v [] Q I1 r1 .nil q1))⟩
theorem Lx (pa:PlainAttrs T) (slot:Slot T name id) (hty:typeOf (.builtin id)=pure (.type "method_descriptor")) (hm:IW X id r) (ho:PE X o to) (ha:PA X (e::es) t)
  (hbase:attributeBase o name X.env (eval o X.env)=eval o X.env:=by rfl)
  (hfew:((backTo cpos (starEach (e::es) X.env)).all (fun x=>!x.1) && (backToKw cpos (keywordEach [] X.env)).all (fun x=>x.1.isSome)
   && decide ((e::es).length+([]:List Keyword).length+(if ([]:List Keyword).isEmpty then 0 else 1) < 30))=true:=by rfl)
  (hline:(apos.endLine == cpos.line)=true:=by rfl) (hs:starEach (e::es) X.env=(false,eval e X.env)::starEach es X.env:=by rfl) (hplain:(backTo cpos (starEach es X.env)).any (·.1)=false:=by rfl) :
  PE X (.Call (.Attribute o name apos) (e::es) [] cpos) (Ob X.K T r to t):=by
 intro pins s σ H Q I h
 refine wpAny_Call_method_late hbase hfew hline rfl (bY (ho pins s σ H _ I h) fun v s1 ⟨x,H1,I1,r1,ty,q1⟩=>?_)
 obtain ⟨h1,h2⟩:=Cs I1 r1 ty
 refine ⟨T,id,pa,slot,hty,h1,h2,?_⟩
 have hA:=ha cpos pins s1 σ H1 _ I1 q1
 rw [hs] at hA ⊢
 refine Calls.callWith_builtin (by show (false || (backTo cpos (starEach es X.env)).any (·.1))=false;rw [hplain] <;> rfl) (Calls.evalArgs_plain ?_)
 exact bY hA fun us s2 ⟨vs,H2,I2,r2,q2⟩=>hm pins s2 σ H2 x vs v us Q I2 r1 r2 q2
end
noncomputable def MB (X:Cx) (id:String) (r:V->List V->Hp->VK->Prop):Prop:=
 ∀ (pins:List (Addr×Obj)) (s:Shared) (σ:St) (H:Hp) (x:V) (xs:List V) (v:Value) (us:List Value) (Q:VK),Inv X pins σ H s->RelV x v->Vals xs us->r x xs H Q ->
  wpAny (model X.prog X.w) X.A (call (.builtin id) (v::us)) (EP X pins σ Q) X.xe s
theorem Vals.one:∀ {x:V} {us:List Value},Vals [x] us->∃ u,us=[u]/\RelV x u
 | _,_,.cons r .nil=>⟨_,rfl,r⟩
theorem Vals.zero:∀ {us:List Value},Vals [] us->us=[]
 | _,.nil=>rfl
theorem Vals.dropLast {xs:List V} {us:List Value} (h:Vals xs us):Vals xs.dropLast us.dropLast:=by
 induction h with
 | nil=>exact .nil
 | cons r t ih=>
  cases t with
  | nil=>exact .nil
  | cons q t'=>exact .cons r ih
theorem Vals.reverse {xs:List V} {us:List Value} (h:Vals xs us):Vals xs.reverse us.reverse:=by
 induction h with
 | nil=>exact .nil
 | cons r t ih=>rw [List.reverse_cons,List.reverse_cons];exact Vals.append ih (.cons r .nil)
theorem Vals.rep {xs:List V} {us:List Value} (h:Vals xs us):∀ k:Nat,Vals (List.replicate k xs).flatten (List.replicate k us).flatten
 | 0=>.nil
 | k+1=>by
  rw [List.replicate_succ,List.replicate_succ,List.flatten_cons,List.flatten_cons]
  exact Vals.append h (Vals.rep h k)
theorem vc {α:Type} (l:List α):l.eraseIdx (l.length - 1)=l.dropLast:=by
 induction l with
 | nil=>rfl
 | cons a r ih=>
  cases r with
  | nil=>rfl
  | cons b r=>
   have e:(a::b::r).length - 1=((b::r).length - 1)+1:=by
    have h1:(a::b::r).length=r.length+2:=rfl
    have h2:(b::r).length=r.length+1:=rfl
    omega
   rw [e,List.eraseIdx_cons_succ,ih]
   all_goals rfl
theorem foldl_rep (its:List Value):∀ (k:Nat) (acc:List Value),
  List.foldl (fun x1 x2=>x1++x2) acc.toArray (List.replicate k its.toArray)=(acc++(List.replicate k its).flatten).toArray
 | 0,acc=>by simp
 | k+1,acc=>by
  have e:acc.toArray++its.toArray=(acc++its).toArray:=by simp
  have e2:(acc++its)++(List.replicate k its).flatten=acc++(List.replicate (k+1) its).flatten:=by
   rw [List.replicate_succ,List.flatten_cons,List.append_assoc]
  rw [<- e2,<- foldl_rep its k (acc++its),<- e,List.replicate_succ,List.foldl_cons]
section
variable {X:Cx} {pins:List (Addr×Obj)} {σ:St} {H:Hp} {s:Shared} {l b:Addr} {xs ys zs:List V}
theorem Inv.Ja {its its':List Value} {n:Nat} {f:Array Value->Array Value} {t':Nat} (I:Inv X pins σ H s) (hH:H l=some (.lst xs))
  (e:s.heap.get? l=some { cls:=.type "list",data:=.seq its.toArray n }) (hf:f its.toArray=its'.toArray) (hv:Vals ys its') (hz:ys.length<=sizeLine) :
  Inv X pins σ (upd H l (.lst ys)) { s with heap:=s.heap.update l (Obj.mapSeq f),toks:=t' }:=by
 have q:=PySem.IsL.update e f
 rw [hf] at q
 refine I.write (x:=l) (e:=l) (by rw [hH];exact trivial) (.inl rfl) (fun b' u hb hu=>(Heap.get?_update_other s.heap (Obj.mapSeq f) (Ne.symm hb)).trans hu) ⟨_,q⟩ ?_
 exact ⟨hz,its',_,hv,q⟩
theorem Inv.zH {its:List Value} {t':Nat} (I:Inv X pins σ H s) (hv:Vals ys its) (hz:ys.length<=sizeLine) :
  Inv X pins σ (upd H s.heap.objs.size (.lst ys)) { s with heap:=s.heap.push { cls:=.type "list",data:=.seq its.toArray },toks:=t' }:=
 I.laid (fun _ _ q=>Heap.get?_push_of_some _ q) (Nat.le_refl _) ⟨hz,its,0,hv,Heap.get?_push_size _ rfl⟩
theorem Inv.fresh (I:Inv X pins σ H s):H s.heap.objs.size=none:=I.hok.fresh (Nat.le_refl _)
theorem Inv.vj (I:Inv X pins σ H s) (hH:H l=some (.lst xs)):xs.length<=sizeLine/\∃ (its:List Value) (n:Nat),Vals xs its/\xs.length=its.length/\s.heap.get? l=some { cls:=.type "list",data:=.seq its.toArray n }:=by
 obtain ⟨z,its,n,r,e⟩:=I.hok l _ hH
 exact ⟨z,its,n,r,r.length,e⟩
theorem sJ {n:Nat} (h:n<=sizeLine):Builtin.List.listTooLong n=false:=by
 unfold Builtin.List.listTooLong
 exact decide_eq_false (by omega)
end
section
variable {X:Cx}
noncomputable def ES:V->List V->Hp->VK->Prop:=fun x vs H Q=>∃ l xs y,x=.ref l/\vs=[y]/\H l=some (.lst xs)/\xs.length < sizeLine/\Q .non (upd H l (.lst (xs++[y])))
theorem jK:MB X "list.append" ES:=by
 intro pins s σ H x vs v us Q I rx rv h
 obtain ⟨l,xs,y,rfl,rfl,hH,hz,q⟩:=h
 cases rx
 obtain ⟨u,rfl,ru⟩:=rv.one
 obtain ⟨z,its,n,r,hl,e⟩:=I.vj hH
 refine call_meets F.slot_list_append ⟨_,e,rfl⟩ F.entry_list_append (F.args_list_append_2 _ _) (PySem.list_append l its.toArray n u (by rw [List.size_toArray];omega)) ⟨e,?_⟩
 refine ⟨.non,_,I.Ja (its':=its++[u]) hH e (by simp) (r.append (.cons ru .nil)) ?_,rfl,q⟩
 rw [List.length_append,List.length_singleton]
 omega
noncomputable def EN:V->List V->Hp->VK->Prop:=fun x vs H Q=>∃ l b xs zs,x=.ref l/\vs=[.ref b]/\H l=some (.lst xs)/\H b=some (.lst zs)/\xs.length+zs.length<=sizeLine/\Q .non (upd H l (.lst (xs++zs)))
theorem zG:MB X "list.extend" EN:=by
 intro pins s σ H x vs v us Q I rx rv h
 obtain ⟨l,b,xs,zs,rfl,rfl,hH,hB,hz,q⟩:=h
 cases rx
 obtain ⟨u,rfl,ru⟩:=rv.one
 cases ru
 obtain ⟨z,its,n,r,hl,e⟩:=I.vj hH
 obtain ⟨z2,its2,n2,r2,hl2,e2⟩:=I.vj hB
 have hsz:its.toArray.size+its2.toArray.size<=sizeLine:=by rw [List.size_toArray,List.size_toArray];omega
 have hlong:¬ (!its.toArray.isEmpty && Builtin.List.listTooLong (its.toArray.size+its2.toArray.size))=true:=by
  rw [sJ hsz,Bool.and_false]
  exact Bool.false_ne_true
 refine call_meets F.slot_list_extend ⟨_,e,rfl⟩ F.entry_list_extend (F.args_list_extend_2 _ _)
  (AutoSeq1.list_extend_list_list_0 l its.toArray n b its2.toArray n2 hlong (by rw [List.size_toArray];omega) (by omega)) ⟨e,e2,?_⟩
 refine ⟨.non,_,I.Ja (its':=its++its2) hH e (by simp) (r.append r2) ?_,rfl,q⟩
 rw [List.length_append]
 omega
noncomputable def Nf:V->List V->Hp->VK->Prop:=fun x vs H Q=>∃ l xs y,x=.ref l/\vs=[]/\H l=some (.lst xs)/\xs[xs.length - 1]?=some y/\Q y (upd H l (.lst xs.dropLast))
theorem Ks:MB X "list.pop" Nf:=by
 intro pins s σ H x vs v us Q I rx rv h
 obtain ⟨l,xs,y,rfl,rfl,hH,hy,q⟩:=h
 cases rx
 have hus:=rv.zero
 subst hus
 obtain ⟨z,its,n,r,hl,e⟩:=I.vj hH
 obtain ⟨u,hu,ru⟩:=r.get hy
 have hy':its.toArray[its.toArray.size - 1]?=some u:=by
  show its.toArray[its.length - 1]?=some u
  rw [<- Array.getElem?_toList,<- hl]
  exact hu
 refine call_meets F.slot_list_pop ⟨_,e,rfl⟩ F.entry_list_pop (F.args_list_pop_1 _) (MeetsSeq.list_pop_last l its.toArray n u hy' (by rw [List.size_toArray];omega)) ⟨e,?_⟩
 refine ⟨y,_,I.Ja (its':=its.dropLast) hH e ?_ r.dropLast ?_,ru,q⟩
 ·show its.toArray.eraseIdxIfInBounds (its.toArray.size - 1)=its.dropLast.toArray
  rw [List.size_toArray,List.eraseIdxIfInBounds_toArray,vc]
 ·rw [List.length_dropLast]
  omega
noncomputable def Nq:R2:=fun x y H Q=>∃ l b xs zs,x=.ref l/\y=.ref b/\H l=some (.lst xs)/\H b=some (.lst zs)/\xs.length+zs.length<=sizeLine/\∀ p,H p=none->Q (.ref p) (upd H p (.lst (xs++zs)))
theorem JK:eU X (binaryOp .Add) Nq:=by
 intro pins s σ H x y v u Q I rx ry h
 obtain ⟨l,b,xs,zs,rfl,rfl,hH,hB,hz,q⟩:=h
 cases rx
 cases ry
 obtain ⟨z,its,n,r,hl,e⟩:=I.vj hH
 obtain ⟨z2,its2,n2,r2,hl2,e2⟩:=I.vj hB
 refine PySem.P.add_list e e2 ?_ (by rw [List.size_toArray,List.size_toArray];omega)
 have ea:its.toArray++its2.toArray=(its++its2).toArray:=by simp
 rw [ea]
 exact ⟨.ref _,_,I.zH (t':=s.toks) (r.append r2) (by rw [List.length_append];omega),rfl,q _ I.fresh⟩
noncomputable def Nr:R2:=fun x y H Q=>∃ l k xs,x=.ref l/\y=.int k/\H l=some (.lst xs)/\-(2 ^ 63)<=k/\k < 2 ^ 63/\xs.length * k.toNat<=sizeLine /\
 ∀ p,H p=none->Q (.ref p) (upd H p (.lst (List.replicate k.toNat xs).flatten))
theorem len_rep {α:Type} (xs:List α) (k:Nat):(List.replicate k xs).flatten.length=k * xs.length:=by
 induction k with
 | zero=>simp
 | succ k ih=>rw [List.replicate_succ,List.flatten_cons,List.length_append,ih,Nat.succ_mul,Nat.add_comm]
theorem HY:eU X (binaryOp .Mult) Nr:=by
 intro pins s σ H x y v u Q I rx ry h
 obtain ⟨l,k,xs,rfl,rfl,hH,h1,h2,hz,q⟩:=h
 cases rx
 obtain ⟨t,rfl⟩:=ry
 obtain ⟨z,its,n,r,hl,e⟩:=I.vj hH
 have hlen:its.toArray.size * k.toNat<=sizeLine:=by rw [List.size_toArray,<- hl];exact hz
 have hcap:¬ its.toArray.size * k.toNat > (2 ^ 63 - 1) / 8:=by
  have:(sizeLine:Nat)<=(2 ^ 63 - 1) / 8:=by decide
  omega
 have hfit:¬ (!Builtin.List.listFitsIndex k)=true:=by
  rw [fitsIndex_both h1 h2]
  exact Bool.false_ne_true
 have hlong:¬ Builtin.List.listTooLong (its.toArray.size * k.toNat)=true:=by
  rw [sJ hlen]
  exact Bool.false_ne_true
 have hnew:List.foldl (fun x1 x2=>x1++x2) #[] (List.replicate (if its.toArray.isEmpty=true then 0 else k.toNat) its.toArray)=(List.replicate k.toNat its).flatten.toArray:=by
  have f0:∀ m:Nat,List.foldl (fun x1 x2=>x1++x2) #[] (List.replicate m its.toArray)=(List.replicate m its).flatten.toArray:=fun m=>by
   have:=foldl_rep its m []
   rw [List.nil_append] at this
   exact this
  rw [f0]
  cases its with
  | nil=>simp
  | cons a r'=>rw [if_neg (by simp)]
 refine wpAny_binaryOp_repeat_ref (T := "list") (U := "int") (by decide) ⟨_,e,rfl⟩ (fun s'=>typeIs_int s' k t) noFill_list_mul F.fills_int_mul F.slot_int_rmul repeat_list F.slot_int_index.lookup
  (call_meets F.slot_int_rmul (typeIs_int s k t) F.entry_int_rmul (F.args_int_rmul_2 _ _) (int___rmul___int_list k t l its.toArray n)
   ⟨e,rfl,⟨_,e,rfl⟩,call_meets F.slot_list_mul ⟨_,e,rfl⟩ F.entry_list_mul (F.args_list_mul_2 _ _) (AutoListH.list___mul___list_int_3 l its.toArray n k t hfit hcap hlong) ⟨e,?_⟩⟩)
 rw [hnew]
 exact ⟨.ref _,_,I.zH (t':=s.toks) (r.rep k.toNat) (by rw [len_rep,Nat.mul_comm];exact hz),rfl,q _ I.fresh⟩
end
section
variable {prog:Program} {w:World} {A:Around} {E:Value->Shared->Prop} {s:Shared}
end
section
variable {X:Cx}
end
end L2
namespace Att
open PySem PySem.W PySem.Calls PyProof.Rows
theorem m9 {P:Params} {h:Heap}:∀ (ns:List Int) (vs:List Value),WellAll P h vs (ns.map WData.int)->IntsAre vs ns:=by
 intro ns
 induction ns with
 | nil=>
  intro vs w
  rw [List.map_nil] at w
  cases w
  exact .nil
 | cons n ns ih=>
  intro vs w
  rw [List.map_cons] at w
  cases w with
  | cons a b=>
   cases a
   exact .cons _ _ (ih _ b)
theorem zN {l:OpenLaw} {n:Nat} (hn:l.most=some n) {P:Params} {h:Heap} {args:List WData} {vals:List Value}
  (hpre:l.row.toRowW.claim.pre args=true) (hwl:WellAll P h vals args) :
  ∃ a vs ns,vals=[Value.ref a]/\args=[WData.list (ns.map WData.int)]/\h.get? a=some { cls:=.type "list",data:=.seq vs.toArray }/\IntsAre vs ns/\ns.length<=n:=by
 have hsh:WShape.hasAll [] args [.list .int]=true:=(pre_splitW hpre).1
 have hc:l.pre.holds [] { args:=args }=true:=(pre_splitW hpre).2
 obtain ⟨d,r,rfl,h1,h2⟩:=hasAllW_cons hsh
 obtain rfl:=hasAllW_nil h2
 obtain ⟨xs,rfl,h3⟩:=hasW_list h1
 obtain ⟨ns,rfl⟩:=items_int h3
 have hlen:ns.length<=n:=by
  unfold OpenLaw.pre at hc
  have h4:(WTm.not (.lt (.lit (.int (n:Int))) (.len (.arg 0)))).holds [] { args:=[.list (ns.map .int)] }=true:=by
   have h4:=(holds_andW hc).1
   rw [hn] at h4
   exact h4
  have h5:=condW_of h4 (w_not (w_lt w_lit (w_len_list (w_arg rfl))))
  rw [List.length_map] at h5
  refine Nat.le_of_not_lt fun q=>?_
  have q':(n:Int) < ((ns.length:Nat):Int):=by omega
  first
   | (rw [decide_eq_true q'] at h5;exact absurd h5 (by decide))
   | (simp at h5;omega)
 cases hwl with
 | cons w1 w2=>
  cases w2
  cases w1 with
  | list ho hall=>exact ⟨_,_,ns,rfl,rfl,ho,m9 ns _ hall,hlen⟩
theorem zO (l:OpenLaw) (args:List WData):l.row.toRowW.claim.post args (.bool true) args=true:=
 postW_of (r:=l.row.toRowW) (X:=(true == true))
  (show WShape.has [] (.bool true) .bool=true by first | rfl | decide | simp [WShape.has,WShape.arms,WShape.armsAll])
  (show (WTm.eq .res (.lit (.bool true))).value [] { args:=args,res:=some (.bool true),after:=args }=some (.bool (true == true)) from w_eq_bool (w_res rfl) w_lit) rfl
theorem r_ {l:OpenLaw} {n:Nat} {q:Program} {loose:List Str} {XP:(Str->Option Value)->Heap->Prop} {YP:World->Heap->Prop} {d:DefRec}
  (hn:l.most=some n) (hdf:d.params.defaults=[])
  (call:∀ (w:World) (s₀ s₁:Shared) (mg mb:Str->Option Value) (fa:Addr) (o:Obj) (pm cd doc:Value) (a:Addr) (vs:List Value) (ns:List Int),
   Ground q loose [] XP w s₀ mg mb s₁.heap->YP w s₁.heap ->
   s₁.heap.get? fa=some o->o.data=.func (docDef d.name d.params d.body d.scope pm cd doc)->s₁.heap.CodeRec cd d.name->mg d.name=some (.ref fa) ->
   s₁.heap.get? a=some { cls:=.type "list",data:=.seq vs.toArray }->IntsAre vs ns->ns.length<=n->s₁.gens=#[] ->
   codeAny (model l.prog w) callerA (.call (.ref fa) ⟨[.ref a],[]⟩) (fun r s'=>r=.ok (.ret (.bool true))/\OldK s₁.heap s'.heap/\s'.os=s₁.os/\AllBare s'.gens) s₁) :
  WalkO q loose XP YP l.row.toRowW d [] (fun f vs=>PySem.call f vs):=by
 intro w s₀ s₁ mg mb G Y fa o pm cd doc dV kV ho hd hcd hD hmg hg args vals as hpre hlay hrd hwl hlo
 obtain rfl:dV=.none:=Dflts.none hD hdf
 obtain rfl:kV=.none:=Dflts.noKw hD
 obtain ⟨a,vs,ns,rfl,rfl,hobj,hints,hlen⟩:=zN hn hpre hwl
 refine enter_call (codeAny_mono (call w s₀ s₁ mg mb fa o pm cd doc a vs ns G Y ho (fd_plain hd) hcd hmg hobj hints hlen hg) fun r s' hq=>?_)
 obtain ⟨rfl,h2,h3,h4⟩:=hq
 exact ⟨.inl ⟨.bool true,.bool true,[],rfl,fun _=>rfl,.bool true,zO l _,fun _=>⟨List.Pairwise.nil,fun _ hm=>(nomatch hm)⟩⟩,h2,h3,h4⟩
section
variable {prog:Program} {w:World} {A:Around} {E:Value->Shared->Prop} {s:Shared} {K:Frag}
end
end Att
namespace L2
open PySem PySem.Spec PyProof.Rows
theorem mh:∀ {vs:List Value} {ns:List Int},IntsAre vs ns->Vals (ns.map V.int) vs
 | _,_,.nil=>.nil
 | _,_,.cons n t h=>.cons ⟨t,rfl⟩ (mh h)
noncomputable def Gj (H:Hp):Prop:=∀ b,H b=none\/∃ o xs,H b=some (.frz o (.lst xs))
theorem Di {P:Program} {w:World} {K:PySem.W.Frag} {mg mb:Str->Option Value} {CX:DH} {k:Nat} {fa a:Addr} {fd:FuncData} {x:Str} {sp:Sp} {s₁:Shared} {vs:List Value} {ns:List Int}
  (KX:K.In s₁.heap) (hns:s₁.heap.Ns mainGlobals mg) (hb:s₁.heap.Ns builtinsNs mb) (hbb:∀ x:Str,x ≠ "__name__" -> mb x=bootBuiltins x) (hlim:s₁.heap.NoLimit) (hg:s₁.gens=#[])
  (ha:s₁.heap.get? a=some { cls:=.type "list",data:=.seq vs.toArray }) (hi:IntsAre vs ns) (hl:ns.length<=sizeLine) (hr:Room k callerA)
  (F:∀ base:Heap,K.In base->base.Ns mainGlobals mg->FnOk P w K mg base CX k fa fd [x] sp) (hbind:∀ (s:Shared) (u:Value),BindsTo s fd ⟨[u],[]⟩ [(x,u)])
  (hsp:∀ H:Hp,Gj H->fY K H a (ns.map V.int)->sp [.ref a] H (fun v _=>v=.bl true) fun _ _ _=>False)
  (hCX:∀ H e s',CX [] H s₁ (fun _ _ _=>False) e s'->False) :
  codeAny (model P w) callerA (.call (.ref fa) ⟨[.ref a],[]⟩) (fun r s'=>r=.ok (.ret (.bool true))/\OldK s₁.heap s'.heap/\s'.os=s₁.os/\AllBare s'.gens) s₁:=by
 have rv:=mh hi
 have lenV:=hi.length
 have core:∀ H:Hp,Gj H->fY K H a (ns.map V.int)->ku P w H s₁.heap->(∀ b,H b≠none->b=a)->(H a≠none->K.lookup a=none) ->
   codeAny (model P w) callerA (.call (.ref fa) ⟨[.ref a],[]⟩) (fun r s'=>r=.ok (.ret (.bool true))/\OldK s₁.heap s'.heap/\s'.os=s₁.os/\AllBare s'.gens) s₁:=by
  intro H hO hS hok hA hK
  have base_of:∀ {b:Addr} {o:Obj},s₁.heap.get? b=some o->H b=none->(rK s₁.heap H).get? b=some o:=fun e n=>BU e n
  have noA:∀ {b:Addr} {o:Obj} {es:Array DictEntry} {ep:Nat},s₁.heap.get? b=some o->o.data=.dict es ep->H b=none:=fun {b o es ep} e d=>by
   cases q:H b with
   | none=>rfl
   | some u=>
    have e':b=a:=hA b (by rw [q];simp)
    subst e'
    rw [ha] at e;cases e
    have d':Data.seq vs.toArray _=Data.dict es ep:=d
    cases d'
  have nsK:∀ {b:Addr} {m:Str->Option Value},s₁.heap.Ns b m->(rK s₁.heap H).Ns b m:=fun {b m} ⟨o,es,ep,e,d,r⟩=>⟨o,es,ep,base_of e (noA e d),d,r⟩
  have hKb:K.In (rK s₁.heap H):=fun b o e=>base_of (KX b o e) (by
   cases q:H b with
   | none=>rfl
   | some u=>
    have e':b=a:=hA b (by rw [q];simp)
    subst e'
    rw [hK (by rw [q];simp)] at e;cases e)
  have hM:Mod K mg (rK s₁.heap H):=⟨hKb,nsK hns,⟨mb,nsK hb,hbb⟩,let ⟨mc,h1,h2⟩:=hlim;⟨mc,nsK h1,h2⟩⟩
  have e0:Env0 P w K mg (rK s₁.heap H) callerA [] s₁ H:=⟨rfl,hM,fun b o e=>Gp e,Nat.le_of_eq (zY _ _),trivial,fun b hb=>absurd (show b∈([]:List Addr) from hb) (by simp),hok,.of_eq hg⟩
  refine codeAny_mono ((F _ hKb (nsK hns)).run callerA [] s₁ H ⟨[.ref a],[]⟩ [.ref a] [.ref a] _ _ hr e0 (hbind s₁ (.ref a)) (.cons rfl .nil) (hsp H hO hS)) fun r s' h=>?_
  cases r with
  | error e=>exact (hCX H e s' h).elim
  | ok fl=>
   cases fl with
   | next=>exact False.elim h
   | brk=>exact False.elim h
   | cont=>exact False.elim h
   | ret u=>
    obtain ⟨v,H',os,bare,un,hok',r',q⟩:=h
    have q':v=.bl true:=q
    subst q'
    obtain rfl:u=Value.bool true:=r'
    refine ⟨rfl,OldK.of_keep fun b o e=>?_,os,bare⟩
    cases q:H b with
    | none=>exact un.keep b o e q (by intro z;exact absurd (show b∈([]:List Addr) from z) (by simp)) (by simp)
    | some u=>
     rcases hO b with z | ⟨ob,xs,z⟩
     ·rw [q] at z;cases z
     ·have z2:=un.frzs b ob _ z
      obtain ⟨e1,_⟩:=hok b _ z
      obtain ⟨e2,_⟩:=hok' b _ z2
      rw [e] at e1;cases e1
      exact e2
 cases hk:K.lookup a with
 | some o=>
  have e:=KX a o hk
  rw [ha] at e
  cases e
  refine core (fun _=>none) (fun _=>.inl rfl) (.inr ⟨_,vs.toArray,_,hk,rfl,rfl,rfl,by rw [List.size_toArray,lenV];exact hl,by simpa using rv⟩) (fun b u z=>by have z':(none:Option HO)=some u:=z;cases z') (fun b z=>absurd rfl z) fun z=>absurd rfl z
 | none=>
  refine core (fun b=>if b=a then some (.frz { cls:=.type "list",data:=.seq vs.toArray } (.lst (ns.map V.int))) else none) (fun b=>?_) (.inl (.inr ⟨{ cls:=.type "list",data:=.seq vs.toArray },if_pos rfl⟩)) (fun b u z=>?_) (fun b z=>?_) fun _=>hk
  ·by_cases hb:b=a
   ·exact .inr ⟨_,_,if_pos hb⟩
   ·exact .inl (if_neg hb)
  ·by_cases hb:b=a
   ·have z':=(if_pos hb).symm.trans z
    cases z'
    subst hb
    exact ⟨ha,by rw [List.length_map];exact hl,vs,_,rv,ha⟩
   ·have z':=(if_neg hb).symm.trans z
    cases z'
  ·by_cases hb:b=a
   ·exact hb
   ·exact absurd (if_neg hb) z
theorem EY {l:PySem.W.OpenLaw} {n k:Nat} {q:Program} {loose:List Str} {XP:(Str->Option Value)->Heap->Prop} {YP:World->Heap->Prop} {d:DefRec} {K:Params->PySem.W.Frag} {CX:World->DH} {sp:World->Sp} {x:Str}
  (hn:l.most=some n) (hn2:n<=sizeLine) (hdf:d.params.defaults=[]) (hr:Room k callerA)
  (hY:∀ (w:World) (h:Heap),YP w h->(K w.params).In h)
  (F:∀ (w:World) (mg:Str->Option Value) (fa:Addr) (h:Heap),(K w.params).In h->h.Ns mainGlobals mg->mg d.name=some (.ref fa) ->
   ∃ fd:FuncData,(∀ (s:Shared) (u:Value),BindsTo s fd ⟨[u],[]⟩ [(x,u)]) /\
    ∀ base:Heap,(K w.params).In base->base.Ns mainGlobals mg->FnOk l.prog w (K w.params) mg base (CX w) k fa fd [x] (sp w))
  (hsp:∀ (w:World) (H:Hp) (a:Addr) (ns:List Int),ns.length<=n->Gj H->fY (K w.params) H a (ns.map V.int)->sp w [.ref a] H (fun v _=>v=.bl true) fun _ _ _=>False)
  (hCX:∀ (w:World) (H:Hp) (s:Shared) (e:Value) (s':Shared),CX w [] H s (fun _ _ _=>False) e s'->False) :
  PySem.W.WalkO q loose XP YP l.row.toRowW d [] (fun f vs=>PySem.call f vs):=by
 refine Att.r_ hn hdf fun w s₀ s₁ mg mb fa o pm cd doc a vs ns G Y ho hd hcd hmg hobj hints hlen hg=>?_
 have KX:=hY w _ Y
 obtain ⟨fd,hb,hF⟩:=F w mg fa _ KX G.T.g hmg
 exact Di KX G.T.g G.T.b G.T.builtins G.T.nolimit hg hobj hints (Nat.le_trans hlen hn2) hr hF hb (fun H hO hS=>hsp w H a ns hlen hO hS) fun H e s'=>hCX w H s₁ e s'
noncomputable def bh (s:Stmt):Arguments:=match s with
 | .FunctionDef _ a _ _ _ _ _ _ _ _=>a
 | _=>{ posonlyargs:=[],args:=[],vararg:=none,kwonlyargs:=[],kw_defaults:=[],kwarg:=none,defaults:=[] }
noncomputable def bf (s:Stmt):List Stmt:=match s with
 | .FunctionDef _ _ b _ _ _ _ _ _ _=>b
 | _=>[]
noncomputable def aI (s:Stmt):Scope:=match s with
 | .FunctionDef _ _ _ _ _ _ sc _ _ _=>sc
 | _=>{ kind:=.function,names:=[],isGenerator:=false,isCoroutine:=false }
noncomputable abbrev jL:DH:=fun _ _ _ _ _ _=>False
noncomputable abbrev E0:XK:=fun _ _ _=>False
theorem Ls {X:Cx}:Passes jL X E0:=fun _ _ _ _ _ _ _ h=>h.elim
structure Fun (K:PySem.W.Frag) (x qual:Str) (st:Stmt) (f:Addr) (fd:FuncData):Prop where
 ex:∃ (oc:Value) (od:Option Addr) (kV doc pm:Value) (an:Option Addr) (cdv ct:Value) (osl:Array (Option Value)),
  fd=PySem.W.fnOf x qual (bh st) (bf st) (aI st) .none kV doc pm an cdv ct/\K.lookup f=some ⟨oc,od,.func fd,osl⟩/\PySem.W.codeIn K cdv qual=true
 kp:PySem.W.keepIn K (.ref f)=true
section
variable {P:Program} {w:World} {K:PySem.W.Frag} {mg:Str->Option Value} {base:Heap}
theorem Fun.ok {x qual:Str} {st:Stmt} {f:Addr} {fd:FuncData} {N ps:List Str} {k:Nat} {sp:Sp} (F:Fun K x qual st f fd) (S:FnScope N ps (aI st)) (len:∀ vs H Q E,sp vs H Q E->vs.length=ps.length)
  (hbody:∀ (cdv:Value) (A:Around) (outer:List Env) (s:Shared) (H:Hp) (vs:List V) (Q:VK) (E:XK),Room k (A.deeper (envOfC qual (aI st) s.heap.objs.size f cdv))->sp vs H Q E ->
   ∃ t,qU (vA jL P w K mg base N qual (aI st) f cdv A outer s H E).KY (bf st) t/\t { nx:=fun _ H'=>Q .non H',rt:=Q } (start N vs) H):FnOk P w K mg base jL (k+1) f fd ps sp:=by
 obtain ⟨oc,od,kV,doc,pm,an,cdv,ct,osl,rfl,lk,hcd⟩:=F.ex
 refine Ly lk hcd S len fun A outer s H vs Q E hr hsp=>?_
 obtain ⟨t,h,q⟩:=hbody cdv A outer s H vs Q E hr hsp
 exact ⟨t,h.KY,q⟩
theorem Fun.binds {x qual:Str} {st:Stmt} {f:Addr} {fd:FuncData} {ps:List Str} (F:Fun K x qual st f fd)
  (h:∀ (kV doc pm:Value) (an:Option Addr) (cdv ct:Value) (us:List Value),us.length=ps.length->bindArgs (PySem.W.fnOf x qual (bh st) (bf st) (aI st) .none kV doc pm an cdv ct) ⟨us,[]⟩=pure (ps.zip us)):Binds K fd ps []:=by
 obtain ⟨oc,od,kV,doc,pm,an,cdv,ct,osl,rfl,lk,hcd⟩:=F.ex
 exact .all (h kV doc pm an cdv ct)
theorem bS {x qual:Str} {st:Stmt} {f:Addr} {oc:Value} {od an:Option Addr} {osl:Array (Option Value)} {kV doc pm cdv ct:Value} (l:K.lookup f=some ⟨oc,od,.func (PySem.W.fnOf x qual (bh st) (bf st) (aI st) .none kV doc pm an cdv ct),osl⟩)
  (c:PySem.W.codeIn K cdv qual=true) (k:PySem.W.keepIn K (.ref f)=true):Fun K x qual st f (PySem.W.fnOf x qual (bh st) (bf st) (aI st) .none kV doc pm an cdv ct):=⟨⟨oc,od,kV,doc,pm,an,cdv,ct,osl,rfl,l,c⟩,k⟩
end
section
variable {X:Cx}
theorem pv (i:Nat) {x:Str} {pos:Pos} (hN:X.N[i]?=some x:=by rfl) (hv:Ku X.env.scope x:=by first | exact Or.inl rfl | exact Or.inr (Or.inl rfl) | exact Or.inr (Or.inr rfl)) (hd:(x == ("__debug__" : Str))=false:=by decide)
  (hcd:(x == ("__classdict__" : Str))=false:=by decide):PE X (.Name x pos) (KH i):=D3 hN hv hd hcd
end
set_option maxHeartbeats 4000000
noncomputable def Gd (σ:St):Option Nat->Option V
 | some j=>(σ[j]?).getD none
 | none=>none
noncomputable def jb (env:Env):List (Str×NameKind)->List (Str×Addr)->List (Str×Addr)
 | [],cs=>cs
 | (n,k)::r,cs=>jb env r (if k == .free then (n,(env.cells.lookup n).getD 0)::cs else cs)
theorem kr {scope:Scope} {env:Env} (h:∀ y∈scope.names,y.2=.free->∃ c,env.cells.lookup y.1=some c):closureFor scope env=pure (jb env scope.names []):=by
 have key:∀ (l:List (Str×NameKind)) (cs:List (Str×Addr)),(∀ y∈l,y.2=.free->∃ c,env.cells.lookup y.1=some c) ->
   (forIn l cs (fun (x:Str×NameKind) (r:List (Str×Addr))=>(match x with
    | (name,kind)=>if (kind == NameKind.free)=true then (do let c <- cellOf env name;pure (ForInStep.yield ((name,c)::r))) else pure (ForInStep.yield r):Sem (ForInStep (List (Str×Addr))))))=(pure (jb env l cs):Sem (List (Str×Addr))):=by
  intro l
  induction l with
  | nil=>intro cs _;rfl
  | cons y r ih=>
   intro cs hl
   obtain ⟨n,k⟩:=y
   rw [List.forIn_cons]
   by_cases hk:k=.free
   ·subst hk
    obtain ⟨c,hc⟩:=hl (n,.free) List.mem_cons_self rfl
    have e1:cellOf env n=pure c:=by
     unfold cellOf
     rw [hc]
    simp only [beq_self_eq_true,if_true,e1,pure_bind]
    rw [ih _ (fun z hz=>hl z (List.mem_cons_of_mem _ hz))]
    simp only [jb,beq_self_eq_true,if_true,hc,Option.getD_some]
   ·have hb:(k == NameKind.free)=false:=by simpa using hk
    simp only [hb,Bool.false_eq_true,if_false,pure_bind]
    rw [ih _ (fun z hz=>hl z (List.mem_cons_of_mem _ hz))]
    simp only [jb,hb,Bool.false_eq_true,if_false]
 have:=key scope.names [] h
 exact (congrArg (fun z=>z >>= fun cs=>(pure cs:Sem (List (Str×Addr)))) this).trans (pure_bind _ _)
theorem oh:∀ {l:List (Str×NameKind)} {x:Str} {k:NameKind},l.lookup x=some k->(x,k)∈l
 | [],_,_,h=>nomatch h
 | (n,k')::r,x,k,h=>by
  rw [List.lookup_cons] at h
  cases hx:x == n with
  | true=>
   rw [hx] at h
   have e:x=n:=by simpa using hx
   subst e
   cases h
   exact List.mem_cons_self
  | false=>rw [hx] at h;exact List.mem_cons_of_mem _ (oh h)
theorem qm {env:Env} {x:Str} {c:Addr}:∀ {l:List (Str×NameKind)} {cs:List (Str×Addr)},(∀ y∈l,y.2=.free->∃ c,env.cells.lookup y.1=some c)->(jb env l cs).lookup x=some c->env.cells.lookup x=some c\/cs.lookup x=some c
 | [],cs,_,h=>.inr h
 | (n,k)::r,cs,hl,h=>by
  have h':=qm (l:=r) (fun z hz=>hl z (List.mem_cons_of_mem _ hz)) h
  rcases h' with h' | h'
  ·exact .inl h'
  ·by_cases hk:k=.free
   ·subst hk
    simp only [beq_self_eq_true,if_true] at h'
    obtain ⟨c',hc⟩:=hl (n,.free) List.mem_cons_self rfl
    rw [hc,Option.getD_some,List.lookup_cons] at h'
    cases hx:x == n with
    | true=>
     rw [hx] at h'
     have e:x=n:=by simpa using hx
     subst e
     left
     rw [hc];exact h'
    | false=>rw [hx] at h';exact .inr h'
   ·have hb:(k == NameKind.free)=false:=by simpa using hk
    simp only [hb,Bool.false_eq_true,if_false] at h'
    exact .inr h'
theorem qf {env:Env} {x:Str}:∀ {l:List (Str×NameKind)} {cs:List (Str×Addr)},(cs.lookup x).isSome=true->((jb env l cs).lookup x).isSome=true
 | [],cs,h=>h
 | (n,k)::r,cs,h=>by
  show ((jb env r _).lookup x).isSome=true
  refine qf (l:=r) ?_
  by_cases hk:(k == NameKind.free)=true
  ·rw [if_pos hk,List.lookup_cons]
   cases hx:x == n with
   | true=>rfl
   | false=>exact h
  ·rw [if_neg hk];exact h
theorem n8 {env:Env} {x:Str}:∀ {l:List (Str×NameKind)} {cs:List (Str×Addr)},(x,NameKind.free)∈l->((jb env l cs).lookup x).isSome=true
 | [],_,h=>nomatch h
 | (n,k)::r,cs,h=>by
  rcases List.mem_cons.mp h with e | h
  ·cases e
   show ((jb env r _).lookup x).isSome=true
   refine qf (l:=r) ?_
   rw [if_pos (by rfl),List.lookup_cons]
   simp
  ·exact n8 (l:=r) h
noncomputable def bQ (X:Cx) (scope:Scope) (N:List Str) (C:Addr) (s₀:Shared) (H₀:Hp) (ex:List Addr):Cx where
 prog:=X.prog
 w:=X.w
 K:=X.K
 mg:=X.mg
 base:=X.base
 A:=X.A
 N:=N
 s₀:=s₀
 H₀:=H₀
 env:=compEnvC scope (jb X.env scope.names []) C X.env
 outer:=X.stack
 stack:=X.stack
 ex:=ex
 fn:=fun _=>false
 calm:=X.calm
 pn:=[]
 xe:=fun _ _=>False
structure CpScope (X:Cx) (scope:Scope) (N:List Str) (cap:List (Option Nat)):Prop where
 kind:scope.kind=.function
 nocell:∀ y∈scope.names,y.2≠.cell
 nm:∀ y∈scope.names,y.2=.local->scope.names.lookup y.1=some .local
 fr:∀ y∈scope.names,y.2=.free->X.env.kindOf y.1=some .cell\/X.env.kindOf y.1=some .free
 rl:∀ y,((relabel scope X.env).names.lookup y=some .cell\/(relabel scope X.env).names.lookup y=some .free)->(y,NameKind.free)∈scope.names
 len:cap.length=N.length
 nolf:∀ x,(x,NameKind.free)∈scope.names->scope.names.lookup x≠some .local
 cp:∀ (i j:Nat) (x:Str),N[i]?=some x->cap[i]?=some (some j)->X.N[j]?=some x/\(x,NameKind.free)∈scope.names
theorem uY {X:Cx} {scope:Scope} {N:List Str} {cap:List (Option Nat)} {pins:List (Addr×Obj)} {σ:St} {H:Hp} {s:Shared} {fp:List Addr} {h₁:Heap} {m:Str->Option Value} {tk:Nat} (S:CpScope X scope N cap) (I:Inv X pins σ H s)
  (hf:∀ b∈fp,iO X pins H b) (ho:∀ b∈fp,∃ o,s.heap.get? b=some o) (hn:h₁.Ns s.heap.objs.size m) (hk:∀ b o,s.heap.get? b=some o->h₁.get? b=some o) :
  Inv (bQ X scope N s.heap.objs.size s H fp) [] (cap.map (Gd σ)) H { s with heap:=h₁,toks:=tk }:=by
 have hfree:∀ y∈scope.names,y.2=.free->∃ c,X.env.cells.lookup y.1=some c:=fun y hy e=>I.ok.has _ (S.fr y hy e)
 have lk:∀ x c,(jb X.env scope.names []).lookup x=some c->X.env.cells.lookup x=some c:=fun x c e=>by
  rcases qm hfree e with z | z
  ·exact z
  ·cases z
 have lt:∀ b o,s.heap.get? b=some o->b≠s.heap.objs.size:=fun b o e=>Nat.ne_of_lt (Heap.lt_size e)
 refine ⟨⟨I.ok.mod,?_,I.ok.glob,I.ok.blt,Nat.le_refl _,?_,?_,?_,I.ok.hd,I.ok.frames,.inl rfl,?_,I.bs,Nat.le_trans I.ok.bsz I.sz,?_,?_,I.stack,I.wD⟩,rfl,I.bare,Un.kept hk,?_,?_,I.hok.fresh (Nat.le_refl _),?_,?_,I.hok.kept hk,?_⟩
 ·exact S.kind
 ·intro x y c e1 e2
  exact I.ok.inj x y c (lk x c e1) (lk y c e2)
 ·intro x e
  have hm:=S.rl x e
  have:=n8 (env:=X.env) (cs:=[]) hm
  exact Option.isSome_iff_exists.mp this
 ·intro x c e _
  exact absurd e (by simp [bQ])
 ·intro b hb
  obtain ⟨o,e⟩:=ho b hb
  refine ⟨lt b o e,fun x c e2=>(hf b hb).2.2.2.2.1 x c (lk x c e2)⟩
 ·intro b o e hb
  obtain ⟨_,_,_,h3,_⟩:=hf b hb
  rcases h3 with z | z
  ·exact I.ok.noex b o e z
  ·exact absurd (Nat.lt_of_lt_of_le (Heap.lt_size (I.ok.bs b o e).1) z) (Nat.lt_irrefl _)
 ·intro b hb hz
  obtain ⟨_,h1,h2,_⟩:=hf b hb
  rcases List.mem_cons.mp (I.vG b hz) with z | z
  ·exact h1 z
  ·exact h2 z
 ·refine ⟨m,hn,fun i x v e1 e2 e3=>?_⟩
  rw [List.getElem?_map] at e2
  cases hc:cap[i]? with
  | none=>rw [hc] at e2;cases e2
  | some oj=>
   rw [hc] at e2
   cases oj with
   | none=>cases e2
   | some j=>
    have e2':(σ[j]?).getD none=some v:=Option.some.inj e2
    obtain ⟨hj,hm⟩:=S.cp i j x e1 hc
    obtain ⟨m0,hn0,hl0⟩:=I.loc
    have hσ:σ[j]?=some (some v):=by
     cases h:σ[j]? with
     | none=>rw [h] at e2';cases e2'
     | some z=>rw [h,Option.getD_some] at e2';rw [e2']
    have hkd:=S.fr (x,.free) hm rfl
    have hv:Ku X.env.scope x:=.inr hkd
    obtain ⟨u,ru,lo⟩:=hl0 j x v hj hσ hv
    refine ⟨u,ru,?_⟩
    rcases lo with ⟨lo,_⟩ | ⟨_,c,ec,ic⟩
    ·rcases hkd with z | z <;> (rw [z] at lo;cases lo)
    ·have h2:=n8 (env:=X.env) (cs:=[]) hm
     obtain ⟨c',hc'⟩:=Option.isSome_iff_exists.mp h2
     have:c'=c:=Option.some.inj ((lk x c' hc').symm.trans ec)
     subst this
     refine .inr ⟨?_,c',hc',?_⟩
     ·rcases e3 with z | z | z
      ·exfalso
       have:(relabel scope X.env).names.lookup x=some .local:=z
       have hloc:scope.names.lookup x=some .local:=by
        have hmem:∃ k,(x,k)∈(relabel scope X.env).names/\k=.local:=by
         clear hc' h2
         have:=oh this
         exact ⟨_,this,rfl⟩
        obtain ⟨k,hk1,rfl⟩:=hmem
        obtain ⟨⟨n',k'⟩,hm1,hm2⟩:=List.mem_map.mp hk1
        dsimp only at hm2
        split at hm2
        ·cases hm2
        ·cases hm2
         exact S.nm (x,.local) hm1 rfl
       exact False.elim (S.nolf x hm hloc)
      ·exact .inl z
      ·exact .inr z
     ·obtain ⟨o,ho',hd⟩:=ic
      exact ⟨o,hk _ _ ho',hd⟩
 ·intro x c e
  obtain ⟨v,o,ho',hd⟩:=I.cell x c (lk x c e)
  exact ⟨v,o,hk _ _ ho',hd⟩
 ·intro x c e
  exact I.freeC x c (lk x c e)
 ·intro p hp
  cases hp
 ·rw [List.length_map,S.len]
  rfl
noncomputable def Eh (X:Cx) (ifs:List Expr) (t:TT):Prop:=
 ∀ (pins:List (Addr×Obj)) (s:Shared) (σ:St) (H:Hp) (Q:Bool->Hp->Prop),Inv X pins σ H s->t σ H Q ->
  wpAny (model X.prog X.w) X.A (forIn ifs true fun c r=>if r=true then do let ok <- isTrue c X.env (eval c X.env);pure (ForInStep.yield ok) else pure (ForInStep.yield r)) (TP X pins σ Q) X.xe s
noncomputable def M0:TT:=fun _ H Q=>Q true H
theorem Ep {X:Cx}:Eh X [] M0:=fun _ _ _ H _ I h=>wpAny_tests_nil ⟨H,I,h⟩
theorem Ek {X:Cx} {c:Expr} {t:TT} (h:PT X c t):Eh X [c] t:=fun pins s σ H Q I q=>wpAny_tests_one (h pins s σ H Q I q)
noncomputable def JX (cap:List (Option Nat)) (g:TG) (tc:TT) (te:TE) (σ:St) (Q:VK) (J:It) (H1:Hp):Prop:=∀ D,H1 D=none ->
 ∃ W:Nat->Nat->St->Hp->Prop,(∃ m,W 0 m (cap.map (Gd σ)) (upd H1 D (.lst [])))/\∀ i m σ' H',W i m σ' H' ->
  (J.stop i H'/\Q (.ref D) H')\/(J.go i H'/\∀ x H2,J.yld i H' x H2->g x σ' H2 fun σ3 H3=>tc σ3 H3 fun b H4=>
   if b=true then te σ3 H4 fun y H5=>∃ ys,H5 D=some (.lst ys)/\ys.length < sizeLine/\∃ m',m' < m/\W (i+1) m' σ3 (upd H5 D (.lst (ys++[y])))
   else ∃ m',m' < m/\W (i+1) m' σ3 H4)
noncomputable def Lb (cap:List (Option Nat)) (wi:TI) (g:TG) (tc:TT) (te:TE):TE:=fun σ H Q=>wi σ H (JX cap g tc te σ Q)
theorem lX {α:Type} {t:Sem α} {Q Q':α->Shared->Prop} {M:Model} {A:Around} {E:Value->Shared->Prop} {s:Shared} (h:wpAny M A t Q (fun _ _=>False) s) (hQ:∀ a s,Q a s->Q' a s):wpAny M A t Q' E s:=
 wpAny_mono h hQ fun _ _ f=>f.elim
structure TurnG (ok:Cx->Prop) (P:Program) (w:World) (K:PySem.W.Frag) (tg:Expr) (J:It) (fp:List Addr) (it:Addr) (tn:Nat->Heap->Prop):Prop where
 obj:∀ i h,tn i h->∀ b∈fp,∃ o,h.get? b=some o/\∀ v,o.data≠.cell v
 keep:∀ i h h',tn i h->(∀ b∈fp,∀ o,h.get? b=some o->h'.get? b=some o)->tn i h'
 item:∀ (X:Cx),X.prog=P->X.w=w->X.K=K->ok X->∀ (i:Nat) (pins:List (Addr×Obj)) (s:Shared) (σ:St) (H:Hp) (E:Value->Shared->Prop),Inv X pins σ H s->(∀ b∈fp,iO X pins H b)->tn i s.heap->J.go i H ->
  wpAny (model P w) X.A (pyNext (.ref it)) (fun r s1=>∃ u,r=some u /\
   wpAny (model P w) X.A (letOwnedTupleGo tg (.ref it) u) (fun _ s2=>∃ x H',Inv X pins σ H' s2/\RelV x u/\J.yld i H x H'/\tn (i+1) s2.heap/\∀ b∈fp,H' b=none) E s1) E s
 done:∀ (X:Cx),X.prog=P->X.w=w->X.K=K->ok X->∀ (i:Nat) (pins:List (Addr×Obj)) (s:Shared) (σ:St) (H:Hp) (E:Value->Shared->Prop),Inv X pins σ H s->(∀ b∈fp,iO X pins H b)->tn i s.heap->J.stop i H ->
  wpAny (model P w) X.A (pyNext (.ref it)) (fun r s1=>r=none/\Inv X pins σ H s1) E s
 self:∀ (A:Around) (i:Nat) (s:Shared) (Q:Value->Shared->Prop) (E:Value->Shared->Prop),tn i s.heap->Q (.ref it) s->wpAny (model P w) A (pyIter (.ref it)) Q E s
noncomputable def MP (ok:Cx->Prop) (X:Cx) (pins:List (Addr×Obj)) (σ:St) (tg:Expr) (R:It->Hp->Prop) (itv:Value) (s2:Shared):Prop:=
 ∃ (it:Addr) (fp:List Addr) (tn:Nat->Heap->Prop) (J:It) (H':Hp),itv=.ref it/\Inv X pins σ H' s2/\TurnG ok X.prog X.w X.K tg J fp it tn/\tn 0 s2.heap/\(∀ b∈fp,iO X pins H' b)/\R J H'
noncomputable def NT (ok:Cx->Prop) (X:Cx) (tg iter:Expr) (wi:TI):Prop:=
 ∀ (pins:List (Addr×Obj)) (s:Shared) (σ:St) (H:Hp) (R:It->Hp->Prop),Inv X pins σ H s->wi σ H R ->
  wpAny (model X.prog X.w) X.A (eval iter X.env) (fun v s1=>wpAny (model X.prog X.w) X.A (pyIter v) (MP ok X pins σ tg R) X.xe s1) X.xe s
theorem PI.g {X:Cx} {tg iter:Expr} {wi:TI} (h:PI X tg iter wi):NT (fun Y=>Y.calm=true) X tg iter wi:=fun pins s σ H R I q=>
 bY (h pins s σ H R I q) fun v s1 h1=>bY h1 fun itv s2 ⟨it,fp,tn,J,H',e,I',T,a,b,c⟩=>⟨it,fp,tn,J,H',e,I',⟨T.obj,T.keep,T.item,T.done,T.self⟩,a,b,c⟩
theorem Jb {ok:Cx->Prop} {X:Cx} {tg iter elt:Expr} {ifs:List Expr} {scope:Scope} {pos:Pos} {N:List Str} {cap:List (Option Nat)} {wi:TI} {g:TG} {tc:TT} {te:TE} (S:CpScope X scope N cap) (hok:∀ C s₀ H₀ ex,(∀ a o u,X.H₀ a=some (.frz o u)->H₀ a=some (.frz o u))->ok (bQ X scope N C s₀ H₀ ex)) (hi:NT ok X tg iter wi)
  (hg:∀ C s₀ H₀ ex,PG (bQ X scope N C s₀ H₀ ex) tg g) (ht:∀ C s₀ H₀ ex,Eh (bQ X scope N C s₀ H₀ ex) ifs tc) (he:∀ C s₀ H₀ ex,PE (bQ X scope N C s₀ H₀ ex) elt te)
  (hs:∀ x,foldedSetIterable iter X.env x=pure x:=by intro _;rfl):PE X (.ListComp elt [⟨tg,iter,ifs,0⟩] scope pos) (Lb cap wi g tc te):=by
 intro pins s σ H Q I h
 have hfree:∀ y∈scope.names,y.2=.free->∃ c,X.env.cells.lookup y.1=some c:=fun y hy e=>I.ok.has _ (S.fr y hy e)
 rw [eval_ListComp]
 refine wpAny_comprehension_free (use:=none) rfl hs (kr hfree) S.kind S.nm (bY (hi pins s σ H _ I h) fun xv s1 h1=>bY h1 fun itv s2 h2=>?_)
 obtain ⟨it,fp,tn,J,H2,rfl,I2,T,st2,f2,h2⟩:=h2
 refine wpAny_newObj_type (wpAny_newFunctionEnv S.nocell (by intro y hy;simp at hy) (fun h₁ hns₁ hsb₁=>?_) S.kind)
 obtain ⟨W,⟨m0,w0⟩,turn⟩:=h2 s2.heap.objs.size I2.fresh
 dsimp only at hns₁ hsb₁ ⊢
 have I3:Inv X pins σ (upd H2 s2.heap.objs.size (.lst [])) { s2 with heap:=s2.heap.push { cls:=.type "list",data:=.seq ([]:List Value).toArray } }:=I2.zH (t':=s2.toks) (its:=[]) .nil (Nat.zero_le _)
 have hfp:∀ b∈fp,∃ o,s2.heap.get? b=some o:=fun b hb=>by
  obtain ⟨o,e,_⟩:=T.obj 0 _ st2 b hb
  exact ⟨o,e⟩
 have neD:∀ b∈fp,b≠s2.heap.objs.size:=fun b hb=>by
  obtain ⟨o,e⟩:=hfp b hb
  exact Nat.ne_of_lt (Heap.lt_size e)
 have f3:∀ b∈fp,iO X pins (upd H2 s2.heap.objs.size (.lst [])) b:=fun b hb=>⟨by rw [aN (neD b hb)];exact (f2 b hb).1,(f2 b hb).2⟩
 have hDC:s2.heap.objs.size≠(s2.heap.push { cls:=.type "list",data:=.seq ([]:List Value).toArray }).objs.size:=by rw [Heap.size_push];exact Nat.ne_of_lt (Nat.lt_succ_self _)
 have old:∀ b o,(s2.heap.push { cls:=.type "list",data:=.seq ([]:List Value).toArray }).get? b=some o->h₁.get? b=some o:=fun b o e=>hsb₁.extBut b o (Nat.ne_of_lt (Heap.lt_size e)) (Heap.get?_push_of_some _ e)
 have I4:=uY (tk:=s2.toks+([]:List (Str×Value)).length) (fp:=fp) S I3 f3 (fun b hb=>by
  obtain ⟨o,e⟩:=hfp b hb
  exact ⟨o,Heap.get?_push_of_some _ e⟩) hns₁ old
 have st4:tn 0 h₁:=T.keep _ _ _ st2 fun b hb o e=>old b o (Heap.get?_push_of_some _ e)
 have hc:=hok (s2.heap.push { cls:=.type "list",data:=.seq ([]:List Value).toArray }).objs.size { s2 with heap:=s2.heap.push { cls:=.type "list",data:=.seq ([]:List Value).toArray } } (upd H2 s2.heap.objs.size (.lst [])) fp fun a o u e=>by
  have z:=I2.base.frzs a o u e
  rw [aN (fun q=>by rw [q,I2.fresh] at z;cases z)]
  exact z
 have stat:∀ {H':Hp},(∀ b∈fp,H' b=none)->∀ b∈fp,iO (bQ X scope N (s2.heap.push { cls:=.type "list",data:=.seq ([]:List Value).toArray }).objs.size { s2 with heap:=s2.heap.push { cls:=.type "list",data:=.seq ([]:List Value).toArray } } (upd H2 s2.heap.objs.size (.lst [])) fp) [] H' b:=fun hn b hb=>by
  have ok:=I4.ok
  refine ⟨hn b hb,(ok.exf b hb).1,ok.exfs b hb,.inl hb,fun x c e=>(ok.exf b hb).2 x c e,fun p hp=>nomatch hp⟩
 have loop:∀ s4:Shared,s4={ s2 with heap:=h₁,toks:=s2.toks+([]:List (Str×Value)).length } ->
   codeAny (model X.prog X.w) X.A (.compLoop (.ListComp elt [⟨tg,iter,ifs,0⟩] scope pos) 0 (.ref it) (.ref s2.heap.objs.size) (compEnvC scope (jb X.env scope.names []) (s2.heap.push { cls:=.type "list",data:=.seq ([]:List Value).toArray }).objs.size X.env))
    (compPost (model X.prog X.w) X.A X.xe none (EP X pins σ Q) (.ref s2.heap.objs.size) (s2.heap.push { cls:=.type "list",data:=.seq ([]:List Value).toArray }).objs.size) s4:=by
  rintro s4 rfl
  refine codeAny_loop rfl (fun n s'=>∃ i σ' H',Inv (bQ X scope N (s2.heap.push { cls:=.type "list",data:=.seq ([]:List Value).toArray }).objs.size { s2 with heap:=s2.heap.push { cls:=.type "list",data:=.seq ([]:List Value).toArray } } (upd H2 s2.heap.objs.size (.lst [])) fp) [] σ' H' s'/\tn i s'.heap/\(∀ b∈fp,H' b=none)/\W i n σ' H') (fun n s5 hI=>?_) m0 ⟨0,_,_,I4,st4,fun b hb=>(f3 b hb).1,w0⟩
  obtain ⟨i,σ5,H5,I5,st5,fr5,w5⟩:=hI
  show wpAny _ X.A ((compTurn (.ListComp elt [⟨tg,iter,ifs,0⟩] scope pos) 0 (.ref it) (.ref s2.heap.objs.size) (compEnvC scope (jb X.env scope.names []) (s2.heap.push { cls:=.type "list",data:=.seq ([]:List Value).toArray }).objs.size X.env)).onRaise (fun x=>do noteFrame x _;theTreesLotGoes x)) _ _ s5
  refine wpAny_noted ?_
  rw [compTurn_list]
  refine wpAny_bind (wpAny_standAt (wpAny_bind ?_))
  rcases turn i n σ5 H5 w5 with ⟨stop,q⟩ | ⟨go,step⟩
  ·refine bY (T.done (bQ X scope N (s2.heap.push { cls:=.type "list",data:=.seq ([]:List Value).toArray }).objs.size { s2 with heap:=s2.heap.push { cls:=.type "list",data:=.seq ([]:List Value).toArray } } (upd H2 s2.heap.objs.size (.lst [])) fp) rfl rfl rfl hc i [] s5 σ5 H5 _ I5 (stat fr5) st5 stop) fun r s6 ⟨hr,I6⟩=>?_
   subst hr
   obtain ⟨m6,hn6,_⟩:=I6.loc
   refine wpAny_pure ⟨m6,hn6,fun h' sb=>?_⟩
   have u6:=I6.base
   have nC:∀ b o,(s2.heap.push { cls:=.type "list",data:=.seq ([]:List Value).toArray }).get? b=some o->b≠(s2.heap.push { cls:=.type "list",data:=.seq ([]:List Value).toArray }).objs.size:=fun b o e=>Nat.ne_of_lt (Heap.lt_size e)
   refine ⟨.ref s2.heap.objs.size,H5,?_,rfl,q⟩
   refine I3.ze (ch:=fp) I6.os ⟨fun b o e n hb hx=>?_,fun b o e n hb hx=>?_,fun b o e n hx=>?_,fun b o e hx=>?_,u6.tups,u6.frzs,u6.tbls⟩ ?_ I6.bare ?_
   ·exact sb.extBut b o (nC b o e) (u6.keep b o e n hb hx)
   ·obtain ⟨sl,z⟩:=u6.slot b o e n hb hx
    exact ⟨sl,sb.extBut b _ (nC b o e) z⟩
   ·exact u6.free b o e n hx
   ·obtain ⟨o',z⟩:=u6.there b o e hx
    exact ⟨o',sb.extBut b _ (nC b o e) z⟩
   ·intro b o e
    have hb:∀ c v,H5 c=some v->c≠(s2.heap.push { cls:=.type "list",data:=.seq ([]:List Value).toArray }).objs.size:=fun c v e z=>by
     rw [z] at e
     have:=I6.free
     rw [show H5 (s2.heap.push { cls:=.type "list",data:=.seq ([]:List Value).toArray }).objs.size=none from this] at e
     cases e
    refine (I6.hok b o e).stay (fun c v hc q=>sb.extBut c v ?_ q) (fun _ q=>q) fun _ _ q=>q
    rcases hc with z | z
    ·rw [z];exact hb b o e
    ·exact hb c _ z
   ·intro b hb
    obtain ⟨_,z1,_,z3,z4,z5⟩:=f3 b hb
    exact ⟨z3,z1,z4,z5⟩
  ·refine bY (T.item (bQ X scope N (s2.heap.push { cls:=.type "list",data:=.seq ([]:List Value).toArray }).objs.size { s2 with heap:=s2.heap.push { cls:=.type "list",data:=.seq ([]:List Value).toArray } } (upd H2 s2.heap.objs.size (.lst [])) fp) rfl rfl rfl hc i [] s5 σ5 H5 _ I5 (stat fr5) st5 go) fun r s6 ⟨u,hr,h6⟩=>?_
   subst hr
   refine wpAny_bind (bY h6 fun _ s7 ⟨x,H7,I7,r7,y7,st7,fr7⟩=>?_)
   have I7':=I7.pinned (stat fr7) (T.obj _ _ st7)
   refine wpAny_bind (lX (hg _ _ _ fp _ s7 σ5 H7 x u _ I7' r7 (step x H7 y7)) fun _ s8 ⟨σ8,H8,I8,q8⟩=>?_)
   refine wpAny_bind (lX (ht _ _ _ fp _ s8 σ8 H8 _ I8 q8) fun ok s9 ⟨H9,I9,q9⟩=>?_)
   have again:∀ {s10:Shared} {H10:Hp},Inv (bQ X scope N (s2.heap.push { cls:=.type "list",data:=.seq ([]:List Value).toArray }).objs.size { s2 with heap:=s2.heap.push { cls:=.type "list",data:=.seq ([]:List Value).toArray } } (upd H2 s2.heap.objs.size (.lst [])) fp) ([]++jl fp s7.heap) σ8 H10 s10->(∃ m',m' < n/\W (i+1) m' σ8 H10) ->
     ∃ m,m < n/\∃ i σ' H',Inv (bQ X scope N (s2.heap.push { cls:=.type "list",data:=.seq ([]:List Value).toArray }).objs.size { s2 with heap:=s2.heap.push { cls:=.type "list",data:=.seq ([]:List Value).toArray } } (upd H2 s2.heap.objs.size (.lst [])) fp) [] σ' H' s10/\tn i s10.heap/\(∀ b∈fp,H' b=none)/\W i m σ' H':=fun {s10 H10} I10 ⟨m',hm,w10⟩=>by
    refine ⟨m',hm,i+1,σ8,H10,I10.fD,T.keep _ _ _ st7 fun b hb o e=>(I10.pin (b,o) (List.mem_append_right _ (List.mem_append_right _ (bV hb e)))).1,fun b hb=>?_,w10⟩
    obtain ⟨o,e,d⟩:=T.obj _ _ st7 b hb
    exact (I10.pin (b,o) (List.mem_append_right _ (List.mem_append_right _ (bV hb e)))).2.1
   cases ok with
   | false=>
    rw [if_neg Bool.false_ne_true] at q9
    exact wpAny_pure ⟨rfl,again I9 q9⟩
   | true=>
    rw [if_pos rfl] at q9
    refine wpAny_bind (wpAny_bind (lX (he _ _ _ fp _ s9 σ8 H9 _ I9 q9) fun y s10 ⟨v10,H10,I10,r10,ys,hD,hz,w10⟩=>?_))
    refine wpAny_bind (lX (jK _ s10 σ8 H10 (.ref s2.heap.objs.size) [v10] _ [y] (fun _ H'=>H'=upd H10 s2.heap.objs.size (.lst (ys++[v10]))) I10 rfl (.cons r10 .nil) ⟨_,ys,v10,rfl,rfl,hD,hz,rfl⟩) fun _ s11 ⟨_,H11,I11,_,e11⟩=>?_)
    subst e11
    exact wpAny_pure (wpAny_pure ⟨rfl,again I11 w10⟩)
 exact codeAny_compStart_list (loop _ rfl) (T.self _ 0 _ _ _ st4 (loop _ rfl))
theorem LA {X:Cx} {tg iter elt:Expr} {ifs:List Expr} {scope:Scope} {pos:Pos} {N:List Str} {cap:List (Option Nat)} {wi:TI} {g:TG} {tc:TT} {te:TE} (hc:X.calm=true) (S:CpScope X scope N cap) (hi:PI X tg iter wi)
  (hg:∀ C s₀ H₀ ex,PG (bQ X scope N C s₀ H₀ ex) tg g) (ht:∀ C s₀ H₀ ex,Eh (bQ X scope N C s₀ H₀ ex) ifs tc) (he:∀ C s₀ H₀ ex,PE (bQ X scope N C s₀ H₀ ex) elt te)
  (hs:∀ x,foldedSetIterable iter X.env x=pure x:=by intro _;rfl):PE X (.ListComp elt [⟨tg,iter,ifs,0⟩] scope pos) (Lb cap wi g tc te):=
 Jb S (fun _ _ _ _ _=>hc) hi.g hg ht he hs
section
variable {X:Cx}
theorem AX {bs:List Bool}:∀ {us:List Value},Vals (bs.map V.bl) us->LSm.BoolsAre us bs:=by
 induction bs with
 | nil=>intro us r;cases r;exact .nil
 | cons b bs ih=>
  intro us r
  cases r with
  | cons h t=>
   have e:_=Value.bool b:=h
   subst e
   exact .cons b (ih t)
theorem zm (hc:X.calm=true):bw X (.builtin "any") (fun xs H Q=>∃ (p:Addr) (bs:List Bool),xs=[.ref p]/\fY X.K H p (bs.map V.bl)/\Q (.bl (bs.any id)) H):=by
 intro pins s σ H xs us Q I r h
 obtain ⟨p,bs,rfl,hq,q⟩:=h
 obtain ⟨u,rfl,rx⟩:=vals1 r
 cases rx
 obtain ⟨its,rv,pl,hz⟩:=I.list hq
 have hb:=AX rv
 have hl:=pl.isList
 have hlt:p < s.heap.objs.size:=by obtain ⟨_,e,_⟩:=hl;exact Heap.lt_size e
 refine call_any_walk (wpAny_pyIter_list hl ?_)
 refine ⟨s.heap.objs.size,[s.heap.objs.size,p],[s.heap.objs.size],its.toArray.size,_,_,fun i=>(bs[i]?).getD false,rfl,Walks.list (A:=X.A.in1) (I.ok.hd hc) _ p (Nat.ne_of_lt hlt) its.toArray,
  ⟨⟨_,Heap.get?_push_size _ rfl,rfl,rfl⟩,hl.push _⟩,fun i v s' Q' E' hP hQ=>?_,fun h' tk hk=>?_⟩
 ·obtain ⟨b,e,rfl⟩:=hb.get i v (by simpa using hP)
  simp only [e,Option.getD_some] at hQ
  exact wpAny_truthy_bool hQ
 ·have e:((List.range its.toArray.size).any fun i=>(bs[i]?).getD false)=bs.any id:=by
   rw [List.size_toArray,hb.length];exact LSm.range_any bs
  rw [e]
  exact ⟨.bl _,H,I.kept (LSm.kept_iter hk),rfl,q⟩
theorem qL:bw X (.builtin "sorted") (fun xs H Q=>∃ (p:Addr) (ns:List Int),xs=[.ref p]/\(fY X.K H p (ns.map V.int)\/dF X.K H p (ns.map V.int))/\ns.length < 64 /\
  ∀ l (ns':List Int),H l=none->ns'.Perm ns->ns'.Pairwise (·<=·)->Q (.ref l) (upd H l (.lst (ns'.map V.int)))):=by
 intro pins s σ H xs us Q I r h
 obtain ⟨p,ns,rfl,hq,h64,q⟩:=h
 obtain ⟨u,rfl,rx⟩:=vals1 r
 cases rx
 have go:∀ (its:List Value) (T:String) (o:Obj) (n:Nat),(T = "list" \/ T = "tuple")->s.heap.get? p=some o->o.cls=.type T->o.data=.seq its.toArray n->Vals (ns.map V.int) its ->
   wpAny (model X.prog X.w) X.A (call (.builtin "sorted") [.ref p]) (EP X pins σ Q) X.xe s:=by
  intro its T o n hT ho hcl hd rv
  have hI:=intsAre_of rv
  have hlen:its.length=ns.length:=by have:=rv.length;rw [List.length_map] at this;exact this.symm
  refine Calls.call_function_entry kind_sorted plain_sorted entry_sorted (args_sorted1 _) ?_
  unfold Builtin.«sorted»
  refine wpAny_bind (m:=checkCount "sorted" 1 1 _) (wpAny_pure ?_)
  refine wpAny_bind (wpAny_collect_seq p hT ho hcl hd (fun h' hk=>?_) (by rw [List.size_toArray,hlen,sizeLine_eq];omega))
  refine wpAny_bind (wpAny_newList ?_)
  have hoL:(h'.push (seqObj "list" its.toArray 0)).get? h'.objs.size=some (seqObj "list" its.toArray 0):=Heap.get?_push_size _ rfl
  show wpAny _ _ _ _ _ { s with heap:=h'.push (seqObj "list" its.toArray 0) }
  refine wpAny_bind (wpAny_holding (wpAny_call_entry slot_list_sort ⟨_,hoL,rfl⟩ entry_list_sort (list_sort_tree hoL hI (by omega) fun out ns' a1 a2 a3=>⟨_,rfl,?_⟩) (args_list_sort _)))
  obtain ⟨e,he⟩:=sortedHeap_at (out:=out) hoL
  have hl':ns'.length=ns.length:=a2.length_eq
  have I1:Inv X pins σ H { s with heap:=h' }:=I.kept (t':=s.toks) hk
  have old:∀ b ob,h'.get? b=some ob->(sortedHeap (h'.push (seqObj "list" its.toArray 0)) h'.objs.size its out).get? b=some ob:=fun b ob eb=>by
   rw [sortedHeap_old (Nat.ne_of_lt (Heap.lt_size eb)) (by rw [Heap.size_push];exact Nat.lt_succ_of_lt (Heap.lt_size eb))]
   exact Heap.get?_push_of_some _ eb
  refine wpAny_pure ⟨_,rfl,.ref h'.objs.size,_,I1.laid (t':=s.toks) (o:=.lst (ns'.map V.int)) old (Nat.le_refl _) ?_,rfl,q _ ns' (I1.hok.fresh (Nat.le_refl _)) a2 a3⟩
  refine ⟨by rw [List.length_map,hl',sizeLine_eq];omega,out.toList,e,mh a1,?_⟩
  rw [he]
 rcases hq with hq | hq
 ·obtain ⟨its,rv,pl,hz⟩:=I.list hq
  obtain ⟨o,ho,hcl,n,hd⟩:=pl.isList
  exact go its "list" o n (.inl rfl) ho hcl hd rv
 ·obtain ⟨its,rv,pl,hz⟩:=I.tuple hq
  obtain ⟨o,ho,hcl,n,hd⟩:=pl
  exact go its "tuple" o n (.inr rfl) ho hcl hd rv
theorem HN:eU X (compareOp .Is) (fun x y H Q=>∃ a b,x=.bl a/\y=.bl b/\Q (.bl (a == b)) H):=by
 intro pins s σ H x y v u Q I rx ry h
 obtain ⟨a,b,rfl,rfl,q⟩:=h
 cases rx;cases ry
 exact is_bool ⟨.bl _,H,I,rfl,q⟩
theorem qJ:bw X (.type "range") (fun xs H Q=>∃ i j,xs=[.int i,.int j]/\∀ p,H p=none->Q (.ref p) (upd H p (.rng i j))):=by
 intro pins s σ H xs us Q I r h
 obtain ⟨i,j,rfl,q⟩:=h
 obtain ⟨u,w',rfl,⟨t,rfl⟩,⟨t',rfl⟩⟩:=vals2 r
 refine call_range_2 ⟨.ref s.heap.objs.size,_,I.laid (o:=.rng i j) (fun b o e=>Heap.get?_push_of_some _ e) (Nat.le_refl _) ?_,rfl,q _ I.fresh⟩
 exact ⟨t,t',s.toks,Heap.get?_push_size _ rfl⟩
noncomputable def aX (i j:Int):List Int:=(List.range (j - i).toNat).map fun k:Nat=>i+(k:Int)
theorem bU (i j:Int):(aX i j).length=(j - i).toNat:=by unfold aX;rw [List.length_map,List.length_range]
theorem pD {i:Int} {n:Nat} {acc:Array Value} (h:ItemsOf (fun k v=>∃ t,v=Value.int (i+(k:Int) * 1) t) acc n):Vals (((List.range n).map fun k:Nat=>i+(k:Int)).map V.int) acc.toList:=by
 obtain ⟨hs,hv⟩:=h
 have gen:∀ (l:List Value) (b:Nat),(∀ j v,l[j]?=some v->∃ t,v=Value.int (i+((b+j:Nat):Int)) t)->Vals (((List.range' b l.length).map fun k:Nat=>i+(k:Int)).map V.int) l:=by
  intro l
  induction l with
  | nil=>intro b _;exact .nil
  | cons v l ih=>
   intro b hb
   rw [List.length_cons,List.range'_succ,List.map_cons,List.map_cons]
   refine .cons ?_ ?_
   ·obtain ⟨t,e⟩:=hb 0 v rfl
    exact ⟨t,by rw [e];simp⟩
   ·refine ih (b+1) fun j w hw=>?_
    obtain ⟨t,e⟩:=hb (j+1) w hw
    exact ⟨t,by rw [e,show b+(j+1)=b+1+j by omega]⟩
 have:=gen acc.toList 0 fun j v hj=>by
  obtain ⟨t,e⟩:=hv j v (by simpa using hj)
  exact ⟨t,by rw [e,Nat.zero_add,Int.mul_one]⟩
 rw [Array.length_toList,hs,<- List.range_eq_range'] at this
 exact this
theorem BF {i j:Int}:Builtin.Range.rangeSize i j 1=(((j - i).toNat:Nat):Int):=by rw [rangeSize_one];split <;> omega
theorem pR (hc:X.calm=true):bw X (.type "list") (fun xs H Q=>∃ p i j,xs=[.ref p]/\H p=some (.rng i j)/\(-(2 ^ 62)<=i/\i < 2 ^ 62/\-(2 ^ 62)<=j/\j < 2 ^ 62)/\(j - i).toNat<=1000/\∀ l,H l=none->Q (.ref l) (upd H l (.lst ((aX i j).map V.int)))):=by
 intro pins s σ H xs us Q I r h
 obtain ⟨p,i,j,rfl,hp,⟨b1,b2,b3,b4⟩,hn,q⟩:=h
 obtain ⟨u,rfl,rx⟩:=vals1 r
 cases rx
 obtain ⟨t,u',v,e⟩:=I.hok p _ hp
 refine call_list_range (n:=(j - i).toNat) (I.ok.hd hc) e (small_one b1 b2 b3 b4) BF (by omega) fun h' tk acc' c' hk hS hacc=>?_
 refine ⟨.ref s.heap.objs.size,_,I.laid (o:=.lst ((aX i j).map V.int)) hk (Nat.le_refl _) ⟨?_,acc'.toList,c',pD hacc,by rw [hS]⟩,rfl,q _ I.fresh⟩
 rw [List.length_map,bU,sizeLine_eq];omega
end
section
variable {X:Cx}
theorem ud {prog:Program} {w:World} {A:Around} {E:Value->Shared->Prop} {s:Shared} {Q:List Value->Shared->Prop} {r:Addr} {a b c:Int} {t u v:Tok} {n:Nat} (hh:A.handled=none) (hr:IsRange s.heap r a b c t u v) (hsmall:Builtin.Range.small a b c=true)
  (hn:Builtin.Range.rangeSize a b c=n) (hlen:n<=2 ^ 24)
  (hQ:∀ h' tk (acc':Array Value),(∀ b o,s.heap.get? b=some o->h'.get? b=some o)->ItemsOf (fun i v=>∃ t,v=.int (a+i * c) t) acc' n->Q acc'.toList { s with heap:=h',toks:=tk }) :
  wpAny (model prog w) A (collect (.ref r)) Q E s:=by
 unfold collect
 refine wpAny_bind (wpAny_runValue (codeAny_builtin F.entry_proto_collect ?_))
 rw [Around.under_plainId F.plain_proto_collect _]
 show wpAny _ A.in1 (newList [] >>= fun l=>again (.builtin "list.__iadd__" ⟨[l,.ref r],[]⟩)) _ _ s
 refine wpAny_bind (wpAny_newObj_type ?_)
 refine wpAny_pure ⟨plainId_quiet F.plain_list_iadd _,codeAny_builtin F.entry_list_iadd ?_⟩
 rw [Around.under_plainId F.plain_list_iadd _]
 show wpAny _ A.in1 (Builtin.List.listExtendWith (.ref s.heap.objs.size) (.ref r) (.ref s.heap.objs.size)) _ _ _
 have hS:(s.heap.push { cls:=.type "list",data:=.seq ([]:List Value).toArray }).get? s.heap.objs.size=some { cls:=.type "list",data:=.seq #[] 0 }:=Heap.get?_push_size _ rfl
 have fin':∀ (h':Heap) (tk:Nat) (acc':Array Value) (c':Nat),(∀ b o,b≠s.heap.objs.size->(s.heap.push { cls:=.type "list",data:=.seq ([]:List Value).toArray }).get? b=some o->h'.get? b=some o) ->
   h'.get? s.heap.objs.size=some { cls:=.type "list",dict:=none,data:=.seq acc' c',slots:=#[] }->ItemsOf (fun i v=>∃ t,v=.int (a+i * c) t) acc' n ->
   wpAny (model prog w) A (match Value.ref s.heap.objs.size with
   | Value.ref a=>do
    match (<- load a).data with
     | Data.seq xs _=>pure xs.toList
     | _=>unsupported "internal:collect"
   | _=>unsupported "internal:collect") Q E { s with heap:=h',toks:=tk }:=by
  intro h' tk acc' c' hk hS' hacc
  show wpAny _ A (load s.heap.objs.size >>= _) _ _ _
  refine wpAny_bind (wpAny_load hS' ?_)
  refine wpAny_pure ?_
  exact hQ h' tk acc' (fun b o e=>hk b o (Nat.ne_of_lt (Heap.lt_size e)) (Heap.get?_push_of_some _ e)) hacc
 refine wpAny_mono (wpAny_extend_range (A:=A) (R:=fun rr s'=>rr=.ok (.ret (.ref s.heap.objs.size))/\∃ h' tk acc' c',s'={ s with heap:=h',toks:=tk }/\(∀ b o,b≠s.heap.objs.size->(s.heap.push { cls:=.type "list",data:=.seq ([]:List Value).toArray }).get? b=some o->h'.get? b=some o) /\
   h'.get? s.heap.objs.size=some { cls:=.type "list",dict:=none,data:=.seq acc' c',slots:=#[] }/\ItemsOf (fun i v=>∃ t,v=.int (a+i * c) t) acc' n)
  (s:={ s with heap:=s.heap.push { cls:=.type "list",data:=.seq ([]:List Value).toArray } }) hh (Heap.get?_push_of_some _ hr) hsmall hn hlen s.heap.objs.size (.ref s.heap.objs.size) 0 hS
  (fun h' tk acc' c' hk hS' hacc=>⟨rfl,h',tk,acc',c',rfl,hk,hS',hacc⟩)) (fun fin s' h=>?_) (fun e s' h=>?_)
 ·cases fin with
  | done f=>
   obtain ⟨e,h',tk,acc',c',rfl,hk,hS',hacc⟩:=h
   cases e
   exact fin' h' tk acc' c' hk hS' hacc
  | again c'=>exact ⟨h.1,codeAny_mono h.2 fun r s'' hr=>by
    obtain ⟨rfl,h',tk,acc',c',rfl,hk,hS',hacc⟩:=hr
    exact fin' h' tk acc' c' hk hS' hacc⟩
 ·exact absurd h.1 (by simp)
theorem jT (l:Addr) {a b:Int} {t u v:Tok} {n:Nat} (hsmall:Builtin.Range.small a b 1=true)
  (hn:Builtin.Range.rangeSize a b 1=n) (hlen:n<=1000) :
  Meets (Builtin.«tuple.__new__» ⟨[.type "tuple",.ref l],[]⟩)
   (fun A R s=>A.handled=none/\IsRange s.heap l a b 1 t u v/\∀ (h':Heap) (tk:Nat) (acc':Array Value),(∀ b o',s.heap.get? b=some o'->h'.get? b=some o')->ItemsOf (fun i v=>∃ t,v=.int (a+i * 1) t) acc' n->R (.ok (.ret (.ref h'.objs.size))) { s with heap:=h'.push { cls:=.type "tuple",data:=.seq acc' },toks:=tk }):=
 .of_wp fun prog w A R s h=>by
  obtain ⟨hp,g,d,tk,os⟩:=s
  obtain ⟨hh,ht,h⟩:=h
  have hsub:=sub_tuple_self
  have hinit:=init_tuple_lookup
  have hmh:=madeHere_tuple
  have hT:Shared.TypeIs ⟨hp,g,d,tk,os⟩ (.ref l) "range" := ⟨_,ht,rfl⟩
  have hh':A.in1.handled=none:=hh
  wp_walk using AutoSeq1.wpAny_loadPart' ht,wpAny_typeOf hT,ud (A:=A.in1) hh' ht hsmall hn (by omega)
  intro h' tk' acc' hk hacc
  show wpAny _ _ (Builtin.Tuple.tupleExact acc'.toList.toArray >>= fun v=>ret v) _ _ _
  unfold Builtin.Tuple.tupleExact
  have e:acc'.toList.toArray=acc':=by simp
  refine wpAny_bind (wpAny_newObj_type ?_ (by show acc'.toList.toArray.size<=sizeLine;rw [e,hacc.1,sizeLine_eq];omega))
  refine wpAny_pure ⟨_,rfl,?_⟩
  rw [e]
  exact h h' tk' acc' hk hacc
theorem nS (hc:X.calm=true):bw X (.type "tuple") (fun xs H Q=>∃ p i j,xs=[.ref p]/\H p=some (.rng i j)/\(-(2 ^ 62)<=i/\i < 2 ^ 62/\-(2 ^ 62)<=j/\j < 2 ^ 62)/\(j - i).toNat<=1000/\∀ l,H l=none->Q (.ref l) (upd H l (.tup ((aX i j).map V.int)))):=by
 intro pins s σ H xs us Q I r h
 obtain ⟨p,i,j,rfl,hp,⟨b1,b2,b3,b4⟩,hn,q⟩:=h
 obtain ⟨u,rfl,rx⟩:=vals1 r
 cases rx
 obtain ⟨t,u',v,e⟩:=I.hok p _ hp
 refine callType_new F.called_tuple (by decide) (F.typeCall_tuple_1 _) (F.newCall_tuple_1 _) (fun obj=>F.args_object_init_2 obj _) F.entry_tuple_new
  (jT (n:=(j - i).toNat) p (small_one b1 b2 b3 b4) BF hn) ⟨I.ok.hd hc,e,fun h' tk acc' hk hacc=>⟨⟨_,Heap.get?_push_size _ rfl,rfl⟩,?_⟩⟩
 have I1:Inv X pins σ H { s with heap:=h',toks:=tk }:=I.kept hk
 refine ⟨.ref h'.objs.size,_,I1.laid (t':=tk) (o:=.tup ((aX i j).map V.int)) (fun b o e=>Heap.get?_push_of_some _ e) (Nat.le_refl _) ⟨?_,acc'.toList,pD hacc,?_⟩,rfl,q _ (I1.hok.fresh (Nat.le_refl _))⟩
 ·rw [List.length_map,bU,sizeLine_eq];omega
 ·have e:acc'.toList.toArray=acc':=by simp
  rw [e]
  exact e_.new _ _
noncomputable def Np (K:PySem.W.Frag) (te:TE):TE:=fun σ H Q=>te σ H fun x H1=>∃ a xs,x=.ref a/\fY K H1 a xs/\∀ p,H1 p=none->Q (.ref p) (upd H1 p (.lst xs.reverse))
theorem EB {e:Expr} {te:TE} {p2 pos up cp:Pos} {kk:Nat} (he:PE X e te):PE X (.Subscript e (.Slice none none (some (.UnaryOp .USub (.Constant (.int 1) kk cp) up)) p2) pos) (Np X.K te):=by
 intro pins s σ H Q I h
 refine Subscript_ (bY (he pins s σ H _ I h) fun v s1 ⟨x,H1,I1,r1,a,xs,ex,hq,q⟩=>?_)
 subst ex
 cases r1
 refine wpAny_Slice ?_
 rw [evalPart_none]
 refine wpAny_pure ?_
 refine wpAny_pure ?_
 rw [evalPart_some]
 refine bY ((G9 (a:=.Constant (.int 1) kk cp) DY vC) pins s1 σ H1 (fun v H'=>v=.int (-1)/\H'=H1) I1 ⟨1,rfl,rfl,rfl⟩) fun vs s3 ⟨y,H3,I3,r3,ey,eH⟩=>?_
 subst ey eH
 obtain ⟨t,rfl⟩:=r3
 have I4:Inv X pins σ H3 { s3 with heap:=s3.heap.push { cls:=.type "slice",data:=.fields #[.none,.none,.int (-1) t] } }:=I3.kept (t':=s3.toks) fun b ob q=>Heap.get?_push_of_some _ q
 obtain ⟨its,rv,pl,hz⟩:=I4.list hq
 show wpAny (model X.prog X.w) X.A (subscriptTail e (.Slice none none (some (.UnaryOp .USub (.Constant (.int 1) kk cp) up)) p2) (.ref a) (.ref s3.heap.objs.size)) (EP X pins σ Q) X.xe { s3 with heap:=s3.heap.push { cls:=.type "slice",data:=.fields #[.none,.none,.int (-1) t] } }
 refine tail_any (ops:=[.ref a,.ref s3.heap.objs.size]) pl.isList.typeIs slot_list_getitem.lookup ?_ (by with_unfolding_all rfl)
 have hlen:=rv.length
 refine wpAny_getItem_list_slice pl.isList (Heap.IsSliceOf.new ..) .none .none (.int (-1) t) (by decide) ?_ (by rw [List.size_toArray] <;> omega)
 rw [PySem.W.krv_pick]
 refine ⟨.ref _,_,I4.zH (t':=s3.toks) (ys:=xs.reverse) (its:=its.reverse) rv.reverse (by rw [List.length_reverse];exact hz),rfl,q _ I4.fresh⟩
theorem tB {c:String}:bw X (.builtin "isinstance") (fun xs H Q=>∃ x t b,xs=[x,.ty c]/\TyOf X.K H x t/\PySem.W.kitOne X.K t (.type c)=some b/\Q (.bl b) H):=by
 intro pins s σ H xs us Q I r h
 obtain ⟨x,t,b,rfl,ty,e,q⟩:=h
 obtain ⟨u,w',rfl,rx,rc⟩:=vals2 r
 cases rc
 exact z6 I rx ty e fun tk=>⟨.bl b,H,I.tok tk,rfl,q⟩
noncomputable def Iq (K:PySem.W.Frag):R2:=fun x y H Q=>∃ a b ys,x=.ref a/\y=.ref b/\dF K H a []/\dF K H b ys/\Q (.ref b) H
theorem BA:eU X (binaryOp .Add) (Iq X.K):=by
 intro pins s σ H x y v u Q I rx ry h
 obtain ⟨a,b,ys,rfl,rfl,h1,h2,q⟩:=h
 cases rx
 cases ry
 obtain ⟨us,r1,p1,_⟩:=I.tuple h1
 obtain ⟨ws,r2,p2,_⟩:=I.tuple h2
 cases r1
 obtain ⟨⟨cls,dd,data,sl⟩,ho,hc,n,hd⟩:=id p1
 obtain ⟨⟨cls2,dd2,data2,sl2⟩,ho2,hc2,n2,hd2⟩:=id p2
 simp only at hc hd hc2 hd2
 subst hc hd hc2 hd2
 exact concat_meets ⟨_,ho,rfl⟩ ⟨_,ho2,rfl⟩ noFill_tuple_add seq_tuple_add PySem.F.slot_tuple_add PySem.F.entry_tuple_add (PySem.F.args_tuple_add_2 _ _)
   (tuple_addW0 a b _ ws.toArray n n2 dd dd2 sl sl2 (by simp)) ⟨ho,ho2,⟨.ref b,H,I,rfl,q⟩⟩
end
theorem cE:bootBuiltins "len" = some (.builtin "len"):=by decide +kernel
theorem Jq:bootBuiltins "abs" = some (.builtin "abs"):=by decide +kernel
theorem CY:bootBuiltins "any" = some (.builtin "any"):=by decide +kernel
theorem vm:bootBuiltins "max" = some (.builtin "max"):=by decide +kernel
theorem Dk:bootBuiltins "min" = some (.builtin "min"):=by decide +kernel
theorem qt:bootBuiltins "sorted" = some (.builtin "sorted"):=by decide +kernel
theorem ie:bootBuiltins "isinstance" = some (.builtin "isinstance"):=by decide +kernel
theorem vV:bootBuiltins "int" = some (.type "int"):=by decide +kernel
theorem E1:bootBuiltins "bool" = some (.type "bool"):=by decide +kernel
theorem lG:bootBuiltins "list" = some (.type "list"):=by decide +kernel
theorem jx:bootBuiltins "tuple" = some (.type "tuple"):=by decide +kernel
theorem sE:bootBuiltins "range" = some (.type "range"):=by decide +kernel
structure Blt (mg:Str->Option Value):Prop where
 len:mg "len" = none
 abs:mg "abs" = none
 all:mg "all" = none
 any:mg "any" = none
 max:mg "max" = none
 min:mg "min" = none
 sorted:mg "sorted" = none
 isinstance:mg "isinstance" = none
 int:mg "int" = none
 bool:mg "bool" = none
 str:mg "str" = none
 list:mg "list" = none
 tuple:mg "tuple" = none
 range:mg "range" = none
section
variable {X:Cx}
end
theorem Fj:∀ {a b:List Int},a.Perm b->a.Pairwise (·<=·)->b.Pairwise (·<=·)->a=b:=fun p ha hb=>
 List.Perm.eq_of_pairwise (fun x y _ _ h1 h2=>Int.le_antisymm h1 h2) ha hb p
theorem F_ (i j:Int):(aX i j).Pairwise (·<=·):=by
 unfold aX
 rw [List.pairwise_map]
 exact List.pairwise_lt_range.imp fun h=>by omega
theorem iT (i j:Int):(aX i j).Nodup:=by
 unfold aX
 rw [List.Nodup,List.pairwise_map]
 exact List.pairwise_lt_range.imp fun h=>by omega
theorem fy {i j k:Int}:k∈aX i j ↔ i<=k/\k < j:=by
 unfold aX
 rw [List.mem_map]
 constructor
 ·rintro ⟨a,ha,rfl⟩
  have:=List.mem_range.mp ha
  omega
 ·rintro ⟨h1,h2⟩
  exact ⟨(k - i).toNat,List.mem_range.mpr (by omega),by omega⟩
theorem m8:∀ {l m:List Int},l.Nodup->(∀ x∈l,x∈m)->m.length<=l.length->l.Perm m
 | [],m,_,_,h=>by
  have:m=[]:=List.length_eq_zero_iff.mp (Nat.le_zero.mp h)
  rw [this]
 | a::l,m,nd,hs,hl=>by
  have ha:a∈m:=hs a List.mem_cons_self
  have nd':=List.nodup_cons.mp nd
  have pm:m.Perm (a::m.erase a):=List.perm_cons_erase ha
  have ih:=m8 (l:=l) (m:=m.erase a) nd'.2 (fun x hx=>by
   have hxa:x≠a:=fun e=>nd'.1 (e ▸ hx)
   exact (List.mem_erase_of_ne hxa).mpr (hs x (List.mem_cons_of_mem _ hx))) (by
   rw [List.length_erase_of_mem ha]
   simp only [List.length_cons] at hl
   omega)
  exact (List.Perm.cons a ih).trans pm.symm
noncomputable def Kn (P:Program) (w:World) (K:PySem.W.Frag) (mg:Str->Option Value) (base:Heap) (k:Nat) (x:Str) (ps:List Str) (sp:Sp):Prop:=
 ∃ (f:Addr) (fd:FuncData),FnOk P w K mg base jL k f fd ps sp/\mg x=some (.ref f)/\PySem.W.keepIn K (.ref f)=true/\Binds K fd ps []
theorem L1 {X:Cx} {k:Nat} {x:Str} {ps:List Str} {sp:Sp} {e:Expr} {es:List Expr} {t:TA} {p pos:Pos} (G:Kn X.prog X.w X.K X.mg X.base k x ps sp) (hr:Room k X.A) (ha:PA X (e::es) t) (hg:Gl X x:=by rfl)
  (hdb:(x == ("__debug__" : Str))=false:=by decide) (hs:starEach (e::es) X.env=(false,eval e X.env)::starEach es X.env:=by rfl) (hplain:(backTo pos (starEach es X.env)).any (·.1)=false:=by rfl) :
  PE X (.Call (.Name x p) (e::es) [] pos) (GD sp [] E0 t):=by
 obtain ⟨f,fd,F,hm,hk,hb⟩:=G
 exact Fq F hr hg hm hk hb .nil Ls ha hdb hs hplain
noncomputable def oq (XN fs:List Str):List Str->List (Option Nat)->Prop
 | [],[]=>True
 | _::N,none::c=>oq XN fs N c
 | x::N,some j::c=>XN[j]?=some x/\x∈fs/\oq XN fs N c
 | _,_=>False
theorem oq.len {XN fs:List Str}:∀ {N:List Str} {c:List (Option Nat)},oq XN fs N c->c.length=N.length
 | [],[],_=>rfl
 | _::N,none::c,h=>congrArg (·+1) (oq.len (N:=N) (c:=c) h)
 | _::N,some j::c,h=>congrArg (·+1) (oq.len (N:=N) (c:=c) h.2.2)
 | [],_::_,h=>h.elim
 | _::_,[],h=>h.elim
theorem oq.cp {XN fs:List Str}:∀ {N:List Str} {c:List (Option Nat)},oq XN fs N c->∀ (i j:Nat) (x:Str),N[i]?=some x->c[i]?=some (some j)->XN[j]?=some x/\x∈fs
 | [],[],_,i,j,x,h1,_=>by simp at h1
 | y::N,none::c,h,i,j,x,h1,h2=>by
  cases i with
  | zero=>simp at h2
  | succ i=>exact oq.cp (N:=N) (c:=c) h i j x (by simpa using h1) (by simpa using h2)
 | y::N,some k::c,h,i,j,x,h1,h2=>by
  cases i with
  | zero=>
   simp at h1 h2
   subst h1 h2
   exact ⟨h.1,h.2.1⟩
  | succ i=>exact oq.cp (N:=N) (c:=c) h.2.2 i j x (by simpa using h1) (by simpa using h2)
 | [],_::_,h,_,_,_,_,_=>h.elim
 | _::_,[],h,_,_,_,_,_=>h.elim
theorem iZ {X:Cx} {scope:Scope} {N:List Str} {cap:List (Option Nat)} (fs:List Str) (kind:scope.kind=.function) (nocell:∀ y∈scope.names,y.2≠.cell) (nm:∀ y∈scope.names,y.2=.local->scope.names.lookup y.1=some .local)
  (nolf:∀ y∈scope.names,y.2=.free->scope.names.lookup y.1≠some .local) (hf:∀ y∈scope.names,y.2=.free->y.1∈fs) (hfs:∀ x∈fs,(x,NameKind.free)∈scope.names) (hk:∀ x∈fs,X.env.kindOf x=some .cell\/X.env.kindOf x=some .free) (cp:oq X.N fs N cap):CpScope X scope N cap where
 kind:=kind
 nocell:=nocell
 nm:=nm
 fr:=fun y hy e=>hk _ (hf y hy e)
 rl:=fun y h=>by
  have go:∀ k,(k=NameKind.cell\/k=NameKind.free)->(relabel scope X.env).names.lookup y=some k->(y,NameKind.free)∈scope.names:=fun k hk e=>by
   obtain ⟨⟨n',k'⟩,hm1,hm2⟩:=List.mem_map.mp (oh e)
   dsimp only at hm2
   split at hm2
   ·rename_i hc
    cases hm2
    have:k'=.free:=by
     simp only [Bool.and_eq_true] at hc
     simpa using hc.1.1
    subst this
    exact hm1
   ·cases hm2
    rcases hk with rfl | rfl
    ·exact absurd rfl (nocell _ hm1)
    ·exact hm1
  rcases h with h | h
  ·exact go _ (.inl rfl) h
  ·exact go _ (.inr rfl) h
 len:=cp.len
 nolf:=fun x hx=>nolf (x,.free) hx rfl
 cp:=fun i j x h1 h2=>by
  obtain ⟨a,b⟩:=cp.cp i j x h1 h2
  exact ⟨a,hfs x b⟩
inductive Kd where
 | non | bl | int | str | lst | tup
 deriving DecidableEq
noncomputable def Kd.ty:Kd->Value
 | .non=>.type "NoneType" | .bl=>.type "bool" | .int=>.type "int" | .str=>.type "str" | .lst=>.type "list" | .tup=>.type "tuple"
noncomputable def J3 (H:Hp) (x:V):Kd->Prop
 | .non=>x=.non
 | .bl=>∃ b,x=.bl b
 | .int=>∃ i,x=.int i
 | .str=>∃ s,x=.str s
 | .lst=>∃ a xs,x=.ref a/\H a=some (.lst xs)
 | .tup=>∃ a xs,x=.ref a/\H a=some (.tup xs)
theorem J3.MM {K:PySem.W.Frag} {H:Hp} {x:V} {k:Kd} (h:J3 H x k):TyOf K H x k.ty:=by
 cases k with
 | non=>cases h;exact .non
 | bl=>obtain ⟨b,rfl⟩:=h;exact .bl b
 | int=>obtain ⟨b,rfl⟩:=h;exact .int b
 | str=>obtain ⟨b,rfl⟩:=h;exact .str b
 | lst=>obtain ⟨a,xs,rfl,e⟩:=h;exact .lst e
 | tup=>obtain ⟨a,xs,rfl,e⟩:=h;exact .tup e
theorem Ez {K:PySem.W.Frag} (k:Kd):PySem.W.kitOne K k.ty (.type "int")=some (decide (k=.int\/k=.bl)):=by cases k <;> rfl
theorem A1 {K:PySem.W.Frag} (k:Kd):PySem.W.kitOne K k.ty (.type "bool")=some (decide (k=.bl)):=by cases k <;> rfl
theorem kit_tuple {K:PySem.W.Frag} (k:Kd):PySem.W.kitOne K k.ty (.type "tuple")=some (decide (k=.tup)):=by cases k <;> rfl
theorem Be {K:PySem.W.Frag} (k:Kd):PySem.W.kitOne K k.ty (.type "list")=some (decide (k=.lst)):=by cases k <;> rfl
section
variable {prog:Program} {w:World} {A:Around} {E:Value->Shared->Prop} {s:Shared}
end
section
variable {X:Cx}
theorem Af (hc:X.calm=true):bw X (.builtin "max") (fun xs H Q=>∃ (p:Addr) (ns:List Int),xs=[.ref p]/\fY X.K H p (ns.map V.int)/\0 < ns.length/\∀ M,M∈ns->(∀ a∈ns,a<=M)->Q (.int M) H):=by
 intro pins s σ H xs us Q I r h
 obtain ⟨p,ns,rfl,hq,hne,q⟩:=h
 obtain ⟨u,rfl,rx⟩:=vals1 r
 cases rx
 obtain ⟨its,rv,pl,hz⟩:=I.list hq
 have hi:=intsAre_of rv
 have hl:=pl.isList
 obtain ⟨ys,e⟩:=hi.allInts.items
 have hns:ns=ys.toList.map (·.1):=by
  rw [<- hi.numsOf,<- nums_intItems,<- e]
 have hsz:0 < ys.size:=by
  have h3:=hne;rw [hns,List.length_map,Array.length_toList] at h3;exact h3
 rw [e] at hl
 refine max_intList (I.ok.hd hc) hl hsz fun v h' tk hv hk=>?_
 obtain ⟨t,rfl⟩:=intItems_at hv
 obtain ⟨h1,h2⟩:=argBest_gt (numAt ys) (ys.size - 1)
 refine ⟨.int _,H,I.kept hk,⟨t,rfl⟩,q _ ?_ fun a ha=>?_⟩
 ·rw [hns,numAt_eq];exact getD_mem (by rw [List.length_map,Array.length_toList];omega)
 ·rw [hns] at ha
  obtain ⟨j,hj,rfl⟩:=mem_getD ha
  rw [List.length_map,Array.length_toList] at hj
  rw [<- numAt_eq];exact h2 j (by omega)
end
section
variable {prog:Program} {w:World} {A:Around} {E:Value->Shared->Prop} {s:Shared}
theorem vB (n:Nat):Builtin.Slice.sliceAdjust none none (-1) (n:Int)=((n:Int) - 1,-1):=by
 unfold Builtin.Slice.sliceAdjust
 rfl
theorem uR (n:Nat):Builtin.Slice.slicePlaces ((n:Int) - 1) (-1) (-1)=n:=by
 unfold Builtin.Slice.slicePlaces
 have h1:¬ ((-1:Int) > 0):=by decide
 simp only [h1,if_false]
 by_cases h:n=0
 ·subst h;simp
 ·rw [if_pos (by omega)]
  rw [show (- -1:Int)=1 by decide,Int.ediv_one]
  omega
theorem lR {sl:Addr} {t:Tok} {n:Nat} {Q:Int×Int×Nat->Shared->Prop} (hs:s.heap.IsSliceOf sl .none .none (.int (-1) t))
  (h:Q ((n:Int) - 1,-1,n) s):wpAny (model prog w) A (Builtin.Slice.sliceApplied (.ref sl) (pure (n:Int))) Q E s:=by
 obtain ⟨os,hos,hcs,hds⟩:=id hs
 unfold Builtin.Slice.sliceApplied Builtin.Slice.sliceFields
 refine wpAny_bind (wpAny_bind (wpAny_field hos hds (x:=.none) rfl (wpAny_bind (wpAny_field hos hds (x:=.none) rfl (wpAny_bind (wpAny_field hos hds (x:=.int (-1) t) rfl (wpAny_pure ?_)))))))
 refine wpAny_bind (slicePart_int ?_)
 show wpAny _ _ (if ((-1:Int) == 0)=true then _ else _) _ _ s
 rw [if_neg (by decide)]
 refine wpAny_bind (slicePart_none (wpAny_bind (slicePart_none (wpAny_bind (wpAny_pure ?_)))))
 show wpAny _ _ (match Builtin.Slice.sliceAdjust none none (-1) (n:Int) with | (lo,hi)=>pure (lo,(-1:Int),Builtin.Slice.slicePlaces lo hi (-1))) _ _ s
 rw [vB n]
 show wpAny _ _ (pure ((n:Int) - 1,(-1:Int),Builtin.Slice.slicePlaces ((n:Int) - 1) (-1) (-1))) _ _ s
 rw [uR]
 exact wpAny_pure h
theorem D7 (xs:Array Value):((List.range xs.size).filterMap fun (m:Nat)=>xs[((xs.size:Int) - 1+(m:Int) * (-1)).toNat]?).toArray=xs.toList.reverse.toArray:=by
 have e:(fun (m:Nat)=>xs[((xs.size:Int) - 1+(m:Int) * (-1)).toNat]?)=(fun x=>xs[x]?) ∘ fun k=>xs.size - 1 - k:=by
  funext m
  have:((xs.size:Int) - 1+(m:Int) * (-1)).toNat=xs.size - 1 - m:=by omega
  show xs[((xs.size:Int) - 1+(m:Int) * (-1)).toNat]?=xs[xs.size - 1 - m]?
  rw [this]
 rw [e,<- List.filterMap_map,PySem.W.krv_range,List.filterMap_reverse,PySem.W.krv_all]
theorem kQ {t sl:Addr} {items:Array Value} {tk:Tok} {Q:Value->Shared->Prop} (ht:IsTup s.heap t items) (hs:s.heap.IsSliceOf sl .none .none (.int (-1) tk))
  (h:Q (.ref s.heap.objs.size) { s with heap:=s.heap.push { cls:=.type "tuple",data:=.seq items.toList.reverse.toArray } })
  (hsz:items.size<=sizeLine):wpAny (model prog w) A (getItem (.ref t) (.ref sl)) Q E s:=by
 have htake:sizeOk (.seq items.toList.reverse.toArray):=by
  show items.toList.reverse.toArray.size<=sizeLine
  rw [List.size_toArray,List.length_reverse,Array.length_toList]
  exact hsz
 obtain ⟨os,hos,hcs,hds⟩:=id hs
 have hTs:s.TypeIs (.ref sl) "slice" := ⟨os,hos,hcs⟩
 unfold getItem
 try with_reducible refine wpAny_holding ?_
 first | refine wpAny_bind (wpAny_pure ?_) | skip
 refine wpAny_bind (wpAny_sequenceKey ht.typeIs (by decide) ?_)
 refine wpAny_bind (wpAny_callSpecial?_slot (name:=Str.ofString "__getitem__") ht.typeIs PyProof.Rows.slot_tuple_getitem
  (wpAny_call_entry PyProof.Rows.slot_tuple_getitem ht.typeIs entry_tuple_getitem ?_ (args_tuple_getitem _ _)))
 show wpAny _ _ (Builtin.Tuple.tupleItemsOf (.ref t) >>= _) _ _ s
 refine wpAny_bind (tupleItemsOf_ ht ?_)
 refine wpAny_bind (wpAny_typeOf hTs ?_)
 rw [if_pos (by decide)]
 refine wpAny_bind (lR hs ?_)
 have hno:¬ ((((items.size:Int) - 1) == 0 && (-1:Int) == 1 && items.size == items.size)=true):=by
  intro q
  rw [Bool.and_eq_true,Bool.and_eq_true] at q
  exact absurd q.1.2 (by decide)
 show wpAny _ _ (if (((items.size:Int) - 1) == 0 && (-1:Int) == 1 && items.size == items.size)=true then _ else _) _ _ s
 rw [if_neg hno,D7]
 first
  | exact wpAny_bind (m:=Builtin.Tuple.tupleExact _) (wpAny_newObj_type (wpAny_pure ⟨_,rfl,wpAny_pure h⟩) htake)
  | exact wpAny_bind (m:=Builtin.Tuple.tupleExact _) (wpAny_newObj_type (wpAny_bind (wpAny_pure (wpAny_pure ⟨_,rfl,wpAny_pure h⟩))) htake)
  | exact wpAny_bind (wpAny_bind (m:=Builtin.Tuple.tupleExact _) (wpAny_newObj_type (wpAny_pure (wpAny_pure ⟨_,rfl,wpAny_pure h⟩)) htake))
  | exact wpAny_bind (wpAny_bind (m:=Builtin.Tuple.tupleExact _) (wpAny_newObj_type (wpAny_pure ⟨_,rfl,wpAny_pure h⟩) htake))
end
section
variable {X:Cx}
noncomputable def LU (K:PySem.W.Frag) (te:TE):TE:=fun σ H Q=>te σ H fun x H1=>∃ a xs,x=.ref a/\dF K H1 a xs/\∀ p,H1 p=none->Q (.ref p) (upd H1 p (.tup xs.reverse))
theorem xC {e:Expr} {te:TE} {p2 pos up cp:Pos} {kk:Nat} (he:PE X e te):PE X (.Subscript e (.Slice none none (some (.UnaryOp .USub (.Constant (.int 1) kk cp) up)) p2) pos) (LU X.K te):=by
 intro pins s σ H Q I h
 refine Subscript_ (bY (he pins s σ H _ I h) fun v s1 ⟨x,H1,I1,r1,a,xs,ex,hq,q⟩=>?_)
 subst ex
 cases r1
 refine wpAny_Slice ?_
 rw [evalPart_none]
 refine wpAny_pure ?_
 refine wpAny_pure ?_
 rw [evalPart_some]
 refine bY ((G9 (a:=.Constant (.int 1) kk cp) DY vC) pins s1 σ H1 (fun v H'=>v=.int (-1)/\H'=H1) I1 ⟨1,rfl,rfl,rfl⟩) fun vs s3 ⟨y,H3,I3,r3,ey,eH⟩=>?_
 subst ey eH
 obtain ⟨t,rfl⟩:=r3
 have I4:Inv X pins σ H3 { s3 with heap:=s3.heap.push { cls:=.type "slice",data:=.fields #[.none,.none,.int (-1) t] } }:=I3.kept (t':=s3.toks) fun b ob q=>Heap.get?_push_of_some _ q
 obtain ⟨its,rv,pl,hz⟩:=I4.tuple hq
 show wpAny (model X.prog X.w) X.A (subscriptTail e (.Slice none none (some (.UnaryOp .USub (.Constant (.int 1) kk cp) up)) p2) (.ref a) (.ref s3.heap.objs.size)) (EP X pins σ Q) X.xe { s3 with heap:=s3.heap.push { cls:=.type "slice",data:=.fields #[.none,.none,.int (-1) t] } }
 refine tail_any (ops:=[.ref a,.ref s3.heap.objs.size]) pl.typeIs PyProof.Rows.slot_tuple_getitem.lookup ?_ (by with_unfolding_all rfl)
 have hlen:=rv.length
 refine kQ pl (Heap.IsSliceOf.new ..) ?_ (by rw [List.size_toArray] <;> omega)
 refine ⟨.ref _,_,I4.laid (t':=s3.toks) (o:=.tup xs.reverse) (fun b o e=>Heap.get?_push_of_some _ e) (Nat.le_refl _) ⟨by rw [List.length_reverse];exact hz,its.reverse,rv.reverse,?_⟩,rfl,q _ I4.fresh⟩
 exact e_.new _ _
noncomputable def La (K:PySem.W.Frag):V->V->Hp->VK->Prop:=fun o i H Q=>∃ p xs k v,o=.ref p/\i=.int k/\fY K H p xs/\0<=k/\xs[k.toNat]?=some v/\Q v H
theorem DS:J_ X (La X.K):=by
 intro pins s σ H o i ov iv Q I ro ri h
 obtain ⟨p,xs,k,v,rfl,rfl,hq,h0,hv,q⟩:=h
 cases ro
 obtain ⟨t,rfl⟩:=ri
 obtain ⟨its,r,pl,hz⟩:=I.list hq
 obtain ⟨u,eu,ru⟩:=r.get hv
 have hl:=r.length
 have hn:=j9
 have hk:k.toNat < xs.length:=(List.getElem?_eq_some_iff.mp hv).1
 exact wpAny_getItem_list pl.isList h0 (by omega) (by simpa using eu) ⟨v,H,I,ru,q⟩
end
theorem rB (elt t1 i1 t2 i2:Expr) (f1 f2:List Expr) (scope:Scope) (pos:Pos) (it acc:Value) (env:Env) :
  compTurn (.ListComp elt [⟨t1,i1,f1,0⟩,⟨t2,i2,f2,0⟩] scope pos) 0 it acc env=(do
   standAt i1.pos
   match <- pyNext it with
   | none=>pure (.done .next)
   | some v=>
    letOwnedTupleGo t1 it v
    assign t1 env v
    let mut ok:=true
    for c in f1 do
     if ok then ok <- isTrue c env (eval c env)
    if ok then
     let x <- eval i2 env
     standAt i2.pos
     let x <- foldedSetIterable i2 env x
     let _ <- runOwn (.compStart (.ListComp elt [⟨t1,i1,f1,0⟩,⟨t2,i2,f2,0⟩] scope pos) 1 (<- holding [x] (pyIter x)) acc env) env
    again (.compLoop (.ListComp elt [⟨t1,i1,f1,0⟩,⟨t2,i2,f2,0⟩] scope pos) 0 it acc env)):=by rfl
theorem rL (elt t1 i1 t2 i2:Expr) (f1 f2:List Expr) (scope:Scope) (pos:Pos) (it acc:Value) (env:Env) :
  compTurn (.ListComp elt [⟨t1,i1,f1,0⟩,⟨t2,i2,f2,0⟩] scope pos) 1 it acc env=(do
   standAt i2.pos
   match <- pyNext it with
   | none=>pure (.done .next)
   | some v=>
    letOwnedTupleGo t2 it v
    assign t2 env v
    let mut ok:=true
    for c in f2 do
     if ok then ok <- isTrue c env (eval c env)
    if ok then
     (do let _ <- call (.builtin "list.append") [acc,<- eval elt env])
    again (.compLoop (.ListComp elt [⟨t1,i1,f1,0⟩,⟨t2,i2,f2,0⟩] scope pos) 1 it acc env)):=by rfl
section
variable {prog:Program} {w:World} {A:Around} {R:Result->Shared->Prop} {s:Shared}
theorem ja {elt t1 i1 t2 i2:Expr} {f1 f2:List Expr} {scope:Scope} {pos:Pos} {it acc:Value} {env:Env}
  (h0:codeAny (model prog w) A (.compLoop (.ListComp elt [⟨t1,i1,f1,0⟩,⟨t2,i2,f2,0⟩] scope pos) 1 it acc env) R s)
  (h:wpAny (model prog w) A (pyIter it) (fun it' s'=>codeAny (model prog w) A (.compLoop (.ListComp elt [⟨t1,i1,f1,0⟩,⟨t2,i2,f2,0⟩] scope pos) 1 it' acc env) R s')
   (notedBy (model prog w) A env fun x s'=>R (.error x) s') s) :
  codeAny (model prog w) A (.compStart (.ListComp elt [⟨t1,i1,f1,0⟩,⟨t2,i2,f2,0⟩] scope pos) 1 it acc env) R s:=by
 refine codeAny_of_tree ?_
 show wpAny _ _ ((compStart (.ListComp elt [⟨t1,i1,f1,0⟩,⟨t2,i2,f2,0⟩] scope pos) 1 it acc env).onRaise (fun x=>do noteFrame x env;standAt theWindowsPlace)) _ _ s
 refine wpAny_notedAt ?_
 unfold compStart
 show wpAny _ _ (ask >>= _) _ _ s
 refine wpAny_bind (wpAny_askSetting (wpAny_ite ?_))
 split
 ·first
   | exact wpAny_bind (wpAny_pure (wpAny_pure (And.intro rfl h0)))
   | exact wpAny_pure (And.intro rfl h0)
 ·first
   | exact wpAny_bind (wpAny_rule (wpAny_bind (wpAny_standAt (wpAny_bind (wpAny_mono h (fun it' s' h'=>wpAny_pure (And.intro rfl h')) fun _ _ x=>x)))))
   | (refine wpAny_bind (wpAny_rule ?_);show wpAny _ _ (standAt i2.pos >>= _) _ _ s;exact wpAny_bind (wpAny_standAt (wpAny_bind (wpAny_mono h (fun it' s' h'=>wpAny_pure (And.intro rfl h')) fun _ _ x=>x))))
end
noncomputable def Dq (g:TG) (tc:TT) (te:TE) (D:Addr) (Nn:L2.St->Hp->Prop) (σ:L2.St) (J:It) (H1:Hp):Prop:=
 ∃ V:Nat->Nat->L2.St->Hp->Prop,(∃ m,V 0 m σ H1)/\∀ i m σ' H',V i m σ' H' ->
  (J.stop i H'/\Nn σ' H')\/(J.go i H'/\∀ x H2,J.yld i H' x H2->g x σ' H2 fun σ3 H3=>tc σ3 H3 fun b H4=>
   if b=true then te σ3 H4 fun y H5=>∃ ys,H5 D=some (.lst ys)/\ys.length < sizeLine/\∃ m',m' < m/\V (i+1) m' σ3 (upd H5 D (.lst (ys++[y])))
   else ∃ m',m' < m/\V (i+1) m' σ3 H4)
theorem vO {Z:Cx} {t1 i1 tg i2 elt:Expr} {f1 ifs:List Expr} {scope:Scope} {pos:Pos} {J:It} {fp:List Addr} {it D:Addr} {tn:Nat->Heap->Prop} {pins:List (Addr×Obj)} {σ:L2.St} {H:Hp} {s:Shared} {g:TG} {tc:TT} {te:TE} {Nn:L2.St->Hp->Prop}
  (hc:Z.calm=true) (hxe:Z.xe=fun _ _=>False) (T:Turn Z.prog Z.w Z.K tg J fp it tn) (I:Inv Z pins σ H s) (st:tn 0 s.heap) (hf:∀ b∈fp,iO Z pins H b) (hg:PG Z tg g) (ht:Eh Z ifs tc) (he:PE Z elt te) (goal:Dq g tc te D Nn σ J H) :
  codeAny (model Z.prog Z.w) Z.A (.compLoop (.ListComp elt [⟨t1,i1,f1,0⟩,⟨tg,i2,ifs,0⟩] scope pos) 1 (.ref it) (.ref D) Z.env) (fun r s'=>r=.ok .next/\∃ σ' H',Inv Z pins σ' H' s'/\Nn σ' H') s:=by
 obtain ⟨V,⟨m0,v0⟩,turn⟩:=goal
 have stat:∀ {H':Hp},(∀ b∈fp,H' b=none)->∀ b∈fp,iO Z pins H' b:=fun hn b hb=>⟨hn b hb,(hf b hb).2⟩
 refine codeAny_loop rfl (fun n s'=>∃ i σ' H',Inv Z pins σ' H' s'/\tn i s'.heap/\(∀ b∈fp,H' b=none)/\V i n σ' H') (fun n s5 hI=>?_) m0 ⟨0,σ,H,I,st,fun b hb=>(hf b hb).1,v0⟩
 obtain ⟨i,σ5,H5,I5,st5,fr5,w5⟩:=hI
 show wpAny _ Z.A ((compTurn (.ListComp elt [⟨t1,i1,f1,0⟩,⟨tg,i2,ifs,0⟩] scope pos) 1 (.ref it) (.ref D) Z.env).onRaise (fun x=>do noteFrame x _;theTreesLotGoes x)) _ _ s5
 refine wpAny_noted ?_
 rw [rL]
 refine wpAny_bind (wpAny_standAt (wpAny_bind ?_))
 rcases turn i n σ5 H5 w5 with ⟨stop,q⟩ | ⟨go,step⟩
 ·refine bY (T.done Z rfl rfl rfl hc i pins s5 σ5 H5 _ I5 (stat fr5) st5 stop) fun r s6 ⟨hr,I6⟩=>?_
  subst hr
  exact wpAny_pure ⟨rfl,σ5,H5,I6,q⟩
 ·refine bY (T.item Z rfl rfl rfl hc i pins s5 σ5 H5 _ I5 (stat fr5) st5 go) fun r s6 ⟨u,hr,h6⟩=>?_
  subst hr
  refine wpAny_bind (bY h6 fun _ s7 ⟨x,H7,I7,r7,y7,st7,fr7⟩=>?_)
  have I7':=I7.pinned (stat fr7) (T.obj _ _ st7)
  have toF:∀ {α:Type} {t:Sem α} {Q Q':α->Shared->Prop} {E:Value->Shared->Prop} {s:Shared},wpAny (model Z.prog Z.w) Z.A t Q Z.xe s->(∀ a s,Q a s->Q' a s)->wpAny (model Z.prog Z.w) Z.A t Q' E s:=fun h hQ=>by
   rw [hxe] at h
   exact lX h hQ
  refine wpAny_bind (toF (hg _ s7 σ5 H7 x u _ I7' r7 (step x H7 y7)) fun _ s8 ⟨σ8,H8,I8,q8⟩=>?_)
  refine wpAny_bind (toF (ht _ s8 σ8 H8 _ I8 q8) fun ok s9 ⟨H9,I9,q9⟩=>?_)
  have again:∀ {s10:Shared} {H10:Hp},Inv Z (pins++jl fp s7.heap) σ8 H10 s10->(∃ m',m' < n/\V (i+1) m' σ8 H10) ->
    ∃ m,m < n/\∃ i σ' H',Inv Z pins σ' H' s10/\tn i s10.heap/\(∀ b∈fp,H' b=none)/\V i m σ' H':=fun {s10 H10} I10 ⟨m',hm,w10⟩=>by
   refine ⟨m',hm,i+1,σ8,H10,I10.fD,T.keep _ _ _ st7 fun b hb o e=>(I10.pin (b,o) (List.mem_append_right _ (List.mem_append_right _ (bV hb e)))).1,fun b hb=>?_,w10⟩
   obtain ⟨o,e,d⟩:=T.obj _ _ st7 b hb
   exact (I10.pin (b,o) (List.mem_append_right _ (List.mem_append_right _ (bV hb e)))).2.1
  cases ok with
  | false=>
   rw [if_neg Bool.false_ne_true] at q9
   exact wpAny_pure ⟨rfl,again I9 q9⟩
  | true=>
   rw [if_pos rfl] at q9
   refine wpAny_bind (wpAny_bind (toF (he _ s9 σ8 H9 _ I9 q9) fun y s10 ⟨v10,H10,I10,r10,ys,hD,hz,w10⟩=>?_))
   refine wpAny_bind (toF (jK _ s10 σ8 H10 (.ref D) [v10] _ [y] (fun _ H'=>H'=upd H10 D (.lst (ys++[v10]))) I10 rfl (.cons r10 .nil) ⟨_,ys,v10,rfl,rfl,hD,hz,rfl⟩) fun _ s11 ⟨_,H11,I11,_,e11⟩=>?_)
   subst e11
   exact wpAny_pure (wpAny_pure ⟨rfl,again I11 w10⟩)
noncomputable def EJ (cap:List (Option Nat)) (g:TG) (tc:TT) (wi2:TI) (g2:TG) (tc2:TT) (te:TE) (σ:L2.St) (Q:VK) (J:It) (H1:Hp):Prop:=∀ D,H1 D=none ->
 ∃ W:Nat->Nat->L2.St->Hp->Prop,(∃ m,W 0 m (cap.map (Gd σ)) (upd H1 D (.lst [])))/\∀ i m σ' H',W i m σ' H' ->
  (J.stop i H'/\Q (.ref D) H')\/(J.go i H'/\∀ x H2,J.yld i H' x H2->g x σ' H2 fun σ3 H3=>tc σ3 H3 fun b H4=>
   if b=true then wi2 σ3 H4 (Dq g2 tc2 te D (fun σ5 H5=>∃ m',m' < m/\W (i+1) m' σ5 H5) σ3)
   else ∃ m',m' < m/\W (i+1) m' σ3 H4)
noncomputable def MG (cap:List (Option Nat)) (wi:TI) (g:TG) (tc:TT) (wi2:TI) (g2:TG) (tc2:TT) (te:TE):TE:=fun σ H Q=>wi σ H (EJ cap g tc wi2 g2 tc2 te σ Q)
theorem Jw {X:Cx} {tg iter tg2 iter2 elt:Expr} {ifs ifs2:List Expr} {scope:Scope} {pos:Pos} {N:List Str} {cap:List (Option Nat)} {wi wi2:TI} {g g2:TG} {tc tc2:TT} {te:TE} (hc:X.calm=true) (S:CpScope X scope N cap) (hi:PI X tg iter wi)
  (hg:∀ C s₀ H₀ ex,PG (bQ X scope N C s₀ H₀ ex) tg g) (ht:∀ C s₀ H₀ ex,Eh (bQ X scope N C s₀ H₀ ex) ifs tc) (hi2:∀ C s₀ H₀ ex,PI (bQ X scope N C s₀ H₀ ex) tg2 iter2 wi2)
  (hg2:∀ C s₀ H₀ ex,PG (bQ X scope N C s₀ H₀ ex) tg2 g2) (ht2:∀ C s₀ H₀ ex,Eh (bQ X scope N C s₀ H₀ ex) ifs2 tc2) (he:∀ C s₀ H₀ ex,PE (bQ X scope N C s₀ H₀ ex) elt te)
  (hs:∀ x,foldedSetIterable iter X.env x=pure x:=by intro _;rfl) (hs2:∀ env x,foldedSetIterable iter2 env x=pure x:=by intro _ _;rfl):PE X (.ListComp elt [⟨tg,iter,ifs,0⟩,⟨tg2,iter2,ifs2,0⟩] scope pos) (MG cap wi g tc wi2 g2 tc2 te):=by
 intro pins s σ H Q I h
 have hfree:∀ y∈scope.names,y.2=.free->∃ c,X.env.cells.lookup y.1=some c:=fun y hy e=>I.ok.has _ (S.fr y hy e)
 rw [eval_ListComp]
 refine wpAny_comprehension_free (use:=none) rfl hs (kr hfree) S.kind S.nm (bY (hi pins s σ H _ I h) fun xv s1 h1=>bY h1 fun itv s2 h2=>?_)
 obtain ⟨it,fp,tn,J,H2,rfl,I2,T,st2,f2,h2⟩:=h2
 refine wpAny_newObj_type (wpAny_newFunctionEnv S.nocell (by intro y hy;simp at hy) (fun h₁ hns₁ hsb₁=>?_) S.kind)
 obtain ⟨W,⟨m0,w0⟩,turn⟩:=h2 s2.heap.objs.size I2.fresh
 dsimp only at hns₁ hsb₁ ⊢
 have I3:Inv X pins σ (upd H2 s2.heap.objs.size (.lst [])) { s2 with heap:=s2.heap.push { cls:=.type "list",data:=.seq ([]:List Value).toArray } }:=I2.zH (t':=s2.toks) (its:=[]) .nil (Nat.zero_le _)
 have hfp:∀ b∈fp,∃ o,s2.heap.get? b=some o:=fun b hb=>by
  obtain ⟨o,e,_⟩:=T.obj 0 _ st2 b hb
  exact ⟨o,e⟩
 have neD:∀ b∈fp,b≠s2.heap.objs.size:=fun b hb=>by
  obtain ⟨o,e⟩:=hfp b hb
  exact Nat.ne_of_lt (Heap.lt_size e)
 have f3:∀ b∈fp,iO X pins (upd H2 s2.heap.objs.size (.lst [])) b:=fun b hb=>⟨by rw [aN (neD b hb)];exact (f2 b hb).1,(f2 b hb).2⟩
 have hDC:s2.heap.objs.size≠(s2.heap.push { cls:=.type "list",data:=.seq ([]:List Value).toArray }).objs.size:=by rw [Heap.size_push];exact Nat.ne_of_lt (Nat.lt_succ_self _)
 have old:∀ b o,(s2.heap.push { cls:=.type "list",data:=.seq ([]:List Value).toArray }).get? b=some o->h₁.get? b=some o:=fun b o e=>hsb₁.extBut b o (Nat.ne_of_lt (Heap.lt_size e)) (Heap.get?_push_of_some _ e)
 have I4:=uY (tk:=s2.toks+([]:List (Str×Value)).length) (fp:=fp) S I3 f3 (fun b hb=>by
  obtain ⟨o,e⟩:=hfp b hb
  exact ⟨o,Heap.get?_push_of_some _ e⟩) hns₁ old
 have st4:tn 0 h₁:=T.keep _ _ _ st2 fun b hb o e=>old b o (Heap.get?_push_of_some _ e)
 have stat:∀ {H':Hp},(∀ b∈fp,H' b=none)->∀ b∈fp,iO (bQ X scope N (s2.heap.push { cls:=.type "list",data:=.seq ([]:List Value).toArray }).objs.size { s2 with heap:=s2.heap.push { cls:=.type "list",data:=.seq ([]:List Value).toArray } } (upd H2 s2.heap.objs.size (.lst [])) fp) [] H' b:=fun hn b hb=>by
  have ok:=I4.ok
  refine ⟨hn b hb,(ok.exf b hb).1,ok.exfs b hb,.inl hb,fun x c e=>(ok.exf b hb).2 x c e,fun p hp=>nomatch hp⟩
 have loop:∀ s4:Shared,s4={ s2 with heap:=h₁,toks:=s2.toks+([]:List (Str×Value)).length } ->
   codeAny (model X.prog X.w) X.A (.compLoop (.ListComp elt [⟨tg,iter,ifs,0⟩,⟨tg2,iter2,ifs2,0⟩] scope pos) 0 (.ref it) (.ref s2.heap.objs.size) (compEnvC scope (jb X.env scope.names []) (s2.heap.push { cls:=.type "list",data:=.seq ([]:List Value).toArray }).objs.size X.env))
    (compPost (model X.prog X.w) X.A X.xe none (EP X pins σ Q) (.ref s2.heap.objs.size) (s2.heap.push { cls:=.type "list",data:=.seq ([]:List Value).toArray }).objs.size) s4:=by
  rintro s4 rfl
  refine codeAny_loop rfl (fun n s'=>∃ i σ' H',Inv (bQ X scope N (s2.heap.push { cls:=.type "list",data:=.seq ([]:List Value).toArray }).objs.size { s2 with heap:=s2.heap.push { cls:=.type "list",data:=.seq ([]:List Value).toArray } } (upd H2 s2.heap.objs.size (.lst [])) fp) [] σ' H' s'/\tn i s'.heap/\(∀ b∈fp,H' b=none)/\W i n σ' H') (fun n s5 hI=>?_) m0 ⟨0,_,_,I4,st4,fun b hb=>(f3 b hb).1,w0⟩
  obtain ⟨i,σ5,H5,I5,st5,fr5,w5⟩:=hI
  show wpAny _ X.A ((compTurn (.ListComp elt [⟨tg,iter,ifs,0⟩,⟨tg2,iter2,ifs2,0⟩] scope pos) 0 (.ref it) (.ref s2.heap.objs.size) (compEnvC scope (jb X.env scope.names []) (s2.heap.push { cls:=.type "list",data:=.seq ([]:List Value).toArray }).objs.size X.env)).onRaise (fun x=>do noteFrame x _;theTreesLotGoes x)) _ _ s5
  refine wpAny_noted ?_
  rw [rB]
  refine wpAny_bind (wpAny_standAt (wpAny_bind ?_))
  rcases turn i n σ5 H5 w5 with ⟨stop,q⟩ | ⟨go,step⟩
  ·refine bY (T.done (bQ X scope N (s2.heap.push { cls:=.type "list",data:=.seq ([]:List Value).toArray }).objs.size { s2 with heap:=s2.heap.push { cls:=.type "list",data:=.seq ([]:List Value).toArray } } (upd H2 s2.heap.objs.size (.lst [])) fp) rfl rfl rfl hc i [] s5 σ5 H5 _ I5 (stat fr5) st5 stop) fun r s6 ⟨hr,I6⟩=>?_
   subst hr
   obtain ⟨m6,hn6,_⟩:=I6.loc
   refine wpAny_pure ⟨m6,hn6,fun h' sb=>?_⟩
   have u6:=I6.base
   have nC:∀ b o,(s2.heap.push { cls:=.type "list",data:=.seq ([]:List Value).toArray }).get? b=some o->b≠(s2.heap.push { cls:=.type "list",data:=.seq ([]:List Value).toArray }).objs.size:=fun b o e=>Nat.ne_of_lt (Heap.lt_size e)
   refine ⟨.ref s2.heap.objs.size,H5,?_,rfl,q⟩
   refine I3.ze (ch:=fp) I6.os ⟨fun b o e n hb hx=>?_,fun b o e n hb hx=>?_,fun b o e n hx=>?_,fun b o e hx=>?_,u6.tups,u6.frzs,u6.tbls⟩ ?_ I6.bare ?_
   ·exact sb.extBut b o (nC b o e) (u6.keep b o e n hb hx)
   ·obtain ⟨sl,z⟩:=u6.slot b o e n hb hx
    exact ⟨sl,sb.extBut b _ (nC b o e) z⟩
   ·exact u6.free b o e n hx
   ·obtain ⟨o',z⟩:=u6.there b o e hx
    exact ⟨o',sb.extBut b _ (nC b o e) z⟩
   ·intro b o e
    have hb:∀ c v,H5 c=some v->c≠(s2.heap.push { cls:=.type "list",data:=.seq ([]:List Value).toArray }).objs.size:=fun c v e z=>by
     rw [z] at e
     have:=I6.free
     rw [show H5 (s2.heap.push { cls:=.type "list",data:=.seq ([]:List Value).toArray }).objs.size=none from this] at e
     cases e
    refine (I6.hok b o e).stay (fun c v hc q=>sb.extBut c v ?_ q) (fun _ q=>q) fun _ _ q=>q
    rcases hc with z | z
    ·rw [z];exact hb b o e
    ·exact hb c _ z
   ·intro b hb
    obtain ⟨_,z1,_,z3,z4,z5⟩:=f3 b hb
    exact ⟨z3,z1,z4,z5⟩
  ·refine bY (T.item (bQ X scope N (s2.heap.push { cls:=.type "list",data:=.seq ([]:List Value).toArray }).objs.size { s2 with heap:=s2.heap.push { cls:=.type "list",data:=.seq ([]:List Value).toArray } } (upd H2 s2.heap.objs.size (.lst [])) fp) rfl rfl rfl hc i [] s5 σ5 H5 _ I5 (stat fr5) st5 go) fun r s6 ⟨u,hr,h6⟩=>?_
   subst hr
   refine wpAny_bind (bY h6 fun _ s7 ⟨x,H7,I7,r7,y7,st7,fr7⟩=>?_)
   have I7':=I7.pinned (stat fr7) (T.obj _ _ st7)
   refine wpAny_bind (lX (hg _ _ _ fp _ s7 σ5 H7 x u _ I7' r7 (step x H7 y7)) fun _ s8 ⟨σ8,H8,I8,q8⟩=>?_)
   refine wpAny_bind (lX (ht _ _ _ fp _ s8 σ8 H8 _ I8 q8) fun ok s9 ⟨H9,I9,q9⟩=>?_)
   have again:∀ {s10:Shared} {H10:Hp} {σ10:L2.St},Inv (bQ X scope N (s2.heap.push { cls:=.type "list",data:=.seq ([]:List Value).toArray }).objs.size { s2 with heap:=s2.heap.push { cls:=.type "list",data:=.seq ([]:List Value).toArray } } (upd H2 s2.heap.objs.size (.lst [])) fp) ([]++jl fp s7.heap) σ10 H10 s10->(∃ m',m' < n/\W (i+1) m' σ10 H10) ->
     ∃ m,m < n/\∃ i σ' H',Inv (bQ X scope N (s2.heap.push { cls:=.type "list",data:=.seq ([]:List Value).toArray }).objs.size { s2 with heap:=s2.heap.push { cls:=.type "list",data:=.seq ([]:List Value).toArray } } (upd H2 s2.heap.objs.size (.lst [])) fp) [] σ' H' s10/\tn i s10.heap/\(∀ b∈fp,H' b=none)/\W i m σ' H':=fun {s10 H10 σ10} I10 ⟨m',hm,w10⟩=>by
    refine ⟨m',hm,i+1,σ10,H10,I10.fD,T.keep _ _ _ st7 fun b hb o e=>(I10.pin (b,o) (List.mem_append_right _ (List.mem_append_right _ (bV hb e)))).1,fun b hb=>?_,w10⟩
    obtain ⟨o,e,d⟩:=T.obj _ _ st7 b hb
    exact (I10.pin (b,o) (List.mem_append_right _ (List.mem_append_right _ (bV hb e)))).2.1
   cases ok with
   | false=>
    rw [if_neg Bool.false_ne_true] at q9
    exact wpAny_pure ⟨rfl,again I9 q9⟩
   | true=>
    rw [if_pos rfl] at q9
    refine wpAny_bind (lX (hi2 _ _ _ fp _ s9 σ8 H9 _ I9 q9) fun xv s10 h10=>wpAny_bind (wpAny_standAt ?_))
    rw [hs2]
    refine wpAny_bind (wpAny_pure (wpAny_bind (wpAny_holding (lX h10 fun itv s11 h11=>?_))))
    obtain ⟨it2,fp2,tn2,J2,H11,rfl,I11,T2,st11,f11,goal⟩:=h11
    have hcz:=hc
    have loop2:=(fun (Z:Cx) (h1:Z.calm=true) (h2:Z.xe=fun _ _=>False) T2 I11=>vO (Z:=Z) (t1:=tg) (i1:=iter) (f1:=ifs) (i2:=iter2) (scope:=scope) (pos:=pos) h1 h2 T2 I11) _ (show (bQ X scope N _ _ _ fp).calm=true from hcz) rfl T2 I11 st11 f11 (hg2 _ _ _ fp) (ht2 _ _ _ fp) (he _ _ _ fp) goal
    refine wpAny_bind (wpAny_runOwn (codeAny_mono (ja loop2 (T2.self _ 0 _ _ _ st11 loop2)) fun r s12 hr12=>?_))
    obtain ⟨hr,σ12,H12,I12,n12⟩:=hr12
    subst hr
    exact wpAny_pure ⟨rfl,again I12 n12⟩
 exact codeAny_compStart_list (loop _ rfl) (T.self _ 0 _ _ _ st4 (loop _ rfl))
end L2
namespace L2
open PySem PySem.Spec PyProof.Rows
open PySem.SeqAt
open PySem.AutoSeq1 (wpAny_loadPart')
open PySem.MeetsSeq PySem.MeetsSeq2 PySem.MeetsSeq3 PySem.SeqAt
section
variable {prog:Program} {w:World} {A:Around} {E:Value->Shared->Prop} {s:Shared}
end
section
variable {X:Cx}
theorem BN:eU X (binaryOp .FloorDiv) (rI (fun _ j=>0 < j/\j < 18446744073709551616) fun i j=>.int (i / j)):=Mp fun i j _ _ _ _ _ hc q=>by
 have h1:(0:Int) < j:=hc.1
 have h2:j < 18446744073709551616:=hc.2
 refine floordiv_int (by omega) (by rw [Int.fdiv_eq_ediv_of_nonneg i (by omega)];exact q) (.inl (PyProof.noPylong_of_log2 ?_))
 exact Nat.lt_of_lt_of_le ((Nat.log2_lt (by omega)).mpr (show j.natAbs < 2 ^ 64 by omega)) (by decide)
end
end L2
namespace L2
open PySem PySem.Spec PyProof.Rows
noncomputable def Nt (x:Str):It:=⟨fun i _=>i < x.cps.size,fun i H v H'=>H'=H/\∃ c,x.cps[i]?=some c/\v=.str ⟨#[c]⟩,fun i _=>i=x.cps.size⟩
theorem Dr {P:Program} {w:World} {K:PySem.W.Frag} {tg:Expr} (x:Str) (t:Tok) (it:Addr):Turn P w K tg (Nt x) [it] it (fun i h=>h.IsStrIter it "str_ascii_iterator" x t i) where
 mem:=by simp
 obj:=fun i h st b hb=>by
  have e:b=it:=by simpa using hb
  subst e
  obtain ⟨o,e,c,d⟩:=st
  exact ⟨o,e,fun v z=>by rw [d] at z;cases z⟩
 keep:=fun i h h' st k=>let ⟨o,ho,r⟩:=st;⟨o,k it (by simp) o ho,r⟩
 item:=by
  intro X hP hw hK hc i pins s σ H E I hf st hg
  subst hP hw hK
  obtain ⟨f0,f1,f2,f3,f4,f5⟩:=hf it (by simp)
  have W:=Walks.strAscii (prog:=X.prog) (w:=X.w) (I.ok.hd hc) it x t
  refine W.item i s _ _ hg st fun v h' tk hv st' kk=>?_
  obtain ⟨c,u,hcx,rfl⟩:=hv
  have I1:Inv X pins σ H { s with heap:=h',toks:=tk }:=I.turned (fun b o hb e=>kk b o (by simpa using hb) e) f0 f1 f3 f4 f5
  obtain ⟨o,e,cc,d⟩:=id st'
  exact ⟨_,rfl,yY (s:={ s with heap:=h',toks:=tk }) e cc d (by decide) ⟨.str ⟨#[c]⟩,H,I1,⟨u,rfl⟩,⟨rfl,c,hcx,rfl⟩,st',fun b hb=>(hf b hb).1⟩⟩
 done:=by
  intro X hP hw hK hc i pins s σ H E I hf st hg
  subst hP hw hK
  obtain ⟨f0,f1,f2,f3,f4,f5⟩:=hf it (by simp)
  have hg:i=x.cps.size:=hg
  subst hg
  have W:=Walks.strAscii (prog:=X.prog) (w:=X.w) (I.ok.hd hc) it x t
  exact W.done s _ _ st fun h' tk kk=>⟨rfl,I.turned (fun b o hb e=>kk b o (by simpa using hb) e) f0 f1 f3 f4 f5⟩
 self:=fun _ _ _ _ _ st h=>wpAny_pyIter_striter_ascii st h
section
variable {X:Cx} {tg:Expr}
noncomputable def M4 (tl:TE):TI:=fun σ H R=>tl σ H fun x H1=>∃ y:Str,x=.str y/\y.cps.all (· < 128)=true/\R (Nt y) H1
theorem Ih {l:Expr} {tl:TE} (hl:PE X l tl):PI X tg l (M4 tl):=by
 intro pins s σ H R I h
 refine bY (hl pins s σ H _ I h) fun v s1 ⟨x,H1,I1,r1,q1⟩=>?_
 obtain ⟨y,e,ha,q⟩:=q1
 subst e
 obtain ⟨t,rfl⟩:=r1
 refine wpAny_pyIter_ascii ha ?_
 refine ⟨s1.heap.objs.size,[s1.heap.objs.size],_,_,H1,rfl,I1.kept (t':=s1.toks) fun b o e=>Heap.get?_push_of_some _ e,Dr y t _,⟨_,Heap.get?_push_size _ rfl,rfl,rfl⟩,fun b hb=>?_,q⟩
 have e:b=s1.heap.objs.size:=by simpa using hb
 subst e
 exact I1.zo (Nat.le_refl _) (I1.hok.fresh (Nat.le_refl _))
theorem zS:bw X (.type "int") (fun xs H Q=>∃ (y:Str) (n:Int),xs=[.str y]/\y.length<=640/\PySem.intText? y=some n/\Q (.int n) H):=by
 intro pins s σ H xs us Q I rv h
 obtain ⟨y,n,rfl,hl,hn,q⟩:=h
 obtain ⟨w,rfl,rw'⟩:=vals1 rv
 obtain ⟨u,rfl⟩:=rw'
 exact PySem.W.KIN.call_text hn hl ⟨.int n,H,I.tok _,⟨_,rfl⟩,q⟩
end
section
variable {κ:Type} [DecidableEq κ]
noncomputable def kP (kvs:List (κ×V)) (k:κ):Option V:=(kvs.find? fun kv=>decide (kv.1=k)).map (·.2)
noncomputable def putK (kvs:List (κ×V)) (k:κ) (v:V):List (κ×V):=
 if (kvs.any fun kv=>decide (kv.1=k))=true then kvs.map (fun kv=>if kv.1=k then (kv.1,v) else kv) else kvs++[(k,v)]
theorem lg {p:κ×V} {r:List (κ×V)} {k:κ} (e:p.1=k):kP (p::r) k=some p.2:=by simp [kP,List.find?_cons,e]
theorem kG {p:κ×V} {r:List (κ×V)} {k:κ} (e:¬ p.1=k):kP (p::r) k=kP r k:=by simp [kP,List.find?_cons,e]
theorem oS (k:κ):∀ kvs:List (κ×V),(kvs.any fun kv=>decide (kv.1=k))=(kP kvs k).isSome
 | []=>rfl
 | p::r=>by
  rw [List.any_cons]
  by_cases e:p.1=k
  ·simp only [lg e,decide_eq_true e,Bool.true_or,Option.isSome_some]
  ·rw [kG e,decide_eq_false e,Bool.false_or];exact oS k r
theorem mU (kvs:List (κ×V)) (k:κ) (v:V):(putK kvs k v).length<=kvs.length+1:=by
 unfold putK
 split
 ·rw [List.length_map];omega
 ·rw [List.length_append,List.length_cons,List.length_nil];omega
theorem nQ.lU {o:Option V} {u:Option Value} (r:nQ o u):o.isSome=u.isSome:=by
 cases o with
 | none=>cases u with
  | none=>rfl
  | some _=>exact (show False from r).elim
 | some _=>cases u with
  | none=>exact (show False from r).elim
  | some _=>rfl
theorem KV.val {kvs:List (κ×V)} {vs:List (κ×Value)} (r:KV kvs vs) (k:κ):nQ (kP kvs k) (valueAt vs k):=by
 unfold KV at r
 induction r with
 | nil=>exact True.intro
 | @cons p q ps qs h t ih=>
  obtain ⟨h1,h2⟩:=h
  by_cases e:p.1=k
  ·have e':q.1=k:=h1.symm.trans e
   have b:valueAt (q::qs) k=some q.2:=by simp [valueAt,List.find?_cons,e']
   rw [lg e,b];exact h2
  ·have e':¬ q.1=k:=fun z=>e (h1.trans z)
   have b:valueAt (q::qs) k=valueAt qs k:=by simp [valueAt,List.find?_cons,e']
   rw [kG e,b];exact ih
theorem KV.any {kvs:List (κ×V)} {vs:List (κ×Value)} (r:KV kvs vs) (k:κ):(kvs.any fun kv=>decide (kv.1=k))=vs.any fun kv=>decide (kv.1=k):=by
 unfold KV at r
 induction r with
 | nil=>rfl
 | cons h t ih=>rw [List.any_cons,List.any_cons,ih,h.1]
theorem KV.repl {kvs:List (κ×V)} {vs:List (κ×Value)} (r:KV kvs vs) (k:κ) {y:V} {u:Value} (ry:RelV y u) :
  KV (kvs.map fun kv=>if kv.1=k then (kv.1,y) else kv) (vs.map fun kv=>if kv.1=k then (kv.1,u) else kv):=by
 unfold KV at r ⊢
 induction r with
 | nil=>exact .nil
 | @cons p q ps qs h t ih=>
  rw [List.map_cons,List.map_cons]
  refine .cons ?_ ih
  obtain ⟨h1,h2⟩:=h
  by_cases e:p.1=k
  ·rw [if_pos e,if_pos (h1.symm.trans e)];exact ⟨h1,ry⟩
  ·rw [if_neg e,if_neg (fun z=>e (h1.trans z))];exact ⟨h1,h2⟩
theorem KV.put {kvs:List (κ×V)} {vs:List (κ×Value)} (r:KV kvs vs) (k:κ) {y:V} {u:Value} (ry:RelV y u):KV (putK kvs k y) (stored vs k u):=by
 unfold putK stored
 rw [r.any k]
 by_cases e:(vs.any fun kv=>decide (kv.1=k))=true
 ·rw [if_pos e,if_pos e];exact r.repl k ry
 ·rw [if_neg e,if_neg e];exact Paired.snoc r ⟨rfl,ry⟩
theorem KV.length {kvs:List (κ×V)} {vs:List (κ×Value)} (r:KV kvs vs):kvs.length=vs.length:=Paired.length r
end
theorem xx {P:Program} {w:World} {k:Key} {u:Value} (r:RelV (kV k) u):(cg P w).is k u=true:=by
 cases k with
 | inl i=>obtain ⟨t,e⟩:=(show ∃ t,u=Value.int i t from r);subst e;exact uL P w i t
 | inr x=>obtain ⟨t,e⟩:=(show ∃ t,u=Value.str x t from r);subst e;exact sD P w x t
theorem qe {P:Program} {w:World}:∀ {ks:List Key} {us:List Value},Vals (ks.map kV) us->ItemsAre (cg P w) ks us
 | [],_,r=>by rw [List.map_nil] at r;cases r;exact .nil
 | k::ks,_,r=>by
  rw [List.map_cons] at r
  cases r with
  | cons h t=>exact .cons (xx h) (qe t)
noncomputable abbrev KT (H:Hp):List (List Key×V)->List (List Key×Addr×Value)->Prop:=Paired fun p q=>p.1=q.1/\H q.2.1=some (.tup (p.1.map kV))/\RelV p.2 q.2.2
theorem KT.val {H:Hp} {kvs:List (List Key×V)} {xs:List (List Key×Addr×Value)} (r:KT H kvs xs) (k:List Key):nQ (kP kvs k) ((atKey xs k).map (·.2)):=by
 induction r with
 | nil=>exact True.intro
 | @cons p q ps qs h t ih=>
  obtain ⟨h1,_,h2⟩:=h
  by_cases e:p.1=k
  ·have e':q.1=k:=h1.symm.trans e
   have b:atKey (q::qs) k=some q.2:=by simp [atKey,List.find?_cons,e']
   rw [lg e,b];exact h2
  ·have e':¬ q.1=k:=fun z=>e (h1.trans z)
   have b:atKey (q::qs) k=atKey qs k:=by simp [atKey,List.find?_cons,e']
   rw [kG e,b];exact ih
theorem KT.repl {H:Hp} {kvs:List (List Key×V)} {xs:List (List Key×Addr×Value)} (r:KT H kvs xs) (k:List Key) {y:V} {u:Value} (ry:RelV y u) :
  KT H (kvs.map fun kv=>if kv.1=k then (kv.1,y) else kv) (xs.map (putAt k u)):=by
 induction r with
 | nil=>exact .nil
 | @cons p q ps qs h t ih=>
  rw [List.map_cons,List.map_cons]
  refine .cons ?_ ih
  obtain ⟨h1,h2,h3⟩:=h
  unfold putAt
  by_cases e:p.1=k
  ·rw [if_pos e,if_pos (h1.symm.trans e)];exact ⟨h1,h2,ry⟩
  ·rw [if_neg e,if_neg (fun z=>e (h1.trans z))];exact ⟨h1,h2,h3⟩
theorem KT.put {H:Hp} {kvs:List (List Key×V)} {xs:List (List Key×Addr×Value)} (r:KT H kvs xs) (k:List Key) {b:Addr} {y:V} {u:Value} (hb:H b=some (.tup (k.map kV))) (ry:RelV y u) :
  KT H (putK kvs k y) (storedH xs k b u):=by
 have e:(kvs.any fun kv=>decide (kv.1=k))=(atKey xs k).isSome:=by
  rw [oS,(r.val k).lU,Option.isSome_map]
 unfold putK storedH
 rw [e]
 by_cases q:(atKey xs k).isSome=true
 ·rw [if_pos q,if_pos q];exact r.repl k ry
 ·rw [if_neg q,if_neg q];exact Paired.snoc r ⟨rfl,hb,ry⟩
theorem KT.keeps {H H':Hp} {kvs:List (List Key×V)} {xs:List (List Key×Addr×Value)} (r:KT H kvs xs) (ht:∀ b ys,H b=some (.tup ys)->H' b=some (.tup ys)):KT H' kvs xs:=
 Paired.Ji r fun _ _ z=>⟨z.1,ht _ _ z.2.1,z.2.2⟩
section
variable {P:Program} {w:World} {H:Hp} {h:Heap} {a:Addr}
theorem G6 {u:HO} (ok:ku P w H h) (e:Rd H a u):bZ P w H h a u:=e.ok ok
theorem xP {kvs:List (Key×V)} (ok:ku P w H h) (e:Rd H a (.dK kvs)):kvs.length<=sizeLine/\(a == sysModules)=false/\∃ vs,KV kvs vs/\h.DictOf (cg P w) a vs:=
 show bZ P w H h a (.dK kvs) from G6 ok e
theorem LZ {kvs:List (Key×V)} (ok:ku P w H h) (e:H a=some (.dK kvs)):kvs.length<=sizeLine/\(a == sysModules)=false/\∃ vs,KV kvs vs/\h.DictOf (cg P w) a vs:=xP ok (.inl e)
theorem oM {ks:List Key} (ok:ku P w H h) (e:H a=some (.tup (ks.map kV))):(tupleKind (cg P w)).is h ks a:=by
 obtain ⟨_,its,r,o,h1,h2,_,n,h3⟩:=(show bZ P w H h a (.tup (ks.map kV)) from ok a _ e)
 exact ⟨o,its.toArray,n,h1,h2,h3,by simpa using qe r⟩
theorem wM {kvs:List (List Key×V)} (ok:ku P w H h) (e:Rd H a (.dT kvs)):kvs.length<=sizeLine/\(a == sysModules)=false /\
  ∃ xs,KT H kvs xs/\h.DictOfH (tupleKind (cg P w)) a xs:=by
 obtain ⟨z,y,xs,r,o,es,ep,h1,h2,h3,h4,h5⟩:=(show bZ P w H h a (.dT kvs) from G6 ok e)
 refine ⟨z,y,xs,r,o,es,ep,h1,h2,h3,h4,fun x hx=>?_,h5⟩
 have all:∀ {l:List (List Key×V)} {m:List (List Key×Addr×Value)},KT H l m->∀ x∈m,(tupleKind (cg P w)).is h x.1 x.2.1:=by
  intro l m q
  induction q with
  | nil=>intro x hx;exact nomatch hx
  | @cons p q ps qs hq t ih=>
   intro x hx
   rcases List.mem_cons.mp hx with e | hx
   ·subst e
    exact oM ok (by rw [<- hq.1];exact hq.2.1)
   ·exact ih x hx
 exact all r x hx
theorem Bg {kvs:List (List Key×V)} (ok:ku P w H h) (e:H a=some (.dT kvs)):kvs.length<=sizeLine/\(a == sysModules)=false /\
  ∃ xs,KT H kvs xs/\h.DictOfH (tupleKind (cg P w)) a xs:=wM ok (.inl e)
end
noncomputable def rQ (H:Hp) (a:Addr) (y:V) (r:Option V):Prop:=
 (∃ kvs k,Rd H a (.dK kvs)/\y=kV k/\r=kP kvs k)\/∃ kvs k b,Rd H a (.dT kvs)/\y=.ref b/\H b=some (.tup (k.map kV))/\r=kP kvs k
noncomputable def D_ (H:Hp) (a:Addr) (y v:V) (H':Hp):Prop:=
 (∃ kvs k,H a=some (.dK kvs)/\y=kV k/\kvs.length < sizeLine/\H'=upd H a (.dK (putK kvs k v))) \/
 ∃ kvs k b,H a=some (.dT kvs)/\y=.ref b/\H b=some (.tup (k.map kV))/\kvs.length < sizeLine/\H'=upd H a (.dT (putK kvs k v))
theorem rQ.t {H:Hp} {a b:Addr} {kvs:List (List Key×V)} {k:List Key} (e:H a=some (.dT kvs)) (eb:H b=some (.tup (k.map kV))):rQ H a (.ref b) (kP kvs k):=.inr ⟨kvs,k,b,.inl e,rfl,eb,rfl⟩
theorem D_.t {H:Hp} {a b:Addr} {kvs:List (List Key×V)} {k:List Key} {v:V} (e:H a=some (.dT kvs)) (eb:H b=some (.tup (k.map kV))) (hl:kvs.length < sizeLine) :
  D_ H a (.ref b) v (upd H a (.dT (putK kvs k v))):=.inr ⟨kvs,k,b,e,rfl,eb,hl,rfl⟩
section
variable {X:Cx} {pins:List (Addr×Obj)} {σ:St} {H:Hp} {s:Shared} {a:Addr} {y v:V} {u r:Value} {o:Option V} {A:Around} {E:Value->Shared->Prop}
theorem Inv.big (I:Inv X pins σ H s):sysModules < s.heap.objs.size:=by
 have h:mainGlobals < s.heap.objs.size:=(I.mod.glob.keeps I.bk).lt
 exact Nat.lt_trans (by decide) h
theorem zB {Q:Value->Shared->Prop} (hu:A.units+1 < cLine) (I:Inv X pins σ H s) (g:rQ H a y (some v)) (ry:RelV y u) (h:∀ w' s',Inv X pins σ H s'->RelV v w'->Q w' s') :
  wpAny (model X.prog X.w) A (getItem (.ref a) u) Q E s:=by
 rcases g with ⟨kvs,k,e,ey,l⟩ | ⟨kvs,k,b,e,ey,eb,l⟩
 ·subst ey
  obtain ⟨z,hd,vs,rel,dd⟩:=xP I.hok e
  obtain ⟨w',hw,rw'⟩:=nQ.some_of (v:=v) (o:=valueAt vs k) (by rw [l];exact rel.val k)
  exact wpAny_getItem_of (xx ry) dd.mapOf hw (h w' _ (I.tok _) rw')
 ·subst ey
  cases (show u=Value.ref b from ry)
  obtain ⟨z,hd,xs,rel,dd⟩:=wM I.hok e
  obtain ⟨w',hw,rw'⟩:=nQ.some_of (v:=v) (o:=(atKey xs k).map (·.2)) (by rw [l];exact rel.val k)
  obtain ⟨p,hp,hp2⟩:=Option.map_eq_some_iff.mp hw
  refine wpAny_getItem_heap (tupleKind_room_in1 hu) (oM I.hok eb) dd hp ?_
  rw [hp2]
  exact h w' _ (I.tok _) rw'
theorem EG {Q:Value->Shared->Prop} (hu:A.units+1 < cLine) (I:Inv X pins σ H s) (g:rQ H a y o) (ry:RelV y u) (h:∀ s',Inv X pins σ H s'->Q (.bool (!o.isSome)) s') :
  wpAny (model X.prog X.w) A (compareOp .NotIn u (.ref a)) Q E s:=by
 rcases g with ⟨kvs,k,e,ey,l⟩ | ⟨kvs,k,b,e,ey,eb,l⟩
 ·subst ey
  obtain ⟨z,hd,vs,rel,dd⟩:=xP I.hok e
  refine wpAny_notIn_of (xx ry) hd dd.mapOf ?_
  rw [<- (rel.val k).lU,<- l]
  exact h _ (I.tok _)
 ·subst ey
  cases (show u=Value.ref b from ry)
  obtain ⟨z,hd,xs,rel,dd⟩:=wM I.hok e
  refine wpAny_notIn_heap (tupleKind_room_in1 hu) (oM I.hok eb) hd dd ?_
  have q:=(rel.val k).lU
  rw [Option.isSome_map] at q
  rw [<- q,<- l]
  exact h _ (I.tok _)
theorem nM {h':Heap} {t':Nat} {ob:HO} (I:Inv X pins σ H s) (mu:Lw (H a)) (hs:Heap.SameBut a s.heap h') (he:∃ q,h'.get? a=some q) (new:bZ X.prog X.w (upd H a ob) h' a ob) :
  Inv X pins σ (upd H a ob) { s with heap:=h',toks:=t' }:=
 I.write (x:=a) (e:=a) mu (.inl rfl) (fun b q hb z=>(hs.2 b hb).trans z) he new
theorem JI {P:Program} {w:World} {H':Hp} {h':Heap} {kvs:List (Key×V)} {vs:List (Key×Value)} (z:kvs.length<=sizeLine) (hd:(a == sysModules)=false) (rel:KV kvs vs) (dd:h'.DictOf (cg P w) a vs) :
  bZ P w H' h' a (.dK kvs):=⟨z,hd,vs,rel,dd⟩
theorem zQ {H':Hp} {Q:Unit->Shared->Prop} (hu:A.units+1 < cLine) (I:Inv X pins σ H s) (g:D_ H a y v H') (ry:RelV y u) (rv:RelV v r) (h:∀ s',Inv X pins σ H' s'->Q () s') :
  wpAny (model X.prog X.w) A (setItem (.ref a) u r) Q E s:=by
 rcases g with ⟨kvs,k,e,ey,l,eH⟩ | ⟨kvs,k,b,e,ey,eb,l,eH⟩
 ·subst ey eH
  obtain ⟨z,hd,vs,rel,dd⟩:=LZ I.hok e
  have hz:vs.length<=sizeLine:=by rw [<- rel.length];exact z
  have hl:(putK kvs k v).length<=sizeLine:=by have:=mU kvs k v;omega
  refine wpAny_setItem_pairs (hsz:=hz) (xx ry) dd fun h' dd' hs=>h _ ?_
  have he:∃ q,h'.get? a=some q:=let ⟨q,_,_,hq,_⟩:=dd';⟨q,hq⟩
  exact nM I (by rw [e];exact True.intro) hs he (JI hl hd (rel.put k rv) dd')
 ·subst ey eH
  cases (show u=Value.ref b from ry)
  obtain ⟨z,hd,xs,rel,dd⟩:=Bg I.hok e
  have hz:xs.length<=sizeLine:=by rw [<- Paired.length rel];exact z
  have hl:(putK kvs k v).length<=sizeLine:=by have:=mU kvs k v;omega
  refine wpAny_setItem_heap (hsz:=hz) (tupleKind_room_in1 hu) (oM I.hok eb) dd fun h' dd' hs=>h _ ?_
  obtain ⟨q,es,ep,hq,h2,h3,h4,_,h5⟩:=dd'
  refine nM I (by rw [e];exact True.intro) hs ⟨q,hq⟩ ⟨hl,hd,_,(rel.put k eb rv).keeps fun c ys ec=>?_,q,es,ep,hq,h2,h3,h4,h5⟩
  rw [aN (Dy ec e (fun z=>nomatch z))]
  exact ec
end
section
variable {X:Cx} {pins:List (Addr×Obj)} {σ:St} {H:Hp} {s:Shared} {a:Addr} {kvs:List (Key×V)} {k:Key} {u:Value} {A:Around} {E:Value->Shared->Prop}
end
theorem r8 {X:Cx} {pins:List (Addr×Obj)} {σ:St} {H:Hp} {s:Shared} {a:Addr} {y:V} {o:Option V} (I:Inv X pins σ H s) (g:rQ H a y o):s.TypeIs (.ref a) "dict" := by
 rcases g with ⟨kvs,k,e,_,_⟩ | ⟨kvs,k,b,e,_,_,_⟩
 ·obtain ⟨_,_,vs,_,dd⟩:=xP I.hok e
  exact dd.typeIs
 ·obtain ⟨_,_,xs,_,dd⟩:=wM I.hok e
  exact dd.typeIs
section
variable {X:Cx} {o i e value:Expr} {pos pos' tpos:Pos} {td ty tv:TE}
end
theorem CG {P:Program} {w:World} {H:Hp} (h:Heap) (hb:sysModules < h.objs.size):bZ P w H (h.push { cls:=.type "dict",data:=.dict #[] }) h.objs.size (.dT []):=
 ⟨Nat.zero_le _,beq_eq_false_iff_ne.mpr (Ne.symm (Nat.ne_of_lt hb)),[],.nil,_,#[],0,Heap.get?_push_size _ rfl,⟨rfl,rfl,rfl⟩,rfl,rfl,List.nodup_nil⟩
section
variable {X:Cx} {pos:Pos}
end
structure M1 (X:Cx) (o:Expr) (m:Str) (apos:Pos) (e:Expr) (cpos:Pos):Prop where
 base:attributeBase o m X.env (eval o X.env)=eval o X.env
 few:((backTo cpos (starEach [e] X.env)).all (fun x=>!x.1) && (backToKw cpos (keywordEach [] X.env)).all (fun x=>x.1.isSome)
  && decide (([e]:List Expr).length+([]:List Keyword).length+(if ([]:List Keyword).isEmpty then 0 else 1) < 30))=true
 line:(apos.endLine == cpos.line)=true
 trees:backTo cpos (starEach [e] X.env)=[(false,eval e X.env)]
structure M2 (X:Cx) (o:Expr) (m:Str) (apos:Pos) (e f:Expr) (cpos:Pos):Prop where
 base:attributeBase o m X.env (eval o X.env)=eval o X.env
 few:((backTo cpos (starEach [e,f] X.env)).all (fun x=>!x.1) && (backToKw cpos (keywordEach [] X.env)).all (fun x=>x.1.isSome)
  && decide (([e,f]:List Expr).length+([]:List Keyword).length+(if ([]:List Keyword).isEmpty then 0 else 1) < 30))=true
 line:(apos.endLine == cpos.line)=true
 trees:backTo cpos (starEach [e,f] X.env)=[(false,eval e X.env),(false,eval f X.env)]
section
variable {X:Cx} {pins:List (Addr×Obj)} {σ:St} {H:Hp} {s:Shared} {a:Addr} {y d:V} {u r:Value} {o:Option V} {A:Around} {E:Value->Shared->Prop}
end
section
variable {X:Cx} {o e f:Expr} {apos cpos:Pos} {td ty tx:TE}
end
section
variable {X:Cx} {pins:List (Addr×Obj)} {σ:St} {H:Hp} {s:Shared} {a:Addr} {kvs:List (Key×V)} {A:Around} {E:Value->Shared->Prop}
end
section
variable {X:Cx} {pins:List (Addr×Obj)} {σ:St} {H:Hp} {s:Shared} {a:Addr} {y:V} {u:Value} {A:Around} {E:Value->Shared->Prop}
end
section
variable {X:Cx}
theorem E2 (hu:X.A.units+1 < cLine):Ig X (fun x y H Q=>∃ a v,x=.ref a/\rQ H a y (some v)/\Q v H):=by
 intro value slice pins s σ H x y v u Q I rx ry h hs
 obtain ⟨a,z,rfl,g,q⟩:=h
 cases rx
 have hT:=r8 I g
 unfold subscriptTail
 refine wpAny_bind ?_
 rw [getitemInPython_of_ne hT.not_modules]
 refine wpAny_bind (wpAny_specialOf hT PySem.F.slot_dict_getitem.lookup ?_)
 have fin:wpAny (model X.prog X.w) X.A (subscripted slice false (.ref a) u) (fun r s₃=>wpAny (model X.prog X.w) X.A (letTemporaryGo value (.ref a) r >>= fun _=>pure r) (EP X pins σ Q) X.xe s₃) X.xe s:=by
  rw [hs]
  exact wpAny_operating (zB hu I g ry fun w' s3 I3 rw'=>wpAny_bind (wpAny_letTemporaryGo (wpAny_pure ⟨z,H,I3,rw',q⟩)))
 first
  | exact wpAny_pure (wpAny_bind fin)
  | exact wpAny_bind (wpAny_pure (wpAny_bind fin))
  | exact wpAny_bind fin
theorem Ag (hu:X.A.units+1 < cLine):eU X (compareOp .NotIn) (fun y x H Q=>∃ a o,x=.ref a/\rQ H a y o/\Q (.bl (!o.isSome)) H):=by
 intro pins s σ H y x v u Q I ry rx h
 obtain ⟨a,o,rfl,g,q⟩:=h
 cases rx
 exact EG hu I g ry fun s3 I3=>⟨.bl (!o.isSome),H,I3,rfl,q⟩
theorem set_dict (hu:X.A.units+1 < cLine):Ae X (fun o i v H Q=>∃ a H',o=.ref a/\D_ H a i v H'/\Q H'):=by
 intro pins s σ H o i v ov iv u Q I ro ri rv h
 obtain ⟨a,H',rfl,g,q⟩:=h
 cases ro
 exact zQ hu I g ri rv fun s4 I4=>⟨H',I4,q⟩
noncomputable def IF (tk tv:TE):TE:=fun σ H Q=>∀ p,H p=none->tk σ (upd H p (.dT [])) fun x H1=>tv σ H1 fun y H2=>H2 p=some (.dT [])/\∃ b ks,x=.ref b/\H2 b=some (.tup (ks.map kV))/\Q (.ref p) (upd H2 p (.dT [(ks,y)]))
theorem Bv {k v:Expr} {pos:Pos} {tk tv:TE} (hu:X.A.units+1 < cLine) (hk:PE X k tk) (hv:PE X v tv):PE X (.Dict [some k] [v] pos) (IF tk tv):=by
 intro pins s σ H Q I q
 have hn:=I.hok.fresh (Nat.le_refl s.heap.objs.size)
 have I1:=I.laid (a:=s.heap.objs.size) (o:=.dT []) (h':=s.heap.push { cls:=.type "dict",data:=.dict #[] }) (t':=s.toks) (fun _ _ q=>Heap.get?_push_of_some _ q) (Nat.le_refl _) (CG s.heap I.big)
 refine wpAny_Dict_any rfl rfl (by simp) (show 1<=15 by decide) ?_
 refine pairTrees_cons_walk (bY (hk pins _ σ _ _ I1 (q _ hn)) fun kv s1 ⟨x,H1,I2,rx,q1⟩=>bY (hv pins s1 σ H1 _ I2 q1) fun vv s2 ⟨y,H2,I3,ry,e,b,ks,ex,eb,q2⟩=>pairTrees_nil_walk ?_)
 subst ex
 cases rx
 obtain ⟨z,hd,xs,rel,dd⟩:=Bg I3.hok e
 cases rel
 unfold storeAll
 rw [List.forIn_cons]
 refine wpAny_bind (wpAny_bind (wpAny_dictSet_heap (hsz:=by simp) (show X.A.units < cLine by omega) (oM I3.hok eb) dd fun h' dd' hs=>wpAny_pure ?_))
 dsimp only
 rw [List.forIn_nil]
 refine wpAny_pure ⟨.ref s.heap.objs.size,_,?_,rfl,q2⟩
 obtain ⟨q',es,ep,hq,h2,h3,h4,_,h5⟩:=dd'
 refine nM I3 (by rw [e];exact True.intro) hs ⟨q',hq⟩ ⟨by show 1<=sizeLine;decide,hd,_,(KT.put (kvs:=[]) .nil ks eb ry).keeps fun c ys ec=>?_,q',es,ep,hq,h2,h3,h4,h5⟩
 rw [aN (Dy ec e (fun z=>nomatch z))]
 exact ec
end
section
variable {P:Program} {w:World} {A:Around} {E:Value->Shared->Prop} {s:Shared} {it d:Addr} {i ep:Nat} {es:Array DictEntry} {o:Obj} {k0 v0:Value}
theorem EZ {Q:Option Value->Shared->Prop} (hi:IsItemIter s.heap it d i es.size ep k0 v0) (ho:s.heap.get? d=some o) (hd:o.data=.dict es ep) (lt:i < es.size)
  (q:∀ h',IsItemIterOut h' it d (i+1) es.size ep es[i].key es[i].val s.heap.objs.size->h'.get? s.heap.objs.size=some { cls:=.type "tuple",data:=.seq #[es[i].key,es[i].val] }->h'.objs.size=s.heap.objs.size+1 ->
   (∀ b ob,b≠it->s.heap.get? b=some ob->h'.get? b=some ob)->Q (some (.ref s.heap.objs.size)) { s with heap:=h' }) :
  wpAny (model P w) A (pyNext (.ref it)) Q E s:=by
 obtain ⟨hp,gn,dr,tk,os⟩:=s
 have ty:Shared.TypeIs ⟨hp,gn,dr,tk,os⟩ (.ref it) "dict_itemiterator" := ⟨_,hi,rfl⟩
 have own:Builtin.Dict_items.ownsTuple "dict_itemiterator" = true:=by decide
 have nn:¬ ((Value.ref d == Value.none)=true):=Bool.false_ne_true
 have n0:¬ ((i:Int) < 0):=by omega
 unfold pyNext
 refine wpAny_bind (wpAny_attempt (wpAny_callSpecial?_slot (name:=Str.ofString "__next__") ty PySem.F.slot_dict_itemiterator_next (wpAny_call_entry PySem.F.slot_dict_itemiterator_next ty PySem.F.entry_dict_itemiterator_next ?_ (PySem.F.args_dict_itemiterator_next_1 _))))
 refine wpAny_bind (wpAny_pure (wpAny_bind (wpAny_bind ?_)))
 first
  | refine wpAny_bind (wpAny_typeNameOfWhole_itemiter ty (wpAny_pure (wpAny_bind (wpAny_fieldsOf hi rfl ?_))))
  | refine wpAny_bind (wpAny_typeNameOf_itemiter ty (wpAny_pure (wpAny_bind (wpAny_fieldsOf hi rfl ?_))))
 simp only [own,if_true]
 show wpAny (model P w) _ (if (Value.ref d == Value.none)=true then _ else _) _ _ ⟨hp,gn,dr,tk,os⟩
 rw [if_neg nn]
 refine wpAny_bind (wpAny_pure (wpAny_bind (wpAny_dictEntries ho hd ?_)))
 rw [if_neg (show ¬ _ by simp)]
 refine wpAny_bind (wpAny_pure (wpAny_bind (wpAny_dictEpoch ho hd ?_)))
 rw [if_neg (show ¬ _ by simp)]
 refine wpAny_pure ?_
 simp only [n0,if_false,Int.toNat_natCast,Array.getElem?_eq_getElem lt]
 refine wpAny_bind ?_
 first
  | refine wpAny_bind (wpAny_typeNameOfWhole_itemiter ty (wpAny_pure (wpAny_bind (wpAny_isOneOf_itemiter ty ?_))))
  | refine wpAny_bind (wpAny_typeNameOf_itemiter ty (wpAny_pure (wpAny_bind (wpAny_isOneOf_itemiter ty ?_))))
 show wpAny (model P w) _ (setField (.ref it) 3 (rawInt ((i:Int)+1)) >>= _) _ _ _
 refine wpAny_bind (wpAny_setField_rec hi (show _ by simp) fun h1 e1 b1=>?_)
 have b1:Heap.SameBut it hp h1:=b1
 have e1:IsItemIter h1 it d (i+1) es.size ep k0 v0:=by
  have z:((i+1:Nat):Int)=(i:Int)+1:=by omega
  unfold IsItemIter
  rw [z]
  simpa [rawInt] using e1
 have ty1:Shared.TypeIs ⟨h1,gn,dr,tk,os⟩ (.ref it) "dict_itemiterator" := ⟨_,e1,rfl⟩
 refine wpAny_bind (wpAny_holding (wpAny_bind (wpAny_isOneOf_itemiter ty1 (wpAny_bind (wpAny_isOneOf_itemiter ty1 ?_)))))
 show wpAny (model P w) _ (Builtin.Dict_items.pairFromOwner (.ref it) 6 es[i].key es[i].val) _ _ ⟨h1,gn,dr,tk,os⟩
 delta Builtin.Dict_items.pairFromOwner
 refine wpAny_bind (wpAny_newTuple (?_))
 have il:it < hp.objs.size:=Heap.lt_size hi
 have sz1:h1.objs.size=hp.objs.size:=b1.1
 obtain ⟨h2,hh2⟩:∃ h2,h2=h1.push { cls:=.type "tuple",data:=.seq #[es[i].key,es[i].val] }:=⟨_,rfl⟩
 have e2:IsItemIter h2 it d (i+1) es.size ep k0 v0:=by rw [hh2];exact Heap.get?_push_of_some _ e1
 have t2:h2.get? hp.objs.size=some { cls:=.type "tuple",data:=.seq #[es[i].key,es[i].val] }:=by rw [hh2,<- sz1];exact Heap.get?_push_size _ rfl
 have sz2:h2.objs.size=hp.objs.size+1:=by rw [hh2,Heap.size_push,sz1]
 have kp2:∀ b ob,b≠it->hp.get? b=some ob->h2.get? b=some ob:=fun b ob nb eb=>by rw [hh2];exact Heap.get?_push_of_some _ (b1.extBut b ob nb eb)
 show wpAny (model P w) _ (Builtin.Dict_items.ownedTupleIsFree (.ref it) >>= _) _ _ ⟨h1.push { cls:=.type "tuple",data:=.seq #[es[i].key,es[i].val] },gn,dr,tk,os⟩
 rw [<- hh2,sz1]
 refine wpAny_bind ?_
 delta Builtin.Dict_items.ownedTupleIsFree
 refine wpAny_bind (wpAny_field e2 rfl (x:=.none) rfl (wpAny_pure ?_))
 simp only [if_true]
 refine wpAny_bind (wpAny_field e2 rfl (x:=k0) rfl (wpAny_bind (wpAny_field e2 rfl (x:=v0) rfl ?_)))
 refine wpAny_bind (wpAny_setField_rec e2 (show _ by simp) fun h3 e3 b3=>?_)
 have b3:Heap.SameBut it h2 h3:=b3
 have e3:IsItemIter h3 it d (i+1) es.size ep es[i].key v0:=e3
 refine wpAny_bind (wpAny_setField_rec e3 (show _ by simp) fun h4 e4 b4=>?_)
 have b4:Heap.SameBut it h3 h4:=b4
 have e4:IsItemIter h4 it d (i+1) es.size ep es[i].key es[i].val:=e4
 refine wpAny_bind (wpAny_setField_rec e4 (show _ by simp) fun h5 e5 b5=>?_)
 have b5:Heap.SameBut it h4 h5:=b5
 have e5:IsItemIterOut h5 it d (i+1) es.size ep es[i].key es[i].val hp.objs.size:=e5
 refine wpAny_bind (wpAny_setField_rec e5 (show _ by simp) fun h6 e6 b6=>?_)
 have b6:Heap.SameBut it h5 h6:=b6
 have e6:IsItemIterOut h6 it d (i+1) es.size ep es[i].key es[i].val hp.objs.size:=e6
 have kp6:∀ b ob,b≠it->h2.get? b=some ob->h6.get? b=some ob:=fun b ob nb eb=>b6.extBut b ob nb (b5.extBut b ob nb (b4.extBut b ob nb (b3.extBut b ob nb eb)))
 refine wpAny_bind (wpAny_letGo (wpAny_pure (wpAny_pure ⟨_,rfl,wpAny_pure (q h6 e6 (kp6 _ _ (Nat.ne_of_gt il) t2) ?_ fun b ob nb eb=>kp6 b ob nb (kp2 b ob nb eb))⟩)))
 show h6.objs.size=hp.objs.size+1
 rw [b6.1,b5.1,b4.1,b3.1,sz2]
theorem Jk {Q:Option Value->Shared->Prop} (hh:A.handled=none) (hi:IsItemIter s.heap it d i es.size ep k0 v0) (ho:s.heap.get? d=some o) (hd:o.data=.dict es ep) (ge:es.size<=i)
  (q:∀ h',Heap.ExtBut it s.heap h'->Q none { s with heap:=h' }):wpAny (model P w) A (pyNext (.ref it)) Q E s:=by
 have ty:s.TypeIs (.ref it) "dict_itemiterator" := ⟨_,hi,rfl⟩
 have own:Builtin.Dict_items.ownsTuple "dict_itemiterator" = true:=by decide
 have nn:¬ ((Value.ref d == Value.none)=true):=Bool.false_ne_true
 have n0:¬ ((i:Int) < 0):=by omega
 unfold pyNext
 refine wpAny_bind (wpAny_attempt (wpAny_callSpecial?_slot (name:=Str.ofString "__next__") ty PySem.F.slot_dict_itemiterator_next (wpAny_call_entry PySem.F.slot_dict_itemiterator_next ty PySem.F.entry_dict_itemiterator_next ?_ (PySem.F.args_dict_itemiterator_next_1 _))))
 refine wpAny_bind (wpAny_pure (wpAny_bind (wpAny_bind ?_)))
 first
  | refine wpAny_bind (wpAny_typeNameOfWhole_itemiter ty (wpAny_pure (wpAny_bind (wpAny_fieldsOf hi rfl ?_))))
  | refine wpAny_bind (wpAny_typeNameOf_itemiter ty (wpAny_pure (wpAny_bind (wpAny_fieldsOf hi rfl ?_))))
 simp only [own,if_true]
 show wpAny (model P w) _ (if (Value.ref d == Value.none)=true then _ else _) _ _ s
 rw [if_neg nn]
 refine wpAny_bind (wpAny_pure (wpAny_bind (wpAny_dictEntries ho hd ?_)))
 rw [if_neg (show ¬ _ by simp)]
 refine wpAny_bind (wpAny_pure (wpAny_bind (wpAny_dictEpoch ho hd ?_)))
 rw [if_neg (show ¬ _ by simp)]
 refine wpAny_pure ?_
 simp only [n0,if_false,Int.toNat_natCast,Array.getElem?_eq_none ge]
 refine wpAny_bind ?_
 first
  | refine wpAny_bind (wpAny_typeNameOfWhole_itemiter ty (wpAny_pure ?_))
  | refine wpAny_bind (wpAny_typeNameOf_itemiter ty (wpAny_pure ?_))
 show wpAny (model P w) _ (setField (.ref it) 2 .none >>= _) _ _ s
 refine wpAny_bind (wpAny_setField hi rfl (show _ by simp) ?_)
 show wpAny (model P w) _ (newExc (.type "StopIteration") [] >>= _) _ _ _
 refine wpAny_bind ?_
 simp only [newExc,newTuple]
 refine wpAny_bind (wpAny_newObj_type (wpAny_bind (m:=firstArgMember _ _) (wpAny_of_eq (a:=Value.none) (by first | rfl | (simp only [firstArgMember];rfl)) (wpAny_newObj_type ?_ (by size_fits)))) (by size_fits))
 simp only [raiseNew]
 have hn:A.in1.handled=none:=hh
 refine wpAny_bind (wpAny_handled (?_))
 rw [hn]
 refine wpAny_bind (wpAny_pure (wpAny_throw (?_)))
 refine wpAny_bind (wpAny_isInstance (b:=true) (T := "StopIteration") ⟨_,Heap.get?_push_size _ rfl,rfl⟩ isSubtype_stop (wpAny_pure (q _ (((Heap.SameBut.update ..).extBut.push _).push _))))
end
theorem Fo:entryFor table "dict_itemiterator.__iter__" = some Builtin.«dict_keyiterator.__iter__»:=entryFor_alias (by kernel_rfl) rfl (id' := "dict_keyiterator.__iter__") (by decide +kernel) (by kernel_rfl)
noncomputable def Na (d:Addr) (o:Obj) (u:HO) (ps:List (Addr×V)):It:=
 ⟨fun i H=>∃ a v,ps[i]?=some (a,v)/\H d=some (.frz o u),fun i H x H'=>∃ T,H T=none/\x=.ref T/\∀ a v,ps[i]?=some (a,v)->H'=upd H T (.tup [.ref a,v]),fun i H=>i=ps.length/\H d=some (.frz o u)⟩
theorem uQ {P:Program} {w:World} {K:PySem.W.Frag} {elts:List Expr} {x1:Nat} {tpos:Pos} (d it:Addr) {o:Obj} {u:HO} {es:Array DictEntry} {ep:Nat} {ps:List (Addr×V)} (hd:o.data=.dict es ep) (hl:ps.length=es.size)
  (hp:∀ i a v,ps[i]?=some (a,v)->∀ h:i < es.size,es[i].key=.ref a/\RelV v es[i].val):Turn P w K (.Tuple elts x1 tpos) (Na d o u ps) [it] it (fun i h=>∃ k0 v0,IsItemIter h it d i es.size ep k0 v0) where
 mem:=by simp
 obj:=fun i h st b hb=>by
  obtain ⟨k0,v0,st⟩:=st
  have:b=it:=by simpa using hb
  subst this
  exact ⟨_,st,fun v z=>by cases z⟩
 keep:=fun i h h' ⟨k0,v0,st⟩ k=>⟨k0,v0,k it (by simp) _ st⟩
 item:=by
  intro X hP hw hK hc i pins s σ H E I hf st hg
  subst hP hw hK
  obtain ⟨k0,v0,st⟩:=st
  obtain ⟨a,v,hx,hq⟩:=hg
  have ho:s.heap.get? d=some o:=(show bZ _ _ H s.heap d (.frz o u) from I.hok d _ hq).1
  have lt:i < es.size:=by rw [<- hl];exact (List.getElem?_eq_some_iff.mp hx).1
  obtain ⟨ek,rv⟩:=hp i a v hx lt
  refine EZ st ho hd lt fun h' hout hT hsz hk=>⟨_,rfl,wpAny_letOwnedTupleGo_items hout fun h2 he2 hs2=>?_⟩
  have fT:H s.heap.objs.size=none:=I.hok.fresh (Nat.le_refl _)
  have hil:it < s.heap.objs.size:=Heap.lt_size st
  have k2:∀ b ob,b≠it->s.heap.get? b=some ob->h2.get? b=some ob:=fun b ob h1 qb=>hs2.extBut b ob h1 (hk b ob h1 qb)
  have hT2:h2.get? s.heap.objs.size=some { cls:=.type "tuple",data:=.seq #[es[i].key,es[i].val] }:=hs2.extBut _ _ (Nat.ne_of_gt hil) hT
  obtain ⟨i0,i1,i2,i3,i4,i5⟩:=hf it (by simp)
  have nT:∀ b ob,s.heap.get? b=some ob->b≠s.heap.objs.size:=fun b ob qb=>Nat.ne_of_lt (Heap.lt_size qb)
  have ne_tr:∀ c y,H c=some y->c≠it:=fun c y qc z=>by rw [z,i0] at qc;cases qc
  have I2:Inv X pins σ (upd H s.heap.objs.size (.tup [.ref a,v])) { s with heap:=h2 }:=by
   refine I.step (g':=s.gens) (d':=s.drawn) (ch:=[it]) (fun b hb=>?_) (fun b ob _ _ hch qb _=>?_) (fun b ob _ _ hch qb _=>?_) (fun b ob hch qb n=>?_) (fun b ob hch qb=>?_) (fun b ys qb=>?_) (fun b ob u' qb=>?_) (fun b ps' qb=>?_) (fun m hm=>?_) (fun b u' qb=>?_) I.bare
   ·have:b=it:=by simpa using hb
    subst this
    exact ⟨i3,i1,i4,i5⟩
   ·exact k2 b ob (fun z=>hch (by simp [z])) qb
   ·exact ⟨ob.slots,k2 b ob (fun z=>hch (by simp [z])) qb⟩
   ·rw [aN (nT b ob qb)];exact n
   ·exact ⟨ob,k2 b ob (fun z=>hch (by simp [z])) qb⟩
   ·rw [aN (aU qb fT)];exact qb
   ·rw [aN (aU qb fT)];exact qb
   ·exact ⟨#[],by rw [aN (aU qb fT),qb];simp⟩
   ·obtain ⟨ob,es',ep',hob,r⟩:=hm
    exact ⟨ob,es',ep',k2 _ ob (Ne.symm i1) hob,r⟩
   ·by_cases z:b=s.heap.objs.size
    ·subst z
     rw [bG] at qb
     cases qb
     exact ⟨by show 2<=sizeLine;decide,[es[i].key,es[i].val],.cons ek (.cons rv .nil),⟨_,hT2,rfl,rfl,0,rfl⟩⟩
    ·rw [aN z] at qb
     refine (I.hok b u' qb).stay (fun c y hc q'=>k2 c y ?_ q') (fun c q'=>?_) fun c ys q'=>?_
     ·rcases hc with z | z
      ·rw [z];exact ne_tr b u' qb
      ·exact ne_tr c _ z
     ·rw [aN (aU q' fT)];exact q'
     ·rw [aN (aU q' fT)];exact q'
  refine ⟨.ref s.heap.objs.size,_,I2,rfl,⟨s.heap.objs.size,fT,rfl,fun a' v' hy=>?_⟩,⟨_,_,he2⟩,fun b hb=>?_⟩
  ·rw [hx] at hy
   cases hy
   rfl
  ·have:b=it:=by simpa using hb
   subst this
   rw [aN (Nat.ne_of_lt hil)];exact i0
 done:=by
  intro X hP hw hK hc i pins s σ H E I hf st hg
  subst hP hw hK
  obtain ⟨k0,v0,st⟩:=st
  obtain ⟨hi,hq⟩:=hg
  have ho:s.heap.get? d=some o:=(show bZ _ _ H s.heap d (.frz o u) from I.hok d _ hq).1
  refine Jk (I.ok.hd hc) st ho hd (by rw [<- hl];omega) fun h' hx=>⟨rfl,?_⟩
  obtain ⟨i0,i1,i2,i3,i4,i5⟩:=hf it (by simp)
  exact I.turned (t':=s.toks) (fun b ob hb qb=>hx b ob hb qb) i0 i1 i3 i4 i5
 self:=by
  intro A i s Q E st q
  obtain ⟨k0,v0,st⟩:=st
  have ty:s.TypeIs (.ref it) "dict_itemiterator" := ⟨_,st,rfl⟩
  exact wpAny_pyIter_slot ty PySem.F.slot_dict_itemiterator_iter (wpAny_call_entry PySem.F.slot_dict_itemiterator_iter ty Fo (wpAny_pure ⟨_,rfl, "dict_itemiterator",_,ty,PySem.F.slot_dict_itemiterator_next.lookup,q⟩) (PySem.F.args_dict_itemiterator_iter_1 _))
section
variable {X:Cx}
theorem tw {A:Around} {E:Value->Shared->Prop} {s:Shared} {d:Addr} {Q:Value->Shared->Prop} (ty:s.TypeIs (.ref d) "dict") (hd:(d == sysModules)=false)
  (q:Q (.ref s.heap.objs.size) { s with heap:=s.heap.push { cls:=.type "dict_items",data:=.fields #[.ref d] } }):wpAny (model X.prog X.w) A (call (.builtin "dict.items") [.ref d]) Q E s:=by
 refine wpAny_call_entry PySem.F.slot_dict_items ty PySem.F.entry_dict_items ?_ (PySem.F.args_dict_items_1 _)
 delta Builtin.«dict.items»
 refine wpAny_bind ?_
 delta Builtin.Dict.noArgs
 refine wpAny_bind (wpAny_notOrdered_dict ty ?_)
 show wpAny (model X.prog X.w) _ (pure d) _ _ s
 refine wpAny_pure ?_
 show wpAny (model X.prog X.w) _ (Builtin.Dict.showsAll d >>= _) _ _ s
 delta Builtin.Dict.showsAll
 have nd:¬ ((d == sysModules)=true):=by rw [hd];exact Bool.false_ne_true
 rw [if_neg nd]
 exact wpAny_bind (wpAny_pure (wpAny_bind (wpAny_newObj_type (wpAny_pure ⟨_,rfl,q⟩))))
theorem se {A:Around} {E:Value->Shared->Prop} {s:Shared} {v d:Addr} {o:Obj} {es:Array DictEntry} {ep:Nat} {Q:Value->Shared->Prop} (hv:s.heap.IsItemsView v d) (ho:s.heap.get? d=some o) (hd:o.data=.dict es ep)
  (q:Q (.ref s.heap.objs.size) { s with heap:=s.heap.push { cls:=.type "dict_itemiterator",data:=.fields #[.none,.bool false,.ref d,.int 0 0,.int es.size 0,.int ep 0,.none,.none] } }) :
  wpAny (model X.prog X.w) A (pyIter (.ref v)) Q E s:=by
 obtain ⟨ov,hov,hcv,hdv⟩:=id hv
 have own:Builtin.Dict_items.ownsTuple "dict_itemiterator" = true:=by decide
 refine wpAny_pyIter_slot hv.typeIs PySem.F.slot_dict_items_iter (wpAny_call_entry PySem.F.slot_dict_items_iter hv.typeIs PySem.F.entry_dict_items_iter ?_ (PySem.F.args_dict_items_iter_1 _))
 delta Builtin.«dict_items.__iter__»
 refine wpAny_bind (wpAny_pure (wpAny_bind ?_))
 delta Builtin.Dict_items.dictOf
 refine wpAny_bind (wpAny_field hov hdv (x:=.ref d) rfl (wpAny_pure (wpAny_bind ?_)))
 delta Builtin.Dict_items.newIterator
 refine wpAny_bind (wpAny_dictEntries ho hd (wpAny_bind (wpAny_dictEpoch ho hd ?_)))
 simp only [own,if_true]
 refine wpAny_newObj_type (wpAny_pure ⟨_,rfl, "dict_itemiterator",_,⟨_,Heap.get?_push_size _ rfl,rfl⟩,PySem.F.slot_dict_itemiterator_next.lookup,?_⟩) (by simp only [sizeOk,Builtin.Dict_items.ownedTupleFields,List.size_toArray,List.length_append,List.length_cons,List.length_nil,sizeLine_eq];omega)
 simpa [rawInt,Builtin.Dict_items.ownedTupleFields] using q
end
section
variable {X:Cx}
theorem kt_at {H:Hp}:∀ {kvs:List (List Key×V)} {xs:List (List Key×Addr×Value)},KT H kvs xs->kvs.length=xs.length/\∀ (i:Nat) (p:List Key×V),kvs[i]?=some p->∃ y:List Key×Addr×Value,xs[i]?=some y/\p.1=y.1/\H y.2.1=some (.tup (p.1.map kV))/\RelV p.2 y.2.2
 | [],[],_=>⟨rfl,fun i p h=>by simp at h⟩
 | [],_::_,r=>nomatch r
 | _::_,[],r=>nomatch r
 | a::kvs,b::xs,.cons z r=>by
  obtain ⟨l,q⟩:=kt_at r
  refine ⟨by simp [l],fun i p h=>?_⟩
  cases i with
  | zero=>
   have:a=p:=by simpa using h
   subst this
   exact ⟨b,rfl,z⟩
  | succ i=>exact q i p (by simpa using h)
noncomputable def Kr (to:TE):TI:=fun σ H R=>to σ H fun x H1=>∃ d kvs,x=.ref d/\H1 d=some (.dT kvs)/\∀ (o:Obj) (ps:List (Addr×V)),ps.length=kvs.length->(∀ (i:Nat) a v,ps[i]?=some (a,v)->∃ ks:List Key,kvs[i]?=some (ks,v)/\H1 a=some (.tup (ks.map kV)))->R (Na d o (.dT kvs) ps) (upd H1 d (.frz o (.dT kvs)))
theorem BR {elts:List Expr} {x1:Nat} {tpos apos cpos:Pos} {e:Expr} {to:TE} (he:PE X e to) (hbase:attributeBase e "items" X.env (eval e X.env)=eval e X.env:=by rfl) (hline:(apos.endLine == cpos.line)=true:=by rfl) :
  PI X (.Tuple elts x1 tpos) (.Call (.Attribute e "items" apos) [] [] cpos) (Kr to):=by
 intro pins s σ H R I h
 refine wpAny_Call_method0_late hbase hline (bY (he pins s σ H _ I h) fun v s1 ⟨x,H1,I1,r1,d,kvs,ex,ed,q1⟩=>?_)
 subst ex
 cases r1
 obtain ⟨z,hd,xs,rel,dd⟩:=Bg I1.hok ed
 have ty:=dd.typeIs (s:=s1)
 obtain ⟨ob,es,ep,g1,g2,g3,g4,g5,g6⟩:=id dd
 obtain ⟨kl,kt⟩:=kt_at rel
 refine ⟨"dict", "dict.items",PySem.F.plainAttrs_dict,PySem.F.slot_dict_items,PySem.F.type_dict_items,ty,fun a ea=>?_,Calls.callWith_builtin rfl (PySem.evalArgs_none (tw ty hd ?_))⟩
 ·cases ea
  exact ⟨ob,g1,g2.2.1⟩
 have g1':(s1.heap.push { cls:=.type "dict_items",data:=.fields #[.ref d] }).get? d=some ob:=Heap.get?_push_of_some _ g1
 refine se (o:=ob) (es:=es) (ep:=ep) ⟨_,Heap.get?_push_size _ rfl,rfl,rfl⟩ g1' g3 ?_
 have I2:Inv X pins σ H1 { s1 with heap:=(s1.heap.push { cls:=.type "dict_items",data:=.fields #[.ref d] }).push { cls:=.type "dict_itemiterator",data:=.fields #[.none,.bool false,.ref d,.int 0 0,.int es.size 0,.int ep 0,.none,.none] } }:=
  I1.kept (t':=s1.toks) fun b o eb=>Heap.get?_push_of_some _ (Heap.get?_push_of_some _ eb)
 have hnd:∀ b ys,H1 b=some (.tup ys)->upd H1 d (.frz ob (.dT kvs)) b=some (.tup ys):=fun b ys eb=>by
  rw [aN (Dy eb ed (fun z=>nomatch z))];exact eb
 have I3:Inv X pins σ (upd H1 d (.frz ob (.dT kvs))) _:=nM (t':=s1.toks) (ob:=.frz ob (.dT kvs)) I2 (by rw [ed];exact True.intro) ⟨rfl,fun _ _=>rfl⟩ ⟨ob,Heap.get?_push_of_some _ g1'⟩ ⟨Heap.get?_push_of_some _ g1',z,hd,xs,rel.keeps hnd,ob,es,ep,Heap.get?_push_of_some _ g1',g2,g3,g4,g6⟩
 have hes:es.size=xs.length:=by have:=congrArg List.length g4;simpa using this
 obtain ⟨ps,hps⟩:∃ ps:List (Addr×V),ps=(List.range kvs.length).map fun i=>((xs.getD i ([],0,.none)).2.1,(kvs.getD i ([],.non)).2):=⟨_,rfl⟩
 have pl:ps.length=kvs.length:=by rw [hps];simp
 have pat:∀ (i:Nat) a v,ps[i]?=some (a,v)->∃ (ks:List Key) (y:List Key×Addr×Value),kvs[i]?=some (ks,v)/\xs[i]?=some y/\y.2.1=a/\H1 a=some (.tup (ks.map kV))/\RelV v y.2.2:=fun i a v e=>by
  have hi:i < kvs.length:=by rw [<- pl];exact (List.getElem?_eq_some_iff.mp e).1
  obtain ⟨y,h1,h2,h3,h4⟩:=kt i kvs[i] (List.getElem?_eq_getElem hi)
  rw [hps,List.getElem?_map,List.getElem?_range hi] at e
  have e':((xs.getD i ([],0,.none)).2.1,(kvs.getD i ([],.non)).2)=(a,v):=Option.some.inj e
  rw [List.getD_eq_getElem?_getD,List.getD_eq_getElem?_getD,h1,List.getElem?_eq_getElem hi] at e'
  have ea:y.2.1=a:=congrArg Prod.fst e'
  have ev:kvs[i].2=v:=congrArg Prod.snd e'
  exact ⟨kvs[i].1,y,by rw [List.getElem?_eq_getElem hi,<- ev],h1,ea,by rw [<- ea];exact h3,by rw [<- ev];exact h4⟩
 refine ⟨(s1.heap.push { cls:=.type "dict_items",data:=.fields #[.ref d] }).objs.size,[(s1.heap.push { cls:=.type "dict_items",data:=.fields #[.ref d] }).objs.size],_,Na d ob (.dT kvs) ps,_,rfl,I3,uQ d _ g3 (by rw [pl,kl,hes]) (fun i a v e hlt=>?_),⟨.none,.none,Heap.get?_push_size _ rfl⟩,fun b hb=>?_,q1 ob ps pl fun i a v e=>?_⟩
 ·obtain ⟨ks,y,h1,h2,h3,h4,h5⟩:=pat i a v e
  have:es.toList[i]?=some (entryOfKey (tupleKind (cg X.prog X.w)) y):=by rw [g4,List.getElem?_map,h2];rfl
  have e2:es[i]=entryOfKey (tupleKind (cg X.prog X.w)) y:=by
   rw [Array.getElem?_toList,Array.getElem?_eq_getElem hlt] at this
   exact Option.some.inj this
  rw [e2,<- h3]
  exact ⟨rfl,h5⟩
 ·have eb:b=(s1.heap.push { cls:=.type "dict_items",data:=.fields #[.ref d] }).objs.size:=by simpa using hb
  have le:s1.heap.objs.size<=b:=by rw [eb,Heap.size_push];exact Nat.le_succ _
  refine I1.zo le ?_
  have nd:b≠d:=fun w=>absurd (Heap.lt_size g1) (by rw [<- w];exact Nat.not_lt.mpr le)
  rw [aN nd]
  exact I1.hok.fresh le
 ·obtain ⟨ks,y,h1,_,_,h4,_⟩:=pat i a v e
  exact ⟨ks,h1,h4⟩
end
noncomputable def C0 (e:Addr) (h:Heap):Prop:=∃ o vs,h.get? e=some o/\o.data=.fields vs/\vs[2]?=some .none/\o.dict=none
section
variable {e:Addr} {α β:Type}
end
structure Fly (l:List Env) (g:Heap) (pn:List (Addr×Obj)) (H:Hp) (e:Addr) (cls:Value) (h:Heap):Prop where
 ex:∃ (B:Heap) (a0:Value),Heap.FlyingW B l e cls a0 h/\(∀ a u,H a=some u->∃ o,B.get? a=some o)/\(∀ b o,g.get? b=some o->b∉frs l->∃ o',B.get? b=some o')/\(∀ p∈pn,∃ o',B.get? p.1=some o')/\C0 e h
structure Made (X:Cx) (H:Hp) (e:Addr) (cls:Value) (g:Heap) (h:Heap):Prop where
 ex:∃ (g':Heap) (vs:List Value),Heap.MadeExcOf g' h e cls vs/\g'.FunFrames X.base X.stack/\(∀ a u,H a=some u->∃ o,g'.get? a=some o)/\(∀ b o,g.get? b=some o->∃ o',g'.get? b=some o')/\(∀ p∈X.pn,∃ o',g'.get? p.1=some o')
noncomputable def Jf (X:Cx) (H:Hp) (e:Addr) (cls:Value) (s':Shared):Prop:=Made X H e cls X.s₀.heap s'.heap\/Fly X.stack X.s₀.heap X.pn H e cls s'.heap
section
variable {X:Cx} {pins:List (Addr×Obj)} {σ:L2.St} {H:Hp} {s':Shared} {e:Addr} {cls:Value}
end
section
variable {P:Program} {w:World} {K:PySem.W.Frag} {mg:Str->Option Value} {base:Heap} {N:List Str} {qual:Str} {scope:Scope} {f:Addr} {cd:Value} {A:Around} {outer:List Env} {s:Shared} {H:Hp} {E:XK}
noncomputable def EX (X:Cx):XK:=fun cls _ H'=>X.ex=[]/\∀ pins σ' s' e,Inv X pins σ' H' s'->Jf X H' e cls s'->X.xe (.ref e) s'
end
inductive FParts (X:Cx):List Expr->List (Str ⊕ TE)->Prop
 | nil:FParts X [] []
 | txt {x:Str} {j pos} {es:List Expr} {ps:List (Str ⊕ TE)} (h:FParts X es ps):FParts X (.Constant (.str x) j pos::es) (.inl x::ps)
 | val {e:Expr} {pos:Pos} {t:TE} {es:List Expr} {ps:List (Str ⊕ TE)} (he:PE X e t) (h:FParts X es ps):FParts X (.FormattedValue e (-1) none pos::es) (.inr t::ps)
noncomputable def xu:HO:=.ext fun _=>True
structure XO (C:Addr) (o:Obj):Prop where
 cls:o.cls=.ref C
 dict:o.dict=none
 ctx:∃ vs,o.data=.fields vs/\vs[2]?=some .none
structure Fr0 (X:Cx) (e:Addr):Prop where
 no:∀ o,X.s₀.heap.get? e≠some o
 tup:∀ xs,X.H₀ e≠some (.tup xs)
 frz:∀ o u,X.H₀ e≠some (.frz o u)
 tbl:∀ ps,X.H₀ e≠some (.tbl ps)
section
variable {X:Cx} {pins:List (Addr×Obj)} {σ:L2.St} {H:Hp} {s':Shared} {e:Addr} {cls:Value}
end
section
variable {X:Cx} {pn' pins:List (Addr×Obj)} {xe':Value->Shared->Prop} {σ:L2.St} {H:Hp} {s':Shared} {e C:Addr} {B h6:Heap} {a0:Value}
end
section
variable {X:Cx} {pins:List (Addr×Obj)} {σ:L2.St} {H:Hp} {s:Shared}
end
section
variable {M:Model} {A:Around} {E:Value->Shared->Prop} {h:Heap} {g:Array GenState} {d:Drawn} {t:Nat} {os:OsState} {C N D N':Addr} {nm q nm' q':Str} {bs bm bs' bm':List Value} {hdct hdct':Bool} {sn sn':List Str} {sub sub':List Value} {ab ab':Bool} {col col':Option Bool} {dd dd':Option Addr} {k0 k1 k2 k3 k5 k0' k1' k2' k3' k5':Option Value} {newId newId':String}
end
noncomputable def mroIn (K:PySem.W.Frag) (C:Addr):Option (List Value):=match K.lookup C with
 | some ⟨.type "type",_,.cls cd,sl⟩=>(match cd.mro,sl.toList with
  | .ref C'::bm,[_,_,_,_,some (.builtin _),_]=>if C'=C/\cd.hasDel=false then some bm else none
  | _,_=>none)
 | _=>none
structure ClsAt (h:Heap) (C:Addr) (bm:List Value):Prop where
 ex:∃ nm q N bs hdct sn sub ab col dd k0 k1 k2 k3 k5 newId,h.get? C=some (excClassObj nm q C N bs bm hdct sn sub ab col dd k0 k1 k2 k3 k5 newId)
section
variable {X:Cx} {pins pins':List (Addr×Obj)} {xe':Value->Shared->Prop} {σ:L2.St} {H:Hp} {s':Shared} {e C Dc:Addr} {bm bmD:List Value} {x n:Str} {i:Nat} {De:Ends} {b0:Stmt} {suite:List Stmt} {np hp:Pos}
end
open PySem.W in
structure XCls (K:PySem.W.Frag) (C:Addr):Prop where
 ga:findIn K (.ref C) "__getattribute__" = some (some (.builtin "BaseException.__getattribute__"))
 gt:findIn K (.ref C) "__getattr__" = some none
 fc:findObj K C none "__class__" = some (.bind (.builtin "getset_descriptor.__get__") (.builtin "object.__class__"))
 ob:PySem.W.mroIn K C (.type "object")=some true
 bs:subIn K (.ref C) (.type "BaseException")=some true
section
open PySem.W
variable {K:PySem.W.Frag} {C a:Addr} {ox:Obj} {prog:Program} {w:World} {A:Around} {E:Value->Shared->Prop} {h:Heap} {g:Array GenState} {d:Drawn} {t:Nat} {os:OsState}
end
section
variable {X:Cx} {C:Addr} {pins:List (Addr×Obj)} {σ:L2.St} {H:Hp} {s:Shared}
end
end L2
namespace L2
open PySem PySem.Spec PyProof.Rows
section
variable {prog:Program} {w:World} {A:Around} {E:Value->Shared->Prop} {s:Shared} {e n:Addr} {oe on:Obj} {vs ns:Array Value}
end
section
variable {X:Cx} {e C:Addr} {oe:Obj}
end
noncomputable def ID (A:Around):Around:={ A with handled:=none }
noncomputable def Ll (k:Nat) (A:Around):Prop:=Room k (ID A)
structure Hnd (A:Around) (H:Hp) (e:Addr) (oe:Obj) (C:Addr):Prop where
 hh:A.handled=some (.ref e)
 h0:H e=some (.frz oe xu)
 xo:XO C oe
structure FnOkH (P:Program) (w:World) (K:PySem.W.Frag) (mg:Str->Option Value) (base:Heap) (k:Nat) (f:Addr) (fd:FuncData) (ps:List Str) (sp:Sp):Prop where
 len:∀ vs H Q E,sp vs H Q E->vs.length=ps.length
 run:∀ (A:Around) (outer:List Env) (s:Shared) (H:Hp) (args:Args) (us:List Value) (vs:List V) (Q:VK) (e:Addr) (oe:Obj) (C:Addr),Ll k A->Hnd A H e oe C->Env0 P w K mg base A outer s H->BindsTo s fd args (ps.zip us)->Vals vs us->sp vs H Q E0 ->
  codeAny (model P w) A (.call (.ref f) args) (CR jL outer P w H s Q E0) s
end L2
namespace L2
open PySem PySem.Spec PyProof.Rows PySem.SeqAt
section
variable {X:Cx}
end
section
variable {X:Cx} {pos:Pos} {a b:Expr}
end
section
variable {X:Cx}
end
section
variable {prog:Program} {w:World} {A:Around} {E:Value->Shared->Prop} {s:Shared}
end
section
variable {prog:Program} {w:World} {A:Around} {E:Value->Shared->Prop} {s:Shared}
end
section
variable {X:Cx}
end
end L2
namespace L2
open PySem PySem.Spec PyProof.Rows
section
variable {X:Cx}
end
theorem IE {X:Cx} {use:Option (Value->Sem Unit)} {Q':Value->Shared->Prop} {tg iter elt:Expr} {ifs:List Expr} {scope:Scope} {pos:Pos} {N:List Str} {cap:List (Option Nat)} {wi:TI} {g:TG} {tc:TT} {te:TE} (hc:X.calm=true) (S:CpScope X scope N cap) (hi:PI X tg iter wi)
  (hg:∀ C s₀ H₀ ex,PG (bQ X scope N C s₀ H₀ ex) tg g) (ht:∀ C s₀ H₀ ex,Eh (bQ X scope N C s₀ H₀ ex) ifs tc) (he:∀ C s₀ H₀ ex,PE (bQ X scope N C s₀ H₀ ex) elt te)
  (hs:∀ x,foldedSetIterable iter X.env x=pure x:=by intro _;rfl):∀ (pins:List (Addr×Obj)) (s:Shared) (σ:St) (H:Hp) (Q:VK),Inv X pins σ H s->Lb cap wi g tc te σ H Q ->
  (∀ (s6:Shared) (C D:Addr) (H5:Hp) (m:Str->Option Value),s6.heap.Ns C m->iO X pins H5 C->(∀ h',Heap.SameBut C s6.heap h'->Inv X pins σ H5 { s6 with heap:=h' })->Q (.ref D) H5->∀ v,compPost (model X.prog X.w) X.A X.xe use Q' (.ref D) C (.ok v) s6) ->
  wpAny (model X.prog X.w) X.A (comprehension (.ListComp elt [⟨tg,iter,ifs,0⟩] scope pos) scope X.env (firstIterPos [⟨tg,iter,ifs,0⟩] pos) (newList []) (firstAsync [⟨tg,iter,ifs,0⟩]) (firstIter [⟨tg,iter,ifs,0⟩] X.env) use) Q' X.xe s:=by
 intro pins s σ H Q I h hfin
 have hfree:∀ y∈scope.names,y.2=.free->∃ c,X.env.cells.lookup y.1=some c:=fun y hy e=>I.ok.has _ (S.fr y hy e)
 refine wpAny_comprehension_free (use:=use) rfl hs (kr hfree) S.kind S.nm (bY (hi pins s σ H _ I h) fun xv s1 h1=>bY h1 fun itv s2 h2=>?_)
 obtain ⟨it,fp,tn,J,H2,rfl,I2,T,st2,f2,h2⟩:=h2
 refine wpAny_newObj_type (wpAny_newFunctionEnv S.nocell (by intro y hy;simp at hy) (fun h₁ hns₁ hsb₁=>?_) S.kind)
 obtain ⟨W,⟨m0,w0⟩,turn⟩:=h2 s2.heap.objs.size I2.fresh
 dsimp only at hns₁ hsb₁ ⊢
 have I3:Inv X pins σ (upd H2 s2.heap.objs.size (.lst [])) { s2 with heap:=s2.heap.push { cls:=.type "list",data:=.seq ([]:List Value).toArray } }:=I2.zH (t':=s2.toks) (its:=[]) .nil (Nat.zero_le _)
 have hfp:∀ b∈fp,∃ o,s2.heap.get? b=some o:=fun b hb=>by
  obtain ⟨o,e,_⟩:=T.obj 0 _ st2 b hb
  exact ⟨o,e⟩
 have neD:∀ b∈fp,b≠s2.heap.objs.size:=fun b hb=>by
  obtain ⟨o,e⟩:=hfp b hb
  exact Nat.ne_of_lt (Heap.lt_size e)
 have f3:∀ b∈fp,iO X pins (upd H2 s2.heap.objs.size (.lst [])) b:=fun b hb=>⟨by rw [aN (neD b hb)];exact (f2 b hb).1,(f2 b hb).2⟩
 have hDC:s2.heap.objs.size≠(s2.heap.push { cls:=.type "list",data:=.seq ([]:List Value).toArray }).objs.size:=by rw [Heap.size_push];exact Nat.ne_of_lt (Nat.lt_succ_self _)
 have old:∀ b o,(s2.heap.push { cls:=.type "list",data:=.seq ([]:List Value).toArray }).get? b=some o->h₁.get? b=some o:=fun b o e=>hsb₁.extBut b o (Nat.ne_of_lt (Heap.lt_size e)) (Heap.get?_push_of_some _ e)
 have I4:=uY (tk:=s2.toks+([]:List (Str×Value)).length) (fp:=fp) S I3 f3 (fun b hb=>by
  obtain ⟨o,e⟩:=hfp b hb
  exact ⟨o,Heap.get?_push_of_some _ e⟩) hns₁ old
 have st4:tn 0 h₁:=T.keep _ _ _ st2 fun b hb o e=>old b o (Heap.get?_push_of_some _ e)
 have stat:∀ {H':Hp},(∀ b∈fp,H' b=none)->∀ b∈fp,iO (bQ X scope N (s2.heap.push { cls:=.type "list",data:=.seq ([]:List Value).toArray }).objs.size { s2 with heap:=s2.heap.push { cls:=.type "list",data:=.seq ([]:List Value).toArray } } (upd H2 s2.heap.objs.size (.lst [])) fp) [] H' b:=fun hn b hb=>by
  have ok:=I4.ok
  refine ⟨hn b hb,(ok.exf b hb).1,ok.exfs b hb,.inl hb,fun x c e=>(ok.exf b hb).2 x c e,fun p hp=>nomatch hp⟩
 have loop:∀ s4:Shared,s4={ s2 with heap:=h₁,toks:=s2.toks+([]:List (Str×Value)).length } ->
   codeAny (model X.prog X.w) X.A (.compLoop (.ListComp elt [⟨tg,iter,ifs,0⟩] scope pos) 0 (.ref it) (.ref s2.heap.objs.size) (compEnvC scope (jb X.env scope.names []) (s2.heap.push { cls:=.type "list",data:=.seq ([]:List Value).toArray }).objs.size X.env))
    (compPost (model X.prog X.w) X.A X.xe use Q' (.ref s2.heap.objs.size) (s2.heap.push { cls:=.type "list",data:=.seq ([]:List Value).toArray }).objs.size) s4:=by
  rintro s4 rfl
  refine codeAny_loop rfl (fun n s'=>∃ i σ' H',Inv (bQ X scope N (s2.heap.push { cls:=.type "list",data:=.seq ([]:List Value).toArray }).objs.size { s2 with heap:=s2.heap.push { cls:=.type "list",data:=.seq ([]:List Value).toArray } } (upd H2 s2.heap.objs.size (.lst [])) fp) [] σ' H' s'/\tn i s'.heap/\(∀ b∈fp,H' b=none)/\W i n σ' H') (fun n s5 hI=>?_) m0 ⟨0,_,_,I4,st4,fun b hb=>(f3 b hb).1,w0⟩
  obtain ⟨i,σ5,H5,I5,st5,fr5,w5⟩:=hI
  show wpAny _ X.A ((compTurn (.ListComp elt [⟨tg,iter,ifs,0⟩] scope pos) 0 (.ref it) (.ref s2.heap.objs.size) (compEnvC scope (jb X.env scope.names []) (s2.heap.push { cls:=.type "list",data:=.seq ([]:List Value).toArray }).objs.size X.env)).onRaise (fun x=>do noteFrame x _;theTreesLotGoes x)) _ _ s5
  refine wpAny_noted ?_
  rw [compTurn_list]
  refine wpAny_bind (wpAny_standAt (wpAny_bind ?_))
  rcases turn i n σ5 H5 w5 with ⟨stop,q⟩ | ⟨go,step⟩
  ·refine bY (T.done (bQ X scope N (s2.heap.push { cls:=.type "list",data:=.seq ([]:List Value).toArray }).objs.size { s2 with heap:=s2.heap.push { cls:=.type "list",data:=.seq ([]:List Value).toArray } } (upd H2 s2.heap.objs.size (.lst [])) fp) rfl rfl rfl hc i [] s5 σ5 H5 _ I5 (stat fr5) st5 stop) fun r s6 ⟨hr,I6⟩=>?_
   subst hr
   obtain ⟨m6,hn6,_⟩:=I6.loc
   refine wpAny_pure (hfin s6 _ _ H5 m6 hn6 (I3.zo (Nat.le_refl _) I6.free) (fun h' sb=>?_) q _)
   have u6:=I6.base
   have nC:∀ b o,(s2.heap.push { cls:=.type "list",data:=.seq ([]:List Value).toArray }).get? b=some o->b≠(s2.heap.push { cls:=.type "list",data:=.seq ([]:List Value).toArray }).objs.size:=fun b o e=>Nat.ne_of_lt (Heap.lt_size e)
   refine I3.ze (ch:=fp) I6.os ⟨fun b o e n hb hx=>?_,fun b o e n hb hx=>?_,fun b o e n hx=>?_,fun b o e hx=>?_,u6.tups,u6.frzs,u6.tbls⟩ ?_ I6.bare ?_
   ·exact sb.extBut b o (nC b o e) (u6.keep b o e n hb hx)
   ·obtain ⟨sl,z⟩:=u6.slot b o e n hb hx
    exact ⟨sl,sb.extBut b _ (nC b o e) z⟩
   ·exact u6.free b o e n hx
   ·obtain ⟨o',z⟩:=u6.there b o e hx
    exact ⟨o',sb.extBut b _ (nC b o e) z⟩
   ·intro b o e
    have hb:∀ c v,H5 c=some v->c≠(s2.heap.push { cls:=.type "list",data:=.seq ([]:List Value).toArray }).objs.size:=fun c v e z=>by
     rw [z] at e
     have:=I6.free
     rw [show H5 (s2.heap.push { cls:=.type "list",data:=.seq ([]:List Value).toArray }).objs.size=none from this] at e
     cases e
    refine (I6.hok b o e).stay (fun c v hc q=>sb.extBut c v ?_ q) (fun _ q=>q) fun _ _ q=>q
    rcases hc with z | z
    ·rw [z];exact hb b o e
    ·exact hb c _ z
   ·intro b hb
    obtain ⟨_,z1,_,z3,z4,z5⟩:=f3 b hb
    exact ⟨z3,z1,z4,z5⟩
  ·refine bY (T.item (bQ X scope N (s2.heap.push { cls:=.type "list",data:=.seq ([]:List Value).toArray }).objs.size { s2 with heap:=s2.heap.push { cls:=.type "list",data:=.seq ([]:List Value).toArray } } (upd H2 s2.heap.objs.size (.lst [])) fp) rfl rfl rfl hc i [] s5 σ5 H5 _ I5 (stat fr5) st5 go) fun r s6 ⟨u,hr,h6⟩=>?_
   subst hr
   refine wpAny_bind (bY h6 fun _ s7 ⟨x,H7,I7,r7,y7,st7,fr7⟩=>?_)
   have I7':=I7.pinned (stat fr7) (T.obj _ _ st7)
   refine wpAny_bind (lX (hg _ _ _ fp _ s7 σ5 H7 x u _ I7' r7 (step x H7 y7)) fun _ s8 ⟨σ8,H8,I8,q8⟩=>?_)
   refine wpAny_bind (lX (ht _ _ _ fp _ s8 σ8 H8 _ I8 q8) fun ok s9 ⟨H9,I9,q9⟩=>?_)
   have again:∀ {s10:Shared} {H10:Hp},Inv (bQ X scope N (s2.heap.push { cls:=.type "list",data:=.seq ([]:List Value).toArray }).objs.size { s2 with heap:=s2.heap.push { cls:=.type "list",data:=.seq ([]:List Value).toArray } } (upd H2 s2.heap.objs.size (.lst [])) fp) ([]++jl fp s7.heap) σ8 H10 s10->(∃ m',m' < n/\W (i+1) m' σ8 H10) ->
     ∃ m,m < n/\∃ i σ' H',Inv (bQ X scope N (s2.heap.push { cls:=.type "list",data:=.seq ([]:List Value).toArray }).objs.size { s2 with heap:=s2.heap.push { cls:=.type "list",data:=.seq ([]:List Value).toArray } } (upd H2 s2.heap.objs.size (.lst [])) fp) [] σ' H' s10/\tn i s10.heap/\(∀ b∈fp,H' b=none)/\W i m σ' H':=fun {s10 H10} I10 ⟨m',hm,w10⟩=>by
    refine ⟨m',hm,i+1,σ8,H10,I10.fD,T.keep _ _ _ st7 fun b hb o e=>(I10.pin (b,o) (List.mem_append_right _ (List.mem_append_right _ (bV hb e)))).1,fun b hb=>?_,w10⟩
    obtain ⟨o,e,d⟩:=T.obj _ _ st7 b hb
    exact (I10.pin (b,o) (List.mem_append_right _ (List.mem_append_right _ (bV hb e)))).2.1
   cases ok with
   | false=>
    rw [if_neg Bool.false_ne_true] at q9
    exact wpAny_pure ⟨rfl,again I9 q9⟩
   | true=>
    rw [if_pos rfl] at q9
    refine wpAny_bind (wpAny_bind (lX (he _ _ _ fp _ s9 σ8 H9 _ I9 q9) fun y s10 ⟨v10,H10,I10,r10,ys,hD,hz,w10⟩=>?_))
    refine wpAny_bind (lX (jK _ s10 σ8 H10 (.ref s2.heap.objs.size) [v10] _ [y] (fun _ H'=>H'=upd H10 s2.heap.objs.size (.lst (ys++[v10]))) I10 rfl (.cons r10 .nil) ⟨_,ys,v10,rfl,rfl,hD,hz,rfl⟩) fun _ s11 ⟨_,H11,I11,_,e11⟩=>?_)
    subst e11
    exact wpAny_pure (wpAny_pure ⟨rfl,again I11 w10⟩)
 exact codeAny_compStart_list (loop _ rfl) (T.self _ 0 _ _ _ st4 (loop _ rfl))
theorem A8 {X:Cx} {i:Nat} {y:Str} {py spos:Pos} {tg iter elt:Expr} {ifs:List Expr} {scope:Scope} {pos:Pos} {N:List Str} {cap:List (Option Nat)} {wi:TI} {g:TG} {tc:TT} {te:TE}
  (hN:X.N.Nodup) (hi':X.N[i]?=some y) (hx:Loc X.env.scope y) (hc:X.calm=true) (S:CpScope X scope N cap) (hi:PI X tg iter wi)
  (hg:∀ C s₀ H₀ ex,PG (bQ X scope N C s₀ H₀ ex) tg g) (ht:∀ C s₀ H₀ ex,Eh (bQ X scope N C s₀ H₀ ex) ifs tc) (he:∀ C s₀ H₀ ex,PE (bQ X scope N C s₀ H₀ ex) elt te)
  (hsw:swapsWith (.ListComp elt [⟨tg,iter,ifs,0⟩] scope pos) (some (.Name y py)) spos.line X.env=pure true)
  (hf:X.fn y=true\/X.env.scope.names.lookup y=some .local) (hs:∀ x,foldedSetIterable iter X.env x=pure x:=by intro _;rfl) :
  PS X (.Assign [.Name y py] (.ListComp elt [⟨tg,iter,ifs,0⟩] scope pos) spos) (Gf (Lb cap wi g tc te) (D5 i)):=by
 intro pins s σ H D I h
 rw [exec_Assign_Name_used _ _ _ _ hsw]
 refine wpAny_bind (wpAny_standAt (wpAny_bind ?_))
 show wpAny _ X.A (do let _ <- comprehension (.ListComp elt [⟨tg,iter,ifs,0⟩] scope pos) scope X.env (firstIterPos [⟨tg,iter,ifs,0⟩] pos) (newList []) (firstAsync [⟨tg,iter,ifs,0⟩]) (firstIter [⟨tg,iter,ifs,0⟩] X.env) (some (assign (.Name y py) X.env))) _ _ s
 refine wpAny_bind (wpAny_mono (IE (Q':=fun _ s'=>SP X pins D .next s') hc S hi hg ht he hs pins s σ H _ I h ?_) (fun _ s' hq=>wpAny_pure (wpAny_pure hq)) fun _ _ e=>e)
 intro s6 C Dd H5 m hn fk inv q v
 have Ia:=inv s6.heap (Heap.SameBut.refl _ _)
 obtain ⟨oC,hoC⟩:∃ o,s6.heap.get? C=some o/\∀ v,o.data≠.cell v:=by
  obtain ⟨o,es,ep,e,d,_⟩:=hn
  exact ⟨o,e,fun v z=>by rw [d] at z;cases z⟩
 have Ip:=Ia.pinned (fp:=[C]) (fun b hb=>by rw [List.mem_singleton] at hb;rw [hb];exact fk) (fun b hb=>by rw [List.mem_singleton] at hb;rw [hb];exact ⟨oC,hoC⟩)
 show wpAny _ X.A (assign (.Name y py) X.env (.ref Dd)) _ _ s6
 refine bY (yW hN hi' hx hf _ s6 σ H5 (.ref Dd) (.ref Dd) _ Ip rfl q) fun _ s7 ⟨σ7,H7,I7,q7⟩=>?_
 have hp:=I7.pin (C,oC) (List.mem_append_right _ (List.mem_append_right _ (bV (List.mem_singleton.mpr rfl) hoC.1)))
 refine ⟨m,hn.at' fun o e=>by rw [hoC.1] at e;cases e;exact hp.1,fun h' sb=>?_⟩
 have nC:∀ c v,H7 c=some v->c≠C:=fun c v e z=>by rw [z,hp.2.1] at e;cases e
 refine ⟨σ7,H7,?_,q7⟩
 refine I7.fD.ze (ch:=[C]) rfl ⟨fun b o e n hb hx=>?_,fun b o e n hb hx=>?_,fun b o e n hx=>n,fun b o e hx=>?_,fun _ _ e=>e,fun _ _ _ e=>e,fun _ _ e=>⟨#[],by rw [Array.append_empty];exact e⟩⟩ ?_ I7.bare ?_
 ·exact sb.extBut b o (by simpa using hx) e
 ·exact ⟨o.slots,sb.extBut b o (by simpa using hx) e⟩
 ·exact ⟨o,sb.extBut b o (by simpa using hx) e⟩
 ·intro b o e
  refine (I7.hok b o e).stay (fun c v hc q=>sb.extBut c v ?_ q) (fun _ q=>q) fun _ _ q=>q
  rcases hc with z | z
  ·rw [z];exact nC b o e
  ·exact nC c _ z
 ·intro b hb
  rw [List.mem_singleton] at hb
  rw [hb]
  exact ⟨fk.2.2.2.1,fk.2.1,fk.2.2.2.2.1,fk.2.2.2.2.2⟩
section
variable {X:Cx} {tg:Expr}
end
section
variable {prog:Program} {w:World} {A:Around} {E:Value->Shared->Prop} {s:Shared}
end
section
variable {X:Cx} {o e:Expr} {to:TE} {tl:TO} {p2 spos pos:Pos}
end
end L2
namespace Sx
open PySem PyProof.Rows
structure Ord where
 lt:Nat->Nat->Bool
 Gm:∀ i,lt i i=false
 tr:∀ i j k,lt i j=true->lt j k=true->lt i k=true
 neg:∀ i j k,lt i k=true->lt i j=true\/lt j k=true
noncomputable def P (o:Ord) (i j:Nat):Prop:=o.lt i j=true\/(o.lt j i=false/\i < j)
theorem Ord.M6 (o:Ord) {i j:Nat} (h:o.lt i j=true):o.lt j i=false:=by
 cases e:o.lt j i with
 | false=>rfl
 | true=>have:=o.tr _ _ _ h e;rw [o.Gm] at this;cases this
theorem P.Gm {o:Ord} {i:Nat} (h:P o i i):False:=by
 rcases h with h | ⟨_,h⟩
 ·rw [o.Gm] at h;cases h
 ·omega
theorem P.trans {o:Ord} {i j k:Nat} (a:P o i j) (b:P o j k):P o i k:=by
 rcases a with a | ⟨a,a'⟩
 ·rcases b with b | ⟨b,b'⟩
  ·exact .inl (o.tr _ _ _ a b)
  ·rcases o.neg i k j a with z | z
   ·exact .inl z
   ·rw [b] at z;cases z
 ·rcases b with b | ⟨b,b'⟩
  ·rcases o.neg j i k b with z | z
   ·rw [a] at z;cases z
   ·exact .inl z
  ·refine .inr ⟨?_,by omega⟩
   cases e:o.lt k i with
   | false=>rfl
   | true=>
    rcases o.neg k j i e with z | z
    ·rw [b] at z;cases z
    ·rw [a] at z;cases z
theorem P.of_lt {o:Ord} {i j:Nat} (h:o.lt i j=true):P o i j:=.inl h
theorem P.mZ {o:Ord} {i j:Nat} (h:o.lt j i=false) (hij:i < j):P o i j:=.inr ⟨h,hij⟩
theorem P.lt {o:Ord} {i j:Nat} (h:P o i j) (hij:j < i):o.lt i j=true:=by
 rcases h with h | ⟨_,h⟩
 ·exact h
 ·omega
theorem P.ge {o:Ord} {i j:Nat} (h:P o i j):o.lt j i=false:=by
 rcases h with h | ⟨h,_⟩
 ·exact o.M6 h
 ·exact h
noncomputable def So (o:Ord) (g:Nat->Nat) (a b:Nat):Prop:=∀ i j,a<=i->i < j->j < b->P o (g i) (g j)
noncomputable def Cl (g:Nat->Nat) (a b:Nat):Prop:=∀ i,a<=i->i < b->a<=g i/\g i < b
noncomputable def rev (g:Nat->Nat) (i j:Nat):Nat->Nat:=fun k=>if i<=k/\k < j then g (i+j - 1 - k) else g k
noncomputable def mv (g:Nat->Nat) (src dst:Nat):Nat->Nat:=fun k=>if k=dst then g src else if dst < k/\k<=src then g (k - 1) else g k
theorem oG {g:Nat->Nat} {i j k:Nat} (h:i<=k) (h2:k < j):rev g i j k=g (i+j - 1 - k):=if_pos ⟨h,h2⟩
theorem fR {g:Nat->Nat} {i j k:Nat} (h:k < i\/j<=k):rev g i j k=g k:=if_neg (by omega)
theorem Bd {g:Nat->Nat} {s d:Nat}:mv g s d d=g s:=if_pos rfl
theorem sf {g:Nat->Nat} {s d k:Nat} (h:d < k) (h2:k<=s):mv g s d k=g (k - 1):=by
 unfold mv;rw [if_neg (by omega),if_pos ⟨h,h2⟩]
theorem rT {g:Nat->Nat} {s d k:Nat} (hd:d<=s) (h:k < d\/s < k):mv g s d k=g k:=by
 unfold mv;rw [if_neg (by omega),if_neg (by omega)]
section
variable {prog:Program} {w:World} {A:Around} {E:Value->Shared->Prop} {s:Shared} {o:Ord} {N:Nat} {f:Nat->Keyed} {kd:SortKind} {g:Nat->Nat} {p:Array (Nat×Nat×Nat)} {st:SortSt}
noncomputable def qB (prog:Program) (w:World) (A:Around) (s:Shared) (o:Ord) (N:Nat) (f:Nat->Keyed) (kd:SortKind):Prop:=
 ∀ i j,i < N->j < N->∀ (E':Value->Shared->Prop) (Q:Bool->Shared->Prop),Q (o.lt i j) s->wpAny (model prog w) A (keyLt' kd (f i).1 (f j).1) Q E' s
structure Sg (N:Nat) (f:Nat->Keyed) (kd:SortKind) (g:Nat->Nat) (p:Array (Nat×Nat×Nat)) (st:SortSt):Prop where
 size:(arrOf st).size=N
 get:∀ i,i < N->(arrOf st)[i]?=some (f (g i))
 lt:∀ i,i < N->g i < N
 kind:kindOf st=kd
 failed:failedOf st=none
 pend:pendingOf st=p
theorem nR (C:qB prog w A s o N f kd) (hk:kindOf st=kd) {i j:Nat} (hi:i < N) (hj:j < N) {Q:Option Bool->SortSt->Prop} (q:Q (some (o.lt i j)) st):wpS (model prog w) A E s (lt' (f i) (f j)) Q st:=by
 rw [lt'_eq]
 refine wpS_bind (wpS_get ?_)
 rw [hk]
 refine wpS_bind (wpS_lift (wpAny_attempt (C i j hi hj _ _ ⟨rfl,?_⟩)))
 exact wpS_pure q
theorem bq {xs:Array Keyed} {i:Nat} {x:Keyed} (e:xs[i]?=some x) {Q:Keyed->SortSt->Prop} (q:Q x st):wpS (model prog w) A E s (elem' xs i) Q st:=by
 rw [elem'_eq,e];exact wpS_pure q
theorem kE (C:qB prog w A s o N f kd) (h:Sg N f kd g p st) {i j:Nat} (hi:i < N) (hj:j < N) {Q:Option Bool->SortSt->Prop} (q:Q (some (o.lt (g i) (g j))) st):wpS (model prog w) A E s (ltAt' i j) Q st:=by
 rw [ltAt'_eq]
 refine wpS_bind (wpS_get ?_)
 show wpS _ _ _ _ (do let u <- elem' (arrOf st) i;let v <- elem' (arrOf st) j;lt' u v) Q st
 exact wpS_bind (bq (h.get i hi) (wpS_bind (bq (h.get j hj) (nR C h.kind (h.lt i hi) (h.lt j hj) q))))
theorem Sg.arr (h:Sg N f kd g p st) {xs:Array Keyed} {g':Nat->Nat} (hs:xs.size=N) (hg:∀ i,i < N->xs[i]?=some (f (g' i))) (hl:∀ i,i < N->g' i < N):Sg N f kd g' p (setArr st xs):=⟨hs,hg,hl,h.kind,h.failed,h.pend⟩
theorem m_ (h:Sg N f kd g p st) {i j:Nat} (hj:j<=N) {Q:Unit->SortSt->Prop} (q:∀ st',Sg N f kd (rev g i j) p st'->Q () st'):wpS (model prog w) A E s (reverseSlice' i j) Q st:=by
 rw [reverseSlice'_eq]
 refine wpS_modify (q _ (h.arr (by rw [mirror_size];exact h.size) (fun k hk=>?_) fun k hk=>?_))
 ·rw [getElem?_mirror_all (by rw [h.size];exact hj)]
  unfold rev
  by_cases c:i<=k/\k < j
  ·rw [if_pos c,if_pos c];exact h.get _ (by omega)
  ·rw [if_neg c,if_neg c];exact h.get _ hk
 ·unfold rev
  by_cases c:i<=k/\k < j
  ·rw [if_pos c];exact h.lt _ (by omega)
  ·rw [if_neg c];exact h.lt _ hk
theorem Iz (h:Sg N f kd g p st) {a b:Nat} (ha:a < N) (hb:b<=a) {Q:Unit->SortSt->Prop} (q:∀ st',Sg N f kd (mv g a b) p st'->Q () st'):wpS (model prog w) A E s (moveDown' a b) Q st:=by
 rw [moveDown'_eq]
 refine wpS_modify (q _ (h.arr (by rw [bubble_size];exact h.size) (fun k hk=>?_) fun k hk=>?_))
 ·rw [getElem?_bubble (by rw [h.size];exact ha) _ (by omega),show a - (a - b)=b by omega]
  unfold mv
  by_cases c:k=b
  ·rw [if_pos c,if_pos c];exact h.get _ ha
  ·rw [if_neg c,if_neg c]
   by_cases c2:b < k/\k<=a
   ·rw [if_pos c2,if_pos c2];exact h.get _ (by omega)
   ·rw [if_neg c2,if_neg c2];exact h.get _ hk
 ·unfold mv
  by_cases c:k=b
  ·rw [if_pos c];exact h.lt _ ha
  ·rw [if_neg c]
   by_cases c2:b < k/\k<=a
   ·rw [if_pos c2];exact h.lt _ (by omega)
   ·rw [if_neg c2];exact h.lt _ hk
structure Rn (o:Ord) (g0 g:Nat->Nat) (a b:Nat):Prop where
 out:∀ i,i < a\/b<=i->g i=g0 i
 cl:Cl g a b
 so:So o g a b
theorem IG {g0:Nat->Nat} {lo k l:Nat} (R:Rn o g0 g lo (lo+k)) (hk:g (lo+k)=lo+k) (hl:l<=k) (h1:∀ i,i < l->P o (g (lo+i)) (lo+k)) (h2:∀ i,l<=i->i < k->P o (lo+k) (g (lo+i))):Rn o g0 (mv g (lo+k) (lo+l)) lo (lo+(k+1)) where
 out i hi:=by rw [rT (by omega) (by omega)];exact R.out i (by omega)
 cl i a b:=by
  by_cases c:i=lo+l
  ·subst c;rw [Bd,hk];omega
  ·by_cases c2:lo+l < i
   ·rw [sf c2 (by omega)]
    have:=R.cl (i - 1) (by omega) (by omega)
    omega
   ·rw [rT (by omega) (by omega)]
    have:=R.cl i (by omega) (by omega)
    omega
 so i j a b d:=by
  by_cases c:i=lo+l
  ·subst c
   rw [Bd,sf b (by omega),hk]
   have:=h2 (j - 1 - lo) (by omega) (by omega)
   rwa [show lo+(j - 1 - lo)=j - 1 by omega] at this
  ·by_cases c2:lo+l < i
   ·rw [sf c2 (by omega),sf (by omega) (by omega)]
    exact R.so _ _ (by omega) (by omega) (by omega)
   ·rw [rT (k:=i) (by omega) (by omega)]
    by_cases c3:j=lo+l
    ·subst c3
     rw [Bd,hk]
     have:=h1 (i - lo) (by omega)
     rwa [show lo+(i - lo)=i by omega] at this
    ·by_cases c4:lo+l < j
     ·rw [sf c4 (by omega)]
      exact R.so _ _ (by omega) (by omega) (by omega)
     ·rw [rT (by omega) (by omega)]
      exact R.so _ _ (by omega) (by omega) (by omega)
theorem Jx (C:qB prog w A s o N f kd) {g0:Nat->Nat} {lo n ok:Nat} (h:Sg N f kd g p st) (hn:lo+n<=N) (h1:1<=ok) (hok:ok<=n) (R:Rn o g0 g lo (lo+ok)) (hid:∀ i,lo+ok<=i->i < lo+n->g0 i=i)
  {Q:Bool->SortSt->Prop} (q:∀ g' st',Sg N f kd g' p st'->Rn o g0 g' lo (lo+n)->Q true st'):wpS (model prog w) A E s (binarySort' lo n ok) Q st:=by
 rw [binarySort'_eq,show max ok 1=ok by omega]
 refine wpS_bind (wpS_mono (wpS_forRange (I:=fun k c st'=>c=(none,())/\∃ g',Sg N f kd g' p st'/\Rn o g0 g' lo (lo+min k n))
  (Q:=fun c st'=>c=(none,())/\∃ g',Sg N f kd g' p st'/\Rn o g0 g' lo (lo+n)) ?step ?fin ?init) ?post)
 case post=>
  rintro c st' ⟨rfl,g',h',R'⟩
  exact wpS_pure (q g' st' h' R')
 case init=>exact ⟨rfl,g,h,by rw [show min ok n=ok by omega];exact R⟩
 case fin=>
  rintro c st' ⟨hc,g',h',R'⟩
  exact ⟨hc,g',h',by rwa [show min (max ok n) n=n by omega] at R'⟩
 case step=>
  rintro k c st' hak hkn ⟨rfl,g',h',R'⟩
  rw [show min k n=k by omega] at R'
  have gk:g' (lo+k)=lo+k:=by rw [R'.out _ (by omega)];exact hid _ (by omega) (by omega)
  refine wpS_bind (wpS_mono (wpS_forRange (I:=fun x c s2=>s2=st'/\∃ u v,c=(none,u,v)/\u<=v/\v<=k/\v - u<=k - x /\
    (∀ i,i < u->P o (g' (lo+i)) (lo+k))/\(∀ i,v<=i->i < k->P o (lo+k) (g' (lo+i))))
   (Q:=fun c s2=>s2=st'/\∃ u v,c=(none,u,v)/\u<=k /\
    (∀ i,i < u->P o (g' (lo+i)) (lo+k))/\(∀ i,u<=i->i < k->P o (lo+k) (g' (lo+i)))) ?istep ?ifin ?iinit) ?ipost)
  case iinit=>exact ⟨rfl,0,k,rfl,by omega,by omega,by omega,fun i hi=>by omega,fun i h1 h2=>by omega⟩
  case ifin=>
   rintro c s2 ⟨rfl,u,v,rfl,huv,hvk,hm,low,top⟩
   have:u=v:=by omega
   subst this
   exact ⟨rfl,u,u,rfl,hvk,low,top⟩
  case istep=>
   rintro x c s2 _ hxk ⟨rfl,u,v,rfl,huv,hvk,hm,low,top⟩
   dsimp only
   by_cases hge:u>=v
   ·rw [if_pos hge]
    have:u=v:=by omega
    subst this
    exact wpS_pure ⟨rfl,u,u,rfl,hvk,low,top⟩
   ·rw [if_neg hge]
    have hmk:(u+v) / 2 < k:=by omega
    have gm:=R'.cl (lo+(u+v) / 2) (by omega) (by omega)
    refine wpS_bind (kE C h' (by omega) (by omega) ?_)
    rw [gk]
    cases hless:o.lt (lo+k) (g' (lo+(u+v) / 2))
    case true=>
     simp only [if_true]
     refine wpS_pure ⟨rfl,u,(u+v) / 2,rfl,by omega,by omega,by omega,low,fun i h1 h2=>?_⟩
     by_cases c:i=(u+v) / 2
     ·subst c;exact .inl hless
     ·exact (P.of_lt hless).trans (R'.so _ _ (by omega) (by omega) (by omega))
    case false=>
     simp only [Bool.false_eq_true,if_false]
     refine wpS_pure ⟨rfl,(u+v) / 2+1,v,rfl,by omega,by omega,by omega,fun i h1=>?_,top⟩
     have last:=P.mZ hless gm.2
     by_cases c:i=(u+v) / 2
     ·subst c;exact last
     ·exact (R'.so _ _ (by omega) (by omega) (by omega)).trans last
  case ipost=>
   rintro c s2 ⟨rfl,u,v,rfl,huk,low,top⟩
   dsimp only
   refine wpS_bind (Iz h' (by omega) (by omega) fun st3 h3=>?_)
   refine wpS_pure ⟨rfl,_,h3,?_⟩
   rw [show min (k+1) n=k+1 by omega]
   exact IG R' gk huk low top
end
noncomputable abbrev As:=Option (Option Nat)×Nat
noncomputable abbrev Ds:=Option (Option Nat)×Nat×Nat
noncomputable def B_ (lo a nrem:Nat):StateT SortSt Sem As:=
 forIn [a:nrem] ((none,a):As) fun _ c=>do
  let x <- ltAt' (lo+c.2) (lo+c.2 - 1)
  match x with
  | some b=>if b=true then pure (ForInStep.done (none,c.2)) else pure (ForInStep.yield (none,c.2+1))
  | _=>pure (ForInStep.done (some none,c.2))
noncomputable def ug (lo n nrem:Nat):StateT SortSt Sem (Option Nat):=do
 reverseSlice' lo (lo+n)
 let c <- B_ lo n nrem
 match c.1 with
 | some r=>pure r
 | none=>pure (some c.2)
noncomputable def Fx (lo n nrem:Nat):StateT SortSt Sem Ds:=
 forIn [n:nrem] ((none,n,0):Ds) fun _ c=>do
  let x <- ltAt' (lo+c.2.1) (lo+c.2.1 - 1)
  match x with
  | some b=>
   if b=true then
    if c.2.2 > 0 then do
     reverseSlice' (lo+c.2.1 - (c.2.2+1)) (lo+c.2.1)
     pure (ForInStep.yield (none,c.2.1+1,0))
    else pure (ForInStep.yield (none,c.2.1+1,0))
   else do
    let x <- ltAt' (lo+c.2.1 - 1) (lo+c.2.1)
    match x with
    | some b=>
     if b=true then pure (ForInStep.done (none,c.2.1,c.2.2))
     else pure (ForInStep.yield (none,c.2.1+1,c.2.2+1))
    | _=>pure (ForInStep.done (some none,c.2.1,c.2.2))
  | _=>pure (ForInStep.done (some none,c.2.1,c.2.2))
noncomputable def C4 (lo n nrem:Nat):StateT SortSt Sem (Option Nat):=do
 liftM (rule "list.sort.descending-run")
 let c <- Fx lo (n+1) nrem
 match c.1 with
 | some r=>pure r
 | none=>
  if c.2.2 > 0 then do
   reverseSlice' (lo+c.2.1 - (c.2.2+1)) (lo+c.2.1)
   ug lo c.2.1 nrem
  else ug lo c.2.1 nrem
theorem count_eq (lo nrem:Nat):countRun' lo nrem=(do
  let c <- B_ lo 1 nrem
  match c.1 with
  | some r=>pure r
  | none=>
   if (c.2 == nrem)=true then pure (some c.2)
   else if c.2 > 1 then do
    let x <- ltAt' lo (lo+c.2 - 1)
    match x with
    | some b=>if b=true then pure (some c.2) else do
      reverseSlice' lo (lo+c.2)
      C4 lo c.2 nrem
    | _=>pure none
   else C4 lo c.2 nrem):=by
 rw [countRun'_eq]
 dsimp only
 unfold C4 ug Fx B_
 congr 1
 funext c
 obtain ⟨r,n⟩:=c
 cases r with
 | some r=>rfl
 | none=>
  dsimp only
  split
  ·rfl
  ·split
   ·congr 1
    funext x
    cases x with
    | none=>rfl
    | some b=>
     dsimp only
     split
     ·rfl
     ·congr 1
      funext _r
      congr 1
      funext _u
      congr 1
      congr 1
      funext s2
      obtain ⟨r2,n2,q2⟩:=s2
      cases r2 with
      | some r2=>rfl
      | none=>
       dsimp only
       split
       ·congr 1
        funext _v
        congr 1
        funext _w
        congr 1
        funext s3
        obtain ⟨r3,n3⟩:=s3
        cases r3 <;> rfl
       ·congr 1
        funext _w
        congr 1
        funext s3
        obtain ⟨r3,n3⟩:=s3
        cases r3 <;> rfl
   ·congr 1
    funext _u
    congr 1
    congr 1
    funext s2
    obtain ⟨r2,n2,q2⟩:=s2
    cases r2 with
    | some r2=>rfl
    | none=>
     dsimp only
     split
     ·congr 1
      funext _v
      congr 1
      funext _w
      congr 1
      funext s3
      obtain ⟨r3,n3⟩:=s3
      cases r3 <;> rfl
     ·congr 1
      funext _w
      congr 1
      funext s3
      obtain ⟨r3,n3⟩:=s3
      cases r3 <;> rfl
section
variable {prog:Program} {w:World} {A:Around} {E:Value->Shared->Prop} {s:Shared} {o:Ord} {N:Nat} {f:Nat->Keyed} {kd:SortKind} {g g0:Nat->Nat} {p:Array (Nat×Nat×Nat)} {st:SortSt}
theorem Rn.snoc {a b:Nat} (R:Rn o g0 g a b) (hab:a < b) (hb:g b=b) (h:o.lt b (g (b - 1))=false):Rn o g0 g a (b+1) where
 out i hi:=R.out i (by omega)
 cl i h1 h2:=by
  by_cases c:i=b
  ·subst c;omega
  ·have:=R.cl i h1 (by omega);omega
 so i j h1 h2 h3:=by
  by_cases c:j=b
  ·subst c
   rw [hb]
   have l:=R.cl (j - 1) (by omega) (by omega)
   have last:P o (g (j - 1)) j:=P.mZ h l.2
   by_cases c2:i=j - 1
   ·subst c2;exact last
   ·exact (R.so i (j - 1) h1 (by omega) (by omega)).trans last
  ·exact R.so i j h1 h2 (by omega)
theorem DC (C:qB prog w A s o N f kd) {lo a nrem:Nat} (h:Sg N f kd g p st) (hn:lo+nrem<=N) (h1:1<=a) (han:a<=nrem) (R:Rn o g0 g lo (lo+a)) (hid:∀ i,lo+a<=i->i < lo+nrem->g0 i=i)
  {Q:As->SortSt->Prop} (q:∀ n,a<=n->n<=nrem->Rn o g0 g lo (lo+n)->(n=nrem\/o.lt (lo+n) (g (lo+n - 1))=true)->Q (none,n) st):wpS (model prog w) A E s (B_ lo a nrem) Q st:=by
 unfold B_
 refine wpS_forRange (I:=fun x c st'=>st'=st/\c=(none,x)/\Rn o g0 g lo (lo+x)) ?step ?fin ⟨rfl,rfl,R⟩
 case fin=>
  rintro c st' ⟨rfl,rfl,R'⟩
  rw [show max a nrem=nrem by omega] at R' ⊢
  exact q nrem han (Nat.le_refl _) R' (.inl rfl)
 case step=>
  rintro x c st' hax hxn ⟨rfl,rfl,R'⟩
  dsimp only
  have gx:g (lo+x)=lo+x:=by rw [R'.out _ (by omega)];exact hid _ (by omega) (by omega)
  refine wpS_bind (kE C h (by omega) (by omega) ?_)
  rw [gx]
  cases hl:o.lt (lo+x) (g (lo+x - 1))
  case true=>
   simp only [if_true]
   exact wpS_pure (q x hax (by omega) R' (.inr hl))
  case false=>
   simp only [Bool.false_eq_true,if_false]
   exact wpS_pure ⟨rfl,rfl,R'.snoc (by omega) gx hl⟩
structure Dc (o:Ord) (g0 g:Nat->Nat) (a b q:Nat):Prop where
 out:∀ i,i < a\/b<=i->g i=g0 i
 cl:Cl g a b
 few:a+(q+1)<=b
 dn:∀ i j,a<=i->i < j->j < b->i < b - (q+1)->P o (g j) (g i)
 id:∀ i,b - (q+1)<=i->i < b->g i=i
 al:∀ i j,b - (q+1)<=i->i < b->b - (q+1)<=j->j < b->o.lt i j=false
theorem Dc.turn {a b q:Nat} (D:Dc o g0 g a b q):(∀ i,i < a\/b<=i->rev g (b - (q+1)) b i=g0 i)/\Cl (rev g (b - (q+1)) b) a b/\(∀ i j,a<=i->i < j->j < b->P o (rev g (b - (q+1)) b j) (rev g (b - (q+1)) b i))/\(∀ i,b - (q+1)<=i->i < b->∃ k,rev g (b - (q+1)) b i=k/\b - (q+1)<=k/\k < b):=by
 have few:=D.few
 have inn:∀ i,b - (q+1)<=i->i < b->rev g (b - (q+1)) b i=b - (q+1)+b - 1 - i:=fun i h1 h2=>by
  rw [oG h1 h2]
  exact D.id _ (by omega) (by omega)
 refine ⟨fun i hi=>?_,fun i h1 h2=>?_,fun i j h1 h2 h3=>?_,fun i h1 h2=>⟨_,inn i h1 h2,by omega,by omega⟩⟩
 ·rw [fR (by omega)];exact D.out i hi
 ·by_cases c:i < b - (q+1)
  ·rw [fR (by omega)];exact D.cl i h1 h2
  ·rw [inn i (by omega) h2];omega
 ·by_cases c:i < b - (q+1)
  ·rw [fR (k:=i) (by omega)]
   by_cases c2:j < b - (q+1)
   ·rw [fR (by omega)];exact D.dn i j h1 h2 h3 c
   ·rw [inn j (by omega) h3]
    have:=D.dn i (b - (q+1)+b - 1 - j) h1 (by omega) (by omega) c
    rwa [D.id _ (by omega) (by omega)] at this
  ·rw [inn i (by omega) (by omega),inn j (by omega) h3]
   exact P.mZ (D.al _ _ (by omega) (by omega) (by omega) (by omega)) (by omega)
noncomputable def Fin (o:Ord) (g0 g:Nat->Nat) (a b:Nat):Prop:=(∀ i,i < a\/b<=i->g i=g0 i)/\Cl g a b/\(∀ i j,a<=i->i < j->j < b->P o (g j) (g i))
theorem Dc.sQ {a b:Nat} (D:Dc o g0 g a b 0):Fin o g0 g a b:=⟨D.out,D.cl,fun i j h1 h2 h3=>D.dn i j h1 h2 h3 (by omega)⟩
theorem Fin.rn {a b:Nat} (D:Fin o g0 g a b):Rn o g0 (rev g a b) a b where
 out i hi:=by rw [fR hi];exact D.1 i hi
 cl i h1 h2:=by
  rw [oG h1 h2];exact D.2.1 _ (by omega) (by omega)
 so i j h1 h2 h3:=by
  rw [oG h1 (by omega),oG (by omega) h3]
  exact D.2.2 _ _ (by omega) (by omega) (by omega)
theorem Fin.add {a b:Nat} (D:Fin o g0 g a b) (hb:g b=b) (hab:a < b) (h:∀ i,a<=i->i < b->P o b (g i)):Dc o g0 g a (b+1) 0 where
 out i hi:=D.1 i (by omega)
 cl i h1 h2:=by
  by_cases c:i=b
  ·subst c;omega
  ·have:=D.2.1 i h1 (by omega);omega
 few:=by omega
 dn i j h1 h2 h3 _:=by
  by_cases c:j=b
  ·subst c;rw [hb];exact h i h1 h2
  ·exact D.2.2 i j h1 h2 (by omega)
 id i h1 h2:=by
  have:i=b:=by omega
  rw [this,hb]
 al i j h1 h2 h3 h4:=by
  have:i=j:=by omega
  rw [this];exact o.Gm _
theorem yi (C:qB prog w A s o N f kd) {lo n nrem:Nat} (h:Sg N f kd g p st) (hn:lo+nrem<=N) (h1:1<=n) (han:n<=nrem) (D:Fin o g0 g lo (lo+n)) (hid:∀ i,lo<=i->i < lo+nrem->g0 i=i)
  {Q:Option Nat->SortSt->Prop} (q:∀ m g' st',Sg N f kd g' p st'->1<=m->m<=nrem->Rn o g0 g' lo (lo+m)->Q (some m) st'):wpS (model prog w) A E s (ug lo n nrem) Q st:=by
 unfold ug
 refine wpS_bind (m_ h (by omega) fun st2 h2=>?_)
 exact wpS_bind (DC C h2 hn h1 han D.rn (fun i a b=>hid i (by omega) b) fun m hm1 hm2 R _=>wpS_pure (q m _ _ h2 (by omega) hm2 R))
theorem J6 (C:qB prog w A s o N f kd) {lo n nrem:Nat} (h:Sg N f kd g p st) (hn:lo+nrem<=N) (h1:1<=n) (han:n<=nrem) (D:Dc o g0 g lo (lo+n) 0) (hid:∀ i,lo<=i->i < lo+nrem->g0 i=i)
  {Q:Ds->SortSt->Prop} (q:∀ m e g' st',Sg N f kd g' p st'->1<=m->m<=nrem->Dc o g0 g' lo (lo+m) e->Q (none,m,e) st'):wpS (model prog w) A E s (Fx lo n nrem) Q st:=by
 unfold Fx
 refine wpS_forRange (I:=fun x c st'=>∃ e g',c=(none,x,e)/\Sg N f kd g' p st'/\Dc o g0 g' lo (lo+x) e) ?step ?fin ⟨0,g,rfl,h,D⟩
 case fin=>
  rintro c st' ⟨e,g',rfl,h',D'⟩
  rw [show max n nrem=nrem by omega] at D' ⊢
  exact q nrem e g' st' h' (by omega) (Nat.le_refl _) D'
 case step=>
  rintro x c st' hax hxn ⟨e,g',rfl,h',D'⟩
  dsimp only
  have few:=D'.few
  have gx:g' (lo+x)=lo+x:=by rw [D'.out _ (by omega)];exact hid _ (by omega) (by omega)
  have gy:g' (lo+x - 1)=lo+x - 1:=D'.id _ (by omega) (by omega)
  refine wpS_bind (kE C h' (by omega) (by omega) ?_)
  rw [gx,gy]
  cases hl:o.lt (lo+x) (lo+x - 1)
  case true=>
   simp only [if_true]
   by_cases he:e > 0
   ·rw [if_pos he]
    obtain ⟨t1,t2,t3,t4⟩:=D'.turn
    refine wpS_bind (m_ h' (by omega) fun st2 h2=>wpS_pure ⟨0,_,rfl,h2,?_⟩)
    refine Fin.add (b:=lo+x) ⟨t1,t2,t3⟩ (by rw [fR (by omega)];exact gx) (by omega) fun i a b=>?_
    by_cases c:lo+x - (e+1)<=i
    ·obtain ⟨k,ek,k1,k2⟩:=t4 i c b
     rw [ek]
     rcases o.neg _ k _ hl with z | z
     ·exact .inl z
     ·rw [D'.al _ _ k1 k2 (by omega) (by omega)] at z;cases z
    ·rw [fR (by omega)]
     have:=D'.dn i (lo+x - 1) a (by omega) (by omega) (by omega)
     rw [gy] at this
     exact (P.of_lt hl).trans this
   ·rw [if_neg he]
    have:e=0:=by omega
    subst this
    refine wpS_pure ⟨0,_,rfl,h',Fin.add (b:=lo+x) D'.sQ gx (by omega) fun i a b=>?_⟩
    by_cases c:i=lo+x - 1
    ·subst c;rw [gy];exact .inl hl
    ·have:=D'.dn i (lo+x - 1) a (by omega) (by omega) (by omega)
     rw [gy] at this
     exact (P.of_lt hl).trans this
  case false=>
   simp only [Bool.false_eq_true,if_false]
   refine wpS_bind (kE C h' (by omega) (by omega) ?_)
   rw [gx,gy]
   cases hg:o.lt (lo+x - 1) (lo+x)
   case true=>
    simp only [if_true]
    exact wpS_pure (q x e g' st' h' (by omega) (by omega) D')
   case false=>
    simp only [Bool.false_eq_true,if_false]
    refine wpS_pure ⟨e+1,g',rfl,h',?_⟩
    have eq1:∀ i,lo+x - (e+1)<=i->i < lo+x->o.lt i (lo+x)=false/\o.lt (lo+x) i=false:=fun i a b=>by
     constructor
     ·cases z:o.lt i (lo+x) with
      | false=>rfl
      | true=>
       rcases o.neg _ (lo+x - 1) _ z with y | y
       ·rw [D'.al _ _ a b (by omega) (by omega)] at y;cases y
       ·rw [hg] at y;cases y
     ·cases z:o.lt (lo+x) i with
      | false=>rfl
      | true=>
       rcases o.neg _ (lo+x - 1) _ z with y | y
       ·rw [hl] at y;cases y
       ·rw [D'.al _ _ (by omega) (by omega) a b] at y;cases y
    exact {
     out:=fun i hi=>D'.out i (by omega)
     cl:=fun i a b=>by
      by_cases c:i=lo+x
      ·subst c;omega
      ·have:=D'.cl i a (by omega);omega
     few:=by omega
     dn:=fun i j a b c d=>by
      by_cases z:j=lo+x
      ·subst z
       rw [gx]
       have y:=D'.dn i (lo+x - 1) a (by omega) (by omega) (by omega)
       rw [gy] at y
       have gi:=D'.cl i a (by omega)
       rcases y with y | ⟨_,y⟩
       ·rcases o.neg _ (lo+x) _ y with v | v
        ·rw [hg] at v;cases v
        ·exact .inl v
       ·omega
      ·exact D'.dn i j a b (by omega) (by omega)
     id:=fun i a b=>by
      by_cases z:i=lo+x
      ·subst z;exact gx
      ·exact D'.id i (by omega) (by omega)
     al:=fun i j a b c d=>by
      by_cases z:i=lo+x
      ·subst z
       by_cases y:j=lo+x
       ·subst y;exact o.Gm _
       ·exact (eq1 j (by omega) (by omega)).2
      ·by_cases y:j=lo+x
       ·subst y;exact (eq1 i (by omega) (by omega)).1
       ·exact D'.al i j (by omega) (by omega) (by omega) (by omega) }
theorem yZ (C:qB prog w A s o N f kd) {lo n nrem:Nat} (h:Sg N f kd g p st) (hn:lo+nrem<=N) (han:n+1<=nrem) (D:Dc o g0 g lo (lo+(n+1)) 0) (hid:∀ i,lo<=i->i < lo+nrem->g0 i=i)
  {Q:Option Nat->SortSt->Prop} (q:∀ m g' st',Sg N f kd g' p st'->1<=m->m<=nrem->Rn o g0 g' lo (lo+m)->Q (some m) st'):wpS (model prog w) A E s (C4 lo n nrem) Q st:=by
 unfold C4
 refine wpS_bind (wpS_lift (wpAny_rule ⟨rfl,?_⟩))
 refine wpS_bind (J6 C h hn (by omega) han D hid fun m e g' st' h' m1 m2 D'=>?_)
 dsimp only
 by_cases he:e > 0
 ·rw [if_pos he]
  obtain ⟨t1,t2,t3,_⟩:=D'.turn
  exact wpS_bind (m_ h' (by omega) fun st2 h2=>yi C h2 hn m1 m2 ⟨t1,t2,t3⟩ hid q)
 ·rw [if_neg he]
  have:e=0:=by omega
  subst this
  exact yi C h' hn m1 m2 D'.sQ hid q
theorem Dp (C:qB prog w A s o N f kd) {lo nrem:Nat} (h:Sg N f kd g p st) (hn:lo+nrem<=N) (h1:1<=nrem) (hid:∀ i,lo<=i->i < lo+nrem->g i=i)
  {Q:Option Nat->SortSt->Prop} (q:∀ m g' st',Sg N f kd g' p st'->1<=m->m<=nrem->Rn o g g' lo (lo+m)->Q (some m) st'):wpS (model prog w) A E s (countRun' lo nrem) Q st:=by
 rw [count_eq]
 refine wpS_bind (DC C h hn (Nat.le_refl 1) h1 (g0:=g) ⟨fun _ _=>rfl,fun i a b=>?_,fun i j a b c=>by omega⟩ (fun i a b=>hid i (by omega) b) fun n n1 n2 R hor=>?_)
 ·have:i=lo:=by omega
  subst this
  rw [hid i (Nat.le_refl _) (by omega)];omega
 dsimp only
 by_cases hnn:n=nrem
 ·rw [if_pos (by simpa using hnn)]
  exact wpS_pure (q n g st h n1 n2 R)
 ·rw [if_neg (by simpa using hnn)]
  have hlt:=hor.resolve_left hnn
  rw [hid (lo+n - 1) (by omega) (by omega)] at hlt
  have gn:g (lo+n)=lo+n:=hid _ (by omega) (by omega)
  by_cases hgt:n > 1
  ·rw [if_pos hgt]
   refine wpS_bind (kE C h (by omega) (by omega) ?_)
   rw [hid lo (by omega) (by omega),hid (lo+n - 1) (by omega) (by omega)]
   cases hr:o.lt lo (lo+n - 1)
   case true=>
    simp only [if_true]
    exact wpS_pure (q n g st h n1 n2 R)
   case false=>
    simp only [Bool.false_eq_true,if_false]
    have id':∀ i,lo<=i->i < lo+n->g i=i:=fun i a b=>hid i a (by omega)
    have pp:∀ i j,lo<=i->i < j->j < lo+n->o.lt i j=false/\o.lt j i=false:=fun i j a b c=>by
     have r:=R.so i j a b c
     rw [id' i a (by omega),id' j (by omega) c] at r
     refine ⟨?_,r.ge⟩
     cases z:o.lt i j with
     | false=>rfl
     | true=>
      rcases o.neg _ lo _ z with y | y
      ·by_cases x:i=lo
       ·subst x;rw [o.Gm] at y;cases y
       ·have r2:=R.so lo i (by omega) (by omega) (by omega)
        rw [id' i a (by omega),id' lo (by omega) (by omega)] at r2
        rw [r2.ge] at y;cases y
      ·rcases o.neg _ (lo+n - 1) _ y with x | x
       ·rw [hr] at x;cases x
       ·by_cases v:j=lo+n - 1
        ·subst v;rw [o.Gm] at x;cases x
        ·have r2:=R.so j (lo+n - 1) (by omega) (by omega) (by omega)
         rw [id' j (by omega) c,id' (lo+n - 1) (by omega) (by omega)] at r2
         rw [r2.ge] at x;cases x
    refine wpS_bind (m_ h (by omega) fun st2 h2=>yZ C h2 hn (by omega) ?_ hid q)
    have rin:∀ i,lo<=i->i < lo+n->rev g lo (lo+n) i=lo+(lo+n) - 1 - i:=fun i a b=>by rw [oG a b];exact id' _ (by omega) (by omega)
    refine Fin.add (b:=lo+n) ⟨fun i hi=>fR hi,fun i a b=>by rw [rin i a b];omega,fun i j a b c=>?_⟩ (by rw [fR (by omega)];exact gn) (by omega) fun i a b=>?_
    ·rw [rin i a (by omega),rin j (by omega) c]
     exact P.mZ (pp _ _ (by omega) (by omega) (by omega)).2 (by omega)
    ·rw [rin i a b]
     by_cases x:lo+(lo+n) - 1 - i=lo+n - 1
     ·rw [x];exact .inl hlt
     ·rcases o.neg _ (lo+(lo+n) - 1 - i) _ hlt with z | z
      ·exact .inl z
      ·rw [(pp _ _ (by omega) (by omega) (by omega)).1] at z;cases z
  ·rw [if_neg hgt]
   have:n=1:=by omega
   subst this
   refine yZ C h hn (by omega) ?_ hid q
   refine Fin.add (b:=lo+1) ⟨fun i hi=>rfl,R.cl,fun i j a b c=>by omega⟩ gn (by omega) fun i a b=>?_
   have:i=lo:=by omega
   subst this
   rw [hid i (by omega) (by omega)]
   rw [show i+1 - 1=i by omega] at hlt
   exact .inl hlt
end
noncomputable def dD:Bool->Keyed->Array Keyed->Nat->Nat->Nat->StateT SortSt Sem (Option Nat):=sortPriv% PySem.Builtin.gallop
noncomputable def Je (ask:Nat->StateT SortSt Sem (Option Bool)) (n at0:Nat):StateT SortSt Sem (Option Nat):=do
 let mut was:=0
 let mut far:=1
 let mut low:=0
 let mut top:=0
 let some yes <- ask at0 | return none
 if yes then
  let most:=n - at0
  for _ in [0:n] do
   if far>=most then break
   let some ok <- ask (at0+far) | return none
   if !ok then break
   was:=far
   far:=2 * far+1
  low:=at0+was+1
  top:=at0+min far most
 else
  let most:=at0+1
  for _ in [0:n] do
   if far>=most then break
   let some hit <- ask (at0 - far) | return none
   if hit then break
   was:=far
   far:=2 * far+1
  low:=at0+1 - min far most
  top:=at0 - was
 for _ in [0:n] do
  if low>=top then break
  let m:=low+(top - low) / 2
  let some ok <- ask m | return none
  if ok then low:=m+1 else top:=m
 return some top
theorem qo (left:Bool) (key:Keyed) (arr:Array Keyed) (base n hint:Nat):dD left key arr base n hint=Je (fun i=>do
  let x <- elem' arr (base+i)
  if left then lt' x key else return (<- lt' key x).map (!·)) n hint:=rfl
section
variable {prog:Program} {w:World} {A:Around} {E:Value->Shared->Prop} {s:Shared} {st:SortSt}
noncomputable def Me (be:Nat->StateT SortSt Sem (Option Bool)) (n l0 h0:Nat):StateT SortSt Sem (Option Nat):=do
 let mut low:=l0
 let mut top:=h0
 for _ in [0:n] do
  if low>=top then break
  let m:=low+(top - low) / 2
  let some ok <- be m | return none
  if ok then low:=m+1 else top:=m
 return some top
theorem Hl {be:Nat->StateT SortSt Sem (Option Bool)} {n l0 h0:Nat} (b:Nat->Bool) (hbe:∀ i,i < n->∀ Q:Option Bool->SortSt->Prop,Q (some (b i)) st->wpS (model prog w) A E s (be i) Q st) (hb:∀ i j,i<=j->j < n->b j=true->b i=true)
  (hlh:l0<=h0) (hn:h0<=n) (hl:∀ i,i < l0->b i=true) (hh:∀ i,h0<=i->i < n->b i=false)
  {Q:Option Nat->SortSt->Prop} (q:∀ k,k<=n->(∀ i,i < k->b i=true)->(∀ i,k<=i->i < n->b i=false)->Q (some k) st):wpS (model prog w) A E s (Me be n l0 h0) Q st:=by
 unfold Me
 refine wpS_bind (wpS_mono (wpS_forRange (I:=fun x c st'=>st'=st/\∃ lo hi,c=(none,lo,hi)/\lo<=hi/\hi<=n/\hi - lo<=n - x/\(∀ i,i < lo->b i=true)/\(∀ i,hi<=i->i < n->b i=false))
  (Q:=fun c st'=>st'=st/\∃ k,c=(none,k,k)/\k<=n/\(∀ i,i < k->b i=true)/\(∀ i,k<=i->i < n->b i=false)) ?step ?fin ⟨rfl,l0,h0,rfl,hlh,hn,by omega,hl,hh⟩) ?post)
 case post=>
  rintro c st' ⟨rfl,k,rfl,h1,h2,h3⟩
  exact wpS_pure (q k h1 h2 h3)
 case fin=>
  rintro c st' ⟨rfl,lo,hi,rfl,h1,h2,h3,h4,h5⟩
  have:lo=hi:=by omega
  subst this
  exact ⟨rfl,lo,rfl,h2,h4,h5⟩
 case step=>
  rintro x c st' _ hx ⟨rfl,lo,hi,rfl,h1,h2,h3,h4,h5⟩
  dsimp only
  by_cases hge:lo>=hi
  ·rw [if_pos hge]
   have:lo=hi:=by omega
   subst this
   exact wpS_pure ⟨rfl,lo,rfl,h2,h4,h5⟩
  ·rw [if_neg hge]
   have hm:lo+(hi - lo) / 2 < hi:=by omega
   obtain ⟨m,hm'⟩:∃ m,m=lo+(hi - lo) / 2:=⟨_,rfl⟩
   rw [<- hm'] at hm ⊢
   refine wpS_bind (hbe m (by omega) _ ?_)
   cases hv:b m
   ·simp only [Bool.false_eq_true,if_false]
    refine wpS_pure ⟨rfl,lo,m,rfl,by omega,by omega,by omega,h4,fun i a c=>?_⟩
    cases z:b i with
    | false=>rfl
    | true=>rw [hb m i a c z] at hv;cases hv
   ·simp only [if_true]
    exact wpS_pure ⟨rfl,m+1,hi,rfl,by omega,h2,by omega,fun i a=>hb i m (by omega) (by omega) hv,h5⟩
theorem yo {be:Nat->StateT SortSt Sem (Option Bool)} {n hint:Nat} (b:Nat->Bool) (hbe:∀ i,i < n->∀ Q:Option Bool->SortSt->Prop,Q (some (b i)) st->wpS (model prog w) A E s (be i) Q st) (hb:∀ i j,i<=j->j < n->b j=true->b i=true) (hh:hint < n)
  {Q:Option Nat->SortSt->Prop} (q:∀ k,k<=n->(∀ i,i < k->b i=true)->(∀ i,k<=i->i < n->b i=false)->Q (some k) st):wpS (model prog w) A E s (Je be n hint) Q st:=by
 unfold Je
 have hb':∀ i j,i<=j->j < n->b i=false->b j=false:=fun i j a c d=>by
  cases z:b j with
  | false=>rfl
  | true=>rw [hb i j a c z] at d;cases d
 refine wpS_bind (hbe hint hh _ ?_)
 cases hr:b hint
 ·dsimp only
  simp only [Bool.false_eq_true,if_false]
  refine wpS_bind (wpS_mono (wpS_forRange (I:=fun x c st'=>st'=st/\∃ l u,c=(none,l,u)/\x+1<=u/\l < u/\l<=hint/\b (hint - l)=false)
   (Q:=fun c st'=>st'=st/\∃ l u,c=(none,l,u)/\l < u/\l<=hint/\b (hint - l)=false/\(u>=hint+1\/b (hint - u)=true)) ?step ?fin ⟨rfl,0,1,rfl,by omega,by omega,by omega,hr⟩) ?post)
  case post=>
   rintro c st' ⟨rfl,l,u,rfl,h1,h2,h3,h4⟩
   dsimp only
   refine (Hl b hbe hb (l0:=hint+1 - min u (hint+1)) (h0:=hint - l) (by omega) (by omega) (fun i a=>?_) (fun i a c=>hb' _ _ a c h3) q:wpS (model prog w) A E s (Me be n _ _) Q st')
   rcases h4 with h4 | h4
   ·omega
   ·exact hb i (hint - u) (by omega) (by omega) h4
  case fin=>
   rintro c st' ⟨rfl,l,u,rfl,h1,h2,h3,h4⟩
   exact ⟨rfl,l,u,rfl,h2,h3,h4,.inl (by omega)⟩
  case step=>
   rintro x c st' _ hx ⟨rfl,l,u,rfl,h1,h2,h3,h4⟩
   dsimp only
   by_cases hge:u>=hint+1
   ·rw [if_pos hge]
    exact wpS_pure ⟨rfl,l,u,rfl,h2,h3,h4,.inl hge⟩
   ·rw [if_neg hge]
    refine wpS_bind (hbe _ (by omega) _ ?_)
    cases hv:b (hint - u)
    ·simp only [Bool.false_eq_true,if_false]
     exact wpS_pure ⟨rfl,u,2 * u+1,rfl,by omega,by omega,by omega,hv⟩
    ·simp only [if_true]
     exact wpS_pure ⟨rfl,l,u,rfl,h2,h3,h4,.inr hv⟩
 ·dsimp only
  simp only [if_true]
  refine wpS_bind (wpS_mono (wpS_forRange (I:=fun x c st'=>st'=st/\∃ l u,c=(none,l,u)/\x+1<=u/\l < u/\hint+l < n/\b (hint+l)=true)
   (Q:=fun c st'=>st'=st/\∃ l u,c=(none,l,u)/\l < u/\hint+l < n/\b (hint+l)=true/\(u>=n - hint\/b (hint+u)=false)) ?Df ?fin2 ⟨rfl,0,1,rfl,by omega,by omega,by omega,hr⟩) ?post2)
  case post2=>
   rintro c st' ⟨rfl,l,u,rfl,h1,h2,h3,h4⟩
   dsimp only
   refine (Hl b hbe hb (l0:=hint+l+1) (h0:=hint+min u (n - hint)) (by omega) (by omega) (fun i a=>hb i _ (by omega) h2 h3) (fun i a c=>?_) q:wpS (model prog w) A E s (Me be n _ _) Q st')
   rcases h4 with h4 | h4
   ·omega
   ·exact hb' (hint+u) i (by omega) c h4
  case fin2=>
   rintro c st' ⟨rfl,l,u,rfl,h1,h2,h3,h4⟩
   exact ⟨rfl,l,u,rfl,h2,h3,h4,.inl (by omega)⟩
  case Df=>
   rintro x c st' _ hx ⟨rfl,l,u,rfl,h1,h2,h3,h4⟩
   dsimp only
   by_cases hge:u>=n - hint
   ·rw [if_pos hge]
    exact wpS_pure ⟨rfl,l,u,rfl,h2,h3,h4,.inl hge⟩
   ·rw [if_neg hge]
    refine wpS_bind (hbe _ (by omega) _ ?_)
    cases hv:b (hint+u)
    ·simp only [Bool.not_false,if_true]
     exact wpS_pure ⟨rfl,l,u,rfl,h2,h3,h4,.inr hv⟩
    ·simp only [Bool.not_true,Bool.false_eq_true,if_false]
     exact wpS_pure ⟨rfl,u,2 * u+1,rfl,by omega,by omega,by omega,hv⟩
end
section
variable {prog:Program} {w:World} {A:Around} {E:Value->Shared->Prop} {s:Shared} {o:Ord} {N:Nat} {f:Nat->Keyed} {kd:SortKind} {st:SortSt}
theorem DP (C:qB prog w A s o N f kd) (hk:kindOf st=kd) {key base n hint:Nat} {arr:Array Keyed} {h:Nat->Nat} (ha:∀ i,i < n->arr[base+i]?=some (f (h i))) (hN:∀ i,i < n->h i < key) (hkN:key < N) (so:So o h 0 n) (hh:hint < n)
  {Q:Option Nat->SortSt->Prop} (q:∀ k,k<=n->(∀ i,i < k->P o (h i) key)->(∀ i,k<=i->i < n->P o key (h i))->Q (some k) st):wpS (model prog w) A E s (dD false (f key) arr base n hint) Q st:=by
 rw [qo]
 refine yo (fun i=>!o.lt key (h i)) (fun i hi Q' q'=>?_) (fun i j a b c=>?_) hh fun k h1 h2 h3=>q k h1 (fun i a=>?_) fun i a b=>?_
 ·refine wpS_bind (bq (ha i hi) ?_)
  simp only [Bool.false_eq_true,if_false]
  exact wpS_bind (nR C hk hkN (by have:=hN i hi;omega) (wpS_pure q'))
 ·by_cases z:i=j
  ·subst z;exact c
  ·have r:=so i j (Nat.zero_le _) (by omega) b
   have c':o.lt key (h j)=false:=by simpa using c
   cases e:o.lt key (h i) with
   | false=>rfl
   | true=>
    have:=(P.of_lt e).trans r
    rw [this.lt (hN j b)] at c';cases c'
 ·have:=h2 i a
  exact P.mZ (by simpa using this) (hN i (by omega))
 ·have:=h3 i a b
  exact .inl (by simpa using this)
theorem BG (C:qB prog w A s o N f kd) (hk:kindOf st=kd) {key base n hint:Nat} {arr:Array Keyed} {h:Nat->Nat} (ha:∀ i,i < n->arr[base+i]?=some (f (h i))) (hN:∀ i,i < n->key < h i/\h i < N) (so:So o h 0 n) (hh:hint < n)
  {Q:Option Nat->SortSt->Prop} (q:∀ k,k<=n->(∀ i,i < k->P o (h i) key)->(∀ i,k<=i->i < n->P o key (h i))->Q (some k) st):wpS (model prog w) A E s (dD true (f key) arr base n hint) Q st:=by
 rw [qo]
 refine yo (fun i=>o.lt (h i) key) (fun i hi Q' q'=>?_) (fun i j a b c=>?_) hh fun k h1 h2 h3=>q k h1 (fun i a=>?_) fun i a b=>?_
 ·refine wpS_bind (bq (ha i hi) ?_)
  simp only [if_true]
  exact nR C hk (hN i hi).2 (by have:=hN i hi;omega) q'
 ·by_cases z:i=j
  ·subst z;exact c
  ·have r:=so i j (Nat.zero_le _) (by omega) b
   exact (r.trans (P.of_lt c)).lt (hN i (by omega)).1
 ·exact .inl (h2 i a)
 ·exact P.mZ (h3 i a b) (hN i b).1
end
noncomputable def oX:Array Keyed->Array Keyed->StateT SortSt Sem (Array Keyed):=sortPriv% PySem.Builtin.mergeLo
noncomputable def o6:Array Keyed->Array Keyed->StateT SortSt Sem (Array Keyed):=sortPriv% PySem.Builtin.mergeHi
noncomputable def mS:Nat->StateT SortSt Sem Unit:=sortPriv% PySem.Builtin.setMinGallop
theorem Fy (m:Nat):mS m=modify fun s=>SortSt.mk' (kindOf s) (arrOf s) (pendingOf s) m (failedOf s):=rfl
theorem vf (a b:Array Keyed):oX a b=(do
 rule "list.sort.merge-lo"
 let all_:=a.size+b.size
 let end1 (acc:Array Keyed) (p q:Nat):=acc++a.extract p a.size++b.extract q b.size
 let end2 (acc:Array Keyed) (p q:Nat):=acc++b.extract q b.size++a.extract p a.size
 let mut acc:Array Keyed:=#[<- elem' b 0]
 let mut p:=0
 let mut q:=1
 if q == b.size then return end1 acc p q
 if p+1 == a.size then return end2 acc p q
 let mut mg:=gallopOf (<- get)
 for _ in [0:all_] do
  let mut ca:=0
  let mut cb:=0
  for _ in [0:all_] do
   let some won <- lt' (<- elem' b q) (<- elem' a p) | return end1 acc p q
   if won then
    acc:=acc.push (<- elem' b q);q:=q+1;cb:=cb+1;ca:=0
    if q == b.size then return end1 acc p q
    if cb>=mg then break
   else
    acc:=acc.push (<- elem' a p);p:=p+1;ca:=ca+1;cb:=0
    if p+1 == a.size then return end2 acc p q
    if ca>=mg then break
  rule "list.sort.gallop"
  mg:=mg+1
  for _ in [0:all_] do
   if mg > 1 then mg:=mg - 1
   mS mg
   let some k <- dD false (<- elem' b q) a p (a.size - p) 0 | return end1 acc p q
   ca:=k
   if k > 0 then
    acc:=acc++a.extract p (p+k);p:=p+k
    if p+1 == a.size then return end2 acc p q
    if p == a.size then return end1 acc p q
   acc:=acc.push (<- elem' b q);q:=q+1
   if q == b.size then return end1 acc p q
   let some k <- dD true (<- elem' a p) b q (b.size - q) 0 | return end1 acc p q
   cb:=k
   if k > 0 then
    acc:=acc++b.extract q (q+k);q:=q+k
    if q == b.size then return end1 acc p q
   acc:=acc.push (<- elem' a p);p:=p+1
   if p+1 == a.size then return end2 acc p q
   if ca < 7 && cb < 7 then break
  mg:=mg+1
  mS mg
 unsupported "internal:list.sort.merge-bound"):=rfl
section
variable {o:Ord} {N:Nat} {f:Nat->Keyed} {A B hs:List Nat} {ia ib:Nat}
noncomputable def fa (f:Nat->Keyed) (l:List Nat):Array Keyed:=(l.map f).toArray
theorem jN (l:List Nat):(fa f l).size=l.length:=by unfold fa;rw [List.size_toArray,List.length_map]
theorem C1 (l:List Nat) (i:Nat):(fa f l)[i]?=(l[i]?).map f:=by unfold fa;rw [List.getElem?_toArray,List.getElem?_map]
theorem dG {l:List Nat} {i x:Nat} (h:l[i]?=some x):(fa f l)[i]?=some (f x):=by rw [C1,h];rfl
theorem lq (l:List Nat) (x:Nat):(fa f l).push (f x)=fa f (l++[x]):=by
 unfold fa;rw [List.push_toArray,List.map_append];rfl
theorem gP (l m:List Nat):fa f l++fa f m=fa f (l++m):=by
 unfold fa;rw [List.append_toArray,List.map_append]
theorem mK (l:List Nat) (i j:Nat):(fa f l).extract i j=fa f ((l.drop i).take (j - i)):=by
 unfold fa;rw [List.extract_toArray,List.extract_eq_take_drop,List.map_take,List.map_drop]
theorem ni (l:List Nat) (i:Nat):(fa f l).extract i l.length=fa f (l.drop i):=by
 rw [mK,List.take_of_length_le (by rw [List.length_drop];omega)]
structure Ab (o:Ord) (N:Nat) (A B:List Nat):Prop where
 sa:A.Pairwise (P o)
 sb:B.Pairwise (P o)
 lt:∀ x∈A,∀ y∈B,x < y
 nb:∀ y∈B,y < N
 na:∀ x∈A,x < N
structure Mg (o:Ord) (A B hs:List Nat) (ia ib:Nat):Prop where
 la:ia<=A.length
 lb:ib<=B.length
 len:hs.length=ia+ib
 so:hs.Pairwise (P o)
 mem:∀ x∈hs,x∈A\/x∈B
 ua:∀ x∈hs,∀ y∈A.drop ia,P o x y
 ub:∀ x∈hs,∀ y∈B.drop ib,P o x y
noncomputable def Res (o:Ord) (f:Nat->Keyed) (A B:List Nat) (out:Array Keyed):Prop:=∃ hs:List Nat,out=fa f hs/\hs.length=A.length+B.length/\hs.Pairwise (P o)/\∀ x∈hs,x∈A\/x∈B
theorem je {l:List Nat} (h:l.Pairwise (P o)) {i j x y:Nat} (hx:l[i]?=some x) (hy:l[j]?=some y) (hij:i < j):P o x y:=by
 obtain ⟨h1,e1⟩:=List.getElem?_eq_some_iff.mp hx
 obtain ⟨h2,e2⟩:=List.getElem?_eq_some_iff.mp hy
 rw [<- e1,<- e2]
 exact List.pairwise_iff_getElem.mp h i j h1 h2 hij
theorem kO {l:List Nat} {i y:Nat} (h:y∈l.drop i):∃ j,i<=j/\l[j]?=some y:=by
 obtain ⟨k,hk⟩:=List.getElem?_of_mem h
 rw [List.getElem?_drop] at hk
 exact ⟨i+k,by omega,hk⟩
theorem Mg.mT (ab:Ab o N A B) (m:Mg o A B hs ia ib) {x:Nat} (hx:A[ia]?=some x) (h:∀ y∈B.drop ib,P o x y):Mg o A B (hs++[x]) (ia+1) ib:=by
 obtain ⟨h1,e1⟩:=List.getElem?_eq_some_iff.mp hx
 have hd:A.drop ia=x::A.drop (ia+1):=by rw [<- e1];exact List.drop_eq_getElem_cons h1
 refine ⟨by omega,m.lb,by rw [List.length_append,m.len];show ia+ib+1=_;omega,?_,fun z hz=>?_,fun z hz y hy=>?_,fun z hz y hy=>?_⟩
 ·rw [List.pairwise_append]
  exact ⟨m.so,List.pairwise_singleton ..,fun a ha b hb=>by rw [List.mem_singleton.mp hb];exact m.ua a ha x (by rw [hd];exact List.mem_cons_self ..)⟩
 ·rcases List.mem_append.mp hz with z' | z'
  ·exact m.mem z z'
  ·rw [List.mem_singleton.mp z'];exact .inl (List.mem_of_getElem? hx)
 ·rcases List.mem_append.mp hz with z' | z'
  ·exact m.ua z z' y (by rw [hd];exact List.mem_cons_of_mem _ hy)
  ·rw [List.mem_singleton.mp z']
   obtain ⟨j,hj,ej⟩:=kO hy
   exact je ab.sa hx ej (by omega)
 ·rcases List.mem_append.mp hz with z' | z'
  ·exact m.ub z z' y hy
  ·rw [List.mem_singleton.mp z'];exact h y hy
theorem Ab.nP (ab:Ab o N A B) (m:Mg o A B hs ia ib) {x:Nat} (hx:B[ib]?=some x) (h:∀ y∈A.drop ia,P o x y):Mg o A B (hs++[x]) ia (ib+1):=by
 obtain ⟨h1,e1⟩:=List.getElem?_eq_some_iff.mp hx
 have hd:B.drop ib=x::B.drop (ib+1):=by rw [<- e1];exact List.drop_eq_getElem_cons h1
 refine ⟨m.la,by omega,by rw [List.length_append,m.len];rfl,?_,fun z hz=>?_,fun z hz y hy=>?_,fun z hz y hy=>?_⟩
 ·rw [List.pairwise_append]
  exact ⟨m.so,List.pairwise_singleton ..,fun a ha b hb=>by rw [List.mem_singleton.mp hb];exact m.ub a ha x (by rw [hd];exact List.mem_cons_self ..)⟩
 ·rcases List.mem_append.mp hz with z' | z'
  ·exact m.mem z z'
  ·rw [List.mem_singleton.mp z'];exact .inr (List.mem_of_getElem? hx)
 ·rcases List.mem_append.mp hz with z' | z'
  ·exact m.ua z z' y hy
  ·rw [List.mem_singleton.mp z'];exact h y hy
 ·rcases List.mem_append.mp hz with z' | z'
  ·exact m.ub z z' y (by rw [hd];exact List.mem_cons_of_mem _ hy)
  ·rw [List.mem_singleton.mp z']
   obtain ⟨j,hj,ej⟩:=kO hy
   exact je ab.sb hx ej (by omega)
theorem iB {l:List Nat} (h:l.Pairwise (P o)) {i x y:Nat} (hx:l[i]?=some x) (hxy:P o y x):∀ z∈l.drop i,P o y z:=fun z hz=>by
 obtain ⟨j,hj,ej⟩:=kO hz
 by_cases c:j=i
 ·subst c;rw [hx] at ej;cases ej;exact hxy
 ·exact hxy.trans (je h hx ej (by omega))
theorem take_snoc {l:List Nat} {i k x:Nat} (h:l[i+k]?=some x):(l.drop i).take (k+1)=(l.drop i).take k++[x]:=by
 have h':(l.drop i)[k]?=some x:=by rw [List.getElem?_drop];exact h
 obtain ⟨h1,e1⟩:=List.getElem?_eq_some_iff.mp h'
 rw [List.take_succ_eq_append_getElem h1,e1]
theorem Mg.oH (ab:Ab o N A B) (m:Mg o A B hs ia ib) {y:Nat} (hy:B[ib]?=some y):∀ k,ia+k<=A.length->(∀ i x,i < k->A[ia+i]?=some x->P o x y)->Mg o A B (hs++(A.drop ia).take k) (ia+k) ib
 | 0,_,_=>by rw [List.take_zero,List.append_nil];exact m
 | k+1,hk,h=>by
  have ih:=Mg.oH ab m hy k (by omega) fun i x hi=>h i x (by omega)
  have hx:A[ia+k]?=some (A[ia+k]'(by omega)):=List.getElem?_eq_getElem _
  rw [take_snoc hx,<- List.append_assoc]
  exact ih.mT ab hx (iB ab.sb hy (h k _ (by omega) hx))
theorem Mg.om (ab:Ab o N A B) (m:Mg o A B hs ia ib) {y:Nat} (hy:A[ia]?=some y):∀ k,ib+k<=B.length->(∀ i x,i < k->B[ib+i]?=some x->P o x y)->Mg o A B (hs++(B.drop ib).take k) ia (ib+k)
 | 0,_,_=>by rw [List.take_zero,List.append_nil];exact m
 | k+1,hk,h=>by
  have ih:=Mg.om ab m hy k (by omega) fun i x hi=>h i x (by omega)
  have hx:B[ib+k]?=some (B[ib+k]'(by omega)):=List.getElem?_eq_getElem _
  rw [take_snoc hx,<- List.append_assoc]
  exact ab.nP ih hx (iB ab.sa hy (h k _ (by omega) hx))
theorem nI {l:List Nat} (h:l.Pairwise (P o)) (i:Nat):(l.drop i).Pairwise (P o):=h.sublist (List.drop_sublist ..)
theorem Mg.fin (ab:Ab o N A B) (m:Mg o A B hs ia ib) (h:∀ x∈A.drop ia,∀ y∈B.drop ib,P o x y):Res o f A B (fa f hs++(fa f A).extract ia A.length++(fa f B).extract ib B.length):=by
 rw [ni,ni,gP,gP]
 have la:=m.la
 have lb:=m.lb
 refine ⟨_,rfl,by rw [List.length_append,List.length_append,m.len,List.length_drop,List.length_drop];omega,?_,fun x hx=>?_⟩
 ·rw [List.pairwise_append,List.pairwise_append]
  refine ⟨⟨m.so,nI ab.sa _,m.ua⟩,nI ab.sb _,fun x hx y hy=>?_⟩
  rcases List.mem_append.mp hx with z | z
  ·exact m.ub x z y hy
  ·exact h x z y hy
 ·rcases List.mem_append.mp hx with z | z
  ·rcases List.mem_append.mp z with z | z
   ·exact m.mem x z
   ·exact .inl (List.mem_of_mem_drop z)
  ·exact .inr (List.mem_of_mem_drop z)
theorem Mg.H_ (ab:Ab o N A B) (m:Mg o A B hs ia ib) (h:∀ x∈A.drop ia,∀ y∈B.drop ib,P o y x):Res o f A B (fa f hs++(fa f B).extract ib B.length++(fa f A).extract ia A.length):=by
 rw [ni,ni,gP,gP]
 have la:=m.la
 have lb:=m.lb
 refine ⟨_,rfl,by rw [List.length_append,List.length_append,m.len,List.length_drop,List.length_drop];omega,?_,fun x hx=>?_⟩
 ·rw [List.pairwise_append,List.pairwise_append]
  refine ⟨⟨m.so,nI ab.sb _,m.ub⟩,nI ab.sa _,fun x hx y hy=>?_⟩
  rcases List.mem_append.mp hx with z | z
  ·exact m.ua x z y hy
  ·exact h y hy x z
 ·rcases List.mem_append.mp hx with z | z
  ·rcases List.mem_append.mp z with z | z
   ·exact m.mem x z
   ·exact .inr (List.mem_of_mem_drop z)
  ·exact .inl (List.mem_of_mem_drop z)
theorem drop_nil {l:List Nat} {i:Nat} (h:l.length<=i):l.drop i=[]:=List.drop_eq_nil_of_le h
theorem wB {l:List Nat} (h:l.Pairwise (P o)) (b n:Nat) (hn:b+n<=l.length):So o (fun i=>l.getD (b+i) 0) 0 n:=fun i j _ hij hj=>
 je h (i:=b+i) (j:=b+j) (by show _=some (l.getD (b+i) 0);rw [List.getD_eq_getElem?_getD,List.getElem?_eq_getElem (show b+i < l.length by omega)];rfl) (by show _=some (l.getD (b+j) 0);rw [List.getD_eq_getElem?_getD,List.getElem?_eq_getElem (show b+j < l.length by omega)];rfl) (by omega)
theorem getD_at {l:List Nat} {i:Nat} (h:i < l.length):l[i]?=some (l.getD i 0):=by
 rw [List.getD_eq_getElem?_getD,List.getElem?_eq_getElem h];rfl
end
structure Sm (st st':SortSt):Prop where
 a:arrOf st'=arrOf st
 k:kindOf st'=kindOf st
 p:pendingOf st'=pendingOf st
 f:failedOf st'=failedOf st
theorem Sm.refl {st:SortSt}:Sm st st:=⟨rfl,rfl,rfl,rfl⟩
theorem Sm.trans {st st' st'':SortSt} (a:Sm st st') (b:Sm st' st''):Sm st st'':=⟨b.a.trans a.a,b.k.trans a.k,b.p.trans a.p,b.f.trans a.f⟩
noncomputable abbrev G:=Option (Array Keyed)×Array Keyed×Nat×Nat×Nat×Nat×Nat
noncomputable def T3 (a b out:Array Keyed) (ia ib mg ac bc:Nat):StateT SortSt Sem (ForInStep G):=do
 let x <- elem' a ia
 if (ia+1+1 == a.size)=true then pure (ForInStep.done (some (out.push x++b.extract ib b.size++a.extract (ia+1) a.size),out.push x,ia+1,ib,mg,ac,bc))
 else if (decide (ac < 7) && decide (bc < 7))=true then pure (ForInStep.done (none,out.push x,ia+1,ib,mg,ac,bc))
 else pure (ForInStep.yield (none,out.push x,ia+1,ib,mg,ac,bc))
noncomputable def T2 (a b out:Array Keyed) (ia ib mg ac bc:Nat):StateT SortSt Sem (ForInStep G):=do
 let x <- elem' b ib
 if (ib+1 == b.size)=true then pure (ForInStep.done (some (out.push x++a.extract ia a.size++b.extract (ib+1) b.size),out.push x,ia,ib+1,mg,ac,bc))
 else
  let y <- elem' a ia
  let r <- dD true y b (ib+1) (b.size - (ib+1)) 0
  match r with
  | some k=>
   if k > 0 then
    if (ib+1+k == b.size)=true then pure (ForInStep.done (some (out.push x++b.extract (ib+1) (ib+1+k)++a.extract ia a.size++b.extract (ib+1+k) b.size),out.push x++b.extract (ib+1) (ib+1+k),ia,ib+1+k,mg,ac,k))
    else T3 a b (out.push x++b.extract (ib+1) (ib+1+k)) ia (ib+1+k) mg ac k
   else T3 a b (out.push x) ia (ib+1) mg ac k
  | _=>pure (ForInStep.done (some (out.push x++a.extract ia a.size++b.extract (ib+1) b.size),out.push x,ia,ib+1,mg,ac,bc))
noncomputable def T1 (a b out:Array Keyed) (ia ib mg ac bc:Nat):StateT SortSt Sem (ForInStep G):=do
 mS mg
 let x <- elem' b ib
 let r <- dD false x a ia (a.size - ia) 0
 match r with
 | some k=>
  if k > 0 then
   if (ia+k+1 == a.size)=true then pure (ForInStep.done (some (out++a.extract ia (ia+k)++b.extract ib b.size++a.extract (ia+k) a.size),out++a.extract ia (ia+k),ia+k,ib,mg,k,bc))
   else if (ia+k == a.size)=true then pure (ForInStep.done (some (out++a.extract ia (ia+k)++a.extract (ia+k) a.size++b.extract ib b.size),out++a.extract ia (ia+k),ia+k,ib,mg,k,bc))
   else T2 a b (out++a.extract ia (ia+k)) (ia+k) ib mg k bc
  else T2 a b out ia ib mg k bc
 | _=>pure (ForInStep.done (some (out++a.extract ia a.size++b.extract ib b.size),out,ia,ib,mg,ac,bc))
section
variable {prog:Program} {w:World} {A:Around} {E:Value->Shared->Prop} {s:Shared} {o:Ord} {N:Nat} {f:Nat->Keyed} {kd:SortKind} {st st0:SortSt} {X Y hs:List Nat} {ia ib:Nat}
theorem k_ {m:Nat} (h:Sm st0 st) {Q:Unit->SortSt->Prop} (q:∀ st',Sm st0 st'->Q () st'):wpS (model prog w) A E s (mS m) Q st:=by
 rw [Fy];exact wpS_modify (q _ (h.trans ⟨rfl,rfl,rfl,rfl⟩))
noncomputable def On (o:Ord) (f:Nat->Keyed) (X Y:List Nat) (n:Nat) (hs:List Nat) (ia ib:Nat):Prop:=Mg o X Y hs ia ib/\ia+1 < X.length/\ib < Y.length/\n<=ia+ib
noncomputable def G2 (o:Ord) (f:Nat->Keyed) (X Y:List Nat) (n:Nat) (st0:SortSt):ForInStep G->SortSt->Prop:=fun r st'=>Sm st0 st'/\match r with
 | .done c=>(∃ r z,c=(some r,z)/\Res o f X Y r)\/∃ hs ia ib mg ac bc,c=(none,fa f hs,ia,ib,mg,ac,bc)/\On o f X Y n hs ia ib
 | .yield c=>∃ hs ia ib mg ac bc,c=(none,fa f hs,ia,ib,mg,ac,bc)/\On o f X Y n hs ia ib
noncomputable def Top (o:Ord) (X Y:List Nat):Prop:=∀ i x,X[i]?=some x->i+1=X.length->∀ y∈Y,P o y x
theorem NI {α β γ δ κ:Type} {S:Prop} {g:α->β->γ->δ->κ} {O:α->β->γ->δ->Prop} {T:κ->Prop} (k:S->∀ a b c d,O a b c d->T (g a b c d)):∀ q,(S/\∃ a b c d,q=g a b c d/\O a b c d)->T q:=by
 rintro q ⟨s,a,b,c,d,rfl,o⟩;exact k s a b c d o
theorem N1 {α β γ δ ε κ:Type} {S:Prop} {g:α->β->γ->δ->ε->κ} {O:α->β->γ->δ->ε->Prop} {T:κ->Prop} (k:S->∀ a b c d e,O a b c d e->T (g a b c d e)):∀ q,(S/\∃ a b c d e,q=g a b c d e/\O a b c d e)->T q:=by
 rintro q ⟨s,a,b,c,d,e,rfl,o⟩;exact k s a b c d e o
theorem NY {α β γ δ ε ζ κ:Type} {S:Prop} {g:α->β->γ->δ->ε->ζ->κ} {O:α->β->γ->δ->ε->ζ->Prop} {T:κ->Prop} (k:S->∀ a b c d e f,O a b c d e f->T (g a b c d e f)):∀ q,(S/\∃ a b c d e f,q=g a b c d e f/\O a b c d e f)->T q:=by
 rintro q ⟨s,a,b,c,d,e,f,rfl,o⟩;exact k s a b c d e f o
theorem N4 {α β γ δ ε κ ρ σ:Type} {S:Prop} {j:ρ->σ->κ} {R:ρ->Prop} {g:α->β->γ->δ->ε->κ} {O:α->β->γ->δ->ε->Prop} {T:κ->Prop} (k1:S->∀ r z,R r->T (j r z)) (k:S->∀ a b c d e,O a b c d e->T (g a b c d e)):∀ q,(S/\((∃ r z,q=j r z/\R r)\/∃ a b c d e,q=g a b c d e/\O a b c d e))->T q:=by
 rintro q ⟨s,⟨r,z,rfl,hr⟩ | ⟨a,b,c,d,e,rfl,o⟩⟩
 ·exact k1 s r z hr
 ·exact k s a b c d e o
theorem NV {α β γ δ ε ζ κ ρ σ:Type} {S:Prop} {j:ρ->σ->κ} {R:ρ->Prop} {g:α->β->γ->δ->ε->ζ->κ} {O:α->β->γ->δ->ε->ζ->Prop} {T:κ->Prop} (k1:S->∀ r z,R r->T (j r z)) (k:S->∀ a b c d e f,O a b c d e f->T (g a b c d e f)):∀ q,(S/\((∃ r z,q=j r z/\R r)\/∃ a b c d e f,q=g a b c d e f/\O a b c d e f))->T q:=by
 rintro q ⟨s,⟨r,z,rfl,hr⟩ | ⟨a,b,c,d,e,f,rfl,o⟩⟩
 ·exact k1 s r z hr
 ·exact k s a b c d e f o
theorem kF (ab:Ab o N X Y) (tp:Top o X Y) (m:Mg o X Y hs ia ib) (h:ia+1=X.length):Res o f X Y (fa f hs++(fa f Y).extract ib Y.length++(fa f X).extract ia X.length):=
 m.H_ ab fun x hx y hy=>by
  obtain ⟨j,hj,ej⟩:=kO hx
  have:=(List.getElem?_eq_some_iff.mp ej).1
  exact tp j x ej (by omega) y (List.mem_of_mem_drop hy)
theorem GF (ab:Ab o N X Y) (tp:Top o X Y) (hm:Sm st0 st) {n mg ac bc x y:Nat} (m:Mg o X Y hs ia ib) (ha:ia+1 < X.length) (hb:ib < Y.length) (hn:n<=ia+ib) (hx:X[ia]?=some x) (hy:Y[ib]?=some y) (hxy:P o x y) :
  wpS (model prog w) A E s (T3 (fa f X) (fa f Y) (fa f hs) ia ib mg ac bc) (G2 o f X Y n st0) st:=by
 unfold T3
 simp only [jN]
 refine wpS_bind (bq (dG hx) ?_)
 have m2:=m.mT ab hx (iB ab.sb hy hxy)
 rw [lq]
 by_cases c:ia+1+1=X.length
 ·rw [if_pos (by rw [c];exact beq_self_eq_true _)]
  exact wpS_pure ⟨hm,.inl ⟨_,_,rfl,kF ab tp m2 c⟩⟩
 ·rw [if_neg (by simpa using c)]
  by_cases c2:(decide (ac < 7) && decide (bc < 7))=true
  ·rw [if_pos c2]
   exact wpS_pure ⟨hm,.inr ⟨_,_,_,_,_,_,rfl,m2,by omega,hb,by omega⟩⟩
  ·rw [if_neg c2]
   exact wpS_pure ⟨hm,⟨_,_,_,_,_,_,rfl,m2,by omega,hb,by omega⟩⟩
theorem Hw (C:qB prog w A s o N f kd) (hk:kindOf st=kd) (ab:Ab o N X Y) (tp:Top o X Y) (hm:Sm st0 st) {n mg ac bc x y:Nat} (m:Mg o X Y hs ia ib) (ha:ia+1 < X.length) (hb:ib < Y.length) (hn:n<=ia+ib) (hx:X[ia]?=some x) (hy:Y[ib]?=some y) (hxy:P o y x) :
  wpS (model prog w) A E s (T2 (fa f X) (fa f Y) (fa f hs) ia ib mg ac bc) (G2 o f X Y n st0) st:=by
 unfold T2
 simp only [jN]
 refine wpS_bind (bq (dG hy) ?_)
 have m2:=ab.nP m hy (iB ab.sa hx hxy)
 rw [lq]
 by_cases c:ib+1=Y.length
 ·rw [if_pos (by rw [c];exact beq_self_eq_true _)]
  exact wpS_pure ⟨hm,.inl ⟨_,_,rfl,m2.fin ab fun x _ y hy=>by rw [drop_nil (by omega)] at hy;cases hy⟩⟩
 ·rw [if_neg (by simpa using c)]
  refine wpS_bind (bq (dG hx) ?_)
  refine wpS_bind (BG C hk (h:=fun i=>Y.getD (ib+1+i) 0) (fun i hi=>dG (getD_at (by omega))) (fun i hi=>?_) (wB ab.sb _ _ (by omega)) (by omega) fun k k1 k2 k3=>?_)
  ·have:=List.mem_of_getElem? (getD_at (l:=Y) (i:=ib+1+i) (by omega))
   exact ⟨ab.lt x (List.mem_of_getElem? hx) _ this,ab.nb _ this⟩
  ·dsimp only
   have m3:=m2.om ab hx k (by omega) fun i z hi ez=>by
    have:=k2 i hi
    rw [List.getD_eq_getElem?_getD,ez] at this
    exact this
   by_cases c2:k > 0
   ·rw [if_pos c2,mK,show ib+1+k - (ib+1)=k by omega,gP]
    by_cases c3:ib+1+k=Y.length
    ·rw [if_pos (by rw [c3];exact beq_self_eq_true _)]
     exact wpS_pure ⟨hm,.inl ⟨_,_,rfl,m3.fin ab fun x _ y hy=>by rw [drop_nil (by omega)] at hy;cases hy⟩⟩
    ·rw [if_neg (by simpa using c3)]
     exact GF ab tp hm m3 ha (by omega) (by omega) hx (getD_at (by omega)) (k3 k (Nat.le_refl _) (by omega))
   ·rw [if_neg c2]
    have:k=0:=by omega
    subst this
    exact GF ab tp hm m2 ha (by omega) (by omega) hx (getD_at (by omega)) (k3 0 (Nat.le_refl _) (by omega))
theorem LK (C:qB prog w A s o N f kd) (hk:kindOf st0=kd) (ab:Ab o N X Y) (tp:Top o X Y) (hm:Sm st0 st) {n mg ac bc:Nat} (m:Mg o X Y hs ia ib) (ha:ia+1 < X.length) (hb:ib < Y.length) (hn:n<=ia+ib) :
  wpS (model prog w) A E s (T1 (fa f X) (fa f Y) (fa f hs) ia ib mg ac bc) (G2 o f X Y n st0) st:=by
 unfold T1
 simp only [jN]
 refine wpS_bind (k_ hm fun st1 hm1=>?_)
 have hy:=getD_at (l:=Y) (i:=ib) hb
 have yB:=List.mem_of_getElem? hy
 refine wpS_bind (bq (dG hy) ?_)
 refine wpS_bind (DP C (by rw [hm1.k];exact hk) (h:=fun i=>X.getD (ia+i) 0) (fun i hi=>dG (getD_at (by omega))) (fun i hi=>ab.lt _ (List.mem_of_getElem? (getD_at (l:=X) (i:=ia+i) (by omega))) _ yB) (ab.nb _ yB) (wB ab.sa _ _ (by omega)) (by omega) fun k k1 k2 k3=>?_)
 dsimp only
 have m3:=m.oH ab hy k (by omega) fun i z hi ez=>by
  have:=k2 i hi
  rw [List.getD_eq_getElem?_getD,ez] at this
  exact this
 by_cases c2:k > 0
 ·rw [if_pos c2,mK,show ia+k - ia=k by omega,gP]
  by_cases c3:ia+k+1=X.length
  ·rw [if_pos (by rw [c3];exact beq_self_eq_true _)]
   exact wpS_pure ⟨hm1,.inl ⟨_,_,rfl,kF ab tp m3 c3⟩⟩
  ·rw [if_neg (by simpa using c3)]
   by_cases c4:ia+k=X.length
   ·rw [if_pos (by rw [c4];exact beq_self_eq_true _)]
    exact wpS_pure ⟨hm1,.inl ⟨_,_,rfl,m3.fin ab fun x hx y _=>by rw [drop_nil (by omega)] at hx;cases hx⟩⟩
   ·rw [if_neg (by simpa using c4)]
    exact Hw C (by rw [hm1.k];exact hk) ab tp hm1 m3 (by omega) hb (by omega) (getD_at (by omega)) hy (k3 k (Nat.le_refl _) (by omega))
 ·rw [if_neg c2]
  have:k=0:=by omega
  subst this
  exact Hw C (by rw [hm1.k];exact hk) ab tp hm1 m ha hb hn (getD_at (by omega)) hy (k3 0 (Nat.le_refl _) (by omega))
theorem L0 (C:qB prog w A s o N f kd) (hk:kindOf st=kd) (ab:Ab o N X Y) (tp:Top o X Y) (h1:1<=X.length) {y0:Nat} (hy0:Y[0]?=some y0) (h0:∀ x∈X,P o y0 x)
  {Q:Array Keyed->SortSt->Prop} (q:∀ out st',Sm st st'->Res o f X Y out->Q out st'):wpS (model prog w) A E s (oX (fa f X) (fa f Y)) Q st:=by
 rw [vf]
 refine wpS_bind (wpS_lift (wpAny_rule ⟨rfl,?_⟩))
 dsimp only
 simp only [jN]
 have hY:=(List.getElem?_eq_some_iff.mp hy0).1
 refine wpS_bind (bq (dG hy0) ?_)
 have m0:Mg o X Y [] 0 0:=⟨Nat.zero_le _,Nat.zero_le _,rfl,List.Pairwise.nil,(fun _ h=>nomatch h),(fun _ h=>nomatch h),(fun _ h=>nomatch h)⟩
 have m1:Mg o X Y [y0] 0 1:=ab.nP m0 hy0 h0
 have e1:(#[f y0]:Array Keyed)=fa f [y0]:=rfl
 rw [e1]
 by_cases c:1=Y.length
 ·rw [if_pos (by rw [<- c];rfl)]
  exact wpS_pure (q _ _ Sm.refl (m1.fin ab fun x _ y hy=>by rw [drop_nil (by omega)] at hy;cases hy))
 ·rw [if_neg (by simpa using c)]
  by_cases c2:0+1=X.length
  ·rw [if_pos (by rw [<- c2];rfl)]
   exact wpS_pure (q _ _ Sm.refl (kF ab tp m1 c2))
  ·rw [if_neg (by simpa using c2)]
   refine wpS_bind (wpS_get ?_)
   refine wpS_bind (wpS_mono (wpS_forRange (I:=fun x c st'=>Sm st st'/\∃ hs ia ib mg,c=(none,fa f hs,ia,ib,mg)/\On o f X Y (x+1) hs ia ib)
    (Q:=fun c st'=>Sm st st'/\∃ r z,c=(some r,z)/\Res o f X Y r) ?step ?fin ⟨Sm.refl,_,_,_,_,rfl,m1,by omega,by omega,Nat.le_refl _⟩) ?post)
   case post=>
    rintro c st' ⟨hm,r,z,rfl,hr⟩
    exact wpS_pure (q _ _ hm hr)
   case fin=>
    rintro c st' ⟨hm,hs,ia,ib,mg,rfl,m,a1,a2,a3⟩
    exfalso
    omega
   case step=>
    intro x c st' _ hx hh
    revert hh;revert c
    refine NI fun hm hs ia ib mg ho=>?_
    have m:=ho.1;have a1:=ho.2.1;have a2:=ho.2.2.1;have a3:=ho.2.2.2
    clear ho
    dsimp only
    refine wpS_bind (wpS_mono (wpS_forRange (I:=fun x' c st''=>Sm st st''/\∃ hs ia ib ac bc,c=(none,fa f hs,ia,ib,ac,bc)/\On o f X Y (x+1+min x' 1) hs ia ib)
     (Q:=fun c st''=>Sm st st''/\((∃ r z,c=(some r,z)/\Res o f X Y r)\/∃ hs ia ib ac bc,c=(none,fa f hs,ia,ib,ac,bc)/\On o f X Y (x+1+1) hs ia ib)) ?istep ?ifin ⟨hm,_,_,_,_,_,rfl,m,a1,a2,a3⟩) ?ipost)
    case ifin=>
     rintro c st'' ⟨hm',hs,ia,ib,ac,bc,rfl,m,a1,a2,a3⟩
     exact ⟨hm',.inr ⟨_,_,_,_,_,rfl,m,a1,a2,by omega⟩⟩
    case istep=>
     intro x' c st'' _ hx' hh
     revert hh;revert c
     refine N1 fun hm' hs ia ib ac bc ho=>?_
     have m:=ho.1;have a1:=ho.2.1;have a2:=ho.2.2.1;have a3:=ho.2.2.2
     clear ho
     dsimp only
     have hy:=getD_at (l:=Y) (i:=ib) a2
     have hxx:=getD_at (l:=X) (i:=ia) (by omega)
     have yB:=List.mem_of_getElem? hy
     have xA:=List.mem_of_getElem? hxx
     have lt:=ab.lt _ xA _ yB
     refine wpS_bind (bq (dG hy) ?_)
     refine wpS_bind (bq (dG hxx) ?_)
     refine wpS_bind (nR C (by rw [hm'.k];exact hk) (ab.nb _ yB) (ab.na _ xA) ?_)
     cases hl:o.lt (Y.getD ib 0) (X.getD ia 0)
     ·simp only [Bool.false_eq_true,if_false]
      refine wpS_bind (bq (dG hxx) ?_)
      have m2:=m.mT ab hxx (iB ab.sb hy (P.mZ hl lt))
      rw [lq]
      by_cases c3:ia+1+1=X.length
      ·rw [if_pos (by rw [c3];exact beq_self_eq_true _)]
       exact wpS_pure ⟨hm',.inl ⟨_,_,rfl,kF ab tp m2 c3⟩⟩
      ·rw [if_neg (by simpa using c3)]
       by_cases c4:ac+1>=mg
       ·rw [if_pos c4]
        exact wpS_pure ⟨hm',.inr ⟨_,_,_,_,_,rfl,m2,by omega,a2,by omega⟩⟩
       ·rw [if_neg c4]
        exact wpS_pure ⟨hm',_,_,_,_,_,rfl,m2,by omega,a2,by omega⟩
     ·simp only [if_true]
      refine wpS_bind (bq (dG hy) ?_)
      have m2:=ab.nP m hy (iB ab.sa hxx (P.of_lt hl))
      rw [lq]
      by_cases c3:ib+1=Y.length
      ·rw [if_pos (by rw [c3];exact beq_self_eq_true _)]
       exact wpS_pure ⟨hm',.inl ⟨_,_,rfl,m2.fin ab fun x _ y hy=>by rw [drop_nil (by omega)] at hy;cases hy⟩⟩
      ·rw [if_neg (by simpa using c3)]
       by_cases c4:bc+1>=mg
       ·rw [if_pos c4]
        exact wpS_pure ⟨hm',.inr ⟨_,_,_,_,_,rfl,m2,a1,by omega,by omega⟩⟩
       ·rw [if_neg c4]
        exact wpS_pure ⟨hm',_,_,_,_,_,rfl,m2,a1,by omega,by omega⟩
    case ipost=>
     intro c st'' hh
     revert hh;revert c
     refine N4 (fun hm' r z hr=>?_) fun hm' hs ia ib ac bc ho=>?_
     ·dsimp only
      exact wpS_pure ⟨hm',r,_,rfl,hr⟩
     ·have m:=ho.1;have a1:=ho.2.1;have a2:=ho.2.2.1;have a3:=ho.2.2.2
      clear ho
      dsimp only
      refine wpS_bind (wpS_lift (wpAny_rule ⟨rfl,?_⟩))
      refine wpS_bind (wpS_mono (wpS_forRange (I:=fun x' c st''=>Sm st st''/\∃ hs ia ib mg ac bc,c=(none,fa f hs,ia,ib,mg,ac,bc)/\On o f X Y (x+1+1) hs ia ib)
       (Q:=fun c st''=>Sm st st''/\((∃ r z,c=(some r,z)/\Res o f X Y r)\/∃ hs ia ib mg ac bc,c=(none,fa f hs,ia,ib,mg,ac,bc)/\On o f X Y (x+1+1) hs ia ib)) ?jstep ?jfin ⟨hm',_,_,_,_,_,_,rfl,m,a1,a2,a3⟩) ?jpost)
      case jfin=>
       rintro c st3 ⟨hm3,hh⟩
       exact ⟨hm3,.inr hh⟩
      case jstep=>
       intro x' c st3 _ hx' hh
       revert hh;revert c
       refine NY fun hm3 hs ia ib mg ac bc ho=>?_
       have m:=ho.1;have a1:=ho.2.1;have a2:=ho.2.2.1;have a3:=ho.2.2.2
       clear ho
       dsimp only
       have t1:=fun mg=>LK (n:=x+1+1) (mg:=mg) (ac:=ac) (bc:=bc) (E:=E) C hk ab tp hm3 m a1 a2 a3
       unfold T1 T2 T3 at t1
       simp only [jN] at t1
       refine wpS_mono (Q:=G2 o f X Y (x+1+1) st) ?_ ?_
       ·by_cases c3:mg > 1
        ·rw [if_pos c3]
         exact t1 (mg - 1)
        ·rw [if_neg c3]
         exact t1 mg
       ·rintro r st4 ⟨hm4,hr⟩
        cases r with
        | done c=>exact ⟨hm4,hr⟩
        | yield c=>exact ⟨hm4,hr⟩
      case jpost=>
       intro c st3 hh
       revert hh;revert c
       refine NV (fun hm3 r z hr=>?_) fun hm3 hs ia ib mg ac bc ho=>?_
       ·dsimp only
        exact wpS_pure ⟨hm3,r,_,rfl,hr⟩
       ·have m:=ho.1;have a1:=ho.2.1;have a2:=ho.2.2.1;have a3:=ho.2.2.2
        clear ho
        dsimp only
        refine wpS_bind (k_ hm3 fun st4 hm4=>?_)
        exact wpS_pure ⟨hm4,_,_,_,_,rfl,m,a1,a2,a3⟩
end
theorem vL (a b:Array Keyed):o6 a b=(do
 rule "list.sort.merge-hi"
 let all_:=a.size+b.size
 let end1 (acc:Array Keyed) (p q:Nat):=a.extract 0 p++b.extract 0 q++acc.reverse
 let end2 (acc:Array Keyed) (p q:Nat):=b.extract 0 q++a.extract 0 p++acc.reverse
 let mut p:=a.size - 1
 let mut q:=b.size
 let mut acc:Array Keyed:=#[<- elem' a p]
 if p == 0 then return end1 acc p q
 if q == 1 then return end2 acc p q
 let mut mg:=gallopOf (<- get)
 for _ in [0:all_] do
  let mut ca:=0
  let mut cb:=0
  for _ in [0:all_] do
   let some won <- lt' (<- elem' b (q - 1)) (<- elem' a (p - 1)) | return end1 acc p q
   if won then
    p:=p - 1;acc:=acc.push (<- elem' a p);ca:=ca+1;cb:=0
    if p == 0 then return end1 acc p q
    if ca>=mg then break
   else
    q:=q - 1;acc:=acc.push (<- elem' b q);cb:=cb+1;ca:=0
    if q == 1 then return end2 acc p q
    if cb>=mg then break
  rule "list.sort.gallop"
  mg:=mg+1
  for _ in [0:all_] do
   if mg > 1 then mg:=mg - 1
   mS mg
   let some t <- dD false (<- elem' b (q - 1)) a 0 p (p - 1) | return end1 acc p q
   let k:=p - t
   ca:=k
   if k > 0 then
    acc:=acc++(a.extract t p).reverse;p:=t
    if p == 0 then return end1 acc p q
   q:=q - 1;acc:=acc.push (<- elem' b q)
   if q == 1 then return end2 acc p q
   let some t <- dD true (<- elem' a (p - 1)) b 0 q (q - 1) | return end1 acc p q
   let k:=q - t
   cb:=k
   if k > 0 then
    acc:=acc++(b.extract t q).reverse;q:=t
    if q == 1 then return end2 acc p q
    if q == 0 then return end1 acc p q
   p:=p - 1;acc:=acc.push (<- elem' a p)
   if p == 0 then return end1 acc p q
   if ca < 7 && cb < 7 then break
  mg:=mg+1
  mS mg
 unsupported "internal:list.sort.merge-bound"):=rfl
section
variable {o:Ord} {N:Nat} {f:Nat->Keyed} {A B ts:List Nat} {na nb:Nat}
theorem CT (l:List Nat):(fa f l).reverse=fa f l.reverse:=by
 unfold fa;rw [List.reverse_toArray,List.map_reverse]
theorem nK (l:List Nat) (i:Nat):(fa f l).extract 0 i=fa f (l.take i):=by
 rw [mK,List.drop_zero,Nat.sub_zero]
structure Mh (o:Ord) (A B ts:List Nat) (na nb:Nat):Prop where
 la:na<=A.length
 lb:nb<=B.length
 len:ts.length+na+nb=A.length+B.length
 so:ts.Pairwise (P o)
 mem:∀ x∈ts,x∈A\/x∈B
 ua:∀ y∈A.take na,∀ x∈ts,P o y x
 ub:∀ y∈B.take nb,∀ x∈ts,P o y x
theorem kY {l:List Nat} {i y:Nat} (h:y∈l.take i):∃ j,j < i/\l[j]?=some y:=by
 obtain ⟨k,hk⟩:=List.getElem?_of_mem h
 have:=(List.getElem?_eq_some_iff.mp hk).1
 rw [List.length_take] at this
 rw [List.getElem?_take_of_lt (by omega)] at hk
 exact ⟨k,by omega,hk⟩
theorem take_one {l:List Nat} {i x:Nat} (h:l[i]?=some x):l.take (i+1)=l.take i++[x]:=by
 obtain ⟨h1,e1⟩:=List.getElem?_eq_some_iff.mp h
 rw [List.take_succ_eq_append_getElem h1,e1]
theorem Mh.mT (ab:Ab o N A B) (m:Mh o A B ts (na+1) nb) {x:Nat} (hx:A[na]?=some x) (h:∀ y∈B.take nb,P o y x):Mh o A B (x::ts) na nb:=by
 have la:=m.la
 have len:=m.len
 have ht:=take_one hx
 have xin:x∈A.take (na+1):=by rw [ht];exact List.mem_append_right _ (List.mem_singleton.mpr rfl)
 refine ⟨by omega,m.lb,by rw [List.length_cons];omega,List.pairwise_cons.mpr ⟨fun y hy=>m.ua x xin y hy,m.so⟩,fun z hz=>?_,fun y hy z hz=>?_,fun y hy z hz=>?_⟩
 ·rcases List.mem_cons.mp hz with rfl | z'
  ·exact .inl (List.mem_of_getElem? hx)
  ·exact m.mem z z'
 ·rcases List.mem_cons.mp hz with rfl | z'
  ·obtain ⟨j,hj,ej⟩:=kY hy
   exact je ab.sa ej hx hj
  ·exact m.ua y (by rw [ht];exact List.mem_append_left _ hy) z z'
 ·rcases List.mem_cons.mp hz with rfl | z'
  ·exact h y hy
  ·exact m.ub y hy z z'
theorem Mh.Aq (ab:Ab o N A B) (m:Mh o A B ts na (nb+1)) {x:Nat} (hx:B[nb]?=some x) (h:∀ y∈A.take na,P o y x):Mh o A B (x::ts) na nb:=by
 have lb:=m.lb
 have len:=m.len
 have ht:=take_one hx
 have xin:x∈B.take (nb+1):=by rw [ht];exact List.mem_append_right _ (List.mem_singleton.mpr rfl)
 refine ⟨m.la,by omega,by rw [List.length_cons];omega,List.pairwise_cons.mpr ⟨fun y hy=>m.ub x xin y hy,m.so⟩,fun z hz=>?_,fun y hy z hz=>?_,fun y hy z hz=>?_⟩
 ·rcases List.mem_cons.mp hz with rfl | z'
  ·exact .inr (List.mem_of_getElem? hx)
  ·exact m.mem z z'
 ·rcases List.mem_cons.mp hz with rfl | z'
  ·exact h y hy
  ·exact m.ua y hy z z'
 ·rcases List.mem_cons.mp hz with rfl | z'
  ·obtain ⟨j,hj,ej⟩:=kY hy
   exact je ab.sb ej hx hj
  ·exact m.ub y (by rw [ht];exact List.mem_append_left _ hy) z z'
theorem iD {l:List Nat} (h:l.Pairwise (P o)) {i x y:Nat} (hx:l[i]?=some x) (hxy:P o x y):∀ z∈l.take (i+1),P o z y:=fun z hz=>by
 obtain ⟨j,hj,ej⟩:=kY hz
 by_cases c:j=i
 ·subst c;rw [hx] at ej;cases ej;exact hxy
 ·exact (je h ej hx (by omega)).trans hxy
theorem Mh.oH (ab:Ab o N A B) {y:Nat} {mb:Nat} (hy:B[mb]?=some y):∀ (k:Nat) {ts:List Nat} {at_:Nat},Mh o A B ts (at_+k) (mb+1)->(∀ i x,at_<=i->i < at_+k->A[i]?=some x->P o y x)->Mh o A B ((A.drop at_).take k++ts) at_ (mb+1)
 | 0,ts,at_,m,_=>by rw [List.take_zero];exact m
 | k+1,ts,at_,m,h=>by
  have la:=m.la
  have hx:A[at_+k]?=some (A[at_+k]'(by omega)):=List.getElem?_eq_getElem _
  have m2:=Mh.mT ab (show Mh o A B ts (at_+k+1) (mb+1) from m) hx (iD ab.sb hy (h _ _ (by omega) (by omega) hx))
  have m3:=Mh.oH ab hy k m2 fun i x h1 h2=>h i x h1 (by omega)
  rw [take_snoc hx,List.append_assoc]
  exact m3
theorem Mh.om (ab:Ab o N A B) {y:Nat} {ma:Nat} (hy:A[ma]?=some y):∀ (k:Nat) {ts:List Nat} {at_:Nat},Mh o A B ts (ma+1) (at_+k)->(∀ i x,at_<=i->i < at_+k->B[i]?=some x->P o y x)->Mh o A B ((B.drop at_).take k++ts) (ma+1) at_
 | 0,ts,at_,m,_=>by rw [List.take_zero];exact m
 | k+1,ts,at_,m,h=>by
  have lb:=m.lb
  have hx:B[at_+k]?=some (B[at_+k]'(by omega)):=List.getElem?_eq_getElem _
  have m2:=Mh.Aq ab (show Mh o A B ts (ma+1) (at_+k+1) from m) hx (iD ab.sa hy (h _ _ (by omega) (by omega) hx))
  have m3:=Mh.om ab hy k m2 fun i x h1 h2=>h i x h1 (by omega)
  rw [take_snoc hx,List.append_assoc]
  exact m3
theorem nq {l:List Nat} (h:l.Pairwise (P o)) (i:Nat):(l.take i).Pairwise (P o):=h.sublist (List.take_sublist ..)
theorem Mh.fin (ab:Ab o N A B) (m:Mh o A B ts na nb) (h:∀ x∈A.take na,∀ y∈B.take nb,P o x y):Res o f A B ((fa f A).extract 0 na++(fa f B).extract 0 nb++fa f ts):=by
 rw [nK,nK,gP,gP]
 have la:=m.la
 have lb:=m.lb
 have len:=m.len
 refine ⟨_,rfl,by rw [List.length_append,List.length_append,List.length_take,List.length_take];omega,?_,fun x hx=>?_⟩
 ·rw [List.pairwise_append,List.pairwise_append]
  refine ⟨⟨nq ab.sa _,nq ab.sb _,h⟩,m.so,fun x hx y hy=>?_⟩
  rcases List.mem_append.mp hx with z | z
  ·exact m.ua x z y hy
  ·exact m.ub x z y hy
 ·rcases List.mem_append.mp hx with z | z
  ·rcases List.mem_append.mp z with z | z
   ·exact .inl (List.mem_of_mem_take z)
   ·exact .inr (List.mem_of_mem_take z)
  ·exact m.mem x z
theorem Mh.H_ (ab:Ab o N A B) (m:Mh o A B ts na nb) (h:∀ x∈A.take na,∀ y∈B.take nb,P o y x):Res o f A B ((fa f B).extract 0 nb++(fa f A).extract 0 na++fa f ts):=by
 rw [nK,nK,gP,gP]
 have la:=m.la
 have lb:=m.lb
 have len:=m.len
 refine ⟨_,rfl,by rw [List.length_append,List.length_append,List.length_take,List.length_take];omega,?_,fun x hx=>?_⟩
 ·rw [List.pairwise_append,List.pairwise_append]
  refine ⟨⟨nq ab.sb _,nq ab.sa _,fun x hx y hy=>h y hy x hx⟩,m.so,fun x hx y hy=>?_⟩
  rcases List.mem_append.mp hx with z | z
  ·exact m.ub x z y hy
  ·exact m.ua x z y hy
 ·rcases List.mem_append.mp hx with z | z
  ·rcases List.mem_append.mp z with z | z
   ·exact .inr (List.mem_of_mem_take z)
   ·exact .inl (List.mem_of_mem_take z)
  ·exact m.mem x z
noncomputable def Ld (o:Ord) (X Y:List Nat):Prop:=∀ y,Y[0]?=some y->∀ x∈X,P o y x
theorem jG (ab:Ab o N A B) (bt:Ld o A B) (m:Mh o A B ts na nb) (h:nb=1):Res o f A B ((fa f B).extract 0 nb++(fa f A).extract 0 na++fa f ts):=
 m.H_ ab fun x hx y hy=>by
  obtain ⟨j,hj,ej⟩:=kY hy
  have:j=0:=by omega
  subst this
  exact bt y ej x (List.mem_of_mem_take hx)
theorem Mh.sQ (ab:Ab o N A B) (m:Mh o A B ts na nb) (h:na=0\/nb=0):Res o f A B ((fa f A).extract 0 na++(fa f B).extract 0 nb++fa f ts):=
 m.fin ab fun x hx y hy=>by
  rcases h with rfl | rfl
  ·rw [List.take_zero] at hx;cases hx
  ·rw [List.take_zero] at hy;cases hy
theorem nF (l:List Nat) (x:Nat):(fa f l.reverse).push (f x)=fa f (x::l).reverse:=by rw [lq,List.reverse_cons]
theorem CN (l m:List Nat):fa f l.reverse++(fa f m).reverse=fa f (m++l).reverse:=by rw [CT,gP,List.reverse_append]
theorem kq (l:List Nat):(fa f l.reverse).reverse=fa f l:=by rw [CT,List.reverse_reverse]
end
noncomputable abbrev H:=Option (Array Keyed)×Nat×Nat×Array Keyed×Nat×Nat×Nat
noncomputable def U3 (a b out:Array Keyed) (na nb mg ac bc:Nat):StateT SortSt Sem (ForInStep H):=do
 let x <- elem' a (na - 1)
 if (na - 1 == 0)=true then pure (ForInStep.done (some (a.extract 0 (na - 1)++b.extract 0 nb++(out.push x).reverse),na - 1,nb,out.push x,mg,ac,bc))
 else if (decide (ac < 7) && decide (bc < 7))=true then pure (ForInStep.done (none,na - 1,nb,out.push x,mg,ac,bc))
 else pure (ForInStep.yield (none,na - 1,nb,out.push x,mg,ac,bc))
noncomputable def U2 (a b out:Array Keyed) (na nb mg ac bc:Nat):StateT SortSt Sem (ForInStep H):=do
 let x <- elem' b (nb - 1)
 if (nb - 1 == 1)=true then pure (ForInStep.done (some (b.extract 0 (nb - 1)++a.extract 0 na++(out.push x).reverse),na,nb - 1,out.push x,mg,ac,bc))
 else
  let y <- elem' a (na - 1)
  let r <- dD true y b 0 (nb - 1) (nb - 1 - 1)
  match r with
  | some t=>
   if nb - 1 - t > 0 then
    if (t == 1)=true then pure (ForInStep.done (some (b.extract 0 t++a.extract 0 na++(out.push x++(b.extract t (nb - 1)).reverse).reverse),na,t,out.push x++(b.extract t (nb - 1)).reverse,mg,ac,nb - 1 - t))
    else if (t == 0)=true then pure (ForInStep.done (some (a.extract 0 na++b.extract 0 t++(out.push x++(b.extract t (nb - 1)).reverse).reverse),na,t,out.push x++(b.extract t (nb - 1)).reverse,mg,ac,nb - 1 - t))
    else U3 a b (out.push x++(b.extract t (nb - 1)).reverse) na t mg ac (nb - 1 - t)
   else U3 a b (out.push x) na (nb - 1) mg ac (nb - 1 - t)
  | _=>pure (ForInStep.done (some (a.extract 0 na++b.extract 0 (nb - 1)++(out.push x).reverse),na,nb - 1,out.push x,mg,ac,bc))
noncomputable def U1 (a b out:Array Keyed) (na nb mg ac bc:Nat):StateT SortSt Sem (ForInStep H):=do
 mS mg
 let x <- elem' b (nb - 1)
 let r <- dD false x a 0 na (na - 1)
 match r with
 | some t=>
  if na - t > 0 then
   if (t == 0)=true then pure (ForInStep.done (some (a.extract 0 t++b.extract 0 nb++(out++(a.extract t na).reverse).reverse),t,nb,out++(a.extract t na).reverse,mg,na - t,bc))
   else U2 a b (out++(a.extract t na).reverse) t nb mg (na - t) bc
  else U2 a b out na nb mg (na - t) bc
 | _=>pure (ForInStep.done (some (a.extract 0 na++b.extract 0 nb++out.reverse),na,nb,out,mg,ac,bc))
section
variable {prog:Program} {w:World} {A:Around} {E:Value->Shared->Prop} {s:Shared} {o:Ord} {N:Nat} {f:Nat->Keyed} {kd:SortKind} {st st0:SortSt} {X Y ts:List Nat} {na nb:Nat}
noncomputable def Oh (o:Ord) (X Y:List Nat) (n:Nat) (ts:List Nat) (na nb:Nat):Prop:=Mh o X Y ts na nb/\1<=na/\2<=nb/\na+nb+n<=X.length+Y.length
noncomputable def H2 (o:Ord) (f:Nat->Keyed) (X Y:List Nat) (n:Nat) (st0:SortSt):ForInStep H->SortSt->Prop:=fun r st'=>Sm st0 st'/\match r with
 | .done c=>(∃ r z,c=(some r,z)/\Res o f X Y r)\/∃ ts na nb mg ac bc,c=(none,na,nb,fa f ts.reverse,mg,ac,bc)/\Oh o X Y n ts na nb
 | .yield c=>∃ ts na nb mg ac bc,c=(none,na,nb,fa f ts.reverse,mg,ac,bc)/\Oh o X Y n ts na nb
theorem Hv (ab:Ab o N X Y) (hm:Sm st0 st) {n mg ac bc x y:Nat} (m:Mh o X Y ts (na+1) (nb+1)) (hb:1<=nb) (hn:na+1+(nb+1)+n<=X.length+Y.length) (hx:X[na]?=some x) (hy:Y[nb]?=some y) (hxy:P o y x) :
  wpS (model prog w) A E s (U3 (fa f X) (fa f Y) (fa f ts.reverse) (na+1) (nb+1) mg ac bc) (H2 o f X Y n st0) st:=by
 unfold U3
 rw [show na+1 - 1=na by omega]
 refine wpS_bind (bq (dG hx) ?_)
 have m2:=m.mT ab hx (iD ab.sb hy hxy)
 rw [nF,kq]
 by_cases c:na=0
 ·rw [if_pos (by rw [c];rfl)]
  exact wpS_pure ⟨hm,.inl ⟨_,_,rfl,m2.sQ ab (.inl c)⟩⟩
 ·rw [if_neg (by simpa using c)]
  by_cases c2:(decide (ac < 7) && decide (bc < 7))=true
  ·rw [if_pos c2]
   exact wpS_pure ⟨hm,.inr ⟨_,_,_,_,_,_,rfl,m2,by omega,by omega,by omega⟩⟩
  ·rw [if_neg c2]
   exact wpS_pure ⟨hm,⟨_,_,_,_,_,_,rfl,m2,by omega,by omega,by omega⟩⟩
theorem G1 (C:qB prog w A s o N f kd) (hk:kindOf st=kd) (ab:Ab o N X Y) (bt:Ld o X Y) (hm:Sm st0 st) {n mg ac bc x y:Nat} (m:Mh o X Y ts (na+1) (nb+1)) (hb:1<=nb) (hn:na+1+(nb+1)+n<=X.length+Y.length) (hx:X[na]?=some x) (hy:Y[nb]?=some y) (hxy:P o x y) :
  wpS (model prog w) A E s (U2 (fa f X) (fa f Y) (fa f ts.reverse) (na+1) (nb+1) mg ac bc) (H2 o f X Y n st0) st:=by
 unfold U2
 rw [show nb+1 - 1=nb by omega,show na+1 - 1=na by omega]
 refine wpS_bind (bq (dG hy) ?_)
 have m2:=m.Aq ab hy (iD ab.sa hx hxy)
 have lb:=m.lb
 rw [nF,kq]
 by_cases c:nb=1
 ·rw [if_pos (by rw [c];rfl)]
  exact wpS_pure ⟨hm,.inl ⟨_,_,rfl,jG ab bt m2 c⟩⟩
 ·rw [if_neg (by simpa using c)]
  refine wpS_bind (bq (dG hx) ?_)
  refine wpS_bind (BG C hk (h:=fun i=>Y.getD (0+i) 0) (fun i hi=>dG (getD_at (by omega))) (fun i hi=>?_) (wB ab.sb _ _ (by omega)) (by omega) fun t t1 t2 t3=>?_)
  ·have:=List.mem_of_getElem? (getD_at (l:=Y) (i:=0+i) (by omega))
   exact ⟨ab.lt x (List.mem_of_getElem? hx) _ this,ab.nb _ this⟩
  ·dsimp only
   have m3:=Mh.om ab hx (nb - t) (at_:=t) (by rw [show t+(nb - t)=nb by omega];exact m2) fun i z hi1 hi2 ez=>by
    have:=t3 i hi1 (by omega)
    rw [Nat.zero_add,List.getD_eq_getElem?_getD (l:=Y),ez] at this
    exact this
   by_cases c2:nb - t > 0
   ·rw [if_pos c2,mK Y t nb,CN,kq]
    by_cases c3:t=1
    ·rw [if_pos (by rw [c3];rfl)]
     exact wpS_pure ⟨hm,.inl ⟨_,_,rfl,jG ab bt m3 c3⟩⟩
    ·rw [if_neg (by simpa using c3)]
     by_cases c4:t=0
     ·rw [if_pos (by rw [c4];rfl)]
      exact wpS_pure ⟨hm,.inl ⟨_,_,rfl,m3.sQ ab (.inr c4)⟩⟩
     ·rw [if_neg (by simpa using c4)]
      obtain ⟨u,rfl⟩:∃ u,t=u+1:=⟨t - 1,by omega⟩
      have:=t2 u (by omega)
      rw [Nat.zero_add] at this
      exact Hv ab hm m3 (by omega) (by omega) hx (getD_at (by omega)) this
   ·rw [if_neg c2]
    have:t=nb:=by omega
    subst this
    obtain ⟨u,rfl⟩:∃ u,t=u+1:=⟨t - 1,by omega⟩
    have:=t2 u (by omega)
    rw [Nat.zero_add] at this
    exact Hv ab hm m2 (by omega) (by omega) hx (getD_at (by omega)) this
theorem K4 (C:qB prog w A s o N f kd) (hk:kindOf st0=kd) (ab:Ab o N X Y) (bt:Ld o X Y) (hm:Sm st0 st) {n mg ac bc:Nat} (m:Mh o X Y ts (na+1) (nb+1)) (hb:1<=nb) (hn:na+1+(nb+1)+n<=X.length+Y.length) :
  wpS (model prog w) A E s (U1 (fa f X) (fa f Y) (fa f ts.reverse) (na+1) (nb+1) mg ac bc) (H2 o f X Y n st0) st:=by
 unfold U1
 refine wpS_bind (k_ hm fun st1 hm1=>?_)
 have lb:=m.lb
 have la:=m.la
 rw [show nb+1 - 1=nb by omega,show na+1 - 1=na by omega]
 have hy:=getD_at (l:=Y) (i:=nb) (by omega)
 have yB:=List.mem_of_getElem? hy
 refine wpS_bind (bq (dG hy) ?_)
 refine wpS_bind (DP C (by rw [hm1.k];exact hk) (h:=fun i=>X.getD (0+i) 0) (fun i hi=>dG (getD_at (by omega))) (fun i hi=>ab.lt _ (List.mem_of_getElem? (getD_at (l:=X) (i:=0+i) (by omega))) _ yB) (ab.nb _ yB) (wB ab.sa _ _ (by omega)) (by omega) fun t t1 t2 t3=>?_)
 dsimp only
 have m3:=Mh.oH ab hy (na+1 - t) (at_:=t) (by rw [show t+(na+1 - t)=na+1 by omega];exact m) fun i z hi1 hi2 ez=>by
  have:=t3 i hi1 (by omega)
  rw [Nat.zero_add,List.getD_eq_getElem?_getD (l:=X),ez] at this
  exact this
 by_cases c2:na+1 - t > 0
 ·rw [if_pos c2,mK X t (na+1),CN,kq]
  by_cases c4:t=0
  ·rw [if_pos (by rw [c4];rfl)]
   exact wpS_pure ⟨hm1,.inl ⟨_,_,rfl,m3.sQ ab (.inl c4)⟩⟩
  ·rw [if_neg (by simpa using c4)]
   obtain ⟨u,rfl⟩:∃ u,t=u+1:=⟨t - 1,by omega⟩
   have:=t2 u (by omega)
   rw [Nat.zero_add] at this
   exact G1 C (by rw [hm1.k];exact hk) ab bt hm1 m3 hb (by omega) (getD_at (by omega)) hy this
 ·rw [if_neg c2]
  have:t=na+1:=by omega
  subst this
  have:=t2 na (by omega)
  rw [Nat.zero_add] at this
  exact G1 C (by rw [hm1.k];exact hk) ab bt hm1 m hb hn (getD_at (by omega)) hy this
theorem K7 (C:qB prog w A s o N f kd) (hk:kindOf st=kd) (ab:Ab o N X Y) (tp:Top o X Y) (bt:Ld o X Y) (h1:1<=X.length) (h2:1<=Y.length)
  {Q:Array Keyed->SortSt->Prop} (q:∀ out st',Sm st st'->Res o f X Y out->Q out st'):wpS (model prog w) A E s (o6 (fa f X) (fa f Y)) Q st:=by
 rw [vL]
 refine wpS_bind (wpS_lift (wpAny_rule ⟨rfl,?_⟩))
 dsimp only
 simp only [jN]
 have hx0:=getD_at (l:=X) (i:=X.length - 1) (by omega)
 refine wpS_bind (bq (dG hx0) ?_)
 have m0:Mh o X Y [] (X.length - 1+1) Y.length:=⟨by omega,Nat.le_refl _,by rw [List.length_nil];omega,List.Pairwise.nil,(fun _ h=>nomatch h),(fun _ _ _ h=>nomatch h),(fun _ _ _ h=>nomatch h)⟩
 have m1:=m0.mT ab hx0 fun y hy=>tp _ _ hx0 (by omega) y (List.mem_of_mem_take hy)
 obtain ⟨x0,ex0⟩:∃ x0,x0=X.getD (X.length - 1) 0:=⟨_,rfl⟩
 rw [<- ex0] at m1 ⊢
 have e1:(#[f x0]:Array Keyed)=fa f [x0].reverse:=rfl
 rw [e1,kq]
 by_cases c:X.length - 1=0
 ·rw [if_pos (by rw [c];rfl)]
  exact wpS_pure (q _ _ Sm.refl (m1.sQ ab (.inl c)))
 ·rw [if_neg (by simpa using c)]
  by_cases c2:Y.length=1
  ·rw [if_pos (by rw [c2];rfl)]
   exact wpS_pure (q _ _ Sm.refl (jG ab bt m1 c2))
  ·rw [if_neg (by simpa using c2)]
   refine wpS_bind (wpS_get ?_)
   refine wpS_bind (wpS_mono (wpS_forRange (I:=fun x c st'=>Sm st st'/\∃ ts na nb mg,c=(none,na,nb,fa f ts.reverse,mg)/\Oh o X Y (x+1) ts na nb)
    (Q:=fun c st'=>Sm st st'/\∃ r z,c=(some r,z)/\Res o f X Y r) ?step ?fin ⟨Sm.refl,_,_,_,_,rfl,m1,by omega,by omega,by omega⟩) ?post)
   case post=>
    rintro c st' ⟨hm,r,z,rfl,hr⟩
    exact wpS_pure (q _ _ hm hr)
   case fin=>
    rintro c st' ⟨hm,ts,na,nb,mg,rfl,m,a1,a2,a3⟩
    exfalso
    omega
   case step=>
    intro x c st' _ hx hh
    revert hh;revert c
    refine NI fun hm ts na nb mg ho=>?_
    have m:=ho.1;have a1:=ho.2.1;have a2:=ho.2.2.1;have a3:=ho.2.2.2
    clear ho
    dsimp only
    refine wpS_bind (wpS_mono (wpS_forRange (I:=fun x' c st''=>Sm st st''/\∃ ts na nb ac bc,c=(none,na,nb,fa f ts.reverse,ac,bc)/\Oh o X Y (x+1+min x' 1) ts na nb)
     (Q:=fun c st''=>Sm st st''/\((∃ r z,c=(some r,z)/\Res o f X Y r)\/∃ ts na nb ac bc,c=(none,na,nb,fa f ts.reverse,ac,bc)/\Oh o X Y (x+1+1) ts na nb)) ?istep ?ifin ⟨hm,_,_,_,_,_,rfl,m,a1,a2,a3⟩) ?ipost)
    case ifin=>
     rintro c st'' ⟨hm',ts,na,nb,ac,bc,rfl,m,a1,a2,a3⟩
     exact ⟨hm',.inr ⟨_,_,_,_,_,rfl,m,a1,a2,by omega⟩⟩
    case istep=>
     intro x' c st'' _ hx' hh
     revert hh;revert c
     refine N1 fun hm' ts na nb ac bc ho=>?_
     have m:=ho.1;have a1:=ho.2.1;have a2:=ho.2.2.1;have a3:=ho.2.2.2
     clear ho
     dsimp only
     obtain ⟨u,rfl⟩:∃ u,na=u+1:=⟨na - 1,by omega⟩
     obtain ⟨v,rfl⟩:∃ v,nb=v+1:=⟨nb - 1,by omega⟩
     have la:=m.la
     have lb:=m.lb
     rw [show u+1 - 1=u by omega,show v+1 - 1=v by omega]
     have hy:=getD_at (l:=Y) (i:=v) (by omega)
     have hxx:=getD_at (l:=X) (i:=u) (by omega)
     have yB:=List.mem_of_getElem? hy
     have xA:=List.mem_of_getElem? hxx
     have lt:=ab.lt _ xA _ yB
     refine wpS_bind (bq (dG hy) ?_)
     refine wpS_bind (bq (dG hxx) ?_)
     refine wpS_bind (nR C (by rw [hm'.k];exact hk) (ab.nb _ yB) (ab.na _ xA) ?_)
     cases hl:o.lt (Y.getD v 0) (X.getD u 0)
     ·simp only [Bool.false_eq_true,if_false]
      refine wpS_bind (bq (dG hy) ?_)
      have m2:=m.Aq ab hy (iD ab.sa hxx (P.mZ hl lt))
      rw [nF,kq]
      by_cases c3:v=1
      ·rw [if_pos (by rw [c3];rfl)]
       exact wpS_pure ⟨hm',.inl ⟨_,_,rfl,jG ab bt m2 c3⟩⟩
      ·rw [if_neg (by simpa using c3)]
       by_cases c4:bc+1>=mg
       ·rw [if_pos c4]
        exact wpS_pure ⟨hm',.inr ⟨_,_,_,_,_,rfl,m2,a1,by omega,by omega⟩⟩
       ·rw [if_neg c4]
        exact wpS_pure ⟨hm',_,_,_,_,_,rfl,m2,a1,by omega,by omega⟩
     ·simp only [if_true]
      refine wpS_bind (bq (dG hxx) ?_)
      have m2:=m.mT ab hxx (iD ab.sb hy (P.of_lt hl))
      rw [nF,kq]
      by_cases c3:u=0
      ·rw [if_pos (by rw [c3];rfl)]
       exact wpS_pure ⟨hm',.inl ⟨_,_,rfl,m2.sQ ab (.inl c3)⟩⟩
      ·rw [if_neg (by simpa using c3)]
       by_cases c4:ac+1>=mg
       ·rw [if_pos c4]
        exact wpS_pure ⟨hm',.inr ⟨_,_,_,_,_,rfl,m2,by omega,a2,by omega⟩⟩
       ·rw [if_neg c4]
        exact wpS_pure ⟨hm',_,_,_,_,_,rfl,m2,by omega,a2,by omega⟩
    case ipost=>
     intro c st'' hh
     revert hh;revert c
     refine N4 (fun hm' r z hr=>?_) fun hm' ts na nb ac bc ho=>?_
     ·dsimp only
      exact wpS_pure ⟨hm',r,_,rfl,hr⟩
     ·have m:=ho.1;have a1:=ho.2.1;have a2:=ho.2.2.1;have a3:=ho.2.2.2
      clear ho
      dsimp only
      refine wpS_bind (wpS_lift (wpAny_rule ⟨rfl,?_⟩))
      refine wpS_bind (wpS_mono (wpS_forRange (I:=fun x' c st''=>Sm st st''/\∃ ts na nb mg ac bc,c=(none,na,nb,fa f ts.reverse,mg,ac,bc)/\Oh o X Y (x+1+1) ts na nb)
       (Q:=fun c st''=>Sm st st''/\((∃ r z,c=(some r,z)/\Res o f X Y r)\/∃ ts na nb mg ac bc,c=(none,na,nb,fa f ts.reverse,mg,ac,bc)/\Oh o X Y (x+1+1) ts na nb)) ?jstep ?jfin ⟨hm',_,_,_,_,_,_,rfl,m,a1,a2,a3⟩) ?jpost)
      case jfin=>
       rintro c st3 ⟨hm3,hh⟩
       exact ⟨hm3,.inr hh⟩
      case jstep=>
       intro x' c st3 _ hx' hh
       revert hh;revert c
       refine NY fun hm3 ts na nb mg ac bc ho=>?_
       have m:=ho.1;have a1:=ho.2.1;have a2:=ho.2.2.1;have a3:=ho.2.2.2
       clear ho
       dsimp only
       obtain ⟨u,rfl⟩:∃ u,na=u+1:=⟨na - 1,by omega⟩
       obtain ⟨v,rfl⟩:∃ v,nb=v+1:=⟨nb - 1,by omega⟩
       have t1:=fun mg=>K4 (n:=x+1+1) (mg:=mg) (ac:=ac) (bc:=bc) (E:=E) C hk ab bt hm3 m (by omega) a3
       unfold U1 U2 U3 at t1
       refine wpS_mono (Q:=H2 o f X Y (x+1+1) st) ?_ ?_
       ·by_cases c3:mg > 1
        ·rw [if_pos c3]
         exact t1 (mg - 1)
        ·rw [if_neg c3]
         exact t1 mg
       ·rintro r st4 ⟨hm4,hr⟩
        cases r with
        | done c=>exact ⟨hm4,hr⟩
        | yield c=>exact ⟨hm4,hr⟩
      case jpost=>
       intro c st3 hh
       revert hh;revert c
       refine NV (fun hm3 r z hr=>?_) fun hm3 ts na nb mg ac bc ho=>?_
       ·dsimp only
        exact wpS_pure ⟨hm3,r,_,rfl,hr⟩
       ·have m:=ho.1;have a1:=ho.2.1;have a2:=ho.2.2.1;have a3:=ho.2.2.2
        clear ho
        dsimp only
        refine wpS_bind (k_ hm3 fun st4 hm4=>?_)
        exact wpS_pure ⟨hm4,_,_,_,_,rfl,m,a1,a2,a3⟩
end
theorem vn (i:Nat):mergeAt' i=(do
 let s <- get
 let (some (a1,n1,pw),some (a2,n2,_)):=((pendingOf s)[i]?,(pendingOf s)[i+1]?) | unsupported "internal:list.sort.pending"
 set (setPending s (((pendingOf s).setIfInBounds i (a1,n1+n2,pw)).eraseIdxIfInBounds (i+1)))
 let some k <- dD false (<- elem' (arrOf s) a2) (arrOf s) a1 n1 0 | return false
 let (a1,n1):=(a1+k,n1 - k)
 if n1 == 0 then return true
 let some n2 <- dD true (<- elem' (arrOf s) (a1+n1 - 1)) (arrOf s) a2 n2 (n2 - 1) | return false
 if n2 == 0 then return true
 let x:=(arrOf s).extract a1 a2
 let y:=(arrOf s).extract a2 (a2+n2)
 let both <- if n1<=n2 then oX x y else o6 x y
 modify fun s=>setArr s (both.toList.zipIdx.foldl (fun a (p,j)=>a.setIfInBounds (a1+j) p) (arrOf s))
 return (failedOf (<- get)).isNone):=rfl
noncomputable def seg (g:Nat->Nat) (a n:Nat):List Nat:=(List.range n).map fun i=>g (a+i)
section
variable {o:Ord} {N:Nat} {f:Nat->Keyed} {g:Nat->Nat}
theorem fm (g:Nat->Nat) (a n:Nat):(seg g a n).length=n:=by unfold seg;rw [List.length_map,List.length_range]
theorem iN {a n i:Nat} (h:i < n):(seg g a n)[i]?=some (g (a+i)):=by unfold seg;rw [List.getElem?_map,List.getElem?_range h];rfl
theorem gX {a n x:Nat} (h:x∈seg g a n):∃ i,i < n/\x=g (a+i):=by
 obtain ⟨i,hi,rfl⟩:=List.mem_map.mp h
 exact ⟨i,List.mem_range.mp hi,rfl⟩
theorem BC {a n:Nat} (h:So o g a (a+n)):(seg g a n).Pairwise (P o):=by
 rw [List.pairwise_iff_getElem]
 intro i j hi hj hij
 rw [fm] at hi hj
 have e1:=iN (g:=g) (a:=a) hi
 have e2:=iN (g:=g) (a:=a) hj
 rw [List.getElem?_eq_getElem (by rw [fm];exact hi)] at e1
 rw [List.getElem?_eq_getElem (by rw [fm];exact hj)] at e2
 rw [Option.some.inj e1,Option.some.inj e2]
 exact h _ _ (by omega) (by omega) (by omega)
theorem wF {arr:Array Keyed} (hs:arr.size=N) (hg:∀ i,i < N->arr[i]?=some (f (g i))) {a n:Nat} (h:a+n<=N):arr.extract a (a+n)=fa f (seg g a n):=by
 apply Array.ext_getElem?
 intro i
 rw [C1,Array.getElem?_extract]
 by_cases c:i < n
 ·rw [if_pos (by omega),iN c,hg _ (by omega)];rfl
 ·rw [if_neg (by omega),List.getElem?_eq_none (by rw [fm];omega)];rfl
theorem qv {α:Type} (b:Nat):∀ (l:List α) (n:Nat) (arr:Array α),((l.zipIdx n).foldl (fun a (p,j)=>a.setIfInBounds (b+j) p) arr).size=arr.size
 | [],_,_=>rfl
 | x::l,n,arr=>by
  rw [List.zipIdx_cons,List.foldl_cons,qv b l (n+1)]
  exact Array.size_setIfInBounds ..
theorem sj {α:Type} (b:Nat):∀ (l:List α) (n:Nat) (arr:Array α) (k:Nat),b+n+l.length<=arr.size->((l.zipIdx n).foldl (fun a (p,j)=>a.setIfInBounds (b+j) p) arr)[k]?=if b+n<=k/\k < b+n+l.length then l[k - (b+n)]? else arr[k]?
 | [],n,arr,k,h=>by rw [if_neg (by rw [List.length_nil];omega)];rfl
 | x::l,n,arr,k,h=>by
  rw [List.length_cons] at h
  rw [List.zipIdx_cons,List.foldl_cons,sj b l (n+1) _ k (by rw [Array.size_setIfInBounds];omega),List.length_cons]
  by_cases c:k=b+n
  ·subst c
   rw [if_neg (by omega),if_pos (by omega),Nat.sub_self]
   show (arr.setIfInBounds (b+n) x)[b+n]?=some x
   rw [Array.getElem?_setIfInBounds_self_of_lt (by omega)]
  ·by_cases c2:b+n<=k/\k < b+n+(l.length+1)
   ·rw [if_pos (by omega),if_pos c2,show k - (b+n)=k - (b+(n+1))+1 by omega,List.getElem?_cons_succ]
   ·rw [if_neg (by omega),if_neg c2]
    show (arr.setIfInBounds (b+n) x)[k]?=arr[k]?
    rw [Array.getElem?_setIfInBounds_ne (by omega)]
end
section
variable {prog:Program} {w:World} {A:Around} {E:Value->Shared->Prop} {s:Shared} {o:Ord} {N:Nat} {f:Nat->Keyed} {kd:SortKind} {g:Nat->Nat} {st:SortSt}
theorem EI {st':SortSt} {Q:PUnit->SortSt->Prop} (h:Q ⟨⟩ st'):wpS (model prog w) A E s (set st':StateT SortSt Sem PUnit) Q st:=by
 unfold wpS;rw [StateT.run_set];exact wpAny_pure ⟨rfl,h⟩
theorem Lz (C:qB prog w A s o N f kd) {l1 l2:List (Nat×Nat×Nat)} {sa na nb pw pv:Nat} (h:Sg N f kd g (l1++(sa,na,pw)::(sa+na,nb,pv)::l2).toArray st) (ha:1<=na) (hb:1<=nb) (hN:sa+na+nb<=N)
  (c1:Cl g sa (sa+na)) (s1:So o g sa (sa+na)) (c2:Cl g (sa+na) (sa+na+nb)) (s2:So o g (sa+na) (sa+na+nb))
  {Q:Bool->SortSt->Prop} (q:∀ g' st',Sg N f kd g' (l1++(sa,na+nb,pw)::l2).toArray st'->Rn o g g' sa (sa+na+nb)->Q true st'):wpS (model prog w) A E s (mergeAt' l1.length) Q st:=by
 rw [vn]
 refine wpS_bind (wpS_get ?_)
 have e1:(pendingOf st)[l1.length]?=some (sa,na,pw):=by rw [h.pend];simp
 have e2:(pendingOf st)[l1.length+1]?=some (sa+na,nb,pv):=by rw [h.pend];simp
 have e3:((pendingOf st).setIfInBounds l1.length (sa,na+nb,pw)).eraseIdxIfInBounds (l1.length+1)=(l1++(sa,na+nb,pw)::l2).toArray:=by
  rw [h.pend,List.setIfInBounds_toArray,List.eraseIdxIfInBounds_toArray]
  congr 1
  rw [List.set_append_right _ _ (Nat.le_refl _),Nat.sub_self,List.eraseIdx_append_of_length_le (by omega),show l1.length+1 - l1.length=1 by omega]
  rfl
 rw [e1,e2]
 dsimp only
 rw [e3]
 refine wpS_bind (EI ?_)
 have h':Sg N f kd g (l1++(sa,na+nb,pw)::l2).toArray (setPending st (l1++(sa,na+nb,pw)::l2).toArray):=⟨h.size,h.get,h.lt,h.kind,h.failed,rfl⟩
 obtain ⟨st1,hst1⟩:∃ st1,st1=setPending st (l1++(sa,na+nb,pw)::l2).toArray:=⟨_,rfl⟩
 rw [<- hst1] at h' ⊢
 refine wpS_bind (bq (h.get (sa+na) (by omega)) ?_)
 have b0:=c2 (sa+na) (by omega) (by omega)
 refine wpS_bind (DP C h'.kind (h:=fun i=>g (sa+i)) (fun i hi=>h.get _ (by omega)) (fun i hi=>by have:=c1 (sa+i) (by omega) (by omega);omega) (by omega) (fun i j _ a b=>s1 _ _ (by omega) (by omega) (by omega)) (by omega) fun k k1 k2 k3=>?_)
 dsimp only
 by_cases cz:na - k=0
 ·rw [if_pos (by rw [cz];rfl)]
  refine wpS_pure (q g st1 h' ⟨fun _ _=>rfl,fun i a b=>?_,fun i j a b c=>?_⟩)
  ·by_cases d:i < sa+na
   ·have:=c1 i a d;omega
   ·have:=c2 i (by omega) b;omega
  ·by_cases d:j < sa+na
   ·exact s1 i j a b d
   ·by_cases d2:sa+na<=i
    ·exact s2 i j d2 b c
    ·have r:=k2 (i - sa) (by omega)
     rw [show sa+(i - sa)=i by omega] at r
     by_cases d3:j=sa+na
     ·subst d3;exact r
     ·exact r.trans (s2 _ _ (by omega) (by omega) c)
 ·rw [if_neg (by simpa using cz)]
  have hlast:sa+k+(na - k) - 1=sa+na - 1:=by omega
  rw [hlast]
  refine wpS_bind (bq (h.get (sa+na - 1) (by omega)) ?_)
  have a0:=c1 (sa+na - 1) (by omega) (by omega)
  refine wpS_bind (BG C h'.kind (h:=fun i=>g (sa+na+i)) (fun i hi=>h.get _ (by omega)) (fun i hi=>by have:=c2 (sa+na+i) (by omega) (by omega);omega) (fun i j _ a b=>s2 _ _ (by omega) (by omega) (by omega)) (by omega) fun t t1 t2 t3=>?_)
  dsimp only
  by_cases cy:t=0
  ·rw [if_pos (by rw [cy];rfl)]
   subst cy
   refine wpS_pure (q g st1 h' ⟨fun _ _=>rfl,fun i a b=>?_,fun i j a b c=>?_⟩)
   ·by_cases d:i < sa+na
    ·have:=c1 i a d;omega
    ·have:=c2 i (by omega) b;omega
   ·by_cases d:j < sa+na
    ·exact s1 i j a b d
    ·by_cases d2:sa+na<=i
     ·exact s2 i j d2 b c
     ·have r:=t3 (j - (sa+na)) (by omega) (by omega)
      rw [show sa+na+(j - (sa+na))=j by omega] at r
      by_cases d3:i=sa+na - 1
      ·subst d3;exact r
      ·exact (s1 i (sa+na - 1) a (by omega) (by omega)).trans r
  ·rw [if_neg (by simpa using cy)]
   have x1:(arrOf st).extract (sa+k) (sa+na)=fa f (seg g (sa+k) (na - k)):=by
    have:=wF (f:=f) (g:=g) h.size h.get (a:=sa+k) (n:=na - k) (by omega)
    rwa [show sa+k+(na - k)=sa+na by omega] at this
   have x2:(arrOf st).extract (sa+na) (sa+na+t)=fa f (seg g (sa+na) t):=wF h.size h.get (by omega)
   rw [x1,x2]
   have sx:So o g (sa+k) (sa+k+(na - k)):=fun i j a b c=>s1 i j (by omega) b (by omega)
   have sy:So o g (sa+na) (sa+na+t):=fun i j a b c=>s2 i j a b (by omega)
   have ab:Ab o N (seg g (sa+k) (na - k)) (seg g (sa+na) t):={
    sa:=BC sx
    sb:=BC sy
    lt:=fun x hx y hy=>by
     obtain ⟨i,hi,rfl⟩:=gX hx
     obtain ⟨j,hj,rfl⟩:=gX hy
     have:=c1 (sa+k+i) (by omega) (by omega)
     have:=c2 (sa+na+j) (by omega) (by omega)
     omega
    nb:=fun y hy=>by
     obtain ⟨j,hj,rfl⟩:=gX hy
     exact h.lt _ (by omega)
    na:=fun y hy=>by
     obtain ⟨j,hj,rfl⟩:=gX hy
     exact h.lt _ (by omega) }
   have tp:Top o (seg g (sa+k) (na - k)) (seg g (sa+na) t):=fun i x hx hi y hy=>by
    rw [fm] at hi
    rw [iN (by omega)] at hx
    cases hx
    obtain ⟨j,hj,rfl⟩:=gX hy
    rw [show sa+k+i=sa+na - 1 by omega]
    exact t2 j hj
   have bt:Ld o (seg g (sa+k) (na - k)) (seg g (sa+na) t):=fun y hy x hx=>by
    rw [iN (by omega)] at hy
    cases hy
    obtain ⟨i,hi,rfl⟩:=gX hx
    have:=k3 (k+i) (by omega) (by omega)
    rwa [<- Nat.add_assoc] at this
   have fin:∀ out st2,Sm st1 st2->Res o f (seg g (sa+k) (na - k)) (seg g (sa+na) t) out->wpS (model prog w) A E s (do
     modify fun s=>setArr s (out.toList.zipIdx.foldl (fun a (p,j)=>a.setIfInBounds (sa+k+j) p) (arrOf s))
     let s <- get
     pure (failedOf s).isNone) Q st2:=by
    rintro out st2 hm ⟨hs,rfl,hlen,hso,hmem⟩
    rw [fm,fm] at hlen
    refine wpS_bind (wpS_modify (wpS_bind (wpS_get ?_)))
    have hf:(failedOf st2)=none:=by rw [hm.f];exact h'.failed
    have hmx:∀ j x,hs[j]?=some x->(∃ i,i < na - k/\x=g (sa+k+i))\/∃ i,i < t/\x=g (sa+na+i):=fun j x e=>by
     rcases hmem x (List.mem_of_getElem? e) with z | z
     ·exact .inl (gX z)
     ·exact .inr (gX z)
    have ez:(fa f hs).toList=hs.map f:=by unfold fa;rfl
    have hsz:sa+k+0+(hs.map f).length<=(arrOf st2).size:=by rw [List.length_map,hlen,hm.a,h'.size];omega
    refine wpS_pure ?_
    show Q (failedOf st2).isNone _
    rw [hf]
    refine q (fun i=>if sa+k<=i/\i < sa+k+(na - k+t) then hs.getD (i - (sa+k)) 0 else g i) _ ⟨?_,fun i hi=>?_,fun i hi=>?_,by rw [show kindOf (setArr st2 _)=kindOf st2 from rfl,hm.k];exact h'.kind,hf,by rw [show pendingOf (setArr st2 _)=pendingOf st2 from rfl,hm.p];exact h'.pend⟩ ?_
    ·have:=qv (sa+k) (fa f hs).toList 0 (arrOf st2)
     rw [hm.a,h'.size] at this
     rw [<- this,<- hm.a]
    ·show (List.foldl _ _ _)[i]?=_
     rw [ez,sj _ _ _ _ _ hsz,List.length_map,hlen,hm.a]
     by_cases d:sa+k<=i/\i < sa+k+(na - k+t)
     ·rw [if_pos (by omega),if_pos d,List.getElem?_map,Nat.add_zero,getD_at (l:=hs) (by omega)];rfl
     ·rw [if_neg (by omega),if_neg d]
      exact h'.get i hi
    ·by_cases d:sa+k<=i/\i < sa+k+(na - k+t)
     ·rw [if_pos d]
      rcases hmx _ _ (getD_at (l:=hs) (i:=i - (sa+k)) (by omega)) with ⟨j,hj,e⟩ | ⟨j,hj,e⟩
      ·rw [e];exact h.lt _ (by omega)
      ·rw [e];exact h.lt _ (by omega)
     ·rw [if_neg d];exact h.lt i hi
    ·have gin:∀ i,sa+k<=i->i < sa+na+t->(if sa+k<=i/\i < sa+k+(na - k+t) then hs.getD (i - (sa+k)) 0 else g i)=hs.getD (i - (sa+k)) 0:=fun i a b=>if_pos (by omega)
     have gout:∀ i,i < sa+k\/sa+na+t<=i->(if sa+k<=i/\i < sa+k+(na - k+t) then hs.getD (i - (sa+k)) 0 else g i)=g i:=fun i a=>if_neg (by omega)
     refine ⟨fun i hi=>gout i (by omega),fun i a b=>?_,fun i j a b c=>?_⟩
     ·by_cases d:sa+k<=i/\i < sa+na+t
      ·show _<=ite _ _ _/\ite _ _ _ < _
       rw [gin i d.1 d.2]
       rcases hmx _ _ (getD_at (l:=hs) (i:=i - (sa+k)) (by omega)) with ⟨j,hj,e⟩ | ⟨j,hj,e⟩
       ·rw [e];have:=c1 (sa+k+j) (by omega) (by omega);omega
       ·rw [e];have:=c2 (sa+na+j) (by omega) (by omega);omega
      ·show _<=ite _ _ _/\ite _ _ _ < _
       rw [gout i (by omega)]
       by_cases d2:i < sa+na
       ·have:=c1 i a d2;omega
       ·have:=c2 i (by omega) b;omega
     ·show P o (ite _ _ _) (ite _ _ _)
      by_cases d1:i < sa+k
      ·rw [gout i (.inl d1)]
       have r:=k2 (i - sa) (by omega)
       rw [show sa+(i - sa)=i by omega] at r
       by_cases d2:j < sa+k
       ·rw [gout j (.inl d2)];exact s1 i j a b (by omega)
       ·by_cases d3:j < sa+na+t
        ·rw [gin j (by omega) d3]
         rcases hmx _ _ (getD_at (l:=hs) (i:=j - (sa+k)) (by omega)) with ⟨v,hv,e⟩ | ⟨v,hv,e⟩
         ·rw [e];exact s1 _ _ a (by omega) (by omega)
         ·rw [e]
          by_cases d4:v=0
          ·subst d4;exact r
          ·exact r.trans (s2 _ _ (by omega) (by omega) (by omega))
        ·rw [gout j (by omega)]
         exact r.trans (s2 _ _ (by omega) (by omega) c)
      ·by_cases d2:i < sa+na+t
       ·rw [gin i (by omega) d2]
        by_cases d3:j < sa+na+t
        ·rw [gin j (by omega) d3]
         exact je hso (getD_at (by omega)) (getD_at (by omega)) (by omega)
        ·rw [gout j (by omega)]
         rcases hmx _ _ (getD_at (l:=hs) (i:=i - (sa+k)) (by omega)) with ⟨v,hv,e⟩ | ⟨v,hv,e⟩
         ·rw [e]
          have r:=t3 (j - (sa+na)) (by omega) (by omega)
          rw [show sa+na+(j - (sa+na))=j by omega] at r
          by_cases d4:sa+k+v=sa+na - 1
          ·rw [d4];exact r
          ·exact (s1 _ (sa+na - 1) (by omega) (by omega) (by omega)).trans r
         ·rw [e];exact s2 _ _ (by omega) (by omega) c
       ·rw [gout i (by omega),gout j (by omega)]
        exact s2 i j (by omega) b c
   by_cases cl:na - k<=t
   ·rw [if_pos cl]
    exact wpS_bind (L0 C h'.kind ab tp (by rw [fm];omega) (iN (by omega)) (bt _ (iN (by omega))) fin)
   ·rw [if_neg cl]
    exact wpS_bind (K7 C h'.kind ab tp bt (by rw [fm];omega) (by rw [fm];omega) fin)
end
noncomputable abbrev pr (x:Nat×Nat×Nat):Nat×Nat:=(x.1,x.2.1)
noncomputable def iG (o:Ord) (g:Nat->Nat):List (Nat×Nat)->Nat->Nat->Prop
 | [],a,b=>a=b
 | x::l,a,b=>x.1=a/\1<=x.2/\Cl g a (a+x.2)/\So o g a (a+x.2)/\iG o g l (a+x.2) b
noncomputable def PA (o:Ord) (g:Nat->Nat) (p:Array (Nat×Nat×Nat)) (b:Nat):Prop:=iG o g (p.toList.map pr) 0 b
section
variable {o:Ord} {g:Nat->Nat}
theorem iG.le:∀ {l:List (Nat×Nat)} {a b:Nat},iG o g l a b->a+l.length<=b
 | [],a,b,h=>by have h:a=b:=h;rw [List.length_nil];omega
 | x::l,a,b,h=>by
  have:=h.2.2.2.2.le
  have:=h.2.1
  rw [List.length_cons];omega
theorem iG.congr {g':Nat->Nat}:∀ {l:List (Nat×Nat)} {a b:Nat},iG o g l a b->(∀ i,a<=i->i < b->g' i=g i)->iG o g' l a b
 | [],a,b,h,_=>h
 | x::l,a,b,h,e=>by
  have hb:=h.2.2.2.2.le
  refine ⟨h.1,h.2.1,fun i h1 h2=>?_,fun i j h1 h2 h3=>?_,h.2.2.2.2.congr fun i h1 h2=>e i (by omega) h2⟩
  ·rw [e i h1 (by omega)];exact h.2.2.1 i h1 h2
  ·rw [e i h1 (by omega),e j (by omega) (by omega)];exact h.2.2.2.1 i j h1 h2 h3
theorem iG.app:∀ {l m:List (Nat×Nat)} {a b:Nat},iG o g (l++m) a b ↔ ∃ c,iG o g l a c/\iG o g m c b
 | [],m,a,b=>⟨fun h=>⟨a,rfl,h⟩,fun ⟨c,h1,h2⟩=>by have h1:a=c:=h1;subst h1;exact h2⟩
 | x::l,m,a,b=>by
  constructor
  ·rintro ⟨h1,h2,h3,h4,h5⟩
   obtain ⟨c,h6,h7⟩:=iG.app.mp h5
   exact ⟨c,⟨h1,h2,h3,h4,h6⟩,h7⟩
  ·rintro ⟨c,⟨h1,h2,h3,h4,h5⟩,h6⟩
   exact ⟨h1,h2,h3,h4,iG.app.mpr ⟨c,h5,h6⟩⟩
theorem Ct {p:Array (Nat×Nat×Nat)} {i:Nat} (h:i+1 < p.size):∃ l1 x y l2,p=(l1++x::y::l2).toArray/\l1.length=i:=by
 have h':i+1 < p.toList.length:=h
 refine ⟨p.toList.take i,p.toList[i],p.toList[i+1],p.toList.drop (i+2),?_,by rw [List.length_take];omega⟩
 apply Array.toList_inj.mp
 show p.toList=_
 conv=>lhs;rw [<- List.take_append_drop i p.toList,List.drop_eq_getElem_cons (show i < p.toList.length by omega),List.drop_eq_getElem_cons h']
end
section
variable {prog:Program} {w:World} {A:Around} {E:Value->Shared->Prop} {s:Shared} {o:Ord} {N:Nat} {f:Nat->Keyed} {kd:SortKind} {g:Nat->Nat} {p:Array (Nat×Nat×Nat)} {st:SortSt}
theorem vQ (C:qB prog w A s o N f kd) (h:Sg N f kd g p st) {lo i:Nat} (hp:PA o g p lo) (hlo:lo<=N) (hi:i+1 < p.size)
  {Q:Bool->SortSt->Prop} (q:∀ g' p' st',Sg N f kd g' p' st'->PA o g' p' lo->p'.size+1=p.size->(∀ k,lo<=k->g' k=g k)->Q true st'):wpS (model prog w) A E s (mergeAt' i) Q st:=by
 obtain ⟨l1,⟨sa,na,pw⟩,⟨sb,nb,pv⟩,l2,rfl,rfl⟩:=Ct hi
 unfold PA at hp
 rw [show (l1++(sa,na,pw)::(sb,nb,pv)::l2).toArray.toList=l1++(sa,na,pw)::(sb,nb,pv)::l2 from rfl,List.map_append] at hp
 obtain ⟨c,h1,h2⟩:=iG.app.mp hp
 obtain ⟨e1,n1,cl1,so1,e2,n2,cl2,so2,rest⟩:=h2
 have e1:sa=c:=e1
 subst e1
 have e2:sb=sa+na:=e2
 subst e2
 have l2b:=rest.le
 have n1:1<=na:=n1
 have n2:1<=nb:=n2
 have l2b:sa+na+nb<=lo:=by
  have:sa+na+nb+(List.map pr l2).length<=lo:=l2b
  omega
 refine Lz C h n1 n2 (by omega) cl1 so1 cl2 so2 fun g' st' h' R=>q g' _ st' h' ?_ (by simp;omega) fun k hk=>R.out k (by omega)
 unfold PA
 rw [show (l1++(sa,na+nb,pw)::l2).toArray.toList=l1++(sa,na+nb,pw)::l2 from rfl,List.map_append]
 refine iG.app.mpr ⟨sa,h1.congr fun i a b=>R.out i (by omega),rfl,by show 1<=na+nb;omega,?_,?_,?_⟩
 ·show Cl g' sa (sa+(na+nb));rw [<- Nat.add_assoc];exact R.cl
 ·show So o g' sa (sa+(na+nb));rw [<- Nat.add_assoc];exact R.so
 ·show iG o g' _ (sa+(na+nb)) lo
  rw [<- Nat.add_assoc]
  exact rest.congr fun i a b=>R.out i (.inr a)
theorem pW {p:Array (Nat×Nat×Nat)} {i lo:Nat} {u:Nat×Nat×Nat->Nat×Nat×Nat} (hu:∀ x,pr (u x)=pr x) (h:PA o g p lo):PA o g (p.modify i u) lo:=by
 unfold PA at h ⊢
 have:(p.modify i u).toList.map pr=p.toList.map pr:=by
  rw [Array.toList_modify]
  apply List.ext_getElem?
  intro k
  rw [List.getElem?_map,List.getElem?_map,List.getElem?_modify]
  cases p.toList[k]? with
  | none=>rfl
  | some x=>
   show some (pr (if i=k then u x else x))=some (pr x)
   by_cases c:i=k
   ·rw [if_pos c,hu x]
   ·rw [if_neg c]
 rw [this];exact h
theorem nH {p:Array (Nat×Nat×Nat)} {lo n v:Nat} (h:PA o g p lo) (hn:1<=n) (c:Cl g lo (lo+n)) (d:So o g lo (lo+n)):PA o g (p.push (lo,n,v)) (lo+n):=by
 unfold PA at h ⊢
 rw [Array.toList_push,List.map_append]
 exact iG.app.mpr ⟨lo,h,rfl,hn,c,d,rfl⟩
theorem Sg.Kx (h:Sg N f kd g p st) (p':Array (Nat×Nat×Nat)):Sg N f kd g p' (setPending st p'):=⟨h.size,h.get,h.lt,h.kind,h.failed,rfl⟩
theorem EL (C:qB prog w A s o N f kd) (h:Sg N f kd (fun i=>i) #[] st) (hN:1<=N)
  {Q:Unit->SortSt->Prop} (q:∀ g' p' st',Sg N f kd g' p' st'->Cl g' 0 N->So o g' 0 N->Q () st'):wpS (model prog w) A E s sortRuns' Q st:=by
 rw [sortRuns'_eq]
 refine wpS_bind (wpS_get ?_)
 dsimp only
 rw [h.size]
 refine wpS_bind (wpS_mono (wpS_forRange
  (I:=fun x c st'=>∃ lo g p,c=(none,lo)/\lo<=N/\(x<=lo\/lo=N)/\Sg N f kd g p st'/\PA o g p lo/\(∀ i,lo<=i->g i=i))
  (Q:=fun c st'=>∃ g p,c=(none,N)/\Sg N f kd g p st'/\PA o g p N) ?step ?fin ⟨0,_,_,rfl,Nat.zero_le _,.inl (Nat.le_refl _),h,rfl,fun _ _=>rfl⟩) ?post)
 case fin=>
  rintro c st' ⟨lo,g,p,rfl,h1,h2,h3,h4,h5⟩
  have:lo=N:=by omega
  subst this
  exact ⟨g,p,rfl,h3,h4⟩
 case step=>
  rintro x c st' _ hx ⟨lo,g,p,rfl,h1,h2,h3,h4,h5⟩
  dsimp only
  by_cases hge:lo>=N
  ·rw [if_pos hge]
   have:lo=N:=by omega
   subst this
   exact wpS_pure ⟨g,p,rfl,h3,h4⟩
  ·rw [if_neg hge]
   refine wpS_bind (Dp C h3 (by omega) (by omega) (fun i a b=>h5 i a) fun m g1 st1 s1 m1 m2 R1=>?_)
   dsimp only
   by_cases c2:m < minRun' N N 0
   ·rw [if_pos c2]
    refine wpS_bind (wpS_lift (wpAny_rule ⟨rfl,?_⟩))
    refine wpS_bind (Jx C s1 (by omega) m1 (by omega) R1 (fun i a b=>h5 i (by omega)) fun g2 st2 s2 R2=>?_)
    rw [if_neg (by decide)]
    have n2:1<=min (N - lo) (minRun' N N 0):=by omega
    have n3:lo+min (N - lo) (minRun' N N 0)<=N:=by omega
    refine wpS_bind (wpS_get ?_)
    rw [s2.pend]
    have hp2:=iG.congr h4 fun i a b=>R2.out i (.inl b)
    cases e:p.back? with
    | none=>
     dsimp only
     refine wpS_bind (wpS_modify (wpS_pure ⟨_,_,_,rfl,n3,by omega,s2.Kx _,?_,fun i hi=>by rw [R2.out i (.inr hi),h5 i (by omega)]⟩))
     rw [s2.pend]
     exact nH hp2 n2 R2.cl R2.so
    | some y=>
     obtain ⟨y1,y2,y3⟩:=y
     dsimp only
     refine wpS_bind (wpS_mono (wpS_forRange (I:=fun _ c st'=>c=(none,())/\∃ g' p',Sg N f kd g' p' st'/\PA o g' p' lo/\(∀ k,lo<=k->g' k=g2 k)) (Q:=fun c st'=>c=(none,())/\∃ g' p',Sg N f kd g' p' st'/\PA o g' p' lo/\(∀ k,lo<=k->g' k=g2 k)) ?vstep (fun _ _ h=>h) ⟨rfl,_,_,s2,hp2,fun _ _=>rfl⟩) ?vpost)
     case vstep=>
      rintro x c st' _ hx ⟨rfl,g',p',h1,h2,h3⟩
      refine wpS_bind (wpS_get ?_)
      rw [h1.pend]
      by_cases c:p'.size > 1
      ·rw [if_pos c]
       cases e:p'[p'.size - 2]? with
       | none=>exact wpS_pure ⟨rfl,g',p',h1,h2,h3⟩
       | some y=>
        obtain ⟨y1,y2,y3⟩:=y
        dsimp only
        split
        ·exact wpS_pure ⟨rfl,g',p',h1,h2,h3⟩
        ·refine wpS_bind (vQ C h1 h2 (by omega) (by omega) fun g3 p3 st3 s3 q3 _ z3=>?_)
         exact wpS_pure ⟨rfl,g3,p3,s3,q3,fun k hk=>by rw [z3 k hk,h3 k hk]⟩
      ·rw [if_neg c]
       exact wpS_pure ⟨rfl,g',p',h1,h2,h3⟩
     case vpost=>
      rintro c st' ⟨rfl,g',p',h1,h2,h3⟩
      dsimp only
      refine wpS_bind (wpS_modify (wpS_bind (wpS_modify (wpS_pure ⟨_,_,_,rfl,n3,by omega,(h1.Kx _).Kx _,?_,fun i hi=>by rw [h3 i (by omega),R2.out i (.inr hi),h5 i (by omega)]⟩))))
      show PA o g' (((pendingOf st').modify _ _).push _) _
      rw [h1.pend]
      exact nH (pW (fun _=>rfl) h2) n2 (fun i a b=>by rw [h3 i a];exact R2.cl i a b) (fun i j a b c=>by rw [h3 i a,h3 j (by omega)];exact R2.so i j a b c)
   ·rw [if_neg c2]
    have n3:lo+m<=N:=by omega
    obtain ⟨g2,hg2⟩:∃ g2,g2=g1:=⟨_,rfl⟩
    rw [<- hg2] at R1 s1
    have R2:=R1
    have s2:=s1
    have n2:=m1
    refine wpS_bind (wpS_get ?_)
    rw [s2.pend]
    have hp2:=iG.congr h4 fun i a b=>R2.out i (.inl b)
    cases e:p.back? with
    | none=>
     dsimp only
     refine wpS_bind (wpS_modify (wpS_pure ⟨_,_,_,rfl,n3,by omega,s2.Kx _,?_,fun i hi=>by rw [R2.out i (.inr hi),h5 i (by omega)]⟩))
     rw [s2.pend]
     exact nH hp2 n2 R2.cl R2.so
    | some y=>
     obtain ⟨y1,y2,y3⟩:=y
     dsimp only
     refine wpS_bind (wpS_mono (wpS_forRange (I:=fun _ c st'=>c=(none,())/\∃ g' p',Sg N f kd g' p' st'/\PA o g' p' lo/\(∀ k,lo<=k->g' k=g2 k)) (Q:=fun c st'=>c=(none,())/\∃ g' p',Sg N f kd g' p' st'/\PA o g' p' lo/\(∀ k,lo<=k->g' k=g2 k)) ?vstep (fun _ _ h=>h) ⟨rfl,_,_,s2,hp2,fun _ _=>rfl⟩) ?vpost)
     case vstep=>
      rintro x c st' _ hx ⟨rfl,g',p',h1,h2,h3⟩
      refine wpS_bind (wpS_get ?_)
      rw [h1.pend]
      by_cases c:p'.size > 1
      ·rw [if_pos c]
       cases e:p'[p'.size - 2]? with
       | none=>exact wpS_pure ⟨rfl,g',p',h1,h2,h3⟩
       | some y=>
        obtain ⟨y1,y2,y3⟩:=y
        dsimp only
        split
        ·exact wpS_pure ⟨rfl,g',p',h1,h2,h3⟩
        ·refine wpS_bind (vQ C h1 h2 (by omega) (by omega) fun g3 p3 st3 s3 q3 _ z3=>?_)
         exact wpS_pure ⟨rfl,g3,p3,s3,q3,fun k hk=>by rw [z3 k hk,h3 k hk]⟩
      ·rw [if_neg c]
       exact wpS_pure ⟨rfl,g',p',h1,h2,h3⟩
     case vpost=>
      rintro c st' ⟨rfl,g',p',h1,h2,h3⟩
      dsimp only
      refine wpS_bind (wpS_modify (wpS_bind (wpS_modify (wpS_pure ⟨_,_,_,rfl,n3,by omega,(h1.Kx _).Kx _,?_,fun i hi=>by rw [h3 i (by omega),R2.out i (.inr hi),h5 i (by omega)]⟩))))
      show PA o g' (((pendingOf st').modify _ _).push _) _
      rw [h1.pend]
      exact nH (pW (fun _=>rfl) h2) n2 (fun i a b=>by rw [h3 i a];exact R2.cl i a b) (fun i j a b c=>by rw [h3 i a,h3 j (by omega)];exact R2.so i j a b c)
 case post=>
  rintro c st' ⟨g,p,rfl,h1,h2⟩
  dsimp only
  refine wpS_bind (wpS_mono (wpS_forRange
   (I:=fun x c st''=>c=(none,())/\∃ g p,Sg N f kd g p st''/\PA o g p N/\(p.size<=1\/p.size+x<=N))
   (Q:=fun c st''=>c=(none,())/\∃ g p,Sg N f kd g p st''/\PA o g p N/\p.size<=1) ?fstep ?ffin ⟨rfl,g,p,h1,h2,.inr ?finit⟩) ?fpost)
  case finit=>
   have:=iG.le h2
   rw [List.length_map] at this
   show p.toList.length+0<=N
   omega
  case ffin=>
   rintro c st'' ⟨rfl,g,p,h1,h2,h3⟩
   exact ⟨rfl,g,p,h1,h2,by omega⟩
  case fstep=>
   rintro x c st'' _ hx ⟨rfl,g,p,h1,h2,h3⟩
   refine wpS_bind (wpS_get ?_)
   rw [h1.pend]
   by_cases c:p.size<=1
   ·rw [if_pos c]
    exact wpS_pure ⟨rfl,g,p,h1,h2,c⟩
   ·rw [if_neg c]
    have il:∀ (d:Prop) [Decidable d],(if d then p.size - 2 - 1 else p.size - 2)+1 < p.size:=fun d _=>by
     by_cases hd:d
     ·rw [if_pos hd];omega
     ·rw [if_neg hd];omega
    refine wpS_bind (vQ C h1 h2 (Nat.le_refl _) (il _) fun g' p' st3 s3 q3 z3 _=>?_)
    exact wpS_pure ⟨rfl,g',p',s3,q3,by omega⟩
  case fpost=>
   rintro c st'' ⟨rfl,g,p,h1,h2,h3⟩
   dsimp only
   refine wpS_pure ?_
   unfold PA at h2
   have h3:p.toList.length<=1:=h3
   match hl:p.toList,h3 with
   | [],_=>
    rw [hl] at h2
    have:0=N:=h2
    omega
   | [x],_=>
    rw [hl] at h2
    obtain ⟨e1,e2,e3,e4,e5⟩:=h2
    have e5:0+x.2.1=N:=e5
    have e3:Cl g 0 (0+x.2.1):=e3
    have e4:So o g 0 (0+x.2.1):=e4
    rw [e5] at e3 e4
    exact q g p st'' h1 e3 e4
end
noncomputable abbrev vK (h:Heap) (a:Addr) (vs:List Value):Heap:=((h.update a (Obj.mapSeq fun _=>#[])).push (seqObj "tuple" vs.toArray 0)).push (seqObj "list" #[] 0)
theorem FN {h:Heap} {a b:Addr} {vs:List Value} (hb:b≠a) (hlt:b < h.objs.size):(vK h a vs).get? b=h.get? b:=by
 rw [Heap.get?_push_ne _ _ _ (by rw [size_push',Heap.size_update];exact Nat.ne_of_lt (Nat.lt_succ_of_lt hlt)),
  Heap.get?_push_ne _ _ _ (by rw [Heap.size_update];exact Nat.ne_of_lt hlt),Heap.get?_update_ne _ _ _ _ hb]
noncomputable abbrev vv (vs:List Value) (i:Nat):Keyed:=(vs.getD i .none,vs.getD i .none)
theorem zip_get (vs:List Value) {i:Nat} (h:i < vs.length):(vs.toArray.zip vs.toArray)[i]?=some (vv vs i):=by
 have e:vs[i]?=some (vs.getD i .none):=by rw [List.getD_eq_getElem?_getD,List.getElem?_eq_getElem h];rfl
 rw [Array.getElem?_zip_eq_some]
 exact ⟨by rw [List.getElem?_toArray];exact e,by rw [List.getElem?_toArray];exact e⟩
section
variable {prog:Program} {w:World} {A:Around} {E:Value->Shared->Prop} {s:Shared} {o:Ord} {kd:SortKind}
theorem z8 {a:Addr} {vs:List Value} {n:Nat} {P:PySem.Fin->Shared->Prop} (hL:s.heap.get? a=some (seqObj "list" vs.toArray n)) (hsz:vs.length<=sizeLine)
  (hkk:2<=vs.length->∀ Q:SortKind->Shared->Prop,Q kd { s with heap:=vK s.heap a vs }->wpAny (model prog w) A (keyKind' vs.toArray) Q E { s with heap:=vK s.heap a vs })
  (C:2<=vs.length->qB prog w A { s with heap:=vK s.heap a vs } o vs.length (vv vs) kd)
  (h:∀ g,Cl g 0 vs.length->So o g 0 vs.length->P (.done (.ret .none)) { s with heap:=sortedHeap s.heap a vs ((List.range vs.length).map fun i=>vs.getD (g i) .none).toArray }) :
  wpAny (model prog w) A (Builtin.«list.sort» ⟨[.ref a],[]⟩) P E s:=by
 rw [list_sort_plain]
 have lta:a < s.heap.objs.size:=Heap.lt_size hL
 refine wpAny_bind (listItems_at hL rfl ?_)
 refine wpAny_bind (listUpdate_at hL rfl ?_ (by rw [List.size_toArray];exact hsz) (Nat.zero_le _))
 obtain ⟨ep,hL1⟩:∃ ep,(s.heap.update a (Obj.mapSeq fun _=>#[])).get? a=some (seqObj "list" #[] ep):=⟨_,get?_update_seq hL (fun _=>#[])⟩
 refine wpAny_bind (seqEpoch_at hL1 rfl ?_)
 refine wpAny_bind (wpAny_newTuple ?_)
 refine wpAny_bind (wpAny_newList ?_)
 refine wpAny_holding ?_
 have hL6:(vK s.heap a vs).get? a=some (seqObj "list" #[] ep):=by
  rw [Heap.get?_push_ne _ _ _ (by rw [size_push',Heap.size_update];exact Nat.ne_of_lt (Nat.lt_succ_of_lt lta)),Heap.get?_push_ne _ _ _ (by rw [Heap.size_update];exact Nat.ne_of_lt lta)]
  exact hL1
 show wpAny (model prog w) A _ P E { s with heap:=vK s.heap a vs }
 dsimp only
 have hz:vs.toArray.size=vs.length:=by simp
 have getE:∀ i,i < vs.length->vs[i]?=some (vs.getD i .none):=fun i hi=>by rw [List.getD_eq_getElem?_getD,List.getElem?_eq_getElem hi];rfl
 have outE:∀ (arr:Array Keyed) (g:Nat->Nat),arr.size=vs.length->(∀ i,i < vs.length->arr[i]?=some (vv vs (g i)))->arr.map (·.2)=((List.range vs.length).map fun i=>vs.getD (g i) .none).toArray:=fun arr g h1 two=>by
  apply Array.ext_getElem?
  intro i
  have e0:((List.range vs.length).map fun i=>vs.getD (g i) Value.none).toArray[i]?=((List.range vs.length).map fun i=>vs.getD (g i) Value.none)[i]?:=List.getElem?_toArray ..
  rw [Array.getElem?_map,e0,List.getElem?_map]
  by_cases c:i < vs.length
  ·rw [two i c,List.getElem?_range c];rfl
  ·rw [Array.getElem?_eq_none (by omega),List.getElem?_eq_none (by rw [List.length_range];omega)];rfl
 by_cases two:vs.toArray.size < 2
 ·rw [if_pos two,if_pos two]
  refine wpAny_bind (wpAny_pure ?_)
  rw [StateT.run_pure]
  refine wpAny_bind (wpAny_pure ?_)
  dsimp only
  refine wpAny_bind (seqEpoch_at hL6 rfl ?_)
  have oe:=outE (vs.toArray.zip vs.toArray) (fun i=>i) (by rw [Array.size_zip,hz];omega) fun i hi=>zip_get vs hi
  refine wpAny_bind (listUpdate_at hL6 rfl ?_ (by simp) (hsz2:=by rw [Array.size_map];show (vs.toArray.zip vs.toArray).size<=_;rw [Array.size_zip,hz];omega))
  simp only [bne_self_eq_false,Bool.false_eq_true,if_false]
  refine wpAny_pure ?_
  have:=h (fun i=>i) (fun i a b=>⟨a,b⟩) (fun i j a b c=>by omega)
  rw [<- oe] at this
  exact this
 ·rw [if_neg two,if_neg two]
  have h2':2<=vs.length:=by omega
  refine wpAny_bind (hkk h2' _ ?_)
  refine wpAny_bind (wpAny_mono (EL (f:=vv vs) (N:=vs.length) (C h2') (st:=SortSt.mk' kd (vs.toArray.zip vs.toArray) #[] 7 none)
   (Q:=fun _ st'=>∃ g p,Sg vs.length (vv vs) kd g p st'/\Cl g 0 vs.length/\So o g 0 vs.length)
   ⟨by show (vs.toArray.zip vs.toArray).size=_;rw [Array.size_zip,hz];omega,fun i hi=>zip_get vs hi,fun i hi=>hi,rfl,rfl,rfl⟩ (by omega) fun g' p' st' a1 a2 a3=>⟨g',p',a1,a2,a3⟩) ?_ fun _ _ e=>e)
  rintro ⟨⟨⟩,st'⟩ s' ⟨rfl,g,p,hS,hc,hso⟩
  dsimp only
  refine wpAny_bind (seqEpoch_at hL6 rfl ?_)
  have oe:=outE (arrOf st') g hS.size hS.get
  refine wpAny_bind (listUpdate_at hL6 rfl ?_ (by simp) (hsz2:=by have hh:(arrOf st').size=vs.length:=hS.size;show ((arrOf st').map (·.2)).size<=_;rw [Array.size_map,hh];omega))
  rw [hS.failed]
  simp only [bne_self_eq_false,Bool.false_eq_true,if_false]
  have:=h g hc hso
  rw [<- oe] at this
  exact wpAny_pure this
end
section
variable {prog:Program} {w:World} {A:Around} {E:Value->Shared->Prop} {s:Shared}
theorem zW (b:Bool) (x y:Value):keyLt' (tuples' b) x y=(do
  let us <- Builtin.List.listItems x
  let vs <- Builtin.List.listItems y
  for ((u,v),k) in (us.toList.zip vs.toList).zipIdx do
   if !(<- eqBool u v) then return <- oneLt' (b && k == 0) u v
  return us.size < vs.size):=rfl
theorem E4 (b:Bool) {x y:Int} {t u:Tok} {Q:Bool->Shared->Prop} (h:Q (decide (x < y)) s):wpAny (model prog w) A (oneLt' b (.int x t) (.int y u)) Q E s:=by
 cases b with
 | true=>exact oneLt_int h
 | false=>
  rw [oneLt'_eq]
  simp only [Bool.false_eq_true,if_false]
  exact wpAny_bind (PySem.P.lt_int (wpAny_truthy_bool h))
theorem vW (b:Bool) {l k:Addr} {xs ys:List Value} {ns ms:List Int} {Q:Bool->Shared->Prop} (hl:IsTup s.heap l xs.toArray) (hk:IsTup s.heap k ys.toArray) (hi:IntsAre xs ns) (hj:IntsAre ys ms) (h:Q (HT.lexLt ns ms) s) :
  wpAny (model prog w) A (keyLt' (tuples' b) (.ref l) (.ref k)) Q E s:=by
 rw [zW]
 obtain ⟨o1,ho1,_,n1,hd1⟩:=hl
 obtain ⟨o2,ho2,_,n2,hd2⟩:=hk
 refine wpAny_bind (listItems_at ho1 hd1 ?_)
 refine wpAny_bind (listItems_at ho2 hd2 ?_)
 have key:∀ (xs ys:List Value) (ns ms:List Int) (n:Nat),IntsAre xs ns->IntsAre ys ms->∀ Q':Option Bool×Unit->Shared->Prop,(∀ r,(r=some (HT.lexLt ns ms)\/(r=none/\HT.lexLt ns ms=decide (xs.length < ys.length)))->Q' (r,()) s) ->
   wpAny (model prog w) A (forIn ((xs.zip ys).zipIdx n) ((none,()):Option Bool×Unit) fun x c=>match x with
      | ((p,q),i)=>do
       let e <- eqBool p q
       if (!e)=true then do
         let r <- oneLt' (b && i == 0) p q
         pure (ForInStep.done (some r,()))
        else pure (ForInStep.yield (none,()))) Q' E s:=by
  intro xs
  induction xs with
  | nil=>
   intro ys ns ms n h1 h2 Q' q
   cases h1
   rw [List.zip_nil_left,List.zipIdx_nil,List.forIn_nil]
   refine wpAny_pure (q none (.inr ⟨rfl,?_⟩))
   cases h2 with
   | nil=>rw [HT.ig];rfl
   | cons a t h2=>rw [HT.d_,decide_eq_true (by simp)]
  | cons v vs ih=>
   intro ys ns ms n h1 h2 Q' q
   cases h1 with
   | cons a t h1=>
    cases h2 with
    | nil=>
     rw [List.zip_nil_right,List.zipIdx_nil,List.forIn_nil]
     exact wpAny_pure (q none (.inr ⟨rfl,by rw [HT.gG,decide_eq_false (by simp)]⟩))
    | cons c u h2=>
     rw [List.zip_cons_cons,List.zipIdx_cons,List.forIn_cons]
     rw [HT.dO] at q
     dsimp only
     refine wpAny_bind (wpAny_bind (wpAny_eqBool_int ?_))
     by_cases e:a=c
     ·rw [if_pos e] at q
      subst e
      simp only [beq_self_eq_true,Bool.not_true,Bool.false_eq_true,if_false]
      refine wpAny_pure (ih _ _ _ _ h1 h2 _ fun r hr=>q r ?_)
      rcases hr with hr | ⟨hr,hz⟩
      ·exact .inl hr
      ·exact .inr ⟨hr,by rw [hz];simp⟩
     ·rw [if_neg e] at q
      have e':(a == c)=false:=by simpa using e
      simp only [e',Bool.not_false,if_true]
      exact wpAny_bind (E4 _ (wpAny_pure (wpAny_pure (q _ (.inl rfl)))))
 refine wpAny_bind (key xs ys ns ms 0 hi hj _ fun r hr=>?_)
 rcases hr with rfl | ⟨rfl,hz⟩
 ·exact wpAny_pure h
 ·dsimp only
  rw [List.size_toArray,List.size_toArray,<- hz]
  exact wpAny_pure h
end
theorem jM:∀ a:List Int,HT.lexLt a a=false
 | []=>HT.ig
 | x::a=>by rw [HT.dO,if_pos rfl];exact jM a
theorem nW:∀ {a b c:List Int},HT.lexLt a b=true->HT.lexLt b c=true->HT.lexLt a c=true
 | [],[],_,h,_=>by rw [HT.ig] at h;cases h
 | x::a,[],_,h,_=>by rw [HT.gG] at h;cases h
 | _,y::b,[],_,h=>by rw [HT.gG] at h;cases h
 | [],y::b,z::c,_,_=>HT.d_ ..
 | x::a,y::b,z::c,h1,h2=>by
  rw [HT.dO] at h1 h2 ⊢
  by_cases e1:x=y
  ·rw [if_pos e1] at h1
   by_cases e2:y=z
   ·rw [if_pos e2] at h2
    rw [if_pos (e1.trans e2)];exact nW h1 h2
   ·rw [if_neg e2] at h2
    have:=of_decide_eq_true h2
    rw [if_neg (by omega)];exact decide_eq_true (by omega)
  ·rw [if_neg e1] at h1
   have l1:=of_decide_eq_true h1
   by_cases e2:y=z
   ·rw [if_neg (by omega)];exact decide_eq_true (by omega)
   ·rw [if_neg e2] at h2
    have:=of_decide_eq_true h2
    rw [if_neg (by omega)];exact decide_eq_true (by omega)
theorem qT:∀ {a b:List Int},HT.lexLt a b=false->HT.lexLt b a=false->a=b
 | [],[],_,_=>rfl
 | [],y::b,h,_=>by rw [HT.d_] at h;cases h
 | x::a,[],_,h=>by rw [HT.d_] at h;cases h
 | x::a,y::b,h1,h2=>by
  rw [HT.dO] at h1 h2
  by_cases e:x=y
  ·rw [if_pos e] at h1
   rw [if_pos e.symm] at h2
   rw [e,qT h1 h2]
  ·rw [if_neg e] at h1
   rw [if_neg (fun z=>e z.symm)] at h2
   have:=of_decide_eq_false h1
   have:=of_decide_eq_false h2
   omega
theorem wm {a b c:List Int} (h:HT.lexLt a c=true):HT.lexLt a b=true\/HT.lexLt b c=true:=by
 cases e:HT.lexLt a b with
 | true=>exact .inl rfl
 | false=>
  right
  cases e2:HT.lexLt b a with
  | true=>exact nW e2 h
  | false=>rw [<- qT e e2];exact h
noncomputable def FW (kss:List (List Int)):Ord where
 lt i j:=HT.lexLt (kss.getD i []) (kss.getD j [])
 Gm i:=jM _
 tr i j k:=nW
 neg i j k:=wm
section
variable {prog:Program} {w:World} {A:Around} {E:Value->Shared->Prop} {s:Shared}
theorem wA {α β:Type} {M:Model} {f:α->Sem β} (r:α->β):∀ (l:List α),(∀ a∈l,∀ Q:β->Shared->Prop,Q (r a) s->wpAny M A (f a) Q E s)->∀ Q:List β->Shared->Prop,Q (l.map r) s->wpAny M A (l.mapM f) Q E s
 | [],_,Q,q=>by rw [List.mapM_nil];exact wpAny_pure q
 | a::l,h,Q,q=>by
  rw [List.mapM_cons]
  refine wpAny_bind (h a (List.mem_cons_self ..) _ (wpAny_bind (wA r l (fun b hb=>h b (List.mem_cons_of_mem _ hb)) _ (wpAny_pure q))))
theorem yU {α β:Type} {M:Model} {f:α->Sem β} (r:α->β) (l:List α) (h:∀ a∈l,∀ Q:β->Shared->Prop,Q (r a) s->wpAny M A (f a) Q E s) (Q:Array β->Shared->Prop) (q:Q (l.map r).toArray s):wpAny M A (l.toArray.mapM f) Q E s:=by
 rw [List.mapM_toArray,map_eq_pure_bind]
 exact wpAny_bind (wA r l h _ (wpAny_pure q))
theorem AH (u:Value):firstOfTuple' u=(do
  if (<- typeOf u) != .type "tuple" then return none
  return (<- Builtin.List.listItems u)[0]?):=rfl
theorem zT {vs:List Value} (h0:vs≠[]) (ht:∀ v∈vs,∃ (l:Addr) (xs:List Value) (n:Int) (t:Tok),v=.ref l/\IsTup s.heap l (.int n t::xs).toArray) {Q:SortKind->Shared->Prop} (q:Q (tuples' true) s) :
  wpAny (model prog w) A (keyKind' vs.toArray) Q E s:=by
 have ch:∀ v,∃ x:Int×Tok,v∈vs->∃ (l:Addr) (xs:List Value),v=.ref l/\IsTup s.heap l (.int x.1 x.2::xs).toArray:=fun v=>by
  by_cases c:v∈vs
  ·obtain ⟨l,xs,n,t,e1,e2⟩:=ht v c
   exact ⟨(n,t),fun _=>⟨l,xs,e1,e2⟩⟩
  ·exact ⟨(0,0),fun z=>absurd z c⟩
 obtain ⟨F,hF⟩:=Classical.axiomOfChoice ch
 rw [keyKind'_eq]
 refine wpAny_bind (yU (fun v=>some (Value.int (F v).1 (F v).2)) vs (fun v hv Q' q'=>?_) _ ?_)
 ·obtain ⟨l,xs,rfl,o,ho,hc,n,hd⟩:=hF v hv
  rw [AH]
  refine wpAny_bind (wpAny_typeOf (T := "tuple") ⟨o,ho,hc⟩ ?_)
  rw [if_neg (by decide)]
  exact wpAny_bind (listItems_at ho hd (wpAny_pure q'))
 ·rw [if_pos (by simp)]
  refine wpAny_bind (wpAny_rule ?_)
  have e1:(vs.map fun v=>some (Value.int (F v).1 (F v).2)).toArray.filterMap id=(vs.map fun v=>Value.int (F v).1 (F v).2).toArray:=by
   rw [List.filterMap_toArray,List.filterMap_map]
   congr 1
   rw [show (id ∘ fun v=>some (Value.int (F v).1 (F v).2))=fun v=>some (Value.int (F v).1 (F v).2) from rfl]
   exact congrFun List.filterMap_eq_map' vs
  rw [e1,oneTypeOnly'_eq]
  refine wpAny_bind (wpAny_bind (yU (fun _=>Value.type "int") _ (fun v hv Q' q'=>?_) _ ?_))
  ·obtain ⟨u,_,rfl⟩:=List.mem_map.mp hv
   exact wpAny_pure q'
  ·rw [List.map_map]
   obtain ⟨v0,vs',rfl⟩:∃ v0 vs',vs=v0::vs':=by
    cases vs with
    | nil=>exact absurd rfl h0
    | cons a b=>exact ⟨a,b,rfl⟩
   have ha:((List.map ((fun _=>Value.type "int") ∘ fun v=>Value.int (F v).1 (F v).2) (v0::vs')).toArray.all fun x=>x == Value.type "int")=true:=by
    simp only [List.all_toArray,List.all_map,List.all_eq_true]
    intro _ _
    rfl
   have hz:(List.map ((fun _=>Value.type "int") ∘ fun v=>Value.int (F v).1 (F v).2) (v0::vs')).toArray[0]?=some (Value.type "int"):=by simp
   rw [hz]
   simp only [ha,if_true]
   exact wpAny_pure (wpAny_pure q)
end
end Sx
namespace L2
open PySem PySem.Spec PyProof.Rows
section
variable {X:Cx}
theorem pV:∀ {rs:List Addr} {its:List Value},Vals (rs.map V.ref) its->its=rs.map Value.ref
 | [],_,r=>by cases r;rfl
 | a::rs,_,r=>by
  cases r with
  | cons h t=>
   have e:_=Value.ref a:=h
   rw [e,pV t];rfl
theorem p9:∀ (rs:List Addr),Vals (rs.map V.ref) (rs.map Value.ref)
 | []=>.nil
 | a::rs=>.cons (show RelV (.ref a) (.ref a) from rfl) (p9 rs)
theorem qW:bw X (.builtin "sorted") (fun xs H Q=>∃ (p:Addr) (rs:List Addr) (kss:List (List Int)),xs=[.ref p]/\fY X.K H p (rs.map V.ref)/\rs.length=kss.length /\
  (∀ (i:Nat) (r:Addr) (ks:List Int),rs[i]?=some r->kss[i]?=some ks->dF X.K H r (ks.map V.int)/\ks≠[]) /\
  ∀ l g,H l=none->Sx.Cl g 0 kss.length->Sx.So (Sx.FW kss) g 0 kss.length->Q (.ref l) (upd H l (.lst (((List.range kss.length).map fun i=>rs.getD (g i) 0).map V.ref)))):=by
 intro pins s σ H xs us Q I r h
 obtain ⟨p,rs,kss,rfl,hq,hlen,hT,q⟩:=h
 obtain ⟨u,rfl,rx⟩:=vals1 r
 cases rx
 obtain ⟨its,rv,pl,hz⟩:=I.list hq
 have ei:=pV rv
 subst ei
 obtain ⟨o,ho,hcl,n,hd⟩:=pl.isList
 rw [List.length_map] at hz
 have hN:(rs.map Value.ref).length=kss.length:=by rw [List.length_map,hlen]
 refine Calls.call_function_entry kind_sorted plain_sorted entry_sorted (args_sorted1 _) ?_
 unfold Builtin.«sorted»
 refine wpAny_bind (m:=checkCount "sorted" 1 1 _) (wpAny_pure ?_)
 refine wpAny_bind (wpAny_collect_seq p (.inl rfl) ho hcl hd (fun h' hk=>?_) (by rw [List.size_toArray,hN];omega))
 refine wpAny_bind (wpAny_newList ?_)
 have hoL:(h'.push (seqObj "list" (rs.map Value.ref).toArray 0)).get? h'.objs.size=some (seqObj "list" (rs.map Value.ref).toArray 0):=Heap.get?_push_size _ rfl
 show wpAny _ _ _ _ _ { s with heap:=h'.push (seqObj "list" (rs.map Value.ref).toArray 0) }
 have I1:Inv X pins σ H { s with heap:=h' }:=I.kept (t':=s.toks) hk
 have tup:∀ (i:Nat) (r:Addr) (ks:List Int),rs[i]?=some r->kss[i]?=some ks->∃ its:List Value,IntsAre its ks/\IsTup (Sx.vK (h'.push (seqObj "list" (rs.map Value.ref).toArray 0)) h'.objs.size (rs.map Value.ref)) r its.toArray:=fun i r ks e1 e2=>by
  obtain ⟨its,rv,⟨o,ho,hc,n,hd⟩,_⟩:=I1.tuple (hT i r ks e1 e2).1
  refine ⟨its,intsAre_of rv,o,?_,hc,n,hd⟩
  have lt:r < h'.objs.size:=Heap.lt_size ho
  rw [Sx.FN (Nat.ne_of_lt lt) (by rw [Heap.size_push];exact Nat.lt_succ_of_lt lt)]
  exact Heap.get?_push_of_some _ ho
 refine wpAny_bind (wpAny_holding (wpAny_call_entry slot_list_sort ⟨_,hoL,rfl⟩ entry_list_sort (Sx.z8 (o:=Sx.FW kss) (kd:=tuples' true) hoL (by rw [hN];omega) (fun h2 Q' q'=>?_) (fun h2 i j hi hj E' Q' q'=>?_) fun g hc hs=>⟨_,rfl,?_⟩) (args_list_sort _)))
 ·refine Sx.zT (fun z=>by rw [z] at h2;simp at h2) (fun v hv=>?_) q'
  obtain ⟨i,hi⟩:=List.getElem?_of_mem hv
  rw [List.getElem?_map] at hi
  obtain ⟨r,hr,rfl⟩:=Option.map_eq_some_iff.mp hi
  have lt:=(List.getElem?_eq_some_iff.mp hr).1
  have e2:kss[i]?=some kss[i]:=List.getElem?_eq_getElem (by omega)
  obtain ⟨its,h1,h3⟩:=tup i r _ hr e2
  have hne:=(hT i r _ hr e2).2
  generalize kss[i]=ks at h1 hne
  cases h1 with
  | nil=>exact absurd rfl hne
  | cons a t h1=>exact ⟨r,_,a,t,rfl,h3⟩
 ·rw [hN] at hi hj
  have e1:rs[i]?=some (rs[i]'(by omega)):=List.getElem?_eq_getElem _
  have e2:rs[j]?=some (rs[j]'(by omega)):=List.getElem?_eq_getElem _
  have k1:kss[i]?=some kss[i]:=List.getElem?_eq_getElem hi
  have k2:kss[j]?=some kss[j]:=List.getElem?_eq_getElem hj
  obtain ⟨x1,a1,b1⟩:=tup i _ _ e1 k1
  obtain ⟨x2,a2,b2⟩:=tup j _ _ e2 k2
  have v1:(rs.map Value.ref).getD i .none=.ref (rs[i]'(by omega)):=by rw [List.getD_eq_getElem?_getD,List.getElem?_map,e1];rfl
  have v2:(rs.map Value.ref).getD j .none=.ref (rs[j]'(by omega)):=by rw [List.getD_eq_getElem?_getD,List.getElem?_map,e2];rfl
  show wpAny _ _ (keyLt' (tuples' true) ((rs.map Value.ref).getD i .none) ((rs.map Value.ref).getD j .none)) Q' E' _
  rw [v1,v2]
  refine Sx.vW true b1 b2 a1 a2 ?_
  have d1:kss.getD i []=kss[i]:=by rw [List.getD_eq_getElem?_getD,k1];rfl
  have d2:kss.getD j []=kss[j]:=by rw [List.getD_eq_getElem?_getD,k2];rfl
  have:(Sx.FW kss).lt i j=HT.lexLt kss[i] kss[j]:=by show HT.lexLt _ _=_;rw [d1,d2]
  rw [<- this];exact q'
 ·rw [hN] at hc hs ⊢
  obtain ⟨e,he⟩:=sortedHeap_at (out:=((List.range kss.length).map fun i=>(rs.map Value.ref).getD (g i) .none).toArray) hoL
  have old:∀ b ob,h'.get? b=some ob->(sortedHeap (h'.push (seqObj "list" (rs.map Value.ref).toArray 0)) h'.objs.size (rs.map Value.ref) ((List.range kss.length).map fun i=>(rs.map Value.ref).getD (g i) .none).toArray).get? b=some ob:=fun b ob eb=>by
   rw [sortedHeap_old (Nat.ne_of_lt (Heap.lt_size eb)) (by rw [Heap.size_push];exact Nat.lt_succ_of_lt (Heap.lt_size eb))]
   exact Heap.get?_push_of_some _ eb
  refine wpAny_pure ⟨_,rfl,.ref h'.objs.size,_,I1.laid (t':=s.toks) (o:=.lst (((List.range kss.length).map fun i=>rs.getD (g i) 0).map V.ref)) old (Nat.le_refl _) ?_,rfl,q _ g (I1.hok.fresh (Nat.le_refl _)) hc hs⟩
  refine ⟨by rw [List.length_map,List.length_map,List.length_range];omega,((List.range kss.length).map fun i=>rs.getD (g i) 0).map Value.ref,e,p9 _,?_⟩
  rw [he]
  congr 2
  rw [List.map_map]
  congr 1
  refine List.map_congr_left fun i hi=>?_
  have:=(hc i (Nat.zero_le _) (List.mem_range.mp hi)).2
  have lt:g i < rs.length:=by omega
  show (rs.map Value.ref).getD (g i) .none=Value.ref (rs.getD (g i) 0)
  rw [List.getD_eq_getElem?_getD,List.getElem?_map,List.getElem?_eq_getElem lt,List.getD_eq_getElem?_getD,List.getElem?_eq_getElem lt];rfl
end
end L2
namespace Sx
open PySem PyProof.Rows
open PySem.AutoSeq1 (wpAny_loadPart')
open PySem.MeetsSeq PySem.MeetsSeq2 PySem.MeetsSeq3
section
variable {prog:Program} {w:World} {A:Around} {E:Value->Shared->Prop} {s:Shared}
end
end Sx
namespace L2
open PySem PySem.Spec PyProof.Rows
section
variable {X:Cx}
end
end L2
namespace Am
open PySem
inductive A where
 | unb | non | bl (b:Bool) | int (i:Int) | str (x:Str) | tup (xs:List A) | frz (xs:List A) | rng (lo hi:Int) | ref (n:Nat) | exn (c:Str) | ty (n:String)
inductive O where
 | lst (xs:List A) | dct (kvs:List (List Int×A)) | dki (kvs:List (Int×A)) | ins (c:Str) (fs:List (Str×A))
noncomputable abbrev aE:=List O
inductive R (α:Type) where
 | ok (a:α) (S:aE) | ex (c:Str) (S:aE) | no
noncomputable def R.bind {α β:Type} (r:R α) (f:α->aE->R β):R β:=match r with
 | .ok a S=>f a S
 | .ex c S=>.ex c S
 | .no=>.no
noncomputable def R.post {α:Type} (r:R α) (P:α->aE->Prop) (E:Str->aE->Prop):Prop:=match r with
 | .ok a S=>P a S
 | .ex c S=>E c S
 | .no=>False
theorem aL {α β:Type} {r:R α} {f:α->aE->R β} {P:β->aE->Prop} {E:Str->aE->Prop} (h:(r.bind f).post P E):r.post (fun a S=>(f a S).post P E) E:=by
 cases r <;> exact h
theorem zA {α:Type} {r:R α} {P P':α->aE->Prop} {E E':Str->aE->Prop} (h:r.post P E) (hp:∀ a S,P a S->P' a S) (he:∀ c S,E c S->E' c S):r.post P' E':=by
 cases r with
 | ok a S=>exact hp _ _ h
 | ex c S=>exact he _ _ h
 | no=>exact h.elim
noncomputable def gd {α:Type} (c:Prop) [Decidable c] (r:R α):R α:=if c then r else .no
noncomputable def opt {α β:Type} (o:Option β) (f:β->R α):R α:=match o with
 | some b=>f b
 | none=>.no
theorem bg {α:Type} {c:Prop} [Decidable c] {r:R α} {P:α->aE->Prop} {E:Str->aE->Prop} (h:(gd c r).post P E):c/\r.post P E:=by
 unfold gd at h
 by_cases hc:c
 ·rw [if_pos hc] at h;exact ⟨hc,h⟩
 ·rw [if_neg hc] at h;exact h.elim
theorem aK {α β:Type} {o:Option β} {f:β->R α} {P:α->aE->Prop} {E:Str->aE->Prop} (h:(opt o f).post P E):∃ b,o=some b/\(f b).post P E:=by
 cases o with
 | none=>exact h.elim
 | some b=>exact ⟨b,rfl,h⟩
theorem Io {α:Type} {c:Prop} [Decidable c] {r:R α} (h:c):gd c r=r:=if_pos h
noncomputable def ak (S:aE) (n:Nat):Option (List A):=match S[n]? with
 | some (.lst xs)=>some xs
 | _=>none
theorem aP {S:aE} {n:Nat} {xs:List A} (h:ak S n=some xs):S[n]?=some (.lst xs):=by
 unfold ak at h
 split at h
 ·rename_i e;cases h;exact e
 ·cases h
theorem kX {S:aE} {n:Nat} {xs:List A} (h:S[n]?=some (.lst xs)):ak S n=some xs:=by
 unfold ak;rw [h]
inductive RS where
 | nx (τ:List A) (S:aE) | rt (a:A) (S:aE) | bk (τ:List A) (S:aE) | ct (τ:List A) (S:aE) | ex (c:Str) (S:aE) | no
noncomputable abbrev Ex:=List A->aE->R A
noncomputable abbrev iL:=List A->aE->R (List A)
noncomputable abbrev Te:=List A->aE->R Bool
noncomputable abbrev Sm:=List A->aE->RS
noncomputable abbrev Tg:=A->List A->aE->R (List A)
end Am
namespace Am
open PySem L2
section
variable (K:PySem.W.Frag) (ρ:List Addr) (H:Hp)
noncomputable def ML (K:PySem.W.Frag) (c:Str) (C:Addr):Prop:=PySem.W.nsIn K mainGlobals c=some (some (.ref C))
noncomputable def Fz (K:PySem.W.Frag) (H:Hp) (a:Addr) (vs:List V):Prop:=
 (∃ o,H a=some (.frz o (.lst vs)))\/∃ (o:Obj) (its:Array Value) (n:Nat),K.lookup a=some o/\o.cls=.type "list" /\ o.dict=none/\o.data=.seq its n/\its.size<=sizeLine/\Vals vs its.toList
mutual
inductive AV:A->V->Prop
 | non:AV .non .non
 | bl (b:Bool):AV (.bl b) (.bl b)
 | int (i:Int):AV (.int i) (.int i)
 | str (x:Str):AV (.str x) (.str x)
 | ty (n:String):AV (.ty n) (.ty n)
 | tup {a:Addr} {xs:List A} {vs:List V} (h:H a=some (.tup vs)) (r:AVs xs vs):AV (.tup xs) (.ref a)
 | frz {a:Addr} {xs:List A} {vs:List V} (h:Fz K H a vs) (r:AVs xs vs):AV (.frz xs) (.ref a)
 | rng {a:Addr} {lo hi:Int} (h:H a=some (.rng lo hi)):AV (.rng lo hi) (.ref a)
 | ref {a:Addr} {n:Nat} (h:ρ[n]?=some a):AV (.ref n) (.ref a)
 | exn {a C:Addr} {c:Str} {oe:Obj} (n:ML K c C) (h:H a=some (.frz oe xu)) (x:XO C oe):AV (.exn c) (.ref a)
inductive AVs:List A->List V->Prop
 | nil:AVs [] []
 | cons {x:A} {v:V} {xs:List A} {vs:List V} (h:AV x v) (t:AVs xs vs):AVs (x::xs) (v::vs)
end
noncomputable def DV:List (List Int×A)->List (List Key×V)->Prop
 | [],[]=>True
 | p::r,q::r'=>(q.1=p.1.map Sum.inl/\AV K ρ H p.2 q.2)/\DV r r'
 | _,_=>False
noncomputable def DI:List (Int×A)->List (Key×V)->Prop
 | [],[]=>True
 | p::r,q::r'=>(q.1=Sum.inl p.1/\AV K ρ H p.2 q.2)/\DI r r'
 | _,_=>False
noncomputable def OR (a:Addr):O->Prop
 | .lst xs=>∃ vs,H a=some (.lst vs)/\AVs K ρ H xs vs
 | .dct kvs=>∃ ks,H a=some (.dT ks)/\DV K ρ H kvs ks
 | .dki kvs=>∃ ks,H a=some (.dK ks)/\DI K ρ H kvs ks
 | .ins _ _=>∃ o u,H a=some (.frz o u)
structure Rel (S:aE):Prop where
 len:ρ.length=S.length
 nd:ρ.Nodup
 «at»:∀ (n:Nat) (a:Addr) (o:O),ρ[n]?=some a->S[n]?=some o->OR K ρ H a o
end
noncomputable def Ol:HO->Prop
 | .tup _=>True
 | .rng _ _=>True
 | .frz _ _=>True
 | _=>False
structure Ext0 (ρ ρ':List Addr) (H H':Hp):Prop where
 pre:ρ <+: ρ'
 im:∀ a u,Ol u->H a=some u->H' a=some u
structure Ext (ρ ρ':List Addr) (H H':Hp):Prop extends Ext0 ρ ρ' H H' where
 fr:∀ a u,H a=some u->a∉ρ->H' a=some u
 nw:∀ a,a∈ρ'->a∈ρ\/H a=none
theorem Ext.refl {ρ:List Addr} {H:Hp}:Ext ρ ρ H H:=⟨⟨List.prefix_refl _,fun _ _ _ h=>h⟩,fun _ _ h _=>h,fun _ h=>.inl h⟩
theorem Ext.trans {ρ ρ1 ρ2:List Addr} {H H1 H2:Hp} (a:Ext ρ ρ1 H H1) (b:Ext ρ1 ρ2 H1 H2):Ext ρ ρ2 H H2:=⟨⟨a.pre.trans b.pre,fun x u i h=>b.im x u i (a.im x u i h)⟩,fun x u h n=>b.fr x u (a.fr x u h n) fun z=>(a.nw x z).elim n fun z=>by (rw [z] at h;cases h),fun x h=>by
 by_cases hx:x∈ρ
 ·exact .inl hx
 ·right
  cases q:H x with
  | none=>rfl
  | some u=>
   rcases b.nw x h with z | z
   ·exact ((a.nw x z).elim hx fun z=>by (rw [z] at q;cases q)).elim
   ·rw [a.fr x u q hx] at z;cases z⟩
theorem Ext0.get {ρ ρ':List Addr} {H H':Hp} (e:Ext0 ρ ρ' H H') {n:Nat} {a:Addr} (h:ρ[n]?=some a):ρ'[n]?=some a:=by
 obtain ⟨t,rfl⟩:=e.pre
 rw [List.getElem?_append_left (List.getElem?_eq_some_iff.mp h).1]
 exact h
section
variable {K:PySem.W.Frag} {ρ ρ':List Addr} {H H':Hp}
theorem Ext0.NR (e:Ext0 ρ ρ' H H') {a:Addr} {vs:List V} (h:dF K H a vs):dF K H' a vs:=by
 rcases h with (h | ⟨o,h⟩) | h
 ·exact .inl (.inl (e.im _ _ trivial h))
 ·exact .inl (.inr ⟨o,e.im _ _ trivial h⟩)
 ·exact .inr h
theorem Ext0.fz (e:Ext0 ρ ρ' H H') {a:Addr} {vs:List V} (h:Fz K H a vs):Fz K H' a vs:=by
 rcases h with ⟨o,h⟩ | h
 ·exact .inl ⟨o,e.im _ _ trivial h⟩
 ·exact .inr h
theorem Fz.Ei {a:Addr} {vs:List V} (h:Fz K H a vs):fY K H a vs:=by
 rcases h with ⟨o,h⟩ | h
 ·exact .inl (.inr ⟨o,h⟩)
 ·exact .inr h
mutual
theorem AV.dB (e:Ext0 ρ ρ' H H'):∀ {x:A} {v:V},AV K ρ H x v->AV K ρ' H' x v
 | _,_,.non=>.non
 | _,_,.bl b=>.bl b
 | _,_,.int i=>.int i
 | _,_,.str x=>.str x
 | _,_,.ty x=>.ty x
 | _,_,.tup h r=>.tup (e.im _ _ trivial h) (AVs.dB e r)
 | _,_,.frz h r=>.frz (e.fz h) (AVs.dB e r)
 | _,_,.rng h=>.rng (e.im _ _ trivial h)
 | _,_,.ref h=>.ref (e.get h)
 | _,_,.exn n h x=>.exn n (e.im _ _ trivial h) x
theorem AVs.dB (e:Ext0 ρ ρ' H H'):∀ {xs:List A} {vs:List V},AVs K ρ H xs vs->AVs K ρ' H' xs vs
 | _,_,.nil=>.nil
 | _,_,.cons h t=>.cons (AV.dB e h) (AVs.dB e t)
end
theorem DV.dB (e:Ext0 ρ ρ' H H'):∀ {xs:List (List Int×A)} {vs:List (List Key×V)},DV K ρ H xs vs->DV K ρ' H' xs vs
 | [],[],_=>trivial
 | _::_,_::_,⟨⟨a,b⟩,r⟩=>⟨⟨a,AV.dB e b⟩,DV.dB e r⟩
theorem DV.ext {x:List (List Int×A)} {v:List (List Key×V)} (h:DV K ρ H x v) (e:Ext ρ ρ' H H'):DV K ρ' H' x v:=DV.dB e.toExt0 h
theorem DI.dB (e:Ext0 ρ ρ' H H'):∀ {xs:List (Int×A)} {vs:List (Key×V)},DI K ρ H xs vs->DI K ρ' H' xs vs
 | [],[],_=>trivial
 | _::_,_::_,⟨⟨a,b⟩,r⟩=>⟨⟨a,AV.dB e b⟩,DI.dB e r⟩
theorem DI.ext {x:List (Int×A)} {v:List (Key×V)} (h:DI K ρ H x v) (e:Ext ρ ρ' H H'):DI K ρ' H' x v:=DI.dB e.toExt0 h
theorem AV.ext {x:A} {v:V} (h:AV K ρ H x v) (e:Ext ρ ρ' H H'):AV K ρ' H' x v:=AV.dB e.toExt0 h
theorem AVs.ext {x:List A} {v:List V} (h:AVs K ρ H x v) (e:Ext ρ ρ' H H'):AVs K ρ' H' x v:=AVs.dB e.toExt0 h
theorem AVs.length:∀ {xs:List A} {vs:List V},AVs K ρ H xs vs->xs.length=vs.length
 | _,_,.nil=>rfl
 | _,_,.cons _ t=>congrArg (·+1) (AVs.length t)
theorem AVs.append:∀ {xs ys:List A} {vs ws:List V},AVs K ρ H xs vs->AVs K ρ H ys ws->AVs K ρ H (xs++ys) (vs++ws)
 | _,_,_,_,.nil,s=>s
 | _,_,_,_,.cons h t,s=>.cons h (AVs.append t s)
theorem AVs.take:∀ {xs:List A} {vs:List V} (n:Nat),AVs K ρ H xs vs->AVs K ρ H (xs.take n) (vs.take n)
 | _,_,0,_=>.nil
 | _,_,_+1,.nil=>.nil
 | _,_,n+1,.cons h t=>.cons h (AVs.take n t)
theorem AVs.drop:∀ {xs:List A} {vs:List V} (n:Nat),AVs K ρ H xs vs->AVs K ρ H (xs.drop n) (vs.drop n)
 | _,_,0,r=>r
 | _,_,_+1,.nil=>.nil
 | _,_,n+1,.cons _ t=>AVs.drop n t
theorem AVs.reverse:∀ {xs:List A} {vs:List V},AVs K ρ H xs vs->AVs K ρ H xs.reverse vs.reverse
 | _,_,.nil=>.nil
 | _,_,.cons h t=>by rw [List.reverse_cons,List.reverse_cons];exact (AVs.reverse t).append (.cons h .nil)
theorem AVs.get:∀ {xs:List A} {vs:List V} {i:Nat} {x:A},AVs K ρ H xs vs->xs[i]?=some x->∃ v,vs[i]?=some v/\AV K ρ H x v
 | _,_,_,_,.nil,e=>by simp at e
 | _,_,0,_,.cons h _,e=>by simp at e;subst e;exact ⟨_,rfl,h⟩
 | _,_,i+1,x,.cons _ t,e=>by
  obtain ⟨u,h1,h2⟩:=AVs.get (i:=i) (x:=x) t (by simpa using e)
  exact ⟨u,by simpa using h1,h2⟩
theorem AVs.set {x:A} {v:V} (h:AV K ρ H x v):∀ {xs:List A} {vs:List V} (i:Nat),AVs K ρ H xs vs->AVs K ρ H (xs.set i x) (vs.set i v)
 | _,_,_,.nil=>.nil
 | _,_,0,.cons _ t=>.cons h t
 | _,_,i+1,.cons q t=>.cons q (AVs.set h i t)
theorem AVs.one {x:A} {v:V} (h:AV K ρ H x v):AVs K ρ H [x] [v]:=.cons h .nil
theorem gE:∀ (ns:List Int),AVs K ρ H (ns.map .int) (ns.map .int)
 | []=>.nil
 | n::ns=>.cons (.int n) (gE ns)
theorem Rel.lay {S:aE} {p:Addr} {xs:List A} {vs:List V} (R:Rel K ρ H S) (hp:H p=none) (r:AVs K ρ H xs vs):Ext ρ (ρ++[p]) H (upd H p (.lst vs))/\Rel K (ρ++[p]) (upd H p (.lst vs)) (S++[.lst xs])/\(ρ++[p])[S.length]?=some p:=by
 have ex:Ext ρ (ρ++[p]) H (upd H p (.lst vs)):=⟨⟨List.prefix_append _ _,fun a u _ h=>by rw [aN (aU h hp)];exact h⟩,fun a u h _=>by rw [aN (aU h hp)];exact h,fun a h=>by
  rcases List.mem_append.mp h with z | z
  ·exact .inl z
  ·have e:a=p:=by simpa using z
   rw [e];exact .inr hp⟩
 have np:∀ (n:Nat) (a:Addr),ρ[n]?=some a->a≠p:=by
  intro n a e z
  subst z
  have hn:n < S.length:=by rw [<- R.len];exact (List.getElem?_eq_some_iff.mp e).1
  have:=R.at n a S[n] e (List.getElem?_eq_getElem hn)
  cases ho:S[n] with
  | lst xs=>rw [ho] at this;obtain ⟨vs,h,_⟩:=this;rw [hp] at h;cases h
  | dct _ | dki _=>rw [ho] at this;obtain ⟨vs,h,_⟩:=this;rw [hp] at h;cases h
  | ins _ _=>rw [ho] at this;obtain ⟨_,_,h⟩:=this;rw [hp] at h;cases h
 have last:(ρ++[p])[S.length]?=some p:=by rw [<- R.len];simp
 refine ⟨ex,⟨by simp [R.len],?_,?_⟩,last⟩
 ·rw [List.nodup_append]
  refine ⟨R.nd,by simp,fun a ha b hb e=>?_⟩
  have:b=p:=by simpa using hb
  obtain ⟨n,hn,e'⟩:=List.mem_iff_getElem.mp ha
  exact np n a (by rw [List.getElem?_eq_getElem hn,e']) (e.trans this)
 ·intro n a o h1 h2
  by_cases hn:n < S.length
  ·rw [List.getElem?_append_left (by rw [R.len];exact hn)] at h1
   rw [List.getElem?_append_left hn] at h2
   have:=R.at n a o h1 h2
   cases o with
   | lst ys=>obtain ⟨ws,e,q⟩:=this;exact ⟨ws,by rw [aN (np n a h1)];exact e,q.ext ex⟩
   | dct _ | dki _=>obtain ⟨ws,e,q⟩:=this;exact ⟨ws,by rw [aN (np n a h1)];exact e,q.ext ex⟩
   | ins _ _=>obtain ⟨oo,uu,e⟩:=this;exact ⟨oo,uu,by rw [aN (np n a h1)];exact e⟩
  ·have e:n=S.length:=by
    have:=(List.getElem?_eq_some_iff.mp h2).1
    simp at this
    omega
   subst e
   rw [last] at h1
   cases h1
   simp at h2
   subst h2
   exact ⟨vs,bG,r.ext ex⟩
theorem Rel.im {S:aE} {p:Addr} {u:HO} (R:Rel K ρ H S) (hp:H p=none):Ext ρ ρ H (upd H p u)/\Rel K ρ (upd H p u) S:=by
 have ex:Ext ρ ρ H (upd H p u):=⟨⟨List.prefix_refl _,fun a u _ h=>by rw [aN (aU h hp)];exact h⟩,fun a u h _=>by rw [aN (aU h hp)];exact h,fun _ h=>.inl h⟩
 refine ⟨ex,R.len,R.nd,fun n a o h1 h2=>?_⟩
 have:=R.at n a o h1 h2
 cases o with
 | lst ys=>obtain ⟨ws,e,q⟩:=this;exact ⟨ws,by rw [aN (aU e hp)];exact e,q.ext ex⟩
 | dct _ | dki _=>obtain ⟨ws,e,q⟩:=this;exact ⟨ws,by rw [aN (aU e hp)];exact e,q.ext ex⟩
 | ins _ _=>obtain ⟨oo,uu,e⟩:=this;exact ⟨oo,uu,by rw [aN (aU e hp)];exact e⟩
theorem Rel.put {S:aE} {n:Nat} {a:Addr} {xs ys:List A} {ws:List V} (R:Rel K ρ H S) (ha:ρ[n]?=some a) (hS:S[n]?=some (.lst xs)) (r:AVs K ρ H ys ws):Ext ρ ρ H (upd H a (.lst ws))/\Rel K ρ (upd H a (.lst ws)) (S.set n (.lst ys)):=by
 obtain ⟨vs,e,_⟩:=R.at n a _ ha hS
 have ex:Ext ρ ρ H (upd H a (.lst ws)):=⟨⟨List.prefix_refl _,fun b u i h=>by
  have:b≠a:=by
   intro z;subst z;rw [e] at h;cases h;exact i
  rw [aN this];exact h⟩,fun b u h n=>by
  rw [aN (fun z=>n (by rw [z];exact List.mem_of_getElem? ha))];exact h,fun _ h=>.inl h⟩
 refine ⟨ex,by rw [List.length_set];exact R.len,R.nd,fun m b o h1 h2=>?_⟩
 by_cases hm:m=n
 ·subst hm
  rw [ha] at h1;cases h1
  rw [List.getElem?_set_self (List.getElem?_eq_some_iff.mp hS).1] at h2
  cases h2
  exact ⟨ws,bG,r.ext ex⟩
 ·rw [List.getElem?_set_ne (Ne.symm hm)] at h2
  have nb:b≠a:=fun z=>by
   subst z
   obtain ⟨l1,e1⟩:=List.getElem?_eq_some_iff.mp ha
   obtain ⟨l2,e2⟩:=List.getElem?_eq_some_iff.mp h1
   exact hm ((List.getElem_inj R.nd).mp (e2.trans e1.symm))
  have:=R.at m b o h1 h2
  cases o with
  | lst ys=>obtain ⟨ws',e',q⟩:=this;exact ⟨ws',by rw [aN nb];exact e',q.ext ex⟩
  | dct _ | dki _=>obtain ⟨ws',e',q⟩:=this;exact ⟨ws',by rw [aN nb];exact e',q.ext ex⟩
  | ins _ _=>obtain ⟨oo,uu,e'⟩:=this;exact ⟨oo,uu,by rw [aN nb];exact e'⟩
theorem Rel.lst {S:aE} {n:Nat} {a:Addr} {xs:List A} (R:Rel K ρ H S) (ha:ρ[n]?=some a) (hS:S[n]?=some (.lst xs)):∃ vs,H a=some (.lst vs)/\AVs K ρ H xs vs:=R.at n a _ ha hS
structure SR (K:PySem.W.Frag) (ρ:List Addr) (H:Hp) (τ:List A) (σ:St):Prop where
 len:τ.length=σ.length
 «at»:∀ (i:Nat) (a:A),τ[i]?=some a->a=.unb\/∃ v,σ[i]?=some (some v)/\AV K ρ H a v
theorem SR.dB {τ:List A} {σ:St} (s:SR K ρ H τ σ) (e:Ext0 ρ ρ' H H'):SR K ρ' H' τ σ:=⟨s.len,fun i a h=>by
 rcases s.at i a h with z | ⟨v,h1,h2⟩
 ·exact .inl z
 ·exact .inr ⟨v,h1,AV.dB e h2⟩⟩
theorem SR.ext {τ:List A} {σ:St} (s:SR K ρ H τ σ) (e:Ext ρ ρ' H H'):SR K ρ' H' τ σ:=s.dB e.toExt0
theorem Rel.out {S:aE} {D:Addr} {vs ws:List V} (R:Rel K ρ H S) (hD:H D=some (.lst vs)) (hn:D∉ρ):Ext0 ρ ρ H (upd H D (.lst ws))/\Rel K ρ (upd H D (.lst ws)) S:=by
 have ex:Ext0 ρ ρ H (upd H D (.lst ws)):=⟨List.prefix_refl _,fun b u i h=>by
  have:b≠D:=by
   intro z;subst z;rw [hD] at h;cases h;exact i
  rw [aN this];exact h⟩
 refine ⟨ex,R.len,R.nd,fun n a o h1 h2=>?_⟩
 have na:a≠D:=fun z=>hn (by rw [<- z];exact List.mem_of_getElem? h1)
 have:=R.at n a o h1 h2
 cases o with
 | lst ys=>obtain ⟨ws',e,q⟩:=this;exact ⟨ws',by rw [aN na];exact e,AVs.dB ex q⟩
 | dct _ | dki _=>obtain ⟨ws',e,q⟩:=this;exact ⟨ws',by rw [aN na];exact e,q.dB ex⟩
 | ins _ _=>obtain ⟨oo,uu,e⟩:=this;exact ⟨oo,uu,by rw [aN na];exact e⟩
theorem Rel.take {S:aE} {D:Addr} {xs:List A} {vs:List V} (R:Rel K ρ H S) (hD:H D=some (.lst vs)) (hn:D∉ρ) (r:AVs K ρ H xs vs):Rel K (ρ++[D]) H (S++[.lst xs])/\(ρ++[D])[S.length]?=some D:=by
 have ex:Ext0 ρ (ρ++[D]) H H:=⟨List.prefix_append _ _,fun _ _ _ h=>h⟩
 have last:(ρ++[D])[S.length]?=some D:=by rw [<- R.len];simp
 refine ⟨⟨by simp [R.len],?_,fun n a o h1 h2=>?_⟩,last⟩
 ·rw [List.nodup_append]
  refine ⟨R.nd,by simp,fun a ha b hb e=>?_⟩
  have:b=D:=by simpa using hb
  exact hn (by rw [<- this,<- e];exact ha)
 ·by_cases hs:n < S.length
  ·rw [List.getElem?_append_left (by rw [R.len];exact hs)] at h1
   rw [List.getElem?_append_left hs] at h2
   have:=R.at n a o h1 h2
   cases o with
   | lst ys=>obtain ⟨ws,e,q⟩:=this;exact ⟨ws,e,AVs.dB ex q⟩
   | dct _ | dki _=>obtain ⟨ws,e,q⟩:=this;exact ⟨ws,e,q.dB ex⟩
   | ins _ _=>obtain ⟨oo,uu,e⟩:=this;exact ⟨oo,uu,e⟩
  ·have e:n=S.length:=by
    have:=(List.getElem?_eq_some_iff.mp h2).1
    simp at this
    omega
   subst e
   rw [last] at h1
   cases h1
   simp at h2
   subst h2
   exact ⟨vs,hD,AVs.dB ex r⟩
theorem SR.set {τ:List A} {σ:St} {i:Nat} {a:A} {v:V} (s:SR K ρ H τ σ) (h:AV K ρ H a v):SR K ρ H (τ.set i a) (σ.set i (some v)):=by
 refine ⟨by simp [s.len],fun j b e=>?_⟩
 by_cases hj:j=i
 ·subst hj
  have hl:j < τ.length:=by
   have:=(List.getElem?_eq_some_iff.mp e).1
   simpa using this
  rw [List.getElem?_set_self hl] at e
  cases e
  exact .inr ⟨v,List.getElem?_set_self (by rw [<- s.len];exact hl),h⟩
 ·rw [List.getElem?_set_ne (Ne.symm hj)] at e
  rw [List.getElem?_set_ne (Ne.symm hj)]
  exact s.at j b e
end
end Am
namespace Am
open PySem PySem.Spec PyProof.Rows L2
noncomputable def XE (X:Cx) (ρ:List Addr) (H:Hp):Str->aE->Prop:=fun c S'=>∀ (C:Addr) (ρ':List Addr) (H':Hp),ML X.K c C->Ext ρ ρ' H H'->Rel X.K ρ' H' S'->EX X (.ref C) none H'
theorem XE.ext {X:Cx} {ρ ρ':List Addr} {H H':Hp} {c:Str} {S:aE} (h:XE X ρ H c S) (e:Ext ρ ρ' H H'):XE X ρ' H' c S:=fun C ρ2 H2 n e2=>h C ρ2 H2 n (e.trans e2)
noncomputable def nE (X:Cx) (ρ:List Addr) (H:Hp) (Q:VK):A->aE->Prop:=fun a S'=>∀ ρ' H' v,Ext ρ ρ' H H'->Rel X.K ρ' H' S'->AV X.K ρ' H' a v->Q v H'
noncomputable def Mt (X:Cx) (ρ:List Addr) (H:Hp) (Q:Bool->Hp->Prop):Bool->aE->Prop:=fun b S'=>∀ ρ' H',Ext ρ ρ' H H'->Rel X.K ρ' H' S'->Q b H'
noncomputable def Oa (X:Cx) (ρ:List Addr) (H:Hp) (Q:List V->Hp->Prop):List A->aE->Prop:=fun as S'=>∀ ρ' H' vs,Ext ρ ρ' H H'->Rel X.K ρ' H' S'->AVs X.K ρ' H' as vs->Q vs H'
theorem nE.ext {X:Cx} {ρ ρ':List Addr} {H H':Hp} {Q:VK} {a:A} {S:aE} (h:nE X ρ H Q a S) (e:Ext ρ ρ' H H'):nE X ρ' H' Q a S:=fun ρ2 H2 v e2=>h ρ2 H2 v (e.trans e2)
theorem Mt.ext {X:Cx} {ρ ρ':List Addr} {H H':Hp} {Q:Bool->Hp->Prop} {a:Bool} {S:aE} (h:Mt X ρ H Q a S) (e:Ext ρ ρ' H H'):Mt X ρ' H' Q a S:=fun ρ2 H2 e2=>h ρ2 H2 (e.trans e2)
theorem aF {α:Type} {X:Cx} {ρ ρ':List Addr} {H H':Hp} {r:R α} {P P':α->aE->Prop} (h:r.post P (XE X ρ H)) (e:Ext ρ ρ' H H') (hp:∀ a S,P a S->P' a S):r.post P' (XE X ρ' H'):=zA h hp fun _ _ z=>z.ext e
noncomputable def tE (X:Cx) (c:Ex):TE:=fun σ H Q=>∃ ρ S τ,Rel X.K ρ H S/\SR X.K ρ H τ σ/\(c τ S).post (nE X ρ H Q) (XE X ρ H)
noncomputable def tT (X:Cx) (c:Te):TT:=fun σ H Q=>∃ ρ S τ,Rel X.K ρ H S/\SR X.K ρ H τ σ/\(c τ S).post (Mt X ρ H Q) (XE X ρ H)
noncomputable def tL (X:Cx) (c:iL):TA:=fun σ H Q=>∃ ρ S τ,Rel X.K ρ H S/\SR X.K ρ H τ σ/\(c τ S).post (Oa X ρ H Q) (XE X ρ H)
noncomputable def AE (X:Cx) (e:Expr) (c:Ex):Prop:=PE X e (tE X c)
noncomputable def AT (X:Cx) (e:Expr) (c:Te):Prop:=PT X e (tT X c)
noncomputable def AW (X:Cx) (e:Expr) (c:Te):Prop:=PW X e (tT X c)
noncomputable def AL (X:Cx) (es:List Expr) (c:iL):Prop:=PA X es (tL X c)
theorem PE.imp {X:Cx} {e:Expr} {t t':TE} (h:PE X e t) (i:∀ σ H Q,t' σ H Q->t σ H Q):PE X e t':=fun pins s σ H Q I q=>h pins s σ H Q I (i σ H Q q)
theorem PT.imp {X:Cx} {e:Expr} {t t':TT} (h:PT X e t) (i:∀ σ H Q,t' σ H Q->t σ H Q):PT X e t':=fun pins s σ H Q I q=>h pins s σ H Q I (i σ H Q q)
theorem PW.imp {X:Cx} {e:Expr} {t t':TT} (h:PW X e t) (i:∀ σ H Q,t' σ H Q->t σ H Q):PW X e t':=fun w pins s σ H Q I q=>h w pins s σ H Q I (i σ H Q q)
theorem PA.imp {X:Cx} {e:List Expr} {t t':TA} (h:PA X e t) (i:∀ σ H Q,t' σ H Q->t σ H Q):PA X e t':=fun p pins s σ H Q I q=>h p pins s σ H Q I (i σ H Q q)
theorem AW.at {X:Cx} {e:Expr} {c:Te} (h:AW X e c):AT X e c:=h _
noncomputable def A.eE:A->Bool
 | .unb=>true
 | _=>false
noncomputable def ah (i:Nat):Ex:=fun τ S=>if (τ.getD i .unb).eE then .no else .ok (τ.getD i .unb) S
noncomputable def eC (a:A):Ex:=fun _ S=>.ok a S
section
variable {X:Cx} {pos:Pos} {a b:Expr}
theorem aa (i:Nat) {x:Str} (hN:X.N[i]?=some x:=by rfl) (hv:Ku X.env.scope x:=by first | exact Or.inl rfl | exact Or.inr (Or.inl rfl) | exact Or.inr (Or.inr rfl)) (hd:(x == ("__debug__" : Str))=false:=by decide)
  (hcd:(x == ("__classdict__" : Str))=false:=by decide):AE X (.Name x pos) (ah i):=PE.imp (D3 hN hv hd hcd) fun σ H Q ⟨ρ,S,τ,R,r,h⟩=>by
 unfold ah at h
 cases hi:τ[i]? with
 | none=>
  rw [List.getD_eq_getElem?_getD,hi] at h
  exact h.elim
 | some x=>
  rw [List.getD_eq_getElem?_getD,hi] at h
  rcases r.at i x hi with z | ⟨v,e,q⟩
  ·subst z;exact h.elim
  ·refine ⟨v,e,?_⟩
   cases x <;> first | (exact h ρ H v .refl R q) | exact h.elim
theorem aG {i:Int} {j pos}:AE X (.Constant (.int i) j pos) (eC (.int i)):=PE.imp vC fun σ H Q ⟨ρ,S,τ,R,r,h⟩=>h ρ H _ .refl R (.int i)
theorem yX {i:Bool} {j pos}:AE X (.Constant (.bool i) j pos) (eC (.bl i)):=PE.imp Lr fun σ H Q ⟨ρ,S,τ,R,r,h⟩=>h ρ H _ .refl R (.bl i)
theorem j7 {j pos}:AE X (.Constant .none j pos) (eC .non):=PE.imp Jp fun σ H Q ⟨ρ,S,τ,R,r,h⟩=>h ρ H _ .refl R .non
theorem nU {x:Str} {i:Int} {t:Tok} (hm:X.mg x=some (.int i t)) (hg:Gl X x:=by rfl) (hd:(x == ("__debug__" : Str))=false:=by decide):AE X (.Name x pos) (eC (.int i)):=
 PE.imp (Gi (v:=.int i) hg hm ⟨t,rfl⟩ hd) fun σ H Q ⟨ρ,S,τ,R,r,h⟩=>h ρ H _ .refl R (.int i)
noncomputable def aH (f:A->A->aE->R A) (ca cb:Ex):Ex:=fun τ S=>(ca τ S).bind fun a S1=>(cb τ S1).bind fun b S2=>f a b S2
noncomputable def r2 (X:Cx) (f:A->A->aE->R A):R2:=fun x y H Q=>∃ ρ S a b,Rel X.K ρ H S/\AV X.K ρ H a x/\AV X.K ρ H b y/\(f a b S).post (nE X ρ H Q) (XE X ρ H)
noncomputable def r1 (X:Cx) (f:A->aE->R A):V->Hp->VK->Prop:=fun x H Q=>∃ ρ S a,Rel X.K ρ H S/\AV X.K ρ H a x/\(f a S).post (nE X ρ H Q) (XE X ρ H)
noncomputable def rN (X:Cx) (f:List A->aE->R A):List V->Hp->VK->Prop:=fun xs H Q=>∃ ρ S as,Rel X.K ρ H S/\AVs X.K ρ H as xs/\(f as S).post (nE X ρ H Q) (XE X ρ H)
theorem eU.imp {f:Value->Value->Sem Value} {r r':R2} (h:eU X f r) (i:∀ x y H Q,r' x y H Q->r x y H Q):eU X f r':=fun pins s σ H x y v u Q I rx ry q=>h pins s σ H x y v u Q I rx ry (i _ _ _ _ q)
theorem bw.imp {f:Value} {r r':List V->Hp->VK->Prop} (h:bw X f r) (i:∀ x H Q,r' x H Q->r x H Q):bw X f r':=fun pins s σ H x v Q I rx q=>h pins s σ H x v Q I rx (i _ _ _ q)
theorem kL {f:A->A->aE->R A} {ca cb:Ex} {σ:L2.St} {H:Hp} {Q:VK} (h:tE X (aH f ca cb) σ H Q):KP (r2 X f) (tE X ca) (tE X cb) σ H Q:=by
 obtain ⟨ρ,S,τ,R,r,h⟩:=h
 refine ⟨ρ,S,τ,R,r,aF (aL h) .refl fun a S1 h1 ρ1 H1 x e1 R1 v1=>⟨ρ1,S1,τ,R1,r.ext e1,aF (aL h1) e1 fun b S2 h2 ρ2 H2 y e2 R2 v2=>?_⟩⟩
 exact ⟨ρ2,S2,a,b,R2,v1.ext e2,v2,aF h2 (e1.trans e2) fun c S3 h3=>h3.ext (e1.trans e2)⟩
theorem aO {op:Operator} {f:A->A->aE->R A} {ca cb:Ex} (ho:eU X (binaryOp op) (r2 X f)) (ha:AE X a ca) (hb:AE X b cb):AE X (.BinOp a op b pos) (aH f ca cb):=
 PE.imp (LQ ho ha hb) fun σ H Q h=>kL h
theorem mH {op:CmpOp} {f:A->A->aE->R A} {ca cb:Ex} (ho:eU X (compareOp op) (r2 X f)) (ha:AE X a ca) (hb:AE X b cb) (hm:behindInMarks op b=false:=by first | exact Dl _ | with_unfolding_all rfl):AE X (.Compare a [op] [b] pos) (aH f ca cb):=
 PE.imp (FE ho ha hb hm) fun σ H Q h=>kL h
noncomputable def A.JG:A->aE->Option Bool
 | .non,_=>some false
 | .bl b,_=>some b
 | .int i,_=>some (i != 0)
 | .str x,_=>if x.length<=sizeLine then some ((x.length:Int) != 0) else none
 | .tup xs,_=>some (!xs.isEmpty)
 | .frz xs,_=>some (!xs.isEmpty)
 | .ref n,S=>(ak S n).map fun xs=>!xs.isEmpty
 | _,_=>none
noncomputable def ji (c:Ex):Te:=fun τ S=>(c τ S).bind fun a S1=>opt (a.JG S1) fun b=>.ok b S1
noncomputable def iW (c:Ex):Te:=fun τ S=>(c τ S).bind fun a S1=>match a with
 | .bl b=>.ok b S1
 | _=>.no
theorem qh {K:PySem.W.Frag} {ρ:List Addr} {H:Hp} {b:Bool} {v:V} (h:AV K ρ H (.bl b) v):v=.bl b:=by cases h;rfl
theorem bP {op:CmpOp} {f:A->A->aE->R A} {ca cb:Ex} (ho:eU X (compareOp op) (r2 X f)) (ha:AE X a ca) (hb:AE X b cb) (hm:behindInMarks op b=false:=by first | exact Dl _ | with_unfolding_all rfl):AT X (.Compare a [op] [b] pos) (iW (aH f ca cb)):=
 PT.imp (Et ho ha hb hm) fun σ H Q ⟨ρ,S,τ,R,r,h⟩=>by
  refine kL ⟨ρ,S,τ,R,r,aF (aL h) .refl fun c S1 h1 ρ1 H1 x e1 R1 v1=>?_⟩
  cases c with
  | bl k=>cases qh v1;exact ⟨k,rfl,h1 ρ1 H1 e1 R1⟩
  | _=>exact h1.elim
theorem Ka {K:PySem.W.Frag} {ρ:List Addr} {H:Hp} {S:aE} {x:A} {v:V} {b:Bool} (R:Rel K ρ H S) (h:AV K ρ H x v) (e:x.JG S=some b):Ie K v H b:=by
 have emp:∀ {xs:List A} {vs:List V},AVs K ρ H xs vs->(!xs.isEmpty)=!vs.isEmpty:=fun r=>by cases r <;> rfl
 cases h with
 | non=>exact (Option.some.inj e).symm
 | bl b=>exact (Option.some.inj e).symm
 | int i=>exact (Option.some.inj e).symm
 | str x=>
  by_cases hx:x.length<=sizeLine
  ·exact ⟨hx,by have:=(if_pos hx).symm.trans e;exact (Option.some.inj this).symm⟩
  ·have:=(if_neg hx).symm.trans e;cases this
 | tup h r=>exact .inr (.inl ⟨_,dF.of h,by rw [<- emp r];exact (Option.some.inj e).symm⟩)
 | frz h r=>exact .inl ⟨_,h.Ei,by rw [<- emp r];exact (Option.some.inj e).symm⟩
 | rng h=>cases e
 | ty n=>cases e
 | exn n h x=>cases e
 | @ref a n h=>
  have e:(ak S n).map (fun xs=>!xs.isEmpty)=some b:=e
  obtain ⟨xs,hn,e⟩:=Option.map_eq_some_iff.mp e
  obtain ⟨vs,h1,h2⟩:=R.lst h (aP hn)
  exact .inl ⟨vs,fY.of h1,by rw [<- emp h2];exact e.symm⟩
theorem iP {ca:Ex} (ha:AE X a ca) (he:∀ whole,isTrue a X.env whole=(do let v <- whole;standAt a.pos;holding [v] (truthy v)):=by intro _;rfl):AT X a (ji ca):=
 PT.imp (DE ha he) fun σ H Q ⟨ρ,S,τ,R,r,h⟩=>⟨ρ,S,τ,R,r,aF (aL h) .refl fun c S1 h1 ρ1 H1 x e1 R1 v1=>by
  obtain ⟨b,hb,h1⟩:=aK h1
  exact ⟨b,Ka R1 v1 hb,h1 ρ1 H1 e1 R1⟩⟩
noncomputable def zJ (c:Te):Te:=fun τ S=>(c τ S).bind fun b S1=>.ok (!b) S1
noncomputable def Ng (c d:Te):Te:=fun τ S=>(c τ S).bind fun b S1=>match b with | true=>d τ S1 | false=>.ok false S1
noncomputable def Kv (c d:Te):Te:=fun τ S=>(c τ S).bind fun b S1=>match b with | true=>.ok true S1 | false=>d τ S1
theorem rq {c:Te} (h:AT X a c):AT X (.UnaryOp .Not a pos) (zJ c):=PT.imp (JD h) fun σ H Q ⟨ρ,S,τ,R,r,h⟩=>⟨ρ,S,τ,R,r,aF (aL h) .refl fun b S1 h1=>h1⟩
theorem or_imp {c d:Te} {σ:L2.St} {H:Hp} {Q:Bool->Hp->Prop} (h:tT X (Kv c d) σ H Q):NQ (tT X c) (tT X d) σ H Q:=by
 obtain ⟨ρ,S,τ,R,r,h⟩:=h
 refine ⟨ρ,S,τ,R,r,aF (aL h) .refl fun b S1 h1 ρ1 H1 e1 R1=>?_⟩
 cases b with
 | false=>
  rw [if_neg Bool.false_ne_true]
  exact ⟨ρ1,S1,τ,R1,r.ext e1,aF h1 e1 fun _ _ z=>z.ext e1⟩
 | true=>
  rw [if_pos rfl]
  exact h1 ρ1 H1 e1 R1
variable {rest:List Expr}
theorem vM {c:Te} (h:AT X a c):AW X (.BoolOp .Or [a] pos) c:=Ij h
theorem Dm {c d:Te} (h:AT X a c) (h2:AW X (.BoolOp .Or (b::rest) pos) d):AW X (.BoolOp .Or (a::b::rest) pos) (Kv c d):=PW.imp (L_ h h2) fun _ _ _ q=>or_imp q
noncomputable def Fp (c d:Ex):Ex:=fun τ S=>(c τ S).bind fun a S1=>match a with | .bl true=>d τ S1 | .bl false=>.ok (.bl false) S1 | _=>.no
noncomputable def Ms (c d:Ex):Ex:=fun τ S=>(c τ S).bind fun a S1=>match a with | .bl true=>.ok (.bl true) S1 | .bl false=>d τ S1 | _=>.no
noncomputable def IU (c:Ex):Ex:=fun τ S=>(c τ S).bind fun a S1=>match a with | .bl b=>.ok (.bl !b) S1 | _=>.no
theorem BL {op} {c:Ex} (h:AE X a c):AE X (.BoolOp op [a] pos) c:=HF h
theorem JP {c d:Ex} (h:AE X a c) (h2:AE X (.BoolOp .And (b::rest) pos) d):AE X (.BoolOp .And (a::b::rest) pos) (Fp c d):=PE.imp (HE h h2) fun σ H Q ⟨ρ,S,τ,R,r,h⟩=>by
 refine ⟨ρ,S,τ,R,r,aF (aL h) .refl fun b S1 h1 ρ1 H1 x e1 R1 v1=>?_⟩
 cases b with
 | bl k=>
  cases qh v1
  refine ⟨k,rfl,?_⟩
  cases k with
  | true=>
   rw [if_pos rfl]
   exact ⟨ρ1,S1,τ,R1,r.ext e1,aF h1 e1 fun _ _ z=>z.ext e1⟩
  | false=>
   rw [if_neg Bool.false_ne_true]
   exact h1 ρ1 H1 _ e1 R1 (.bl false)
 | _=>exact h1.elim
theorem K9 {c d:Ex} (h:AE X a c) (h2:AE X (.BoolOp .Or (b::rest) pos) d):AE X (.BoolOp .Or (a::b::rest) pos) (Ms c d):=PE.imp (LR h h2) fun σ H Q ⟨ρ,S,τ,R,r,h⟩=>by
 refine ⟨ρ,S,τ,R,r,aF (aL h) .refl fun b S1 h1 ρ1 H1 x e1 R1 v1=>?_⟩
 cases b with
 | bl k=>
  cases qh v1
  refine ⟨k,rfl,?_⟩
  cases k with
  | false=>
   rw [if_neg Bool.false_ne_true]
   exact ⟨ρ1,S1,τ,R1,r.ext e1,aF h1 e1 fun _ _ z=>z.ext e1⟩
  | true=>
   rw [if_pos rfl]
   exact h1 ρ1 H1 _ e1 R1 (.bl true)
 | _=>exact h1.elim
theorem Jh {c:Ex} (h:AE X a c):AE X (.UnaryOp .Not a pos) (IU c):=PE.imp (Ik h) fun σ H Q ⟨ρ,S,τ,R,r,h⟩=>by
 refine ⟨ρ,S,τ,R,r,aF (aL h) .refl fun b S1 h1 ρ1 H1 x e1 R1 v1=>?_⟩
 cases b with
 | bl k=>
  cases qh v1
  exact ⟨k,rfl,h1 ρ1 H1 _ e1 R1 (.bl _)⟩
 | _=>exact h1.elim
noncomputable def Of (t:Te) (c d:Ex):Ex:=fun τ S=>(t τ S).bind fun b S1=>match b with | true=>c τ S1 | false=>d τ S1
noncomputable def aJ:iL:=fun _ S=>.ok [] S
noncomputable def aj (c:Ex) (d:iL):iL:=fun τ S=>(c τ S).bind fun a S1=>(d τ S1).bind fun as S2=>.ok (a::as) S2
theorem aA:AL X [] aJ:=PA.imp u9 fun σ H Q ⟨ρ,S,τ,R,r,h⟩=>h ρ H _ .refl R .nil
theorem af {e:Expr} {es:List Expr} {c:Ex} {d:iL} (ha:AE X e c) (hr:AL X es d) (hs:starEach (e::es) X.env=(false,eval e X.env)::starEach es X.env:=by rfl):AL X (e::es) (aj c d):=
 PA.imp (ng ha hr hs) fun σ H Q ⟨ρ,S,τ,R,r,h⟩=>by
  refine ⟨ρ,S,τ,R,r,aF (aL h) .refl fun a S1 h1 ρ1 H1 x e1 R1 v1=>⟨ρ1,S1,τ,R1,r.ext e1,aF (aL h1) e1 fun as S2 h2 ρ2 H2 xs e2 R2 v2=>?_⟩⟩
  exact h2 ρ2 H2 _ (e1.trans e2) R2 (.cons (v1.ext e2) v2)
noncomputable def fM (d:iL):Ex:=fun τ S=>(d τ S).bind fun as S1=>gd (as.length<=sizeLine) (.ok (.tup as) S1)
noncomputable def newL (as:List A) (S:aE):R A:=gd (as.length<=sizeLine) (.ok (.ref S.length) (S++[.lst as]))
noncomputable def jS (d:iL):Ex:=fun τ S=>(d τ S).bind fun as S1=>newL as S1
theorem iK {ρ ρ0:List Addr} {H H0:Hp} {S:aE} {as:List A} {vs:List V} {Q:VK} (R:Rel X.K ρ H S) (r:AVs X.K ρ H as vs) (e:Ext ρ0 ρ H0 H) (h:nE X ρ0 H0 Q (.tup as) S):∀ p,H p=none->Q (.ref p) (upd H p (.tup vs)):=fun p hp=>by
 obtain ⟨ex,R'⟩:=R.im (u:=.tup vs) hp
 exact h ρ _ _ (e.trans ex) R' (.tup bG (r.ext ex))
theorem dJ {ρ ρ0:List Addr} {H H0:Hp} {S:aE} {as:List A} {vs:List V} {Q:VK} (R:Rel X.K ρ H S) (r:AVs X.K ρ H as vs) (e:Ext ρ0 ρ H0 H) (h:nE X ρ0 H0 Q (.ref S.length) (S++[.lst as])):∀ p,H p=none->Q (.ref p) (upd H p (.lst vs)):=fun p hp=>by
 obtain ⟨ex,R',g⟩:=R.lay hp r
 exact h _ _ _ (e.trans ex) R' (.ref g)
theorem Fb {ρ ρ0:List Addr} {H H0:Hp} {S:aE} {as:List A} {vs:List V} {Q:VK} (R:Rel X.K ρ H S) (r:AVs X.K ρ H as vs) (e:Ext ρ0 ρ H0 H) (h:(newL as S).post (nE X ρ0 H0 Q) (XE X ρ0 H0)):vs.length<=sizeLine/\∀ p,H p=none->Q (.ref p) (upd H p (.lst vs)):=by
 obtain ⟨hl,h⟩:=bg h
 exact ⟨by rw [<- r.length];exact hl,dJ R r e h⟩
theorem dP {es:List Expr} {d:iL} {x1} (h:AL X es d):AE X (.Tuple es x1 pos) (fM d):=PE.imp (Js h) fun σ H Q ⟨ρ,S,τ,R,r,h⟩=>by
 refine ⟨ρ,S,τ,R,r,aF (aL h) .refl fun as S1 h1 ρ1 H1 xs e1 R1 v1=>?_⟩
 obtain ⟨hl,h1⟩:=bg h1
 exact ⟨by rw [<- v1.length];exact hl,iK R1 v1 e1 h1⟩
theorem ff {es:List Expr} {d:iL} (h:AL X es d):AE X (.List es pos) (jS d):=PE.imp (JW h) fun σ H Q ⟨ρ,S,τ,R,r,h⟩=>
 ⟨ρ,S,τ,R,r,aF (aL h) .refl fun as S1 h1 ρ1 H1 xs e1 R1 v1=>Fb R1 v1 e1 h1⟩
end
section
variable {X:Cx} {pos:Pos} {a b:Expr}
noncomputable def aSub (a b:A) (S:aE):R A:=match a,b with
 | .int i,.int j=>.ok (.int (i - j)) S
 | _,_=>.no
theorem gu:eU X (binaryOp .Sub) (r2 X aSub):=eU.imp HR fun x y H Q ⟨ρ,S,a,b,R,va,vb,h⟩=>by
 cases va <;> first | exact h.elim | (cases vb <;> first | exact h.elim | exact ⟨_,_,rfl,rfl,h _ _ _ .refl R (.int _)⟩)
noncomputable def tu (i j:Int):Bool:=(decide (-(2 ^ 64) < i) && decide (i < 2 ^ 64)) || (decide (-(2 ^ 64) < j) && decide (j < 2 ^ 64))
theorem mulOk_of {i j:Int} (h:tu i j=true):Fv i j:=by
 unfold tu at h
 simp only [Bool.or_eq_true,Bool.and_eq_true,decide_eq_true_eq] at h
 exact h
noncomputable def gq (a b:A) (S:aE):R A:=match a,b with
 | .int i,.int j=>gd (tu i j) (.ok (.int (i * j)) S)
 | .ref n,.int k=>opt (ak S n) fun xs=>gd (-(2 ^ 63)<=k/\k < 2 ^ 63/\xs.length * k.toNat<=sizeLine) (.ok (.ref S.length) (S++[.lst (List.replicate k.toNat xs).flatten]))
 | _,_=>.no
theorem AVs.rep {K:PySem.W.Frag} {ρ:List Addr} {H:Hp} {xs:List A} {vs:List V} (r:AVs K ρ H xs vs):∀ k:Nat,AVs K ρ H (List.replicate k xs).flatten (List.replicate k vs).flatten
 | 0=>.nil
 | k+1=>by rw [List.replicate_succ,List.replicate_succ,List.flatten_cons,List.flatten_cons];exact r.append (AVs.rep r k)
theorem j5:eU X (binaryOp .Mult) (r2 X gq):=fun pins s σ H x y v u Q I rx ry ⟨ρ,S,a,b,R,va,vb,h⟩=>by
 cases va with
 | int i=>
  cases vb with
  | int j=>
   obtain ⟨hm,h⟩:=bg h
   exact Jg pins s σ H _ _ v u Q I rx ry ⟨i,j,rfl,rfl,mulOk_of hm,h _ _ _ .refl R (.int _)⟩
  | _=>exact h.elim
 | @ref p n hp=>
  cases vb with
  | int k=>
   obtain ⟨xs,hn,h⟩:=aK h
   obtain ⟨hc,h⟩:=bg h
   obtain ⟨vs,h1,h2⟩:=R.lst hp (aP hn)
   exact HY pins s σ H _ _ v u Q I rx ry ⟨p,k,vs,rfl,rfl,h1,hc.1,hc.2.1,by rw [<- h2.length];exact hc.2.2,dJ R (h2.rep _) .refl h⟩
  | _=>exact h.elim
 | _=>exact h.elim
noncomputable def su (a b:A) (S:aE):R A:=match a,b with
 | .int i,.int j=>gd (0 < j/\j < 18446744073709551616) (.ok (.int (i / j)) S)
 | _,_=>.no
theorem vh:eU X (binaryOp .FloorDiv) (r2 X su):=eU.imp BN fun x y H Q ⟨ρ,S,a,b,R,va,vb,h⟩=>by
 cases va <;> first | exact h.elim | (cases vb <;> first | exact h.elim | exact ⟨_,_,rfl,rfl,(bg h).1,(bg h).2 _ _ _ .refl R (.int _)⟩)
noncomputable def kj (a b:A) (S:aE):R A:=match a,b with
 | .int i,.int j=>gd (0 < j) (.ok (.int (i % j)) S)
 | _,_=>.no
theorem n9:eU X (binaryOp .Mod) (r2 X kj):=eU.imp IQ fun x y H Q ⟨ρ,S,a,b,R,va,vb,h⟩=>by
 cases va <;> first | exact h.elim | (cases vb <;> first | exact h.elim | exact ⟨_,_,rfl,rfl,(bg h).1,(bg h).2 _ _ _ .refl R (.int _)⟩)
noncomputable def EC (a b:A) (S:aE):R A:=match a,b with
 | .int i,.int j=>gd (0<=j/\j<=1000000/\i.natAbs < 2 ^ 64) (.ok (.int (i ^ j.toNat)) S)
 | _,_=>.no
theorem LN:eU X (binaryOp .Pow) (r2 X EC):=eU.imp Ju fun x y H Q ⟨ρ,S,a,b,R,va,vb,h⟩=>by
 cases va <;> first | exact h.elim | (cases vb <;> first | exact h.elim | exact ⟨_,_,rfl,rfl,(bg h).1,(bg h).2 _ _ _ .refl R (.int _)⟩)
noncomputable def b_ (a b:A) (S:aE):R A:=match a,b with
 | .int i,.int j=>.ok (.int (i+j)) S
 | .tup xs,.tup ys=>gd (xs.length+ys.length<=sizeLine) (.ok (.tup (xs++ys)) S)
 | .str x,.str y=>gd (x.length+y.length<=sizeLine) (.ok (.str (x++y)) S)
 | .ref n,.ref m=>opt (ak S n) fun xs=>opt (ak S m) fun ys=>gd (xs.length+ys.length<=sizeLine) (.ok (.ref S.length) (S++[.lst (xs++ys)]))
 | _,_=>.no
theorem AVs.nil_inv {K:PySem.W.Frag} {ρ:List Addr} {H:Hp} {xs:List A} {vs:List V} (r:AVs K ρ H xs vs):xs=[] ↔ vs=[]:=by cases r <;> simp
theorem cO:eU X (binaryOp .Add) (r2 X b_):=fun pins s σ H x y v u Q I rx ry ⟨ρ,S,a,b,R,va,vb,h⟩=>by
 cases va with
 | int i=>
  cases vb with
  | int j=>exact Il pins s σ H _ _ v u Q I rx ry ⟨i,j,rfl,rfl,h _ _ _ .refl R (.int _)⟩
  | _=>exact h.elim
 | str x=>
  cases vb with
  | str y=>
   obtain ⟨hc,h⟩:=bg h
   exact vd pins s σ H _ _ v u Q I rx ry ⟨x,y,rfl,rfl,hc,h _ _ _ .refl R (.str _)⟩
  | _=>exact h.elim
 | @tup p xs vs h1 r1=>
  cases vb with
  | @tup q ys ws h2 r2=>
   obtain ⟨hc,h⟩:=bg h
   by_cases hv:vs=[]
   ·have hx:=r1.nil_inv.mpr hv
    subst hv hx
    exact BA pins s σ H _ _ v u Q I rx ry ⟨p,q,ws,rfl,rfl,dF.of h1,dF.of h2,h _ _ _ .refl R (.tup h2 r2)⟩
   ·refine Ge pins s σ H _ _ v u Q I rx ry ⟨p,q,vs,ws,rfl,rfl,dF.of h1,dF.of h2,hv,by rw [<- r1.length,<- r2.length];exact hc,fun e=>?_,fun _=>iK R (r1.append r2) .refl h⟩
    have hy:=r2.nil_inv.mpr e
    subst hy
    rw [List.append_nil] at h
    exact h _ _ _ .refl R (.tup h1 r1)
  | _=>exact h.elim
 | @ref p n hp=>
  cases vb with
  | @ref q m hq=>
   obtain ⟨xs,hn,h⟩:=aK h
   obtain ⟨ys,hm,h⟩:=aK h
   obtain ⟨hc,h⟩:=bg h
   obtain ⟨vs,h1,h2⟩:=R.lst hp (aP hn)
   obtain ⟨ws,h3,h4⟩:=R.lst hq (aP hm)
   exact JK pins s σ H _ _ v u Q I rx ry ⟨p,q,vs,ws,rfl,rfl,h1,h3,by rw [<- h2.length,<- h4.length];exact hc,dJ R (h2.append h4) .refl h⟩
  | _=>exact h.elim
 | _=>exact h.elim
noncomputable def A.ints:List A->Option (List Int)
 | []=>some []
 | .int i::xs=>(A.ints xs).map (i::·)
 | _=>none
theorem jQ {K:PySem.W.Frag} {ρ:List Addr} {H:Hp}:∀ {xs:List A} {vs:List V} {bs:List Int},AVs K ρ H xs vs->A.ints xs=some bs->vs=bs.map V.int
 | _,_,_,.nil,e=>by cases e;rfl
 | _,_,_,.cons (x:=.int b) h t,e=>by
  obtain ⟨cs,e1,rfl⟩:=Option.map_eq_some_iff.mp e
  cases h
  rw [jQ t e1];rfl
 | _,_,_,.cons (x:=.unb) h t,e=>nomatch e
 | _,_,_,.cons (x:=.non) h t,e=>nomatch e
 | _,_,_,.cons (x:=.bl _) h t,e=>nomatch e
 | _,_,_,.cons (x:=.str _) h t,e=>nomatch e
 | _,_,_,.cons (x:=.tup _) h t,e=>nomatch e
 | _,_,_,.cons (x:=.frz _) h t,e=>nomatch e
 | _,_,_,.cons (x:=.rng _ _) h t,e=>nomatch e
 | _,_,_,.cons (x:=.ref _) h t,e=>nomatch e
 | _,_,_,.cons (x:=.exn _) h t,e=>nomatch e
 | _,_,_,.cons (x:=.ty _) h t,e=>nomatch e
noncomputable def yd (a b:A) (S:aE):R A:=match a,b with
 | .int i,.int j=>.ok (.bl (decide (i < j))) S
 | _,_=>.no
theorem Cr (hu:X.A.units+64 < cLine):eU X (compareOp .Lt) (r2 X yd):=fun pins s σ H x y v u Q I rx ry ⟨ρ,S,a,b,R,va,vb,h⟩=>by
 cases va with
 | int i=>
  cases vb with
  | int j=>exact KS pins s σ H _ _ v u Q I rx ry ⟨i,j,rfl,rfl,h _ _ _ .refl R (.bl _)⟩
  | _=>exact h.elim
 | _=>exact h.elim
noncomputable def Mq (a b:A) (S:aE):R A:=match a,b with
 | .int i,.int j=>.ok (.bl (decide (i<=j))) S
 | _,_=>.no
theorem Lu:eU X (compareOp .LtE) (r2 X Mq):=eU.imp K_ fun x y H Q ⟨ρ,S,a,b,R,va,vb,h⟩=>by
 cases va <;> first | exact h.elim | (cases vb <;> first | exact h.elim | exact ⟨_,_,rfl,rfl,h _ _ _ .refl R (.bl _)⟩)
noncomputable def Al (a b:A) (S:aE):R A:=match a,b with
 | .int i,.int j=>.ok (.bl (decide (j < i))) S
 | _,_=>.no
theorem rE (hu:X.A.units+64 < cLine):eU X (compareOp .Gt) (r2 X Al):=fun pins s σ H x y v u Q I rx ry ⟨ρ,S,a,b,R,va,vb,h⟩=>by
 cases va with
 | int i=>
  cases vb with
  | int j=>exact K0 pins s σ H _ _ v u Q I rx ry ⟨i,j,rfl,rfl,h _ _ _ .refl R (.bl _)⟩
  | _=>exact h.elim
 | _=>exact h.elim
noncomputable def Kw (a b:A) (S:aE):R A:=match a,b with
 | .int i,.int j=>.ok (.bl (decide (j<=i))) S
 | _,_=>.no
theorem IC:eU X (compareOp .GtE) (r2 X Kw):=eU.imp LW fun x y H Q ⟨ρ,S,a,b,R,va,vb,h⟩=>by
 cases va <;> first | exact h.elim | (cases vb <;> first | exact h.elim | exact ⟨_,_,rfl,rfl,h _ _ _ .refl R (.bl _)⟩)
noncomputable def qV (neg:Bool) (a b:A) (S:aE):R A:=match a,b with
 | .bl i,.bl j=>.ok (.bl (if neg then i != j else i == j)) S
 | .non,.non=>.ok (.bl (!neg)) S
 | .unb,.non=>.no
 | .exn _,.non=>.no
 | _,.non=>.ok (.bl neg) S
 | _,_=>.no
theorem Gb:eU X (compareOp .Is) (r2 X (qV false)):=fun pins s σ H x y v u Q I rx ry ⟨ρ,S,a,b,R,va,vb,h⟩=>by
 cases vb with
 | non=>
  refine HK pins s σ H _ _ v u Q I rx ry ⟨rfl,?_⟩
  cases va <;> first | exact h _ _ _ .refl R (.bl _) | exact h.elim
 | bl j=>
  cases va with
  | bl i=>exact HN pins s σ H _ _ v u Q I rx ry ⟨i,j,rfl,rfl,h _ _ _ .refl R (.bl _)⟩
  | _=>exact h.elim
 | _=>cases va <;> exact h.elim
noncomputable def MJ (f:A->aE->R A) (c:Ex):Ex:=fun τ S=>(c τ S).bind fun a S1=>f a S1
noncomputable def M_ (a:A) (S:aE):R A:=match a with
 | .int i=>.ok (.int (-i)) S
 | _=>.no
noncomputable def fG (a b:A) (S:aE):R A:=match a,b with
 | .tup xs,.int i=>opt (fB xs i) fun x=>.ok x S
 | .frz xs,.int i=>opt (fB xs i) fun x=>.ok x S
 | .ref n,.int i=>opt (ak S n) fun xs=>opt (fB xs i) fun x=>.ok x S
 | .str z,.int i=>gd (z.length<=sizeLine) (opt (fB z.cps.toList i) fun c=>.ok (.str ⟨#[c]⟩) S)
 | _,_=>.no
theorem AVs.fB {K:PySem.W.Frag} {ρ:List Addr} {H:Hp} {xs:List A} {vs:List V} {i:Int} {x:A} (r:AVs K ρ H xs vs) (h:L2.fB xs i=some x):∃ v,L2.fB vs i=some v/\AV K ρ H x v:=by
 unfold L2.fB at h ⊢
 rw [<- r.length]
 cases hj:oE xs.length i with
 | none=>rw [hj] at h;cases h
 | some j=>
  rw [hj] at h
  exact r.get h
theorem LJ:Ig X (r2 X fG):=fun value slice pins s σ H x y v u Q I rx ry ⟨ρ,S,a,b,R,va,vb,h⟩ hs=>by
 cases va with
 | @tup p xs vs h1 r1=>
  cases vb with
  | int i=>
   obtain ⟨x,hx,h⟩:=aK h
   obtain ⟨z,e,q⟩:=r1.fB hx
   exact JV value slice pins s σ H _ _ v u Q I rx ry ⟨p,vs,i,z,rfl,rfl,dF.of h1,e,h _ _ _ .refl R q⟩ hs
  | _=>exact h.elim
 | @frz p xs vs h1 r1=>
  cases vb with
  | int i=>
   obtain ⟨x,hx,h⟩:=aK h
   obtain ⟨z,e,q⟩:=r1.fB hx
   exact xG value slice pins s σ H _ _ v u Q I rx ry ⟨p,vs,i,z,rfl,rfl,h1.Ei,e,h _ _ _ .refl R q⟩ hs
  | _=>exact h.elim
 | @ref p n hp=>
  cases vb with
  | int i=>
   obtain ⟨xs,hn,h⟩:=aK h
   obtain ⟨x,hx,h⟩:=aK h
   obtain ⟨vs,h1,r1⟩:=R.lst hp (aP hn)
   obtain ⟨z,e,q⟩:=r1.fB hx
   exact xG value slice pins s σ H _ _ v u Q I rx ry ⟨p,vs,i,z,rfl,rfl,fY.of h1,e,h _ _ _ .refl R q⟩ hs
  | _=>exact h.elim
 | str z=>
  cases vb with
  | int i=>
   obtain ⟨hz,h⟩:=bg h
   obtain ⟨c,hc,h⟩:=aK h
   exact IX value slice pins s σ H _ _ v u Q I rx ry ⟨z,i,c,rfl,rfl,hz,hc,h _ _ _ .refl R (.str _)⟩ hs
  | _=>exact h.elim
 | _=>exact h.elim
theorem bJ {ca cb:Ex} (ha:AE X a ca) (hb:AE X b cb) (hs:qP b:=by exact fun _ _=>rfl):AE X (.Subscript a b pos) (aH fG ca cb):=PE.imp (GX LJ ha hb hs) fun σ H Q h=>kL h
end
noncomputable def i_ (f:A->A->Option Bool):List A->List A->Option Bool
 | [],[]=>some true
 | x::xs,y::ys=>(f x y).bind fun p=>(i_ f xs ys).map fun q=>p && q
 | _,_=>some false
noncomputable def oO (S:aE):Nat->A->A->Option Bool
 | 0,_,_=>none
 | n+1,a,b=>match a,b with
  | .non,.non=>some true
  | .bl x,.bl y=>some (x == y)
  | .bl x,.int y=>some ((if x then 1 else 0) == y)
  | .int x,.bl y=>some (x == (if y then 1 else 0))
  | .int x,.int y=>some (x == y)
  | .str x,.str y=>some (x == y)
  | .non,.bl _=>some false
  | .non,.int _=>some false
  | .non,.str _=>some false
  | .bl _,.non=>some false
  | .bl _,.str _=>some false
  | .int _,.non=>some false
  | .int _,.str _=>some false
  | .str _,.non=>some false
  | .str _,.bl _=>some false
  | .str _,.int _=>some false
  | .tup xs,.tup ys=>i_ (oO S n) xs ys
  | .ref i,.ref j=>(ak S i).bind fun xs=>(ak S j).bind fun ys=>i_ (oO S n) xs ys
  | .ref i,.tup _=>(ak S i).map fun _=>false
  | .tup _,.ref j=>(ak S j).map fun _=>false
  | .ref i,.non=>(ak S i).map fun _=>false
  | .ref i,.int _=>(ak S i).map fun _=>false
  | .ref i,.bl _=>(ak S i).map fun _=>false
  | .ref i,.str _=>(ak S i).map fun _=>false
  | .non,.ref i=>(ak S i).map fun _=>false
  | .int _,.ref i=>(ak S i).map fun _=>false
  | .bl _,.ref i=>(ak S i).map fun _=>false
  | .str _,.ref i=>(ak S i).map fun _=>false
  | .tup _,.non=>some false
  | .tup _,.int _=>some false
  | .tup _,.bl _=>some false
  | .tup _,.str _=>some false
  | .non,.tup _=>some false
  | .int _,.tup _=>some false
  | .bl _,.tup _=>some false
  | .str _,.tup _=>some false
  | _,_=>none
section
variable {X:Cx} {pins:List (Addr×Obj)} {σ:L2.St} {H:Hp} {s:Shared} {ρ:List Addr} {S:aE}
theorem w9 {a:Addr} {vs ws:List V} (I:Inv X pins σ H s) (h:dF X.K H a vs) (h':H a=some (.lst ws)):False:=by
 rcases h with (h | ⟨o,h⟩) | ⟨o,its,n,hk,_⟩
 ·rw [h] at h';cases h'
 ·rw [h] at h';cases h'
 ·rw [(I.bs a o (I.mod.kin a o hk)).2] at h';cases h'
theorem pB {f:A->A->Option Bool} (hf:∀ a b x k,AV X.K ρ H a x->AV X.K ρ H b x->f a b=some k->k=true):∀ {xs ys:List A} {vs:List V} {k:Bool},AVs X.K ρ H xs vs->AVs X.K ρ H ys vs->i_ f xs ys=some k->k=true
 | _,_,_,_,.nil,.nil,h=>(Option.some.inj h).symm
 | _,_,_,_,.cons (x:=x) h t,.cons (x:=y) h' t',e=>by
  unfold i_ at e
  cases e1:f x y with
  | none=>rw [e1] at e;cases e
  | some p=>
   rw [e1] at e
   obtain ⟨q,e2,e3⟩:=Option.map_eq_some_iff.mp e
   rw [<- e3,hf _ _ _ p h h' e1,pB hf t t' e2];rfl
theorem rV (I:Inv X pins σ H s) (R:Rel X.K ρ H S):∀ (n:Nat) (a b:A) (x:V) (k:Bool),AV X.K ρ H a x->AV X.K ρ H b x->oO S n a b=some k->k=true
 | 0,_,_,_,_,_,_,e=>nomatch e
 | n+1,a,b,x,k,ha,hb,e=>by
  cases ha with
  | non=>cases hb;exact (Option.some.inj e).symm
  | bl i=>cases hb;exact (Option.some.inj e).symm.trans (beq_self_eq_true i)
  | int i=>cases hb;exact (Option.some.inj e).symm.trans (beq_self_eq_true i)
  | str i=>cases hb;exact (Option.some.inj e).symm.trans (beq_self_eq_true i)
  | ty i=>cases hb;cases e
  | @tup p xs vs h1 r1=>
   cases hb with
   | @tup _ ys ws h2 r2=>
    have:=I.qy (dF.of h1) (dF.of h2)
    subst this
    exact pB (rV I R n) r1 r2 e
   | frz _ _=>cases e
   | rng _=>cases e
   | exn _ _ _=>cases e
   | @ref _ m h2=>
    obtain ⟨ys,e1,_⟩:=Option.map_eq_some_iff.mp e
    obtain ⟨vs',h3,_⟩:=R.lst h2 (aP e1)
    exact (w9 I (dF.of h1) h3).elim
  | frz h1 r1=>cases hb <;> cases e
  | rng h1=>cases hb <;> cases e
  | exn n1 h1 x1=>cases hb <;> cases e
  | @ref p i h1=>
   cases hb with
   | @tup _ ys ws h2 r2=>
    obtain ⟨ys,e1,_⟩:=Option.map_eq_some_iff.mp e
    obtain ⟨vs',h3,_⟩:=R.lst h1 (aP e1)
    exact (w9 I (dF.of h2) h3).elim
   | frz _ _=>cases e
   | rng _=>cases e
   | exn _ _ _=>cases e
   | @ref _ m h2=>
    obtain ⟨xs,e1,e⟩:=Option.bind_eq_some_iff.mp e
    obtain ⟨ys,e2,e⟩:=Option.bind_eq_some_iff.mp e
    obtain ⟨vs,h3,r1⟩:=R.lst h1 (aP e1)
    obtain ⟨ws,h4,r2⟩:=R.lst h2 (aP e2)
    rw [h3] at h4
    cases h4
    exact pB (rV I R n) r1 r2 e
noncomputable def pP (f:A->A->Option Bool) (xs ys:List A) (j:Nat):Bool:=match xs[j]?,ys[j]? with
 | some x,some y=>(f x y).getD true
 | _,_=>true
theorem jH {f:A->A->Option Bool}:∀ {xs ys:List A} {k:Bool},i_ f xs ys=some k->k=((List.range (min xs.length ys.length)).all (pP f xs ys) && xs.length == ys.length)/\∀ j x y,xs[j]?=some x->ys[j]?=some y->f x y=some (pP f xs ys j)
 | [],[],k,e=>⟨(Option.some.inj e).symm,fun j x y h=>by simp at h⟩
 | [],_::_,k,e=>⟨(Option.some.inj e).symm,fun j x y h=>by simp at h⟩
 | _::_,[],k,e=>⟨(Option.some.inj e).symm,fun j x y _ h=>by simp at h⟩
 | x::xs,y::ys,k,e=>by
  unfold i_ at e
  cases e1:f x y with
  | none=>rw [e1] at e;cases e
  | some p=>
   rw [e1] at e
   obtain ⟨q,e2,e3⟩:=Option.map_eq_some_iff.mp e
   obtain ⟨h1,h2⟩:=jH e2
   have p0:pP f (x::xs) (y::ys) 0=p:=by simp [pP,e1]
   have ps:∀ j,pP f (x::xs) (y::ys) (j+1)=pP f xs ys j:=fun j=>by simp [pP]
   refine ⟨?_,fun j a b ha hb=>?_⟩
   ·rw [<- e3,h1,List.length_cons,List.length_cons,Nat.succ_min_succ,List.range_succ_eq_map,List.all_cons,List.all_map,p0]
    have:(pP f (x::xs) (y::ys) ∘ Nat.succ)=pP f xs ys:=funext ps
    rw [this,Bool.and_assoc]
    simp
   ·cases j with
    | zero=>
     simp at ha hb
     subst ha hb
     rw [p0];exact e1
    | succ j=>rw [ps];exact h2 j a b (by simpa using ha) (by simpa using hb)
theorem nu {f:A->A->Option Bool} {B:Around} (hf:∀ a b x y u v k,AV X.K ρ H a x->AV X.K ρ H b y->RelV x u->RelV y v->f a b=some k->SeqAt.EqAt B s u v k) {xs ys:List A} {vs ws:List V} {us ts:List Value} {k:Bool}
  (r1:AVs X.K ρ H xs vs) (r2:AVs X.K ρ H ys ws) (q1:Vals vs us) (q2:Vals ws ts) (e:i_ f xs ys=some k):∀ j (h1:j < us.toArray.size) (h2:j < ts.toArray.size),SeqAt.EqAt B s us.toArray[j] ts.toArray[j] (pP f xs ys j):=by
 intro j h1 h2
 have l1:=r1.length
 have l2:=r2.length
 have l3:=q1.length
 have l4:=q2.length
 have hx:j < xs.length:=by simp at h1;omega
 have hy:j < ys.length:=by simp at h2;omega
 have e1:xs[j]?=some xs[j]:=List.getElem?_eq_getElem hx
 have e2:ys[j]?=some ys[j]:=List.getElem?_eq_getElem hy
 obtain ⟨x,ex,ax⟩:=r1.get e1
 obtain ⟨y,ey,ay⟩:=r2.get e2
 obtain ⟨u,eu,ru⟩:=q1.get ex
 obtain ⟨t,et,rt⟩:=q2.get ey
 have a1:us.toArray[j]=u:=by
  have:us[j]?=some us.toArray[j]:=by simp at h1;simp [h1]
  rw [eu] at this;exact (Option.some.inj this).symm
 have a2:ts.toArray[j]=t:=by
  have:ts[j]?=some ts.toArray[j]:=by simp at h2;simp [h2]
  rw [et] at this;exact (Option.some.inj this).symm
 rw [a1,a2]
 exact hf _ _ x y u t _ ax ay ru rt ((jH e).2 j _ _ e1 e2)
theorem in1_units (B:Around):B.in1.units=B.units+1:=rfl
theorem ya (I:Inv X pins σ H s) (R:Rel X.K ρ H S):∀ (n:Nat) (B:Around) (a b:A) (x y:V) (u v:Value) (k:Bool),B.units+n < cLine->AV X.K ρ H a x->AV X.K ρ H b y->RelV x u->RelV y v->oO S n a b=some k->SeqAt.RcAt B s u v k/\SeqAt.EqAt B s u v k
 | 0,_,_,_,_,_,_,_,_,_,_,_,_,_,e=>nomatch e
 | n+1,B,a,b,x,y,u,v,k,hu,ha,hb,rx,ry,e=>by
  have hu0:B.units < cLine:=by omega
  have items:∀ a b x y u v k,AV X.K ρ H a x->AV X.K ρ H b y->RelV x u->RelV y v->oO S n a b=some k->SeqAt.EqAt B.in1 s u v k:=fun a b x y u v k h1 h2 h3 h4 h5=>(ya I R n B.in1 a b x y u v k (by rw [in1_units];omega) h1 h2 h3 h4 h5).2
  have refs:∀ {p q:Addr} {k:Bool},AV X.K ρ H a (.ref p)->AV X.K ρ H b (.ref q)->oO S (n+1) a b=some k->SeqAt.RcAt B s (.ref p) (.ref q) k->SeqAt.RcAt B s (.ref p) (.ref q) k/\SeqAt.EqAt B s (.ref p) (.ref q) k:=by
   intro p q k h1 h2 e h
   refine ⟨h,?_⟩
   by_cases hp:p=q
   ·subst hp
    have:=rV I R (n+1) a b _ k h1 h2 e
    subst this
    exact .same _
   ·exact .of_refs hp h
  have tl:∀ {p:Addr} {xs:List A} {vs:List V},dF X.K H p vs->AVs X.K ρ H xs vs->∃ us:List Value,Vals vs us/\s.heap.IsTuple p us.toArray:=fun h1 r1=>by
   obtain ⟨us,q,p,_⟩:=I.tuple h1
   exact ⟨us,q,p⟩
  have ll:∀ {p:Addr} {i:Nat} {xs:List A},ρ[i]?=some p->ak S i=some xs->∃ (vs:List V) (us:List Value),AVs X.K ρ H xs vs/\Vals vs us/\s.heap.IsList p us.toArray:=fun h1 e1=>by
   obtain ⟨vs,h3,r1⟩:=R.lst h1 (aP e1)
   obtain ⟨us,q,p,_⟩:=I.list (fY.of h3)
   exact ⟨vs,us,r1,q,p.isList⟩
  cases ha with
  | non=>
   obtain rfl:u=Value.none:=rx
   cases hb with
   | non=>obtain rfl:v=Value.none:=ry;cases Option.some.inj e;exact ⟨.none_none,.same _⟩
   | bl j=>obtain rfl:v=Value.bool j:=ry;cases Option.some.inj e;exact ⟨.none_bool _,.none_bool _⟩
   | int j=>obtain ⟨t,rfl⟩:∃ t,v=Value.int j t:=ry;cases Option.some.inj e;exact ⟨.none_int _ _,.none_int _ _⟩
   | str j=>obtain ⟨t,rfl⟩:∃ t,v=Value.str j t:=ry;cases Option.some.inj e;exact ⟨.none_str _ _,.none_str _ _⟩
   | tup h2 r2=>obtain ⟨us,_,p⟩:=tl (dF.of h2) r2;cases (show v=Value.ref _ from ry);cases Option.some.inj e;exact ⟨.none_tuple p hu0,.none_tuple p hu0⟩
   | ref h2=>obtain ⟨xs,e1,e2⟩:=Option.map_eq_some_iff.mp e;obtain ⟨_,us,_,_,p⟩:=ll h2 e1;cases (show v=Value.ref _ from ry);cases e2;exact ⟨.none_list p hu0,.none_list p hu0⟩
   | _=>cases e
  | bl i=>
   obtain rfl:u=Value.bool i:=rx
   cases hb with
   | non=>obtain rfl:v=Value.none:=ry;cases Option.some.inj e;exact ⟨.bool_none _,.bool_none _⟩
   | bl j=>obtain rfl:v=Value.bool j:=ry;cases Option.some.inj e;exact ⟨.bool_bool _ _,.bool_bool _ _⟩
   | int j=>obtain ⟨t,rfl⟩:∃ t,v=Value.int j t:=ry;cases Option.some.inj e;exact ⟨.bool_int _ _ _,.bool_int _ _ _⟩
   | str j=>obtain ⟨t,rfl⟩:∃ t,v=Value.str j t:=ry;cases Option.some.inj e;exact ⟨.bool_str _ _ _,.bool_str _ _ _⟩
   | tup h2 r2=>obtain ⟨us,_,p⟩:=tl (dF.of h2) r2;cases (show v=Value.ref _ from ry);cases Option.some.inj e;exact ⟨.bool_tuple _ p hu0,.bool_tuple _ p hu0⟩
   | ref h2=>obtain ⟨xs,e1,e2⟩:=Option.map_eq_some_iff.mp e;obtain ⟨_,us,_,_,p⟩:=ll h2 e1;cases (show v=Value.ref _ from ry);cases e2;exact ⟨.bool_list _ p hu0,.bool_list _ p hu0⟩
   | _=>cases e
  | int i=>
   obtain ⟨t0,rfl⟩:∃ t,u=Value.int i t:=rx
   cases hb with
   | non=>obtain rfl:v=Value.none:=ry;cases Option.some.inj e;exact ⟨.int_none _ _,.int_none _ _⟩
   | bl j=>obtain rfl:v=Value.bool j:=ry;cases Option.some.inj e;exact ⟨.int_bool _ _ _,.int_bool _ _ _⟩
   | int j=>obtain ⟨t,rfl⟩:∃ t,v=Value.int j t:=ry;cases Option.some.inj e;exact ⟨.int_int _ _ _ _,.int_int _ _ _ _⟩
   | str j=>obtain ⟨t,rfl⟩:∃ t,v=Value.str j t:=ry;cases Option.some.inj e;exact ⟨.int_str _ _ _ _,.int_str _ _ _ _⟩
   | tup h2 r2=>obtain ⟨us,_,p⟩:=tl (dF.of h2) r2;cases (show v=Value.ref _ from ry);cases Option.some.inj e;exact ⟨.int_tuple _ _ p hu0,.int_tuple _ _ p hu0⟩
   | ref h2=>obtain ⟨xs,e1,e2⟩:=Option.map_eq_some_iff.mp e;obtain ⟨_,us,_,_,p⟩:=ll h2 e1;cases (show v=Value.ref _ from ry);cases e2;exact ⟨.int_list _ _ p hu0,.int_list _ _ p hu0⟩
   | _=>cases e
  | str i=>
   obtain ⟨t0,rfl⟩:∃ t,u=Value.str i t:=rx
   cases hb with
   | non=>obtain rfl:v=Value.none:=ry;cases Option.some.inj e;exact ⟨.str_none _ _,.str_none _ _⟩
   | bl j=>obtain rfl:v=Value.bool j:=ry;cases Option.some.inj e;exact ⟨.str_bool _ _ _,.str_bool _ _ _⟩
   | int j=>obtain ⟨t,rfl⟩:∃ t,v=Value.int j t:=ry;cases Option.some.inj e;exact ⟨.str_int _ _ _ _,.str_int _ _ _ _⟩
   | str j=>obtain ⟨t,rfl⟩:∃ t,v=Value.str j t:=ry;cases Option.some.inj e;exact ⟨.str_str _ _ _ _,.str_str _ _ _ _⟩
   | tup h2 r2=>obtain ⟨us,_,p⟩:=tl (dF.of h2) r2;cases (show v=Value.ref _ from ry);cases Option.some.inj e;exact ⟨.str_tuple _ _ p hu0,.str_tuple _ _ p hu0⟩
   | ref h2=>obtain ⟨xs,e1,e2⟩:=Option.map_eq_some_iff.mp e;obtain ⟨_,us,_,_,p⟩:=ll h2 e1;cases (show v=Value.ref _ from ry);cases e2;exact ⟨.str_list _ _ p hu0,.str_list _ _ p hu0⟩
   | _=>cases e
  | @tup p xs vs h1 r1=>
   obtain rfl:u=Value.ref p:=rx
   obtain ⟨us,q1,p1⟩:=tl (dF.of h1) r1
   cases hb with
   | non=>obtain rfl:v=Value.none:=ry;cases Option.some.inj e;exact ⟨.tuple_none p1 hu0,.tuple_none p1 hu0⟩
   | bl j=>obtain rfl:v=Value.bool j:=ry;cases Option.some.inj e;exact ⟨.tuple_bool _ p1 hu0,.tuple_bool _ p1 hu0⟩
   | int j=>obtain ⟨t,rfl⟩:∃ t,v=Value.int j t:=ry;cases Option.some.inj e;exact ⟨.tuple_int _ _ p1 hu0,.tuple_int _ _ p1 hu0⟩
   | str j=>obtain ⟨t,rfl⟩:∃ t,v=Value.str j t:=ry;cases Option.some.inj e;exact ⟨.tuple_str _ _ p1 hu0,.tuple_str _ _ p1 hu0⟩
   | @tup q ys ws h2 r2=>
    obtain rfl:v=Value.ref q:=ry
    obtain ⟨ts,q2,p2⟩:=tl (dF.of h2) r2
    have e':i_ (oO S n) xs ys=some k:=e
    refine refs (.tup h1 r1) (.tup h2 r2) e ?_
    rw [(jH e').1]
    have:=SeqAt.RcAt.tuples p1 p2 hu0 (nu items r1 r2 q1 q2 e')
    rw [List.size_toArray,List.size_toArray,<- q1.length,<- q2.length,<- r1.length,<- r2.length] at this
    exact this
   | @ref q j h2=>
    obtain rfl:v=Value.ref q:=ry
    obtain ⟨ys,e1,e2⟩:=Option.map_eq_some_iff.mp e
    obtain ⟨_,ts,_,_,p2⟩:=ll h2 e1
    refine refs (.tup h1 r1) (.ref h2) e ?_
    rw [<- e2]
    exact .tuple_list p1 p2 hu0
   | _=>cases e
  | @ref p i h1=>
   obtain rfl:u=Value.ref p:=rx
   cases hb with
   | non=>obtain ⟨xs,e1,e2⟩:=Option.map_eq_some_iff.mp e;obtain ⟨_,us,_,_,p1⟩:=ll h1 e1;obtain rfl:v=Value.none:=ry;cases e2;exact ⟨.list_none p1 hu0,.list_none p1 hu0⟩
   | bl j=>obtain ⟨xs,e1,e2⟩:=Option.map_eq_some_iff.mp e;obtain ⟨_,us,_,_,p1⟩:=ll h1 e1;obtain rfl:v=Value.bool j:=ry;cases e2;exact ⟨.list_bool _ p1 hu0,.list_bool _ p1 hu0⟩
   | int j=>obtain ⟨xs,e1,e2⟩:=Option.map_eq_some_iff.mp e;obtain ⟨_,us,_,_,p1⟩:=ll h1 e1;obtain ⟨t,rfl⟩:∃ t,v=Value.int j t:=ry;cases e2;exact ⟨.list_int _ _ p1 hu0,.list_int _ _ p1 hu0⟩
   | str j=>obtain ⟨xs,e1,e2⟩:=Option.map_eq_some_iff.mp e;obtain ⟨_,us,_,_,p1⟩:=ll h1 e1;obtain ⟨t,rfl⟩:∃ t,v=Value.str j t:=ry;cases e2;exact ⟨.list_str _ _ p1 hu0,.list_str _ _ p1 hu0⟩
   | @tup q ys ws h2 r2=>
    obtain rfl:v=Value.ref q:=ry
    obtain ⟨ts,q2,p2⟩:=tl (dF.of h2) r2
    obtain ⟨xs,e1,e2⟩:=Option.map_eq_some_iff.mp e
    obtain ⟨_,us,_,_,p1⟩:=ll h1 e1
    refine refs (.ref h1) (.tup h2 r2) e ?_
    rw [<- e2]
    exact .list_tuple p1 p2 hu0
   | @ref q j h2=>
    obtain rfl:v=Value.ref q:=ry
    have e0:=e
    obtain ⟨xs,e1,e⟩:=Option.bind_eq_some_iff.mp e
    obtain ⟨ys,e2,e'⟩:=Option.bind_eq_some_iff.mp e
    obtain ⟨vs,us,r1,q1,p1⟩:=ll h1 e1
    obtain ⟨ws,ts,r2,q2,p2⟩:=ll h2 e2
    refine refs (.ref h1) (.ref h2) e0 ?_
    have l1:=r1.length
    have l2:=r2.length
    have l3:=q1.length
    have l4:=q2.length
    rw [(jH e').1]
    by_cases hl:xs.length=ys.length
    ·have:=SeqAt.RcAt.lists p1 p2 (by simp;omega) hu0 (nu items r1 r2 q1 q2 e')
     rw [List.size_toArray,<- l3,<- l1] at this
     rw [<- hl,Nat.min_self,beq_self_eq_true,Bool.and_true]
     exact this
    ·have:(xs.length == ys.length)=false:=by simpa using hl
     rw [this,Bool.and_false]
     exact .lists_lengths p1 p2 (by simp;omega) hu0
   | _=>cases e
  | _=>cases hb <;> cases e
theorem JU (I:Inv X pins σ H s) (R:Rel X.K ρ H S):∀ (n:Nat) (B:Around) (a b:A) (x y:V) (u v:Value) (k:Bool),B.units+n < cLine->AV X.K ρ H a x->AV X.K ρ H b y->RelV x u->RelV y v->oO S n a b=some k->SeqAt.RcNeAt B s u v (!k)
 | 0,_,_,_,_,_,_,_,_,_,_,_,_,_,e=>nomatch e
 | n+1,B,a,b,x,y,u,v,k,hu,ha,hb,rx,ry,e=>by
  have hu0:B.units < cLine:=by omega
  have items:∀ a b x y u v k,AV X.K ρ H a x->AV X.K ρ H b y->RelV x u->RelV y v->oO S n a b=some k->SeqAt.EqAt B.in1 s u v k:=fun a b x y u v k h1 h2 h3 h4 h5=>(ya I R n B.in1 a b x y u v k (by rw [in1_units];omega) h1 h2 h3 h4 h5).2
  have tl:∀ {p:Addr} {xs:List A} {vs:List V},dF X.K H p vs->AVs X.K ρ H xs vs->∃ us:List Value,Vals vs us/\s.heap.IsTuple p us.toArray:=fun h1 r1=>by
   obtain ⟨us,q,p,_⟩:=I.tuple h1
   exact ⟨us,q,p⟩
  have ll:∀ {p:Addr} {i:Nat} {xs:List A},ρ[i]?=some p->ak S i=some xs->∃ (vs:List V) (us:List Value),AVs X.K ρ H xs vs/\Vals vs us/\s.heap.IsList p us.toArray:=fun h1 e1=>by
   obtain ⟨vs,h3,r1⟩:=R.lst h1 (aP e1)
   obtain ⟨us,q,p,_⟩:=I.list (fY.of h3)
   exact ⟨vs,us,r1,q,p.isList⟩
  cases ha with
  | non=>
   obtain rfl:u=Value.none:=rx
   cases hb with
   | non=>obtain rfl:v=Value.none:=ry;cases Option.some.inj e;exact SeqAt.RcNeAt.none_none
   | bl j=>obtain rfl:v=Value.bool j:=ry;cases Option.some.inj e;exact SeqAt.RcNeAt.none_bool _
   | int j=>obtain ⟨t,rfl⟩:∃ t,v=Value.int j t:=ry;cases Option.some.inj e;exact SeqAt.RcNeAt.none_int _ _
   | str j=>obtain ⟨t,rfl⟩:∃ t,v=Value.str j t:=ry;cases Option.some.inj e;exact SeqAt.RcNeAt.none_str _ _
   | tup h2 r2=>obtain ⟨us,_,p⟩:=tl (dF.of h2) r2;cases (show v=Value.ref _ from ry);cases Option.some.inj e;exact SeqAt.RcNeAt.none_tuple p hu0
   | ref h2=>obtain ⟨xs,e1,e2⟩:=Option.map_eq_some_iff.mp e;obtain ⟨_,us,_,_,p⟩:=ll h2 e1;cases (show v=Value.ref _ from ry);cases e2;exact SeqAt.RcNeAt.none_list p hu0
   | _=>cases e
  | bl i=>
   obtain rfl:u=Value.bool i:=rx
   cases hb with
   | non=>obtain rfl:v=Value.none:=ry;cases Option.some.inj e;exact SeqAt.RcNeAt.bool_none _
   | bl j=>obtain rfl:v=Value.bool j:=ry;cases Option.some.inj e;exact SeqAt.RcNeAt.bool_bool _ _
   | int j=>obtain ⟨t,rfl⟩:∃ t,v=Value.int j t:=ry;cases Option.some.inj e;exact SeqAt.RcNeAt.bool_int _ _ _
   | str j=>obtain ⟨t,rfl⟩:∃ t,v=Value.str j t:=ry;cases Option.some.inj e;exact SeqAt.RcNeAt.bool_str _ _ _
   | tup h2 r2=>obtain ⟨us,_,p⟩:=tl (dF.of h2) r2;cases (show v=Value.ref _ from ry);cases Option.some.inj e;exact SeqAt.RcNeAt.bool_tuple _ p hu0
   | ref h2=>obtain ⟨xs,e1,e2⟩:=Option.map_eq_some_iff.mp e;obtain ⟨_,us,_,_,p⟩:=ll h2 e1;cases (show v=Value.ref _ from ry);cases e2;exact SeqAt.RcNeAt.bool_list _ p hu0
   | _=>cases e
  | int i=>
   obtain ⟨t0,rfl⟩:∃ t,u=Value.int i t:=rx
   cases hb with
   | non=>obtain rfl:v=Value.none:=ry;cases Option.some.inj e;exact SeqAt.RcNeAt.int_none _ _
   | bl j=>obtain rfl:v=Value.bool j:=ry;cases Option.some.inj e;exact SeqAt.RcNeAt.int_bool _ _ _
   | int j=>obtain ⟨t,rfl⟩:∃ t,v=Value.int j t:=ry;cases Option.some.inj e;exact SeqAt.RcNeAt.int_int _ _ _ _
   | str j=>obtain ⟨t,rfl⟩:∃ t,v=Value.str j t:=ry;cases Option.some.inj e;exact SeqAt.RcNeAt.int_str _ _ _ _
   | tup h2 r2=>obtain ⟨us,_,p⟩:=tl (dF.of h2) r2;cases (show v=Value.ref _ from ry);cases Option.some.inj e;exact SeqAt.RcNeAt.int_tuple _ _ p hu0
   | ref h2=>obtain ⟨xs,e1,e2⟩:=Option.map_eq_some_iff.mp e;obtain ⟨_,us,_,_,p⟩:=ll h2 e1;cases (show v=Value.ref _ from ry);cases e2;exact SeqAt.RcNeAt.int_list _ _ p hu0
   | _=>cases e
  | str i=>
   obtain ⟨t0,rfl⟩:∃ t,u=Value.str i t:=rx
   cases hb with
   | non=>obtain rfl:v=Value.none:=ry;cases Option.some.inj e;exact SeqAt.RcNeAt.str_none _ _
   | bl j=>obtain rfl:v=Value.bool j:=ry;cases Option.some.inj e;exact SeqAt.RcNeAt.str_bool _ _ _
   | int j=>obtain ⟨t,rfl⟩:∃ t,v=Value.int j t:=ry;cases Option.some.inj e;exact SeqAt.RcNeAt.str_int _ _ _ _
   | str j=>obtain ⟨t,rfl⟩:∃ t,v=Value.str j t:=ry;cases Option.some.inj e;exact SeqAt.RcNeAt.str_str _ _ _ _
   | tup h2 r2=>obtain ⟨us,_,p⟩:=tl (dF.of h2) r2;cases (show v=Value.ref _ from ry);cases Option.some.inj e;exact SeqAt.RcNeAt.str_tuple _ _ p hu0
   | ref h2=>obtain ⟨xs,e1,e2⟩:=Option.map_eq_some_iff.mp e;obtain ⟨_,us,_,_,p⟩:=ll h2 e1;cases (show v=Value.ref _ from ry);cases e2;exact SeqAt.RcNeAt.str_list _ _ p hu0
   | _=>cases e
  | @tup p xs vs h1 r1=>
   obtain rfl:u=Value.ref p:=rx
   obtain ⟨us,q1,p1⟩:=tl (dF.of h1) r1
   cases hb with
   | non=>obtain rfl:v=Value.none:=ry;cases Option.some.inj e;exact SeqAt.RcNeAt.tuple_none p1 hu0
   | bl j=>obtain rfl:v=Value.bool j:=ry;cases Option.some.inj e;exact SeqAt.RcNeAt.tuple_bool _ p1 hu0
   | int j=>obtain ⟨t,rfl⟩:∃ t,v=Value.int j t:=ry;cases Option.some.inj e;exact SeqAt.RcNeAt.tuple_int _ _ p1 hu0
   | str j=>obtain ⟨t,rfl⟩:∃ t,v=Value.str j t:=ry;cases Option.some.inj e;exact SeqAt.RcNeAt.tuple_str _ _ p1 hu0
   | @tup q ys ws h2 r2=>
    obtain rfl:v=Value.ref q:=ry
    obtain ⟨ts,q2,p2⟩:=tl (dF.of h2) r2
    have e':i_ (oO S n) xs ys=some k:=e
    rw [(jH e').1]
    have:=SeqAt.RcNeAt.tuples p1 p2 hu0 (nu items r1 r2 q1 q2 e')
    rw [List.size_toArray,List.size_toArray,<- q1.length,<- q2.length,<- r1.length,<- r2.length] at this
    exact this
   | @ref q j h2=>
    obtain rfl:v=Value.ref q:=ry
    obtain ⟨ys,e1,e2⟩:=Option.map_eq_some_iff.mp e
    obtain ⟨_,ts,_,_,p2⟩:=ll h2 e1
    rw [<- e2]
    exact SeqAt.RcNeAt.tuple_list p1 p2 hu0
   | _=>cases e
  | @ref p i h1=>
   obtain rfl:u=Value.ref p:=rx
   cases hb with
   | non=>obtain ⟨xs,e1,e2⟩:=Option.map_eq_some_iff.mp e;obtain ⟨_,us,_,_,p1⟩:=ll h1 e1;obtain rfl:v=Value.none:=ry;cases e2;exact SeqAt.RcNeAt.list_none p1 hu0
   | bl j=>obtain ⟨xs,e1,e2⟩:=Option.map_eq_some_iff.mp e;obtain ⟨_,us,_,_,p1⟩:=ll h1 e1;obtain rfl:v=Value.bool j:=ry;cases e2;exact SeqAt.RcNeAt.list_bool _ p1 hu0
   | int j=>obtain ⟨xs,e1,e2⟩:=Option.map_eq_some_iff.mp e;obtain ⟨_,us,_,_,p1⟩:=ll h1 e1;obtain ⟨t,rfl⟩:∃ t,v=Value.int j t:=ry;cases e2;exact SeqAt.RcNeAt.list_int _ _ p1 hu0
   | str j=>obtain ⟨xs,e1,e2⟩:=Option.map_eq_some_iff.mp e;obtain ⟨_,us,_,_,p1⟩:=ll h1 e1;obtain ⟨t,rfl⟩:∃ t,v=Value.str j t:=ry;cases e2;exact SeqAt.RcNeAt.list_str _ _ p1 hu0
   | @tup q ys ws h2 r2=>
    obtain rfl:v=Value.ref q:=ry
    obtain ⟨ts,q2,p2⟩:=tl (dF.of h2) r2
    obtain ⟨xs,e1,e2⟩:=Option.map_eq_some_iff.mp e
    obtain ⟨_,us,_,_,p1⟩:=ll h1 e1
    rw [<- e2]
    exact SeqAt.RcNeAt.list_tuple p1 p2 hu0
   | @ref q j h2=>
    obtain rfl:v=Value.ref q:=ry
    have e0:=e
    obtain ⟨xs,e1,e⟩:=Option.bind_eq_some_iff.mp e
    obtain ⟨ys,e2,e'⟩:=Option.bind_eq_some_iff.mp e
    obtain ⟨vs,us,r1,q1,p1⟩:=ll h1 e1
    obtain ⟨ws,ts,r2,q2,p2⟩:=ll h2 e2
    have l1:=r1.length
    have l2:=r2.length
    have l3:=q1.length
    have l4:=q2.length
    rw [(jH e').1]
    by_cases hl:xs.length=ys.length
    ·have:=SeqAt.RcNeAt.lists p1 p2 (by simp;omega) hu0 (nu items r1 r2 q1 q2 e')
     rw [List.size_toArray,<- l3,<- l1] at this
     rw [<- hl,Nat.min_self,beq_self_eq_true,Bool.and_true]
     exact this
    ·have:(xs.length == ys.length)=false:=by simpa using hl
     rw [this,Bool.and_false]
     exact SeqAt.RcNeAt.lists_lengths p1 p2 (by simp;omega) hu0
   | _=>cases e
  | _=>cases hb <;> cases e
end
section
variable {X:Cx}
noncomputable def qE (neg:Bool) (a b:A) (S:aE):R A:=opt (oO S 12 a b) fun k=>.ok (.bl (if neg then !k else k)) S
theorem vq (hu:X.A.units+64 < cLine):eU X (compareOp .Eq) (r2 X (qE false)):=fun pins s σ H x y v u Q I rx ry ⟨ρ,S,a,b,R,va,vb,h⟩=>by
 obtain ⟨k,e,h⟩:=aK h
 exact (ya I R 12 X.A a b x y v u k (by omega) va vb rx ry e).1 _ _ _ _ ⟨.bl _,H,I,rfl,h _ _ _ .refl R (.bl _)⟩
theorem L6 (hu:X.A.units+64 < cLine):eU X (compareOp .NotEq) (r2 X (qE true)):=fun pins s σ H x y v u Q I rx ry ⟨ρ,S,a,b,R,va,vb,h⟩=>by
 obtain ⟨k,e,h⟩:=aK h
 exact JU I R 12 X.A a b x y v u k (by omega) va vb rx ry e _ _ _ _ ⟨.bl _,H,I,rfl,h _ _ _ .refl R (.bl _)⟩
end
section
variable {X:Cx} {pos:Pos} {a b:Expr}
noncomputable abbrev Pt:=List A->aE->R (Option Int)
noncomputable def wK:Pt:=fun _ S=>.ok none S
noncomputable def mW (c:Ex):Pt:=fun τ S=>(c τ S).bind fun a S1=>match a with
 | .int i=>.ok (some i) S1
 | _=>.no
noncomputable def tO (X:Cx) (c:Pt):TO:=fun σ H Q=>∃ ρ S τ,Rel X.K ρ H S/\SR X.K ρ H τ σ/\(c τ S).post (fun o S'=>∀ ρ' H',Ext ρ ρ' H H'->Rel X.K ρ' H' S'->Q o H') (XE X ρ H)
noncomputable def AO (X:Cx) (e:Option Expr) (c:Pt):Prop:=PO X e (tO X c)
theorem xR:AO X none wK:=fun pins s σ H Q I ⟨ρ,S,τ,R,r,h⟩=>EM pins s σ H Q I (h ρ H .refl R)
theorem nN {c:Ex} (ha:AE X a c):AO X (some a) (mW c):=fun pins s σ H Q I ⟨ρ,S,τ,R,r,h⟩=>E5 ha pins s σ H Q I ⟨ρ,S,τ,R,r,aF (aL h) .refl fun x S1 h1 ρ1 H1 v e1 R1 v1=>by
 cases v1 <;> first | exact h1.elim | exact ⟨_,rfl,h1 ρ1 H1 e1 R1⟩⟩
noncomputable def kc (xs:List A) (lo hi:Option Int):List A:=(xs.drop (HT.dU xs.length 0 lo)).take (HT.dU xs.length xs.length hi - HT.dU xs.length 0 lo)
theorem AVs.cut {K:PySem.W.Frag} {ρ:List Addr} {H:Hp} {xs:List A} {vs:List V} (r:AVs K ρ H xs vs) (lo hi:Option Int):AVs K ρ H (kc xs lo hi) (tY vs lo hi):=by
 unfold kc tY
 rw [r.length]
 exact (r.drop _).take _
noncomputable def Ky (a:A) (lo hi:Option Int) (S:aE):R A:=match a with
 | .ref n=>opt (ak S n) fun xs=>.ok (.ref S.length) (S++[.lst (kc xs lo hi)])
 | .frz xs=>.ok (.ref S.length) (S++[.lst (kc xs lo hi)])
 | .tup xs=>gd (¬ (HT.dU xs.length 0 lo=0/\HT.dU xs.length xs.length hi=xs.length)) (.ok (.tup (kc xs lo hi)) S)
 | _=>.no
noncomputable def Kz (c:Ex) (lo hi:Pt):Ex:=fun τ S=>(c τ S).bind fun a S1=>(lo τ S1).bind fun l S2=>(hi τ S2).bind fun u S3=>Ky a l u S3
noncomputable def rS (X:Cx):V->Option Int->Option Int->Hp->VK->Prop:=fun x lo hi H Q=>∃ ρ S a,Rel X.K ρ H S/\AV X.K ρ H a x/\(Ky a lo hi S).post (nE X ρ H Q) (XE X ρ H)
theorem JH:Ml X (rS X):=fun pins s σ H x v vl vu lo hi sl Q I rx hs pl pu ⟨ρ,S,a,R,va,h⟩=>by
 cases va with
 | @tup p xs vs h1 r1=>
  obtain ⟨hc,h⟩:=bg h
  exact Jd pins s σ H _ v vl vu lo hi sl Q I rx hs pl pu ⟨p,vs,rfl,(dF.of h1),by rw [<- r1.length];exact hc,iK R (r1.cut lo hi) .refl h⟩
 | @frz p xs vs h1 r1=>exact zg pins s σ H _ v vl vu lo hi sl Q I rx hs pl pu ⟨p,vs,rfl,h1.Ei,dJ R (r1.cut lo hi) .refl h⟩
 | @ref p n hp=>
  obtain ⟨xs,hn,h⟩:=aK h
  obtain ⟨vs,h1,r1⟩:=R.lst hp (aP hn)
  exact zg pins s σ H _ v vl vu lo hi sl Q I rx hs pl pu ⟨p,vs,rfl,fY.of h1,dJ R (r1.cut lo hi) .refl h⟩
 | _=>exact h.elim
theorem B7 {e:Expr} {lo hi:Option Expr} {p2:Pos} {c:Ex} {cl ch:Pt} (he:AE X e c) (hl:AO X lo cl) (hh:AO X hi ch):AE X (.Subscript e (.Slice lo hi none p2) pos) (Kz c cl ch):=PE.imp (CJ JH he hl hh) fun σ H Q ⟨ρ,S,τ,R,r,h⟩=>by
 refine ⟨ρ,S,τ,R,r,aF (aL h) .refl fun a S1 h1 ρ1 H1 x e1 R1 v1=>⟨ρ1,S1,τ,R1,r.ext e1,aF (aL h1) e1 fun l S2 h2 ρ2 H2 e2 R2=>⟨ρ2,S2,τ,R2,r.ext (e1.trans e2),aF (aL h2) (e1.trans e2) fun u S3 h3 ρ3 H3 e3 R3=>?_⟩⟩⟩
 exact ⟨ρ3,S3,a,R3,v1.ext (e2.trans e3),aF h3 (e1.trans (e2.trans e3)) fun _ _ z=>z.ext (e1.trans (e2.trans e3))⟩
noncomputable def CA (a:A) (S:aE):R A:=match a with
 | .ref n=>opt (ak S n) fun xs=>.ok (.ref S.length) (S++[.lst xs.reverse])
 | .tup xs=>.ok (.tup xs.reverse) S
 | _=>.no
theorem JL {e:Expr} {p2 up cp:Pos} {kk:Nat} {c:Ex} (he:AE X e c):AE X (.Subscript e (.Slice none none (some (.UnaryOp .USub (.Constant (.int 1) kk cp) up)) p2) pos) (MJ CA c):=fun pins s σ H Q I ⟨ρ,S,τ,R,r,h⟩=>by
 have hb:=aL h
 cases hc:c τ S with
 | no=>rw [hc] at hb;exact hb.elim
 | ex x S1=>
  rw [hc] at hb
  exact xC he pins s σ H Q I ⟨ρ,S,τ,R,r,by rw [hc];exact hb⟩
 | ok a S1=>
  rw [hc] at hb
  have hb:(CA a S1).post (nE X ρ H Q) (XE X ρ H):=hb
  cases a with
  | tup xs=>
   refine xC he pins s σ H Q I ⟨ρ,S,τ,R,r,?_⟩
   rw [hc]
   intro ρ1 H1 x e1 R1 v1
   cases v1 with
   | tup h1 r1=>exact ⟨_,_,rfl,(dF.of h1),iK R1 r1.reverse e1 hb⟩
  | ref n=>
   refine EB he pins s σ H Q I ⟨ρ,S,τ,R,r,?_⟩
   rw [hc]
   intro ρ1 H1 x e1 R1 v1
   obtain ⟨xs,hn,h⟩:=aK hb
   cases v1 with
   | ref hp=>
    obtain ⟨vs,h1,r1⟩:=R1.lst hp (aP hn)
    exact ⟨_,_,rfl,fY.of h1,dJ R1 r1.reverse e1 h⟩
  | _=>exact hb.elim
noncomputable def aV (f:List A->aE->R A) (d:iL):Ex:=fun τ S=>(d τ S).bind fun as S1=>f as S1
theorem tW {f:List A->aE->R A} {d:iL} {σ:L2.St} {H:Hp} {Q:VK} (h:tE X (aV f d) σ H Q):MD (rN X f) (tL X d) σ H Q:=by
 obtain ⟨ρ,S,τ,R,r,h⟩:=h
 exact ⟨ρ,S,τ,R,r,aF (aL h) .refl fun as S1 h1 ρ1 H1 vs e1 R1 v1=>⟨ρ1,S1,as,R1,v1,aF h1 e1 fun _ _ z=>z.ext e1⟩⟩
variable {x:Str} {p:Pos} {e:Expr} {es:List Expr} {id T:String} {f:List A->aE->R A} {d:iL}
theorem aT (hc:bw X (.builtin id) (rN X f)) (hm:X.mg x=none) (hv:bootBuiltins x=some (.builtin id)) (ha:AL X (e::es) d) (hg:Gl X x:=by rfl) (hn:x ≠ "__name__" := by decide) (hdb:(x == ("__debug__" : Str))=false:=by decide)
  (he:starEach (e::es) X.env=(false,eval e X.env)::starEach es X.env:=by rfl) (hpl:(backTo pos (starEach es X.env)).any (·.1)=false:=by rfl):AE X (.Call (.Name x p) (e::es) [] pos) (aV f d):=
 PE.imp (BD hc hg hm hv ha hn hdb he hpl) fun _ _ _ h=>tW h
theorem cD (hc:bw X (.type T) (rN X f)) (hm:X.mg x=none) (hv:bootBuiltins x=some (.type T)) (ha:AL X (e::es) d) (hg:Gl X x:=by rfl) (hn:x ≠ "__name__" := by decide) (hdb:(x == ("__debug__" : Str))=false:=by decide)
  (he:starEach (e::es) X.env=(false,eval e X.env)::starEach es X.env:=by rfl) (hpl:(backTo pos (starEach es X.env)).any (·.1)=false:=by rfl):AE X (.Call (.Name x p) (e::es) [] pos) (aV f d):=
 PE.imp (zu hc hg hm hv ha hn hdb he hpl) fun _ _ _ h=>tW h
theorem A5 (hm:X.mg x=none) (hv:bootBuiltins x=some (.type T)) (hg:Gl X x:=by rfl) (hn:x ≠ "__name__" := by decide) (hdb:(x == ("__debug__" : Str))=false:=by decide):AE X (.Name x pos) (eC (.ty T)):=
 PE.imp (FQ (v:=.ty T) hg hm hv rfl hn hdb) fun σ H Q ⟨ρ,S,τ,R,r,h⟩=>h ρ H _ .refl R (.ty T)
noncomputable def A.seq (S:aE):A->Option (List A)
 | .tup xs=>some xs
 | .frz xs=>some xs
 | .ref n=>ak S n
 | _=>none
theorem Aw {K:PySem.W.Frag} {ρ:List Addr} {H:Hp} {S:aE} {x:A} {v:V} {xs:List A} (R:Rel K ρ H S) (h:AV K ρ H x v) (e:x.seq S=some xs):∃ p vs,v=.ref p/\(fY K H p vs\/dF K H p vs)/\AVs K ρ H xs vs:=by
 cases h with
 | tup h r=>cases Option.some.inj e;exact ⟨_,_,rfl,.inr (dF.of h),r⟩
 | frz h r=>cases Option.some.inj e;exact ⟨_,_,rfl,.inl h.Ei,r⟩
 | ref h=>
  obtain ⟨vs,h1,r1⟩:=R.lst h (aP e)
  exact ⟨_,vs,rfl,.inl (fY.of h1),r1⟩
 | _=>cases e
theorem Ey {K:PySem.W.Frag} {ρ:List Addr} {H:Hp} {x:A} {vs:List V} (h:AVs K ρ H [x] vs):∃ v,vs=[v]/\AV K ρ H x v:=by
 cases h with
 | cons h t=>cases t;exact ⟨_,rfl,h⟩
theorem L5 {K:PySem.W.Frag} {ρ:List Addr} {H:Hp} {x y:A} {vs:List V} (h:AVs K ρ H [x,y] vs):∃ v w,vs=[v,w]/\AV K ρ H x v/\AV K ρ H y w:=by
 cases h with
 | cons h t=>obtain ⟨w,rfl,h'⟩:=Ey t;exact ⟨_,_,rfl,h,h'⟩
noncomputable def f1 (g:A->aE->R A):List A->aE->R A:=fun as S=>match as with
 | [x]=>g x S
 | _=>.no
noncomputable def f2 (g:A->A->aE->R A):List A->aE->R A:=fun as S=>match as with
 | [x,y]=>g x y S
 | _=>.no
theorem FG {g:A->aE->R A} {as:List A} {S:aE} {P:A->aE->Prop} {E:Str->aE->Prop} (h:(f1 g as S).post P E):∃ x,as=[x]/\(g x S).post P E:=by
 match as,h with
 | [],h=>exact h.elim
 | [x],h=>exact ⟨x,rfl,h⟩
 | _::_::_,h=>exact h.elim
theorem Gg {g:A->A->aE->R A} {as:List A} {S:aE} {P:A->aE->Prop} {E:Str->aE->Prop} (h:(f2 g as S).post P E):∃ x y,as=[x,y]/\(g x y S).post P E:=by
 match as,h with
 | [],h=>exact h.elim
 | [_],h=>exact h.elim
 | [x,y],h=>exact ⟨x,y,rfl,h⟩
 | _::_::_::_,h=>exact h.elim
theorem Eg {g:A->aE->R A} {vs:List V} {H:Hp} {Q:VK} (h:rN X (f1 g) vs H Q):∃ v,vs=[v]/\∃ ρ S x,Rel X.K ρ H S/\AV X.K ρ H x v/\(g x S).post (nE X ρ H Q) (XE X ρ H):=by
 obtain ⟨ρ,S,as,R,v,h⟩:=h
 obtain ⟨x,rfl,h⟩:=FG h
 obtain ⟨w,rfl,hv⟩:=Ey v
 exact ⟨w,rfl,ρ,S,x,R,hv,h⟩
theorem Mn {g:A->A->aE->R A} {vs:List V} {H:Hp} {Q:VK} (h:rN X (f2 g) vs H Q):∃ v w,vs=[v,w]/\∃ ρ S x y,Rel X.K ρ H S/\AV X.K ρ H x v/\AV X.K ρ H y w/\(g x y S).post (nE X ρ H Q) (XE X ρ H):=by
 obtain ⟨ρ,S,as,R,v,h⟩:=h
 obtain ⟨x,y,rfl,h⟩:=Gg h
 obtain ⟨w,w',rfl,hv,hv'⟩:=L5 v
 exact ⟨w,w',rfl,ρ,S,x,y,R,hv,hv',h⟩
noncomputable def eg (x:A) (S:aE):R A:=match x with
 | .str x=>gd (x.length<=sizeLine) (.ok (.int x.length) S)
 | .tup xs=>.ok (.int xs.length) S
 | .frz xs=>.ok (.int xs.length) S
 | .ref n=>opt (ak S n) fun xs=>.ok (.int xs.length) S
 | _=>.no
theorem dY:bw X (.builtin "len") (rN X (f1 eg)):=bw.imp DB fun vs H Q h0=>by
 obtain ⟨w,rfl,ρ,S,x,R,hv,h⟩:=Eg h0
 clear h0
 cases hv with
 | str z=>
  obtain ⟨hz,h⟩:=bg h
  exact ⟨_,_,rfl,⟨hz,rfl⟩,h _ _ _ .refl R (.int _)⟩
 | @tup p xs us h1 r=>exact ⟨_,us.length,rfl,.inr ⟨us,(dF.of h1),rfl⟩,by rw [<- r.length];exact h _ _ _ .refl R (.int _)⟩
 | @frz p xs us h1 r=>exact ⟨_,us.length,rfl,.inl ⟨us,h1.Ei,rfl⟩,by rw [<- r.length];exact h _ _ _ .refl R (.int _)⟩
 | ref hp=>
  obtain ⟨xs,hn,h⟩:=aK h
  obtain ⟨us,h1,r⟩:=R.lst hp (aP hn)
  exact ⟨_,us.length,rfl,.inl ⟨us,fY.of h1,rfl⟩,by rw [<- r.length];exact h _ _ _ .refl R (.int _)⟩
 | _=>exact h.elim
noncomputable def Ib (x:A) (S:aE):R A:=match x with
 | .int i=>.ok (.int (if i < 0 then -i else i)) S
 | _=>.no
theorem Ln:bw X (.builtin "abs") (rN X (f1 Ib)):=bw.imp DR fun vs H Q h0=>by
 obtain ⟨w,rfl,ρ,S,x,R,hv,h⟩:=Eg h0
 clear h0
 cases hv <;> first | exact h.elim | exact ⟨_,rfl,h _ _ _ .refl R (.int _)⟩
noncomputable def wz (x y:A) (S:aE):R A:=match x,y with
 | .int i,.int j=>.ok (.int (if j > i then j else i)) S
 | _,_=>.no
theorem DO (hc:X.calm=true):bw X (.builtin "max") (rN X (f2 wz)):=bw.imp (Ai hc) fun vs H Q h0=>by
 obtain ⟨w,w',rfl,ρ,S,x,y,R,hv,hv',h⟩:=Mn h0
 clear h0
 cases hv <;> first | exact h.elim | (cases hv' <;> first | exact h.elim | exact ⟨_,_,rfl,h _ _ _ .refl R (.int _)⟩)
noncomputable def vZ (x y:A) (S:aE):R A:=match x,y with
 | .int i,.int j=>.ok (.int (if j < i then j else i)) S
 | _,_=>.no
theorem Bu (hc:X.calm=true):bw X (.builtin "min") (rN X (f2 vZ)):=bw.imp (z_ hc) fun vs H Q h0=>by
 obtain ⟨w,w',rfl,ρ,S,x,y,R,hv,hv',h⟩:=Mn h0
 clear h0
 cases hv <;> first | exact h.elim | (cases hv' <;> first | exact h.elim | exact ⟨_,_,rfl,h _ _ _ .refl R (.int _)⟩)
noncomputable def n5 (x:A) (S:aE):R A:=match x with
 | .int i=>.ok (.int i) S
 | .bl k=>.ok (.int (if k then 1 else 0)) S
 | .str y=>opt (PySem.intText? y) fun n=>gd (y.length<=640) (.ok (.int n) S)
 | _=>.no
theorem uP:bw X (.type "int") (rN X (f1 n5)):=fun pins s σ H xs us Q I rv h0=>by
 obtain ⟨w,rfl,ρ,S,x,R,hv,h⟩:=Eg h0
 clear h0
 cases hv with
 | int i=>exact qj pins s σ H _ us Q I rv (.inl ⟨i,rfl,h _ _ _ .refl R (.int _)⟩)
 | bl k=>exact qj pins s σ H _ us Q I rv (.inr ⟨k,rfl,h _ _ _ .refl R (.int _)⟩)
 | str y=>
  obtain ⟨n,hn,h⟩:=aK h
  obtain ⟨hl,h⟩:=bg h
  exact zS pins s σ H _ us Q I rv ⟨y,n,rfl,hl,hn,h _ _ _ .refl R (.int _)⟩
 | _=>exact h.elim
noncomputable def nL (x y:A) (S:aE):R A:=match x,y with
 | .int i,.int j=>.ok (.rng i j) S
 | _,_=>.no
theorem sP:bw X (.type "range") (rN X (f2 nL)):=bw.imp qJ fun vs H Q h0=>by
 obtain ⟨w,w',rfl,ρ,S,x,y,R,hv,hv',h⟩:=Mn h0
 clear h0
 cases hv with
 | int i=>
  cases hv' with
  | int j=>
   refine ⟨i,j,rfl,fun p hp=>?_⟩
   obtain ⟨ex,R'⟩:=R.im (u:=.rng i j) hp
   exact h ρ _ _ ex R' (.rng bG)
  | _=>exact h.elim
 | _=>exact h.elim
noncomputable def qp (i j:Int):Prop:=(-(2 ^ 62)<=i/\i < 2 ^ 62/\-(2 ^ 62)<=j/\j < 2 ^ 62)/\(j - i).toNat<=1000
instance (i j:Int):Decidable (qp i j):=by unfold qp;infer_instance
noncomputable def kR (x:A) (S:aE):R A:=match x with
 | .rng i j=>gd (qp i j) (.ok (.ref S.length) (S++[.lst ((aX i j).map .int)]))
 | .tup xs=>.ok (.ref S.length) (S++[.lst xs])
 | .frz xs=>.ok (.ref S.length) (S++[.lst xs])
 | .ref n=>opt (ak S n) fun xs=>.ok (.ref S.length) (S++[.lst xs])
 | _=>.no
theorem rA (hc:X.calm=true):bw X (.type "list") (rN X (f1 kR)):=fun pins s σ H vs us Q I rx h0=>by
 obtain ⟨w,rfl,ρ,S,x,R,hv,h⟩:=Eg h0
 clear h0
 cases hv with
 | @rng p i j hp=>
  obtain ⟨hc',h⟩:=bg h
  exact pR hc pins s σ H _ us Q I rx ⟨p,i,j,rfl,hp,hc'.1,hc'.2,dJ R (gE _) .refl h⟩
 | @tup p xs vs h1 r=>exact iR pins s σ H _ us Q I rx ⟨p,vs,rfl,.inr (dF.of h1),dJ R r .refl h⟩
 | @frz p xs vs h1 r=>exact iR pins s σ H _ us Q I rx ⟨p,vs,rfl,.inl h1.Ei,dJ R r .refl h⟩
 | @ref p n hp=>
  obtain ⟨xs,hn,h⟩:=aK h
  obtain ⟨vs,h1,r⟩:=R.lst hp (aP hn)
  exact iR pins s σ H _ us Q I rx ⟨p,vs,rfl,.inl (fY.of h1),dJ R r .refl h⟩
 | _=>exact h.elim
noncomputable def iY (x:A) (S:aE):R A:=match x with
 | .rng i j=>gd (qp i j) (.ok (.tup ((aX i j).map .int)) S)
 | .tup xs=>.ok (.tup xs) S
 | .frz xs=>.ok (.tup xs) S
 | .ref n=>opt (ak S n) fun xs=>.ok (.tup xs) S
 | _=>.no
theorem nJ (hc:X.calm=true):bw X (.type "tuple") (rN X (f1 iY)):=fun pins s σ H vs us Q I rx h0=>by
 obtain ⟨w,rfl,ρ,S,x,R,hv,h⟩:=Eg h0
 clear h0
 cases hv with
 | @rng p i j hp=>
  obtain ⟨hc',h⟩:=bg h
  exact nS hc pins s σ H _ us Q I rx ⟨p,i,j,rfl,hp,hc'.1,hc'.2,iK R (gE _) .refl h⟩
 | @tup p xs vs h1 r=>exact ir pins s σ H _ us Q I rx ⟨p,vs,rfl,.inr ⟨(dF.of h1),h _ _ _ .refl R (.tup h1 r)⟩⟩
 | @frz p xs vs h1 r=>exact ir pins s σ H _ us Q I rx ⟨p,vs,rfl,.inl ⟨h1.Ei,iK R r .refl h⟩⟩
 | @ref p n hp=>
  obtain ⟨xs,hn,h⟩:=aK h
  obtain ⟨vs,h1,r⟩:=R.lst hp (aP hn)
  exact ir pins s σ H _ us Q I rx ⟨p,vs,rfl,.inl ⟨fY.of h1,iK R r .refl h⟩⟩
 | _=>exact h.elim
noncomputable def A.Ed:List A->Option (List Bool)
 | []=>some []
 | .bl b::xs=>(A.Ed xs).map (b::·)
 | _=>none
theorem Ce {K:PySem.W.Frag} {ρ:List Addr} {H:Hp}:∀ {xs:List A} {vs:List V} {bs:List Bool},AVs K ρ H xs vs->A.Ed xs=some bs->vs=bs.map V.bl
 | _,_,_,.nil,e=>by cases e;rfl
 | _,_,_,.cons (x:=.bl b) h t,e=>by
  obtain ⟨cs,e1,rfl⟩:=Option.map_eq_some_iff.mp e
  cases h
  rw [Ce t e1];rfl
 | _,_,_,.cons (x:=.unb) h t,e=>nomatch e
 | _,_,_,.cons (x:=.non) h t,e=>nomatch e
 | _,_,_,.cons (x:=.int _) h t,e=>nomatch e
 | _,_,_,.cons (x:=.str _) h t,e=>nomatch e
 | _,_,_,.cons (x:=.tup _) h t,e=>nomatch e
 | _,_,_,.cons (x:=.frz _) h t,e=>nomatch e
 | _,_,_,.cons (x:=.rng _ _) h t,e=>nomatch e
 | _,_,_,.cons (x:=.ref _) h t,e=>nomatch e
 | _,_,_,.cons (x:=.exn _) h t,e=>nomatch e
 | _,_,_,.cons (x:=.ty _) h t,e=>nomatch e
noncomputable def A3 (x:A) (S:aE):R A:=match x with
 | .ref n=>opt (ak S n) fun xs=>opt (A.Ed xs) fun bs=>.ok (.bl (bs.any fun b=>b)) S
 | _=>.no
theorem Hz (hc:X.calm=true):bw X (.builtin "any") (rN X (f1 A3)):=bw.imp (zm hc) fun vs H Q h0=>by
 obtain ⟨w,rfl,ρ,S,x,R,hv,h⟩:=Eg h0
 clear h0
 cases hv with
 | @ref p n hp=>
  obtain ⟨xs,hn,h⟩:=aK h
  obtain ⟨bs,hb,h⟩:=aK h
  obtain ⟨vs,h1,r⟩:=R.lst hp (aP hn)
  rw [Ce r hb] at h1
  exact ⟨p,bs,rfl,fY.of h1,h _ _ _ .refl R (.bl _)⟩
 | _=>exact h.elim
noncomputable def maxOf:List Int->Option Int
 | []=>none
 | [x]=>some x
 | x::xs=>(maxOf xs).map fun m=>if m > x then m else x
theorem nY:∀ {ns:List Int} {m:Int},maxOf ns=some m->m∈ns/\∀ a∈ns,a<=m
 | [],_,e=>nomatch e
 | [x],m,e=>by cases e;exact ⟨List.mem_cons_self,fun a h=>by rw [List.mem_singleton] at h;omega⟩
 | x::y::xs,m,e=>by
  obtain ⟨m',e1,rfl⟩:=Option.map_eq_some_iff.mp (show (maxOf (y::xs)).map (fun m=>if m > x then m else x)=some m from e)
  obtain ⟨h1,h2⟩:=nY e1
  by_cases hx:m' > x
  ·rw [if_pos hx]
   exact ⟨List.mem_cons_of_mem _ h1,fun a h=>(List.mem_cons.mp h).elim (fun z=>by omega) (h2 a)⟩
  ·rw [if_neg hx]
   exact ⟨List.mem_cons_self,fun a h=>(List.mem_cons.mp h).elim (fun z=>by omega) fun z=>by have:=h2 a z;omega⟩
noncomputable def BH (x:A) (S:aE):R A:=match x with
 | .ref n=>opt (ak S n) fun xs=>opt (A.ints xs) fun ns=>opt (maxOf ns) fun m=>.ok (.int m) S
 | _=>.no
theorem JT (hc:X.calm=true):bw X (.builtin "max") (rN X (f1 BH)):=bw.imp (Af hc) fun vs H Q h0=>by
 obtain ⟨w,rfl,ρ,S,x,R,hv,h⟩:=Eg h0
 clear h0
 cases hv with
 | @ref p n hp=>
  obtain ⟨xs,hn,h⟩:=aK h
  obtain ⟨ns,hb,h⟩:=aK h
  obtain ⟨m,hm,h⟩:=aK h
  obtain ⟨vs,h1,r⟩:=R.lst hp (aP hn)
  rw [jQ r hb] at h1
  obtain ⟨g1,g2⟩:=nY hm
  refine ⟨p,ns,rfl,fY.of h1,List.length_pos_of_mem g1,fun M hM hG=>?_⟩
  have:M=m:=Int.le_antisymm (g2 M hM) (hG m g1)
  rw [this]
  exact h _ _ _ .refl R (.int _)
 | _=>exact h.elim
noncomputable def insI (x:Int):List Int->List Int
 | []=>[x]
 | y::ys=>if x<=y then x::y::ys else y::insI x ys
noncomputable def sortI:List Int->List Int
 | []=>[]
 | x::xs=>insI x (sortI xs)
theorem insI_perm (x:Int):∀ ys:List Int,(insI x ys).Perm (x::ys)
 | []=>List.Perm.refl _
 | y::ys=>by
  unfold insI
  by_cases h:x<=y
  ·rw [if_pos h]
  ·rw [if_neg h];exact ((insI_perm x ys).cons y).trans (List.Perm.swap x y ys)
theorem sortI_perm:∀ xs:List Int,(sortI xs).Perm xs
 | []=>List.Perm.refl _
 | x::xs=>(insI_perm x (sortI xs)).trans ((sortI_perm xs).cons x)
theorem yp (x:Int):∀ ys:List Int,ys.Pairwise (·<=·)->(insI x ys).Pairwise (·<=·)
 | [],_=>List.pairwise_singleton _ _
 | y::ys,h=>by
  unfold insI
  obtain ⟨h1,h2⟩:=List.pairwise_cons.mp h
  by_cases hx:x<=y
  ·rw [if_pos hx]
   exact List.pairwise_cons.mpr ⟨fun z hz=>(List.mem_cons.mp hz).elim (fun e=>e ▸ hx) fun hz=>Int.le_trans hx (h1 z hz),h⟩
  ·rw [if_neg hx]
   refine List.pairwise_cons.mpr ⟨fun z hz=>?_,yp x ys h2⟩
   rcases List.mem_cons.mp ((insI_perm x ys).mem_iff.mp hz) with e | hz
   ·subst e;omega
   ·exact h1 z hz
theorem sY:∀ xs:List Int,(sortI xs).Pairwise (·<=·)
 | []=>List.Pairwise.nil
 | x::xs=>yp x _ (sY xs)
noncomputable def B6 (x:A) (S:aE):R A:=opt (x.seq S) fun xs=>opt (A.ints xs) fun ns=>gd (ns.length < 64) (.ok (.ref S.length) (S++[.lst ((sortI ns).map .int)]))
theorem Fl:bw X (.builtin "sorted") (rN X (f1 B6)):=bw.imp qL fun vs H Q h0=>by
 obtain ⟨w,rfl,ρ,S,x,R,hv,h⟩:=Eg h0
 clear h0
 obtain ⟨xs,hn,h⟩:=aK h
 obtain ⟨ns,hb,h⟩:=aK h
 obtain ⟨hl,h⟩:=bg h
 obtain ⟨p,us,rfl,hs,r⟩:=Aw R hv hn
 rw [jQ r hb] at hs
 refine ⟨p,ns,rfl,hs,hl,fun l ns' hl' hp hw=>?_⟩
 have:ns'=sortI ns:=Fj (hp.trans (sortI_perm ns).symm) hw (sY ns)
 rw [this]
 exact dJ R (gE _) .refl h l hl'
noncomputable def A.kd:A->aE->Option Kd
 | .non,_=>some .non
 | .bl _,_=>some .bl
 | .int _,_=>some .int
 | .str _,_=>some .str
 | .tup _,_=>some .tup
 | .ref n,S=>(ak S n).map fun _=>.lst
 | _,_=>none
theorem FP {K:PySem.W.Frag} (k:Kd):PySem.W.kitOne K k.ty (.type "str")=some (decide (k=.str)):=by cases k <;> rfl
noncomputable def vE (k:Kd) (c:String):Option Bool:=if c = "int" then some (decide (k=.int\/k=.bl)) else if c = "bool" then some (decide (k=.bl)) else if c = "tuple" then some (decide (k=.tup)) else if c = "list" then some (decide (k=.lst)) else if c = "str" then some (decide (k=.str)) else none
theorem yR {K:PySem.W.Frag} {k:Kd} {c:String} {b:Bool} (h:vE k c=some b):PySem.W.kitOne K k.ty (.type c)=some b:=by
 unfold vE at h
 split at h
 ·rename_i e;subst e;rw [<- h];exact Ez k
 ·split at h
  ·rename_i e;subst e;rw [<- h];exact A1 k
  ·split at h
   ·rename_i e;subst e;rw [<- h];exact kit_tuple k
   ·split at h
    ·rename_i e;subst e;rw [<- h];exact Be k
    ·split at h
     ·rename_i e;subst e;rw [<- h];exact FP k
     ·cases h
noncomputable def z7 (x y:A) (S:aE):R A:=match y with
 | .ty c=>opt (x.kd S) fun k=>opt (vE k c) fun b=>.ok (.bl b) S
 | _=>.no
theorem K3 {K:PySem.W.Frag} {ρ:List Addr} {H:Hp} {S:aE} {x:A} {v:V} {k:Kd} (R:Rel K ρ H S) (h:AV K ρ H x v) (e:x.kd S=some k):(∃ p vs,v=.ref p/\dF K H p vs/\k=.tup)\/J3 H v k:=by
 cases h with
 | non=>cases e;exact .inr rfl
 | bl b=>cases e;exact .inr ⟨b,rfl⟩
 | int i=>cases e;exact .inr ⟨i,rfl⟩
 | str i=>cases e;exact .inr ⟨i,rfl⟩
 | tup h r=>cases e;exact .inl ⟨_,_,rfl,(dF.of h),rfl⟩
 | ref h=>
  obtain ⟨xs,e1,e2⟩:=Option.map_eq_some_iff.mp e
  obtain ⟨vs,h1,_⟩:=R.lst h (aP e1)
  cases e2
  exact .inr ⟨_,vs,rfl,h1⟩
 | _=>cases e
theorem C9:bw X (.builtin "isinstance") (rN X (f2 z7)):=fun pins s σ H vs us Q I rx h0=>by
 obtain ⟨w,w',rfl,ρ,S,x,y,R,hv,hv',h⟩:=Mn h0
 clear h0
 cases hv' with
 | ty c=>
  obtain ⟨k,hk,h⟩:=aK h
  obtain ⟨b,hb,hq⟩:=aK h
  have hq:nE X ρ H Q (.bl b) S:=hq
  clear h
  rcases K3 R hv hk with ⟨p,vs,rfl,ht,rfl⟩ | hd
  ·match us,rx with
   | [_,_],.cons r1 (.cons r2 .nil)=>
    obtain ⟨its,q,⟨o,h1,h2,_⟩,_⟩:=I.tuple ht
    cases (show _=Value.ref p from r1)
    cases (show _=Value.type c from r2)
    exact PySem.W.kia_one PySem.W.kitx_tuple I.rY ⟨o,h1,h2⟩ (yR hb) (fun z=>nomatch z) fun tk=>⟨.bl b,H,I.tok _,rfl,hq _ _ _ .refl R (.bl _)⟩
  ·exact tB (c:=c) pins s σ H _ us Q I rx ⟨w,_,b,rfl,hd.MM,yR hb,hq _ _ _ .refl R (.bl _)⟩
 | _=>exact h.elim
end
noncomputable def zZ (x:List Int):List (List Int)->List (List Int)
 | []=>[x]
 | y::ys=>if HT.lexLt y x=true then y::zZ x ys else x::y::ys
noncomputable def fF:List (List Int)->List (List Int)
 | []=>[]
 | x::xs=>zZ x (fF xs)
noncomputable def zE (a b:List Int):Prop:=HT.lexLt b a=false
theorem zE.trans {a b c:List Int} (h1:zE a b) (h2:zE b c):zE a c:=by
 unfold zE at *
 cases e:HT.lexLt c a with
 | false=>rfl
 | true=>
  rcases Sx.wm (b:=b) e with z | z
  ·rw [h2] at z;cases z
  ·rw [h1] at z;cases z
theorem lY (x:List Int):∀ ys:List (List Int),(zZ x ys).Perm (x::ys)
 | []=>List.Perm.refl _
 | y::ys=>by
  unfold zZ
  by_cases h:HT.lexLt y x=true
  ·rw [if_pos h];exact ((lY x ys).cons y).trans (List.Perm.swap x y ys)
  ·rw [if_neg h]
theorem j_:∀ xs:List (List Int),(fF xs).Perm xs
 | []=>List.Perm.refl _
 | x::xs=>(lY x (fF xs)).trans ((j_ xs).cons x)
theorem wk (x:List Int):∀ ys:List (List Int),ys.Pairwise zE->(zZ x ys).Pairwise zE
 | [],_=>List.pairwise_singleton _ _
 | y::ys,h=>by
  unfold zZ
  obtain ⟨h1,h2⟩:=List.pairwise_cons.mp h
  by_cases hx:HT.lexLt y x=true
  ·rw [if_pos hx]
   refine List.pairwise_cons.mpr ⟨fun z hz=>?_,wk x ys h2⟩
   rcases List.mem_cons.mp ((lY x ys).mem_iff.mp hz) with e | hz
   ·subst e
    unfold zE
    cases e:HT.lexLt z y with
    | false=>rfl
    | true=>have:=Sx.nW hx e;rw [Sx.jM] at this;cases this
   ·exact h1 z hz
  ·rw [if_neg hx]
   have hx':zE x y:=by unfold zE;simpa using hx
   exact List.pairwise_cons.mpr ⟨fun z hz=>(List.mem_cons.mp hz).elim (fun e=>e ▸ hx') fun hz=>hx'.trans (h1 z hz),h⟩
theorem tD:∀ xs:List (List Int),(fF xs).Pairwise zE
 | []=>List.Pairwise.nil
 | x::xs=>wk x _ (tD xs)
theorem nZ {xs ys:List (List Int)} (p:xs.Perm ys) (h:xs.Pairwise zE):xs=fF ys:=
 List.Perm.eq_of_pairwise (fun a b _ _ h1 h2=>(Sx.qT h1 h2).symm) h (tD ys) (p.trans (j_ ys).symm)
theorem N3:∀ (N:Nat) (l:List Nat),l.Nodup->(∀ x∈l,x < N)->l.length<=N
 | 0,l,_,h=>by
  cases l with
  | nil=>exact Nat.le_refl _
  | cons a l=>exact absurd (h a (List.mem_cons_self ..)) (Nat.not_lt_zero _)
 | N+1,l,nd,h=>by
  have h1:=N3 N (l.erase N) (nd.erase N) fun x hx=>by
   have:=h x (List.mem_of_mem_erase hx)
   have:x≠N:=fun z=>by
    subst z
    exact (List.Nodup.not_mem_erase nd) hx
   omega
  have:=List.le_length_erase (l:=l) (a:=N)
  omega
theorem vD {N:Nat} {g:Nat->Nat} (h:∀ i,i < N->g i < N) (inj:∀ i j,i < j->j < N->g i≠g j):((List.range N).map g).Perm (List.range N):=by
 have nd:((List.range N).map g).Nodup:=by
  unfold List.Nodup
  rw [List.pairwise_iff_getElem]
  intro i j hi hj hij
  rw [List.length_map,List.length_range] at hi hj
  rw [List.getElem_map,List.getElem_map,List.getElem_range,List.getElem_range]
  exact inj i j hij hj
 have lt:∀ x∈(List.range N).map g,x < N:=fun x hx=>by
  obtain ⟨i,hi,rfl⟩:=List.mem_map.mp hx
  exact h i (List.mem_range.mp hi)
 refine (List.perm_ext_iff_of_nodup nd List.nodup_range).mpr fun a=>⟨fun ha=>List.mem_range.mpr (lt a ha),fun ha=>?_⟩
 refine Classical.byContradiction fun hn=>?_
 have:=N3 N (a::(List.range N).map g) (List.nodup_cons.mpr ⟨hn,nd⟩) fun x hx=>by
  rcases List.mem_cons.mp hx with rfl | hx
  ·exact List.mem_range.mp ha
  ·exact lt x hx
 rw [List.length_cons,List.length_map,List.length_range] at this
 omega
theorem range_getD {α:Type} (l:List α) (d:α):(List.range l.length).map (fun i=>l.getD i d)=l:=by
 apply List.ext_getElem?
 intro i
 rw [List.getElem?_map]
 by_cases c:i < l.length
 ·rw [List.getElem?_range c]
  show some (l.getD i d)=_
  rw [List.getD_eq_getElem?_getD,List.getElem?_eq_getElem c];rfl
 ·rw [List.getElem?_eq_none (by rw [List.length_range];omega),List.getElem?_eq_none (by omega)];rfl
theorem IL {kss:List (List Int)} {g:Nat->Nat} (c:Sx.Cl g 0 kss.length) (so:Sx.So (Sx.FW kss) g 0 kss.length):(List.range kss.length).map (fun i=>kss.getD (g i) [])=fF kss:=by
 refine nZ ?_ ?_
 ·have p:=vD (N:=kss.length) (g:=g) (fun i hi=>(c i (Nat.zero_le _) hi).2) fun i j hij hj z=>by
   have:=so i j (Nat.zero_le _) hij hj
   rw [z] at this
   exact this.Gm
  have:=p.map fun i=>kss.getD i []
  rw [List.map_map,range_getD] at this
  exact this
 ·rw [List.pairwise_iff_getElem]
  intro i j hi hj hij
  rw [List.length_map,List.length_range] at hi hj
  rw [List.getElem_map,List.getElem_map,List.getElem_range,List.getElem_range]
  exact (so i j (Nat.zero_le _) hij hj).ge
noncomputable def JA:List A->Option (List (List Int))
 | []=>some []
 | .tup xs::r=>match A.ints xs with
  | some (k::ks)=>(JA r).map fun rs=>(k::ks)::rs
  | _=>none
 | _=>none
theorem Gu {K:PySem.W.Frag} {ρ:List Addr} {H:Hp}:∀ {xs:List A} {vs:List V} {kss:List (List Int)},AVs K ρ H xs vs->JA xs=some kss ->
  ∃ rs:List Addr,vs=rs.map V.ref/\rs.length=kss.length/\∀ (i:Nat) (r:Addr) (ks:List Int),rs[i]?=some r->kss[i]?=some ks->dF K H r (ks.map V.int)/\ks≠[]/\AV K ρ H (.tup (ks.map .int)) (.ref r)
 | [],_,_,.nil,e=>by cases e;exact ⟨[],rfl,rfl,fun i r ks h=>by simp at h⟩
 | x::xs,_,kss,.cons h t,e=>by
  cases h with
  | tup h r=>
   rename_i a ys us
   unfold JA at e
   cases e1:A.ints ys with
   | none=>rw [e1] at e;cases e
   | some ks=>
    rw [e1] at e
    cases ks with
    | nil=>cases e
    | cons k ks=>
     obtain ⟨kss',e2,rfl⟩:=Option.map_eq_some_iff.mp e
     obtain ⟨rs,rfl,hl,hh⟩:=Gu t e2
     have ev:=jQ r e1
     subst ev
     refine ⟨a::rs,rfl,by rw [List.length_cons,List.length_cons,hl],fun i r' ks' h1 h2=>?_⟩
     cases i with
     | zero=>
      cases h1
      cases h2
      exact ⟨dF.of h,(fun z=>nomatch z),.tup h (gE _)⟩
     | succ i=>exact hh i r' ks' (by simpa using h1) (by simpa using h2)
  | _=>cases e
theorem Cu {K:PySem.W.Frag} {ρ:List Addr} {H:Hp} {α:Type} {f:α->A} {h:α->V}:∀ {l:List α},(∀ a∈l,AV K ρ H (f a) (h a))->AVs K ρ H (l.map f) (l.map h)
 | [],_=>.nil
 | a::l,e=>.cons (e a (List.mem_cons_self ..)) (Cu fun b hb=>e b (List.mem_cons_of_mem _ hb))
section
variable {X:Cx}
noncomputable def rD (n:Nat) (S:aE):R A:=opt (ak S n) fun xs=>opt (JA xs) fun kss=>.ok (.ref S.length) (S++[.lst ((fF kss).map fun ks=>.tup (ks.map .int))])
noncomputable def Mc (x:A) (S:aE):Bool:=match x with
 | .ref n=>match ak S n with
  | some (.tup _::_)=>true
  | _=>false
 | _=>false
noncomputable def kM (x:A) (S:aE):R A:=match Mc x S with
 | false=>B6 x S
 | true=>match x with
  | .ref n=>rD n S
  | _=>.no
theorem F0:bw X (.builtin "sorted") (rN X (f1 fun x S=>match x with | .ref n=>rD n S | _=>.no)):=bw.imp qW fun vs H Q h0=>by
 obtain ⟨w,rfl,ρ,S,x,R,hv,h⟩:=Eg h0
 clear h0
 cases hv with
 | ref hp=>
  rename_i p n
  obtain ⟨xs,hn,h⟩:=aK h
  obtain ⟨kss,hb,h⟩:=aK h
  obtain ⟨us,h1,r⟩:=R.lst hp (aP hn)
  obtain ⟨rs,rfl,hl,hh⟩:=Gu r hb
  refine ⟨p,rs,kss,rfl,fY.of h1,hl,fun i r ks e1 e2=>⟨(hh i r ks e1 e2).1,(hh i r ks e1 e2).2.1⟩,fun l g hl' hc hs=>?_⟩
  have av:AVs X.K ρ H ((fF kss).map fun ks=>.tup (ks.map .int)) (((List.range kss.length).map fun i=>rs.getD (g i) 0).map V.ref):=by
   rw [<- IL hc hs,List.map_map,List.map_map]
   refine Cu fun i hi=>?_
   have lt:=(hc i (Nat.zero_le _) (List.mem_range.mp hi)).2
   have e1:rs[g i]?=some (rs.getD (g i) 0):=by rw [List.getD_eq_getElem?_getD,List.getElem?_eq_getElem (by omega)];rfl
   have e2:kss[g i]?=some (kss.getD (g i) []):=by rw [List.getD_eq_getElem?_getD,List.getElem?_eq_getElem lt];rfl
   exact (hh _ _ _ e1 e2).2.2
  exact dJ R av .refl h l hl'
 | _=>exact h.elim
theorem CP:bw X (.builtin "sorted") (rN X (f1 kM)):=fun pins s σ H xs us Q I r h=>by
 obtain ⟨w,rfl,ρ,S,x,R,hv,h⟩:=Eg h
 unfold kM at h
 cases e:Mc x S with
 | false=>
  rw [e] at h
  exact Fl pins s σ H _ us Q I r ⟨ρ,S,[x],R,.cons hv .nil,h⟩
 | true=>
  rw [e] at h
  exact F0 pins s σ H _ us Q I r ⟨ρ,S,[x],R,.cons hv .nil,h⟩
end
section
variable {X:Cx}
end
noncomputable def RS.post (r:RS) (N:List A->aE->Prop) (T:A->aE->Prop) (B C:List A->aE->Prop) (E:Str->aE->Prop):Prop:=match r with
 | .nx τ S=>N τ S
 | .rt a S=>T a S
 | .bk τ S=>B τ S
 | .ct τ S=>C τ S
 | .ex c S=>E c S
 | .no=>False
noncomputable def RS.of {α:Type} (r:R α) (f:α->aE->RS):RS:=match r with
 | .ok a S=>f a S
 | .ex c S=>.ex c S
 | .no=>.no
theorem of_post {α:Type} {r:R α} {f:α->aE->RS} {N B C:List A->aE->Prop} {T:A->aE->Prop} {E:Str->aE->Prop} (h:(RS.of r f).post N T B C E):r.post (fun a S=>(f a S).post N T B C E) E:=by
 cases r <;> exact h
theorem RS.mono {r:RS} {N B C N' B' C':List A->aE->Prop} {T T':A->aE->Prop} {E E':Str->aE->Prop} (h:r.post N T B C E) (hn:∀ τ S,N τ S->N' τ S) (ht:∀ a S,T a S->T' a S) (hb:∀ τ S,B τ S->B' τ S) (hc:∀ τ S,C τ S->C' τ S) (he:∀ c S,E c S->E' c S):r.post N' T' B' C' E':=by
 cases r with
 | nx τ S=>exact hn _ _ h
 | rt a S=>exact ht _ _ h
 | bk τ S=>exact hb _ _ h
 | ct τ S=>exact hc _ _ h
 | ex c S=>exact he _ _ h
 | no=>exact h.elim
noncomputable def yb (X:Cx) (ρ:List Addr) (H:Hp) (N:L2.St->Hp->Prop):List A->aE->Prop:=fun τ' S'=>∀ ρ' H' σ',Ext ρ ρ' H H'->Rel X.K ρ' H' S'->SR X.K ρ' H' τ' σ'->N σ' H'
theorem yb.ext {X:Cx} {ρ ρ':List Addr} {H H':Hp} {N:L2.St->Hp->Prop} {τ:List A} {S:aE} (h:yb X ρ H N τ S) (e:Ext ρ ρ' H H'):yb X ρ' H' N τ S:=fun ρ2 H2 σ2 e2=>h ρ2 H2 σ2 (e.trans e2)
noncomputable def qw (X:Cx) (ρ:List Addr) (H:Hp) (D:Ends) (r:RS):Prop:=r.post (yb X ρ H D.nx) (nE X ρ H D.rt) (yb X ρ H D.bk) (yb X ρ H D.ct) (XE X ρ H)
theorem qw.ext {X:Cx} {ρ ρ':List Addr} {H H':Hp} {D:Ends} {r:RS} (h:qw X ρ H D r) (e:Ext ρ ρ' H H'):qw X ρ' H' D r:=RS.mono h (fun _ _ z=>z.ext e) (fun _ _ z=>z.ext e) (fun _ _ z=>z.ext e) (fun _ _ z=>z.ext e) fun _ _ z=>z.ext e
noncomputable def tS (X:Cx) (c:Sm):TS:=fun D σ H=>∃ ρ S τ,Rel X.K ρ H S/\SR X.K ρ H τ σ/\qw X ρ H D (c τ S)
noncomputable def AS (X:Cx) (st:Stmt) (c:Sm):Prop:=PS X st (tS X c)
noncomputable def FT (X:Cx) (sts:List Stmt) (c:Sm):Prop:=qU X sts (tS X c)
noncomputable def tG (X:Cx) (g:Tg):TG:=fun v σ H Q=>∃ ρ S τ a,Rel X.K ρ H S/\SR X.K ρ H τ σ/\AV X.K ρ H a v/\(g a τ S).post (yb X ρ H Q) (XE X ρ H)
noncomputable def AG (X:Cx) (e:Expr) (g:Tg):Prop:=PG X e (tG X g)
noncomputable abbrev Ef:=List A->List A->aE->R (List A)
noncomputable def N8 (X:Cx) (g:Ef):Hf:=fun vs σ H Q=>∃ ρ S τ as,Rel X.K ρ H S/\SR X.K ρ H τ σ/\AVs X.K ρ H as vs/\(g as τ S).post (yb X ρ H Q) (XE X ρ H)
noncomputable def Mb (X:Cx) (es:List Expr) (g:Ef):Prop:=L4 X es (N8 X g)
section
variable {X:Cx} {pos:Pos} {a b e:Expr} {st:Stmt} {rest:List Stmt} {c d:Sm}
theorem PS.imp {t t':TS} (h:PS X st t) (i:∀ D σ H,t' D σ H->t D σ H):PS X st t':=fun pins s σ H D I q=>h pins s σ H D I (i D σ H q)
theorem qU.imp {t t':TS} (h:qU X rest t) (i:∀ D σ H,t' D σ H->t D σ H):qU X rest t':=fun pins s σ H D I q=>h pins s σ H D I (i D σ H q)
theorem PG.imp {t t':TG} (h:PG X e t) (i:∀ v σ H Q,t' v σ H Q->t v σ H Q):PG X e t':=fun pins s σ H v u Q I r q=>h pins s σ H v u Q I r (i _ _ _ _ q)
noncomputable def bF (i:Nat):Tg:=fun a τ S=>.ok (τ.set i a) S
theorem aY {i:Nat} {x:Str} (hN:X.N.Nodup) (hi:X.N[i]?=some x:=by rfl) (hx:Loc X.env.scope x:=by first | exact Or.inl rfl | exact Or.inr rfl) (hf:X.fn x=true\/X.env.scope.names.lookup x=some .local:=by first | exact .inl rfl | exact .inr rfl | assumption):AG X (.Name x pos) (bF i):=
 PG.imp (yW hN hi hx hf) fun v σ H Q ⟨ρ,S,τ,a,R,r,va,h⟩=>h ρ H _ .refl R (r.set va)
noncomputable def pQ:Ef:=fun as τ S=>match as with
 | []=>.ok τ S
 | _=>.no
noncomputable def iI (g:Tg) (gs:Ef):Ef:=fun as τ S=>match as with
 | a::as=>(g a τ S).bind fun τ1 S1=>gs as τ1 S1
 | []=>.no
theorem fV:Mb X [] pQ:=fun pins s σ H vs us Q I r ⟨ρ,S,τ,as,R,sr,va,h⟩=>E_ pins s σ H vs us Q I r (by
 cases va with
 | nil=>exact ⟨rfl,h ρ H σ .refl R sr⟩
 | cons _ _=>exact h.elim)
theorem bI {es:List Expr} {g:Tg} {gs:Ef} (h1:AG X e g) (h2:Mb X es gs) (hs:(assignEach (e::es) X.env).map (·.2)=assign e X.env::(assignEach es X.env).map (·.2):=by rfl):Mb X (e::es) (iI g gs):=
 fun pins s σ H vs us Q I r ⟨ρ,S,τ,as,R,sr,va,h⟩=>A_ h1 h2 hs pins s σ H vs us Q I r (by
  cases va with
  | nil=>exact h.elim
  | cons ha hr=>exact ⟨_,_,rfl,ρ,S,τ,_,R,sr,ha,aF (aL h) .refl fun τ1 S1 h1 ρ1 H1 σ1 e1 R1 sr1=>⟨ρ1,S1,τ1,_,R1,sr1,hr.ext e1,aF h1 e1 fun _ _ z=>z.ext e1⟩⟩)
noncomputable def pO (n:Nat) (gs:Ef):Tg:=fun a τ S=>match a with
 | .tup xs=>gd (xs.length=n) (gs xs τ S)
 | _=>.no
theorem iQ {es:List Expr} {k n:Nat} {gs:Ef} (hc:X.calm=true) (h:Mb X es gs) (hn:(assignEach es X.env).length=n:=by rfl) (hst:(assignEach es X.env).findIdx? (·.1)=none:=by rfl):AG X (.Tuple es k pos) (pO n gs):=
 PG.imp (JJ hc h hn hst) fun v σ H Q ⟨ρ,S,τ,a,R,r,va,h⟩=>by
  cases va with
  | tup h1 r1=>
   obtain ⟨hl,h⟩:=bg h
   exact ⟨_,_,rfl,dF.of h1,by rw [<- r1.length];exact hl,ρ,S,τ,_,R,r,r1,h⟩
  | _=>exact h.elim
noncomputable def tK (o i v:A) (S:aE):R Unit:=match o,i with
 | .ref n,.int k=>opt (ak S n) fun xs=>opt (oE xs.length k) fun j=>.ok () (S.set n (.lst (xs.set j v)))
 | _,_=>.no
noncomputable def N9 (X:Cx):uN:=fun o i v H Q=>∃ ρ S ao ai av,Rel X.K ρ H S/\AV X.K ρ H ao o/\AV X.K ρ H ai i/\AV X.K ρ H av v/\(tK ao ai av S).post (fun _ S'=>∀ ρ' H',Ext ρ ρ' H H'->Rel X.K ρ' H' S'->Q H') (XE X ρ H)
theorem yQ:Ae X (N9 X):=fun pins s σ H o i v ov iv u Q I ro ri rv ⟨ρ,S,ao,ai,av,R,h1,h2,h3,h⟩=>by
 cases h1 with
 | @ref p n hp=>
  cases h2 with
  | int k=>
   obtain ⟨xs,hn,h⟩:=aK h
   obtain ⟨j,hj,h⟩:=aK h
   obtain ⟨vs,e,r⟩:=R.lst hp (aP hn)
   obtain ⟨ex,R'⟩:=R.put hp (aP hn) (r.set h3 j)
   exact set_list pins s σ H _ _ v ov iv u Q I ro ri rv ⟨p,vs,k,j,rfl,rfl,e,by rw [<- r.length];exact hj,h _ _ ex R'⟩
  | _=>exact h.elim
 | _=>exact h.elim
noncomputable def yM (co ci:Ex):Tg:=fun a τ S=>(co τ S).bind fun o S1=>(ci τ S1).bind fun i S2=>(tK o i a S2).bind fun _ S3=>.ok τ S3
theorem h_ {o i:Expr} {co ci:Ex} (ho:AE X o co) (hi:AE X i ci)
  (ha:∀ v,assign (.Subscript o i pos) X.env v=(do
   let ov <- holding [v] (eval o X.env)
   let iv <- holding [v,ov] (eval i X.env)
   standAt pos
   holding [v,ov,iv] (setItem ov iv v)
   release [v,ov,iv] []):=by intro _;rfl):AG X (.Subscript o i pos) (yM co ci):=PG.imp (DL ho hi yQ ha) fun v σ H Q ⟨ρ,S,τ,a,R,r,va,h⟩=>by
 refine ⟨ρ,S,τ,R,r,aF (aL h) .refl fun o S1 h1 ρ1 H1 x e1 R1 v1=>⟨ρ1,S1,τ,R1,r.ext e1,aF (aL h1) e1 fun i S2 h2 ρ2 H2 y e2 R2 v2=>?_⟩⟩
 refine ⟨ρ2,S2,o,i,a,R2,v1.ext e2,v2,va.ext (e1.trans e2),aF (aL h2) (e1.trans e2) fun _ S3 h3 ρ3 H3 e3 R3=>?_⟩
 exact h3 ρ3 H3 σ ((e1.trans e2).trans e3) R3 (r.ext ((e1.trans e2).trans e3))
noncomputable def fX:Sm:=fun τ S=>.nx τ S
noncomputable def aZ (c d:Sm):Sm:=fun τ S=>match c τ S with
 | .nx τ' S'=>d τ' S'
 | r=>r
theorem bR:FT X [] fX:=qU.imp Eo fun D σ H ⟨ρ,S,τ,R,r,h⟩=>h ρ H σ .refl R r
theorem Fc {D:Ends} {σ:L2.St} {H:Hp} (h:tS X (aZ c d) D σ H):K1 (tS X c) (tS X d) D σ H:=by
 obtain ⟨ρ,S,τ,R,r,h⟩:=h
 refine ⟨ρ,S,τ,R,r,?_⟩
 unfold aZ at h
 cases hc:c τ S with
 | nx τ1 S1=>
  rw [hc] at h
  exact fun ρ1 H1 σ1 e1 R1 r1=>⟨ρ1,S1,τ1,R1,r1,qw.ext h e1⟩
 | rt a S1=>rw [hc] at h;exact h
 | bk τ1 S1=>rw [hc] at h;exact h
 | ct τ1 S1=>rw [hc] at h;exact h
 | ex x S1=>rw [hc] at h;exact h
 | no=>rw [hc] at h;exact h
theorem aC (h1:AS X st c) (h2:FT X rest d):FT X (st::rest) (aZ c d):=qU.imp (AD h1 h2) fun D σ H h=>Fc h
theorem aM (h1:AS X st c):FT X [st] c:=Ga h1
noncomputable def Kq:Sm:=fun τ S=>.bk τ S
noncomputable def LO:Sm:=fun τ S=>.ct τ S
noncomputable def j4 (e:Ex):Sm:=fun τ S=>.of (e τ S) fun _ S1=>.nx τ S1
theorem gR {f:Ex} (he:AE X e f) (hs:swapsWith e none pos.line X.env=pure false:=by rfl):AS X (.Expr e pos) (j4 f):=PS.imp (FA he hs) fun D σ H ⟨ρ,S,τ,R,r,h⟩=>
 ⟨ρ,S,τ,R,r,aF (of_post h) .refl fun a S1 h1 ρ1 H1 x e1 R1 v1=>h1 ρ1 H1 σ e1 R1 (r.ext e1)⟩
noncomputable def cF (e:Ex):Sm:=fun τ S=>.of (e τ S) fun a S1=>.rt a S1
theorem bB {f:Ex} (he:AE X e f):AS X (.Return (some e) pos) (cF f):=PS.imp (Ii he) fun D σ H ⟨ρ,S,τ,R,r,h⟩=>⟨ρ,S,τ,R,r,aF (of_post h) .refl fun a S1 h1=>h1⟩
noncomputable def A0:Sm:=fun τ S=>.rt .non S
theorem Es:AS X (.Return none pos) A0:=PS.imp Fe fun D σ H ⟨ρ,S,τ,R,r,h⟩=>h ρ H _ .refl R .non
noncomputable def nO (t:Te) (c d:Sm):Sm:=fun τ S=>.of (t τ S) fun b S1=>match b with | true=>c τ S1 | false=>d τ S1
theorem d7 {t:Te} {ca cb:List Stmt} (ht:AT X e t) (ha:FT X ca c) (hb:FT X cb d):AS X (.If e ca cb pos) (nO t c d):=PS.imp (Lo ht ha hb) fun D σ H ⟨ρ,S,τ,R,r,h⟩=>by
 refine ⟨ρ,S,τ,R,r,aF (of_post h) .refl fun b S1 h1 ρ1 H1 e1 R1=>?_⟩
 cases b with
 | true=>rw [if_pos rfl];exact ⟨ρ1,S1,τ,R1,r.ext e1,qw.ext h1 e1⟩
 | false=>rw [if_neg Bool.false_ne_true];exact ⟨ρ1,S1,τ,R1,r.ext e1,qw.ext h1 e1⟩
noncomputable def bE (e:Ex) (g:Tg):Sm:=fun τ S=>.of (e τ S) fun a S1=>.of (g a τ S1) fun τ' S2=>.nx τ' S2
theorem ET {f:Ex} {g:Tg} {D:Ends} {σ:L2.St} {H:Hp} (h:tS X (bE f g) D σ H):Gf (tE X f) (tG X g) D σ H:=by
 obtain ⟨ρ,S,τ,R,r,h⟩:=h
 exact ⟨ρ,S,τ,R,r,aF (of_post h) .refl fun a S1 h1 ρ1 H1 x e1 R1 v1=>⟨ρ1,S1,τ,a,R1,r.ext e1,v1,aF (of_post h1) e1 fun τ2 S2 h2=>yb.ext h2 e1⟩⟩
theorem g7 {tg:Expr} {f:Ex} {g:Tg} (he:AE X e f) (hg:AG X tg g) (hs:swapsWithSole [tg] e pos.line X.env=pure false:=by rfl) (hw:swappedStores [tg] e X.env=pure none:=by rfl)
  (h1:(assignEach [tg] X.env).map (·.2)=[assign tg X.env]:=by rfl):AS X (.Assign [tg] e pos) (bE f g):=PS.imp (JO he hg hs hw h1) fun D σ H h=>ET h
theorem a_ {i:Nat} {x:Str} {f:Ex} {pos':Pos} (hN:X.N.Nodup) (he:AE X e f) (hi:X.N[i]?=some x:=by rfl) (hx:Loc X.env.scope x:=by first | exact Or.inl rfl | exact Or.inr rfl) (hs:swapsWith e (some (.Name x pos')) pos.line X.env=pure false:=by rfl) (hf:X.fn x=true\/X.env.scope.names.lookup x=some .local:=by first | exact .inl rfl | exact .inr rfl | assumption) :
  AS X (.Assign [.Name x pos'] e pos) (bE f (bF i)):=PS.imp (I0 hN hi hx he hs hf) fun D σ H ⟨ρ,S,τ,R,r,h⟩=>
 ⟨ρ,S,τ,R,r,aF (of_post h) .refl fun a S1 h1 ρ1 H1 x e1 R1 v1=>h1 ρ1 H1 _ e1 R1 ((r.ext e1).set v1)⟩
noncomputable def Jz (i j:Nat) (c:iL):Sm:=fun τ S=>.of (c τ S) fun as S1=>match as with
 | [a,b]=>.nx ((τ.set i a).set j b) S1
 | _=>.no
theorem IJ {i j:Nat} {x y:Str} {f:iL} {px py pt:Pos} {kt k2 pt2} (hc:X.calm=true) (hN:X.N.Nodup) (ha:AL X [a,b] f) (hi:X.N[i]?=some x:=by rfl) (hj:X.N[j]?=some y:=by rfl) (hij:i≠j:=by decide)
  (hx:X.env.scope.names.lookup x=some .local:=by rfl) (hy:X.env.scope.names.lookup y=some .local:=by rfl)
  (hw:swappedStores [.Tuple [.Name x px,.Name y py] kt pt] (.Tuple [a,b] k2 pt2) X.env=pure (some [x,y]):=by rfl)
  (hs:swapsWithSole [.Tuple [.Name x px,.Name y py] kt pt] (.Tuple [a,b] k2 pt2) pos.line X.env=pure false:=by rfl) :
  AS X (.Assign [.Tuple [.Name x px,.Name y py] kt pt] (.Tuple [a,b] k2 pt2) pos) (Jz i j f):=PS.imp (HS hc hN hi hj hij hx hy ha hw hs) fun D σ H ⟨ρ,S,τ,R,r,h⟩=>by
 refine ⟨ρ,S,τ,R,r,aF (of_post h) .refl fun as S1 h1 ρ1 H1 vs e1 R1 v1=>?_⟩
 match as,h1,v1 with
 | [],h1,_=>exact h1.elim
 | [_],h1,_=>exact h1.elim
 | _::_::_::_,h1,_=>exact h1.elim
 | [p,q],h1,v1=>
  obtain ⟨v,w,rfl,g1,g2⟩:=L5 v1
  exact ⟨v,w,rfl,h1 ρ1 H1 _ e1 R1 (((r.ext e1).set g1).set g2)⟩
noncomputable def ip (X:Cx) (f:A->A->aE->R A):HG:=fun x y H Q=>∃ ρ S a b,Rel X.K ρ H S/\AV X.K ρ H a x/\AV X.K ρ H b y/\(f a b S).post (nE X ρ H Q) (XE X ρ H)
noncomputable def zL (a b:A) (S:aE):R A:=match a,b with
 | .int i,.int j=>.ok (.int (i+j)) S
 | _,_=>.no
theorem w_:Hy X .Add (ip X zL):=fun pins s σ H x y v u Q I r1 r2 ⟨ρ,S,a,b,R,va,vb,h⟩=>by
 cases va with
 | int i=>
  cases vb with
  | int j=>exact IB pins s σ H _ _ v u Q I r1 r2 ⟨i,j,rfl,rfl,h _ _ _ .refl R (.int _)⟩
  | _=>exact h.elim
 | _=>exact h.elim
theorem EW:Hy X .Sub (ip X aSub):=fun pins s σ H x y v u Q I r1 r2 ⟨ρ,S,a,b,R,va,vb,h⟩=>by
 cases va with
 | int i=>
  cases vb with
  | int j=>exact HQ pins s σ H _ _ v u Q I r1 r2 ⟨i,j,rfl,rfl,h _ _ _ .refl R (.int _)⟩
  | _=>exact h.elim
 | _=>exact h.elim
noncomputable def B3 (i:Nat) (f:A->A->aE->R A) (e:Ex):Sm:=fun τ S=>if (τ.getD i .unb).eE then .no else .of (e τ S) fun b S1=>.of (f (τ.getD i .unb) b S1) fun c S2=>.nx (τ.set i c) S2
theorem Ko {i:Nat} {x:Str} {c:Ex} {op:Operator} {f:A->A->aE->R A} {pos':Pos} (hN:X.N.Nodup) (he:AE X e c) (ho:Hy X op (ip X f)) (hi:X.N[i]?=some x:=by rfl) (hx:Loc X.env.scope x:=by first | exact Or.inl rfl | exact Or.inr rfl) (hf:X.fn x=true\/X.env.scope.names.lookup x=some .local:=by first | exact .inl rfl | exact .inr rfl | assumption) :
  AS X (.AugAssign (.Name x pos') op e pos) (B3 i f c):=PS.imp (II hN hi hx he ho hf) fun D σ H ⟨ρ,S,τ,R,r,h⟩=>by
 have key:∀ x,τ[i]?=some x->x.eE=false->(RS.of (c τ S) fun b S1=>.of (f x b S1) fun c S2=>.nx (τ.set i c) S2).post (yb X ρ H D.nx) (nE X ρ H D.rt) (yb X ρ H D.bk) (yb X ρ H D.ct) (XE X ρ H) ->
   ∃ x,σ[i]?=some (some x)/\tE X c σ H fun y H1=>ip X f x y H1 fun z H2=>D.nx (σ.set i (some z)) H2:=by
  intro x hi hx h
  rcases r.at i x hi with z | ⟨v,e,q⟩
  ·subst z;cases hx
  ·refine ⟨v,e,ρ,S,τ,R,r,aF (of_post h) .refl fun b S1 h1 ρ1 H1 y e1 R1 v1=>⟨ρ1,S1,x,b,R1,q.ext e1,v1,aF (of_post h1) e1 fun w S2 h2 ρ2 H2 z e2 R2 v2=>?_⟩⟩
   exact h2 ρ2 H2 _ (e1.trans e2) R2 ((r.ext (e1.trans e2)).set v2)
 unfold B3 qw at h
 rw [List.getD_eq_getElem?_getD] at h
 cases hi:τ[i]? with
 | none=>rw [hi] at h;exact h.elim
 | some x=>
  rw [hi] at h
  cases hx:x.eE with
  | true=>rw [show (some x).getD .unb=x from rfl,hx] at h;exact h.elim
  | false=>rw [show (some x).getD .unb=x from rfl,hx] at h;exact key x hi hx h
noncomputable def Dz (a b:A) (S:aE):R A:=match a,b with
 | .ref n,.int i=>opt (ak S n) fun xs=>gd (0<=i) (opt (xs[i.toNat]?) fun x=>.ok x S)
 | _,_=>.no
theorem FI:J_ X (r2 X Dz):=fun pins s σ H o i ov iv Q I ro ri ⟨ρ,S,a,b,R,va,vb,h⟩=>by
 cases va with
 | @ref p n hp=>
  cases vb with
  | int k=>
   obtain ⟨xs,hn,h⟩:=aK h
   obtain ⟨h0,h⟩:=bg h
   obtain ⟨x,hx,h⟩:=aK h
   obtain ⟨vs,h1,r1⟩:=R.lst hp (aP hn)
   obtain ⟨z,e,q⟩:=r1.get hx
   exact DS pins s σ H _ _ ov iv Q I ro ri ⟨p,vs,k,z,rfl,rfl,fY.of h1,h0,e,h _ _ _ .refl R q⟩
  | _=>exact h.elim
 | _=>exact h.elim
noncomputable def oQ (co ci ce:Ex) (f:A->A->aE->R A):Sm:=fun τ S=>.of (co τ S) fun o S1=>.of (ci τ S1) fun i S2=>.of (Dz o i S2) fun x S3=>.of (ce τ S3) fun y S4=>.of (f x y S4) fun z S5=>.of (tK o i z S5) fun _ S6=>.nx τ S6
theorem w6 {o i:Expr} {co ci ce:Ex} {op:Operator} {f:A->A->aE->R A} {tpos:Pos} (ho:AE X o co) (hi:AE X i ci) (he:AE X e ce) (hp:Hy X op (ip X f))
  (ha:∀ ov iv new,augStore i ov iv new=(do holding [new,ov,iv] (setItem ov iv new);release [new,ov,iv] [];pure .next):=by intros;rfl):AS X (.AugAssign (.Subscript o i tpos) op e pos) (oQ co ci ce f):=
 PS.imp (FF ho hi FI he hp yQ ha) fun D σ H ⟨ρ,S,τ,R,r,h⟩=>by
  refine ⟨ρ,S,τ,R,r,aF (of_post h) .refl fun ao S1 h1 ρ1 H1 vo e1 R1 v1=>⟨ρ1,S1,τ,R1,r.ext e1,aF (of_post h1) e1 fun ai S2 h2 ρ2 H2 vi e2 R2 v2=>?_⟩⟩
  refine ⟨ρ2,S2,ao,ai,R2,v1.ext e2,v2,aF (of_post h2) (e1.trans e2) fun ax S3 h3 ρ3 H3 vx e3 R3 v3=>?_⟩
  have e13:=(e1.trans e2).trans e3
  refine ⟨ρ3,S3,τ,R3,r.ext e13,aF (of_post h3) e13 fun ay S4 h4 ρ4 H4 vy e4 R4 v4=>?_⟩
  refine ⟨ρ4,S4,ax,ay,R4,v3.ext e4,v4,aF (of_post h4) (e13.trans e4) fun az S5 h5 ρ5 H5 vz e5 R5 v5=>?_⟩
  have e35:=(e3.trans e4).trans e5
  refine ⟨ρ5,S5,ao,ai,az,R5,v1.ext (e2.trans e35),v2.ext e35,v5,aF (of_post h5) ((e13.trans e4).trans e5) fun _ S6 h6 ρ6 H6 e6 R6=>?_⟩
  have e16:=((e13.trans e4).trans e5).trans e6
  exact h6 ρ6 H6 σ e16 R6 (r.ext e16)
noncomputable def dH (t:Te) (c:Sm):Nat->Sm
 | 0=>fun _ _=>.no
 | n+1=>fun τ S=>.of (t τ S) fun b S1=>match b with
  | false=>.nx τ S1
  | true=>match c τ S1 with
   | .nx τ' S'=>dH t c n τ' S'
   | .ct τ' S'=>dH t c n τ' S'
   | .bk τ' S'=>.nx τ' S'
   | r=>r
theorem pJ (n:Nat) {t:Te} {body:List Stmt} (hp:PassesOwn (model X.prog X.w) X.A X.env X.xe) (ht:AT X e t) (hb:FT X body c):AS X (.While e body [] pos) (dH t c n):=PS.imp (Co hp ht hb) fun D σ H ⟨ρ,S,τ,R,r,h⟩=>by
 refine ⟨fun m σ' H'=>∃ ρ' S' τ',Ext ρ ρ' H H'/\Rel X.K ρ' H' S'/\SR X.K ρ' H' τ' σ'/\qw X ρ' H' D (dH t c m τ' S'),⟨n,ρ,S,τ,.refl,R,r,h⟩,?_⟩
 rintro m σ1 H1 ⟨ρ1,S1,τ1,e1,R1,r1,h1⟩
 cases m with
 | zero=>exact h1.elim
 | succ m=>
  refine ⟨ρ1,S1,τ1,R1,r1,aF (of_post h1) .refl fun b S2 h2 ρ2 H2 e2 R2=>?_⟩
  cases b with
  | false=>rw [if_neg Bool.false_ne_true];exact h2 ρ2 H2 σ1 e2 R2 (r1.ext e2)
  | true=>
   rw [if_pos rfl]
   refine ⟨fun σ' H'=>∃ ρ' S' τ',Ext ρ ρ' H H'/\Rel X.K ρ' H' S'/\SR X.K ρ' H' τ' σ'/\qw X ρ' H' D (dH t c m τ' S'),fun σ' H' z=>⟨m,Nat.lt_succ_self _,z⟩,ρ2,S2,τ1,R2,r1.ext e2,?_⟩
   have h2:qw X ρ1 H1 D (match c τ1 S2 with
    | .nx τ' S'=>dH t c m τ' S'
    | .ct τ' S'=>dH t c m τ' S'
    | .bk τ' S'=>.nx τ' S'
    | r=>r):=h2
   cases hc:c τ1 S2 with
   | nx τ3 S3=>rw [hc] at h2;exact fun ρ3 H3 σ3 e3 R3 r3=>⟨ρ3,S3,τ3,(e1.trans e2).trans e3,R3,r3,qw.ext h2 (e2.trans e3)⟩
   | ct τ3 S3=>rw [hc] at h2;exact fun ρ3 H3 σ3 e3 R3 r3=>⟨ρ3,S3,τ3,(e1.trans e2).trans e3,R3,r3,qw.ext h2 (e2.trans e3)⟩
   | bk τ3 S3=>rw [hc] at h2;exact yb.ext h2 e2
   | rt a S3=>rw [hc] at h2;exact nE.ext h2 e2
   | ex x S3=>rw [hc] at h2;exact XE.ext h2 e2
   | no=>rw [hc] at h2;exact h2
end
end Am
namespace L2
open PySem PySem.Spec PyProof.Rows
section
variable {X:Cx}
end
end L2
namespace Am
open PySem PySem.Spec PyProof.Rows L2
section
variable {X:Cx}
end
section
variable {X:Cx} {o e:Expr} {p2 spos pos:Pos} {co ci:Ex}
end
structure Src where
 k:Nat
 get:Nat->aE->Option A
 fin:aE->Bool
structure JR (K:PySem.W.Frag) (s:Src) (J:It) (ρ0:List Addr) (H0:Hp):Prop where
 go:∀ (i:Nat) (S:aE) (H:Hp) (ρ:List Addr) (x:A),Ext0 ρ0 ρ H0 H->Rel K ρ H S->s.get i S=some x->J.go i H/\∀ v H',J.yld i H v H'->Ext ρ ρ H H'/\Rel K ρ H' S/\AV K ρ H' x v
 stop:∀ (S:aE) (H:Hp) (ρ:List Addr),Ext0 ρ0 ρ H0 H->Rel K ρ H S->s.fin S=true->J.stop s.k H
noncomputable abbrev Ic:=List A->aE->R Src
noncomputable def tI (X:Cx) (c:Ic):TI:=fun σ H Q=>∃ ρ S τ,Rel X.K ρ H S/\SR X.K ρ H τ σ/\(c τ S).post (fun s S'=>∀ ρ' H' J,Ext ρ ρ' H H'->Rel X.K ρ' H' S'->JR X.K s J ρ' H'->Q J H') (XE X ρ H)
noncomputable def AI (X:Cx) (tg iter:Expr) (c:Ic):Prop:=PI X tg iter (tI X c)
noncomputable def eN (xs:List A):Src:=⟨xs.length,fun i _=>xs[i]?,fun _=>true⟩
noncomputable def d8 (n k:Nat):Src:=⟨k,fun i S=>(ak S n).bind (·[i]?),fun S=>match ak S n with
 | some ys=>decide (ys.length<=k)
 | none=>false⟩
noncomputable def cM (lo hi:Int):Src:=⟨(hi - lo).toNat,fun i _=>if i < (hi - lo).toNat then some (.int (lo+i)) else none,fun _=>true⟩
noncomputable def fK (c:Ex):Ic:=fun τ S=>(c τ S).bind fun a S1=>match a with
 | .tup xs=>.ok (eN xs) S1
 | .frz xs=>.ok (eN xs) S1
 | .ref n=>opt (ak S1 n) fun xs=>.ok (d8 n xs.length) S1
 | .str x=>gd (x.cps.all (· < 128)=true) (.ok (eN (x.cps.toList.map fun c=>.str ⟨#[c]⟩)) S1)
 | _=>.no
section
variable {X:Cx} {pos:Pos} {tg e a b:Expr}
theorem Jm {K:PySem.W.Frag} {ρ0:List Addr} {H0:Hp} {p:Addr} {xs:List A} {vs:List V} (h:dF K H0 p vs) (r:AVs K ρ0 H0 xs vs):JR K (eN xs) (Nv K p) ρ0 H0 where
 go:=fun i S H ρ x e R g=>by
  obtain ⟨v,ev,av⟩:=(AVs.dB e r).get g
  have hs:=e.NR h
  refine ⟨⟨vs,v,hs,ev⟩,fun w H' ⟨e1,y⟩=>?_⟩
  subst e1
  have:=y vs hs
  rw [ev] at this
  cases this
  exact ⟨.refl,R,av⟩
 stop:=fun S H ρ e R _=>⟨vs,e.NR h,by rw [<- r.length];exact Nat.le_refl _⟩
theorem HP {K:PySem.W.Frag} {ρ0:List Addr} {H0:Hp} {p:Addr} {xs:List A} {vs:List V} (h:Fz K H0 p vs) (r:AVs K ρ0 H0 xs vs):JR K (eN xs) (Mf K p) ρ0 H0 where
 go:=fun i S H ρ x e R g=>by
  obtain ⟨v,ev,av⟩:=(AVs.dB e r).get g
  have hs:=(e.fz h).Ei
  refine ⟨⟨vs,v,hs,ev⟩,fun w H' ⟨e1,y⟩=>?_⟩
  subst e1
  have:=y vs hs
  rw [ev] at this
  cases this
  exact ⟨.refl,R,av⟩
 stop:=fun S H ρ e R _=>⟨vs,(e.fz h).Ei,by rw [<- r.length];exact Nat.le_refl _⟩
theorem Kf {K:PySem.W.Frag} {ρ0:List Addr} {H0:Hp} {p:Addr} {n k:Nat} (h:ρ0[n]?=some p):JR K (d8 n k) (Mf K p) ρ0 H0 where
 go:=fun i S H ρ x e R g=>by
  obtain ⟨ys,hn,hx⟩:=Option.bind_eq_some_iff.mp (show (ak S n).bind (·[i]?)=some x from g)
  obtain ⟨vs,h1,r⟩:=R.lst (e.get h) (aP hn)
  obtain ⟨v,ev,av⟩:=r.get hx
  refine ⟨⟨vs,v,fY.of h1,ev⟩,fun w H' ⟨e1,y⟩=>?_⟩
  subst e1
  have:=y vs (fY.of h1)
  rw [ev] at this
  cases this
  exact ⟨.refl,R,av⟩
 stop:=fun S H ρ e R g=>by
  have g:(match ak S n with
   | some ys=>decide (ys.length<=k)
   | none=>false)=true:=g
  cases hn:ak S n with
  | none=>rw [hn] at g;cases g
  | some ys=>
   rw [hn] at g
   obtain ⟨vs,h1,r⟩:=R.lst (e.get h) (aP hn)
   exact ⟨vs,fY.of h1,by rw [<- r.length];exact of_decide_eq_true g⟩
theorem BE {K:PySem.W.Frag} {ρ0:List Addr} {H0:Hp} {lo hi:Int}:JR K (cM lo hi) (LB lo (hi - lo).toNat) ρ0 H0 where
 go:=fun i S H ρ x e R g=>by
  have g:(if i < (hi - lo).toNat then some (A.int (lo+i)) else none)=some x:=g
  by_cases hi':i < (hi - lo).toNat
  ·rw [if_pos hi'] at g
   cases g
   refine ⟨hi',fun w H' ⟨e1,y⟩=>?_⟩
   subst e1 y
   exact ⟨.refl,R,.int _⟩
  ·rw [if_neg hi'] at g;cases g
 stop:=fun S H ρ e R _=>Nat.le_refl _
theorem HL {K:PySem.W.Frag} {ρ0:List Addr} {H0:Hp} {x:Str}:JR K (eN (x.cps.toList.map fun c=>A.str ⟨#[c]⟩)) (Nt x) ρ0 H0 where
 go:=fun i S H ρ y e R g=>by
  have g:(x.cps.toList.map fun c=>A.str ⟨#[c]⟩)[i]?=some y:=g
  rw [List.getElem?_map] at g
  obtain ⟨c,hc,rfl⟩:=Option.map_eq_some_iff.mp g
  rw [Array.getElem?_toList] at hc
  refine ⟨(Array.getElem?_eq_some_iff.mp hc).1,fun w H' ⟨e1,c',hc',y'⟩=>?_⟩
  rw [hc] at hc'
  cases hc'
  subst e1 y'
  exact ⟨.refl,R,.str _⟩
 stop:=fun S H ρ e R _=>by
  show (x.cps.toList.map fun c=>A.str ⟨#[c]⟩).length=x.cps.size
  rw [List.length_map,Array.length_toList]
theorem gF {c:Ex} (he:AE X e c):AI X tg e (fK c):=fun pins s σ H Q I ⟨ρ,S,τ,R,r,h⟩=>by
 have hb:=aL h
 cases hc:c τ S with
 | no=>rw [hc] at hb;exact hb.elim
 | ex x S1=>
  rw [hc] at hb
  exact C7 he pins s σ H Q I ⟨ρ,S,τ,R,r,by rw [hc];exact hb⟩
 | ok a S1=>
  rw [hc] at hb
  cases a with
  | tup xs=>
   refine C7 he pins s σ H Q I ⟨ρ,S,τ,R,r,?_⟩
   rw [hc]
   intro ρ1 H1 x e1 R1 v1
   cases v1 with
   | tup h1 r1=>exact ⟨_,rfl,⟨_,(dF.of h1)⟩,hb ρ1 H1 _ e1 R1 (Jm (dF.of h1) r1)⟩
  | frz xs=>
   refine wH he pins s σ H Q I ⟨ρ,S,τ,R,r,?_⟩
   rw [hc]
   intro ρ1 H1 x e1 R1 v1
   cases v1 with
   | frz h1 r1=>exact ⟨_,rfl,⟨_,h1.Ei⟩,hb ρ1 H1 _ e1 R1 (HP h1 r1)⟩
  | ref n=>
   obtain ⟨xs,hn,hb⟩:=aK hb
   refine wH he pins s σ H Q I ⟨ρ,S,τ,R,r,?_⟩
   rw [hc]
   intro ρ1 H1 x e1 R1 v1
   cases v1 with
   | ref hp=>
    obtain ⟨vs,h1,r1⟩:=R1.lst hp (aP hn)
    exact ⟨_,rfl,⟨_,fY.of h1⟩,hb ρ1 H1 _ e1 R1 (Kf hp)⟩
  | str x=>
   obtain ⟨ha,hb⟩:=bg hb
   refine Ih he pins s σ H Q I ⟨ρ,S,τ,R,r,?_⟩
   rw [hc]
   intro ρ1 H1 v e1 R1 v1
   cases v1 with
   | str=>exact ⟨x,rfl,ha,hb ρ1 H1 _ e1 R1 HL⟩
  | _=>exact hb.elim
noncomputable def bnd (i:Int):Prop:=-(2 ^ 62)<=i/\i < 2 ^ 62
instance (i:Int):Decidable (bnd i):=by unfold bnd;infer_instance
noncomputable def gY (c:Ex):Ic:=fun τ S=>(c τ S).bind fun a S1=>match a with
 | .int j=>gd (bnd j) (.ok (cM 0 j) S1)
 | _=>.no
noncomputable def gz (c d:Ex):Ic:=fun τ S=>(c τ S).bind fun a S1=>(d τ S1).bind fun b S2=>match a,b with
 | .int i,.int j=>gd (bnd i/\bnd j) (.ok (cM i j) S2)
 | _,_=>.no
theorem dw {p:Pos} {c:Ex} (hm:X.mg "range" = none) (ha:AE X a c) (hg:Gl X "range" := by rfl) (hs:starEach [a] X.env=[(false,eval a X.env)]:=by rfl):AI X tg (.Call (.Name "range" p) [a] [] pos) (gY c):=fun pins s σ H Q I ⟨ρ,S,τ,R,r,h⟩=>by
 refine zF hg hm (ng ha u9 hs) hs pins s σ H Q I ⟨ρ,S,τ,R,r,aF (aL h) .refl fun x S1 h1 ρ1 H1 v e1 R1 v1=>?_⟩
 cases v1 with
 | int j=>
  obtain ⟨hb,h1⟩:=bg h1
  exact ⟨_,rfl,hb.1,hb.2,by have:=h1 ρ1 H1 _ e1 R1 BE;rwa [Int.sub_zero] at this⟩
 | _=>exact h1.elim
theorem iC {p:Pos} {c d:Ex} (hm:X.mg "range" = none) (ha:AE X a c) (hb:AE X b d) (hg:Gl X "range" := by rfl) (hs:starEach [a,b] X.env=[(false,eval a X.env),(false,eval b X.env)]:=by rfl) (hs2:starEach [b] X.env=[(false,eval b X.env)]:=by rfl):AI X tg (.Call (.Name "range" p) [a,b] [] pos) (gz c d):=fun pins s σ H Q I ⟨ρ,S,τ,R,r,h⟩=>by
 refine zI hg hm (ng ha (ng hb u9 hs2) (by rw [hs,hs2])) hs hs2 pins s σ H Q I ⟨ρ,S,τ,R,r,aF (aL h) .refl fun x S1 h1 ρ1 H1 v e1 R1 v1=>⟨ρ1,S1,τ,R1,r.ext e1,aF (aL h1) e1 fun y S2 h2 ρ2 H2 w e2 R2 v2=>?_⟩⟩
 cases v1 with
 | int i=>
  cases v2 with
  | int j=>
   obtain ⟨hb,h2⟩:=bg h2
   exact ⟨_,_,rfl,⟨hb.1.1,hb.1.2,hb.2.1,hb.2.2⟩,h2 ρ2 H2 _ (e1.trans e2) R2 BE⟩
  | _=>exact h2.elim
 | _=>exact h2.elim
noncomputable def gS (s:Src) (g:Tg) (c:Sm):Nat->Nat->Sm
 | 0,_=>fun τ S=>if s.fin S then .nx τ S else .no
 | k+1,i=>fun τ S=>match s.get i S with
  | none=>.no
  | some x=>.of (g x τ S) fun τ1 S1=>match c τ1 S1 with
   | .nx τ' S'=>gS s g c k (i+1) τ' S'
   | .ct τ' S'=>gS s g c k (i+1) τ' S'
   | .bk τ' S'=>.nx τ' S'
   | r=>r
noncomputable def gp (src:Ic) (g:Tg) (c:Sm):Sm:=fun τ S=>.of (src τ S) fun s S1=>gS s g c s.k 0 τ S1
theorem eV {iter:Expr} {body:List Stmt} {src:Ic} {g:Tg} {c:Sm} (hp:PassesOwn (model X.prog X.w) X.A X.env X.xe) (hc:X.calm=true) (hi:AI X tg iter src) (hg:AG X tg g) (hb:FT X body c)
  (hs:∀ x,foldedSetIterable iter X.env x=pure x:=by intro _;rfl):AS X (.For tg iter body [] pos) (gp src g c):=PS.imp (J8 hp hc hi hg hb hs) fun D σ H ⟨ρ,S,τ,R,r,h⟩=>by
 refine ⟨ρ,S,τ,R,r,aF (of_post h) .refl fun s S1 h1 ρ1 H1 J e1 R1 jr=>?_⟩
 refine ⟨fun i m σ' H'=>m+i=s.k/\∃ ρ' S' τ',Ext ρ1 ρ' H1 H'/\Rel X.K ρ' H' S'/\SR X.K ρ' H' τ' σ'/\qw X ρ' H' D (gS s g c m i τ' S'),⟨s.k,rfl,ρ1,S1,τ,.refl,R1,r.ext e1,qw.ext h1 e1⟩,?_⟩
 rintro i m σ2 H2 ⟨hm,ρ2,S2,τ2,e2,R2,r2,h2⟩
 cases m with
 | zero=>
  left
  have h2:qw X ρ2 H2 D (if s.fin S2 then .nx τ2 S2 else .no):=h2
  cases hf:s.fin S2 with
  | false=>rw [hf] at h2;exact h2.elim
  | true=>
   rw [hf] at h2
   refine ⟨by rw [show i=s.k by omega];exact jr.stop S2 H2 ρ2 e2.toExt0 R2 hf,h2 ρ2 H2 σ2 .refl R2 r2⟩
 | succ m=>
  right
  have h2:qw X ρ2 H2 D (match s.get i S2 with
   | none=>.no
   | some x=>.of (g x τ2 S2) fun τ1 S1=>match c τ1 S1 with
    | .nx τ' S'=>gS s g c m (i+1) τ' S'
    | .ct τ' S'=>gS s g c m (i+1) τ' S'
    | .bk τ' S'=>.nx τ' S'
    | r=>r):=h2
  cases hx:s.get i S2 with
  | none=>rw [hx] at h2;exact h2.elim
  | some x=>
   rw [hx] at h2
   obtain ⟨hgo,hy⟩:=jr.go i S2 H2 ρ2 x e2.toExt0 R2 hx
   refine ⟨hgo,fun σ' H'=>m+(i+1)=s.k/\∃ ρ' S' τ',Ext ρ1 ρ' H1 H'/\Rel X.K ρ' H' S'/\SR X.K ρ' H' τ' σ'/\qw X ρ' H' D (gS s g c m (i+1) τ' S'),fun σ' H' z=>⟨m,Nat.lt_succ_self _,z⟩,fun v H3 y=>?_⟩
   obtain ⟨e3,R3,v3⟩:=hy v H3 y
   refine ⟨ρ2,S2,τ2,x,R3,r2.ext e3,v3,aF (of_post h2) e3 fun τ4 S4 h4 ρ4 H4 σ4 e4 R4 r4=>⟨ρ4,S4,τ4,R4,r4,?_⟩⟩
   have e24:=e3.trans e4
   cases hcc:c τ4 S4 with
   | nx τ5 S5=>rw [hcc] at h4;exact fun ρ5 H5 σ5 e5 R5 r5=>⟨by omega,ρ5,S5,τ5,(e2.trans e24).trans e5,R5,r5,qw.ext h4 (e24.trans e5)⟩
   | ct τ5 S5=>rw [hcc] at h4;exact fun ρ5 H5 σ5 e5 R5 r5=>⟨by omega,ρ5,S5,τ5,(e2.trans e24).trans e5,R5,r5,qw.ext h4 (e24.trans e5)⟩
   | bk τ5 S5=>rw [hcc] at h4;exact yb.ext h4 e24
   | rt x5 S5=>rw [hcc] at h4;exact nE.ext h4 e24
   | ex x5 S5=>rw [hcc] at h4;exact XE.ext h4 e24
   | no=>rw [hcc] at h4;exact h4
end
section
variable {X:Cx} {tg a b c0:Expr} {pos:Pos}
end
noncomputable def R.dc {α β:Type} (r:R α) (f:α->aE->R β):R β:=match r with
 | .ok a S=>f a S
 | _=>.no
theorem cC {α β:Type} {r:R α} {f:α->aE->R β} {b:β} {S2:aE} (h:r.dc f=.ok b S2):∃ a S,r=.ok a S/\f a S=.ok b S2:=by
 cases r with
 | ok a S=>exact ⟨a,S,rfl,h⟩
 | ex _ _=>cases h
 | no=>cases h
theorem o5 {α β:Type} {r:R α} {f:α->aE->R β} {P:β->aE->Prop} {E:Str->aE->Prop} (h:(r.dc f).post P E):∃ a S,r=.ok a S/\(f a S).post P E:=by
 cases r with
 | ok a S=>exact ⟨a,S,rfl,h⟩
 | ex _ _=>exact h.elim
 | no=>exact h.elim
theorem u5 {α β:Type} {o:Option β} {f:β->R α} {a:α} {S:aE} (h:opt o f=.ok a S):∃ b,o=some b/\f b=.ok a S:=by
 cases o with
 | none=>cases h
 | some b=>exact ⟨b,rfl,h⟩
noncomputable def eB (s:Src) (g:Tg) (t:Te) (e:Ex):Nat->Nat->List A->aE->R (List A)
 | 0,_=>fun _ S=>if s.fin S then .ok [] S else .no
 | k+1,i=>fun τ S=>opt (s.get i S) fun x=>(g x τ S).dc fun τ1 S1=>(t τ1 S1).dc fun b S2=>match b with
  | true=>(e τ1 S2).dc fun y S3=>(eB s g t e k (i+1) τ1 S3).dc fun ys S4=>.ok (y::ys) S4
  | false=>eB s g t e k (i+1) τ1 S2
noncomputable def eT (cap:List (Option Nat)) (τ:List A):List A:=cap.map fun o=>match o with
 | some j=>τ.getD j .unb
 | none=>.unb
noncomputable def bW (cap:List (Option Nat)) (src:Ic) (g:Tg) (t:Te) (e:Ex):Ex:=fun τ S=>(src τ S).bind fun s S1=>(eB s g t e s.k 0 (eT cap τ) S1).dc fun ys S2=>newL ys S2
noncomputable def pN:Te:=fun _ S=>.ok true S
theorem tR {s:Src} {g:Tg} {t:Te} {e:Ex} {k i:Nat} {τ:List A} {S S':aE} {zs:List A} (h:eB s g t e (k+1) i τ S=.ok zs S') :
  ∃ x τ1 S1 b S2,s.get i S=some x/\g x τ S=.ok τ1 S1/\t τ1 S1=.ok b S2/\(b=true->∃ y S3 ws,e τ1 S2=.ok y S3/\eB s g t e k (i+1) τ1 S3=.ok ws S'/\zs=y::ws)/\(b=false->eB s g t e k (i+1) τ1 S2=.ok zs S'):=by
 obtain ⟨x,hx,h⟩:=u5 h
 obtain ⟨τ1,S1,h1,h⟩:=cC h
 obtain ⟨b,S2,h2,h⟩:=cC h
 refine ⟨x,τ1,S1,b,S2,hx,h1,h2,fun hb=>?_,fun hb=>?_⟩
 ·subst hb
  obtain ⟨y,S3,h3,h⟩:=cC h
  obtain ⟨ws,S4,h4,h⟩:=cC h
  cases h
  exact ⟨y,S3,ws,h3,h4,rfl⟩
 ·subst hb;exact h
noncomputable def Le (K:PySem.W.Frag) (c:Ex):TE:=fun σ H Q=>∃ ρ S τ a S',Rel K ρ H S/\SR K ρ H τ σ/\c τ S=.ok a S'/\∀ ρ' H' v,Ext ρ ρ' H H'->Rel K ρ' H' S'->AV K ρ' H' a v->Q v H'
noncomputable def J4 (K:PySem.W.Frag) (c:Te):TT:=fun σ H Q=>∃ ρ S τ a S',Rel K ρ H S/\SR K ρ H τ σ/\c τ S=.ok a S'/\∀ ρ' H',Ext ρ ρ' H H'->Rel K ρ' H' S'->Q a H'
noncomputable def KC (K:PySem.W.Frag) (g:Tg):TG:=fun v σ H Q=>∃ ρ S τ a τ' S',Rel K ρ H S/\SR K ρ H τ σ/\AV K ρ H a v/\g a τ S=.ok τ' S'/\∀ ρ' H' σ',Ext ρ ρ' H H'->Rel K ρ' H' S'->SR K ρ' H' τ' σ'->Q σ' H'
section
variable {X:Cx} {pos:Pos} {tg iter elt e:Expr} {ifs:List Expr} {scope:Scope} {N:List Str} {cap:List (Option Nat)} {src:Ic} {g:Tg} {t:Te} {c:Ex}
theorem AE.e0 {K:PySem.W.Frag} (hK:X.K=K) (h:AE X e c):PE X e (Le K c):=PE.imp h fun σ H Q ⟨ρ,S,τ,a,S',R,r,hc,q⟩=>⟨ρ,S,τ,by rw [hK];exact R,by rw [hK];exact r,by rw [hc];exact fun ρ' H' v e R' v'=>q ρ' H' v e (by rw [<- hK];exact R') (by rw [<- hK];exact v')⟩
theorem AT.t0 {K:PySem.W.Frag} (hK:X.K=K) (h:AT X e t):PT X e (J4 K t):=PT.imp h fun σ H Q ⟨ρ,S,τ,a,S',R,r,hc,q⟩=>⟨ρ,S,τ,by rw [hK];exact R,by rw [hK];exact r,by rw [hc];exact fun ρ' H' e R'=>q ρ' H' e (by rw [<- hK];exact R')⟩
theorem AG.g0 {K:PySem.W.Frag} (hK:X.K=K) (h:AG X e g):PG X e (KC K g):=PG.imp h fun v σ H Q ⟨ρ,S,τ,a,τ',S',R,r,va,hc,q⟩=>⟨ρ,S,τ,a,by rw [hK];exact R,by rw [hK];exact r,by rw [hK];exact va,by rw [hc];exact fun ρ' H' v e R' v'=>q ρ' H' v e (by rw [<- hK];exact R') (by rw [<- hK];exact v')⟩
noncomputable def KD (X:Cx) (ifs:List Expr) (t:Te):Prop:=Eh X ifs (J4 X.K t)
theorem nG:KD X [] pN:=fun pins s σ H Q I ⟨ρ,S,τ,a,S',R,r,hc,q⟩=>Ep pins s σ H Q I (by cases hc;exact q ρ H .refl R)
theorem fP (h:AT X e t):KD X [e] t:=Ek (h.t0 rfl)
theorem Gs {K:PySem.W.Frag} {ρ:List Addr} {H:Hp} {τ:List A} {σ:L2.St} (r:SR K ρ H τ σ) (cap:List (Option Nat)):SR K ρ H (eT cap τ) (cap.map (Gd σ)):=by
 refine ⟨by simp [eT],fun i a h=>?_⟩
 unfold eT at h
 rw [List.getElem?_map] at h
 obtain ⟨o,ho,e⟩:=Option.map_eq_some_iff.mp h
 cases o with
 | none=>exact .inl e.symm
 | some j=>
  have e:τ.getD j .unb=a:=e
  cases hj:τ[j]? with
  | none=>rw [List.getD_eq_getElem?_getD,hj] at e;exact .inl e.symm
  | some b=>
   rw [List.getD_eq_getElem?_getD,hj] at e
   have e:b=a:=e
   subst e
   rcases r.at j b hj with z | ⟨v,h1,h2⟩
   ·exact .inl z
   ·exact .inr ⟨v,by rw [List.getElem?_map,ho];show some ((σ[j]?).getD none)=_;rw [h1];rfl,h2⟩
theorem Rel.Ci {K:PySem.W.Frag} {ρ:List Addr} {H:Hp} {S:aE} {p:Addr} (R:Rel K ρ H S) (hp:H p=none):p∉ρ:=fun hm=>by
 obtain ⟨n,hn,e⟩:=List.mem_iff_getElem.mp hm
 have hl:n < S.length:=by rw [<- R.len];exact hn
 have:=R.at n p S[n] (by rw [List.getElem?_eq_getElem hn,e]) (List.getElem?_eq_getElem hl)
 cases ho:S[n] with
 | lst xs=>rw [ho] at this;obtain ⟨vs,h,_⟩:=this;rw [hp] at h;cases h
 | dct _ | dki _=>rw [ho] at this;obtain ⟨vs,h,_⟩:=this;rw [hp] at h;cases h
 | ins _ _=>rw [ho] at this;obtain ⟨_,_,h⟩:=this;rw [hp] at h;cases h
theorem t7 (σ:L2.St) (H:Hp) (Q:VK) (h:tE X (bW cap src g t c) σ H Q):Lb cap (tI X src) (KC X.K g) (J4 X.K t) (Le X.K c) σ H Q:=by
 obtain ⟨ρ,S,τ,R,r,h⟩:=h
 refine ⟨ρ,S,τ,R,r,aF (aL h) .refl fun s S1 h1 ρ1 H1 J e1 R1 jr D hD=>?_⟩
 obtain ⟨ys,S2,hcg,h1⟩:=o5 h1
 obtain ⟨hlen,h1⟩:=bg h1
 have h1:nE X ρ H Q (.ref S2.length) (S2++[.lst ys]):=h1
 obtain ⟨eD,RD⟩:=R1.im (u:=.lst []) hD
 have nD:=R1.Ci hD
 refine ⟨fun i m σ' H'=>m+i=s.k/\∃ ρ' S' τ' acc zs accV,Ext0 ρ1 ρ' H1 H'/\(∀ a u,a≠D->H1 a=some u->a∉ρ1->H' a=some u)/\(∀ a∈ρ',a∈ρ1\/H1 a=none)/\D∉ρ'/\H' D=some (.lst accV)/\Rel X.K ρ' H' S'/\SR X.K ρ' H' τ' σ'/\AVs X.K ρ' H' acc accV/\eB s g t c m i τ' S'=.ok zs S2/\acc++zs=ys,
  ⟨s.k,rfl,ρ1,S1,eT cap τ,[],ys,[],eD.toExt0,fun a u na hu _=>by rw [aN na];exact hu,fun a ha=>.inl ha,nD,bG,RD,(Gs ((r.ext e1).ext eD) cap),.nil,hcg,rfl⟩,?_⟩
 rintro i m σ3 H3 ⟨hm,ρ3,S3,τ3,acc,zs,accV,e3,fr3,nw3,nD3,hD3,R3,r3,ac3,cg3,eys⟩
 cases m with
 | zero=>
  left
  have cg3:(if s.fin S3 then Am.R.ok [] S3 else .no)=.ok zs S2:=cg3
  cases hf:s.fin S3 with
  | false=>rw [hf] at cg3;cases cg3
  | true=>
   rw [hf] at cg3
   cases cg3
   rw [List.append_nil] at eys
   subst eys
   refine ⟨by rw [show i=s.k by omega];exact jr.stop _ H3 ρ3 e3 R3 hf,?_⟩
   obtain ⟨RT,gt⟩:=R3.take hD3 nD3 ac3
   refine h1 (ρ3++[D]) H3 _ (e1.trans ⟨⟨e3.pre.trans (List.prefix_append _ _),e3.im⟩,fun a u hu na=>fr3 a u (aU hu hD) hu na,fun a ha=>?_⟩) RT (.ref gt)
   rcases List.mem_append.mp ha with z | z
   ·exact nw3 a z
   ·have:a=D:=by simpa using z
    rw [this];exact .inr hD
 | succ m=>
  right
  obtain ⟨x,τ4,S4,b,S5,hx,hg4,ht5,hT,hF⟩:=tR cg3
  obtain ⟨hgo,hy⟩:=jr.go i S3 H3 ρ3 x e3 R3 hx
  refine ⟨hgo,fun v H4 y=>?_⟩
  obtain ⟨e4,R4,v4⟩:=hy v H4 y
  refine ⟨ρ3,S3,τ3,x,τ4,S4,R4,r3.ext e4,v4,hg4,fun ρ5 H5 σ5 e5 R5 r5=>?_⟩
  refine ⟨ρ5,S4,τ4,b,S5,R5,r5,ht5,fun ρ6 H6 e6 R6=>?_⟩
  have e36:=(e4.trans e5).trans e6
  have stay:∀ {ρ7:List Addr} {H7:Hp},Ext ρ3 ρ7 H3 H7->Ext0 ρ1 ρ7 H1 H7/\(∀ a u,a≠D->H1 a=some u->a∉ρ1->H7 a=some u)/\(∀ a∈ρ7,a∈ρ1\/H1 a=none)/\D∉ρ7/\H7 D=some (.lst accV):=fun {ρ7 H7} e7=>by
   refine ⟨⟨e3.pre.trans e7.pre,fun a u i h=>e7.im a u i (e3.im a u i h)⟩,fun a u na hu nr=>e7.fr a u (fr3 a u na hu nr) fun z=>(nw3 a z).elim nr fun z=>by (rw [z] at hu;cases hu),fun a ha=>?_,fun z=>(e7.nw D z).elim nD3 fun z=>by (rw [hD3] at z;cases z),e7.fr D _ hD3 nD3⟩
   by_cases hr:a∈ρ1
   ·exact .inl hr
   ·right
    cases q:H1 a with
    | none=>rfl
    | some u=>
     have aD:a≠D:=aU q hD
     rcases e7.nw a ha with z | z
     ·exact ((nw3 a z).elim hr fun z=>by (rw [z] at q;cases q)).elim
     ·rw [fr3 a u aD q hr] at z;cases z
  cases b with
  | false=>
   dsimp only
   rw [if_neg Bool.false_ne_true]
   obtain ⟨g1,g2,g3,g4,g5⟩:=stay e36
   exact ⟨m,Nat.lt_succ_self _,by omega,ρ6,S5,τ4,acc,zs,accV,g1,g2,g3,g4,g5,R6,r5.ext e6,ac3.ext e36,hF rfl,eys⟩
  | true=>
   dsimp only
   rw [if_pos rfl]
   obtain ⟨y,S6,ws,he6,cg6,ezs⟩:=hT rfl
   refine ⟨ρ6,S5,τ4,y,S6,R6,r5.ext e6,he6,fun ρ7 H7 w e7 R7 v7=>?_⟩
   obtain ⟨g1,g2,g3,g4,g5⟩:=stay (e36.trans e7)
   obtain ⟨ex8,R8⟩:=R7.out (ws:=accV++[w]) g5 g4
   have l1:=ac3.length
   refine ⟨accV,g5,?_,m,Nat.lt_succ_self _,by omega,ρ7,S6,τ4,acc++[y],ws,accV++[w],?_,fun a u na hu nr=>by rw [aN na];exact g2 a u na hu nr,g3,g4,bG,R8,(r5.ext (e6.trans e7)).dB ex8,(AVs.dB ex8 ((ac3.ext (e36.trans e7)).append (.one v7))),cg6,?_⟩
   ·have:(acc++zs).length<=sizeLine:=by rw [eys];exact hlen
    rw [ezs,List.length_append,List.length_cons] at this
    omega
   ·exact ⟨g1.pre,fun a u i h=>ex8.im a u i (g1.im a u i h)⟩
   ·rw [List.append_assoc,<- eys,ezs];rfl
theorem fU (hc:X.calm=true) (Sc:CpScope X scope N cap) (hi:AI X tg iter src) (hg:∀ C s₀ H₀ ex,AG (bQ X scope N C s₀ H₀ ex) tg g) (ht:∀ C s₀ H₀ ex,KD (bQ X scope N C s₀ H₀ ex) ifs t) (he:∀ C s₀ H₀ ex,AE (bQ X scope N C s₀ H₀ ex) elt c)
  (hs:∀ x,foldedSetIterable iter X.env x=pure x:=by intro _;rfl):AE X (.ListComp elt [⟨tg,iter,ifs,0⟩] scope pos) (bW cap src g t c):=
 PE.imp (LA hc Sc hi (g:=KC X.K g) (tc:=J4 X.K t) (te:=Le X.K c) (fun C s₀ H₀ ex=>(hg C s₀ H₀ ex).g0 rfl) (fun C s₀ H₀ ex=>ht C s₀ H₀ ex) (fun C s₀ H₀ ex=>(he C s₀ H₀ ex).e0 rfl) hs) t7
theorem xD {i:Nat} {x:Str} {pos' spos:Pos} (hN:X.N.Nodup) (hc:X.calm=true) (Sc:CpScope X scope N cap) (hi:AI X tg iter src) (hg:∀ C s₀ H₀ ex,AG (bQ X scope N C s₀ H₀ ex) tg g) (ht:∀ C s₀ H₀ ex,KD (bQ X scope N C s₀ H₀ ex) ifs t) (he:∀ C s₀ H₀ ex,AE (bQ X scope N C s₀ H₀ ex) elt c)
  (hi':X.N[i]?=some x:=by rfl) (hx:Loc X.env.scope x:=by first | exact Or.inl rfl | exact Or.inr rfl)
  (hsw:swapsWith (.ListComp elt [⟨tg,iter,ifs,0⟩] scope pos) (some (.Name x pos')) spos.line X.env=pure true:=by rfl) (hf:X.fn x=true\/X.env.scope.names.lookup x=some .local:=by first | exact .inl rfl | exact .inr rfl | assumption)
  (hs:∀ x,foldedSetIterable iter X.env x=pure x:=by intro _;rfl):AS X (.Assign [.Name x pos'] (.ListComp elt [⟨tg,iter,ifs,0⟩] scope pos) spos) (bE (bW cap src g t c) (bF i)):=
 PS.imp (A8 hN hi' hx hc Sc hi (g:=KC X.K g) (tc:=J4 X.K t) (te:=Le X.K c) (fun C s₀ H₀ ex=>(hg C s₀ H₀ ex).g0 rfl) (fun C s₀ H₀ ex=>ht C s₀ H₀ ex) (fun C s₀ H₀ ex=>(he C s₀ H₀ ex).e0 rfl) hsw hf hs) fun D σ H ⟨ρ,S,τ,R,r,h⟩=>
  t7 σ H _ ⟨ρ,S,τ,R,r,aF (of_post h) .refl fun a S1 h1 ρ1 H1 x e1 R1 v1=>h1 ρ1 H1 _ e1 R1 ((r.ext e1).set v1)⟩
end
noncomputable def A.lst? (S:aE):A->Option (List A)
 | .ref n=>ak S n
 | _=>none
noncomputable def HJ (f:A->List A->aE->R A) (co:Ex) (d:iL):Ex:=fun τ S=>(co τ S).bind fun o S1=>opt (o.lst? S1) fun _=>(d τ S1).bind fun as S2=>f o as S2
noncomputable def J1 (f:A->List A->aE->R A) (co:Ex):Ex:=fun τ S=>(co τ S).bind fun o S1=>opt (o.lst? S1) fun _=>f o [] S1
noncomputable def rM (X:Cx) (f:A->List A->aE->R A):V->List V->Hp->VK->Prop:=fun x vs H Q=>∃ ρ S o as,Rel X.K ρ H S/\AV X.K ρ H o x/\AVs X.K ρ H as vs/\(f o as S).post (nE X ρ H Q) (XE X ρ H)
section
variable {X:Cx} {pos apos cpos:Pos} {o e:Expr} {es:List Expr} {name:Str} {id:String} {f:A->List A->aE->R A} {co:Ex} {d:iL}
theorem lst?_ty {K:PySem.W.Frag} {ρ:List Addr} {H:Hp} {S:aE} {x:A} {v:V} {xs:List A} (R:Rel K ρ H S) (h:AV K ρ H x v) (e:x.lst? S=some xs):Ma K "list" v H:=by
 cases h with
 | ref h=>
  obtain ⟨vs,h1,_⟩:=R.lst h (aP e)
  exact .inl ⟨rfl,vs,fY.of h1⟩
 | _=>cases e
theorem sS (slot:Slot "list" name id) (hty:typeOf (.builtin id)=pure (.type "method_descriptor")) (hm:IW X id (rM X f)) (ho:AE X o co) (ha:AL X (e::es) d)
  (hbase:attributeBase o name X.env (eval o X.env)=eval o X.env:=by rfl)
  (hfew:((backTo cpos (starEach (e::es) X.env)).all (fun x=>!x.1) && (backToKw cpos (keywordEach [] X.env)).all (fun x=>x.1.isSome)
   && decide ((e::es).length+([]:List Keyword).length+(if ([]:List Keyword).isEmpty then 0 else 1) < 30))=true:=by rfl)
  (hline:(apos.endLine == cpos.line)=true:=by rfl) (hs:starEach (e::es) X.env=(false,eval e X.env)::starEach es X.env:=by rfl) (hplain:(backTo cpos (starEach es X.env)).any (·.1)=false:=by rfl) :
  AE X (.Call (.Attribute o name apos) (e::es) [] cpos) (HJ f co d):=PE.imp (Lx PySem.F.plainAttrs_list slot hty hm ho ha hbase hfew hline hs hplain) fun σ H Q ⟨ρ,S,τ,R,r,h⟩=>by
 refine ⟨ρ,S,τ,R,r,aF (aL h) .refl fun x S1 h1 ρ1 H1 v e1 R1 v1=>?_⟩
 obtain ⟨xs,hx,h1⟩:=aK h1
 refine ⟨lst?_ty R1 v1 hx,ρ1,S1,τ,R1,r.ext e1,aF (aL h1) e1 fun as S2 h2 ρ2 H2 vs e2 R2 v2=>?_⟩
 exact ⟨ρ2,S2,x,as,R2,v1.ext e2,v2,aF h2 (e1.trans e2) fun _ _ z=>z.ext (e1.trans e2)⟩
theorem JS (slot:Slot "list" name id) (hty:typeOf (.builtin id)=pure (.type "method_descriptor")) (hm:IW X id (rM X f)) (ho:AE X o co)
  (hbase:attributeBase o name X.env (eval o X.env)=eval o X.env:=by rfl) (hline:(apos.endLine == cpos.line)=true:=by rfl):AE X (.Call (.Attribute o name apos) [] [] cpos) (J1 f co):=PE.imp (IA PySem.F.plainAttrs_list slot hty hm ho hbase hline) fun σ H Q ⟨ρ,S,τ,R,r,h⟩=>by
 refine ⟨ρ,S,τ,R,r,aF (aL h) .refl fun x S1 h1 ρ1 H1 v e1 R1 v1=>?_⟩
 obtain ⟨xs,hx,h1⟩:=aK h1
 exact ⟨lst?_ty R1 v1 hx,ρ1,S1,x,[],R1,v1,.nil,aF h1 e1 fun _ _ z=>z.ext e1⟩
noncomputable def kI (o:A) (as:List A) (S:aE):R A:=match o,as with
 | .ref n,[x]=>opt (ak S n) fun xs=>gd (xs.length < sizeLine) (.ok .non (S.set n (.lst (xs++[x]))))
 | _,_=>.no
theorem oB:IW X "list.append" (rM X kI):=fun pins s σ H x vs v us Q I rx rv ⟨ρ,S,o,as,R,vo,va,h⟩=>by
 cases vo with
 | @ref p n hp=>
  match as,va,h with
  | [],_,h=>exact h.elim
  | _::_::_,_,h=>exact h.elim
  | [y],va,h=>
   obtain ⟨w,rfl,hw⟩:=Ey va
   obtain ⟨xs,hn,h⟩:=aK h
   obtain ⟨hl,h⟩:=bg h
   obtain ⟨ws,h1,r⟩:=R.lst hp (aP hn)
   obtain ⟨ex,R'⟩:=R.put hp (aP hn) (r.append (.one hw))
   exact jK pins s σ H _ _ v us Q I rx rv ⟨p,ws,w,rfl,rfl,h1,by rw [<- r.length];exact hl,h _ _ _ ex R' .non⟩
 | _=>exact h.elim
noncomputable def JY (o:A) (as:List A) (S:aE):R A:=match o,as with
 | .ref n,[]=>opt (ak S n) fun xs=>opt (xs[xs.length - 1]?) fun x=>.ok x (S.set n (.lst xs.dropLast))
 | _,_=>.no
theorem AVs.dropLast {K:PySem.W.Frag} {ρ:List Addr} {H:Hp} {xs:List A} {vs:List V} (r:AVs K ρ H xs vs):AVs K ρ H xs.dropLast vs.dropLast:=by
 rw [List.dropLast_eq_take,List.dropLast_eq_take,r.length]
 exact r.take _
theorem LD:IW X "list.pop" (rM X JY):=fun pins s σ H x vs v us Q I rx rv ⟨ρ,S,o,as,R,vo,va,h⟩=>by
 cases vo with
 | @ref p n hp=>
  match as,va,h with
  | _::_,_,h=>exact h.elim
  | [],va,h=>
   cases va
   obtain ⟨xs,hn,h⟩:=aK h
   obtain ⟨y,hy,h⟩:=aK h
   obtain ⟨ws,h1,r⟩:=R.lst hp (aP hn)
   obtain ⟨w,hw,vw⟩:=r.get hy
   obtain ⟨ex,R'⟩:=R.put hp (aP hn) r.dropLast
   exact Ks pins s σ H _ _ v us Q I rx rv ⟨p,ws,w,rfl,rfl,h1,by rw [<- r.length];exact hw,h _ _ _ ex R' (vw.ext ex)⟩
 | _=>exact h.elim
end
noncomputable def eK (N:List Str) (m:Sm) (as:List A) (S:aE):R A:=match m (as++List.replicate (N.length - as.length) .unb) S with
 | .rt a S'=>.ok a S'
 | .nx _ S'=>.ok .non S'
 | .ex c S'=>.ex c S'
 | _=>.no
noncomputable def kB (K:PySem.W.Frag) (n:Nat) (F:List A->aE->R A):Sp:=fun vs H Q _=>vs.length=n/\∃ ρ S as a S',Rel K ρ H S/\AVs K ρ H as vs/\F as S=.ok a S'/\∀ ρ' H' v,Ext ρ ρ' H H'->Rel K ρ' H' S'->AV K ρ' H' a v->Q v H'
theorem EA {K:PySem.W.Frag} {ρ:List Addr} {H:Hp} {as:List A} {vs:List V} (r:AVs K ρ H as vs) (N:List Str):SR K ρ H (as++List.replicate (N.length - as.length) .unb) (L2.start N vs):=by
 have hl:=r.length
 refine ⟨by unfold L2.start;simp [hl],fun i a h=>?_⟩
 by_cases hi:i < as.length
 ·rw [List.getElem?_append_left hi] at h
  obtain ⟨v,hv,av⟩:=r.get h
  exact .inr ⟨v,by unfold L2.start;rw [List.getElem?_append_left (by simp;omega),List.getElem?_map,hv];rfl,av⟩
 ·rw [List.getElem?_append_right (by omega),List.getElem?_replicate] at h
  split at h
  ·exact .inl (Option.some.inj h).symm
  ·cases h
section
variable {P:Program} {w:World} {K:PySem.W.Frag} {mg:Str->Option Value} {base:Heap}
theorem nj {x qual:Str} {st:Stmt} {f:Addr} {fd:FuncData} {N ps:List Str} {k:Nat} {m:Sm} (F:Fun K x qual st f fd) (Sc:FnScope N ps (aI st))
  (body:∀ (cdv:Value) (A:Around) (outer:List Env) (s:Shared) (H:Hp) (E:XK),Room k (A.deeper (envOfC qual (aI st) s.heap.objs.size f cdv))->FT (vA jL P w K mg base N qual (aI st) f cdv A outer s H E).KY (bf st) m) :
  FnOk P w K mg base jL (k+1) f fd ps (kB K ps.length (eK N m)):=by
 refine F.ok Sc (fun vs H Q E h=>h.1) fun cdv B outer s H vs Q E hr ⟨hl,ρ,S,as,a,S',R,va,hF,q⟩=>⟨_,body cdv B outer s H E hr,ρ,S,_,R,EA va N,?_⟩
 unfold eK at hF
 cases hm:m (as++List.replicate (N.length - as.length) .unb) S with
 | rt b S2=>rw [hm] at hF;cases hF;exact q
 | nx τ S2=>rw [hm] at hF;cases hF;exact fun ρ' H' σ' e R' _=>q ρ' H' _ e R' .non
 | bk τ S2=>rw [hm] at hF;cases hF
 | ct τ S2=>rw [hm] at hF;cases hF
 | ex c S2=>rw [hm] at hF;cases hF
 | no=>rw [hm] at hF;cases hF
end
noncomputable abbrev fq (P:Program) (w:World) (K:PySem.W.Frag) (mg:Str->Option Value) (base:Heap) (k:Nat) (x:Str) (ps:List Str) (F:List A->aE->R A):Prop:=Kn P w K mg base k x ps (kB K ps.length F)
noncomputable def eFn (F:List A->aE->R A) (d:iL):Ex:=fun τ S=>(d τ S).bind fun as S1=>match F as S1 with
 | .ok a S2=>.ok a S2
 | _=>.no
section
variable {X:Cx} {pos p:Pos} {e:Expr} {es:List Expr} {x:Str} {ps:List Str} {k:Nat} {F:List A->aE->R A} {d:iL}
theorem bz (G:fq X.prog X.w X.K X.mg X.base k x ps F) (hr:Room k X.A) (ha:AL X (e::es) d) (hl:∀ τ S as S',d τ S=.ok as S'->as.length=ps.length) (hg:Gl X x:=by rfl) (hdb:(x == ("__debug__" : Str))=false:=by decide)
  (hs:starEach (e::es) X.env=(false,eval e X.env)::starEach es X.env:=by rfl) (hplain:(backTo pos (starEach es X.env)).any (·.1)=false:=by rfl):AE X (.Call (.Name x p) (e::es) [] pos) (eFn F d):=
 PE.imp (L1 G hr ha hg hdb hs hplain) fun σ H Q ⟨ρ,S,τ,R,r,h⟩=>by
  refine ⟨ρ,S,τ,R,r,?_⟩
  have hb:=aL h
  cases hd:d τ S with
  | no=>rw [hd] at hb;exact hb
  | ex c S1=>rw [hd] at hb;exact hb
  | ok as S1=>
   rw [hd] at hb
   intro ρ1 H1 vs e1 R1 v1
   rw [List.append_nil]
   refine ⟨by rw [<- v1.length];exact hl τ S as S1 hd,ρ1,S1,as,?_⟩
   have hb:Am.R.post (match F as S1 with
    | .ok a S2=>.ok a S2
    | _=>.no) (nE X ρ H Q) (XE X ρ H):=hb
   cases hF:F as S1 with
   | ok a S2=>rw [hF] at hb;exact ⟨a,S2,R1,v1,rfl,fun ρ2 H2 v e2=>hb ρ2 H2 v (e1.trans e2)⟩
   | ex c S2=>rw [hF] at hb;exact hb.elim
   | no=>rw [hF] at hb;exact hb.elim
theorem aQ:∀ τ S as S',aJ τ S=.ok as S'->as.length=0:=fun τ S as S' h=>by cases h;rfl
theorem au {c:Ex} {d:iL} {n:Nat} (h:∀ τ S as S',d τ S=.ok as S'->as.length=n):∀ τ S as S',aj c d τ S=.ok as S'->as.length=n+1:=fun τ S as S' e=>by
 unfold aj at e
 cases hc:c τ S with
 | ok a S1=>
  rw [hc] at e
  cases hd:d τ S1 with
  | ok bs S2=>
   have e:R.bind (d τ S1) (fun as S2=>.ok (a::as) S2)=.ok as S':=e
   rw [hd] at e;cases e;rw [List.length_cons,h τ S1 bs _ hd]
  | ex _ _=>
   have e:R.bind (d τ S1) (fun as S2=>.ok (a::as) S2)=.ok as S':=e
   rw [hd] at e;cases e
  | no=>
   have e:R.bind (d τ S1) (fun as S2=>.ok (a::as) S2)=.ok as S':=e
   rw [hd] at e;cases e
 | ex _ _=>rw [hc] at e;cases e
 | no=>rw [hc] at e;cases e
end
section
variable {X:Cx} {pos:Pos} {a b c d:Expr}
noncomputable def N5 (f':A->A->aE->R A) (cc:Ex) (τ:List A) (b k:A) (S:aE):R A:=match k with
 | .bl true=>(cc τ S).bind fun c S4=>f' b c S4
 | .bl false=>.ok (.bl false) S
 | _=>.no
noncomputable def Ff (f f':A->A->aE->R A) (ca cb cc:Ex):Ex:=fun τ S=>(ca τ S).bind fun a S1=>(cb τ S1).bind fun b S2=>(f a b S2).bind fun k S3=>N5 f' cc τ b k S3
theorem HU {f f':A->A->aE->R A} {ca cb cc:Ex} {σ:L2.St} {H:Hp} {Q:VK} (h:tE X (Ff f f' ca cb cc) σ H Q):AR (r2 X f) (r2 X f') (tE X ca) (tE X cb) (tE X cc) σ H Q:=by
 obtain ⟨ρ,S,τ,R,r,h⟩:=h
 refine ⟨ρ,S,τ,R,r,aF (aL h) .refl fun a S1 h1 ρ1 H1 x e1 R1 v1=>⟨ρ1,S1,τ,R1,r.ext e1,aF (aL h1) e1 fun b S2 h2 ρ2 H2 y e2 R2 v2=>?_⟩⟩
 have e12:=e1.trans e2
 refine ⟨ρ2,S2,a,b,R2,v1.ext e2,v2,aF (aL h2) e12 fun k S3 h3 ρ3 H3 z e3 R3 v3=>?_⟩
 have e13:=e12.trans e3
 cases k with
 | bl k=>
  cases qh v3
  refine ⟨k,rfl,?_⟩
  cases k with
  | true=>
   rw [if_pos rfl]
   exact ⟨ρ3,S3,τ,R3,r.ext e13,aF (aL h3) e13 fun c S4 h4 ρ4 H4 w e4 R4 v4=>⟨ρ4,S4,b,c,R4,v2.ext (e3.trans e4),v4,aF h4 (e13.trans e4) fun _ _ q=>q.ext (e13.trans e4)⟩⟩
  | false=>
   rw [if_neg Bool.false_ne_true]
   exact h3 ρ3 H3 _ e13 R3 (.bl false)
 | _=>exact h3.elim
theorem Lh {op op':CmpOp} {f f':A->A->aE->R A} {ca cb cc:Ex} (ho:eU X (compareOp op) (r2 X f)) (ho':eU X (compareOp op') (r2 X f')) (ha:AE X a ca) (hb:AE X b cb) (hc:AE X c cc) (hm:lastMarks [op,op'] [b,c]=false:=by with_unfolding_all rfl) :
  AE X (.Compare a [op,op'] [b,c] pos) (Ff f f' ca cb cc):=PE.imp (DK ho ho' ha hb hc hm) fun _ _ _ h=>HU h
noncomputable def KA (S:aE) (x:A):List A->Option Bool
 | []=>some false
 | z::zs=>(oO S 12 z x).bind fun p=>(KA S x zs).map fun q=>p || q
noncomputable def Mm (neg:Bool) (x y:A) (S:aE):R A:=opt (y.seq S) fun ys=>opt (KA S x ys) fun b=>.ok (.bl (if neg then !b else b)) S
theorem rW {pins:List (Addr×Obj)} {σ:L2.St} {H:Hp} {s:Shared} {ρ:List Addr} {S:aE} {x:A} {vx:V} {v:Value} (I:Inv X pins σ H s) (R:Rel X.K ρ H S) (hu:X.A.units+64 < cLine) (hx:AV X.K ρ H x vx) (rx:RelV vx v) :
  ∀ {ys:List A} {us:List V} {its:List Value} {b:Bool},AVs X.K ρ H ys us->Vals us its->KA S x ys=some b->∃ e:Value->Bool,(∀ w∈its,SeqAt.EqAt X.A.in1 s w v (e w))/\its.any e=b
 | _,_,_,b,.nil,.nil,h=>⟨fun _=>false,(fun w hw=>by cases hw),Option.some.inj h⟩
 | z::zs,u::us,w0::its,b,.cons hz hzs,.cons r rs,h=>by
  classical
  obtain ⟨p,hp,h⟩:=Option.bind_eq_some_iff.mp h
  obtain ⟨q,hq,h⟩:=Option.map_eq_some_iff.mp h
  obtain ⟨e,he,ha⟩:=rW I R hu hx rx hzs rs hq
  have h0:=(ya I R 12 X.A.in1 z x u vx w0 v p (by rw [in1_units];omega) hz hx r rx hp).2
  subst h
  cases p with
  | true=>
   refine ⟨fun w=>if w=w0 then true else e w,fun w hw=>?_,?_⟩
   ·by_cases hww:w=w0
    ·simp only [hww,if_true];exact h0
    ·simp only [hww,if_false]
     rcases List.mem_cons.mp hw with z | z
     ·exact absurd z hww
     ·exact he w z
   ·simp
  | false=>
   by_cases hm:w0∈its
   ·refine ⟨e,fun w hw=>?_,?_⟩
    ·rcases List.mem_cons.mp hw with z | z
     ·rw [z];exact he w0 hm
     ·exact he w z
    ·rw [List.any_cons,ha,Bool.false_or]
     cases q with
     | true=>simp
     | false=>
      have:=List.any_eq_false.mp ha w0 hm
      simpa using this
   ·refine ⟨fun w=>if w=w0 then false else e w,fun w hw=>?_,?_⟩
    ·by_cases hww:w=w0
     ·simp only [hww,if_true];exact h0
     ·simp only [hww,if_false]
      rcases List.mem_cons.mp hw with z | z
      ·exact absurd z hww
      ·exact he w z
    ·rw [List.any_cons,<- ha]
     simp only [if_true,Bool.false_or]
     have:∀ l:List Value,(∀ w∈l,w≠w0)->l.any (fun w=>if w=w0 then false else e w)=l.any e:=fun l hl=>by
      induction l with
      | nil=>rfl
      | cons c l ih=>rw [List.any_cons,List.any_cons,ih fun w hw=>hl w (List.mem_cons_of_mem _ hw),if_neg (hl c (List.mem_cons_self ..))]
     exact this its fun w hw z=>hm (z ▸ hw)
theorem FH (hu:X.A.units+64 < cLine):eU X (compareOp .NotIn) (r2 X (Mm true)):=fun pins s σ H x y v u Q I rx ry ⟨ρ,S,a,b,R,va,vb,h⟩=>by
 obtain ⟨ys,hy,h⟩:=aK h
 obtain ⟨k,hk,h⟩:=aK h
 obtain ⟨p,us,rfl,hs,r⟩:=Aw R vb hy
 cases ry
 rcases hs with hs | hs
 ·obtain ⟨its,rv,pl,hz⟩:=I.list hs
  obtain ⟨e,he,ha⟩:=rW I R hu va rx r rv hk
  refine SeqAt.notIn_listAt e pl.isList (fun w hw=>he w (by simpa using hw)) ⟨.bl _,H,I,rfl,?_⟩
  rw [show its.toArray.any e=its.any e by simp,ha]
  exact h _ _ _ .refl R (.bl _)
 ·obtain ⟨its,rv,pl,hz⟩:=I.tuple hs
  obtain ⟨e,he,ha⟩:=rW I R hu va rx r rv hk
  refine SeqAt.notIn_tupleAt e pl (fun w hw=>he w (by simpa using hw)) ⟨.bl _,H,I,rfl,?_⟩
  rw [show its.toArray.any e=its.any e by simp,ha]
  exact h _ _ _ .refl R (.bl _)
noncomputable def nh (o:A) (as:List A) (S:aE):R A:=match o,as with
 | .ref n,[.ref m]=>opt (ak S n) fun xs=>opt (ak S m) fun ys=>gd (xs.length+ys.length<=sizeLine) (.ok .non (S.set n (.lst (xs++ys))))
 | _,_=>.no
theorem sU:IW X "list.extend" (rM X nh):=fun pins s σ H x vs v us Q I rx rv ⟨ρ,S,o,as,R,vo,va,h⟩=>by
 cases vo with
 | @ref p n hp=>
  match as,va,h with
  | [],_,h=>exact h.elim
  | y::_::_,_,h=>exact (by cases y <;> exact h.elim)
  | [y],va,h=>
   obtain ⟨w,rfl,hw⟩:=Ey va
   cases hw with
   | @ref q m hq=>
    obtain ⟨xs,hn,h⟩:=aK h
    obtain ⟨ys,hm,h⟩:=aK h
    obtain ⟨hl,h⟩:=bg h
    obtain ⟨ws,h1,r⟩:=R.lst hp (aP hn)
    obtain ⟨zs,h2,r'⟩:=R.lst hq (aP hm)
    obtain ⟨ex,R'⟩:=R.put hp (aP hn) (r.append r')
    exact zG pins s σ H _ _ v us Q I rx rv ⟨p,q,ws,zs,rfl,rfl,h1,h2,by rw [<- r.length,<- r'.length];exact hl,h _ _ _ ex R' .non⟩
   | _=>exact h.elim
 | _=>exact h.elim
end
section
variable {X:Cx}
end
section
variable {X:Cx}
end
section
variable {X:Cx} {pos apos cpos:Pos} {a b o e:Expr} {es:List Expr}
end
noncomputable def bO (S:aE) (n:Nat):Option (List (List Int×A)):=match S[n]? with
 | some (.dct xs)=>some xs
 | _=>none
theorem gM {S:aE} {n:Nat} {xs:List (List Int×A)} (h:bO S n=some xs):S[n]?=some (.dct xs):=by
 unfold bO at h
 split at h
 ·rename_i e;cases h;exact e
 ·cases h
theorem lE {S:aE} {n:Nat} {xs:List (List Int×A)} (h:S[n]?=some (.dct xs)):bO S n=some xs:=by
 unfold bO;rw [h]
noncomputable def fC (kvs:List (List Int×A)) (k:List Int):Option A:=(kvs.find? fun kv=>decide (kv.1=k)).map (·.2)
noncomputable def putD (kvs:List (List Int×A)) (k:List Int) (v:A):List (List Int×A):=
 if (fC kvs k).isSome=true then kvs.map (fun kv=>if kv.1=k then (kv.1,v) else kv) else kvs++[(k,v)]
theorem qI:∀ {a b:List Int},a.map (Sum.inl:Int->Key)=b.map Sum.inl->a=b
 | [],[],_=>rfl
 | [],_::_,e=>by simp at e
 | _::_,[],e=>by simp at e
 | x::xs,y::ys,e=>by
  rw [List.map_cons,List.map_cons] at e
  injection e with e1 e2
  injection e1 with e1
  rw [e1,qI e2]
theorem rj (ns:List Int):(ns.map (Sum.inl:Int->Key)).map kV=ns.map V.int:=by rw [List.map_map];rfl
section
variable {K:PySem.W.Frag} {ρ ρ':List Addr} {H H':Hp}
theorem mz {p:List Int×A} {r:List (List Int×A)} {k:List Int} (e:p.1=k):fC (p::r) k=some p.2:=by simp [fC,List.find?_cons,e]
theorem lO {p:List Int×A} {r:List (List Int×A)} {k:List Int} (e:¬ p.1=k):fC (p::r) k=fC r k:=by simp [fC,List.find?_cons,e]
theorem DV.look:∀ {kvs:List (List Int×A)} {ks:List (List Key×V)} (k:List Int),DV K ρ H kvs ks->(fC kvs k).isSome=(kP ks (k.map Sum.inl)).isSome/\∀ x,fC kvs k=some x->∃ v,kP ks (k.map Sum.inl)=some v/\AV K ρ H x v
 | [],[],k,_=>⟨rfl,fun x h=>nomatch h⟩
 | p::r,q::r',k,⟨⟨e,a⟩,t⟩=>by
  by_cases c:p.1=k
  ·have c':q.1=k.map Sum.inl:=by rw [e,c]
   rw [mz c,lg c']
   exact ⟨rfl,fun x h=>by cases h;exact ⟨_,rfl,a⟩⟩
  ·have c':¬ q.1=k.map Sum.inl:=fun z=>c (qI (e.symm.trans z))
   rw [lO c,kG c']
   exact DV.look k t
theorem DV.repl {x:A} {v:V} (h:AV K ρ H x v) (k:List Int):∀ {kvs:List (List Int×A)} {ks:List (List Key×V)},DV K ρ H kvs ks->DV K ρ H (kvs.map fun kv=>if kv.1=k then (kv.1,x) else kv) (ks.map fun kv=>if kv.1=k.map Sum.inl then (kv.1,v) else kv)
 | [],[],_=>trivial
 | p::r,q::r',⟨⟨e,a⟩,t⟩=>by
  refine ⟨?_,DV.repl h k t⟩
  dsimp only
  by_cases c:p.1=k
  ·rw [if_pos c,if_pos (by rw [e,c])];exact ⟨e,h⟩
  ·rw [if_neg c,if_neg (fun z=>c (qI (e.symm.trans z)))];exact ⟨e,a⟩
theorem DV.snoc {x:A} {v:V} (h:AV K ρ H x v) (k:List Int):∀ {kvs:List (List Int×A)} {ks:List (List Key×V)},DV K ρ H kvs ks->DV K ρ H (kvs++[(k,x)]) (ks++[(k.map Sum.inl,v)])
 | [],[],_=>⟨⟨rfl,h⟩,trivial⟩
 | p::r,q::r',⟨a,t⟩=>⟨a,DV.snoc h k t⟩
theorem DV.put {x:A} {v:V} (h:AV K ρ H x v) (k:List Int) {kvs:List (List Int×A)} {ks:List (List Key×V)} (d:DV K ρ H kvs ks):DV K ρ H (putD kvs k x) (putK ks (k.map Sum.inl) v):=by
 unfold putD putK
 rw [oS,<- (d.look k).1]
 by_cases c:(fC kvs k).isSome=true
 ·rw [if_pos c,if_pos c];exact DV.repl h k d
 ·rw [if_neg c,if_neg c];exact DV.snoc h k d
theorem DV.length:∀ {kvs:List (List Int×A)} {ks:List (List Key×V)},DV K ρ H kvs ks->kvs.length=ks.length
 | [],[],_=>rfl
 | _::_,_::_,⟨_,t⟩=>congrArg (·+1) t.length
theorem Rel.dct {S:aE} {n:Nat} {a:Addr} {xs:List (List Int×A)} (R:Rel K ρ H S) (ha:ρ[n]?=some a) (hS:S[n]?=some (.dct xs)):∃ vs,H a=some (.dT vs)/\DV K ρ H xs vs:=R.at n a _ ha hS
theorem Rel.putD {S:aE} {n:Nat} {a:Addr} {xs ys:List (List Int×A)} {ws:List (List Key×V)} (R:Rel K ρ H S) (ha:ρ[n]?=some a) (hS:S[n]?=some (.dct xs)) (r:DV K ρ H ys ws):Ext ρ ρ H (upd H a (.dT ws))/\Rel K ρ (upd H a (.dT ws)) (S.set n (.dct ys)):=by
 obtain ⟨vs,e,_⟩:=R.at n a _ ha hS
 have ex:Ext ρ ρ H (upd H a (.dT ws)):=⟨⟨List.prefix_refl _,fun b u i h=>by
  have:b≠a:=by
   intro z;subst z;rw [e] at h;cases h;exact i
  rw [aN this];exact h⟩,fun b u h n=>by
  rw [aN (fun z=>n (by rw [z];exact List.mem_of_getElem? ha))];exact h,fun _ h=>.inl h⟩
 refine ⟨ex,by rw [List.length_set];exact R.len,R.nd,fun m b o h1 h2=>?_⟩
 by_cases hm:m=n
 ·subst hm
  rw [ha] at h1;cases h1
  rw [List.getElem?_set_self (List.getElem?_eq_some_iff.mp hS).1] at h2
  cases h2
  exact ⟨ws,bG,r.ext ex⟩
 ·rw [List.getElem?_set_ne (Ne.symm hm)] at h2
  have nb:b≠a:=fun z=>by
   subst z
   obtain ⟨l1,e1⟩:=List.getElem?_eq_some_iff.mp ha
   obtain ⟨l2,e2⟩:=List.getElem?_eq_some_iff.mp h1
   exact hm ((List.getElem_inj R.nd).mp (e2.trans e1.symm))
  have:=R.at m b o h1 h2
  cases o with
  | lst ys=>obtain ⟨ws',e',q⟩:=this;exact ⟨ws',by rw [aN nb];exact e',q.ext ex⟩
  | dct _ | dki _=>obtain ⟨ws',e',q⟩:=this;exact ⟨ws',by rw [aN nb];exact e',q.ext ex⟩
  | ins _ _=>obtain ⟨oo,uu,e'⟩:=this;exact ⟨oo,uu,by rw [aN nb];exact e'⟩
end
section
variable {X:Cx} {pos:Pos} {a b:Expr}
theorem qO {ρ:List Addr} {H:Hp} {S:aE} {p q:Addr} {n:Nat} {xs:List A} {vs:List V} {kvs:List (List Int×A)} {ns:List Int} (R:Rel X.K ρ H S) (hp:ρ[n]?=some p) (hn:bO S n=some kvs) (hq:H q=some (.tup vs)) (r:AVs X.K ρ H xs vs) (hi:A.ints xs=some ns) :
  ∃ ks,H p=some (.dT ks)/\DV X.K ρ H kvs ks/\H q=some (.tup ((ns.map (Sum.inl:Int->Key)).map kV))/\rQ H p (.ref q) (kP ks (ns.map Sum.inl)):=by
 obtain ⟨ks,e,d⟩:=R.dct hp (gM hn)
 have z:=jQ r hi
 subst z
 rw [<- rj] at hq
 exact ⟨ks,e,d,hq,rQ.t e hq⟩
noncomputable def EH (x y:A) (S:aE):R A:=match x,y with
 | .ref n,.tup xs=>opt (bO S n) fun kvs=>opt (A.ints xs) fun ns=>opt (fC kvs ns) fun v=>.ok v S
 | _,_=>.no
theorem LH (hu:X.A.units+64 < cLine):Ig X (r2 X EH):=fun value slice pins s σ H x y v u Q I rx ry ⟨ρ,S,a,b,R,va,vb,h⟩ hs=>by
 cases va with
 | @ref p n hp=>
  cases vb with
  | @tup q xs vs hq r=>
   obtain ⟨kvs,hn,h⟩:=aK h
   obtain ⟨ns,hi,h⟩:=aK h
   obtain ⟨z,hz,h⟩:=aK h
   obtain ⟨ks,e,d,hq',g⟩:=qO R hp hn hq r hi
   obtain ⟨w,hw,aw⟩:=(d.look ns).2 z hz
   rw [hw] at g
   exact E2 (by omega) value slice pins s σ H _ _ v u Q I rx ry ⟨p,w,rfl,g,h _ _ _ .refl R aw⟩ hs
  | _=>exact h.elim
 | _=>exact h.elim
theorem Kg (hu:X.A.units+64 < cLine) {ca cb:Ex} (ha:AE X a ca) (hb:AE X b cb) (hs:qP b:=by exact fun _ _=>rfl):AE X (.Subscript a b pos) (aH EH ca cb):=PE.imp (GX (LH hu) ha hb hs) fun σ H Q h=>kL h
noncomputable def IM (neg:Bool) (x y:A) (S:aE):R A:=match x,y with
 | .tup xs,.ref n=>opt (bO S n) fun kvs=>opt (A.ints xs) fun ns=>.ok (.bl (if neg then !(fC kvs ns).isSome else (fC kvs ns).isSome)) S
 | _,_=>.no
theorem DT (hu:X.A.units+64 < cLine):eU X (compareOp .NotIn) (r2 X (IM true)):=fun pins s σ H x y v u Q I rx ry ⟨ρ,S,a,b,R,va,vb,h⟩=>by
 cases va with
 | @tup q xs vs hq r=>
  cases vb with
  | @ref p n hp=>
   obtain ⟨kvs,hn,h⟩:=aK h
   obtain ⟨ns,hi,h⟩:=aK h
   obtain ⟨ks,e,d,hq',g⟩:=qO R hp hn hq r hi
   exact Ag (by omega) pins s σ H _ _ v u Q I rx ry ⟨p,_,rfl,g,by rw [<- (d.look ns).1];exact h _ _ _ .refl R (.bl _)⟩
  | _=>exact h.elim
 | _=>exact h.elim
noncomputable def yN (o i v:A) (S:aE):R Unit:=match o,i with
 | .ref n,.tup xs=>opt (bO S n) fun kvs=>opt (A.ints xs) fun ns=>gd (kvs.length < sizeLine) (.ok () (S.set n (.dct (putD kvs ns v))))
 | _,_=>.no
noncomputable def MN (X:Cx):uN:=fun o i v H Q=>∃ ρ S ao ai av,Rel X.K ρ H S/\AV X.K ρ H ao o/\AV X.K ρ H ai i/\AV X.K ρ H av v/\(yN ao ai av S).post (fun _ S'=>∀ ρ' H',Ext ρ ρ' H H'->Rel X.K ρ' H' S'->Q H') (XE X ρ H)
theorem Em (hu:X.A.units+64 < cLine):Ae X (MN X):=fun pins s σ H o i v ov iv u Q I ro ri rv ⟨ρ,S,ao,ai,av,R,h1,h2,h3,h⟩=>by
 cases h1 with
 | @ref p n hp=>
  cases h2 with
  | @tup q xs vs hq r=>
   obtain ⟨kvs,hn,h⟩:=aK h
   obtain ⟨ns,hi,h⟩:=aK h
   obtain ⟨hl,h⟩:=bg h
   obtain ⟨ks,e,d,hq',g⟩:=qO R hp hn hq r hi
   obtain ⟨ex,R'⟩:=R.putD hp (gM hn) (d.put h3 ns)
   exact set_dict (by omega) pins s σ H _ _ v ov iv u Q I ro ri rv ⟨p,_,rfl,D_.t e hq' (by rw [<- d.length];exact hl),h _ _ ex R'⟩
  | _=>exact h.elim
 | _=>exact h.elim
noncomputable def JQ (co ci:Ex):Tg:=fun a τ S=>(co τ S).bind fun o S1=>(ci τ S1).bind fun i S2=>(yN o i a S2).bind fun _ S3=>.ok τ S3
theorem EV (hu:X.A.units+64 < cLine) {o i:Expr} {co ci:Ex} (ho:AE X o co) (hi:AE X i ci)
  (ha:∀ v,assign (.Subscript o i pos) X.env v=(do
   let ov <- holding [v] (eval o X.env)
   let iv <- holding [v,ov] (eval i X.env)
   standAt pos
   holding [v,ov,iv] (setItem ov iv v)
   release [v,ov,iv] []):=by intro _;rfl):AG X (.Subscript o i pos) (JQ co ci):=PG.imp (DL ho hi (Em hu) ha) fun v σ H Q ⟨ρ,S,τ,a,R,r,va,h⟩=>by
 refine ⟨ρ,S,τ,R,r,aF (aL h) .refl fun o S1 h1 ρ1 H1 x e1 R1 v1=>⟨ρ1,S1,τ,R1,r.ext e1,aF (aL h1) e1 fun i S2 h2 ρ2 H2 y e2 R2 v2=>?_⟩⟩
 refine ⟨ρ2,S2,o,i,a,R2,v1.ext e2,v2,va.ext (e1.trans e2),aF (aL h2) (e1.trans e2) fun _ S3 h3 ρ3 H3 e3 R3=>?_⟩
 exact h3 ρ3 H3 σ ((e1.trans e2).trans e3) R3 (r.ext ((e1.trans e2).trans e3))
noncomputable def Ay (ck cv:Ex):Ex:=fun τ S=>(ck τ S).bind fun k S1=>(cv τ S1).bind fun v S2=>match k with
 | .tup xs=>opt (A.ints xs) fun ns=>.ok (.ref S2.length) (S2++[.dct [(ns,v)]])
 | _=>.no
theorem Rel.KZ {K:PySem.W.Frag} {ρ:List Addr} {H:Hp} {S:aE} {D:Addr} {xs:List (List Int×A)} {us vs:List (List Key×V)} (R:Rel K ρ H S) (hD:H D=some (.dT us)) (hn:D∉ρ) (r:DV K ρ H xs vs):Ext0 ρ (ρ++[D]) H (upd H D (.dT vs))/\Rel K (ρ++[D]) (upd H D (.dT vs)) (S++[.dct xs])/\(ρ++[D])[S.length]?=some D:=by
 have ex:Ext0 ρ (ρ++[D]) H (upd H D (.dT vs)):=⟨List.prefix_append _ _,fun b u i h=>by
  have:b≠D:=by
   intro z;subst z;rw [hD] at h;cases h;exact i
  rw [aN this];exact h⟩
 have last:(ρ++[D])[S.length]?=some D:=by rw [<- R.len];simp
 refine ⟨ex,⟨by simp [R.len],?_,fun n a o h1 h2=>?_⟩,last⟩
 ·rw [List.nodup_append]
  refine ⟨R.nd,by simp,fun a ha b hb e=>?_⟩
  have:b=D:=by simpa using hb
  exact hn (by rw [<- this,<- e];exact ha)
 ·by_cases hs:n < S.length
  ·rw [List.getElem?_append_left (by rw [R.len];exact hs)] at h1
   rw [List.getElem?_append_left hs] at h2
   have na:a≠D:=fun z=>hn (by rw [<- z];exact List.mem_of_getElem? h1)
   have:=R.at n a o h1 h2
   cases o with
   | lst ys=>obtain ⟨ws,e,q⟩:=this;exact ⟨ws,by rw [aN na];exact e,AVs.dB ex q⟩
   | dct _ | dki _=>obtain ⟨ws,e,q⟩:=this;exact ⟨ws,by rw [aN na];exact e,q.dB ex⟩
   | ins _ _=>obtain ⟨oo,uu,e⟩:=this;exact ⟨oo,uu,by rw [aN na];exact e⟩
  ·have e:n=S.length:=by
    have:=(List.getElem?_eq_some_iff.mp h2).1
    simp at this
    omega
   subst e
   rw [last] at h1
   cases h1
   simp at h2
   subst h2
   exact ⟨vs,bG,r.dB ex⟩
theorem Fg (hu:X.A.units+64 < cLine) {k v:Expr} {ck cv:Ex} (hk:AE X k ck) (hv:AE X v cv):AE X (.Dict [some k] [v] pos) (Ay ck cv):=PE.imp (Bv (by omega) hk hv) fun σ H Q ⟨ρ,S,τ,R,r,h⟩ p hp=>by
 obtain ⟨e0,R0⟩:=R.im (u:=.dT []) hp
 have np:p∉ρ:=R.Ci hp
 refine ⟨ρ,S,τ,R0,r.ext e0,aF (aL h) e0 fun a S1 h1 ρ1 H1 x e1 R1 v1=>⟨ρ1,S1,τ,R1,(r.ext e0).ext e1,aF (aL h1) (e0.trans e1) fun b S2 h2 ρ2 H2 y e2 R2 v2=>?_⟩⟩
 have e12:=e1.trans e2
 have hp2:H2 p=some (.dT []):=e12.fr p _ bG np
 have np2:p∉ρ2:=fun hm=>(e12.nw p hm).elim np fun z=>by rw [bG] at z;cases z
 cases v1.ext e2 with
 | @tup q xs vs hq rr=>
  obtain ⟨ns,hi,h2⟩:=aK h2
  have z:=jQ rr hi
  subst z
  refine ⟨hp2,q,ns.map Sum.inl,rfl,by rw [rj];exact hq,?_⟩
  obtain ⟨e3,R3,hl⟩:=R2.KZ (xs:=[(ns,b)]) (vs:=[(ns.map Sum.inl,y)]) hp2 np2 ⟨⟨rfl,v2⟩,trivial⟩
  refine h2 _ _ _ ⟨⟨(e0.trans e12).pre.trans e3.pre,fun c u i hc=>e3.im c u i ((e0.trans e12).im c u i hc)⟩,fun c u hc nc=>?_,fun c hc=>?_⟩ R3 (.ref hl)
  ·rw [aN (aU hc hp)]
   exact (e0.trans e12).fr c u hc nc
  ·rcases List.mem_append.mp hc with z | z
   ·exact (e0.trans e12).nw c z
   ·have:c=p:=by simpa using z
    rw [this];exact .inr hp
 | _=>exact h2.elim
end
section
variable {X:Cx} {pos:Pos} {a b:Expr}
end
section
variable {X:Cx} {pos:Pos} {a b tg:Expr}
noncomputable def Ah (p:List Int×A):A:=.tup [.tup (p.1.map .int),p.2]
noncomputable def Nm (a:A) (S:aE):R Src:=match a with
 | .ref n=>opt (bO S n) fun kvs=>.ok (eN (kvs.map Ah)) (S.set n (.ins "" []))
 | _=>.no
noncomputable def zU (c:Ex):Ic:=fun τ S=>(c τ S).bind fun a S1=>Nm a S1
theorem Gv {K:PySem.W.Frag} {ρ:List Addr} {H:Hp}:∀ {kvs:List (List Int×A)} {ks:List (List Key×V)} {i:Nat} {p:List Int×A},DV K ρ H kvs ks->kvs[i]?=some p->∃ q,ks[i]?=some q/\q.1=p.1.map Sum.inl/\AV K ρ H p.2 q.2
 | [],[],_,_,_,h=>by simp at h
 | a::kvs,b::ks,0,p,⟨z,_⟩,h=>by
  have:a=p:=by simpa using h
  subst this
  exact ⟨b,rfl,z⟩
 | a::kvs,b::ks,i+1,p,⟨_,t⟩,h=>Gv (kvs:=kvs) (ks:=ks) (i:=i) t (by simpa using h)
theorem Rel.gone {K:PySem.W.Frag} {ρ:List Addr} {H:Hp} {S:aE} {n:Nat} {a:Addr} {xs:List (List Int×A)} {o:Obj} {u:HO} (R:Rel K ρ H S) (ha:ρ[n]?=some a) (hS:S[n]?=some (.dct xs)):Ext ρ ρ H (upd H a (.frz o u))/\Rel K ρ (upd H a (.frz o u)) (S.set n (.ins "" [])):=by
 obtain ⟨vs,e,_⟩:=R.at n a _ ha hS
 have ex:Ext ρ ρ H (upd H a (.frz o u)):=⟨⟨List.prefix_refl _,fun b u' i h=>by
  have:b≠a:=by
   intro z;subst z;rw [e] at h;cases h;exact i
  rw [aN this];exact h⟩,fun b u' h nb=>by
  rw [aN (fun z=>nb (by rw [z];exact List.mem_of_getElem? ha))];exact h,fun _ h=>.inl h⟩
 refine ⟨ex,by rw [List.length_set];exact R.len,R.nd,fun m b ob h1 h2=>?_⟩
 by_cases hm:m=n
 ·subst hm
  rw [ha] at h1;cases h1
  rw [List.getElem?_set_self (List.getElem?_eq_some_iff.mp hS).1] at h2
  cases h2
  exact ⟨o,u,bG⟩
 ·rw [List.getElem?_set_ne (Ne.symm hm)] at h2
  have nb:b≠a:=fun z=>by
   subst z
   obtain ⟨l1,e1⟩:=List.getElem?_eq_some_iff.mp ha
   obtain ⟨l2,e2⟩:=List.getElem?_eq_some_iff.mp h1
   exact hm ((List.getElem_inj R.nd).mp (e2.trans e1.symm))
  have:=R.at m b ob h1 h2
  cases ob with
  | lst ys=>obtain ⟨ws',e',q⟩:=this;exact ⟨ws',by rw [aN nb];exact e',q.ext ex⟩
  | dct _ | dki _=>obtain ⟨ws',e',q⟩:=this;exact ⟨ws',by rw [aN nb];exact e',q.ext ex⟩
  | ins _ _=>obtain ⟨oo,uu,e'⟩:=this;exact ⟨oo,uu,by rw [aN nb];exact e'⟩
theorem CL {elts:List Expr} {x1:Nat} {tpos apos cpos:Pos} {e:Expr} {c:Ex} (ha:AE X e c) (hbase:attributeBase e "items" X.env (eval e X.env)=eval e X.env:=by rfl) (hline:(apos.endLine == cpos.line)=true:=by rfl) :
  AI X (.Tuple elts x1 tpos) (.Call (.Attribute e "items" apos) [] [] cpos) (zU c):=fun pins s σ H Q I ⟨ρ,S,τ,R,r,h⟩=>by
 refine BR ha hbase hline pins s σ H Q I ⟨ρ,S,τ,R,r,aF (aL h) .refl fun x S1 h1 ρ1 H1 v e1 R1 v1=>?_⟩
 cases v1 with
 | @ref p n hp=>
  obtain ⟨kvs,hn,h1⟩:=aK h1
  obtain ⟨ks,g1,dv⟩:=R1.dct hp (gM hn)
  refine ⟨p,ks,rfl,g1,fun o ps pl pat=>?_⟩
  obtain ⟨ex,R2⟩:=R1.gone (o:=o) (u:=.dT ks) hp (gM hn)
  have dl:=dv.length
  refine h1 ρ1 _ _ (e1.trans ex) R2 ⟨fun i S2 H2 ρ2 y e2 R3 g=>?_,fun S2 H2 ρ2 e2 R3 _=>⟨?_,e2.im _ _ trivial bG⟩⟩
  ·have g:(kvs.map Ah)[i]?=some y:=g
   rw [List.getElem?_map] at g
   obtain ⟨kv,hk,rfl⟩:=Option.map_eq_some_iff.mp g
   obtain ⟨q,hq,q1,q2⟩:=Gv dv hk
   have hi:i < ps.length:=by rw [pl];exact (List.getElem?_eq_some_iff.mp hq).1
   obtain ⟨k',e3,e4⟩:=pat i ps[i].1 ps[i].2 (List.getElem?_eq_getElem hi)
   rw [hq] at e3
   cases e3
   refine ⟨⟨ps[i].1,ps[i].2,List.getElem?_eq_getElem hi,e2.im _ _ trivial bG⟩,fun w' H' qq=>?_⟩
   obtain ⟨T,hT,rfl,hz⟩:=qq
   have hz':=hz _ _ (List.getElem?_eq_getElem hi)
   subst hz'
   obtain ⟨ex3,R4⟩:=R3.im (u:=.tup [.ref ps[i].1,ps[i].2]) hT
   have ka:H2 ps[i].1=some (.tup (k'.map kV)):=e2.im _ _ trivial (ex.toExt0.im _ _ trivial e4)
   have kk:k'.map kV=kv.1.map V.int:=by rw [show k'=kv.1.map Sum.inl from q1,rj]
   rw [kk] at ka
   exact ⟨ex3,R4,.tup bG (.cons ((AV.tup ka (gE _)).ext ex3) (.cons (((q2.dB ex.toExt0).dB e2).ext ex3) .nil))⟩
  ·show (kvs.map Ah).length=ps.length
   rw [List.length_map,dl,pl]
 | _=>exact h1.elim
end
noncomputable def g9 (s:Src) (g:Tg) (t:Te) (e:Ex):Nat->Nat->List A->aE->R (List A×List A)
 | 0,_=>fun τ S=>if s.fin S then .ok ([],τ) S else .no
 | k+1,i=>fun τ S=>opt (s.get i S) fun x=>(g x τ S).dc fun τ1 S1=>(t τ1 S1).dc fun b S2=>match b with
  | true=>(e τ1 S2).dc fun y S3=>(g9 s g t e k (i+1) τ1 S3).dc fun p S4=>.ok (y::p.1,p.2) S4
  | false=>g9 s g t e k (i+1) τ1 S2
noncomputable def fW (s:Src) (g:Tg) (t:Te) (src2:Ic) (g2:Tg) (t2:Te) (e:Ex):Nat->Nat->List A->aE->R (List A)
 | 0,_=>fun _ S=>if s.fin S then .ok [] S else .no
 | k+1,i=>fun τ S=>opt (s.get i S) fun x=>(g x τ S).dc fun τ1 S1=>(t τ1 S1).dc fun b S2=>match b with
  | true=>(src2 τ1 S2).dc fun s2 S3=>(g9 s2 g2 t2 e s2.k 0 τ1 S3).dc fun p S4=>(fW s g t src2 g2 t2 e k (i+1) p.2 S4).dc fun ys S5=>.ok (p.1++ys) S5
  | false=>fW s g t src2 g2 t2 e k (i+1) τ1 S2
noncomputable def vt (cap:List (Option Nat)) (src:Ic) (g:Tg) (t:Te) (src2:Ic) (g2:Tg) (t2:Te) (e:Ex):Ex:=fun τ S=>(src τ S).bind fun s S1=>(fW s g t src2 g2 t2 e s.k 0 (eT cap τ) S1).dc fun ys S2=>newL ys S2
theorem sC {s:Src} {g:Tg} {t:Te} {e:Ex} {k i:Nat} {τ τ':List A} {S S':aE} {zs:List A} (h:g9 s g t e (k+1) i τ S=.ok (zs,τ') S') :
  ∃ x τ1 S1 b S2,s.get i S=some x/\g x τ S=.ok τ1 S1/\t τ1 S1=.ok b S2/\(b=true->∃ y S3 ws,e τ1 S2=.ok y S3/\g9 s g t e k (i+1) τ1 S3=.ok (ws,τ') S'/\zs=y::ws)/\(b=false->g9 s g t e k (i+1) τ1 S2=.ok (zs,τ') S'):=by
 obtain ⟨x,hx,h⟩:=u5 h
 obtain ⟨τ1,S1,h1,h⟩:=cC h
 obtain ⟨b,S2,h2,h⟩:=cC h
 refine ⟨x,τ1,S1,b,S2,hx,h1,h2,fun hb=>?_,fun hb=>?_⟩
 ·subst hb
  obtain ⟨y,S3,h3,h⟩:=cC h
  obtain ⟨⟨ws,τ2⟩,S4,h4,h⟩:=cC h
  cases h
  exact ⟨y,S3,ws,h3,h4,rfl⟩
 ·subst hb;exact h
theorem qR {s:Src} {g:Tg} {t:Te} {src2:Ic} {g2:Tg} {t2:Te} {e:Ex} {k i:Nat} {τ:List A} {S S':aE} {zs:List A} (h:fW s g t src2 g2 t2 e (k+1) i τ S=.ok zs S') :
  ∃ x τ1 S1 b S2,s.get i S=some x/\g x τ S=.ok τ1 S1/\t τ1 S1=.ok b S2/\(b=true->∃ s2 S3 ps τ2 S4 ws,src2 τ1 S2=.ok s2 S3/\g9 s2 g2 t2 e s2.k 0 τ1 S3=.ok (ps,τ2) S4/\fW s g t src2 g2 t2 e k (i+1) τ2 S4=.ok ws S'/\zs=ps++ws)/\(b=false->fW s g t src2 g2 t2 e k (i+1) τ1 S2=.ok zs S'):=by
 obtain ⟨x,hx,h⟩:=u5 h
 obtain ⟨τ1,S1,h1,h⟩:=cC h
 obtain ⟨b,S2,h2,h⟩:=cC h
 refine ⟨x,τ1,S1,b,S2,hx,h1,h2,fun hb=>?_,fun hb=>?_⟩
 ·subst hb
  obtain ⟨s2,S3,h3,h⟩:=cC h
  obtain ⟨⟨ps,τ2⟩,S4,h4,h⟩:=cC h
  obtain ⟨ws,S5,h5,h⟩:=cC h
  cases h
  exact ⟨s2,S3,ps,τ2,S4,ws,h3,h4,h5,rfl⟩
 ·subst hb;exact h
noncomputable def NX (K:PySem.W.Frag) (c:Ic):TI:=fun σ H Q=>∃ ρ S τ s S',Rel K ρ H S/\SR K ρ H τ σ/\c τ S=.ok s S'/\∀ ρ' H' J,Ext ρ ρ' H H'->Rel K ρ' H' S'->JR K s J ρ' H'->Q J H'
structure Out (ρ1:List Addr) (H1:Hp) (D:Addr) (accV:List V) (ρ:List Addr) (H:Hp):Prop where
 e0:Ext0 ρ1 ρ H1 H
 fr:∀ a u,a≠D->H1 a=some u->a∉ρ1->H a=some u
 nw:∀ a∈ρ,a∈ρ1\/H1 a=none
 nD:D∉ρ
 hD:H D=some (.lst accV)
theorem Out.stay {ρ1 ρ3 ρ7:List Addr} {H1 H3 H7:Hp} {D:Addr} {accV:List V} (o:Out ρ1 H1 D accV ρ3 H3) (hD1:H1 D=none) (e7:Ext ρ3 ρ7 H3 H7):Out ρ1 H1 D accV ρ7 H7:=by
 refine ⟨⟨o.e0.pre.trans e7.pre,fun a u i h=>e7.im a u i (o.e0.im a u i h)⟩,fun a u na hu nr=>e7.fr a u (o.fr a u na hu nr) fun z=>(o.nw a z).elim nr fun z=>by (rw [z] at hu;cases hu),fun a ha=>?_,fun z=>(e7.nw D z).elim o.nD fun z=>by (rw [o.hD] at z;cases z),e7.fr D _ o.hD o.nD⟩
 by_cases hr:a∈ρ1
 ·exact .inl hr
 ·right
  cases q:H1 a with
  | none=>rfl
  | some u=>
   have aD:a≠D:=aU q hD1
   rcases e7.nw a ha with z | z
   ·exact ((o.nw a z).elim hr fun z=>by (rw [z] at q;cases q)).elim
   ·rw [o.fr a u aD q hr] at z;cases z
section
variable {X:Cx} {pos:Pos} {tg iter tg2 iter2 elt e:Expr} {ifs ifs2:List Expr} {scope:Scope} {N:List Str} {cap:List (Option Nat)} {src src2:Ic} {g g2:Tg} {t t2:Te} {c:Ex}
theorem AI.i0 {K:PySem.W.Frag} (hK:X.K=K) (h:AI X tg e src):PI X tg e (NX K src):=fun pins s σ H Q I ⟨ρ,S,τ,a,S',R,r,hc,q⟩=>h pins s σ H Q I ⟨ρ,S,τ,by rw [hK];exact R,by rw [hK];exact r,by rw [hc];exact fun ρ' H' J e R' v'=>q ρ' H' J e (by rw [<- hK];exact R') (by rw [<- hK];exact v')⟩
theorem Bh (hc:X.calm=true) (Sc:CpScope X scope N cap) (hi:AI X tg iter src) (hg:∀ C s₀ H₀ ex,AG (bQ X scope N C s₀ H₀ ex) tg g) (ht:∀ C s₀ H₀ ex,KD (bQ X scope N C s₀ H₀ ex) ifs t) (hi2:∀ C s₀ H₀ ex,AI (bQ X scope N C s₀ H₀ ex) tg2 iter2 src2)
  (hg2:∀ C s₀ H₀ ex,AG (bQ X scope N C s₀ H₀ ex) tg2 g2) (ht2:∀ C s₀ H₀ ex,KD (bQ X scope N C s₀ H₀ ex) ifs2 t2) (he:∀ C s₀ H₀ ex,AE (bQ X scope N C s₀ H₀ ex) elt c)
  (hs:∀ x,foldedSetIterable iter X.env x=pure x:=by intro _;rfl) (hs2:∀ env x,foldedSetIterable iter2 env x=pure x:=by intro _ _;rfl):AE X (.ListComp elt [⟨tg,iter,ifs,0⟩,⟨tg2,iter2,ifs2,0⟩] scope pos) (vt cap src g t src2 g2 t2 c):=by
 refine PE.imp (Jw hc Sc hi (g:=KC X.K g) (tc:=J4 X.K t) (wi2:=NX X.K src2) (g2:=KC X.K g2) (tc2:=J4 X.K t2) (te:=Le X.K c) (fun C s₀ H₀ ex=>(hg C s₀ H₀ ex).g0 rfl) (fun C s₀ H₀ ex=>ht C s₀ H₀ ex) (fun C s₀ H₀ ex=>(hi2 C s₀ H₀ ex).i0 rfl) (fun C s₀ H₀ ex=>(hg2 C s₀ H₀ ex).g0 rfl) (fun C s₀ H₀ ex=>ht2 C s₀ H₀ ex) (fun C s₀ H₀ ex=>(he C s₀ H₀ ex).e0 rfl) hs hs2) fun σ H Q ⟨ρ,S,τ,R,r,h⟩=>?_
 refine ⟨ρ,S,τ,R,r,aF (aL h) .refl fun s S1 h1 ρ1 H1 J e1 R1 jr D hD=>?_⟩
 obtain ⟨ys,S2,hcg,h1⟩:=o5 h1
 obtain ⟨hlen,h1⟩:=bg h1
 have h1:nE X ρ H Q (.ref S2.length) (S2++[.lst ys]):=h1
 obtain ⟨eD,RD⟩:=R1.im (u:=.lst []) hD
 have nD:=R1.Ci hD
 refine ⟨fun i m σ' H'=>m+i=s.k/\∃ ρ' S' τ' acc zs accV,Out ρ1 H1 D accV ρ' H'/\Rel X.K ρ' H' S'/\SR X.K ρ' H' τ' σ'/\AVs X.K ρ' H' acc accV/\fW s g t src2 g2 t2 c m i τ' S'=.ok zs S2/\acc++zs=ys,
  ⟨s.k,rfl,ρ1,S1,eT cap τ,[],ys,[],⟨eD.toExt0,fun a u na hu _=>by rw [aN na];exact hu,fun a ha=>.inl ha,nD,bG⟩,RD,(Gs ((r.ext e1).ext eD) cap),.nil,hcg,rfl⟩,?_⟩
 rintro i m σ3 H3 ⟨hm,ρ3,S3,τ3,acc,zs,accV,o3,R3,r3,ac3,cg3,eys⟩
 cases m with
 | zero=>
  left
  have cg3:(if s.fin S3 then Am.R.ok [] S3 else .no)=.ok zs S2:=cg3
  cases hf:s.fin S3 with
  | false=>rw [hf] at cg3;cases cg3
  | true=>
   rw [hf] at cg3
   cases cg3
   rw [List.append_nil] at eys
   subst eys
   refine ⟨by rw [show i=s.k by omega];exact jr.stop _ H3 ρ3 o3.e0 R3 hf,?_⟩
   obtain ⟨RT,gt⟩:=R3.take o3.hD o3.nD ac3
   refine h1 (ρ3++[D]) H3 _ (e1.trans ⟨⟨o3.e0.pre.trans (List.prefix_append _ _),o3.e0.im⟩,fun a u hu na=>o3.fr a u (aU hu hD) hu na,fun a ha=>?_⟩) RT (.ref gt)
   rcases List.mem_append.mp ha with z | z
   ·exact o3.nw a z
   ·have:a=D:=by simpa using z
    rw [this];exact .inr hD
 | succ m=>
  right
  obtain ⟨x,τ4,S4,b,S5,hx,hg4,ht5,hT,hF⟩:=qR cg3
  obtain ⟨hgo,hy⟩:=jr.go i S3 H3 ρ3 x o3.e0 R3 hx
  refine ⟨hgo,fun v H4 y=>?_⟩
  obtain ⟨e4,R4,v4⟩:=hy v H4 y
  refine ⟨ρ3,S3,τ3,x,τ4,S4,R4,r3.ext e4,v4,hg4,fun ρ5 H5 σ5 e5 R5 r5=>?_⟩
  refine ⟨ρ5,S4,τ4,b,S5,R5,r5,ht5,fun ρ6 H6 e6 R6=>?_⟩
  have e36:=(e4.trans e5).trans e6
  cases b with
  | false=>
   dsimp only
   rw [if_neg Bool.false_ne_true]
   exact ⟨m,Nat.lt_succ_self _,by omega,ρ6,S5,τ4,acc,zs,accV,o3.stay hD e36,R6,r5.ext e6,ac3.ext e36,hF rfl,eys⟩
  | true=>
   dsimp only
   rw [if_pos rfl]
   obtain ⟨s2,S6,ps,τ7,S7,ws,hs6,ci7,co7,ezs⟩:=hT rfl
   refine ⟨ρ6,S5,τ4,s2,S6,R6,r5.ext e6,hs6,fun ρ8 H8 J2 e8 R8 jr2=>?_⟩
   have e38:=e36.trans e8
   have o8:=o3.stay hD e38
   refine ⟨fun i2 m2 σ' H'=>m2+i2=s2.k/\∃ ρ' S' τ' acc2 qs accV2,Out ρ1 H1 D accV2 ρ' H'/\Ext0 ρ8 ρ' H8 H'/\Rel X.K ρ' H' S'/\SR X.K ρ' H' τ' σ'/\AVs X.K ρ' H' acc2 accV2/\g9 s2 g2 t2 c m2 i2 τ' S'=.ok (qs,τ7) S7/\acc2++qs=acc++ps,
    ⟨s2.k,rfl,ρ8,S6,τ4,acc,ps,accV,o8,⟨List.prefix_refl _,fun _ _ _ h=>h⟩,R8,r5.ext (e6.trans e8),ac3.ext e38,ci7,rfl⟩,?_⟩
   rintro i2 m2 σ9 H9 ⟨hm2,ρ9,S9,τ9,acc9,qs,accV9,o9,e89,R9,r9,ac9,ci9,eqs⟩
   cases m2 with
   | zero=>
    left
    have ci9:(if s2.fin S9 then Am.R.ok ([],τ9) S9 else .no)=.ok (qs,τ7) S7:=ci9
    cases hf:s2.fin S9 with
    | false=>rw [hf] at ci9;cases ci9
    | true=>
     rw [hf] at ci9
     cases ci9
     rw [List.append_nil] at eqs
     subst eqs
     refine ⟨by rw [show i2=s2.k by omega];exact jr2.stop _ H9 ρ9 e89 R9 hf,m,Nat.lt_succ_self _,by omega,ρ9,_,_,_,ws,accV9,o9,R9,r9,ac9,co7,?_⟩
     rw [List.append_assoc,<- ezs,eys]
   | succ m2=>
    right
    obtain ⟨x9,τ10,S10,b10,S11,hx9,hg10,ht11,hT9,hF9⟩:=sC ci9
    obtain ⟨hgo2,hy2⟩:=jr2.go i2 S9 H9 ρ9 x9 e89 R9 hx9
    refine ⟨hgo2,fun v10 H10 y10=>?_⟩
    obtain ⟨e10,R10,v10'⟩:=hy2 v10 H10 y10
    refine ⟨ρ9,S9,τ9,x9,τ10,S10,R10,r9.ext e10,v10',hg10,fun ρ11 H11 σ11 e11 R11 r11=>?_⟩
    refine ⟨ρ11,S10,τ10,b10,S11,R11,r11,ht11,fun ρ12 H12 e12 R12=>?_⟩
    have e912:=(e10.trans e11).trans e12
    have o12:=o9.stay hD e912
    have e812:Ext0 ρ8 ρ12 H8 H12:=⟨e89.pre.trans e912.pre,fun a u i h=>e912.im a u i (e89.im a u i h)⟩
    cases b10 with
    | false=>
     dsimp only
     rw [if_neg Bool.false_ne_true]
     exact ⟨m2,Nat.lt_succ_self _,by omega,ρ12,S11,τ10,acc9,qs,accV9,o12,e812,R12,r11.ext e12,ac9.ext e912,hF9 rfl,eqs⟩
    | true=>
     dsimp only
     rw [if_pos rfl]
     obtain ⟨y,S13,us,he13,ci13,eus⟩:=hT9 rfl
     refine ⟨ρ12,S11,τ10,y,S13,R12,r11.ext e12,he13,fun ρ14 H14 w e14 R14 v14=>?_⟩
     have o14:=o12.stay hD e14
     obtain ⟨ex15,R15⟩:=R14.out (ws:=accV9++[w]) o14.hD o14.nD
     have l1:=ac9.length
     refine ⟨accV9,o14.hD,?_,m2,Nat.lt_succ_self _,by omega,ρ14,S13,τ10,acc9++[y],us,accV9++[w],⟨⟨o14.e0.pre,fun a u i h=>ex15.im a u i (o14.e0.im a u i h)⟩,fun a u na hu nr=>by rw [aN na];exact o14.fr a u na hu nr,o14.nw,o14.nD,bG⟩,⟨e812.pre.trans e14.pre,fun a u i h=>ex15.im a u i (e14.im a u i (e812.im a u i h))⟩,R15,(r11.ext (e12.trans e14)).dB ex15,(AVs.dB ex15 ((ac9.ext (e912.trans e14)).append (.one v14))),ci13,?_⟩
     ·have:((acc++ps)++ws).length<=sizeLine:=by rw [List.append_assoc,<- ezs,eys];exact hlen
      rw [<- eqs,eus,List.length_append,List.length_append,List.length_cons] at this
      omega
     ·rw [List.append_assoc,<- eqs,eus];rfl
end
section
variable {P:Program} {w:World} {K:PySem.W.Frag} {mg:Str->Option Value} {base:Heap}
end
noncomputable def M3 (F:List A->aE->R A) (d:iL):Ex:=fun τ S=>(d τ S).bind fun as S1=>F as S1
section
variable {X:Cx} {pos p:Pos} {e:Expr} {es:List Expr} {x:Str} {ps:List Str} {k:Nat} {F:List A->aE->R A} {d:iL}
end
noncomputable def N2:List Value:=[.type "ValueError",.type "Exception",.type "BaseException",.type "object"]
noncomputable def Fi:List (Str ⊕ Ex)->List A->aE->R Unit
 | [],_,S=>.ok () S
 | .inl _::ps,τ,S=>Fi ps τ S
 | .inr e::ps,τ,S=>(e τ S).bind fun v S1=>match v with
  | .int i=>gd (i.natAbs.log2 < 64) (Fi ps τ S1)
  | _=>.no
noncomputable def JC (c:Str) (ps:List (Str ⊕ Ex)):Sm:=fun τ S=>.of (Fi ps τ S) fun _ S1=>.ex c S1
section
variable {X:Cx} {pos np cpos fp:Pos} {x:Str} {C:Addr} {e1 e2:Expr} {es:List Expr} {ps:List (Str ⊕ Ex)}
end
noncomputable def GO (i:Nat):RS->RS
 | .nx τ S=>.nx (τ.set i .unb) S
 | .bk τ S=>.bk (τ.set i .unb) S
 | .ct τ S=>.ct (τ.set i .unb) S
 | .rt a S=>.rt a S
 | _=>.no
noncomputable def Lq (i n:Nat) (cs:List Str) (c d:Sm):Sm:=fun τ S=>match c τ S with
 | .ex x S1=>if x∈cs then GO i (d ((List.replicate n .unb).set i (.exn x)) S1) else .no
 | r=>r
section
variable {X:Cx} {pos np hp:Pos} {y n:Str} {Dc:Addr} {i:Nat} {body suite:List Stmt} {b0:Stmt} {c d:Sm} {cs:List Str}
end
noncomputable def MI (f:Str->Option Bool) (c:Ex):Ex:=fun τ S=>(c τ S).bind fun v S1=>match v with
 | .exn x=>opt (f x) fun b=>.ok (.bl b) S1
 | _=>.no
section
variable {X:Cx} {pos p py:Pos} {a:Expr} {y:Str} {vy:V} {cy:Value} {f:Str->Option Bool} {c:Ex}
end
structure ExcK (K:PySem.W.Frag) (U:Addr) (c:Str) (C:Addr):Prop where
 n:ML K c C
 q:PySem.W.excIn K C N2 "ValueError.__new__" = true
 r:L2.mroIn K C=some (.ref U::N2)
 x:XCls K C
 cl:(PySem.W.clsIn K C).isSome=true
 v:PySem.W.kitOne K (.ref C) (.type "ValueError")=some true
noncomputable def Oe (tb:List (Str×Bool)):Str->Option Bool:=fun x=>tb.lookup x
section
variable {X:Cx} {pos p py:Pos} {a:Expr} {y:Str} {Cy:Addr} {tb:List (Str×Bool)} {c:Ex}
end
section
variable {P:Program} {w:World} {K:PySem.W.Frag} {mg:Str->Option Value} {base:Heap}
end
noncomputable def Lf (F:List A->aE->R A) (d:iL):Ex:=fun τ S=>match d τ S with
 | .ok as S1=>F as S1
 | _=>.no
section
variable {X:Cx} {pos p:Pos} {e:Expr} {es:List Expr} {x:Str} {ps:List Str} {k:Nat} {F:List A->aE->R A} {d:iL}
noncomputable def KL (t:Te) (c d:Sm):Sm:=fun τ S=>match t τ S with
 | .ok true S1=>c τ S1
 | .ok false S1=>d τ S1
 | _=>.no
end
noncomputable def G3 (i:Nat) (cs:List Str) (c d:Sm):Sm:=fun τ S=>match c τ S with
 | .ex x S1=>if x∈cs then GO i (d (τ.set i (.exn x)) S1) else .no
 | r=>r
section
variable {X:Cx} {pos np hp:Pos} {y n:Str} {Dc:Addr} {i:Nat} {suite:List Stmt} {b b0:Stmt} {c d:Sm} {cs:List Str}
end
end Am
namespace L2
open PySem PySem.Spec PyProof.Rows
end L2
namespace Am
open PySem PySem.Spec PyProof.Rows L2
noncomputable def MH:Sm:=fun _ _=>.no
theorem G7 {X:Cx} {st:Stmt}:AS X st MH:=PS.imp Au fun D σ H ⟨ρ,S,τ,R,r,h⟩=>h.elim
theorem zl {K:PySem.W.Frag} {H:Hp} {a:Addr} {ns:List Int} {F:List A->aE->R A} (hO:Gj H) (hS:fY K H a (ns.map V.int)) (h:∃ S',F [.frz (ns.map .int)] []=.ok (.bl true) S'):kB K 1 F [.ref a] H (fun v _=>v=.bl true) fun _ _ _=>False:=by
 obtain ⟨S',h⟩:=h
 have fz:Fz K H a (ns.map V.int):=by
  rcases hS with (h | ⟨o,h⟩) | h
  ·rcases hO a with z | ⟨ob,xs,z⟩
   ·rw [h] at z;cases z
   ·rw [h] at z;cases z
  ·exact .inl ⟨o,h⟩
  ·exact .inr h
 exact ⟨rfl,[],[],_,_,S',⟨rfl,List.nodup_nil,fun n a o h=>by simp at h⟩,.cons (.frz fz (gE ns)) .nil,h,fun ρ' H' v _ _ hv=>qh hv⟩
section
variable {P:Program} {w:World} {K:PySem.W.Frag} {mg:Str->Option Value} {base:Heap} {f:Addr} {fd:FuncData} {ps:List Str} {k n:Nat}
end
theorem Gw {P:List Value->Prop} (h:∀ a0,P [a0]):∀ us:List Value,us.length=1->P us
 | [_],_=>h _
theorem Ao {P:List Value->Prop} (h:∀ a0 a1,P [a0,a1]):∀ us:List Value,us.length=2->P us
 | [_,_],_=>h _ _
theorem MT {P:List Value->Prop} (h:∀ a0 a1 a2,P [a0,a1,a2]):∀ us:List Value,us.length=3->P us
 | [_,_,_],_=>h _ _ _
theorem Oj {P:List Value->Prop} (h:∀ a0 a1 a2 a3 a4,P [a0,a1,a2,a3,a4]):∀ us:List Value,us.length=5->P us
 | [_,_,_,_,_],_=>h _ _ _ _ _
end Am
namespace Am
open PySem L2
section
variable {α β:Type} {a b:A} {S S1 S2:aE} {τ:List A} {x:α}
@[simp] theorem R.dz {f:α->aE->R β}:(R.ok x S).bind f=f x S:=rfl
@[simp] theorem R.yj {f:α->aE->R β} {c:Str}:(R.ex c S:R α).bind f=.ex c S:=rfl
@[simp] theorem R.cU {f:α->aE->R β}:(R.ok x S).dc f=f x S:=rfl
@[simp] theorem RS.of_ok {f:α->aE->RS}:RS.of (R.ok x S) f=f x S:=rfl
@[simp] theorem RS.GH {f:α->aE->RS} {c:Str}:RS.of (R.ex c S:R α) f=.ex c S:=rfl
@[simp] theorem bA {f:β->R α} {y:β}:opt (some y) f=f y:=rfl
@[simp] theorem wV {r:R α}:gd True r=r:=if_pos trivial
theorem cZ {c:Prop} [Decidable c] {r:R α} (h:c):gd c r=r:=if_pos h
@[simp] theorem x_ {i:Nat}:ah i τ S=bif (τ.getD i .unb).eE then .no else .ok (τ.getD i .unb) S:=by unfold ah;cases (τ.getD i .unb).eE <;> rfl
@[simp] theorem xg {xs:List A}:A.eE (.tup xs)=false:=rfl
@[simp] theorem yz {xs:List A}:A.eE (.frz xs)=false:=rfl
@[simp] theorem yL {i:Int}:A.eE (.int i)=false:=rfl
@[simp] theorem DJ {i:Bool}:A.eE (.bl i)=false:=rfl
@[simp] theorem xq {i:Str}:A.eE (.str i)=false:=rfl
@[simp] theorem yG {i:Nat}:A.eE (.ref i)=false:=rfl
@[simp] theorem xU:A.eE .non=false:=rfl
@[simp] theorem xO {i j:Int}:A.eE (.rng i j)=false:=rfl
@[simp] theorem yq {c:Str}:A.eE (.exn c)=false:=rfl
@[simp] theorem HC:eC a τ S=.ok a S:=rfl
noncomputable def LP (f:A->A->aE->R A) (cb:Ex) (τ:List A) (a:A) (S:aE):R A:=(cb τ S).bind (f a)
@[simp] theorem xQ {f:A->A->aE->R A} {cb:Ex}:LP f cb τ a S=(cb τ S).bind (f a):=rfl
@[simp] theorem yT {f:A->A->aE->R A} {ca cb:Ex}:aH f ca cb τ S=(ca τ S).bind (LP f cb τ):=rfl
@[simp] theorem AB {f:A->aE->R A} {ca:Ex}:MJ f ca τ S=(ca τ S).bind f:=rfl
@[simp] theorem yl {c:Ex}:ji c τ S=(c τ S).bind fun a S1=>opt (a.JG S1) fun b=>.ok b S1:=rfl
noncomputable def aB (a:A) (S:aE):R Bool:=match a with
 | .bl b=>.ok b S
 | _=>.no
@[simp] theorem Hx {b:Bool}:aB (.bl b) S=.ok b S:=rfl
@[simp] theorem CV {c:Ex}:iW c τ S=(c τ S).bind aB:=rfl
@[simp] theorem wo {c:Te}:zJ c τ S=(c τ S).bind fun b S1=>.ok (!b) S1:=rfl
noncomputable def Im (d:Te) (τ:List A) (b:Bool) (S:aE):R Bool:=match b with | true=>d τ S | false=>.ok false S
noncomputable def My (d:Te) (τ:List A) (b:Bool) (S:aE):R Bool:=match b with | true=>.ok true S | false=>d τ S
@[simp] theorem AN {d:Te}:Im d τ true S=d τ S:=rfl
@[simp] theorem BW {d:Te}:Im d τ false S=.ok false S:=rfl
@[simp] theorem G4 {d:Te}:My d τ true S=.ok true S:=rfl
@[simp] theorem Hu {d:Te}:My d τ false S=d τ S:=rfl
@[simp] theorem wc {c d:Te}:Ng c d τ S=(c τ S).bind (Im d τ):=rfl
@[simp] theorem Ca {c d:Te}:Kv c d τ S=(c τ S).bind (My d τ):=rfl
@[simp] theorem yP:pN τ S=.ok true S:=rfl
noncomputable def AM (d:Ex) (τ:List A) (a:A) (S:aE):R A:=match a with | .bl true=>d τ S | .bl false=>.ok (.bl false) S | _=>.no
noncomputable def Jj (d:Ex) (τ:List A) (a:A) (S:aE):R A:=match a with | .bl true=>.ok (.bl true) S | .bl false=>d τ S | _=>.no
@[simp] theorem wQ {d:Ex}:AM d τ (.bl true) S=d τ S:=rfl
@[simp] theorem xZ {d:Ex}:AM d τ (.bl false) S=.ok (.bl false) S:=rfl
@[simp] theorem DA {d:Ex}:Jj d τ (.bl true) S=.ok (.bl true) S:=rfl
@[simp] theorem Du {d:Ex}:Jj d τ (.bl false) S=d τ S:=rfl
@[simp] theorem yr {c d:Ex}:Fp c d τ S=(c τ S).bind (AM d τ):=by
 unfold Fp
 cases c τ S with
 | ok a S1=>cases a <;> first | rfl | (rename_i b;cases b <;> rfl)
 | _=>rfl
@[simp] theorem CU {c d:Ex}:Ms c d τ S=(c τ S).bind (Jj d τ):=by
 unfold Ms
 cases c τ S with
 | ok a S1=>cases a <;> first | rfl | (rename_i b;cases b <;> rfl)
 | _=>rfl
noncomputable def GP (a:A) (S:aE):R A:=match a with | .bl b=>.ok (.bl !b) S | _=>.no
@[simp] theorem tN {b:Bool}:GP (.bl b) S=.ok (.bl !b) S:=rfl
@[simp] theorem xF {c:Ex}:IU c τ S=(c τ S).bind GP:=rfl
noncomputable def JN (c d:Ex) (τ:List A) (b:Bool) (S:aE):R A:=match b with | true=>c τ S | false=>d τ S
@[simp] theorem DN {c d:Ex}:JN c d τ true S=c τ S:=rfl
@[simp] theorem Dw {c d:Ex}:JN c d τ false S=d τ S:=rfl
@[simp] theorem DF {t:Te} {c d:Ex}:Of t c d τ S=(t τ S).bind (JN c d τ):=rfl
@[simp] theorem xh:aJ τ S=.ok [] S:=rfl
noncomputable def vF (a:A) (as:List A) (S:aE):R (List A):=.ok (a::as) S
noncomputable def Hq (d:iL) (τ:List A) (a:A) (S:aE):R (List A):=(d τ S).bind (vF a)
@[simp] theorem ql {as:List A}:vF a as S=.ok (a::as) S:=rfl
@[simp] theorem tU {d:iL}:Hq d τ a S=(d τ S).bind (vF a):=rfl
@[simp] theorem uD {c:Ex} {d:iL}:aj c d τ S=(c τ S).bind (Hq d τ):=rfl
@[simp] theorem yy {d:iL}:fM d τ S=(d τ S).bind fun as S1=>gd (as.length<=sizeLine) (.ok (.tup as) S1):=rfl
@[simp] theorem yO {d:iL}:jS d τ S=(d τ S).bind newL:=rfl
theorem bX {as:List A} (h:as.length<=16777216):newL as S=.ok (.ref S.length) (S++[.lst as]):=cZ (by rw [sizeLine_eq];exact h)
@[simp] theorem uc {f:List A->aE->R A} {d:iL}:aV f d τ S=(d τ S).bind f:=rfl
noncomputable def Nk (r:R A):R A:=match r with
 | .ok a S=>.ok a S
 | _=>.no
@[simp] theorem Cb:Nk (.ok a S)=.ok a S:=rfl
noncomputable def NZ (f:List A->aE->R A) (as:List A) (S:aE):R A:=Nk (f as S)
@[simp] theorem BZ {f:List A->aE->R A} {as:List A}:NZ f as S=Nk (f as S):=rfl
@[simp] theorem DZ {f:List A->aE->R A} {d:iL}:eFn f d τ S=(d τ S).bind (NZ f):=rfl
@[simp] theorem Hg {g:A->aE->R A}:f1 g [a] S=g a S:=rfl
@[simp] theorem G0 {g:A->A->aE->R A}:f2 g [a,b] S=g a b S:=rfl
noncomputable def Iu (h:Pt) (τ:List A) (a:A) (l:Option Int) (S:aE):R A:=(h τ S).bind (Ky a l)
noncomputable def NK (l h:Pt) (τ:List A) (a:A) (S:aE):R A:=(l τ S).bind (Iu h τ a)
@[simp] theorem y9 {h:Pt} {l:Option Int}:Iu h τ a l S=(h τ S).bind (Ky a l):=rfl
@[simp] theorem C3 {l h:Pt}:NK l h τ a S=(l τ S).bind (Iu h τ a):=rfl
@[simp] theorem Br {c:Ex} {l h:Pt}:Kz c l h τ S=(c τ S).bind (NK l h τ):=rfl
@[simp] theorem s_:wK τ S=.ok none S:=rfl
noncomputable def N6 (a:A) (S:aE):R (Option Int):=match a with
 | .int i=>.ok (some i) S
 | _=>.no
@[simp] theorem we {i:Int}:N6 (.int i) S=.ok (some i) S:=rfl
@[simp] theorem sL {c:Ex}:mW c τ S=(c τ S).bind N6:=rfl
noncomputable def Ke (f:A->List A->aE->R A) (d:iL) (τ:List A) (o:A) (S:aE) (_:List A):R A:=(d τ S).bind (f o)
noncomputable def NU (f:A->List A->aE->R A) (d:iL) (τ:List A) (o:A) (S:aE):R A:=opt (o.lst? S) (Ke f d τ o S)
@[simp] theorem zc {f:A->List A->aE->R A} {d:iL} {xs:List A}:Ke f d τ a S xs=(d τ S).bind (f a):=rfl
@[simp] theorem C_ {f:A->List A->aE->R A} {d:iL}:NU f d τ a S=opt (a.lst? S) (Ke f d τ a S):=rfl
@[simp] theorem Ba {f:A->List A->aE->R A} {c:Ex} {d:iL}:HJ f c d τ S=(c τ S).bind (NU f d τ):=rfl
@[simp] theorem yJ {f:A->List A->aE->R A} {c:Ex}:J1 f c τ S=(c τ S).bind fun o S1=>opt (o.lst? S1) fun _=>f o [] S1:=rfl
@[simp] theorem lst?_ref {n:Nat}:A.lst? S (.ref n)=ak S n:=rfl
noncomputable def RS.seq (r:RS) (d:Sm):RS:=match r with
 | .nx τ S=>d τ S
 | r=>r
@[simp] theorem RS.B9 {d:Sm}:RS.seq (.nx τ S) d=d τ S:=rfl
@[simp] theorem RS.Bj {d:Sm}:RS.seq (.rt a S) d=.rt a S:=rfl
@[simp] theorem RS.Cg {d:Sm} {c:Str}:RS.seq (.ex c S) d=.ex c S:=rfl
@[simp] theorem RS.D4 {d:Sm}:RS.seq (.bk τ S) d=.bk τ S:=rfl
@[simp] theorem RS.Cq {d:Sm}:RS.seq (.ct τ S) d=.ct τ S:=rfl
@[simp] theorem wO {c d:Sm}:aZ c d τ S=RS.seq (c τ S) d:=by unfold aZ RS.seq;cases c τ S <;> rfl
@[simp] theorem za:fX τ S=.nx τ S:=rfl
@[simp] theorem qC:Kq τ S=.bk τ S:=rfl
@[simp] theorem uf:LO τ S=.ct τ S:=rfl
@[simp] theorem sI {e:Ex}:j4 e τ S=RS.of (e τ S) fun _ S1=>.nx τ S1:=rfl
@[simp] theorem xM {e:Ex}:cF e τ S=RS.of (e τ S) .rt:=rfl
@[simp] theorem r6:A0 τ S=.rt .non S:=rfl
noncomputable def Mj (c d:Sm) (τ:List A) (b:Bool) (S:aE):RS:=match b with | true=>c τ S | false=>d τ S
@[simp] theorem G_ {c d:Sm}:Mj c d τ true S=c τ S:=rfl
@[simp] theorem Gq {c d:Sm}:Mj c d τ false S=d τ S:=rfl
@[simp] theorem Ar {t:Te} {c d:Sm}:nO t c d τ S=RS.of (t τ S) (Mj c d τ):=rfl
noncomputable def K5 (g:Tg) (τ:List A) (a:A) (S:aE):RS:=RS.of (g a τ S) .nx
@[simp] theorem wu {g:Tg}:K5 g τ a S=RS.of (g a τ S) .nx:=rfl
@[simp] theorem xS {e:Ex} {g:Tg}:bE e g τ S=RS.of (e τ S) (K5 g τ):=rfl
@[simp] theorem Cm {i:Nat}:bF i a τ S=.ok (τ.set i a) S:=rfl
noncomputable def HV (a o:A) (τ:List A) (i:A) (S:aE):R (List A):=(tK o i a S).bind fun _ S3=>.ok τ S3
noncomputable def NS (ci:Ex) (τ:List A) (a o:A) (S:aE):R (List A):=(ci τ S).bind (HV a o τ)
@[simp] theorem yD {o i:A}:HV a o τ i S=(tK o i a S).bind fun _ S3=>.ok τ S3:=rfl
@[simp] theorem Dg {ci:Ex} {o:A}:NS ci τ a o S=(ci τ S).bind (HV a o τ):=rfl
@[simp] theorem AJ {co ci:Ex}:yM co ci a τ S=(co τ S).bind (NS ci τ a):=rfl
@[simp] theorem Bc {n:Nat} {gs:Ef} {xs:List A}:pO n gs (.tup xs) τ S=gd (xs.length=n) (gs xs τ S):=rfl
@[simp] theorem CB:pQ [] τ S=.ok τ S:=rfl
@[simp] theorem A2 {g:Tg} {gs:Ef} {as:List A}:iI g gs (a::as) τ S=(g a τ S).bind (gs as):=rfl
noncomputable def NN (i j:Nat) (τ:List A) (as:List A) (S:aE):RS:=match as with
 | [a,b]=>.nx ((τ.set i a).set j b) S
 | _=>.no
@[simp] theorem D8 {i j:Nat}:NN i j τ [a,b] S=.nx ((τ.set i a).set j b) S:=rfl
@[simp] theorem wZ {i j:Nat} {c:iL}:Jz i j c τ S=RS.of (c τ S) (NN i j τ):=rfl
noncomputable def DW (i:Nat) (τ:List A) (c:A) (S:aE):RS:=.nx (τ.set i c) S
noncomputable def LL (i:Nat) (f:A->A->aE->R A) (τ:List A) (b:A) (S:aE):RS:=.of (f (τ.getD i .unb) b S) (DW i τ)
@[simp] theorem sH {i:Nat}:DW i τ a S=.nx (τ.set i a) S:=rfl
@[simp] theorem ye {i:Nat} {f:A->A->aE->R A}:LL i f τ a S=.of (f (τ.getD i .unb) a S) (DW i τ):=rfl
@[simp] theorem xW {i:Nat} {f:A->A->aE->R A} {e:Ex}:B3 i f e τ S=bif (τ.getD i .unb).eE then .no else .of (e τ S) (LL i f τ):=by
 unfold B3;cases (τ.getD i .unb).eE <;> rfl
noncomputable def NB (o i:A) (τ:List A) (z:A) (S:aE):RS:=.of (tK o i z S) fun _ S6=>.nx τ S6
noncomputable def MK (f:A->A->aE->R A) (o i x:A) (τ:List A) (y:A) (S:aE):RS:=.of (f x y S) (NB o i τ)
noncomputable def NC (ce:Ex) (f:A->A->aE->R A) (o i:A) (τ:List A) (x:A) (S:aE):RS:=.of (ce τ S) (MK f o i x τ)
noncomputable def MR (ce:Ex) (f:A->A->aE->R A) (o:A) (τ:List A) (i:A) (S:aE):RS:=.of (Dz o i S) (NC ce f o i τ)
noncomputable def NJ (ci ce:Ex) (f:A->A->aE->R A) (τ:List A) (o:A) (S:aE):RS:=.of (ci τ S) (MR ce f o τ)
@[simp] theorem D9 {o i:A}:NB o i τ a S=.of (tK o i a S) fun _ S6=>.nx τ S6:=rfl
@[simp] theorem Ea {f:A->A->aE->R A} {o i x:A}:MK f o i x τ a S=.of (f x a S) (NB o i τ):=rfl
@[simp] theorem AY {ce:Ex} {f:A->A->aE->R A} {o i:A}:NC ce f o i τ a S=.of (ce τ S) (MK f o i a τ):=rfl
@[simp] theorem CQ {ce:Ex} {f:A->A->aE->R A} {o:A}:MR ce f o τ a S=.of (Dz o a S) (NC ce f o a τ):=rfl
@[simp] theorem BS {ci ce:Ex} {f:A->A->aE->R A}:NJ ci ce f τ a S=.of (ci τ S) (MR ce f a τ):=rfl
@[simp] theorem sG {co ci ce:Ex} {f:A->A->aE->R A}:oQ co ci ce f τ S=RS.of (co τ S) (NJ ci ce f τ):=rfl
noncomputable def RS.end (r:RS):R A:=match r with
 | .rt a S'=>.ok a S'
 | .nx _ S'=>.ok .non S'
 | .ex c S'=>.ex c S'
 | _=>.no
@[simp] theorem RS.Bs:RS.end (.rt a S)=.ok a S:=rfl
@[simp] theorem RS.B5:RS.end (.nx τ S)=.ok .non S:=rfl
@[simp] theorem RS.BO {c:Str}:RS.end (.ex c S)=.ex c S:=rfl
theorem nv {N:List Str} {m:Sm} {as:List A}:eK N m as S=RS.end (m (as++List.replicate (N.length - as.length) .unb) S):=by
 unfold eK RS.end;cases m (as++List.replicate (N.length - as.length) .unb) S <;> rfl
@[simp] theorem C5 {i j:Int}:b_ (.int i) (.int j) S=.ok (.int (i+j)) S:=rfl
@[simp] theorem BB {i j:Int}:aSub (.int i) (.int j) S=.ok (.int (i - j)) S:=rfl
@[simp] theorem Cc {i j:Int}:zL (.int i) (.int j) S=.ok (.int (i+j)) S:=rfl
theorem uw {i j:Int} (h:-18446744073709551616 < i) (h':i < 18446744073709551616):gq (.int i) (.int j) S=.ok (.int (i * j)) S:=cZ (by unfold tu;simp;left;exact ⟨by omega,by omega⟩)
theorem mul_r {i j:Int} (h:-18446744073709551616 < j) (h':j < 18446744073709551616):gq (.int i) (.int j) S=.ok (.int (i * j)) S:=cZ (by unfold tu;simp;right;exact ⟨by omega,by omega⟩)
theorem ve {i j:Int} (h:0 < j) (h':j < 1073741824):su (.int i) (.int j) S=.ok (.int (i / j)) S:=cZ ⟨h,by omega⟩
theorem oW {i j:Int} (h:0 < j):kj (.int i) (.int j) S=.ok (.int (i % j)) S:=cZ h
@[simp] theorem Gy {i j:Int}:yd (.int i) (.int j) S=.ok (.bl (decide (i < j))) S:=rfl
@[simp] theorem Gr {i j:Int}:Mq (.int i) (.int j) S=.ok (.bl (decide (i<=j))) S:=rfl
@[simp] theorem Hi {i j:Int}:Al (.int i) (.int j) S=.ok (.bl (decide (j < i))) S:=rfl
@[simp] theorem G8 {i j:Int}:Kw (.int i) (.int j) S=.ok (.bl (decide (j<=i))) S:=rfl
@[simp] theorem GY {i j:Bool}:qV false (.bl i) (.bl j) S=.ok (.bl (i == j)) S:=rfl
@[simp] theorem CW {i j:Bool}:qV true (.bl i) (.bl j) S=.ok (.bl (i != j)) S:=rfl
@[simp] theorem Cj {i:Int}:M_ (.int i) S=.ok (.int (-i)) S:=rfl
@[simp] theorem B8 {xs:List A}:eg (.tup xs) S=.ok (.int xs.length) S:=rfl
@[simp] theorem CK {xs:List A}:eg (.frz xs) S=.ok (.int xs.length) S:=rfl
@[simp] theorem Av {n:Nat}:eg (.ref n) S=opt (ak S n) fun xs=>.ok (.int xs.length) S:=rfl
@[simp] theorem AK {i:Int}:Ib (.int i) S=.ok (.int (if i < 0 then -i else i)) S:=rfl
@[simp] theorem xj {i j:Int}:wz (.int i) (.int j) S=.ok (.int (if j > i then j else i)) S:=rfl
@[simp] theorem zh {i j:Int}:vZ (.int i) (.int j) S=.ok (.int (if j < i then j else i)) S:=rfl
@[simp] theorem xN {i:Int}:n5 (.int i) S=.ok (.int i) S:=rfl
@[simp] theorem xX {i:Bool}:n5 (.bl i) S=.ok (.int (if i then 1 else 0)) S:=rfl
@[simp] theorem qA {i j:Int}:nL (.int i) (.int j) S=.ok (.rng i j) S:=rfl
@[simp] theorem G5 {xs:List A} {i:Int}:fG (.tup xs) (.int i) S=opt (fB xs i) fun x=>.ok x S:=rfl
@[simp] theorem HB {xs:List A} {i:Int}:fG (.frz xs) (.int i) S=opt (fB xs i) fun x=>.ok x S:=rfl
@[simp] theorem GB {n:Nat} {i:Int}:fG (.ref n) (.int i) S=opt (ak S n) fun xs=>opt (fB xs i) fun x=>.ok x S:=rfl
@[simp] theorem Bb {n:Nat} {k:Int}:tK (.ref n) (.int k) a S=opt (ak S n) fun xs=>opt (oE xs.length k) fun j=>.ok () (S.set n (.lst (xs.set j a))):=rfl
@[simp] theorem Cn {n:Nat} {i:Int}:Dz (.ref n) (.int i) S=opt (ak S n) fun xs=>gd (0<=i) (opt (xs[i.toNat]?) fun x=>.ok x S):=rfl
theorem p5 {i j:Int} (h:qp i j):kR (.rng i j) S=.ok (.ref S.length) (S++[.lst ((aX i j).map .int)]):=cZ h
@[simp] theorem yx {xs:List A}:kR (.tup xs) S=.ok (.ref S.length) (S++[.lst xs]):=rfl
@[simp] theorem yk {xs:List A}:kR (.frz xs) S=.ok (.ref S.length) (S++[.lst xs]):=rfl
@[simp] theorem yF {n:Nat}:kR (.ref n) S=opt (ak S n) fun xs=>.ok (.ref S.length) (S++[.lst xs]):=rfl
@[simp] theorem sZ {xs:List A}:iY (.tup xs) S=.ok (.tup xs) S:=rfl
@[simp] theorem tQ {n:Nat}:iY (.ref n) S=opt (ak S n) fun xs=>.ok (.tup xs) S:=rfl
@[simp] theorem BY {xs:List A}:CA (.tup xs) S=.ok (.tup xs.reverse) S:=rfl
@[simp] theorem BI {n:Nat}:CA (.ref n) S=opt (ak S n) fun xs=>.ok (.ref S.length) (S++[.lst xs.reverse]):=rfl
@[simp] theorem GL {n:Nat} {l u:Option Int}:Ky (.ref n) l u S=opt (ak S n) fun xs=>.ok (.ref S.length) (S++[.lst (kc xs l u)]):=rfl
@[simp] theorem oz {n:Nat}:kI (.ref n) [a] S=opt (ak S n) fun xs=>gd (xs.length < sizeLine) (.ok .non (S.set n (.lst (xs++[a])))):=rfl
@[simp] theorem CS {b:Bool}:A.JG (.bl b) S=some b:=rfl
@[simp] theorem yt {i:Int}:A.JG (.int i) S=some (i != 0):=rfl
theorem JZ {o:O}:(S++[o])[S.length]?=some o:=by simp
@[simp] theorem aS {xs:List A}:ak (S++[.lst xs]) S.length=some xs:=kX JZ
theorem c_ {o:O} {n:Nat} {xs:List A} (h:ak S n=some xs):ak (S++[o]) n=some xs:=by
 have h':=aP h
 exact kX (by rw [List.getElem?_append_left (List.getElem?_eq_some_iff.mp h').1];exact h')
theorem cN {n:Nat} {xs:List A} (h:ak S n=some xs):n < S.length:=(List.getElem?_eq_some_iff.mp (aP h)).1
theorem cj {n:Nat} {ys:List A} (h:n < S.length):ak (S.set n (.lst ys)) n=some ys:=kX (List.getElem?_set_self h)
theorem bT {n m:Nat} {ys:List A} (h:n≠m):ak (S.set n (.lst ys)) m=ak S m:=by unfold ak;rw [List.getElem?_set_ne h]
theorem vg {xs:List A} {i:Int} {k:Nat} {x:A} (h:i=k) (hx:xs[k]?=some x):fB xs i=some x:=by rw [h];exact E8 hx
theorem gJ {n:Nat} {i:Int} {k:Nat} (h:i=k) (hk:k < n):oE n i=some k:=by
 subst h
 unfold oE
 rw [if_pos (by omega),if_pos (by omega)]
 simp
end
structure Kp (b:Nat->Prop) (S S':aE):Prop where
 len:S.length<=S'.length
 obj:∀ (n:Nat) (o:O),¬ b n->S[n]?=some o->S'[n]?=some o
noncomputable abbrev fH:=Kp fun _=>False
theorem Kp.lst {b:Nat->Prop} {S S':aE} (h:Kp b S S') (n:Nat) (xs:List A) (hb:¬ b n) (e:ak S n=some xs):ak S' n=some xs:=kX (h.obj n _ hb (aP e))
theorem Kp.dct {b:Nat->Prop} {S S':aE} (h:Kp b S S') (n:Nat) (xs:List (List Int×A)) (hb:¬ b n) (e:bO S n=some xs):bO S' n=some xs:=lE (h.obj n _ hb (gM e))
theorem Kp.refl {b:Nat->Prop} {S:aE}:Kp b S S:=⟨Nat.le_refl _,fun _ _ _ h=>h⟩
theorem Kp.trans {b:Nat->Prop} {S S1 S2:aE} (h:Kp b S S1) (h':Kp b S1 S2):Kp b S S2:=⟨Nat.le_trans h.len h'.len,fun n xs hb e=>h'.obj n xs hb (h.obj n xs hb e)⟩
theorem uT {S:aE} {n:Nat} {o:O} (e:S[n]?=some o):n < S.length:=(List.getElem?_eq_some_iff.mp e).1
theorem Kp.lay {b:Nat->Prop} {S S1:aE} {o:O} (h:Kp b S S1):Kp b S (S1++[o]):=⟨Nat.le_trans h.len (by simp),fun n xs hb e=>by
 have:=h.obj n xs hb e
 rw [List.getElem?_append_left (uT this)];exact this⟩
theorem Kp.Jl {b:Nat->Prop} {S S1:aE} {m:Nat} {o:O} (h:Kp b S S1) (hm:b m\/S.length<=m):Kp b S (S1.set m o):=⟨by rw [List.length_set];exact h.len,fun n xs hb e=>by
 have:m≠n:=fun z=>by
  subst z
  rcases hm with z | z
  ·exact hb z
  ·exact absurd (uT e) (by omega)
 rw [List.getElem?_set_ne this]
 exact h.obj n xs hb e⟩
theorem Kp.set {b:Nat->Prop} {S S1:aE} {m:Nat} {ys:List A} (h:Kp b S S1) (hm:b m\/S.length<=m):Kp b S (S1.set m (.lst ys)):=h.Jl hm
theorem Kp.old {b c:Nat->Prop} {S S1 S2:aE} (h:Kp b S S1) (h':Kp c S1 S2) (hc:∀ n,n < S.length->¬ b n->¬ c n):Kp b S S2:=⟨Nat.le_trans h.len h'.len,fun n xs hb e=>h'.obj n xs (hc n (uT e) hb) (h.obj n xs hb e)⟩
theorem jg {t:Te} {c:Sm} (Inv:List A->aE->Prop) (μ:List A->aE->Nat) (Post:RS->Prop)
  (h:∀ τ S,Inv τ S->(∃ S1,t τ S=.ok false S1/\Post (.nx τ S1))\/(∃ S1,t τ S=.ok true S1/\((∃ τ' S',c τ S1=.nx τ' S'/\Inv τ' S'/\μ τ' S' < μ τ S)\/(∃ a S',c τ S1=.rt a S'/\Post (.rt a S'))))) :
  ∀ n τ S,Inv τ S->μ τ S < n->Post (dH t c n τ S)
 | 0,_,_,_,hn=>absurd hn (Nat.not_lt_zero _)
 | n+1,τ,S,hi,hn=>by
  unfold dH
  rcases h τ S hi with ⟨S1,e,q⟩ | ⟨S1,e,⟨τ',S',e2,hi',hm⟩ | ⟨a,S',e2,q⟩⟩
  ·rw [e];exact q
  ·rw [e]
   show Post (match c τ S1 with
    | .nx τ' S'=>dH t c n τ' S'
    | .ct τ' S'=>dH t c n τ' S'
    | .bk τ' S'=>.nx τ' S'
    | r=>r)
   rw [e2]
   exact jg Inv μ Post h n τ' S' hi' (by omega)
  ·rw [e]
   show Post (match c τ S1 with
    | .nx τ' S'=>dH t c n τ' S'
    | .ct τ' S'=>dH t c n τ' S'
    | .bk τ' S'=>.nx τ' S'
    | r=>r)
   rw [e2]
   exact q
theorem uS {s:Src} {g:Tg} {c:Sm} (Inv:Nat->List A->aE->Prop) (Post:RS->Prop)
  (step:∀ i τ S,i < s.k->Inv i τ S->∃ x τ1 S1,s.get i S=some x/\g x τ S=.ok τ1 S1/\((∃ τ' S',c τ1 S1=.nx τ' S'/\Inv (i+1) τ' S')\/(∃ a S',c τ1 S1=.rt a S'/\Post (.rt a S'))))
  (fin:∀ τ S,Inv s.k τ S->s.fin S=true/\Post (.nx τ S)):∀ k i τ S,k+i=s.k->Inv i τ S->Post (gS s g c k i τ S)
 | 0,i,τ,S,hk,hi=>by
  have:i=s.k:=by omega
  subst this
  obtain ⟨hf,q⟩:=fin τ S hi
  unfold gS
  rw [if_pos hf]
  exact q
 | k+1,i,τ,S,hk,hi=>by
  obtain ⟨x,τ1,S1,hx,hg,h⟩:=step i τ S (by omega) hi
  unfold gS
  rw [hx]
  show Post (RS.of (g x τ S) fun τ1 S1=>match c τ1 S1 with
   | .nx τ' S'=>gS s g c k (i+1) τ' S'
   | .ct τ' S'=>gS s g c k (i+1) τ' S'
   | .bk τ' S'=>.nx τ' S'
   | r=>r)
  rw [hg]
  show Post (match c τ1 S1 with
   | .nx τ' S'=>gS s g c k (i+1) τ' S'
   | .ct τ' S'=>gS s g c k (i+1) τ' S'
   | .bk τ' S'=>.nx τ' S'
   | r=>r)
  rcases h with ⟨τ',S',e,hi'⟩ | ⟨a,S',e,q⟩
  ·rw [e];exact uS Inv Post step fin k (i+1) τ' S' (by omega) hi'
  ·rw [e];exact q
theorem fN {lo hi:Int} {j:Nat} {c:Sm} {src:Ic} {τ:List A} {S S1:aE} (hs:src τ S=.ok (cM lo hi) S1) (Inv:Nat->List A->aE->Prop) (Post:RS->Prop) (h0:Inv 0 τ S1)
  (step:∀ (i:Nat) τ S,(i:Int) < hi - lo->Inv i τ S->(∃ τ' S',c (τ.set j (.int (lo+i))) S=.nx τ' S'/\Inv (i+1) τ' S')\/(∃ a S',c (τ.set j (.int (lo+i))) S=.rt a S'/\Post (.rt a S')))
  (fin:∀ τ S,Inv (hi - lo).toNat τ S->Post (.nx τ S)):Post (gp src (bF j) c τ S):=by
 unfold gp
 rw [hs]
 refine uS (s:=cM lo hi) Inv Post (fun i τ S hi' h=>?_) (fun τ S h=>⟨rfl,fin τ S h⟩) _ 0 τ S1 rfl h0
 have hi':i < (hi - lo).toNat:=hi'
 exact ⟨.int (lo+i),_,S,if_pos hi',rfl,step i τ S (by omega) h⟩
theorem rJ {n:Nat} {xs:List A} {g:Tg} {c:Sm} {src:Ic} {τ:List A} {S S1:aE} (hs:src τ S=.ok (d8 n xs.length) S1) (Inv:Nat->List A->aE->Prop) (Post:RS->Prop) (h0:Inv 0 τ S1) (hl:∀ i τ S,Inv i τ S->ak S n=some xs)
  (step:∀ (i:Nat) x τ S,xs[i]?=some x->Inv i τ S->∃ τ1 S1,g x τ S=.ok τ1 S1/\((∃ τ' S',c τ1 S1=.nx τ' S'/\Inv (i+1) τ' S')\/(∃ a S',c τ1 S1=.rt a S'/\Post (.rt a S'))))
  (fin:∀ τ S,Inv xs.length τ S->Post (.nx τ S)):Post (gp src g c τ S):=by
 unfold gp
 rw [hs]
 refine uS (s:=d8 n xs.length) Inv Post (fun i τ S hi' h=>?_) (fun τ S h=>⟨?_,fin τ S h⟩) _ 0 τ S1 rfl h0
 ·have hi':i < xs.length:=hi'
  obtain ⟨τ1,S1,e,q⟩:=step i xs[i] τ S (List.getElem?_eq_getElem hi') h
  exact ⟨xs[i],τ1,S1,by show (ak S n).bind _=_;rw [hl i τ S h];exact List.getElem?_eq_getElem hi',e,q⟩
 ·show (match ak S n with
   | some ys=>decide (ys.length<=xs.length)
   | none=>false)=true
  rw [hl _ τ S h]
  exact decide_eq_true (Nat.le_refl _)
@[simp] theorem eF {c:Ex} {τ:List A} {S S1:aE} {j:Int} (h:c τ S=.ok (.int j) S1) (hb:bnd j):gY c τ S=.ok (cM 0 j) S1:=by
 unfold gY;rw [h];exact cZ hb
theorem jh {c d:Ex} {τ:List A} {S S1 S2:aE} {i j:Int} (h:c τ S=.ok (.int i) S1) (h':d τ S1=.ok (.int j) S2) (hb:bnd i) (hb':bnd j):gz c d τ S=.ok (cM i j) S2:=by
 unfold gz;rw [h];show (d τ S1).bind _=_;rw [h'];exact cZ ⟨hb,hb'⟩
theorem IP {c:Ex} {τ:List A} {S S1:aE} {xs:List A} (h:c τ S=.ok (.tup xs) S1):fK c τ S=.ok (eN xs) S1:=by unfold fK;rw [h];rfl
theorem jk {c:Ex} {τ:List A} {S S1:aE} {n:Nat} {xs:List A} (h:c τ S=.ok (.ref n) S1) (hl:ak S1 n=some xs):fK c τ S=.ok (d8 n xs.length) S1:=by
 unfold fK;rw [h];show opt (ak S1 n) _=_;rw [hl];rfl
theorem iS {s:Src} {g:Tg} {t:Te} {e:Ex} {P:aE->Prop} {T:List A->Prop} (it:Nat->A) (p:Nat->Bool) (f:Nat->A)
  (hget:∀ i S,i < s.k->P S->s.get i S=some (it i)) (hfin:∀ S,P S->s.fin S=true)
  (step:∀ i τ S,i < s.k->T τ->P S->∃ τ1 S1 S2,g (it i) τ S=.ok τ1 S1/\t τ1 S1=.ok (p i) S2/\T τ1/\(p i=false->P S2)/\(p i=true->∃ S3,e τ1 S2=.ok (f i) S3/\P S3)) :
  ∀ k i τ S,k+i=s.k->T τ->P S->∃ S',eB s g t e k i τ S=.ok (((List.range' i k).filter p).map f) S'/\P S'
 | 0,i,τ,S,hk,hT,hP=>⟨S,by unfold eB;rw [if_pos (hfin S hP)];rfl,hP⟩
 | k+1,i,τ,S,hk,hT,hP=>by
  obtain ⟨τ1,S1,S2,hg,ht,hT1,hF,hTr⟩:=step i τ S (by omega) hT hP
  unfold eB
  rw [hget i S (by omega) hP,bA,hg,R.cU,ht,R.cU,List.range'_succ,List.filter_cons]
  cases hp:p i with
  | false=>
   obtain ⟨S',h1,h2⟩:=iS it p f hget hfin step k (i+1) τ1 S2 (by omega) hT1 (hF hp)
   exact ⟨S',by simpa using h1,h2⟩
  | true=>
   obtain ⟨S3,he,hP3⟩:=hTr hp
   obtain ⟨S',h1,h2⟩:=iS it p f hget hfin step k (i+1) τ1 S3 (by omega) hT1 hP3
   refine ⟨S',?_,h2⟩
   show (e τ1 S2).dc _=_
   rw [he,R.cU,h1]
   rfl
theorem pX {s:Src} {cap:List (Option Nat)} {src:Ic} {t:Te} {e:Ex} {τ:List A} {S S1:aE} (hs:src τ S=.ok s S1) (it:Nat->A) (p:Nat->Bool) (f:Nat->A) (hget:∀ i,i < s.k->s.get i S1=some (it i)) (hfin:s.fin S1=true)
  (ht:∀ i,i < s.k->t (it i::eT cap τ) S1=.ok (p i) S1) (he:∀ i,i < s.k->p i=true->e (it i::eT cap τ) S1=.ok (f i) S1) (hl:s.k<=16777216) :
  bW (none::cap) src (bF 0) t e τ S=.ok (.ref S1.length) (S1++[.lst (((List.range s.k).filter p).map f)]):=by
 unfold bW
 rw [hs,R.dz]
 obtain ⟨S',h1,h2⟩:=iS (s:=s) (g:=bF 0) (t:=t) (e:=e) (P:=fun S=>S=S1) (T:=fun τ'=>∃ y,τ'=y::eT cap τ) it p f (fun i S hi h=>by subst h;exact hget i hi) (fun S h=>by subst h;exact hfin)
  (fun i τ' S hi ⟨y,hy⟩ h=>by
   subst h hy
   exact ⟨it i::eT cap τ,S,S,rfl,ht i hi,⟨_,rfl⟩,fun _=>rfl,fun hp=>⟨S,he i hi hp,rfl⟩⟩) s.k 0 (eT (none::cap) τ) S1 rfl ⟨_,rfl⟩ rfl
 subst h2
 rw [h1,R.cU,List.range_eq_range']
 refine bX ?_
 rw [List.length_map]
 refine Nat.le_trans (List.length_filter_le _ _) ?_
 rw [List.length_range']
 exact hl
theorem mG {α β:Type} (xs:List α) (p:α->Bool) (f:α->β):∀ (d:α) ,(((List.range xs.length).filter fun i=>p (xs.getD i d)).map fun i=>f (xs.getD i d))=(xs.filter p).map f:=by
 intro d
 induction xs with
 | nil=>rfl
 | cons x xs ih=>
  rw [List.length_cons,List.range_succ_eq_map,List.filter_cons,List.filter_cons]
  have e:((List.filter (fun i=>p ((x::xs).getD i d)) (List.map Nat.succ (List.range xs.length))).map fun i=>f ((x::xs).getD i d))=(xs.filter p).map f:=by
   rw [List.filter_map,List.map_map]
   rw [<- ih]
   rfl
  show List.map _ (if p x=true then _ else _)=List.map f (if p x=true then _ else _)
  by_cases hp:p x=true
  ·rw [if_pos hp,if_pos hp,List.map_cons,List.map_cons,e];rfl
  ·rw [if_neg hp,if_neg hp,e]
theorem C6 {xs:List A} {cap:List (Option Nat)} {src:Ic} {t:Te} {e:Ex} {τ:List A} {S S1:aE} (hs:src τ S=.ok (eN xs) S1) (p:A->Bool) (f:A->A)
  (ht:∀ x∈xs,t (x::eT cap τ) S1=.ok (p x) S1) (he:∀ x∈xs,p x=true->e (x::eT cap τ) S1=.ok (f x) S1) (hl:xs.length<=16777216) :
  bW (none::cap) src (bF 0) t e τ S=.ok (.ref S1.length) (S1++[.lst ((xs.filter p).map f)]):=by
 have hm:∀ i,i < xs.length->xs.getD i .unb∈xs:=fun i hi=>by
  rw [List.getD_eq_getElem?_getD,List.getElem?_eq_getElem hi];exact List.getElem_mem hi
 rw [pX hs (fun i=>xs.getD i .unb) (fun i=>p (xs.getD i .unb)) (fun i=>f (xs.getD i .unb)) (fun i hi=>by
  have hi:i < xs.length:=hi
  show xs[i]?=_
  rw [List.getD_eq_getElem?_getD,List.getElem?_eq_getElem hi];rfl) rfl (fun i hi=>ht _ (hm i hi)) (fun i hi=>he _ (hm i hi)) hl]
 have:=mG xs p f .unb
 show R.ok _ (S1++[O.lst (((List.range xs.length).filter _).map _)])=_
 rw [this]
theorem sO {xs:List A} {cap:List (Option Nat)} {src:Ic} {e:Ex} {τ:List A} {S S1:aE} (hs:src τ S=.ok (eN xs) S1) (f:A->A)
  (he:∀ x∈xs,e (x::eT cap τ) S1=.ok (f x) S1) (hl:xs.length<=16777216) :
  bW (none::cap) src (bF 0) pN e τ S=.ok (.ref S1.length) (S1++[.lst (xs.map f)]):=by
 rw [C6 hs (fun _=>true) f (fun _ _=>rfl) (fun x hx _=>he x hx) hl,List.filter_eq_self.mpr (fun _ _=>rfl)]
theorem uE {lo hi:Int} {cap:List (Option Nat)} {src:Ic} {t:Te} {e:Ex} {τ:List A} {S S1:aE} (hs:src τ S=.ok (cM lo hi) S1) (p:Int->Bool) (f:Int->A)
  (ht:∀ k,lo<=k->k < hi->t (.int k::eT cap τ) S1=.ok (p k) S1) (he:∀ k,lo<=k->k < hi->p k=true->e (.int k::eT cap τ) S1=.ok (f k) S1) (hl:(hi - lo).toNat<=16777216) :
  bW (none::cap) src (bF 0) t e τ S=.ok (.ref S1.length) (S1++[.lst (((aX lo hi).filter p).map f)]):=by
 rw [pX hs (fun i=>.int (lo+i)) (fun i=>p (lo+i)) (fun i=>f (lo+i)) (fun i hi'=>if_pos hi') rfl (fun i hi'=>ht _ (by omega) (by have:i < (hi - lo).toNat:=hi';omega)) (fun i hi'=>he _ (by omega) (by have:i < (hi - lo).toNat:=hi';omega)) hl]
 unfold aX
 rw [List.filter_map,List.map_map]
 rfl
@[simp] theorem Dh {cap:List (Option Nat)} {τ:List A}:eT (none::cap) τ=.unb::eT cap τ:=rfl
@[simp] theorem Bm {cap:List (Option Nat)} {τ:List A} {j:Nat}:eT (some j::cap) τ=τ.getD j .unb::eT cap τ:=rfl
@[simp] theorem uH {τ:List A}:eT [] τ=[]:=rfl
theorem BX {x:A} {xs:List A}:fB (x::xs) 0=some x:=vg (k:=0) rfl rfl
theorem Cz {x y:A} {xs:List A}:fB (x::y::xs) 1=some y:=vg (k:=1) rfl rfl
theorem cu {ns:List Int} {i:Int} {k:Nat} {x:Int} (h:i=k) (hx:ns[k]?=some x):fB (ns.map A.int) i=some (.int x):=vg h (by rw [List.getElem?_map,hx];rfl)
theorem cL {j:Int} (h:-4611686018427387904<=j) (h':j < 4611686018427387904):bnd j:=⟨by omega,by omega⟩
theorem sX {i j:Int} (h1:-1000000<=i) (h2:i<=1000000) (h3:-1000000<=j) (h4:j<=1000000) (h5:j - i<=1000):qp i j:=⟨⟨by omega,by omega,by omega,by omega⟩,by omega⟩
theorem ints_map:∀ (ns:List Int),A.ints (ns.map .int)=some ns
 | []=>rfl
 | n::ns=>by show (A.ints (ns.map .int)).map (n::·)=_;rw [ints_map ns];rfl
theorem zx (xs:List A) (j:Nat) (h:j < xs.length):kc xs none (some (j:Int))=xs.take j:=by
 unfold kc
 rw [HT.kN,HT.tX,List.drop_zero,Nat.min_eq_left (by omega),Nat.sub_zero]
theorem Aa (xs:List A) (j:Nat) (h:j < xs.length):kc xs (some ((j:Int)+1)) none=xs.drop (j+1):=by
 unfold kc
 rw [show ((j:Int)+1)=((j+1:Nat):Int) by omega,HT.kN,HT.tX,Nat.min_eq_left (by omega)]
 exact List.take_of_length_le (by rw [List.length_drop];exact Nat.le_refl _)
theorem mJ {S:aE} {n:Nat}:∀ (xs ys:List Int),i_ (oO S (n+1)) (xs.map .int) (ys.map .int)=some (decide (xs=ys))
 | [],[]=>rfl
 | [],_::_=>rfl
 | _::_,[]=>rfl
 | x::xs,y::ys=>by
  show (oO S (n+1) (.int x) (.int y)).bind _=_
  show Option.bind (some (x == y)) _=_
  show Option.map _ (i_ (oO S (n+1)) (xs.map .int) (ys.map .int))=_
  rw [mJ xs ys]
  show some (x == y && decide (xs=ys))=_
  by_cases h1:x=y <;> by_cases h2:xs=ys <;> simp [h1,h2]
theorem t6 {S:aE} {xs ys:List Int}:qE false (.tup (xs.map .int)) (.tup (ys.map .int)) S=.ok (.bl (decide (xs=ys))) S:=by
 unfold qE
 show opt (i_ (oO S 11) _ _) _=_
 rw [mJ];rfl
@[simp] theorem GK {S:aE} {x y:Bool}:qE false (.bl x) (.bl y) S=.ok (.bl (x == y)) S:=rfl
@[simp] theorem Gz {S:aE} {x y:Bool}:qE true (.bl x) (.bl y) S=.ok (.bl (!(x == y))) S:=rfl
@[simp] theorem Hr {S:aE} {x y:Int}:qE false (.int x) (.int y) S=.ok (.bl (x == y)) S:=rfl
@[simp] theorem GN {S:aE} {x y:Int}:qE true (.int x) (.int y) S=.ok (.bl (!(x == y))) S:=rfl
@[simp] theorem yg {S:aE}:qV false .non .non S=.ok (.bl true) S:=rfl
@[simp] theorem xr {S:aE} {xs:List A}:qV false (.tup xs) .non S=.ok (.bl false) S:=rfl
@[simp] theorem wW {S:aE} {n:Nat}:qV false (.ref n) .non S=.ok (.bl false) S:=rfl
@[simp] theorem um {S:aE}:qV true .non .non S=.ok (.bl false) S:=rfl
@[simp] theorem tH {S:aE} {xs:List A}:qV true (.tup xs) .non S=.ok (.bl true) S:=rfl
@[simp] theorem tZ {S:aE} {n:Nat}:qV true (.ref n) .non S=.ok (.bl true) S:=rfl
@[simp] theorem wY {S:aE} {x:A} {c:String}:z7 x (.ty c) S=opt (x.kd S) fun k=>opt (vE k c) fun b=>.ok (.bl b) S:=rfl
@[simp] theorem GS {S:aE} {b:Bool}:A.kd (.bl b) S=some .bl:=rfl
@[simp] theorem AF {S:aE} {b:Int}:A.kd (.int b) S=some .int:=rfl
@[simp] theorem DG {S:aE} {b:List A}:A.kd (.tup b) S=some .tup:=rfl
@[simp] theorem CZ {S:aE}:A.kd .non S=some .non:=rfl
@[simp] theorem Bk {S:aE} {b:Str}:A.kd (.str b) S=some .str:=rfl
@[simp] theorem C2 {S:aE} {n:Nat}:A.kd (.ref n) S=(ak S n).map fun _=>.lst:=rfl
@[simp] theorem A9 {S:aE}:newL [] S=.ok (.ref S.length) (S++[.lst []]):=bX (by simp)
@[simp] theorem AU {S:aE} {x0:A}:newL [x0] S=.ok (.ref S.length) (S++[.lst [x0]]):=bX (by simp)
@[simp] theorem BV {S:aE} {x0 x1:A}:newL [x0,x1] S=.ok (.ref S.length) (S++[.lst [x0,x1]]):=bX (by simp)
@[simp] theorem CC {S:aE} {x0 x1 x2:A}:newL [x0,x1,x2] S=.ok (.ref S.length) (S++[.lst [x0,x1,x2]]):=bX (by simp)
@[simp] theorem DX {S:aE} {x0 x1 x2 x3:A}:newL [x0,x1,x2,x3] S=.ok (.ref S.length) (S++[.lst [x0,x1,x2,x3]]):=bX (by simp)
@[simp] theorem Dj {S:aE} {x0 x1 x2 x3 x4:A}:newL [x0,x1,x2,x3,x4] S=.ok (.ref S.length) (S++[.lst [x0,x1,x2,x3,x4]]):=bX (by simp)
@[simp] theorem AZ {S:aE} {x0 x1 x2 x3 x4 x5:A}:newL [x0,x1,x2,x3,x4,x5] S=.ok (.ref S.length) (S++[.lst [x0,x1,x2,x3,x4,x5]]):=bX (by simp)
@[simp] theorem DM {S:aE} {x0 x1 x2 x3 x4 x5 x6:A}:newL [x0,x1,x2,x3,x4,x5,x6] S=.ok (.ref S.length) (S++[.lst [x0,x1,x2,x3,x4,x5,x6]]):=bX (by simp)
@[simp] theorem Bp {S:aE} {x0 x1 x2 x3 x4 x5 x6 x7:A}:newL [x0,x1,x2,x3,x4,x5,x6,x7] S=.ok (.ref S.length) (S++[.lst [x0,x1,x2,x3,x4,x5,x6,x7]]):=bX (by simp)
@[simp] theorem A7 {S:aE} {x0 x1 x2 x3 x4 x5 x6 x7 x8:A}:newL [x0,x1,x2,x3,x4,x5,x6,x7,x8] S=.ok (.ref S.length) (S++[.lst [x0,x1,x2,x3,x4,x5,x6,x7,x8]]):=bX (by simp)
@[simp] theorem w4 {S:aE} {x0 x1 x2 x3 x4 x5 x6 x7 x8 x9:A}:newL [x0,x1,x2,x3,x4,x5,x6,x7,x8,x9] S=.ok (.ref S.length) (S++[.lst [x0,x1,x2,x3,x4,x5,x6,x7,x8,x9]]):=bX (by simp)
theorem fJ {α:Type} {n:Nat} {r:R α} (h:n<=16777216):gd (n<=sizeLine) r=r:=cZ (by rw [sizeLine_eq];exact h)
theorem B0 {α:Type} {n:Nat} {r:R α} (h:n < 16777216):gd (n < sizeLine) r=r:=cZ (by rw [sizeLine_eq];exact h)
theorem GC {x:A} {xs:List A}:(x::xs).getD 0 .unb=x:=rfl
theorem Hj {x:A} {xs:List A} {n:Nat}:(x::xs).getD (n+1) .unb=xs.getD n .unb:=rfl
theorem L3 {x y:A} {xs:List A}:(x::xs).set 0 y=y::xs:=rfl
theorem sets {x y:A} {xs:List A} {n:Nat}:(x::xs).set (n+1) y=x::xs.set n y:=rfl
theorem rep0 {x:A}:List.replicate 0 x=[]:=rfl
theorem reps {x:A} {n:Nat}:List.replicate (n+1) x=x::List.replicate n x:=rfl
theorem LG {x:A} {xs ys:List A}:(x::xs)++ys=x::(xs++ys):=rfl
theorem LI {ys:List A}:[]++ys=ys:=rfl
theorem LS {S:aE} {n m:Nat} {xs ys:List A} (h:ak S n=some xs) (h':ak S m=some ys) (hl:xs.length+ys.length<=16777216):b_ (.ref n) (.ref m) S=.ok (.ref S.length) (S++[.lst (xs++ys)]):=by
 show opt (ak S n) _=_
 rw [h,bA,h',bA]
 exact cZ (by rw [sizeLine_eq];exact hl)
theorem bx:type_of% (And.intro @R.dz (And.intro @R.yj (And.intro @R.cU (And.intro @RS.of_ok (And.intro @RS.GH (And.intro @bA (And.intro @wV (And.intro @x_ (And.intro @xg (And.intro @yz (And.intro @yL (And.intro @DJ (And.intro @xq (And.intro @yG (And.intro @xU (And.intro @xO (And.intro @yq (And.intro @HC (And.intro @yT (And.intro @AB (And.intro @yl (And.intro @Hx (And.intro @CV (And.intro @wo (And.intro @wc (And.intro @Ca (And.intro @yP (And.intro @wQ (And.intro @xZ (And.intro @DA (And.intro @Du (And.intro @yr (And.intro @CU (And.intro @tN (And.intro @xF (And.intro @DF (And.intro @xh (And.intro @uD (And.intro @yy (And.intro @yO (And.intro @uc (And.intro @Cb (And.intro @DZ (And.intro @Hg (And.intro @G0 (And.intro @Br (And.intro @s_ (And.intro @we (And.intro @sL (And.intro @Ba (And.intro @yJ (And.intro @lst?_ref (And.intro @RS.B9 (And.intro @RS.Bj (And.intro @RS.Cg (And.intro @RS.D4 (And.intro @RS.Cq (And.intro @wO (And.intro @za (And.intro @qC (And.intro @uf (And.intro @sI (And.intro @xM (And.intro @r6 (And.intro @Ar (And.intro @xS (And.intro @Cm (And.intro @AJ (And.intro @Bc (And.intro @CB (And.intro @A2 (And.intro @D8 (And.intro @wZ (And.intro @xW (And.intro @sG (And.intro @RS.Bs (And.intro @RS.B5 (And.intro @RS.BO (And.intro @C5 (And.intro @BB (And.intro @Cc (And.intro @Gy (And.intro @Gr (And.intro @Hi (And.intro @G8 (And.intro @GY (And.intro @CW (And.intro @Cj (And.intro @B8 (And.intro @CK (And.intro @Av (And.intro @AK (And.intro @xj (And.intro @zh (And.intro @xN (And.intro @xX (And.intro @qA (And.intro @G5 (And.intro @HB (And.intro @GB (And.intro @Bb (And.intro @Cn (And.intro @yx (And.intro @yk (And.intro @yF (And.intro @sZ (And.intro @tQ (And.intro @BY (And.intro @BI (And.intro @GL (And.intro @oz (And.intro @CS (And.intro @yt (And.intro @aS (And.intro @Dh (And.intro @Bm (And.intro @uH (And.intro @GK (And.intro @Gz (And.intro @Hr (And.intro @GN (And.intro @yg (And.intro @xr (And.intro @wW (And.intro @um (And.intro @tH (And.intro @tZ (And.intro @wY (And.intro @GS (And.intro @AF (And.intro @DG (And.intro @CZ (And.intro @Bk (And.intro @C2 (And.intro @A9 (And.intro @AU (And.intro @BV (And.intro @CC (And.intro @DX (And.intro @Dj (And.intro @AZ (And.intro @DM (And.intro @Bp (And.intro @A7 (And.intro @w4 (And.intro @GC (And.intro @Hj (And.intro @L3 (And.intro @sets (And.intro @rep0 (And.intro @reps (And.intro @LG (And.intro @LI (And.intro @nv (And.intro @xQ (And.intro @AN (And.intro @BW (And.intro @G4 (And.intro @Hu (And.intro @DN (And.intro @Dw (And.intro @ql (And.intro @tU (And.intro @BZ (And.intro @y9 (And.intro @C3 (And.intro @zc (And.intro @C_ (And.intro @G_ (And.intro @Gq (And.intro @wu (And.intro @yD (And.intro @Dg (And.intro @sH (And.intro @ye (And.intro @BS (And.intro @CQ (And.intro @AY (And.intro @Ea (@D9)))))))))))))))))))))))))))))))))))))))))))))))))))))))))))))))))))))))))))))))))))))))))))))))))))))))))))))))))))))))))))))))))))))))))))))))))))))))))))))))))))))))))))))))))))):=And.intro @R.dz (And.intro @R.yj (And.intro @R.cU (And.intro @RS.of_ok (And.intro @RS.GH (And.intro @bA (And.intro @wV (And.intro @x_ (And.intro @xg (And.intro @yz (And.intro @yL (And.intro @DJ (And.intro @xq (And.intro @yG (And.intro @xU (And.intro @xO (And.intro @yq (And.intro @HC (And.intro @yT (And.intro @AB (And.intro @yl (And.intro @Hx (And.intro @CV (And.intro @wo (And.intro @wc (And.intro @Ca (And.intro @yP (And.intro @wQ (And.intro @xZ (And.intro @DA (And.intro @Du (And.intro @yr (And.intro @CU (And.intro @tN (And.intro @xF (And.intro @DF (And.intro @xh (And.intro @uD (And.intro @yy (And.intro @yO (And.intro @uc (And.intro @Cb (And.intro @DZ (And.intro @Hg (And.intro @G0 (And.intro @Br (And.intro @s_ (And.intro @we (And.intro @sL (And.intro @Ba (And.intro @yJ (And.intro @lst?_ref (And.intro @RS.B9 (And.intro @RS.Bj (And.intro @RS.Cg (And.intro @RS.D4 (And.intro @RS.Cq (And.intro @wO (And.intro @za (And.intro @qC (And.intro @uf (And.intro @sI (And.intro @xM (And.intro @r6 (And.intro @Ar (And.intro @xS (And.intro @Cm (And.intro @AJ (And.intro @Bc (And.intro @CB (And.intro @A2 (And.intro @D8 (And.intro @wZ (And.intro @xW (And.intro @sG (And.intro @RS.Bs (And.intro @RS.B5 (And.intro @RS.BO (And.intro @C5 (And.intro @BB (And.intro @Cc (And.intro @Gy (And.intro @Gr (And.intro @Hi (And.intro @G8 (And.intro @GY (And.intro @CW (And.intro @Cj (And.intro @B8 (And.intro @CK (And.intro @Av (And.intro @AK (And.intro @xj (And.intro @zh (And.intro @xN (And.intro @xX (And.intro @qA (And.intro @G5 (And.intro @HB (And.intro @GB (And.intro @Bb (And.intro @Cn (And.intro @yx (And.intro @yk (And.intro @yF (And.intro @sZ (And.intro @tQ (And.intro @BY (And.intro @BI (And.intro @GL (And.intro @oz (And.intro @CS (And.intro @yt (And.intro @aS (And.intro @Dh (And.intro @Bm (And.intro @uH (And.intro @GK (And.intro @Gz (And.intro @Hr (And.intro @GN (And.intro @yg (And.intro @xr (And.intro @wW (And.intro @um (And.intro @tH (And.intro @tZ (And.intro @wY (And.intro @GS (And.intro @AF (And.intro @DG (And.intro @CZ (And.intro @Bk (And.intro @C2 (And.intro @A9 (And.intro @AU (And.intro @BV (And.intro @CC (And.intro @DX (And.intro @Dj (And.intro @AZ (And.intro @DM (And.intro @Bp (And.intro @A7 (And.intro @w4 (And.intro @GC (And.intro @Hj (And.intro @L3 (And.intro @sets (And.intro @rep0 (And.intro @reps (And.intro @LG (And.intro @LI (And.intro @nv (And.intro @xQ (And.intro @AN (And.intro @BW (And.intro @G4 (And.intro @Hu (And.intro @DN (And.intro @Dw (And.intro @ql (And.intro @tU (And.intro @BZ (And.intro @y9 (And.intro @C3 (And.intro @zc (And.intro @C_ (And.intro @G_ (And.intro @Gq (And.intro @wu (And.intro @yD (And.intro @Dg (And.intro @sH (And.intro @ye (And.intro @BS (And.intro @CQ (And.intro @AY (And.intro @Ea (@D9)))))))))))))))))))))))))))))))))))))))))))))))))))))))))))))))))))))))))))))))))))))))))))))))))))))))))))))))))))))))))))))))))))))))))))))))))))))))))))))))))))))))))))))))))))
theorem bools:(∀ b:Bool,cond false b b=b)/\(∀ (α:Type) (x y:α),cond false x y=y)/\(∀ (α:Type) (x y:α),cond true x y=x):=⟨fun _=>rfl,fun _ _ _=>rfl,fun _ _ _=>rfl⟩
theorem gH:(∀ (x:Str) (xs:List Str),(x::xs).length=xs.length+1)/\([]:List Str).length=0/\(∀ (x:A) (xs:List A),(x::xs).length=xs.length+1)/\([]:List A).length=0:=⟨fun _ _=>rfl,rfl,fun _ _=>rfl,rfl⟩
section
variable {τ:List A} {S:aE}
theorem wX {f:List A->aE->R A} {d:iL}:M3 f d τ S=(d τ S).bind f:=rfl
noncomputable def NW (c:Str):Unit->aE->RS:=fun _ S1=>.ex c S1
theorem By {c:Str} {u:Unit}:NW c u S=.ex c S:=rfl
theorem p7 {c:Str} {ps:List (Str ⊕ Ex)}:JC c ps τ S=RS.of (Fi ps τ S) (NW c):=rfl
theorem wL:Fi [] τ S=.ok () S:=rfl
theorem wJ {x:Str} {ps:List (Str ⊕ Ex)}:Fi (.inl x::ps) τ S=Fi ps τ S:=rfl
noncomputable def Oi (ps:List (Str ⊕ Ex)) (τ:List A):A->aE->R Unit:=fun v S1=>match v with
 | .int i=>gd (i.natAbs.log2 < 64) (Fi ps τ S1)
 | _=>.no
theorem vX {e:Ex} {ps:List (Str ⊕ Ex)}:Fi (.inr e::ps) τ S=(e τ S).bind (Oi ps τ):=rfl
noncomputable def RS.try (i n:Nat) (cs:List Str) (d:Sm):RS->RS
 | .ex x S1=>if x∈cs then GO i (d ((List.replicate n .unb).set i (.exn x)) S1) else .no
 | r=>r
theorem wC {i n:Nat} {cs:List Str} {c d:Sm}:Lq i n cs c d τ S=RS.try i n cs d (c τ S):=by
 unfold Lq RS.try;cases c τ S <;> rfl
theorem D0 {i n:Nat} {cs:List Str} {d:Sm}:RS.try i n cs d (.nx τ S)=.nx τ S:=rfl
theorem CF {i n:Nat} {cs:List Str} {d:Sm} {a:A}:RS.try i n cs d (.rt a S)=.rt a S:=rfl
theorem Cw {i n:Nat} {x:Str} {cs:List Str} {d:Sm}:RS.try i n (x::cs) d (.ex x S)=GO i (d ((List.replicate n .unb).set i (.exn x)) S):=if_pos (.head _)
theorem Ck {i:Nat} {a:A}:GO i (.rt a S)=.rt a S:=rfl
theorem Bx {i:Nat}:GO i (.nx τ S)=.nx (τ.set i .unb) S:=rfl
noncomputable def KU (f:Str->Option Bool):A->aE->R A:=fun v S1=>match v with
 | .exn x=>opt (f x) fun b=>.ok (.bl b) S1
 | _=>.no
theorem yK {f:Str->Option Bool} {c:Ex}:MI f c τ S=(c τ S).bind (KU f):=rfl
theorem B4 {x:Str} {b:Bool} {tb:List (Str×Bool)}:KU (Oe ((x,b)::tb)) (.exn x) S=.ok (.bl b) S:=by
 show opt (List.lookup x ((x,b)::tb)) _=_
 rw [List.lookup_cons,beq_self_eq_true];rfl
noncomputable def R.Ax {α β:Type} (r:R α) (f:α->aE->R β):R β:=match r with
 | .ok a S=>f a S
 | _=>.no
theorem sW {α β:Type} {a:α} {f:α->aE->R β}:R.Ax (.ok a S) f=f a S:=rfl
theorem vY {f:List A->aE->R A} {d:iL}:Lf f d τ S=R.Ax (d τ S) f:=by unfold Lf R.Ax;cases d τ S <;> rfl
noncomputable def RS.Mu {α:Type} (r:R α) (f:α->aE->RS):RS:=match r with
 | .ok a S=>f a S
 | _=>.no
theorem Cd {α:Type} {a:α} {f:α->aE->RS}:RS.Mu (.ok a S) f=f a S:=rfl
theorem yH {t:Te} {c d:Sm}:KL t c d τ S=RS.Mu (t τ S) (Mj c d τ):=by
 unfold KL RS.Mu
 cases t τ S with
 | ok b S1=>cases b <;> rfl
 | ex _ _=>rfl
 | no=>rfl
noncomputable def RS.BJ (i:Nat) (cs:List Str) (d:Sm) (τ:List A):RS->RS
 | .ex x S1=>if x∈cs then GO i (d (τ.set i (.exn x)) S1) else .no
 | r=>r
theorem sF {i:Nat} {cs:List Str} {c d:Sm}:G3 i cs c d τ S=RS.BJ i cs d τ (c τ S):=by
 unfold G3 RS.BJ;cases c τ S <;> rfl
theorem v9 {i:Nat} {cs:List Str} {d:Sm} {τ':List A}:RS.BJ i cs d τ (.nx τ' S)=.nx τ' S:=rfl
theorem xY {i:Nat} {cs:List Str} {d:Sm} {a:A}:RS.BJ i cs d τ (.rt a S)=.rt a S:=rfl
theorem yu {i:Nat} {x:Str} {cs:List Str} {d:Sm}:RS.BJ i (x::cs) d τ (.ex x S)=GO i (d (τ.set i (.exn x)) S):=if_pos (.head _)
theorem uI:A.Ed []=some []:=rfl
theorem l_ {b:Bool} {xs:List A}:A.Ed (.bl b::xs)=(A.Ed xs).map (b::·):=rfl
end
theorem uM:type_of% (And.intro @wX (And.intro @p7 (And.intro @By (And.intro @wL (And.intro @wJ (And.intro @vX (And.intro @wC (And.intro @D0 (And.intro @CF (And.intro @Cw (And.intro @Ck (And.intro @Bx (And.intro @yK (And.intro @B4 (And.intro @uI (And.intro @l_ (And.intro @sW (And.intro @vY (And.intro @Cd (And.intro @yH (And.intro @sF (And.intro @v9 (And.intro @xY (And.intro @yu (trivial))))))))))))))))))))))))):=And.intro @wX (And.intro @p7 (And.intro @By (And.intro @wL (And.intro @wJ (And.intro @vX (And.intro @wC (And.intro @D0 (And.intro @CF (And.intro @Cw (And.intro @Ck (And.intro @Bx (And.intro @yK (And.intro @B4 (And.intro @uI (And.intro @l_ (And.intro @sW (And.intro @vY (And.intro @Cd (And.intro @yH (And.intro @sF (And.intro @v9 (And.intro @xY (And.intro @yu (trivial))))))))))))))))))))))))
end Am
namespace Bl
open L2
noncomputable def cnt:List Int->Int->Int
 | [],_=>0
 | x::l,j=>(if j<=x then 1 else 0)+cnt l j
noncomputable def Below (xs ys:List Int):Prop:=∀ (i:Nat) (j:Int),cnt (xs.take i) j<=cnt (ys.take i) j
theorem Below.refl (xs:List Int):Below xs xs:=fun _ _=>Int.le_refl _
theorem Below.trans {a b c:List Int} (h:Below a b) (k:Below b c):Below a c:=fun i j=>Int.le_trans (h i j) (k i j)
theorem cnt_append (a b:List Int) (j:Int):cnt (a++b) j=cnt a j+cnt b j:=by
 induction a with
 | nil=>simp [cnt]
 | cons x a ih=>rw [List.cons_append,cnt,cnt,ih];omega
theorem oF {a b:List Int} (p:a.Perm b) (j:Int):cnt a j=cnt b j:=by
 induction p with
 | nil=>rfl
 | cons x _ ih=>rw [cnt,cnt,ih]
 | swap x y l=>rw [cnt,cnt,cnt,cnt];omega
 | trans _ _ h1 h2=>exact h1.trans h2
theorem take_snoc {l:List Int} {i:Nat} (h:i < l.length):l.take (i+1)=l.take i++[l[i]]:=by
 rw [List.take_succ,List.getElem?_eq_getElem h];rfl
theorem bK {l:List Int} {i:Nat} (h:i < l.length) (j:Int):cnt (l.take (i+1)) j=cnt (l.take i) j+(if j<=l[i] then 1 else 0):=by
 rw [take_snoc h,cnt_append,cnt,cnt];omega
theorem Below.antisymm {a b:List Int} (hl:a.length=b.length) (h:Below a b) (k:Below b a):a=b:=by
 apply List.ext_getElem hl
 intro i h1 h2
 have e:∀ (i:Nat) (j:Int),cnt (a.take i) j=cnt (b.take i) j:=fun i j=>Int.le_antisymm (h i j) (k i j)
 have q:∀ j:Int,(if j<=a[i] then (1:Int) else 0)=(if j<=b[i] then 1 else 0):=fun j=>by
  have:=e (i+1) j
  rw [bK h1,bK h2,e i j] at this
  omega
 have qa:=q a[i]
 have qb:=q b[i]
 rw [if_pos (Int.le_refl _)] at qa qb
 by_cases z:a[i]<=b[i]
 ·by_cases z2:b[i]<=a[i]
  ·omega
  ·rw [if_neg z2] at qb;omega
 ·rw [if_neg z] at qa;omega
theorem nk {l:List Int} {p:Nat} (h:p < l.length) (v:Int) (i:Nat) (j:Int) :
  cnt ((l.set p v).take i) j=cnt (l.take i) j+(if p < i then (if j<=v then 1 else 0) - (if j<=l[p] then 1 else 0) else 0):=by
 induction l generalizing p i with
 | nil=>cases h
 | cons x l ih=>
  cases i with
  | zero=>simp [cnt]
  | succ i=>
   cases p with
   | zero=>
    show (if j<=v then 1 else 0)+cnt (l.take i) j=(if j<=x then 1 else 0)+cnt (l.take i) j+_
    rw [if_pos (Nat.succ_pos _)]
    show _=(if j<=x then 1 else 0)+cnt (l.take i) j+((if j<=v then 1 else 0) - (if j<=x then 1 else 0))
    omega
   | succ p=>
    show (if j<=x then 1 else 0)+cnt ((l.set p v).take i) j=(if j<=x then 1 else 0)+cnt (l.take i) j+_
    have hp:p < l.length:=Nat.lt_of_succ_lt_succ h
    rw [ih hp]
    by_cases z:p < i
    ·rw [if_pos z,if_pos (Nat.succ_lt_succ z)]
     show _=(if j<=x then 1 else 0)+cnt (l.take i) j+((if j<=v then 1 else 0) - (if j<=l[p] then 1 else 0))
     omega
    ·rw [if_neg z,if_neg (fun y=>z (Nat.lt_of_succ_lt_succ y))]
     omega
theorem jd {l:List Int} {p q:Nat} (hp:p < l.length) (hq:q < l.length) (hpq:p < q) (h:l[p] < l[q]):Below l ((l.set p l[q]).set q l[p]):=by
 intro i j
 have hq':q < (l.set p l[q]).length:=by rw [List.length_set];exact hq
 rw [nk hq',nk hp]
 have e:(l.set p l[q])[q]=l[q]:=by rw [List.getElem_set_ne (Nat.ne_of_lt hpq)]
 rw [e]
 (repeat' split) <;> omega
noncomputable def IV (a b:List Int):Prop:=a.length=b.length/\∀ (p:Nat) (h:p < a.length),b[(a[p] - 1).toNat]?=some ((p:Int)+1)
theorem qd {x y:List Int} {n:Nat} (px:x.Perm (aX 1 (n+1))) (py:y.Perm (aX 1 (n+1))):(∀ (i q:Nat),i < n->q < n->cnt (x.take (i+1)) ((q:Int)+1)<=cnt (y.take (i+1)) ((q:Int)+1)) ↔ Below x y:=by
 have lx:x.length=n:=by rw [px.length_eq,bU];omega
 have ly:y.length=n:=by rw [py.length_eq,bU];omega
 constructor
 ·intro h i j
  have rx:∀ z∈x,1<=z/\z < (n:Int)+1:=fun z hz=>fy.mp (px.mem_iff.mp hz)
  have ry:∀ z∈y,1<=z/\z < (n:Int)+1:=fun z hz=>fy.mp (py.mem_iff.mp hz)
  have low:∀ (l:List Int),(∀ z∈l,j<=z)->cnt l j=l.length:=fun l=>by
   induction l with
   | nil=>intro _;rfl
   | cons z l ih=>intro hh;rw [cnt,if_pos (hh z List.mem_cons_self),ih fun y hy=>hh y (List.mem_cons_of_mem _ hy),List.length_cons];omega
  have high:∀ (l:List Int),(∀ z∈l,z < j)->cnt l j=0:=fun l=>by
   induction l with
   | nil=>intro _;rfl
   | cons z l ih=>intro hh;rw [cnt,if_neg (by have:=hh z List.mem_cons_self;omega),ih fun y hy=>hh y (List.mem_cons_of_mem _ hy)];rfl
  by_cases z1:j<=1
  ·rw [low _ fun z hz=>by have:=(rx z (List.mem_of_mem_take hz)).1;omega,low _ fun z hz=>by have:=(ry z (List.mem_of_mem_take hz)).1;omega,List.length_take,List.length_take,lx,ly]
   exact Int.le_refl _
  ·by_cases z2:(n:Int)+1<=j
   ·rw [high _ fun z hz=>by have:=(rx z (List.mem_of_mem_take hz)).2;omega,high _ fun z hz=>by have:=(ry z (List.mem_of_mem_take hz)).2;omega]
    exact Int.le_refl _
   ·obtain ⟨q,rfl⟩:∃ q:Nat,j=(q:Int)+1:=⟨(j - 1).toNat,by omega⟩
    by_cases hi:i<=n
    ·cases i with
     | zero=>simp [cnt]
     | succ i=>exact h i q (by omega) (by omega)
    ·rw [List.take_of_length_le (by omega),List.take_of_length_le (by omega),oF px,oF py]
     exact Int.le_refl _
 ·exact fun h i q _ _=>h (i+1) ((q:Int)+1)
end Bl
namespace Am
open PySem L2 Bl
noncomputable def dI:Nat->Int->List Int->List Int
 | 0,_,ms=>ms
 | _+1,_,[]=>[]
 | x+1,d,m::ms=>(m+d)::dI x d ms
theorem lJ:∀ (x:Nat) (d:Int) (ms:List Int),(dI x d ms).length=ms.length
 | 0,_,_=>rfl
 | _+1,_,[]=>rfl
 | x+1,d,m::ms=>congrArg (·+1) (lJ x d ms)
theorem jI:∀ (x:Nat) (d:Int) (ms:List Int) (j:Nat),(dI x d ms)[j]?=(ms[j]?).map fun m=>if j < x then m+d else m
 | 0,d,ms,j=>by simp [dI]
 | _+1,_,[],j=>by simp [dI]
 | x+1,d,m::ms,0=>by simp [dI]
 | x+1,d,m::ms,j+1=>by
  show (dI x d ms)[j]?=_
  rw [jI x d ms j]
  simp
theorem oV:∀ (x:Nat) (d:Int) (ms:List Int) (m:Int),ms[x]?=some m->(dI x d ms).set x (m+d)=dI (x+1) d ms
 | 0,d,[],m,h=>by simp at h
 | 0,d,k::ms,m,h=>by simp at h;subst h;rfl
 | x+1,d,[],m,h=>by simp at h
 | x+1,d,k::ms,m,h=>by
  show (k+d)::(dI x d ms).set x (m+d)=(k+d)::dI (x+1) d ms
  rw [oV x d ms m (by simpa using h)]
noncomputable def iH (n:Nat) (xs ys:List Int) (t:Nat):List Int:=(List.range n).map fun (j:Nat)=>cnt (xs.take t) ((j:Int)+1) - cnt (ys.take t) ((j:Int)+1)
theorem eS {n:Nat} {xs ys:List Int} {t:Nat}:(iH n xs ys t).length=n:=by simp [iH]
theorem iA {n:Nat} {xs ys:List Int} {t j:Nat} (h:j < n):(iH n xs ys t)[j]?=some (cnt (xs.take t) ((j:Int)+1) - cnt (ys.take t) ((j:Int)+1)):=by
 unfold iH
 rw [List.getElem?_map,List.getElem?_range h]
 rfl
theorem Ft {n:Nat} {xs ys:List Int}:iH n xs ys 0=List.replicate n 0:=by
 unfold iH
 refine List.ext_getElem? fun j=>?_
 rw [List.getElem?_map,List.getElem?_replicate]
 by_cases hj:j < n
 ·rw [List.getElem?_range hj,if_pos hj]
  simp [cnt]
 ·rw [List.getElem?_eq_none (by simpa using hj),if_neg hj];rfl
theorem vN {n:Nat} {xs ys:List Int} {t:Nat} (hx:t < xs.length) (hy:t < ys.length):dI ys[t].toNat (-1) (dI xs[t].toNat 1 (iH n xs ys t))=iH n xs ys (t+1):=by
 refine List.ext_getElem? fun j=>?_
 rw [jI,jI]
 by_cases hj:j < n
 ·rw [iA hj,iA hj,bK hx,bK hy,Option.map_some,Option.map_some]
  congr 1
  have e1:(j < xs[t].toNat)=((j:Int)+1<=xs[t]):=by apply propext;omega
  have e2:(j < ys[t].toNat)=((j:Int)+1<=ys[t]):=by apply propext;omega
  simp only [e1,e2]
  split <;> split <;> omega
 ·rw [List.getElem?_eq_none (by rw [eS];omega),List.getElem?_eq_none (by rw [eS];omega)]
  rfl
theorem pG:∀ {ns:List Int},ns≠[]->∃ m,maxOf ns=some m
 | [],h=>absurd rfl h
 | [x],_=>⟨x,rfl⟩
 | x::y::ys,_=>by
  obtain ⟨m,e⟩:=pG (ns:=y::ys) (by simp)
  exact ⟨if m > x then m else x,by show (maxOf (y::ys)).map _=_;rw [e];rfl⟩
theorem D6 {S:aE} {n:Nat} {ns:List Int} (h:ak S n=some (ns.map .int)) (h0:ns≠[]):∃ m,BH (.ref n) S=.ok (.int m) S/\m∈ns/\∀ a∈ns,a<=m:=by
 obtain ⟨m,e⟩:=pG h0
 refine ⟨m,?_,nY e⟩
 show opt (ak S n) _=_
 rw [h,bA,ints_map,bA,e,bA]
theorem A6 {S:aE} {n:Nat} {x:A} {k:Nat} (h:ak S n=some [x]) (hk:k<=16777216):gq (.ref n) (.int k) S=.ok (.ref S.length) (S++[.lst (List.replicate k x)]):=by
 show opt (ak S n) _=_
 rw [h,bA]
 have e:(List.replicate k [x]).flatten=List.replicate k x:=by
  induction k with
  | zero=>rfl
  | succ k ih=>rw [List.replicate_succ,List.flatten_cons,ih (by omega)];rfl
 rw [cZ ⟨by omega,by omega,by rw [sizeLine_eq,Int.toNat_natCast];simpa using hk⟩,Int.toNat_natCast,e]
theorem jv {xs:List Int} {n:Int} (h:xs.Perm (aX 1 (n+1))) (hn:0<=n):(xs.length:Int)=n:=by
 rw [h.length_eq,bU];omega
theorem uq {xs:List Int} {n x:Int} (h:xs.Perm (aX 1 (n+1))) (hx:x∈xs):1<=x/\x<=n:=by
 have:=fy.mp (h.mem_iff.mp hx)
 omega
end Am
namespace Tb
noncomputable def fg (r:List Int) (x:Int):Nat:=r.findIdx fun y=>decide (x < y)
noncomputable def put:List (List Int)->Int->List (List Int)
 | [],x=>[[x]]
 | r::rs,x=>if fg r x=r.length then (r++[x])::rs else r.set (fg r x) x::put rs (r.getD (fg r x) 0)
noncomputable def row:List (List Int)->Int->Nat
 | [],_=>0
 | r::rs,x=>if fg r x=r.length then 0 else row rs (r.getD (fg r x) 0)+1
noncomputable def add:List (List Int)->Nat->Int->List (List Int)
 | [],_,k=>[[k]]
 | q::qs,0,k=>(q++[k])::qs
 | q::qs,i+1,k=>q::add qs i k
noncomputable def gs (r:List Int) (x:Int):List Nat:=(List.range r.length).filter fun k=>decide (x < r.getD k 0)
end Tb
namespace Am
open PySem L2
noncomputable def Rows (S:aE):List Nat->List (List Int)->Prop
 | [],[]=>True
 | r::rs,x::T=>ak S r=some (x.map .int)/\Rows S rs T
 | _,_=>False
structure Tab (S:aE) (n:Nat) (rs:List Nat) (T:List (List Int)):Prop where
 top:ak S n=some (rs.map .ref)
 rows:Rows S rs T
 nd:(n::rs).Nodup
theorem eq_nil {S:aE} {a b:Nat} {xs:List A} (h:ak S a=some xs) (h':ak S b=some []):oO S 12 (.ref a) (.ref b)=some xs.isEmpty:=by
 show (ak S a).bind (fun xs=>(ak S b).bind fun ys=>i_ (oO S 11) xs ys)=_
 rw [h,Option.bind_some,h',Option.bind_some]
 cases xs <;> rfl
theorem Jy {S:aE} {a b:A} {k:Bool} (h:oO S 12 a b=some k):qE true a b S=.ok (.bl (!k)) S:=by unfold qE;rw [h];rfl
theorem getD_at {r:List Int} {k:Nat} (h:k < r.length):r[k]?=some (r.getD k 0):=by rw [List.getD_eq_getElem?_getD,List.getElem?_eq_getElem h];rfl
end Am
namespace Wd
open Bl L2
noncomputable def ex (l:List Int) (k:Nat):List Int:=(l.set (k - 1) (l.getD k 0)).set k (l.getD (k - 1) 0)
noncomputable def led (l:List Int) (w:List Nat):List Int:=w.foldl ex l
theorem bH {l:List Int} {k:Nat} (h:k < l.length):l.getD k 0=l[k]:=by rw [List.getD_eq_getElem?_getD,List.getElem?_eq_getElem h];rfl
theorem zd {l:List Int} {k:Nat} (h0:1<=k) (h:k < l.length):ex l k=(l.set (k - 1) l[k]).set k (l[k - 1]'(by omega)):=by
 unfold ex
 rw [bH h,bH (show k - 1 < l.length by omega)]
theorem rP (l:List Int) (k:Nat):(ex l k).length=l.length:=by unfold ex;rw [List.length_set,List.length_set]
theorem ym:∀ (w:List Nat) (l:List Int),(led l w).length=l.length
 | [],_=>rfl
 | k::w,l=>by show (led (ex l k) w).length=_;rw [ym w,rP]
theorem yv {l:List Int} {k:Nat} (h0:1<=k) (h:k < l.length):(ex l k).Perm l:=by
 rw [zd h0 h]
 exact List.set_set_perm (by omega) h
theorem uo:∀ {w:List Nat} {l:List Int},(∀ k∈w,1<=k/\k < l.length)->(led l w).Perm l
 | [],_,_=>List.Perm.refl _
 | k::w,l,h=>by
  have hk:=h k (List.mem_cons_self ..)
  show (led (ex l k) w).Perm l
  exact (uo fun m hm=>by rw [rP];exact h m (List.mem_cons_of_mem _ hm)).trans (yv hk.1 hk.2)
theorem mE {l:List Int} {k:Nat} (h0:1<=k) (h:k < l.length) (i:Nat) (j:Int) :
  cnt ((ex l k).take i) j=cnt (l.take i) j+(if i=k then (if j<=l[k] then 1 else 0) - (if j<=l[k - 1]'(by omega) then 1 else 0) else 0):=by
 rw [zd h0 h]
 have hq':k < (l.set (k - 1) l[k]).length:=by rw [List.length_set];exact h
 rw [nk hq',nk (show k - 1 < l.length by omega)]
 have e:(l.set (k - 1) l[k])[k]=l[k]:=by rw [List.getElem_set_ne (by omega)]
 rw [e]
 by_cases h1:i=k
 ·rw [if_pos h1,if_pos (show k - 1 < i by omega),if_neg (show ¬ k < i by omega)];omega
 ·by_cases h2:k < i
  ·rw [if_neg h1,if_pos (show k - 1 < i by omega),if_pos h2];omega
  ·rw [if_neg h1,if_neg (show ¬ k - 1 < i by omega),if_neg h2];omega
theorem up {l:List Int} {k:Nat} (h0:1<=k) (h:k < l.length) (hr:l[k - 1]'(by omega) < l[k]):Below l (ex l k):=by
 rw [zd h0 h]
 exact jd (by omega) h (by omega) hr
theorem lift {u w:List Int} {k:Nat} (hl:u.length=w.length) (h0:1<=k) (h:k < w.length) (hr:w[k - 1]'(by omega) < w[k]) (hb:Below u w):Below (ex u k) (ex w k):=by
 have hu:k < u.length:=by omega
 intro i j
 rw [mE h0 hu,mE h0 h]
 by_cases hi:i=k
 ·subst hi
  rw [if_pos rfl,if_pos rfl]
  have b1:=hb (i - 1) j
  have b2:=hb i j
  have b3:=hb (i+1) j
  have c1:=bK (l:=u) (i:=i - 1) (by omega) j
  have c2:=bK (l:=w) (i:=i - 1) (by omega) j
  have c3:=bK (l:=u) (i:=i) hu j
  have c4:=bK (l:=w) (i:=i) h j
  rw [show i - 1+1=i by omega] at c1 c2
  rw [c3,c4] at b3
  rw [c1,c2] at b2 b3
  rw [c1,c2]
  revert b1 b2 b3
  (repeat' split) <;> intros <;> omega
 ·rw [if_neg hi,if_neg hi]
  have:=hb i j
  omega
noncomputable def sw (k:Nat) (x:Int):Int:=if x=k then (k:Int)+1 else if x=(k:Int)+1 then k else x
theorem cY (n:Nat):(aX 1 ((n:Int)+1)).length=n:=by rw [bU];omega
theorem mF {l:List Int} {k:Nat} (h0:1<=k) (h:k < l.length) (p:Nat):(ex l k)[p]?=if p=k then l[k - 1]? else if p=k - 1 then l[k]? else l[p]?:=by
 rw [zd h0 h,List.getElem?_set]
 by_cases h1:k=p
 ·rw [if_pos h1,if_pos h1.symm,if_pos (by rw [List.length_set];omega),List.getElem?_eq_getElem]
 ·rw [if_neg h1,if_neg (fun z=>h1 z.symm),List.getElem?_set]
  by_cases h2:k - 1=p
  ·rw [if_pos h2,if_pos h2.symm,if_pos (by omega),List.getElem?_eq_getElem]
  ·rw [if_neg h2,if_neg (fun z=>h2 z.symm)]
end Wd
namespace Iv
open L2 Bl
noncomputable def inv:List Int->Nat
 | []=>0
 | x::l=>l.countP (fun y=>decide (y < x))+inv l
noncomputable def b9 (a b:List Int):Nat:=(a.map fun x=>b.countP fun y=>decide (y < x)).sum
theorem gI (x:Int) (a b:List Int):b9 (x::a) b=b.countP (fun y=>decide (y < x))+b9 a b:=rfl
theorem br:∀ (a b:List Int),inv (a++b)=inv a+inv b+b9 a b
 | [],b=>by show inv b=0+inv b+0;omega
 | x::a,b=>by
  show (a++b).countP _+inv (a++b)=(a.countP _+inv a)+inv b+b9 (x::a) b
  rw [List.countP_append,br a b,gI];omega
theorem gr:∀ {a b:List Nat},a.Perm b->a.sum=b.sum
 | _,_,.nil=>rfl
 | _,_,.cons x h=>by rw [List.sum_cons,List.sum_cons,gr h]
 | _,_,.swap x y l=>by rw [List.sum_cons,List.sum_cons,List.sum_cons,List.sum_cons];omega
 | _,_,.trans h k=>(gr h).trans (gr k)
theorem wN {a a':List Int} (b:List Int) (h:a.Perm a'):b9 a b=b9 a' b:=gr (h.map _)
theorem xJ (a:List Int) {b b':List Int} (h:b.Perm b'):b9 a b=b9 a b':=by
 unfold b9
 congr 1
 refine List.map_congr_left fun x _=>h.countP_eq _
theorem rz {M:List Int} {x y:Int} (h:∀ m∈M,m < x\/y < m) (hxy:x < y):M.countP (fun m=>decide (m < x))=M.countP (fun m=>decide (m < y)):=by
 refine List.countP_congr fun m hm=>?_
 rw [decide_eq_true_iff,decide_eq_true_iff]
 rcases h m hm with z | z <;> omega
theorem m7:∀ {M:List Int} {x y:Int},(∀ m∈M,m < x\/y < m)->x < y->b9 M [x]=b9 M [y]
 | [],_,_,_,_=>rfl
 | m::M,x,y,h,hxy=>by
  rw [gI,gI,m7 (fun m' hm=>h m' (List.mem_cons_of_mem _ hm)) hxy]
  congr 1
  have:=h m (List.mem_cons_self ..)
  simp only [List.countP_cons,List.countP_nil]
  by_cases c:x < m
  ·rw [decide_eq_true c,decide_eq_true (show y < m by omega)]
  ·rw [decide_eq_false c,decide_eq_false (show ¬ y < m by omega)]
theorem mid {M:List Int} {x y:Int} (h:∀ m∈M,m < x\/y < m) (hxy:x < y):inv ([y]++M++[x])=inv ([x]++M++[y])+1:=by
 rw [br,br,br ([x]++M),br [x]]
 have e1:b9 [y] M=b9 [x] M:=by
  show M.countP _+0=M.countP _+0
  rw [rz h hxy]
 have e2:b9 ([y]++M) [x]=1+b9 M [x]:=by
  show [x].countP _+b9 M [x]=_
  rw [List.countP_cons,decide_eq_true hxy];rfl
 have e3:b9 ([x]++M) [y]=b9 M [y]:=by
  show [y].countP _+b9 M [y]=_
  rw [List.countP_cons,decide_eq_false (by omega:¬ y < x)];simp
 rw [e1,e2,e3,m7 h hxy]
 show 0+inv M+_+0+_=0+inv M+_+0+_+1
 omega
theorem jm (M:List Int) (x y:Int):([y]++M++[x]).Perm ([x]++M++[y]):=by
 refine (List.perm_append_comm (l₁:=[y]++M) (l₂:=[x])).trans ?_
 show (x::(y::M)).Perm (x::(M++[y]))
 exact .cons x (List.perm_append_comm (l₁:=[y]) (l₂:=M))
theorem step {P M R:List Int} {x y:Int} (h:∀ m∈M,m < x\/y < m) (hxy:x < y):inv (P++([y]++M++[x])++R)=inv (P++([x]++M++[y])++R)+1:=by
 have p:=jm M x y
 rw [br,br P,br (P++([x]++M++[y])),br P,mid h hxy,xJ P p,wN R (p.append_left P)]
 omega
theorem Bw:∀ (l:List Int),inv l<=l.length * l.length
 | []=>Nat.le_refl _
 | x::l=>by
  show l.countP _+inv l<=(l.length+1) * (l.length+1)
  have h1:=List.countP_le_length (p:=fun y=>decide (y < x)) (l:=l)
  have h2:=Bw l
  rw [Nat.add_mul,Nat.mul_add]
  omega
theorem xH (x v:Int):cnt [x] v=if v<=x then 1 else 0:=by show (if v<=x then 1 else 0)+0=_;omega
theorem tV:∀ (l:List Int) {v w:Int},v<=w->cnt l w<=cnt l v
 | [],_,_,_=>Int.le_refl _
 | x::l,v,w,h=>by
  have:=tV l h
  show (if w<=x then 1 else 0)+cnt l w<=(if v<=x then 1 else 0)+cnt l v
  split <;> split <;> omega
theorem zj:∀ (l:List Int) {v w:Int},(∀ m∈l,m < v\/w<=m)->v<=w->cnt l v=cnt l w
 | [],_,_,_,_=>rfl
 | x::l,v,w,h,hvw=>by
  have:=zj l (fun m hm=>h m (List.mem_cons_of_mem _ hm)) hvw
  have:=h x (List.mem_cons_self ..)
  show (if v<=x then 1 else 0)+cnt l v=(if w<=x then 1 else 0)+cnt l w
  split <;> split <;> omega
theorem vR {P M R B:List Int} {x y z:Int} (hb:Below (P++([x]++M++[y])++R) (P++z::B)) (hxy:x < y) (hyz:y<=z) (hM:∀ m∈M,m < x\/z < m):Below (P++([y]++M++[x])++R) (P++z::B):=by
 intro p v
 have h0:=hb p v
 by_cases c1:p<=P.length
 ·have e:∀ L:List Int,(P++L).take p=P.take p:=fun L=>by rw [List.take_append_of_le_length c1]
  rw [List.append_assoc,e,e] at h0 ⊢
  exact h0
 ·by_cases c2:p<=P.length+1+M.length
  ·obtain ⟨q,hq⟩:∃ q,p=P.length+(q+1):=⟨p - P.length - 1,by omega⟩
   have ea:∀ (u w:Int),(P++([u]++M++[w])++R).take p=P++(u::M.take q):=fun u w=>by
    rw [List.append_assoc,hq,List.take_append,List.take_of_length_le (by omega),show P.length+(q+1) - P.length=q+1 by omega]
    congr 1
    show (u::((M++[w])++R)).take (q+1)=_
    rw [List.take_succ_cons,List.append_assoc,List.take_append_of_le_length (by omega)]
   have eb:(P++z::B).take p=P++(z::B.take q):=by
    rw [hq,List.take_append,List.take_of_length_le (by omega),show P.length+(q+1) - P.length=q+1 by omega,List.take_succ_cons]
   rw [ea,eb,cnt_append,cnt_append] at h0 ⊢
   have h1:=hb p (z+1)
   rw [ea,eb,cnt_append,cnt_append] at h1
   have f:∀ (u t:Int) (L:List Int),cnt (u::L) t=(if t<=u then 1 else 0)+cnt L t:=fun _ _ _=>rfl
   rw [f,f] at h0 h1 ⊢
   by_cases c3:x < v/\v<=y
   ·rw [if_neg (by omega),if_neg (by omega)] at h1
    rw [if_pos c3.2,if_pos (by omega)]
    have g1:cnt (M.take q) v=cnt (M.take q) (z+1):=zj _ (fun m hm=>by
     rcases hM m (List.mem_of_mem_take hm) with t | t
     ·left;omega
     ·right;omega) (by omega)
    have g2:=tV (B.take q) (show v<=z+1 by omega)
    omega
   ·have:(if v<=y then (1:Int) else 0)=if v<=x then 1 else 0:=by
     by_cases d:v<=x
     ·rw [if_pos d,if_pos (by omega)]
     ·rw [if_neg d,if_neg (fun t=>c3 ⟨by omega,t⟩)]
    rw [this];exact h0
  ·have ea:∀ (u w:Int),(P++([u]++M++[w])++R).take p=P++([u]++M++[w])++R.take (p - (P.length+1+M.length+1)):=fun u w=>by
    have l:(P++([u]++M++[w])).length=P.length+1+M.length+1:=by simp;omega
    rw [List.take_append,List.take_of_length_le (by rw [l];omega),l]
   rw [ea] at h0 ⊢
   have:=oF (((jm M x y).append_left P).append_right (R.take (p - (P.length+1+M.length+1)))) v
   rw [this];exact h0
noncomputable def sw (a:List Int) (i j:Nat):List Int:=(a.set i (a.getD j 0)).set j (a.getD i 0)
theorem HX (a:List Int) (i j:Nat):(sw a i j).length=a.length:=by unfold sw;rw [List.length_set,List.length_set]
theorem split {a:List Int} {i j:Nat} (hij:i < j) (hj:j < a.length):∃ P M R:List Int,a=P++([a.getD i 0]++M++[a.getD j 0])++R/\P=a.take i/\(∀ m∈M,∃ k,i < k/\k < j/\a[k]?=some m)/\sw a i j=P++([a.getD j 0]++M++[a.getD i 0])++R:=by
 have gi:a.getD i 0=a[i]:=by rw [List.getD_eq_getElem?_getD,List.getElem?_eq_getElem (by omega)];rfl
 have gj:a.getD j 0=a[j]:=by rw [List.getD_eq_getElem?_getD,List.getElem?_eq_getElem hj];rfl
 obtain ⟨M,hM⟩:∃ M,M=(a.drop (i+1)).take (j - i - 1):=⟨_,rfl⟩
 have lM:M.length=j - i - 1:=by rw [hM,List.length_take,List.length_drop];omega
 have ea:a=a.take i++([a.getD i 0]++M++[a.getD j 0])++a.drop (j+1):=by
  have h1:a.drop i=a[i]::a.drop (i+1):=List.drop_eq_getElem_cons (by omega)
  have h2:a.drop (i+1)=M++a.drop j:=by
   rw [hM]
   have:=List.take_append_drop (j - i - 1) (a.drop (i+1))
   rw [List.drop_drop,show i+1+(j - i - 1)=j by omega] at this
   exact this.symm
  have h3:a.drop j=a[j]::a.drop (j+1):=List.drop_eq_getElem_cons hj
  conv=>lhs;rw [<- List.take_append_drop i a,h1,h2,h3]
  rw [gi,gj];simp
 refine ⟨a.take i,M,a.drop (j+1),ea,rfl,fun m hm=>?_,?_⟩
 ·rw [hM] at hm
  obtain ⟨k,hk⟩:=List.getElem?_of_mem hm
  have hlt:k < j - i - 1:=by
   have:=(List.getElem?_eq_some_iff.mp hk).1
   rw [List.length_take] at this;omega
  rw [List.getElem?_take_of_lt hlt,List.getElem?_drop] at hk
  exact ⟨i+1+k,by omega,by omega,hk⟩
 ·have key:∀ (P R:List Int) (x y x' y':Int),P.length=i->((P++([x]++M++[y])++R).set i y').set j x'=P++([y']++M++[x'])++R:=fun P R x y x' y' lP=>by
   rw [List.append_assoc,List.set_append_right _ _ (by omega),lP,Nat.sub_self]
   show (P++(y'::((M++[y])++R))).set j x'=_
   rw [List.set_append_right _ _ (by omega),lP,show j - i=(j - i - 1)+1 by omega,List.set_cons_succ,List.append_assoc,List.set_append_right _ _ (by omega),lM,Nat.sub_self]
   simp
  have:=key (a.take i) (a.drop (j+1)) (a.getD i 0) (a.getD j 0) (a.getD i 0) (a.getD j 0) (by rw [List.length_take];omega)
  rw [<- ea] at this
  exact this
theorem iV {a:List Int} {i:Nat} (h:i < a.length):a[i]?=some (a.getD i 0):=by rw [List.getD_eq_getElem?_getD,List.getElem?_eq_getElem h];rfl
theorem part {a b:List Int} {n i:Nat} (pa:a.Perm (aX 1 ((n:Int)+1))) (pb:b.Perm (aX 1 ((n:Int)+1))) (la:a.length=n) (lb:b.length=n) (hb:Below a b) (hi:a.take i=b.take i) (hin:i < n) (hne:a.getD i 0≠b.getD i 0) :
  a.getD i 0 < b.getD i 0/\∃ j,i < j/\j < n/\a.getD j 0=b.getD i 0:=by
 have hx:=iV (a:=a) (i:=i) (by omega)
 have hy:=iV (a:=b) (i:=i) (by omega)
 have ta:a.take (i+1)=a.take i++[a.getD i 0]:=by rw [List.take_succ,hx];rfl
 have tb:b.take (i+1)=b.take i++[b.getD i 0]:=by rw [List.take_succ,hy];rfl
 have h:=hb (i+1) (a.getD i 0)
 rw [ta,tb,hi,cnt_append,cnt_append,xH,xH,if_pos (Int.le_refl _)] at h
 have hle:a.getD i 0<=b.getD i 0:=by
  by_cases c:a.getD i 0<=b.getD i 0
  ·exact c
  ·rw [if_neg c] at h;omega
 refine ⟨by omega,?_⟩
 have hm:b.getD i 0∈a:=(pa.trans pb.symm).mem_iff.mpr (List.mem_of_getElem? hy)
 obtain ⟨j,hj⟩:=List.getElem?_of_mem hm
 have hjn:j < n:=by have:=(List.getElem?_eq_some_iff.mp hj).1;omega
 have nb:b.Nodup:=pb.nodup_iff.mpr (iT _ _)
 refine ⟨j,?_,hjn,?_⟩
 ·rcases Nat.lt_trichotomy j i with c | c | c
  ·have e:(a.take i)[j]?=some (b.getD i 0):=by rw [List.getElem?_take_of_lt c];exact hj
   rw [hi,List.getElem?_take_of_lt c] at e
   obtain ⟨h1,g1⟩:=List.getElem?_eq_some_iff.mp e
   obtain ⟨h2,g2⟩:=List.getElem?_eq_some_iff.mp hy
   exact absurd ((List.getElem_inj nb).mp (g1.trans g2.symm)) (by omega)
  ·subst c
   rw [hx] at hj
   exact absurd (Option.some.inj hj) hne
  ·exact c
 ·rw [List.getD_eq_getElem?_getD,hj];rfl
theorem EU {a b:List Int} {n i j:Nat} (la:a.length=n) (lb:b.length=n) (hb:Below a b) (hi:a.take i=b.take i) (hij:i < j) (hj:j < n) (h1:a.getD i 0 < a.getD j 0) (h2:a.getD j 0<=b.getD i 0) (hno:∀ k,i < k->k < j->¬ (a.getD i 0 < a.getD k 0/\a.getD k 0<=b.getD i 0)) (nd:a.Nodup) :
  Below (sw a i j) b/\inv (sw a i j)=inv a+1/\(sw a i j).Perm a:=by
 obtain ⟨P,M,R,ea,eP,hM,es⟩:=split hij (show j < a.length by omega)
 have eb:b=P++b.getD i 0::b.drop (i+1):=by
  have:b.drop i=b.getD i 0::b.drop (i+1):=by
   rw [List.drop_eq_getElem_cons (by omega)]
   congr 1
   rw [List.getD_eq_getElem?_getD,List.getElem?_eq_getElem (by omega)];rfl
  conv=>lhs;rw [<- List.take_append_drop i b,this,<- hi,<- eP]
 have hgap:∀ m∈M,m < a.getD i 0\/b.getD i 0 < m:=fun m hm=>by
  obtain ⟨k,k1,k2,hk⟩:=hM m hm
  have e:a.getD k 0=m:=by rw [List.getD_eq_getElem?_getD,hk];rfl
  have:=hno k k1 k2
  rw [e] at this
  have hne:m≠a.getD i 0:=fun z=>by
   have hx:=iV (a:=a) (i:=i) (by omega)
   rw [<- z] at hx
   obtain ⟨q1,g1⟩:=List.getElem?_eq_some_iff.mp hk
   obtain ⟨q2,g2⟩:=List.getElem?_eq_some_iff.mp hx
   exact absurd ((List.getElem_inj nd).mp (g1.trans g2.symm)) (by omega)
  omega
 have hgap2:∀ m∈M,m < a.getD i 0\/a.getD j 0 < m:=fun m hm=>by
  rcases hgap m hm with t | t
  ·exact .inl t
  ·right;omega
 refine ⟨?_,?_,?_⟩
 ·rw [es,eb]
  refine vR ?_ h1 h2 hgap
  rw [<- ea,<- eb];exact hb
 ·rw [es,step hgap2 h1,<- ea]
 ·rw [es]
  have:=((jm M (a.getD i 0) (a.getD j 0)).append_left P).append_right R
  rw [<- ea] at this
  exact this
end Iv
namespace Nu
open PySem L2
noncomputable def fS:Nat->Nat
 | 0=>1
 | n+1=>(n+1) * fS n
theorem nt:∀ n,0 < fS n
 | 0=>Nat.one_pos
 | n+1=>Nat.mul_pos (Nat.succ_pos _) (nt n)
theorem sR (n:Nat):fS n<=fS (n+1):=Nat.le_mul_of_pos_left _ (Nat.succ_pos _)
theorem Dt {a b:Nat} (h:a<=b):fS a<=fS b:=by
 induction h with
 | refl=>exact Nat.le_refl _
 | step _ ih=>exact Nat.le_trans ih (sR _)
noncomputable def rank:List Int->Nat
 | []=>0
 | x::xs=>(xs.filter (· < x)).length * fS xs.length+rank xs
noncomputable def An:Nat->List Int->Nat->List Int
 | 0,_,_=>[]
 | n+1,l,m=>l.getD (m / fS n) 0::An n (l.eraseIdx (m / fS n)) (m % fS n)
theorem pZ {l:List Int} {q:Nat} (hs:l.Pairwise (· < ·)) (h:q < l.length):((l.eraseIdx q).filter (· < l[q])).length=q:=by
 have e:l=l.take q++l[q]::l.drop (q+1):=by rw [List.getElem_cons_drop,List.take_append_drop]
 rw [List.eraseIdx_eq_take_drop_succ,List.filter_append]
 have hs':=hs
 rw [e,List.pairwise_append] at hs'
 obtain ⟨_,h2,h3⟩:=hs'
 rw [List.filter_eq_self.mpr fun a ha=>decide_eq_true (h3 a ha _ (List.mem_cons_self ..)),List.filter_eq_nil_iff.mpr fun a ha z=>?_]
 ·rw [List.append_nil,List.length_take];omega
 ·have z:=of_decide_eq_true z
  have:=(List.pairwise_cons.mp h2).1 a ha
  omega
theorem gC {l:List Int} {i:Nat} (h:i < l.length):(l[i]::l.eraseIdx i).Perm l:=by
 have e:l=l.take i++l[i]::l.drop (i+1):=by rw [List.getElem_cons_drop,List.take_append_drop]
 rw [List.eraseIdx_eq_take_drop_succ]
 exact (List.perm_middle.symm).trans (by rw [<- e])
theorem zp {n m:Nat} (h:m < fS (n+1)):m / fS n < n+1:=(Nat.div_lt_iff_lt_mul (nt n)).mpr h
theorem rG {l:List Int} {q:Nat} (h:q < l.length):l.getD q 0=l[q]:=by rw [List.getD_eq_getElem?_getD,List.getElem?_eq_getElem h];rfl
theorem qQ:∀ (n:Nat) (l:List Int) (m:Nat),l.length=n->l.Pairwise (· < ·)->m < fS n->(An n l m).Perm l/\rank (An n l m)=m
 | 0,l,m,hl,_,hm=>by
  have:l=[]:=List.eq_nil_of_length_eq_zero hl
  subst this
  exact ⟨.refl _,by have:m < 1:=hm;show 0=m;omega⟩
 | n+1,l,m,hl,hs,hm=>by
  have hq:=zp hm
  have hq':m / fS n < l.length:=by omega
  obtain ⟨p,r⟩:=qQ n (l.eraseIdx (m / fS n)) (m % fS n) (by rw [List.length_eraseIdx,if_pos hq'];omega) (hs.sublist (List.eraseIdx_sublist ..)) (Nat.mod_lt _ (nt n))
  have ll:(An n (l.eraseIdx (m / fS n)) (m % fS n)).length=n:=by rw [p.length_eq,List.length_eraseIdx,if_pos hq'];omega
  refine ⟨?_,?_⟩
  ·show (l.getD (m / fS n) 0::An n _ _).Perm l
   rw [rG hq']
   exact (p.cons _).trans (gC hq')
  ·show ((An n (l.eraseIdx (m / fS n)) (m % fS n)).filter (· < l.getD (m / fS n) 0)).length * fS (An n (l.eraseIdx (m / fS n)) (m % fS n)).length+rank (An n (l.eraseIdx (m / fS n)) (m % fS n))=m
   rw [r,ll,(p.filter _).length_eq,rG hq',pZ hs hq',Nat.mul_comm]
   exact Nat.div_add_mod _ _
theorem q_:∀ (n:Nat) (l xs:List Int),l.length=n->l.Pairwise (· < ·)->xs.Perm l->rank xs < fS n/\An n l (rank xs)=xs
 | 0,l,xs,hl,_,hp=>by
  have:l=[]:=List.eq_nil_of_length_eq_zero hl
  subst this
  have:=hp.eq_nil
  subst this
  exact ⟨Nat.one_pos,rfl⟩
 | n+1,l,[],hl,_,hp=>by have:=hp.length_eq;rw [hl] at this;cases this
 | n+1,l,x::xs,hl,hs,hp=>by
  have hx:x∈l:=hp.mem_iff.mp (List.mem_cons_self ..)
  obtain ⟨j,hj,ej⟩:=List.getElem_of_mem hx
  have hp':xs.Perm (l.eraseIdx j):=by
   have h1:=gC hj
   rw [ej] at h1
   exact (hp.trans h1.symm).cons_inv
  have le:(l.eraseIdx j).length=n:=by rw [List.length_eraseIdx,if_pos hj];omega
  obtain ⟨h1,h2⟩:=q_ n (l.eraseIdx j) xs le (hs.sublist (List.eraseIdx_sublist ..)) hp'
  have hc:(xs.filter (· < x)).length=j:=by
   rw [(hp'.filter _).length_eq,<- ej];exact pZ hs hj
  have lx:xs.length=n:=by rw [hp'.length_eq,le]
  have er:rank (x::xs)=j * fS n+rank xs:=by
   show (xs.filter (· < x)).length * fS xs.length+rank xs=_
   rw [hc,lx]
  have ed:(j * fS n+rank xs) / fS n=j:=by
   rw [Nat.mul_comm,Nat.mul_add_div (nt n),Nat.div_eq_of_lt h1];rfl
  have em:(j * fS n+rank xs) % fS n=rank xs:=by
   rw [Nat.mul_comm,Nat.mul_add_mod,Nat.mod_eq_of_lt h1]
  rw [er]
  refine ⟨?_,?_⟩
  ·show _ < (n+1) * fS n
   calc j * fS n+rank xs < j * fS n+fS n:=by omega
    _=(j+1) * fS n:=(Nat.succ_mul _ _).symm
    _<=(n+1) * fS n:=Nat.mul_le_mul_right _ (by omega)
  ·show l.getD ((j * fS n+rank xs) / fS n) 0::An n (l.eraseIdx ((j * fS n+rank xs) / fS n)) ((j * fS n+rank xs) % fS n)=_
   rw [ed,em,rG hj,ej,h2]
theorem mw (i j:Int):(aX i j).Pairwise (· < ·):=by
 unfold aX
 rw [List.pairwise_map]
 exact List.pairwise_lt_range.imp fun h=>by omega
end Nu
namespace Fw
open PySem L2 Bl
open Wd (ex led)
noncomputable abbrev rg (n:Nat):List Int:=aX 1 ((n:Int)+1)
theorem HA {l:List Int} {k:Nat} (h0:1<=k) (h:k < l.length):ex (ex l k) k=l:=by
 apply List.ext_getElem?
 intro p
 have h':k < (ex l k).length:=by rw [Wd.rP];exact h
 rw [Wd.mF h0 h',Wd.mF h0 h,Wd.mF h0 h,Wd.mF h0 h]
 by_cases c3:p=k
 ·rw [if_pos c3,if_neg (by omega),if_pos rfl,c3]
 ·rw [if_neg c3]
  by_cases c2:p=k - 1
  ·rw [if_pos c2,if_pos rfl,c2]
  ·rw [if_neg c2,if_neg c3,if_neg c2]
theorem Gx {l:List Int} {k:Nat} (h0:1<=k) (h:k < l.length):(ex l k).getD k 0=l.getD (k - 1) 0:=by
 rw [List.getD_eq_getElem?_getD,Wd.mF h0 h,if_pos rfl,List.getD_eq_getElem?_getD]
theorem GU {l:List Int} {k:Nat} (h0:1<=k) (h:k < l.length):(ex l k).getD (k - 1) 0=l.getD k 0:=by
 rw [List.getD_eq_getElem?_getD,Wd.mF h0 h,if_neg (by omega),if_pos rfl,List.getD_eq_getElem?_getD]
theorem Cf {l:List Int} {k:Nat} (h0:1<=k) (h:k < l.length) (hr:l.getD (k - 1) 0 < l.getD k 0):Iv.inv (ex l k)=Iv.inv l+1:=by
 obtain ⟨P,M,R,e,_,hM,es⟩:=Iv.split (a:=l) (i:=k - 1) (j:=k) (by omega) h
 have:=Iv.step (P:=P) (M:=M) (R:=R) (x:=l.getD (k - 1) 0) (y:=l.getD k 0) (fun m hm=>by obtain ⟨_,_,_,_⟩:=hM m hm;omega) hr
 rw [<- es,<- e] at this
 exact this
theorem o_ {l:List Int} {k:Nat} (h0:1<=k) (h:k < l.length) (hr:l.getD k 0 < l.getD (k - 1) 0):Iv.inv l=Iv.inv (ex l k)+1:=by
 have:=Cf (l:=ex l k) h0 (by rw [Wd.rP];exact h) (by rw [Gx h0 h,GU h0 h];exact hr)
 rw [HA h0 h] at this
 exact this
noncomputable def Va (n:Nat) (w:List Nat):Prop:=∀ k∈w,1<=k/\k < n
theorem BP:∀ {l:List Int},l.Pairwise (·<=·)->Iv.inv l=0
 | [],_=>rfl
 | x::l,h=>by
  show l.countP (fun y=>decide (y < x))+Iv.inv l=0
  rw [BP (List.pairwise_cons.mp h).2,List.countP_eq_zero.mpr fun a ha z=>by have:=of_decide_eq_true z;have:=(List.pairwise_cons.mp h).1 a ha;omega]
noncomputable def Ak (l:List Int) (k:Nat):Prop:=1<=k/\k < l.length/\l.getD k 0 < l.getD (k - 1) 0
theorem GQ {l:List Int} (h:∀ k,¬ Ak l k):l.Pairwise (·<=·):=by
 have key:∀ d i,i+d < l.length->l.getD i 0<=l.getD (i+d) 0:=by
  intro d
  induction d with
  | zero=>intro i _;exact Int.le_refl _
  | succ d ih=>
   intro i hi
   have h1:=ih i (by omega)
   have h2:¬ l.getD (i+d+1) 0 < l.getD (i+d) 0:=fun z=>h (i+d+1) ⟨by omega,hi,z⟩
   rw [<- Nat.add_assoc];omega
 rw [List.pairwise_iff_getElem]
 intro i j hi hj hij
 have:=key (j - i) i (by omega)
 rw [show i+(j - i)=j by omega,Wd.bH hi,Wd.bH hj] at this
 exact this
theorem GI {l:List Int} {n:Nat} (p:l.Perm (rg n)) (h:∀ k,¬ Ak l k):l=rg n:=
 List.Perm.eq_of_pairwise (fun x y _ _ h1 h2=>Int.le_antisymm h1 h2) (GQ h) (F_ _ _) p
theorem EO {l:List Int} (h:0 < Iv.inv l):∃ k,Ak l k:=by
 refine Classical.byContradiction fun z=>?_
 rw [BP (GQ fun k hk=>z ⟨k,hk⟩)] at h
 exact absurd h (Nat.lt_irrefl _)
noncomputable def Dn:List Int->List Nat->Prop
 | l,[]=>∀ k,¬ Ak l k
 | l,k::ks=>(Ak l k/\∀ j,Ak l j->k<=j)/\Dn (ex l k) ks
theorem GW {l:List Int} {n k:Nat} (p:l.Perm (rg n)) (h0:1<=k) (h:k < l.length):(ex l k).Perm (rg n):=(Wd.yv h0 h).trans p
theorem Dn.led:∀ {ks:List Nat} {l:List Int} {n:Nat},Dn l ks->l.Perm (rg n)->led l ks=rg n
 | [],l,n,h,p=>GI p h
 | k::ks,l,n,h,p=>Dn.led (ks:=ks) h.2 (GW p h.1.1.1 h.1.1.2.1)
theorem Hh:∀ (m:Nat) (l:List Int),Iv.inv l<=m->∃ ks,Dn l ks
 | 0,l,h=>⟨[],fun k hk=>by have:=o_ hk.1 hk.2.1 hk.2.2;omega⟩
 | m+1,l,h=>by
  by_cases c:∃ k,Ak l k
  ·obtain ⟨k,hk,hmin⟩:∃ k,Ak l k/\∀ j,Ak l j->k<=j:=by
    obtain ⟨k,hk⟩:=c
    induction k using Nat.strongRecOn with
    | ind k ih=>
     by_cases z:∃ j,Ak l j/\j < k
     ·obtain ⟨j,hj,hlt⟩:=z
      exact ih j hlt hj
     ·exact ⟨k,hk,fun j hj=>Nat.le_of_not_lt fun y=>z ⟨j,hj,y⟩⟩
   have:=o_ hk.1 hk.2.1 hk.2.2
   obtain ⟨ks,hks⟩:=Hh m (ex l k) (by omega)
   exact ⟨k::ks,⟨hk,hmin⟩,hks⟩
  ·exact ⟨[],fun k hk=>c ⟨k,hk⟩⟩
theorem Ew {l:List Int} {n k:Nat} (p:l.Perm (rg n)) (h0:1<=k) (h:k < l.length):l.getD (k - 1) 0≠l.getD k 0:=fun z=>by
 have nd:l.Nodup:=p.nodup_iff.mpr (iT _ _)
 rw [Wd.bH h,Wd.bH (show k - 1 < l.length by omega)] at z
 have:=(List.getElem_inj nd).mp z
 omega
structure Two (n:Nat) (o u:List Int):Prop where
 po:o.Perm (rg n)
 pu:u.Perm (rg n)
 ou:IV o u
end Fw
namespace Ti
open PySem L2 Bl
open Wd (ex led)
open Fw (rg Va Ak)
inductive Mv:List Nat->List Nat->Prop
 | comm (P R:List Nat) (a b:Nat) (h:a+2<=b\/b+2<=a):Mv (P++a::b::R) (P++b::a::R)
 | braid (P R:List Nat) (a b:Nat) (h:a+1=b\/b+1=a):Mv (P++a::b::a::R) (P++b::a::b::R)
inductive Con:List Nat->List Nat->Prop
 | refl (u:List Nat):Con u u
 | step {u v w:List Nat} (h:Con u v) (m:Mv v w):Con u w
theorem pm {n:Nat} {w:List Nat} (h:Va n w):(led (rg n) w).Perm (rg n):=Wd.uo (by rw [Wd.cY];exact h)
theorem ln {n:Nat} {w:List Nat}:(led (rg n) w).length=n:=by rw [Wd.ym,Wd.cY]
end Ti
namespace Rd
open PySem L2
open Ti (Mv Con)
noncomputable abbrev up (v:List Nat):List Int:=v.map fun k:Nat=>(k:Int)
theorem Ct {v:List Nat} {p:Nat} (h:p+1 < v.length):v=v.take p++v.getD p 0::v.getD (p+1) 0::v.drop (p+2):=by
 have g:∀ q,q < v.length->v.getD q 0=v[q]!:=fun q hq=>by simp [List.getD_eq_getElem?_getD,hq]
 rw [show v.getD p 0=v[p] by rw [List.getD_eq_getElem?_getD,List.getElem?_eq_getElem (by omega)];rfl,show v.getD (p+1) 0=v[p+1] by rw [List.getD_eq_getElem?_getD,List.getElem?_eq_getElem h];rfl,
  List.getElem_cons_drop,List.getElem_cons_drop,List.take_append_drop]
theorem lC:∀ (N:Nat) (l:List Nat),l.Nodup->(∀ x∈l,x < N)->l.length<=N
 | 0,l,_,h=>by
  cases l with
  | nil=>exact Nat.le_refl _
  | cons x l=>exact absurd (h x (List.mem_cons_self ..)) (Nat.not_lt_zero _)
 | N+1,l,hn,h=>by
  by_cases c:N∈l
  ·have h1:=lC N (l.erase N) (hn.erase N) fun x hx=>by
    have h1:=(List.Nodup.mem_erase_iff hn).mp hx
    have:=h x h1.2
    have:=h1.1
    omega
   have:=List.length_erase_of_mem c
   have:=List.length_pos_of_mem c
   omega
  ·have:=lC N l hn fun x hx=>by
    have:=h x hx
    have:x≠N:=fun z=>c (z ▸ hx)
    omega
   omega
noncomputable def code:List Nat->Nat
 | []=>0
 | a::r=>(a - 1)+8 * code r
noncomputable def wG (L:Nat) (w:List Nat):Prop:=w.length=L/\∀ k∈w,1<=k/\k<=8
theorem yE:∀ {L:Nat} {w:List Nat},wG L w->code w < 8 ^ L
 | 0,[],_=>by show 0 < 8 ^ 0;decide
 | L+1,a::r,h=>by
  have h1:=yE (L:=L) (w:=r) ⟨Nat.succ.inj h.1,fun k hk=>h.2 k (List.mem_cons_of_mem _ hk)⟩
  have h2:=h.2 a (List.mem_cons_self ..)
  show (a - 1)+8 * code r < 8 ^ (L+1)
  rw [Nat.pow_succ]
  omega
 | 0,_::_,h=>by cases h.1
 | _+1,[],h=>by cases h.1
theorem code_inj:∀ {L:Nat} {w v:List Nat},wG L w->wG L v->code w=code v->w=v
 | 0,[],[],_,_,_=>rfl
 | L+1,a::r,b::t,h,h',e=>by
  have h2:=h.2 a (List.mem_cons_self ..)
  have h3:=h'.2 b (List.mem_cons_self ..)
  have e:(a - 1)+8 * code r=(b - 1)+8 * code t:=e
  have e1:a=b:=by omega
  have e2:code r=code t:=by omega
  rw [e1,code_inj (L:=L) ⟨Nat.succ.inj h.1,fun k hk=>h.2 k (List.mem_cons_of_mem _ hk)⟩ ⟨Nat.succ.inj h'.1,fun k hk=>h'.2 k (List.mem_cons_of_mem _ hk)⟩ e2]
 | 0,_::_,_,h,_,_=>by cases h.1
 | 0,[],_::_,_,h,_=>by cases h.1
 | _+1,[],_,h,_,_=>by cases h.1
 | _+1,_::_,[],_,h,_=>by cases h.1
theorem few {L:Nat} {ws:List (List Nat)} (hL:L<=8) (hn:ws.Nodup) (h:∀ w∈ws,wG L w):ws.length<=16777216:=by
 have h1:=lC (8 ^ L) (ws.map code) (by
  unfold List.Nodup
  rw [List.pairwise_map]
  exact List.Pairwise.imp_of_mem (fun ha hb hne z=>hne (code_inj (h _ ha) (h _ hb) z)) hn) fun x hx=>by
  obtain ⟨w,hw,rfl⟩:=List.mem_map.mp hx
  exact yE (h w hw)
 rw [List.length_map] at h1
 exact Nat.le_trans h1 (Nat.le_trans (Nat.pow_le_pow_right (by decide) hL) (by decide))
noncomputable abbrev En:=List Nat×Option (List Nat)
structure Bf (s:List Nat) (es:List En) (done:Nat):Prop where
 nd:(es.map (·.1)).Nodup
 hd:es[0]?=some (s,none)
 pr:∀ i w q,es[i]?=some (w,q)->(i=0/\q=none)\/∃ j r u,j < i/\es[j]?=some (u,r)/\q=some u/\Mv u w
 co:∀ w∈es.map (·.1),Con s w
 cl:∀ i w q,i < done->es[i]?=some (w,q)->∀ w',Mv w w'->w'∈es.map (·.1)
 le:done<=es.length
end Rd
namespace Stp
open PySem L2 Iv
noncomputable def mm (a:List Int) (i j:Nat):List Int:=(a.drop (i+1)).take (j - i - 1)
noncomputable def rZ (x y m:Int):Bool:=decide (x < m) && decide (m < y)
theorem Lg {x y:Int} (hxy:x < y):∀ {M:List Int},(∀ m∈M,m≠x/\m≠y)->M.countP (fun m=>decide (m < y))=M.countP (fun m=>decide (m < x))+M.countP (rZ x y)
 | [],_=>rfl
 | m::M,h=>by
  have ih:=Lg hxy (M:=M) fun k hk=>h k (List.mem_cons_of_mem _ hk)
  have hm:=h m (List.mem_cons_self ..)
  rw [List.countP_cons,List.countP_cons,List.countP_cons,ih]
  unfold rZ
  by_cases c:m < x
  ·rw [decide_eq_true c,decide_eq_true (show m < y by omega),decide_eq_false (show ¬ x < m by omega)];simp;omega
  ·rw [decide_eq_false c,decide_eq_true (show x < m by omega)]
   by_cases c2:m < y
   ·rw [decide_eq_true c2];simp;omega
   ·rw [decide_eq_false c2];simp
theorem LV {x y:Int} (hxy:x < y):∀ {M:List Int},(∀ m∈M,m≠x/\m≠y)->b9 M [x]=b9 M [y]+M.countP (rZ x y)
 | [],_=>rfl
 | m::M,h=>by
  have ih:=LV hxy (M:=M) fun k hk=>h k (List.mem_cons_of_mem _ hk)
  have hm:=h m (List.mem_cons_self ..)
  rw [gI,gI,ih,List.countP_cons (l:=M)]
  simp only [List.countP_cons,List.countP_nil]
  unfold rZ
  by_cases c:x < m
  ·rw [decide_eq_true c]
   by_cases c2:m < y
   ·rw [decide_eq_true c2,decide_eq_false (show ¬ y < m by omega)];simp;omega
   ·rw [decide_eq_false c2,decide_eq_true (show y < m by omega)];simp;omega
  ·rw [decide_eq_false c,decide_eq_false (show ¬ y < m by omega)];simp
theorem MV {M:List Int} {x y:Int} (h:∀ m∈M,m≠x/\m≠y) (hxy:x < y):inv ([y]++M++[x])=inv ([x]++M++[y])+1+2 * M.countP (rZ x y):=by
 rw [br,br,br ([x]++M),br [x]]
 have e1:b9 [y] M=b9 [x] M+M.countP (rZ x y):=by
  show M.countP _+0=M.countP _+0+_
  rw [Lg hxy h];omega
 have e2:b9 ([y]++M) [x]=1+b9 M [x]:=by
  show [x].countP _+b9 M [x]=_
  rw [List.countP_cons,decide_eq_true hxy];rfl
 have e3:b9 ([x]++M) [y]=b9 M [y]:=by
  show [y].countP _+b9 M [y]=_
  rw [List.countP_cons,decide_eq_false (by omega:¬ y < x)];simp
 rw [e1,e2,e3,LV hxy h]
 show 0+inv M+_+0+_=0+inv M+_+0+_+1+_
 omega
theorem Df {P M R:List Int} {x y:Int} (h:∀ m∈M,m≠x/\m≠y) (hxy:x < y):inv (P++([y]++M++[x])++R)=inv (P++([x]++M++[y])++R)+1+2 * M.countP (rZ x y):=by
 have p:=jm M x y
 rw [br,br P,br (P++([x]++M++[y])),br P,MV h hxy,xJ P p,wN R (p.append_left P)]
 omega
theorem parts {a:List Int} {i j:Nat} (hij:i < j) (hj:j < a.length):a=a.take i++([a.getD i 0]++mm a i j++[a.getD j 0])++a.drop (j+1):=by
 have gi:a.getD i 0=a[i]:=by rw [List.getD_eq_getElem?_getD,List.getElem?_eq_getElem (by omega)];rfl
 have gj:a.getD j 0=a[j]:=by rw [List.getD_eq_getElem?_getD,List.getElem?_eq_getElem hj];rfl
 have h1:a.drop i=a[i]::a.drop (i+1):=List.drop_eq_getElem_cons (by omega)
 have h2:a.drop (i+1)=mm a i j++a.drop j:=by
  have:=List.take_append_drop (j - i - 1) (a.drop (i+1))
  rw [List.drop_drop,show i+1+(j - i - 1)=j by omega] at this
  exact this.symm
 have h3:a.drop j=a[j]::a.drop (j+1):=List.drop_eq_getElem_cons hj
 conv=>lhs;rw [<- List.take_append_drop i a,h1,h2,h3]
 rw [gi,gj];simp
theorem K6 {a:List Int} {i j:Nat} (hij:i < j) (hj:j < a.length):sw a i j=a.take i++([a.getD j 0]++mm a i j++[a.getD i 0])++a.drop (j+1):=by
 have lM:(mm a i j).length=j - i - 1:=by unfold mm;rw [List.length_take,List.length_drop];omega
 have key:∀ (P R:List Int) (x y x' y':Int),P.length=i->((P++([x]++mm a i j++[y])++R).set i y').set j x'=P++([y']++mm a i j++[x'])++R:=fun P R x y x' y' lP=>by
  rw [List.append_assoc,List.set_append_right _ _ (by omega),lP,Nat.sub_self]
  show (P++(y'::((mm a i j++[y])++R))).set j x'=_
  rw [List.set_append_right _ _ (by omega),lP,show j - i=(j - i - 1)+1 by omega,List.set_cons_succ,List.append_assoc,List.set_append_right _ _ (by omega),lM,Nat.sub_self]
  simp
 have:=key (a.take i) (a.drop (j+1)) (a.getD i 0) (a.getD j 0) (a.getD i 0) (a.getD j 0) (by rw [List.length_take];omega)
 rw [<- parts hij hj] at this
 exact this
theorem LM {a:List Int} (nd:a.Nodup) {i j:Nat} (hij:i < j) (hj:j < a.length):∀ m∈mm a i j,m≠a.getD i 0/\m≠a.getD j 0:=fun m hm=>by
 have e:=parts hij hj
 rw [e] at nd
 have nd2:=(List.nodup_append.mp (List.nodup_append.mp nd).1).2.1
 have n3:=List.nodup_append.mp nd2
 have n4:=List.nodup_append.mp n3.1
 exact ⟨fun z=>n4.2.2 _ (List.mem_singleton.mpr rfl) m hm z.symm,fun z=>n3.2.2 m (List.mem_append_right _ hm) _ (List.mem_singleton.mpr rfl) z⟩
noncomputable def Aj (a:List Int) (i j:Nat):Bool:=!(mm a i j).any fun m=>rZ (if a.getD j 0 < a.getD i 0 then a.getD j 0 else a.getD i 0) (if a.getD j 0 > a.getD i 0 then a.getD j 0 else a.getD i 0) m
theorem FD (p:Int->Bool) (M:List Int):(!M.any p)=decide (M.countP p=0):=by
 by_cases h:M.countP p=0
 ·rw [decide_eq_true h]
  rw [List.countP_eq_zero] at h
  simp only [Bool.not_eq_true',List.any_eq_false]
  exact h
 ·rw [decide_eq_false h]
  have:M.any p=true:=by
   rw [List.any_eq_true]
   refine Classical.byContradiction fun z=>h (List.countP_eq_zero.mpr fun a ha hp=>z ⟨a,ha,hp⟩)
  rw [this];rfl
theorem Jv {a:List Int} (nd:a.Nodup) {i j:Nat} (hij:i < j) (hj:j < a.length):(decide (a.getD i 0 < a.getD j 0) && Aj a i j)=(decide (a.getD i 0 < a.getD j 0) && decide (inv (sw a i j)=inv a+1)):=by
 by_cases c:a.getD i 0 < a.getD j 0
 ·have e:=Df (P:=a.take i) (R:=a.drop (j+1)) (LM nd hij hj) c
  rw [<- K6 hij hj,<- parts hij hj] at e
  unfold Aj
  rw [FD,if_neg (by omega),if_pos c,decide_eq_true c,Bool.true_and,Bool.true_and,decide_eq_decide]
  show (mm a i j).countP (rZ (a.getD i 0) (a.getD j 0))=0 ↔ _
  omega
 ·rw [decide_eq_false c];rfl
theorem Fd {a:List Int} {i j:Nat} (hij:i < j) (hj:j < a.length):(sw a i j).Perm a:=by
 have e:=parts hij hj
 rw [K6 hij hj]
 conv=>rhs;rw [e]
 exact ((jm _ _ _).append_left _).append_right _
end Stp
namespace Eu
open PySem L2 Bl
open Wd (ex mE)
open Fw (rg Ak)
theorem bH {l:List Int} {k:Nat} (h:k < l.length):l.getD k 0=l[k]:=by rw [List.getD_eq_getElem?_getD,List.getElem?_eq_getElem h];rfl
theorem low {a b:List Int} {k:Nat} (hl:a.length=b.length) (h0:1<=k) (h:k < b.length) (hb:b.getD k 0 < b.getD (k - 1) 0) (ha:a.getD (k - 1) 0<=a.getD k 0) (hab:Below a b):Below a (ex b k):=by
 have hu:k < a.length:=by omega
 rw [bH h,bH (show k - 1 < b.length by omega)] at hb
 rw [bH hu,bH (show k - 1 < a.length by omega)] at ha
 intro i j
 rw [mE h0 h]
 by_cases hi:i=k
 ·subst hi
  rw [if_pos rfl]
  have b1:=hab (i - 1) j
  have b3:=hab (i+1) j
  have c1:=bK (l:=a) (i:=i - 1) (by omega) j
  have c2:=bK (l:=b) (i:=i - 1) (by omega) j
  have c3:=bK (l:=a) (i:=i) hu j
  have c4:=bK (l:=b) (i:=i) h j
  rw [show i - 1+1=i by omega] at c1 c2
  rw [c3,c4,c1,c2] at b3
  rw [c1,c2]
  revert b1 b3
  (repeat' split) <;> intros <;> omega
 ·rw [if_neg hi]
  have:=hab i j
  omega
theorem MF {a b:List Int} {k:Nat} (hl:a.length=b.length) (h0:1<=k) (h:k < b.length) (hb:b.getD k 0 < b.getD (k - 1) 0) (ha:a.getD k 0<=a.getD (k - 1) 0) (hab:Below a b):Below (ex a k) (ex b k):=by
 have hu:k < a.length:=by omega
 rw [bH h,bH (show k - 1 < b.length by omega)] at hb
 rw [bH hu,bH (show k - 1 < a.length by omega)] at ha
 intro i j
 rw [mE h0 h,mE h0 hu]
 by_cases hi:i=k
 ·subst hi
  rw [if_pos rfl,if_pos rfl]
  have b1:=hab (i - 1) j
  have b3:=hab (i+1) j
  have c1:=bK (l:=a) (i:=i - 1) (by omega) j
  have c2:=bK (l:=b) (i:=i - 1) (by omega) j
  have c3:=bK (l:=a) (i:=i) hu j
  have c4:=bK (l:=b) (i:=i) h j
  rw [show i - 1+1=i by omega] at c1 c2
  rw [c3,c4,c1,c2] at b3
  rw [c1,c2]
  revert b1 b3
  (repeat' split) <;> intros <;> omega
 ·rw [if_neg hi,if_neg hi]
  have:=hab i j
  omega
section
variable {n k:Nat}
theorem ln {z:List Int} (p:z.Perm (rg n)):z.length=n:=by rw [p.length_eq,Wd.cY]
theorem Ec {z:List Int} (p:z.Perm (rg n)) (h0:1<=k) (h:k < n):(ex z k).Perm (rg n):=Fw.GW p h0 (by rw [ln p];exact h)
theorem wU {z:List Int} (p:z.Perm (rg n)) (h0:1<=k) (h:k < n):ex (ex z k) k=z:=Fw.HA h0 (by rw [ln p];exact h)
theorem ne {z:List Int} (p:z.Perm (rg n)) (h0:1<=k) (h:k < n):z.getD (k - 1) 0≠z.getD k 0:=Fw.Ew p h0 (by rw [ln p];exact h)
theorem hi {z:List Int} (p:z.Perm (rg n)) (h0:1<=k) (h:k < n):(ex z k).getD k 0=z.getD (k - 1) 0:=Fw.Gx h0 (by rw [ln p];exact h)
theorem lo {z:List Int} (p:z.Perm (rg n)) (h0:1<=k) (h:k < n):(ex z k).getD (k - 1) 0=z.getD k 0:=Fw.GU h0 (by rw [ln p];exact h)
theorem Lc {z:List Int} (p:z.Perm (rg n)) (h0:1<=k) (h:k < n) (hr:z.getD (k - 1) 0 < z.getD k 0):Below z (ex z k):=by
 have l:=ln p
 refine Wd.up h0 (by omega) ?_
 rw [<- bH,<- bH];exact hr
theorem NP {u w:List Int} (pu:u.Perm (rg n)) (pw:w.Perm (rg n)) (h0:1<=k) (h:k < n) (hr:w.getD (k - 1) 0 < w.getD k 0) (hb:Below u w):Below (ex u k) (ex w k):=by
 have l:=ln pw
 refine Wd.lift (by rw [ln pu,ln pw]) h0 (by omega) ?_ hb
 rw [<- bH,<- bH];exact hr
theorem GG {z w:List Int} (pz:z.Perm (rg n)) (pw:w.Perm (rg n)) (h0:1<=k) (h:k < n) (hw:w.getD k 0 < w.getD (k - 1) 0) (hb:Below z w):Below (ex z k) w:=by
 have lw:=ln pw
 have lz:=ln pz
 rcases Int.lt_or_gt_of_ne (ne pz h0 h) with c | c
 ·have h1:=low (a:=z) (b:=w) (by omega) h0 (by omega) hw (by omega) hb
  have h2:=NP pz (Ec pw h0 h) h0 h (by rw [hi pw h0 h,lo pw h0 h];exact hw) h1
  rwa [wU pw h0 h] at h2
 ·have:=Lc (Ec pz h0 h) h0 h (by rw [hi pz h0 h,lo pz h0 h];omega)
  rw [wU pz h0 h] at this
  exact this.trans hb
theorem GA {u z:List Int} (pu:u.Perm (rg n)) (pz:z.Perm (rg n)) (h0:1<=k) (h:k < n) (hu:u.getD (k - 1) 0 < u.getD k 0) (hb:Below u z):Below u (ex z k):=by
 have lu:=ln pu
 have lz:=ln pz
 rcases Int.lt_or_gt_of_ne (ne pz h0 h) with c | c
 ·exact hb.trans (Lc pz h0 h c)
 ·exact low (by omega) h0 (by omega) (by omega) (by omega) hb
end
noncomputable def al (n:Nat):List (List Int):=(List.range (Nu.fS n)).map (Nu.An n (rg n))
theorem iy {n:Nat} {z:List Int}:z∈al n ↔ z.Perm (rg n):=by
 unfold al
 rw [List.mem_map]
 constructor
 ·rintro ⟨m,hm,rfl⟩
  exact (Nu.qQ n (rg n) m (Wd.cY n) (Nu.mw _ _) (List.mem_range.mp hm)).1
 ·intro p
  obtain ⟨h1,h2⟩:=Nu.q_ n (rg n) z (Wd.cY n) (Nu.mw _ _) p
  exact ⟨Nu.rank z,List.mem_range.mpr h1,h2⟩
theorem DU (n:Nat):(al n).Nodup:=by
 unfold al List.Nodup
 rw [List.pairwise_map]
 refine List.Pairwise.imp_of_mem (fun {a b} ha hb hab z=>hab ?_) List.nodup_range
 have:=(Nu.qQ n (rg n) a (Wd.cY n) (Nu.mw _ _) (List.mem_range.mp ha)).2
 rw [<- this,z,(Nu.qQ n (rg n) b (Wd.cY n) (Nu.mw _ _) (List.mem_range.mp hb)).2]
theorem Lp {n k:Nat} (h0:1<=k) (h:k < n):((al n).map fun z=>ex z k).Perm (al n):=by
 refine (List.perm_ext_iff_of_nodup ?_ (DU n)).mpr fun z=>?_
 ·unfold List.Nodup
  rw [List.pairwise_map]
  refine List.Pairwise.imp_of_mem (fun {a b} ha hb hab e=>hab ?_) (DU n)
  rw [<- wU (iy.mp ha) h0 h,e,wU (iy.mp hb) h0 h]
 ·rw [List.mem_map]
  constructor
  ·rintro ⟨y,hy,rfl⟩
   exact iy.mpr (Ec (iy.mp hy) h0 h)
  ·intro hz
   exact ⟨ex z k,iy.mpr (Ec (iy.mp hz) h0 h),wU (iy.mp hz) h0 h⟩
noncomputable def sg (z:List Int):Int:=if Iv.inv z % 2=1 then -1 else 1
theorem KI {n k:Nat} {z:List Int} (p:z.Perm (rg n)) (h0:1<=k) (h:k < n):sg (ex z k)=-sg z:=by
 have l:=ln p
 unfold sg
 rcases Int.lt_or_gt_of_ne (ne p h0 h) with c | c
 ·have:=Fw.Cf h0 (show k < z.length by omega) c
  (repeat' split) <;> omega
 ·have:=Fw.o_ h0 (show k < z.length by omega) c
  (repeat' split) <;> omega
open Classical in
noncomputable def sm (n:Nat) (P:List Int->Prop):Int:=((al n).map fun z=>if P z then sg z else 0).sum
theorem gr {a b:List Int} (p:a.Perm b):a.sum=b.sum:=by
 induction p with
 | nil=>rfl
 | cons x _ ih=>rw [List.sum_cons,List.sum_cons,ih]
 | swap x y l=>rw [List.sum_cons,List.sum_cons,List.sum_cons,List.sum_cons];omega
 | trans _ _ h1 h2=>exact h1.trans h2
theorem sum_neg {α:Type} (f g:α->Int):∀ (l:List α),(∀ x∈l,f x=-g x)->(l.map f).sum=-(l.map g).sum
 | [],_=>rfl
 | x::l,h=>by
  rw [List.map_cons,List.map_cons,List.sum_cons,List.sum_cons,sum_neg f g l fun y hy=>h y (List.mem_cons_of_mem _ hy),h x (List.mem_cons_self ..)];omega
theorem sum_add {α:Type} (f g e:α->Int):∀ (l:List α),(∀ x∈l,f x=g x+e x)->(l.map f).sum=(l.map g).sum+(l.map e).sum
 | [],_=>rfl
 | x::l,h=>by
  rw [List.map_cons,List.map_cons,List.map_cons,List.sum_cons,List.sum_cons,List.sum_cons,sum_add f g e l fun y hy=>h y (List.mem_cons_of_mem _ hy),h x (List.mem_cons_self ..)];omega
theorem CI {n k:Nat} {P:List Int->Prop} (h0:1<=k) (h:k < n) (hP:∀ z,z.Perm (rg n)->(P (ex z k) ↔ P z)):sm n P=0:=by
 classical
 have e1:((al n).map fun z=>if P (ex z k) then sg (ex z k) else 0).sum=-sm n P:=by
  unfold sm
  refine sum_neg _ _ _ fun z hz=>?_
  have p:=iy.mp hz
  by_cases c:P z
  ·rw [if_pos c,if_pos ((hP z p).mpr c),KI p h0 h]
  ·rw [if_neg c,if_neg fun q=>c ((hP z p).mp q)];rfl
 have e2:((al n).map fun z=>if P (ex z k) then sg (ex z k) else 0).sum=sm n P:=by
  have:=gr ((Lp h0 h).map fun z=>if P z then sg z else 0)
  rw [List.map_map] at this
  exact this
 omega
theorem vI {n:Nat} {P Q R:List Int->Prop} (h:∀ z,z.Perm (rg n)->(P z ↔ Q z\/R z)) (hd:∀ z,z.Perm (rg n)->Q z->R z->False):sm n P=sm n Q+sm n R:=by
 classical
 unfold sm
 refine sum_add _ _ _ _ fun z hz=>?_
 have p:=iy.mp hz
 by_cases q:Q z
 ·rw [if_pos q,if_pos ((h z p).mpr (.inl q)),if_neg fun r=>hd z p q r];omega
 ·by_cases r:R z
  ·rw [if_neg q,if_pos r,if_pos ((h z p).mpr (.inr r))];omega
  ·rw [if_neg q,if_neg r,if_neg fun x=>((h z p).mp x).elim q r];rfl
theorem L8 {n:Nat} {P:List Int->Prop} (h:∀ z,z.Perm (rg n)->¬ P z):sm n P=0:=by
 have:=vI (n:=n) (P:=P) (Q:=P) (R:=P) (fun z p=>⟨fun q=>.inl q,fun q=>q.elim id id⟩) fun z p q _=>h z p q
 omega
noncomputable def Bt (u w z:List Int):Prop:=Below u z/\Below z w
theorem N_ {n:Nat}:∀ (m:Nat) (u w:List Int),Iv.inv w=m->u.Perm (rg n)->w.Perm (rg n)->u≠w->Below u w->sm n (Bt u w)=0:=by
 intro m
 induction m using Nat.strongRecOn with
 | _ m ih=>
  intro u w hm pu pw hne hb
  have lw:=ln pw
  have lu:=ln pu
  by_cases hz:Iv.inv w=0
  ·exfalso
   have:w=rg n:=Fw.GI pw fun k hk=>by
    have:=Fw.o_ hk.1 hk.2.1 hk.2.2
    omega
   have hu:u=rg n:=by
    have h1:Below (rg n) u:=by
     obtain ⟨ks,hd⟩:=Fw.Hh _ u (Nat.le_refl _)
     have key:∀ (ks:List Nat) (l:List Int),l.Perm (rg n)->Fw.Dn l ks->Below (rg n) l:=by
      intro ks
      induction ks with
      | nil=>intro l p hd;rw [<- hd.led p];exact Below.refl _
      | cons k ks ih2=>
       intro l p hd
       have hk:=hd.1.1
       have ll:=ln p
       have p2:=Ec (n:=n) p hk.1 (by have:=hk.2.1;omega)
       refine (ih2 _ p2 hd.2).trans ?_
       have:=Lc p2 hk.1 (by have:=hk.2.1;omega) (by rw [hi p hk.1 (by have:=hk.2.1;omega),lo p hk.1 (by have:=hk.2.1;omega)];exact hk.2.2)
       rwa [wU p hk.1 (by have:=hk.2.1;omega)] at this
     exact key ks u pu hd
    exact Below.antisymm (by rw [lu,Wd.cY]) (by rw [<- this];exact hb) h1
   exact hne (hu.trans this.symm)
  ·obtain ⟨k,hk⟩:=Fw.EO (l:=w) (by omega)
   have h0:=hk.1
   have h:k < n:=by have:=hk.2.1;omega
   have hw:=hk.2.2
   have pv:=Ec pw h0 h
   have iv:=Fw.o_ h0 hk.2.1 hw
   rcases Int.lt_or_gt_of_ne (ne pu h0 h) with c | c
   ·refine CI h0 h fun z pz=>?_
    have fw:∀ z,z.Perm (rg n)->Bt u w z->Bt u w (ex z k):=fun z pz ⟨a,b⟩=>⟨GA pu pz h0 h c a,GG pz pw h0 h hw b⟩
    refine ⟨fun q=>?_,fw z pz⟩
    have:=fw _ (Ec pz h0 h) q
    rwa [wU pz h0 h] at this
   ·have px:=Ec pu h0 h
    have cx:(ex u k).getD (k - 1) 0 < (ex u k).getD k 0:=by rw [hi pu h0 h,lo pu h0 h];exact c
    have xu:Below (ex u k) u:=by have:=Lc px h0 h cx;rwa [wU pu h0 h] at this
    have xw:=xu.trans hb
    have vw:Below (ex w k) w:=by have:=Lc pv h0 h (by rw [hi pw h0 h,lo pw h0 h];exact hw);rwa [wU pw h0 h] at this
    have xv:Below (ex u k) (ex w k):=MF (by omega) h0 (by omega) hw (by omega) hb
    have s1:sm n (Bt (ex u k) w)=0:=CI h0 h fun z pz=>by
     have fw:∀ z,z.Perm (rg n)->Bt (ex u k) w z->Bt (ex u k) w (ex z k):=fun z pz ⟨a,b⟩=>⟨GA px pz h0 h cx a,GG pz pw h0 h hw b⟩
     refine ⟨fun q=>?_,fw z pz⟩
     have:=fw _ (Ec pz h0 h) q
     rwa [wU pz h0 h] at this
    have nxv:ex u k≠ex w k:=fun e=>hne (by rw [<- wU pu h0 h,e,wU pw h0 h])
    have s2:=ih (Iv.inv (ex w k)) (by omega) (ex u k) (ex w k) rfl px pv nxv xv
    have s3:sm n (Bt u (ex w k))=0:=by
     by_cases cb:Below u (ex w k)
     ·refine ih (Iv.inv (ex w k)) (by omega) u (ex w k) rfl pu pv (fun e=>?_) cb
      rw [e,hi pw h0 h,lo pw h0 h] at c
      omega
     ·exact L8 fun z _ ⟨a,b⟩=>cb (a.trans b)
    have d1:=vI (n:=n) (P:=Bt (ex u k) w) (Q:=Bt u w) (R:=fun z=>Bt (ex u k) w z/\¬ Below u z) (fun z _=>by
     by_cases q:Below u z
     ·exact ⟨fun ⟨_,b⟩=>.inl ⟨q,b⟩,fun x=>x.elim (fun ⟨_,b⟩=>⟨xu.trans q,b⟩) fun y=>y.1⟩
     ·exact ⟨fun x=>.inr ⟨x,q⟩,fun x=>x.elim (fun ⟨a,_⟩=>absurd a q) fun y=>y.1⟩) fun z _ a b=>b.2 a.1
    have d2:=vI (n:=n) (P:=Bt (ex u k) (ex w k)) (Q:=Bt u (ex w k)) (R:=fun z=>Bt (ex u k) w z/\¬ Below u z) (fun z pz=>by
     have lz:=ln pz
     by_cases q:Below u z
     ·exact ⟨fun ⟨_,b⟩=>.inl ⟨q,b⟩,fun x=>x.elim (fun ⟨_,b⟩=>⟨xu.trans q,b⟩) fun y=>absurd q y.2⟩
     ·refine ⟨fun ⟨a,b⟩=>.inr ⟨⟨a,b.trans vw⟩,q⟩,fun x=>x.elim (fun ⟨a,_⟩=>absurd a q) fun ⟨⟨a,b⟩,_⟩=>⟨a,?_⟩⟩
      rcases Int.lt_or_gt_of_ne (ne pz h0 h) with cz | cz
      ·exact low (by omega) h0 (by omega) hw (by omega) b
      ·exfalso
       have t1:=low (a:=ex u k) (b:=z) (by rw [ln px];omega) h0 (by omega) (by omega) (by omega) a
       have t2:=NP px (Ec pz h0 h) h0 h (by rw [hi pz h0 h,lo pz h0 h];omega) t1
       rw [wU pu h0 h,wU pz h0 h] at t2
       exact q t2) fun z _ a b=>b.2 a.1
    omega
end Eu
namespace Eu
open PySem L2 Bl Am
open Fw (rg)
theorem least {p:Nat->Prop}:∀ m,p m->∃ q,p q/\∀ k,k < q->¬ p k:=by
 intro m
 induction m using Nat.strongRecOn with
 | _ m ih=>
  intro h
  by_cases c:∃ k,k < m/\p k
  ·obtain ⟨k,h1,h2⟩:=c
   exact ih k h1 h2
  ·exact ⟨m,h,fun k hk hp=>c ⟨k,hk,hp⟩⟩
theorem asc {n:Nat} {y z:List Int} (py:y.Perm (rg n)) (pz:z.Perm (rg n)) (hb:Below y z) (hne:y≠z):∃ i j,i < j/\j < n/\y.getD i 0 < y.getD j 0/\Stp.Aj y i j=true/\Below (Iv.sw y i j) z/\Iv.inv (Iv.sw y i j)=Iv.inv y+1/\(Iv.sw y i j).Perm (rg n):=by
 have ly:=ln py
 have lz:=ln pz
 have ny:y.Nodup:=py.nodup_iff.mpr (iT _ _)
 have hex:∃ i,i < n/\y.getD i 0≠z.getD i 0:=by
  by_cases c:∃ i,i < n/\y.getD i 0≠z.getD i 0
  ·exact c
  ·exfalso
   refine hne (List.ext_getElem (by omega) fun i h1 h2=>?_)
   rw [<- bH,<- bH]
   by_cases d:y.getD i 0=z.getD i 0
   ·exact d
   ·exact absurd ⟨i,by omega,d⟩ c
 obtain ⟨i0,h0⟩:=hex
 obtain ⟨i,⟨hi,hd⟩,hmin⟩:=least (p:=fun i=>i < n/\y.getD i 0≠z.getD i 0) i0 h0
 have ht:y.take i=z.take i:=by
  apply List.ext_getElem?
  intro k
  rw [List.getElem?_take,List.getElem?_take]
  by_cases c:k < i
  ·rw [if_pos c,if_pos c]
   have e:y.getD k 0=z.getD k 0:=by
    by_cases q:y.getD k 0=z.getD k 0
    ·exact q
    ·exact absurd ⟨by omega,q⟩ (hmin k c)
   rw [Iv.iV (by omega),Iv.iV (by omega),e]
  ·rw [if_neg c,if_neg c]
 obtain ⟨hlt,j0,g1,g2,g3⟩:=Iv.part py pz ly lz hb ht hi hd
 obtain ⟨j,⟨hj1,hj2,hj3,hj4⟩,hjm⟩:=least (p:=fun j=>i < j/\j < n/\y.getD i 0 < y.getD j 0/\y.getD j 0<=z.getD i 0) j0 ⟨g1,g2,by omega,by omega⟩
 obtain ⟨b1,b2,b3⟩:=Iv.EU ly lz hb ht hj1 hj2 hj3 hj4 (fun k h1 h2 ⟨h3,h4⟩=>hjm k h2 ⟨h1,by omega,h3,h4⟩) ny
 refine ⟨i,j,hj1,hj2,hj3,?_,b1,b2,b3.trans py⟩
 have:=Stp.Jv ny hj1 (show j < y.length by omega)
 rw [decide_eq_true hj3,decide_eq_true b2,Bool.true_and] at this
 exact this
structure Done (n:Nat) (u w:List Int) (es:List (List Int×Bool)):Prop where
 nd:(es.map (·.1)).Nodup
 pm:∀ e∈es,e.1.Perm (rg n)
 up:∀ e∈es,Below u e.1
 fl:∀ e∈es,(e.2=true ↔ Below e.1 w)
 st:u∈es.map (·.1)
 cl:∀ e∈es,e.2=true->∀ i j,i < j->j < n->e.1.getD i 0 < e.1.getD j 0->Stp.Aj e.1 i j=true->Iv.sw e.1 i j∈es.map (·.1)
theorem Done.all {n:Nat} {u w:List Int} {es:List (List Int×Bool)} (d:Done n u w es) {z:List Int} (pz:z.Perm (rg n)) (hz:Below z w):∀ (m:Nat) (y:List Int),n * n - Iv.inv y=m->y∈es.map (·.1)->Below y z->z∈es.map (·.1):=by
 intro m
 induction m using Nat.strongRecOn with
 | _ m ih=>
  intro y hm hy hb
  by_cases c:y=z
  ·rw [<- c];exact hy
  ·obtain ⟨⟨y',b⟩,he,hye⟩:=List.mem_map.mp hy
   have hye:y'=y:=hye
   subst hye
   have py:y'.Perm (rg n):=d.pm _ he
   obtain ⟨i,j,h1,h2,h3,h4,h5,h6,h7⟩:=asc py pz hb c
   have hm2:=Iv.Bw (Iv.sw y' i j)
   rw [ln h7,h6] at hm2
   exact ih (n * n - Iv.inv (Iv.sw y' i j)) (by omega) _ rfl (d.cl _ he ((d.fl _ he).mpr (hb.trans hz)) i j h1 h2 h3 h4) h5
theorem Done.mem {n:Nat} {u w:List Int} {es:List (List Int×Bool)} (d:Done n u w es) (z:List Int):z∈(es.filter (·.2)).map (·.1) ↔ z.Perm (rg n)/\Below u z/\Below z w:=by
 rw [List.mem_map]
 constructor
 ·rintro ⟨e,he,rfl⟩
  obtain ⟨h1,h2⟩:=List.mem_filter.mp he
  exact ⟨d.pm e h1,d.up e h1,(d.fl e h1).mp h2⟩
 ·rintro ⟨pz,h1,h2⟩
  have:=d.all pz h2 _ u rfl d.st h1
  obtain ⟨e,he,rfl⟩:=List.mem_map.mp this
  exact ⟨e,List.mem_filter.mpr ⟨he,(d.fl e he).mpr h2⟩,rfl⟩
theorem Done.nodup {n:Nat} {u w:List Int} {es:List (List Int×Bool)} (d:Done n u w es):((es.filter (·.2)).map (·.1)).Nodup:=(d.nd).sublist ((List.filter_sublist (l:=es)).map _)
noncomputable def ext (n:Nat) (p:List Int):List (List Int):=((rg n).filter fun t=>decide (t∉p)).map fun t=>p++[t]
noncomputable def inj (n:Nat):Nat->List (List Int)
 | 0=>[[]]
 | k+1=>(inj n k).flatMap (ext n)
theorem jP {n:Nat}:∀ {k:Nat} {p:List Int},p∈inj n k ↔ p.length=k/\p.Nodup/\∀ t∈p,t∈rg n
 | 0,p=>by
  unfold inj
  rw [List.mem_singleton]
  constructor
  ·rintro rfl;simp
  ·rintro ⟨h,_⟩;exact List.length_eq_zero_iff.mp h
 | k+1,p=>by
  unfold inj
  rw [List.mem_flatMap]
  constructor
  ·rintro ⟨q,hq,hp⟩
   obtain ⟨t,ht,rfl⟩:=List.mem_map.mp hp
   obtain ⟨h1,h2⟩:=List.mem_filter.mp ht
   obtain ⟨a,b,c⟩:=jP.mp hq
   have h2:t∉q:=of_decide_eq_true h2
   refine ⟨by simp [a],?_,fun x hx=>?_⟩
   ·rw [List.nodup_append]
    refine ⟨b,by simp,fun x hx y hy z=>h2 ?_⟩
    have:y=t:=by simpa using hy
    rw [<- this,<- z];exact hx
   ·rcases List.mem_append.mp hx with z | z
    ·exact c x z
    ·have:x=t:=by simpa using z
     rw [this];exact h1
  ·rintro ⟨h1,h2,h3⟩
   rcases List.eq_nil_or_concat p with c | ⟨q,t,c⟩
   ·rw [c] at h1;simp at h1
   ·rw [List.concat_eq_append] at c
    subst c
    rw [List.nodup_append] at h2
    refine ⟨q,jP.mpr ⟨by simpa using h1,h2.1,fun x hx=>h3 x (List.mem_append_left _ hx)⟩,List.mem_map.mpr ⟨t,List.mem_filter.mpr ⟨h3 t (by simp),decide_eq_true fun z=>h2.2.2 t z t (by simp) rfl⟩,rfl⟩⟩
theorem fQ {n:Nat} {p:List Int}:p∈inj n n ↔ p.Perm (rg n):=by
 rw [jP]
 constructor
 ·rintro ⟨h1,h2,h3⟩
  exact m8 h2 h3 (by rw [h1,Wd.cY];exact Nat.le_refl _)
 ·intro p'
  exact ⟨ln p',p'.nodup_iff.mpr (iT _ _),fun t ht=>p'.mem_iff.mp ht⟩
theorem zb:∀ {a b:List Int} (x y:List Int),a.length=b.length->HT.lexLt a b=true->HT.lexLt (a++x) (b++y)=true
 | [],[],_,_,_,h=>by cases h
 | [],_::_,_,_,h,_=>by simp at h
 | _::_,[],_,_,h,_=>by simp at h
 | p::a,q::b,x,y,hl,h=>by
  show HT.lexLt (p::(a++x)) (q::(b++y))=true
  rw [HT.dO] at h ⊢
  by_cases c:p=q
  ·rw [if_pos c] at h ⊢
   exact zb x y (by simpa using hl) h
  ·rw [if_neg c] at h ⊢
   exact h
theorem uy:∀ (p:List Int) {s t:Int},s < t->HT.lexLt (p++[s]) (p++[t])=true
 | [],s,t,h=>by
  show HT.lexLt [s] [t]=true
  rw [HT.dO,if_neg (by omega),decide_eq_true h]
 | x::p,s,t,h=>by
  show HT.lexLt (x::(p++[s])) (x::(p++[t]))=true
  rw [HT.dO,if_pos rfl];exact uy p h
theorem qM {n:Nat}:∀ (k:Nat),(inj n k).Pairwise fun a b=>HT.lexLt a b=true
 | 0=>List.pairwise_singleton _ _
 | k+1=>by
  unfold inj
  rw [List.pairwise_flatMap]
  refine ⟨fun p hp=>?_,List.Pairwise.imp_of_mem (fun {a b} ha hb hab x hx y hy=>?_) (qM k)⟩
  ·unfold ext
   rw [List.pairwise_map]
   refine List.Pairwise.imp (fun {a b} hab=>uy p hab) ?_
   exact (Nu.mw _ _).sublist List.filter_sublist
  ·obtain ⟨s,_,rfl⟩:=List.mem_map.mp hx
   obtain ⟨t,_,rfl⟩:=List.mem_map.mp hy
   exact zb [s] [t] (by rw [(jP.mp ha).1,(jP.mp hb).1]) hab
theorem LX {a b:List Int} (h:HT.lexLt a b=true):zE a b:=by
 show HT.lexLt b a=false
 cases c:HT.lexLt b a with
 | false=>rfl
 | true=>
  have:=Sx.nW h c
  rw [Sx.jM] at this;cases this
theorem qZ {n:Nat}:∀ (k:Nat),(inj n k).length<=n ^ k
 | 0=>Nat.le_refl _
 | k+1=>by
  have:∀ (l:List (List Int)),(l.flatMap (ext n)).length<=l.length * n:=fun l=>by
   induction l with
   | nil=>exact Nat.zero_le _
   | cons p l ih=>
    rw [List.flatMap_cons,List.length_append,List.length_cons,Nat.add_mul,Nat.one_mul]
    have:(ext n p).length<=n:=by
     unfold ext
     rw [List.length_map]
     exact Nat.le_trans (List.length_filter_le _ _) (by rw [Wd.cY];exact Nat.le_refl _)
    omega
  unfold inj
  exact Nat.le_trans (this _) (by rw [Nat.pow_succ];exact Nat.mul_le_mul_right _ (qZ k))
theorem Done.told {n:Nat} {u w:List Int} {es:List (List Int×Bool)} (d:Done n u w es) (q:List Int->Bool) (hq:∀ z,z.Perm (rg n)->(q z=true ↔ Below u z/\Below z w)):fF ((es.filter (·.2)).map (·.1))=(inj n n).filter q:=by
 symm
 refine nZ ?_ ?_
 ·have nd:((inj n n).filter q).Nodup:=by
   refine List.Pairwise.sublist List.filter_sublist (List.Pairwise.imp (fun {a b} h z=>?_) (qM n))
   rw [z,Sx.jM] at h;cases h
  refine (List.perm_ext_iff_of_nodup nd d.nodup).mpr fun z=>?_
  rw [d.mem,List.mem_filter,fQ]
  constructor
  ·rintro ⟨h1,h2⟩;exact ⟨h1,(hq z h1).mp h2⟩
  ·rintro ⟨h1,h2⟩;exact ⟨h1,(hq z h1).mpr h2⟩
 ·exact List.Pairwise.sublist List.filter_sublist (List.Pairwise.imp LX (qM n))
theorem half {n:Nat} {u w:List Int} (pu:u.Perm (rg n)) (pw:w.Perm (rg n)) (hb:Below u w) (hne:u≠w) (q:List Int->Bool) (hq:∀ z,z.Perm (rg n)->(q z=true ↔ Below u z/\Below z w)):2 * (((inj n n).filter q).filter fun z=>decide (Iv.inv z % 2=1)).length=((inj n n).filter q).length:=by
 classical
 have e:=N_ (n:=n) _ u w rfl pu pw hne hb
 have pm:(inj n n).Perm (al n):=by
  refine (List.perm_ext_iff_of_nodup ?_ (DU n)).mpr fun z=>by rw [fQ,iy]
  refine List.Pairwise.imp (fun {a b} h z=>?_) (qM n)
  rw [z,Sx.jM] at h;cases h
 have e2:((inj n n).map fun z=>if Bt u w z then sg z else 0).sum=0:=by
  rw [gr (pm.map fun z=>if Bt u w z then sg z else 0)]
  exact e
 have key:∀ (l:List (List Int)),(∀ z∈l,z.Perm (rg n))->(l.map fun z=>if Bt u w z then sg z else 0).sum=((l.filter q).length:Int) - 2 * (((l.filter q).filter fun z=>decide (Iv.inv z % 2=1)).length:Int):=fun l=>by
  induction l with
  | nil=>intro _;rfl
  | cons z l ih=>
   intro h
   have ih:=ih fun y hy=>h y (List.mem_cons_of_mem _ hy)
   have hz:=hq z (h z (List.mem_cons_self ..))
   rw [List.map_cons,List.sum_cons,ih]
   by_cases c:q z=true
   ·rw [if_pos (show Bt u w z from hz.mp c),List.filter_cons_of_pos c]
    unfold sg
    by_cases d:Iv.inv z % 2=1
    ·rw [if_pos d,List.filter_cons_of_pos (by exact decide_eq_true d),List.length_cons,List.length_cons];omega
    ·rw [if_neg d,List.filter_cons_of_neg (by simpa using d),List.length_cons];omega
   ·rw [if_neg (show ¬ Bt u w z from fun b=>c (hz.mpr b)),List.filter_cons_of_neg (by simpa using c)];omega
 have:=key (inj n n) fun z hz=>fQ.mp hz
 omega
end Eu
namespace K18
open PySem L2 Am
noncomputable def top (i:Nat):Stmt:=PySem.Challenge.pw_undercells_k18_all_between.main.body.getD i (.Pass ⟨0,0,0,0⟩)
noncomputable abbrev dZ:Stmt:=top 5
noncomputable def mY:List Str:=["one", "other"]
noncomputable def jj:Sm:=
 nO (iW (aH (qE true) (aV (f1 eg) (aj (ah 0) (aJ))) (aV (f1 eg) (aj (ah 1) (aJ)))))
 (MH)
 (fX)
noncomputable def cG:List A->aE->R A:=eK mY jj
noncomputable abbrev bM:Stmt:=top 6
noncomputable def gv:List Str:=["order", "i", "j", "things"]
noncomputable def dN:Sm:=
 aZ (bE (aV (f1 kR) (aj (ah 0) (aJ))) (bF 3))
 (aZ (bE (fM (aj (aH fG (ah 3) (aH aSub (ah 2) (eC (.int 1)))) (aj (aH fG (ah 3) (aH aSub (ah 1) (eC (.int 1)))) (aJ)))) (pO 2 (iI (yM (ah 3) (aH aSub (ah 1) (eC (.int 1)))) (iI (yM (ah 3) (aH aSub (ah 2) (eC (.int 1)))) (pQ)))))
 (cF (aV (f1 iY) (aj (ah 3) (aJ)))))
noncomputable def bu:List A->aE->R A:=eK gv dN
noncomputable abbrev cR:Stmt:=top 7
noncomputable def j3:List Str:=["n"]
noncomputable def iw:Sm:=
 cF (vt [none,none,some 0] (gz (eC (.int 1)) (ah 0)) (bF 0) (pN) (gz (aH b_ (ah 0) (eC (.int 1))) (aH b_ (ah 2) (eC (.int 1)))) (bF 1) (pN) (fM (aj (ah 0) (aj (ah 1) (aJ)))))
noncomputable def bN:List A->aE->R A:=eK j3 iw
noncomputable abbrev cV:Stmt:=top 8
noncomputable def pM:List Str:=["order"]
noncomputable def jY:Sm:=
 cF (bW [none,none,some 0] (fK (eFn bN (aj (aV (f1 eg) (aj (ah 0) (aJ))) (aJ)))) (pO 2 (iI (bF 0) (iI (bF 1) (pQ)))) (iW (aH Al (aH fG (ah 2) (aH aSub (ah 0) (eC (.int 1)))) (aH fG (ah 2) (aH aSub (ah 1) (eC (.int 1)))))) (fM (aj (ah 0) (aj (ah 1) (aJ)))))
noncomputable def fj:List A->aE->R A:=eK pM jY
noncomputable abbrev iE:Stmt:=top 9
noncomputable def Az:List Str:=["order"]
noncomputable def sN:Sm:=
 cF (aV (f1 eg) (aj (eFn fj (aj (ah 0) (aJ))) (aJ)))
noncomputable def jz:List A->aE->R A:=eK Az sN
noncomputable abbrev bD:Stmt:=top 12
noncomputable def fE:List Str:=["numbers", "place"]
noncomputable def eo:Te:=
 iW (aH Mq (aH fG (ah 0) (aH aSub (ah 1) (eC (.int 1)))) (eC (.int 0)))
noncomputable def eG:Sm:=
 B3 1 zL (eC (.int 1))
noncomputable def dh:Sm:=
 aZ (bE (eC (.int 1)) (bF 1))
 (aZ (dH (eo)
 (eG) 1000000)
 (cF (ah 1)))
noncomputable def bC:List A->aE->R A:=eK fE dh
noncomputable abbrev p8:Stmt:=top 11
noncomputable def Ho:List Str:=["one", "other", "more", "at", "j"]
noncomputable def zk:Ic:=
 gY (aH fG (ah 0) (ah 3))
noncomputable def xK:Sm:=
 oQ (ah 2) (ah 4) (eC (.int 1)) zL
noncomputable def yc:Ic:=
 gY (aH fG (ah 1) (ah 3))
noncomputable def yV:Sm:=
 oQ (ah 2) (ah 4) (eC (.int 1)) aSub
noncomputable def ED:Ic:=
 gY (aV (f1 eg) (aj (ah 0) (aJ)))
noncomputable def yh:Sm:=
 aZ (gp (zk) (bF 4)
 (xK))
 (aZ (gp (yc) (bF 4)
 (yV))
 (nO (iW (aH Al (aV (f1 BH) (aj (ah 2) (aJ))) (eC (.int 0))))
 (cF (fM (aj (aH b_ (ah 3) (eC (.int 1))) (aj (eFn bC (aj (ah 2) (aJ))) (aJ)))))
 (fX)))
noncomputable def Bo:Sm:=
 aZ (j4 (eFn cG (aj (ah 0) (aj (ah 1) (aJ)))))
 (aZ (bE (aH gq (jS (aj (eC (.int 0)) (aJ))) (aV (f1 eg) (aj (ah 0) (aJ)))) (bF 2))
 (aZ (gp (ED) (bF 3)
 (yh))
 (cF (eC .non))))
noncomputable def pC:List A->aE->R A:=eK Ho Bo
noncomputable abbrev eZ:Stmt:=top 13
noncomputable def kg:List Str:=["one", "other"]
noncomputable def iU:Sm:=
 cF (aH (qV false) (eFn pC (aj (ah 0) (aj (ah 1) (aJ)))) (eC .non))
noncomputable def cJ:List A->aE->R A:=eK kg iU
noncomputable abbrev cT:Stmt:=top 15
noncomputable def jZ:List Str:=["one", "other", "free_things", "most_things", "most_pairs"]
noncomputable def g8:Sm:=
 aZ (nO (iW (aH Mq (aV (f1 eg) (aj (ah 0) (aJ))) (ah 2)))
 (A0)
 (fX))
 (nO (Kv (iW (aH Al (aV (f1 eg) (aj (ah 0) (aJ))) (ah 3))) (iW (aH Al (aH aSub (eFn jz (aj (ah 1) (aJ))) (eFn jz (aj (ah 0) (aJ)))) (ah 4))))
 (MH)
 (fX))
noncomputable def cP:List A->aE->R A:=eK jZ g8
noncomputable abbrev gg:Stmt:=top 20
noncomputable def p6:List Str:=["order", "i", "j", "low", "high"]
noncomputable def lZ:Sm:=
 aZ (bE (aV (f2 vZ) (aj (aH fG (ah 0) (aH aSub (ah 1) (eC (.int 1)))) (aj (aH fG (ah 0) (aH aSub (ah 2) (eC (.int 1)))) (aJ)))) (bF 3))
 (aZ (bE (aV (f2 wz) (aj (aH fG (ah 0) (aH aSub (ah 1) (eC (.int 1)))) (aj (aH fG (ah 0) (aH aSub (ah 2) (eC (.int 1)))) (aJ)))) (bF 4))
 (cF (IU (aV (f1 A3) (aj (bW [none,some 3,some 4] (fK (Kz (ah 0) (mW (ah 1)) (mW (aH aSub (ah 2) (eC (.int 1)))))) (bF 0) (pN) (Ff yd yd (ah 1) (ah 0) (ah 2))) (aJ))))))
noncomputable def dW:List A->aE->R A:=eK p6 lZ
noncomputable abbrev jJ:Stmt:=top 21
noncomputable def xV:List Str:=["order", "pairs"]
noncomputable def rm:Sm:=
 cF (aV (f1 kM) (aj (bW [none,none,some 0] (fK (ah 1)) (pO 2 (iI (bF 0) (iI (bF 1) (pQ)))) (ji (eFn dW (aj (ah 2) (aj (ah 0) (aj (ah 1) (aJ)))))) (eFn bu (aj (ah 2) (aj (ah 0) (aj (ah 1) (aJ)))))) (aJ)))
noncomputable def jO:List A->aE->R A:=eK xV rm
noncomputable abbrev cS:Stmt:=top 22
noncomputable def jX:List Str:=["order"]
noncomputable def g_:Sm:=
 cF (eFn jO (aj (ah 0) (aj (bW [none,none,some 0] (fK (eFn bN (aj (aV (f1 eg) (aj (ah 0) (aJ))) (aJ)))) (pO 2 (iI (bF 0) (iI (bF 1) (pQ)))) (iW (aH yd (aH fG (ah 2) (aH aSub (ah 0) (eC (.int 1)))) (aH fG (ah 2) (aH aSub (ah 1) (eC (.int 1)))))) (fM (aj (ah 0) (aj (ah 1) (aJ))))) (aJ))))
noncomputable def cW:List A->aE->R A:=eK jX g_
noncomputable abbrev f_:Stmt:=top 23
noncomputable def lQ:List Str:=["one", "other", "looked_at", "waiting", "here", "step"]
noncomputable def gT:Ic:=
 fK (eFn cW (aj (ah 4) (aJ)))
noncomputable def jo:Sm:=
 nO (iW (aH (IM true) (ah 5) (ah 2)))
 (aZ (bE (eFn cJ (aj (ah 5) (aj (ah 1) (aJ)))) (JQ (ah 2) (ah 5)))
 (nO (ji (aH EH (ah 2) (ah 5)))
 (j4 (HJ kI (ah 3) (aj (ah 5) (aJ))))
 (fX)))
 (fX)
noncomputable def jn:Te:=
 ji (ah 3)
noncomputable def jF:Sm:=
 aZ (bE (J1 JY (ah 3)) (bF 4))
 (gp (gT) (bF 5)
 (jo))
noncomputable def jR:Sm:=
 aZ (j4 (eFn cG (aj (ah 0) (aj (ah 1) (aJ)))))
 (aZ (j4 (eFn cP (aj (ah 0) (aj (ah 1) (aj (eC (.int 6)) (aj (eC (.int 9)) (aj (eC (.int 4)) (aJ))))))))
 (aZ (nO (zJ (ji (eFn cJ (aj (ah 0) (aj (ah 1) (aJ))))))
 (cF (jS (aJ)))
 (fX))
 (aZ (bE (Ay (ah 0) (eC (.bl true))) (bF 2))
 (aZ (bE (jS (aj (ah 0) (aJ))) (bF 3))
 (aZ (dH (jn)
 (jF) 1000000)
 (cF (aV (f1 kM) (aj (bW [none,none] (zU (ah 2)) (pO 2 (iI (bF 0) (iI (bF 1) (pQ)))) (ji (ah 1)) (ah 0)) (aJ)))))))))
noncomputable def eO:List A->aE->R A:=eK lQ jR
noncomputable abbrev gh:Stmt:=top 25
noncomputable def pY:List Str:=["_law_script", "_law_k", "_law_cell", "_law_state"]
noncomputable def mq:Sm:=
 aZ (bE (eC (.int 0)) (bF 2))
 (aZ (nO (iW (aH yd (ah 1) (aV (f1 eg) (aj (ah 0) (aJ)))))
 (bE (aV (f1 Ib) (aj (aH fG (ah 0) (ah 1)) (aJ))) (bF 2))
 (fX))
 (aZ (bE (aH b_ (eC (.int 1)) (aH kj (aH b_ (aH b_ (aH b_ (aH kj (ah 2) (eC (.int 2147483647))) (aH gq (aH gq (eC (.int 7919)) (ah 1)) (ah 1))) (aH gq (eC (.int 17)) (ah 1))) (eC (.int 3))) (eC (.int 2147483646)))) (bF 3))
 (cF (jS (aj (aH gq (ah 2) (aV (f1 n5) (aj (aH Kw (ah 2) (aH EC (eC (.int 10)) (eC (.int 18)))) (aJ)))) (aj (ah 3) (aJ)))))))
noncomputable def eX:List A->aE->R A:=eK pY mq
noncomputable abbrev dX:Stmt:=top 26
noncomputable def jE:List Str:=["_law_bag_here", "_law_many", "_law_found"]
noncomputable def gW:Sm:=
 aZ (nO (iW (aH Al (aH fG (ah 0) (eC (.int 0))) (eC (.int 0))))
 (aZ (bE (aH kj (aH fG (ah 0) (eC (.int 0))) (ah 1)) (bF 2))
 (aZ (bE (aH su (aH fG (ah 0) (eC (.int 0))) (ah 1)) (yM (ah 0) (eC (.int 0))))
 (cF (ah 2))))
 (fX))
 (aZ (bE (aH kj (aH gq (aH fG (ah 0) (eC (.int 1))) (eC (.int 48271))) (eC (.int 2147483647))) (yM (ah 0) (eC (.int 1))))
 (cF (aH kj (aH su (aH kj (aH gq (aH fG (ah 0) (eC (.int 1))) (aH b_ (aH su (aH fG (ah 0) (eC (.int 1))) (eC (.int 65536))) (eC (.int 9)))) (eC (.int 2147483629))) (eC (.int 32))) (ah 1))))
noncomputable def aR:List A->aE->R A:=eK jE gW
noncomputable abbrev gf:Stmt:=top 27
noncomputable def pU:List Str:=["_law_bag_here", "_law_n", "_law_left", "_law_found", "_law_at"]
noncomputable def jD:Te:=
 iW (aH Al (aV (f1 eg) (aj (ah 2) (aJ))) (eC (.int 0)))
noncomputable def jC:Sm:=
 aZ (bE (eFn aR (aj (ah 0) (aj (aV (f1 eg) (aj (ah 2) (aJ))) (aJ)))) (bF 4))
 (aZ (j4 (HJ kI (ah 3) (aj (aH fG (ah 2) (ah 4)) (aJ))))
 (bE (aH b_ (Kz (ah 2) wK (mW (ah 4))) (Kz (ah 2) (mW (aH b_ (ah 4) (eC (.int 1)))) wK)) (bF 2)))
noncomputable def mC:Sm:=
 aZ (bE (aV (f1 kR) (aj (aV (f2 nL) (aj (eC (.int 1)) (aj (aH b_ (ah 1) (eC (.int 1))) (aJ)))) (aJ))) (bF 2))
 (aZ (bE (jS (aJ)) (bF 3))
 (aZ (dH (jD)
 (jC) 1000000)
 (cF (aV (f1 iY) (aj (ah 3) (aJ))))))
noncomputable def fZ:List A->aE->R A:=eK pU mC
noncomputable abbrev dR:Stmt:=top 28
noncomputable def mP:List Str:=["_law_bag_here", "_law_n", "_law_way", "_law_found", "_law_k", "_law_i", "_law_j"]
noncomputable def jW:Ic:=
 gY (eFn aR (aj (ah 0) (aj (eC (.int 7)) (aJ))))
noncomputable def iu:Sm:=
 aZ (bE (eFn aR (aj (ah 0) (aj (ah 1) (aJ)))) (bF 5))
 (aZ (bE (eFn aR (aj (ah 0) (aj (ah 1) (aJ)))) (bF 6))
 (bE (fM (aj (aH fG (ah 3) (ah 6)) (aj (aH fG (ah 3) (ah 5)) (aJ)))) (pO 2 (iI (yM (ah 3) (ah 5)) (iI (yM (ah 3) (ah 6)) (pQ))))))
noncomputable def jA:Sm:=
 aZ (bE (eFn aR (aj (ah 0) (aj (eC (.int 4)) (aJ)))) (bF 2))
 (aZ (nO (iW (aH Al (ah 2) (eC (.int 1))))
 (cF (eFn fZ (aj (ah 0) (aj (ah 1) (aJ)))))
 (fX))
 (aZ (bE (aV (f1 kR) (aj (aV (f2 nL) (aj (eC (.int 1)) (aj (aH b_ (ah 1) (eC (.int 1))) (aJ)))) (aJ))) (bF 3))
 (aZ (nO (iW (aH (qE false) (ah 2) (eC (.int 1))))
 (bE (MJ CA (ah 3)) (bF 3))
 (fX))
 (aZ (gp (jW) (bF 4)
 (iu))
 (cF (aV (f1 iY) (aj (ah 3) (aJ))))))))
noncomputable def dg:List A->aE->R A:=eK mP jA
noncomputable abbrev dj:Stmt:=top 29
noncomputable def kZ:List Str:=["_law_bag_here", "_law_order_here", "_law_most", "_law_found", "_law_turn", "_law_i", "_law_j"]
noncomputable def nV:Ic:=
 gY (eFn aR (aj (ah 0) (aj (aH b_ (ah 2) (eC (.int 1))) (aJ))))
noncomputable def jB:Sm:=
 aZ (bE (eFn aR (aj (ah 0) (aj (aV (f1 eg) (aj (ah 3) (aJ))) (aJ)))) (bF 5))
 (aZ (bE (eFn aR (aj (ah 0) (aj (aV (f1 eg) (aj (ah 3) (aJ))) (aJ)))) (bF 6))
 (aZ (Jz 5 6 (aj (aV (f2 vZ) (aj (ah 5) (aj (ah 6) (aJ)))) (aj (aV (f2 wz) (aj (ah 5) (aj (ah 6) (aJ)))) (aJ))))
 (nO (iW (aH yd (aH fG (ah 3) (ah 5)) (aH fG (ah 3) (ah 6))))
 (bE (fM (aj (aH fG (ah 3) (ah 6)) (aj (aH fG (ah 3) (ah 5)) (aJ)))) (pO 2 (iI (yM (ah 3) (ah 5)) (iI (yM (ah 3) (ah 6)) (pQ)))))
 (fX))))
noncomputable def iX:Sm:=
 aZ (bE (aV (f1 kR) (aj (ah 1) (aJ))) (bF 3))
 (aZ (gp (nV) (bF 4)
 (jB))
 (cF (aV (f1 iY) (aj (ah 3) (aJ)))))
noncomputable def dm:List A->aE->R A:=eK kZ iX
noncomputable abbrev eL:Stmt:=top 30
noncomputable def oZ:List Str:=["_law_bag_here", "_law_n", "_law_one", "_law_way", "_law_other"]
noncomputable def ki:Sm:=
 aZ (bE (eFn dg (aj (ah 0) (aj (ah 1) (aJ)))) (bF 2))
 (aZ (bE (eFn aR (aj (ah 0) (aj (eC (.int 5)) (aJ)))) (bF 3))
 (aZ (nO (iW (aH (qE false) (ah 3) (eC (.int 0))))
 (cF (fM (aj (ah 2) (aj (eFn dg (aj (ah 0) (aj (ah 1) (aJ)))) (aJ)))))
 (fX))
 (aZ (nO (iW (aH (qE false) (ah 3) (eC (.int 1))))
 (cF (fM (aj (ah 2) (aj (ah 2) (aJ)))))
 (fX))
 (aZ (bE (eFn dm (aj (ah 0) (aj (ah 2) (aj (aH fG (jS (aj (eC (.int 2)) (aj (eC (.int 6)) (aj (eC (.int 20)) (aJ))))) (eFn aR (aj (ah 0) (aj (eC (.int 3)) (aJ))))) (aJ))))) (bF 4))
 (aZ (nO (iW (aH (qE false) (ah 3) (eC (.int 2))))
 (cF (fM (aj (ah 4) (aj (ah 2) (aJ)))))
 (fX))
 (cF (fM (aj (ah 2) (aj (ah 4) (aJ))))))))))
noncomputable def dM:List A->aE->R A:=eK oZ ki
noncomputable abbrev gb:Stmt:=top 31
noncomputable def qg:List Str:=["_law_one", "_law_other", "_law_n", "_law_here", "_law_there", "_law_i", "_law_j"]
noncomputable def gZ:Ic:=
 gz (eC (.int 1)) (aH b_ (ah 2) (eC (.int 1)))
noncomputable def gQ:Sm:=
 aZ (bE (aH b_ (aH fG (ah 3) (ah 6)) (aV (f1 n5) (aj (aH Kw (aH fG (ah 0) (ah 5)) (ah 6)) (aJ)))) (yM (ah 3) (ah 6)))
 (aZ (bE (aH b_ (aH fG (ah 4) (ah 6)) (aV (f1 n5) (aj (aH Kw (aH fG (ah 1) (ah 5)) (ah 6)) (aJ)))) (yM (ah 4) (ah 6)))
 (nO (iW (aH Al (aH fG (ah 3) (ah 6)) (aH fG (ah 4) (ah 6))))
 (cF (fM (aj (aH b_ (ah 5) (eC (.int 1))) (aj (ah 6) (aJ)))))
 (fX)))
noncomputable def mR:Ic:=
 gY (ah 2)
noncomputable def jw:Sm:=
 gp (gZ) (bF 6)
 (gQ)
noncomputable def lN:Sm:=
 aZ (bE (aV (f1 eg) (aj (ah 0) (aJ))) (bF 2))
 (aZ (bE (aH gq (jS (aj (eC (.int 0)) (aJ))) (aH b_ (ah 2) (eC (.int 2)))) (bF 3))
 (aZ (bE (aH gq (jS (aj (eC (.int 0)) (aJ))) (aH b_ (ah 2) (eC (.int 2)))) (bF 4))
 (aZ (gp (mR) (bF 5)
 (jw))
 (cF (eC .non)))))
noncomputable def bL:List A->aE->R A:=eK qg lN
noncomputable abbrev dQ:Stmt:=top 32
noncomputable def mX:List Str:=["_law_order_here", "_law_n", "_law_found", "_law_i"]
noncomputable def jV:Ic:=
 gY (ah 1)
noncomputable def j6:Sm:=
 j4 (HJ nh (ah 2) (aj (bW [none,some 3,some 0] (gz (aH b_ (ah 3) (eC (.int 1))) (ah 1)) (bF 0) (iW (aH Al (aH fG (ah 2) (ah 1)) (aH fG (ah 2) (ah 0)))) (fM (aj (aH b_ (ah 1) (eC (.int 1))) (aj (aH b_ (ah 0) (eC (.int 1))) (aJ))))) (aJ)))
noncomputable def jq:Sm:=
 aZ (bE (aV (f1 eg) (aj (ah 0) (aJ))) (bF 1))
 (aZ (bE (jS (aJ)) (bF 2))
 (aZ (gp (jV) (bF 3)
 (j6))
 (cF (ah 2))))
noncomputable def cI:List A->aE->R A:=eK mX jq
noncomputable abbrev gc:Stmt:=top 33
noncomputable def qu:List Str:=["_law_n", "_law_found", "_law_k", "_law_wider", "_law_one"]
noncomputable def mV:Ic:=
 fK (ah 1)
noncomputable def jy:Sm:=
 j4 (HJ nh (ah 3) (aj (bW [none,some 4] (gz (eC (.int 1)) (aH b_ (ah 0) (eC (.int 1)))) (bF 0) (iW (aH (Mm true) (ah 0) (ah 1))) (aH b_ (ah 1) (fM (aj (ah 0) (aJ))))) (aJ)))
noncomputable def mQ:Ic:=
 gY (ah 0)
noncomputable def mL:Sm:=
 aZ (bE (jS (aJ)) (bF 3))
 (aZ (gp (mV) (bF 4)
 (jy))
 (bE (ah 3) (bF 1)))
noncomputable def lI:Sm:=
 aZ (bE (jS (aj (fM (aJ)) (aJ))) (bF 1))
 (aZ (gp (mQ) (bF 2)
 (mL))
 (cF (ah 1)))
noncomputable def dS:List A->aE->R A:=eK qu lI
noncomputable abbrev fh:Stmt:=top 34
noncomputable def ow:List Str:=["_law_one", "_law_other", "_law_due", "_law_some", "_law_turn", "_law_found", "_law_order_here", "_law_odd"]
noncomputable def kK:Ic:=
 fK (ah 5)
noncomputable def iM:Sm:=
 nO (Kv (zJ (ji (aV (f2 z7) (aj (ah 6) (aj (eC (.ty "tuple")) (aJ)))))) (ji (aV (f1 A3) (aj (bW [none] (fK (ah 6)) (bF 0) (pN) (aV (f2 z7) (aj (ah 0) (aj (eC (.ty "bool")) (aJ))))) (aJ)))))
 (cF (eC (.bl false)))
 (fX)
noncomputable def kW:Ic:=
 gY (eC (.int 2))
noncomputable def kD:Sm:=
 aZ (bE (eFn eO (aj (ah 0) (aj (ah 1) (aJ)))) (bF 5))
 (aZ (nO (Kv (zJ (ji (aV (f2 z7) (aj (ah 5) (aj (eC (.ty "list")) (aJ)))))) (iW (aH (qE true) (ah 5) (ah 2))))
 (cF (eC (.bl false)))
 (fX))
 (aZ (gp (kK) (bF 6)
 (iM))
 (j4 (HJ kI (ah 5) (aj (eC .non) (aJ))))))
noncomputable def j8:Sm:=
 aZ (bE (jS (aJ)) (bF 2))
 (aZ (nO (iW (aH (qV false) (eFn bL (aj (ah 0) (aj (ah 1) (aJ)))) (eC .non)))
 (aZ (bE (bW [none,some 0] (fK (eFn dS (aj (aV (f1 eg) (aj (ah 0) (aJ))) (aJ)))) (bF 0) (iW (aH (qV false) (eFn bL (aj (ah 1) (aj (ah 0) (aJ)))) (eC .non))) (ah 0)) (bF 3))
 (bE (bW [none,some 1] (fK (ah 3)) (bF 0) (iW (aH (qV false) (eFn bL (aj (ah 0) (aj (ah 1) (aJ)))) (eC .non))) (ah 0)) (bF 2)))
 (fX))
 (aZ (gp (kW) (bF 4)
 (kD))
 (aZ (bE (aV (f1 eg) (aj (bW [none] (fK (ah 2)) (bF 0) (iW (aH (qE false) (aH kj (aV (f1 eg) (aj (eFn cI (aj (ah 0) (aJ))) (aJ))) (eC (.int 2))) (eC (.int 1)))) (ah 0)) (aJ))) (bF 7))
 (cF (Ms (aH (qE false) (ah 0) (ah 1)) (aH (qE false) (aH gq (eC (.int 2)) (ah 7)) (aV (f1 eg) (aj (ah 2) (aJ)))))))))
noncomputable def di:List A->aE->R A:=eK ow j8
noncomputable abbrev lH:Stmt:=top 35
noncomputable def Ht:List Str:=["_law_script", "_law_bag_here", "_law_one", "_law_other"]
noncomputable def CD:Sm:=
 aZ (bE (eFn eX (aj (ah 0) (aj (eC (.int 0)) (aJ)))) (bF 1))
 (aZ (bE (eFn dM (aj (ah 1) (aj (aH fG (jS (aj (eC (.int 1)) (aj (eC (.int 2)) (aj (eC (.int 3)) (aj (eC (.int 4)) (aj (eC (.int 4)) (aj (eC (.int 5)) (aj (eC (.int 5)) (aj (eC (.int 6)) (aJ)))))))))) (eFn aR (aj (ah 1) (aj (eC (.int 8)) (aJ))))) (aJ)))) (pO 2 (iI (bF 2) (iI (bF 3) (pQ)))))
 (aZ (nO (zJ (ji (eFn di (aj (ah 2) (aj (ah 3) (aJ))))))
 (cF (eC (.bl false)))
 (fX))
 (aZ (bE (eFn eX (aj (ah 0) (aj (eC (.int 1)) (aJ)))) (bF 1))
 (aZ (bE (eFn dM (aj (ah 1) (aj (aH b_ (eC (.int 1)) (eFn aR (aj (ah 1) (aj (eC (.int 4)) (aJ))))) (aJ)))) (pO 2 (iI (bF 2) (iI (bF 3) (pQ)))))
 (cF (Fp (eFn di (aj (ah 2) (aj (ah 3) (aJ)))) (eFn di (aj (ah 3) (aj (ah 2) (aJ))))))))))
noncomputable def qF:List A->aE->R A:=eK Ht CD
section
variable {P:Program} {w:World} {K:PySem.W.Frag} {mg:Str->Option Value} {base:Heap}
theorem rX:FnScope ["one", "other"] ["one", "other"] (aI dZ):=⟨rfl,rfl,rfl,by decide +kernel,rfl,by decide +kernel,by decide +kernel⟩
theorem qS {f:Addr} {fd:FuncData} (F:Fun K "need_pair" "need_pair" dZ f fd) (b_len:mg "len" = none):FnOk P w K mg base jL 1 f fd ["one", "other"] (kB K 2 cG):=nj (m:=jj) F rX fun cdv B outer s H E hr=>
 aM (d7 (bP (L6 hr.units) (aT dY b_len cE (af (aa 0) (aA))) (aT dY b_len cE (af (aa 1) (aA))))
 (aM (G7))
 (bR))
theorem fL:FnScope ["order", "i", "j", "things"] ["order", "i", "j"] (aI bM):=⟨rfl,rfl,rfl,by decide +kernel,rfl,by decide +kernel,by decide +kernel⟩
theorem jU {f:Addr} {fd:FuncData} (F:Fun K "exchanged_places" "exchanged_places" bM f fd) (b_list:mg "list" = none) (b_tuple:mg "tuple" = none):FnOk P w K mg base jL 1 f fd ["order", "i", "j"] (kB K 3 bu):=nj (m:=dN) F fL fun cdv B outer s H E hr=>
 aC (a_ (i:=3) fL.nd (cD (rA rfl) b_list lG (af (aa 0) (aA))))
 (aC (g7 (dP (af (bJ (aa 3) (aO gu (aa 2) (aG))) (af (bJ (aa 3) (aO gu (aa 1) (aG))) (aA)))) (iQ rfl (bI (h_ (aa 3) (aO gu (aa 1) (aG))) (bI (h_ (aa 3) (aO gu (aa 2) (aG))) (fV)))))
 (aM (bB (cD (nJ rfl) b_tuple jx (af (aa 3) (aA))))))
theorem n6:FnScope ["n"] ["n"] (aI cR):=⟨rfl,rfl,rfl,by decide +kernel,rfl,by decide +kernel,by decide +kernel⟩
theorem oK {f:Addr} {fd:FuncData} (F:Fun K "place_pairs" "place_pairs" cR f fd) (b_range:mg "range" = none):FnOk P w K mg base jL 1 f fd ["n"] (kB K 1 bN):=nj (m:=iw) F n6 fun cdv B outer s H E hr=>
 aM (bB (Bh (N:=["i", "j", "n"]) (cap:=[none,none,some 0]) rfl (iZ ["n"] rfl (by decide +kernel) (by decide +kernel) (by decide +kernel) (by decide +kernel) (by decide +kernel) (List.forall_mem_cons.mpr ⟨by first | exact Or.inl rfl | exact Or.inr rfl,(fun _ h=>nomatch h)⟩) ⟨rfl,by decide +kernel,trivial⟩) (iC b_range (aG) (aa 0)) (fun _ _ _ _=>aY (i:=0) (show (["i", "j", "n"]:List Str).Nodup by decide +kernel) rfl (Or.inl rfl) (.inr rfl)) (fun _ _ _ _=>nG) (fun _ _ _ _=>iC b_range (aO cO (aa 0) (aG)) (aO cO (aa 2) (aG))) (fun _ _ _ _=>aY (i:=1) (show (["i", "j", "n"]:List Str).Nodup by decide +kernel) rfl (Or.inl rfl) (.inr rfl)) (fun _ _ _ _=>nG) (fun _ _ _ _=>dP (af (aa 0) (af (aa 1) (aA))))))
theorem oi:FnScope ["order"] ["order"] (aI cV):=⟨rfl,rfl,rfl,by decide +kernel,rfl,by decide +kernel,by decide +kernel⟩
theorem oU {f:Addr} {fd:FuncData} (F:Fun K "wrong_pairs" "wrong_pairs" cV f fd) (b_len:mg "len" = none) (G_place_pairs:fq P w K mg base 1 "place_pairs" ["n"] bN):FnOk P w K mg base jL 2 f fd ["order"] (kB K 1 fj):=nj (m:=jY) F oi fun cdv B outer s H E hr=>
 aM (bB (fU (N:=["i", "j", "order"]) (cap:=[none,none,some 0]) rfl (iZ ["order"] rfl (by decide +kernel) (by decide +kernel) (by decide +kernel) (by decide +kernel) (by decide +kernel) (List.forall_mem_cons.mpr ⟨by first | exact Or.inl rfl | exact Or.inr rfl,(fun _ h=>nomatch h)⟩) ⟨rfl,by decide +kernel,trivial⟩) (gF (bz G_place_pairs (hr.mono (by decide)) (af (aT dY b_len cE (af (aa 0) (aA))) (aA)) (au aQ))) (fun _ _ _ _=>iQ rfl (bI (aY (i:=0) (show (["i", "j", "order"]:List Str).Nodup by decide +kernel) rfl (Or.inl rfl) (.inr rfl)) (bI (aY (i:=1) (show (["i", "j", "order"]:List Str).Nodup by decide +kernel) rfl (Or.inl rfl) (.inr rfl)) (fV)))) (fun _ _ _ _=>fP (bP (rE hr.units) (bJ (aa 2) (aO gu (aa 0) (aG))) (bJ (aa 2) (aO gu (aa 1) (aG))))) (fun _ _ _ _=>dP (af (aa 0) (af (aa 1) (aA))))))
theorem zq:FnScope ["order"] ["order"] (aI iE):=⟨rfl,rfl,rfl,by decide +kernel,rfl,by decide +kernel,by decide +kernel⟩
theorem zV {f:Addr} {fd:FuncData} (F:Fun K "length" "length" iE f fd) (b_len:mg "len" = none) (G_wrong_pairs:fq P w K mg base 2 "wrong_pairs" ["order"] fj):FnOk P w K mg base jL 3 f fd ["order"] (kB K 1 jz):=nj (m:=sN) F zq fun cdv B outer s H E hr=>
 aM (bB (aT dY b_len cE (af (bz G_wrong_pairs (hr.mono (by decide)) (af (aa 0) (aA)) (au aQ)) (aA))))
theorem cX:FnScope ["numbers", "place"] ["numbers"] (aI bD):=⟨rfl,rfl,rfl,by decide +kernel,rfl,by decide +kernel,by decide +kernel⟩
theorem jc {f:Addr} {fd:FuncData} (F:Fun K "first_above_nought" "first_above_nought" bD f fd):FnOk P w K mg base jL 1 f fd ["numbers"] (kB K 1 bC):=nj (m:=dh) F cX fun cdv B outer s H E hr=>
 aC (a_ (i:=1) cX.nd (aG))
 (aC (pJ 1000000 PassesOwn.never (bP Lu (bJ (aa 0) (aO gu (aa 1) (aG))) (aG))
 (aM (Ko (i:=1) cX.nd (aG) w_)))
 (aM (bB (aa 1))))
theorem pI:FnScope ["one", "other", "more", "at", "j"] ["one", "other"] (aI p8):=⟨rfl,rfl,rfl,by decide +kernel,rfl,by decide +kernel,by decide +kernel⟩
theorem IK {f:Addr} {fd:FuncData} (F:Fun K "bar" "bar" p8 f fd) (b_len:mg "len" = none) (b_range:mg "range" = none) (b_max:mg "max" = none) (G_need_pair:fq P w K mg base 1 "need_pair" ["one", "other"] cG) (G_first_above_nought:fq P w K mg base 1 "first_above_nought" ["numbers"] bC):FnOk P w K mg base jL 2 f fd ["one", "other"] (kB K 2 pC):=nj (m:=Bo) F pI fun cdv B outer s H E hr=>
 aC (gR (bz G_need_pair (hr.mono (by decide)) (af (aa 0) (af (aa 1) (aA))) (au (au aQ))))
 (aC (a_ (i:=2) pI.nd (aO j5 (ff (af (aG) (aA))) (aT dY b_len cE (af (aa 0) (aA)))))
 (aC (eV PassesOwn.never rfl (dw b_range (aT dY b_len cE (af (aa 0) (aA)))) (aY (i:=3) pI.nd)
 (aC (eV PassesOwn.never rfl (dw b_range (bJ (aa 0) (aa 3))) (aY (i:=4) pI.nd)
 (aM (w6 (aa 2) (aa 4) (aG) w_)))
 (aC (eV PassesOwn.never rfl (dw b_range (bJ (aa 1) (aa 3))) (aY (i:=4) pI.nd)
 (aM (w6 (aa 2) (aa 4) (aG) EW)))
 (aM (d7 (bP (rE hr.units) (aT (JT rfl) b_max vm (af (aa 2) (aA))) (aG))
 (aM (bB (dP (af (aO cO (aa 3) (aG)) (af (bz G_first_above_nought (hr.mono (by decide)) (af (aa 2) (aA)) (au aQ)) (aA))))))
 (bR))))))
 (aM (bB (j7)))))
theorem uB:FnScope ["one", "other"] ["one", "other"] (aI eZ):=⟨rfl,rfl,rfl,by decide +kernel,rfl,by decide +kernel,by decide +kernel⟩
theorem uA {f:Addr} {fd:FuncData} (F:Fun K "is_below" "is_below" eZ f fd) (G_bar:fq P w K mg base 2 "bar" ["one", "other"] pC):FnOk P w K mg base jL 3 f fd ["one", "other"] (kB K 2 cJ):=nj (m:=iU) F uB fun cdv B outer s H E hr=>
 aM (bB (mH Gb (bz G_bar (hr.mono (by decide)) (af (aa 0) (af (aa 1) (aA))) (au (au aQ))) (j7)))
theorem pF:FnScope ["one", "other", "free_things", "most_things", "most_pairs"] ["one", "other", "free_things", "most_things", "most_pairs"] (aI cT):=⟨rfl,rfl,rfl,by decide +kernel,rfl,by decide +kernel,by decide +kernel⟩
theorem oY {f:Addr} {fd:FuncData} (F:Fun K "need_bounds" "need_bounds" cT f fd) (b_len:mg "len" = none) (G_length:fq P w K mg base 3 "length" ["order"] jz):FnOk P w K mg base jL 4 f fd ["one", "other", "free_things", "most_things", "most_pairs"] (kB K 5 cP):=nj (m:=g8) F pF fun cdv B outer s H E hr=>
 aC (d7 (bP Lu (aT dY b_len cE (af (aa 0) (aA))) (aa 2))
 (aM (Es))
 (bR))
 (aM (d7 (AW.at (Dm (bP (rE hr.units) (aT dY b_len cE (af (aa 0) (aA))) (aa 3)) (vM (bP (rE hr.units) (aO gu (bz G_length (hr.mono (by decide)) (af (aa 1) (aA)) (au aQ)) (bz G_length (hr.mono (by decide)) (af (aa 0) (aA)) (au aQ))) (aa 4)))))
 (aM (G7))
 (bR)))
theorem ko:FnScope ["order", "i", "j", "low", "high"] ["order", "i", "j"] (aI gg):=⟨rfl,rfl,rfl,by decide +kernel,rfl,by decide +kernel,by decide +kernel⟩
theorem vH {f:Addr} {fd:FuncData} (F:Fun K "is_step" "is_step" gg f fd) (b_min:mg "min" = none) (b_max:mg "max" = none) (b_any:mg "any" = none):FnOk P w K mg base jL 1 f fd ["order", "i", "j"] (kB K 3 dW):=nj (m:=lZ) F ko fun cdv B outer s H E hr=>
 aC (a_ (i:=3) ko.nd (aT (Bu rfl) b_min Dk (af (bJ (aa 0) (aO gu (aa 1) (aG))) (af (bJ (aa 0) (aO gu (aa 2) (aG))) (aA)))))
 (aC (a_ (i:=4) ko.nd (aT (DO rfl) b_max vm (af (bJ (aa 0) (aO gu (aa 1) (aG))) (af (bJ (aa 0) (aO gu (aa 2) (aG))) (aA)))))
 (aM (bB (Jh (aT (Hz rfl) b_any CY (af (fU (N:=["thing", "low", "high"]) (cap:=[none,some 3,some 4]) rfl (iZ ["low", "high"] rfl (by decide +kernel) (by decide +kernel) (by decide +kernel) (by decide +kernel) (by decide +kernel) (List.forall_mem_cons.mpr ⟨by first | exact Or.inl rfl | exact Or.inr rfl,(List.forall_mem_cons.mpr ⟨by first | exact Or.inl rfl | exact Or.inr rfl,(fun _ h=>nomatch h)⟩)⟩) ⟨rfl,by decide +kernel,⟨rfl,by decide +kernel,trivial⟩⟩) (gF (B7 (aa 0) (nN (aa 1)) (nN (aO gu (aa 2) (aG))))) (fun _ _ _ _=>aY (i:=0) (show (["thing", "low", "high"]:List Str).Nodup by decide +kernel) rfl (Or.inl rfl) (.inr rfl)) (fun _ _ _ _=>nG) (fun _ _ _ _=>Lh (Cr hr.units) (Cr hr.units) (aa 1) (aa 0) (aa 2))) (aA)))))))
theorem CO:FnScope ["order", "pairs"] ["order", "pairs"] (aI jJ):=⟨rfl,rfl,rfl,by decide +kernel,rfl,by decide +kernel,by decide +kernel⟩
theorem CM {f:Addr} {fd:FuncData} (F:Fun K "steps" "steps" jJ f fd) (b_sorted:mg "sorted" = none) (G_is_step:fq P w K mg base 1 "is_step" ["order", "i", "j"] dW) (G_exchanged_places:fq P w K mg base 1 "exchanged_places" ["order", "i", "j"] bu):FnOk P w K mg base jL 2 f fd ["order", "pairs"] (kB K 2 jO):=nj (m:=rm) F CO fun cdv B outer s H E hr=>
 aM (bB (aT CP b_sorted qt (af (fU (N:=["i", "j", "order"]) (cap:=[none,none,some 0]) rfl (iZ ["order"] rfl (by decide +kernel) (by decide +kernel) (by decide +kernel) (by decide +kernel) (by decide +kernel) (List.forall_mem_cons.mpr ⟨by first | exact Or.inl rfl | exact Or.inr rfl,(fun _ h=>nomatch h)⟩) ⟨rfl,by decide +kernel,trivial⟩) (gF (aa 1)) (fun _ _ _ _=>iQ rfl (bI (aY (i:=0) (show (["i", "j", "order"]:List Str).Nodup by decide +kernel) rfl (Or.inl rfl) (.inr rfl)) (bI (aY (i:=1) (show (["i", "j", "order"]:List Str).Nodup by decide +kernel) rfl (Or.inl rfl) (.inr rfl)) (fV)))) (fun _ _ _ _=>fP (iP (bz G_is_step (hr.mono (by decide)) (af (aa 2) (af (aa 0) (af (aa 1) (aA)))) (au (au (au aQ)))))) (fun _ _ _ _=>bz G_exchanged_places (hr.mono (by decide)) (af (aa 2) (af (aa 0) (af (aa 1) (aA)))) (au (au (au aQ))))) (aA))))
theorem oN:FnScope ["order"] ["order"] (aI cS):=⟨rfl,rfl,rfl,by decide +kernel,rfl,by decide +kernel,by decide +kernel⟩
theorem o7 {f:Addr} {fd:FuncData} (F:Fun K "steps_above" "steps_above" cS f fd) (b_len:mg "len" = none) (G_steps:fq P w K mg base 2 "steps" ["order", "pairs"] jO) (G_place_pairs:fq P w K mg base 1 "place_pairs" ["n"] bN):FnOk P w K mg base jL 3 f fd ["order"] (kB K 1 cW):=nj (m:=g_) F oN fun cdv B outer s H E hr=>
 aM (bB (bz G_steps (hr.mono (by decide)) (af (aa 0) (af (fU (N:=["i", "j", "order"]) (cap:=[none,none,some 0]) rfl (iZ ["order"] rfl (by decide +kernel) (by decide +kernel) (by decide +kernel) (by decide +kernel) (by decide +kernel) (List.forall_mem_cons.mpr ⟨by first | exact Or.inl rfl | exact Or.inr rfl,(fun _ h=>nomatch h)⟩) ⟨rfl,by decide +kernel,trivial⟩) (gF (bz G_place_pairs (hr.mono (by decide)) (af (aT dY b_len cE (af (aa 0) (aA))) (aA)) (au aQ))) (fun _ _ _ _=>iQ rfl (bI (aY (i:=0) (show (["i", "j", "order"]:List Str).Nodup by decide +kernel) rfl (Or.inl rfl) (.inr rfl)) (bI (aY (i:=1) (show (["i", "j", "order"]:List Str).Nodup by decide +kernel) rfl (Or.inl rfl) (.inr rfl)) (fV)))) (fun _ _ _ _=>fP (bP (Cr hr.units) (bJ (aa 2) (aO gu (aa 0) (aG))) (bJ (aa 2) (aO gu (aa 1) (aG))))) (fun _ _ _ _=>dP (af (aa 0) (af (aa 1) (aA))))) (aA))) (au (au aQ))))
theorem gK:FnScope ["one", "other", "looked_at", "waiting", "here", "step"] ["one", "other"] (aI f_):=⟨rfl,rfl,rfl,by decide +kernel,rfl,by decide +kernel,by decide +kernel⟩
theorem vJ {f:Addr} {fd:FuncData} (F:Fun K "between" "between" f_ f fd) (b_sorted:mg "sorted" = none) (g_MOST_CLIMBED_PAIRS:∃ t,mg "MOST_CLIMBED_PAIRS" = some (.int 4 t)) (g_MOST_CLIMBED_THINGS:∃ t,mg "MOST_CLIMBED_THINGS" = some (.int 9 t)) (g_MOST_THINGS:∃ t,mg "MOST_THINGS" = some (.int 6 t)) (G_need_pair:fq P w K mg base 1 "need_pair" ["one", "other"] cG) (G_need_bounds:fq P w K mg base 4 "need_bounds" ["one", "other", "free_things", "most_things", "most_pairs"] cP) (G_is_below:fq P w K mg base 3 "is_below" ["one", "other"] cJ) (G_steps_above:fq P w K mg base 3 "steps_above" ["order"] cW):FnOk P w K mg base jL 5 f fd ["one", "other"] (kB K 2 eO):=nj (m:=jR) F gK fun cdv B outer s H E hr=>
 aC (gR (bz G_need_pair (hr.mono (by decide)) (af (aa 0) (af (aa 1) (aA))) (au (au aQ))))
 (aC (gR (bz G_need_bounds (hr.mono (by decide)) (af (aa 0) (af (aa 1) (af (nU g_MOST_THINGS.choose_spec) (af (nU g_MOST_CLIMBED_THINGS.choose_spec) (af (nU g_MOST_CLIMBED_PAIRS.choose_spec) (aA)))))) (au (au (au (au (au aQ)))))))
 (aC (d7 (rq (iP (bz G_is_below (hr.mono (by decide)) (af (aa 0) (af (aa 1) (aA))) (au (au aQ)))))
 (aM (bB (ff (aA))))
 (bR))
 (aC (a_ (i:=2) gK.nd (Fg hr.units (aa 0) (yX)))
 (aC (a_ (i:=3) gK.nd (ff (af (aa 0) (aA))))
 (aC (pJ 1000000 PassesOwn.never (iP (aa 3))
 (aC (a_ (i:=4) gK.nd (JS PySem.F.slot_list_pop PySem.F.type_list_pop LD (aa 3)))
 (aM (eV PassesOwn.never rfl (gF (bz G_steps_above (hr.mono (by decide)) (af (aa 4) (aA)) (au aQ))) (aY (i:=5) gK.nd)
 (aM (d7 (bP (DT hr.units) (aa 5) (aa 2))
 (aC (g7 (bz G_is_below (hr.mono (by decide)) (af (aa 5) (af (aa 1) (aA))) (au (au aQ))) (EV hr.units (aa 2) (aa 5)))
 (aM (d7 (iP (Kg hr.units (aa 2) (aa 5)))
 (aM (gR (sS PySem.F.slot_list_append PySem.F.type_list_append oB (aa 3) (af (aa 5) (aA)))))
 (bR))))
 (bR)))))))
 (aM (bB (aT CP b_sorted qt (af (fU (N:=["order", "is_between"]) (cap:=[none,none]) rfl (iZ [] rfl (by decide +kernel) (by decide +kernel) (by decide +kernel) (by decide +kernel) (by decide +kernel) (fun _ h=>nomatch h) trivial) (CL (aa 2)) (fun _ _ _ _=>iQ rfl (bI (aY (i:=0) (show (["order", "is_between"]:List Str).Nodup by decide +kernel) rfl (Or.inl rfl) (.inr rfl)) (bI (aY (i:=1) (show (["order", "is_between"]:List Str).Nodup by decide +kernel) rfl (Or.inl rfl) (.inr rfl)) (fV)))) (fun _ _ _ _=>fP (iP (aa 1))) (fun _ _ _ _=>aa 0)) (aA))))))))))
theorem iJ:FnScope ["_law_script", "_law_k", "_law_cell", "_law_state"] ["_law_script", "_law_k"] (aI gh):=⟨rfl,rfl,rfl,by decide +kernel,rfl,by decide +kernel,by decide +kernel⟩
theorem u_ {f:Addr} {fd:FuncData} (F:Fun K "_law_bag" "_law_bag" gh f fd) (b_len:mg "len" = none) (b_abs:mg "abs" = none) (b_int:mg "int" = none):FnOk P w K mg base jL 1 f fd ["_law_script", "_law_k"] (kB K 2 eX):=nj (m:=mq) F iJ fun cdv B outer s H E hr=>
 aC (a_ (i:=2) iJ.nd (aG))
 (aC (d7 (bP (Cr hr.units) (aa 1) (aT dY b_len cE (af (aa 0) (aA))))
 (aM (a_ (i:=2) iJ.nd (aT Ln b_abs Jq (af (bJ (aa 0) (aa 1)) (aA)))))
 (bR))
 (aC (a_ (i:=3) iJ.nd (aO cO (aG) (aO n9 (aO cO (aO cO (aO cO (aO n9 (aa 2) (aG)) (aO j5 (aO j5 (aG) (aa 1)) (aa 1))) (aO j5 (aG) (aa 1))) (aG)) (aG))))
 (aM (bB (ff (af (aO j5 (aa 2) (cD uP b_int vV (af (mH IC (aa 2) (aO LN (aG) (aG))) (aA)))) (af (aa 3) (aA))))))))
theorem kJ:FnScope ["_law_bag_here", "_law_many", "_law_found"] ["_law_bag_here", "_law_many"] (aI dX):=⟨rfl,rfl,rfl,by decide +kernel,rfl,by decide +kernel,by decide +kernel⟩
theorem qK {f:Addr} {fd:FuncData} (F:Fun K "_law_digit" "_law_digit" dX f fd):FnOk P w K mg base jL 1 f fd ["_law_bag_here", "_law_many"] (kB K 2 aR):=nj (m:=gW) F kJ fun cdv B outer s H E hr=>
 aC (d7 (bP (rE hr.units) (bJ (aa 0) (aG)) (aG))
 (aC (a_ (i:=2) kJ.nd (aO n9 (bJ (aa 0) (aG)) (aa 1)))
 (aC (g7 (aO vh (bJ (aa 0) (aG)) (aa 1)) (h_ (aa 0) (aG)))
 (aM (bB (aa 2)))))
 (bR))
 (aC (g7 (aO n9 (aO j5 (bJ (aa 0) (aG)) (aG)) (aG)) (h_ (aa 0) (aG)))
 (aM (bB (aO n9 (aO vh (aO n9 (aO j5 (bJ (aa 0) (aG)) (aO cO (aO vh (bJ (aa 0) (aG)) (aG)) (aG))) (aG)) (aG)) (aa 1)))))
theorem gD:FnScope ["_law_bag_here", "_law_n", "_law_left", "_law_found", "_law_at"] ["_law_bag_here", "_law_n"] (aI gf):=⟨rfl,rfl,rfl,by decide +kernel,rfl,by decide +kernel,by decide +kernel⟩
theorem uU {f:Addr} {fd:FuncData} (F:Fun K "_law_any" "_law_any" gf f fd) (b_list:mg "list" = none) (b_range:mg "range" = none) (b_len:mg "len" = none) (b_tuple:mg "tuple" = none) (G_law_digit:fq P w K mg base 1 "_law_digit" ["_law_bag_here", "_law_many"] aR):FnOk P w K mg base jL 2 f fd ["_law_bag_here", "_law_n"] (kB K 2 fZ):=nj (m:=mC) F gD fun cdv B outer s H E hr=>
 aC (a_ (i:=2) gD.nd (cD (rA rfl) b_list lG (af (cD sP b_range sE (af (aG) (af (aO cO (aa 1) (aG)) (aA)))) (aA))))
 (aC (a_ (i:=3) gD.nd (ff (aA)))
 (aC (pJ 1000000 PassesOwn.never (bP (rE hr.units) (aT dY b_len cE (af (aa 2) (aA))) (aG))
 (aC (a_ (i:=4) gD.nd (bz G_law_digit (hr.mono (by decide)) (af (aa 0) (af (aT dY b_len cE (af (aa 2) (aA))) (aA))) (au (au aQ))))
 (aC (gR (sS PySem.F.slot_list_append PySem.F.type_list_append oB (aa 3) (af (bJ (aa 2) (aa 4)) (aA))))
 (aM (a_ (i:=2) gD.nd (aO cO (B7 (aa 2) xR (nN (aa 4))) (B7 (aa 2) (nN (aO cO (aa 4) (aG))) xR)))))))
 (aM (bB (cD (nJ rfl) b_tuple jx (af (aa 3) (aA)))))))
theorem cK:FnScope ["_law_bag_here", "_law_n", "_law_way", "_law_found", "_law_k", "_law_i", "_law_j"] ["_law_bag_here", "_law_n"] (aI dR):=⟨rfl,rfl,rfl,by decide +kernel,rfl,by decide +kernel,by decide +kernel⟩
theorem rR {f:Addr} {fd:FuncData} (F:Fun K "_law_order" "_law_order" dR f fd) (b_list:mg "list" = none) (b_range:mg "range" = none) (b_tuple:mg "tuple" = none) (G_law_digit:fq P w K mg base 1 "_law_digit" ["_law_bag_here", "_law_many"] aR) (G_law_any:fq P w K mg base 2 "_law_any" ["_law_bag_here", "_law_n"] fZ):FnOk P w K mg base jL 3 f fd ["_law_bag_here", "_law_n"] (kB K 2 dg):=nj (m:=jA) F cK fun cdv B outer s H E hr=>
 aC (a_ (i:=2) cK.nd (bz G_law_digit (hr.mono (by decide)) (af (aa 0) (af (aG) (aA))) (au (au aQ))))
 (aC (d7 (bP (rE hr.units) (aa 2) (aG))
 (aM (bB (bz G_law_any (hr.mono (by decide)) (af (aa 0) (af (aa 1) (aA))) (au (au aQ)))))
 (bR))
 (aC (a_ (i:=3) cK.nd (cD (rA rfl) b_list lG (af (cD sP b_range sE (af (aG) (af (aO cO (aa 1) (aG)) (aA)))) (aA))))
 (aC (d7 (bP (vq hr.units) (aa 2) (aG))
 (aM (a_ (i:=3) cK.nd (JL (aa 3))))
 (bR))
 (aC (eV PassesOwn.never rfl (dw b_range (bz G_law_digit (hr.mono (by decide)) (af (aa 0) (af (aG) (aA))) (au (au aQ)))) (aY (i:=4) cK.nd)
 (aC (a_ (i:=5) cK.nd (bz G_law_digit (hr.mono (by decide)) (af (aa 0) (af (aa 1) (aA))) (au (au aQ))))
 (aC (a_ (i:=6) cK.nd (bz G_law_digit (hr.mono (by decide)) (af (aa 0) (af (aa 1) (aA))) (au (au aQ))))
 (aM (g7 (dP (af (bJ (aa 3) (aa 6)) (af (bJ (aa 3) (aa 5)) (aA)))) (iQ rfl (bI (h_ (aa 3) (aa 5)) (bI (h_ (aa 3) (aa 6)) (fV)))))))))
 (aM (bB (cD (nJ rfl) b_tuple jx (af (aa 3) (aA)))))))))
theorem cQ:FnScope ["_law_bag_here", "_law_order_here", "_law_most", "_law_found", "_law_turn", "_law_i", "_law_j"] ["_law_bag_here", "_law_order_here", "_law_most"] (aI dj):=⟨rfl,rfl,rfl,by decide +kernel,rfl,by decide +kernel,by decide +kernel⟩
theorem pT {f:Addr} {fd:FuncData} (F:Fun K "_law_raised" "_law_raised" dj f fd) (b_list:mg "list" = none) (b_range:mg "range" = none) (b_len:mg "len" = none) (b_max:mg "max" = none) (b_min:mg "min" = none) (b_tuple:mg "tuple" = none) (G_law_digit:fq P w K mg base 1 "_law_digit" ["_law_bag_here", "_law_many"] aR):FnOk P w K mg base jL 2 f fd ["_law_bag_here", "_law_order_here", "_law_most"] (kB K 3 dm):=nj (m:=iX) F cQ fun cdv B outer s H E hr=>
 aC (a_ (i:=3) cQ.nd (cD (rA rfl) b_list lG (af (aa 1) (aA))))
 (aC (eV PassesOwn.never rfl (dw b_range (bz G_law_digit (hr.mono (by decide)) (af (aa 0) (af (aO cO (aa 2) (aG)) (aA))) (au (au aQ)))) (aY (i:=4) cQ.nd)
 (aC (a_ (i:=5) cQ.nd (bz G_law_digit (hr.mono (by decide)) (af (aa 0) (af (aT dY b_len cE (af (aa 3) (aA))) (aA))) (au (au aQ))))
 (aC (a_ (i:=6) cQ.nd (bz G_law_digit (hr.mono (by decide)) (af (aa 0) (af (aT dY b_len cE (af (aa 3) (aA))) (aA))) (au (au aQ))))
 (aC (IJ (i:=5) (j:=6) rfl cQ.nd (af (aT (Bu rfl) b_min Dk (af (aa 5) (af (aa 6) (aA)))) (af (aT (DO rfl) b_max vm (af (aa 5) (af (aa 6) (aA)))) (aA))))
 (aM (d7 (bP (Cr hr.units) (bJ (aa 3) (aa 5)) (bJ (aa 3) (aa 6)))
 (aM (g7 (dP (af (bJ (aa 3) (aa 6)) (af (bJ (aa 3) (aa 5)) (aA)))) (iQ rfl (bI (h_ (aa 3) (aa 5)) (bI (h_ (aa 3) (aa 6)) (fV))))))
 (bR)))))))
 (aM (bB (cD (nJ rfl) b_tuple jx (af (aa 3) (aA))))))
theorem gU:FnScope ["_law_bag_here", "_law_n", "_law_one", "_law_way", "_law_other"] ["_law_bag_here", "_law_n"] (aI eL):=⟨rfl,rfl,rfl,by decide +kernel,rfl,by decide +kernel,by decide +kernel⟩
theorem uF {f:Addr} {fd:FuncData} (F:Fun K "_law_pair" "_law_pair" eL f fd) (G_law_order:fq P w K mg base 3 "_law_order" ["_law_bag_here", "_law_n"] dg) (G_law_digit:fq P w K mg base 1 "_law_digit" ["_law_bag_here", "_law_many"] aR) (G_law_raised:fq P w K mg base 2 "_law_raised" ["_law_bag_here", "_law_order_here", "_law_most"] dm):FnOk P w K mg base jL 4 f fd ["_law_bag_here", "_law_n"] (kB K 2 dM):=nj (m:=ki) F gU fun cdv B outer s H E hr=>
 aC (a_ (i:=2) gU.nd (bz G_law_order (hr.mono (by decide)) (af (aa 0) (af (aa 1) (aA))) (au (au aQ))))
 (aC (a_ (i:=3) gU.nd (bz G_law_digit (hr.mono (by decide)) (af (aa 0) (af (aG) (aA))) (au (au aQ))))
 (aC (d7 (bP (vq hr.units) (aa 3) (aG))
 (aM (bB (dP (af (aa 2) (af (bz G_law_order (hr.mono (by decide)) (af (aa 0) (af (aa 1) (aA))) (au (au aQ))) (aA))))))
 (bR))
 (aC (d7 (bP (vq hr.units) (aa 3) (aG))
 (aM (bB (dP (af (aa 2) (af (aa 2) (aA))))))
 (bR))
 (aC (a_ (i:=4) gU.nd (bz G_law_raised (hr.mono (by decide)) (af (aa 0) (af (aa 2) (af (bJ (ff (af (aG) (af (aG) (af (aG) (aA))))) (bz G_law_digit (hr.mono (by decide)) (af (aa 0) (af (aG) (aA))) (au (au aQ)))) (aA)))) (au (au (au aQ)))))
 (aC (d7 (bP (vq hr.units) (aa 3) (aG))
 (aM (bB (dP (af (aa 4) (af (aa 2) (aA))))))
 (bR))
 (aM (bB (dP (af (aa 2) (af (aa 4) (aA)))))))))))
theorem eW:FnScope ["_law_one", "_law_other", "_law_n", "_law_here", "_law_there", "_law_i", "_law_j"] ["_law_one", "_law_other"] (aI gb):=⟨rfl,rfl,rfl,by decide +kernel,rfl,by decide +kernel,by decide +kernel⟩
theorem vS {f:Addr} {fd:FuncData} (F:Fun K "_law_bar" "_law_bar" gb f fd) (b_len:mg "len" = none) (b_range:mg "range" = none) (b_int:mg "int" = none):FnOk P w K mg base jL 1 f fd ["_law_one", "_law_other"] (kB K 2 bL):=nj (m:=lN) F eW fun cdv B outer s H E hr=>
 aC (a_ (i:=2) eW.nd (aT dY b_len cE (af (aa 0) (aA))))
 (aC (a_ (i:=3) eW.nd (aO j5 (ff (af (aG) (aA))) (aO cO (aa 2) (aG))))
 (aC (a_ (i:=4) eW.nd (aO j5 (ff (af (aG) (aA))) (aO cO (aa 2) (aG))))
 (aC (eV PassesOwn.never rfl (dw b_range (aa 2)) (aY (i:=5) eW.nd)
 (aM (eV PassesOwn.never rfl (iC b_range (aG) (aO cO (aa 2) (aG))) (aY (i:=6) eW.nd)
 (aC (g7 (aO cO (bJ (aa 3) (aa 6)) (cD uP b_int vV (af (mH IC (bJ (aa 0) (aa 5)) (aa 6)) (aA)))) (h_ (aa 3) (aa 6)))
 (aC (g7 (aO cO (bJ (aa 4) (aa 6)) (cD uP b_int vV (af (mH IC (bJ (aa 1) (aa 5)) (aa 6)) (aA)))) (h_ (aa 4) (aa 6)))
 (aM (d7 (bP (rE hr.units) (bJ (aa 3) (aa 6)) (bJ (aa 4) (aa 6)))
 (aM (bB (dP (af (aO cO (aa 5) (aG)) (af (aa 6) (aA))))))
 (bR))))))))
 (aM (bB (j7))))))
theorem fO:FnScope ["_law_order_here", "_law_n", "_law_found", "_law_i"] ["_law_order_here"] (aI dQ):=⟨rfl,rfl,rfl,by decide +kernel,rfl,by decide +kernel,by decide +kernel⟩
theorem rF {f:Addr} {fd:FuncData} (F:Fun K "_law_wrong" "_law_wrong" dQ f fd) (b_len:mg "len" = none) (b_range:mg "range" = none):FnOk P w K mg base jL 1 f fd ["_law_order_here"] (kB K 1 cI):=nj (m:=jq) F fO fun cdv B outer s H E hr=>
 aC (a_ (i:=1) fO.nd (aT dY b_len cE (af (aa 0) (aA))))
 (aC (a_ (i:=2) fO.nd (ff (aA)))
 (aC (eV PassesOwn.never rfl (dw b_range (aa 1)) (aY (i:=3) fO.nd)
 (aM (gR (sS PySem.F.slot_list_extend PySem.F.type_list_extend sU (aa 2) (af (fU (N:=["_law_j", "_law_i", "_law_order_here"]) (cap:=[none,some 3,some 0]) rfl (iZ ["_law_i", "_law_order_here"] rfl (by decide +kernel) (by decide +kernel) (by decide +kernel) (by decide +kernel) (by decide +kernel) (List.forall_mem_cons.mpr ⟨by first | exact Or.inl rfl | exact Or.inr rfl,(List.forall_mem_cons.mpr ⟨by first | exact Or.inl rfl | exact Or.inr rfl,(fun _ h=>nomatch h)⟩)⟩) ⟨rfl,by decide +kernel,⟨rfl,by decide +kernel,trivial⟩⟩) (iC b_range (aO cO (aa 3) (aG)) (aa 1)) (fun _ _ _ _=>aY (i:=0) (show (["_law_j", "_law_i", "_law_order_here"]:List Str).Nodup by decide +kernel) rfl (Or.inl rfl) (.inr rfl)) (fun _ _ _ _=>fP (bP (rE hr.units) (bJ (aa 2) (aa 1)) (bJ (aa 2) (aa 0)))) (fun _ _ _ _=>dP (af (aO cO (aa 1) (aG)) (af (aO cO (aa 0) (aG)) (aA))))) (aA))))))
 (aM (bB (aa 2)))))
theorem eY:FnScope ["_law_n", "_law_found", "_law_k", "_law_wider", "_law_one"] ["_law_n"] (aI gc):=⟨rfl,rfl,rfl,by decide +kernel,rfl,by decide +kernel,by decide +kernel⟩
theorem u0 {f:Addr} {fd:FuncData} (F:Fun K "_law_all" "_law_all" gc f fd) (b_range:mg "range" = none):FnOk P w K mg base jL 1 f fd ["_law_n"] (kB K 1 dS):=nj (m:=lI) F eY fun cdv B outer s H E hr=>
 aC (a_ (i:=1) eY.nd (ff (af (dP (aA)) (aA))))
 (aC (eV PassesOwn.never rfl (dw b_range (aa 0)) (aY (i:=2) eY.nd)
 (aC (a_ (i:=3) eY.nd (ff (aA)))
 (aC (eV PassesOwn.never rfl (gF (aa 1)) (aY (i:=4) eY.nd)
 (aM (gR (sS PySem.F.slot_list_extend PySem.F.type_list_extend sU (aa 3) (af (fU (N:=["_law_thing", "_law_one"]) (cap:=[none,some 4]) rfl (iZ ["_law_one"] rfl (by decide +kernel) (by decide +kernel) (by decide +kernel) (by decide +kernel) (by decide +kernel) (List.forall_mem_cons.mpr ⟨by first | exact Or.inl rfl | exact Or.inr rfl,(fun _ h=>nomatch h)⟩) ⟨rfl,by decide +kernel,trivial⟩) (iC b_range (aG) (aO cO (aa 0) (aG))) (fun _ _ _ _=>aY (i:=0) (show (["_law_thing", "_law_one"]:List Str).Nodup by decide +kernel) rfl (Or.inl rfl) (.inr rfl)) (fun _ _ _ _=>fP (bP (FH hr.units) (aa 0) (aa 1))) (fun _ _ _ _=>aO cO (aa 1) (dP (af (aa 0) (aA))))) (aA))))))
 (aM (a_ (i:=1) eY.nd (aa 3))))))
 (aM (bB (aa 1))))
theorem cH:FnScope ["_law_one", "_law_other", "_law_due", "_law_some", "_law_turn", "_law_found", "_law_order_here", "_law_odd"] ["_law_one", "_law_other"] (aI fh):=⟨rfl,rfl,rfl,by decide +kernel,rfl,by decide +kernel,by decide +kernel⟩
theorem tF {f:Addr} {fd:FuncData} (F:Fun K "_law_good" "_law_good" fh f fd) (b_len:mg "len" = none) (b_range:mg "range" = none) (b_isinstance:mg "isinstance" = none) (b_list:mg "list" = none) (b_any:mg "any" = none) (b_bool:mg "bool" = none) (b_tuple:mg "tuple" = none) (G_law_bar:fq P w K mg base 1 "_law_bar" ["_law_one", "_law_other"] bL) (G_law_all:fq P w K mg base 1 "_law_all" ["_law_n"] dS) (G_between:fq P w K mg base 5 "between" ["one", "other"] eO) (G_law_wrong:fq P w K mg base 1 "_law_wrong" ["_law_order_here"] cI):FnOk P w K mg base jL 6 f fd ["_law_one", "_law_other"] (kB K 2 di):=nj (m:=j8) F cH fun cdv B outer s H E hr=>
 aC (a_ (i:=2) cH.nd (ff (aA)))
 (aC (d7 (bP Gb (bz G_law_bar (hr.mono (by decide)) (af (aa 0) (af (aa 1) (aA))) (au (au aQ))) (j7))
 (aC (xD (i:=3) (N:=["_law_order_here", "_law_one"]) (cap:=[none,some 0]) cH.nd rfl (iZ ["_law_one"] rfl (by decide +kernel) (by decide +kernel) (by decide +kernel) (by decide +kernel) (by decide +kernel) (List.forall_mem_cons.mpr ⟨by first | exact Or.inl rfl | exact Or.inr rfl,(fun _ h=>nomatch h)⟩) ⟨rfl,by decide +kernel,trivial⟩) (gF (bz G_law_all (hr.mono (by decide)) (af (aT dY b_len cE (af (aa 0) (aA))) (aA)) (au aQ))) (fun _ _ _ _=>aY (i:=0) (show (["_law_order_here", "_law_one"]:List Str).Nodup by decide +kernel) rfl (Or.inl rfl) (.inr rfl)) (fun _ _ _ _=>fP (bP Gb (bz G_law_bar (hr.mono (by decide)) (af (aa 1) (af (aa 0) (aA))) (au (au aQ))) (j7))) (fun _ _ _ _=>aa 0) )
 (aM (xD (i:=2) (N:=["_law_order_here", "_law_other"]) (cap:=[none,some 1]) cH.nd rfl (iZ ["_law_other"] rfl (by decide +kernel) (by decide +kernel) (by decide +kernel) (by decide +kernel) (by decide +kernel) (List.forall_mem_cons.mpr ⟨by first | exact Or.inl rfl | exact Or.inr rfl,(fun _ h=>nomatch h)⟩) ⟨rfl,by decide +kernel,trivial⟩) (gF (aa 3)) (fun _ _ _ _=>aY (i:=0) (show (["_law_order_here", "_law_other"]:List Str).Nodup by decide +kernel) rfl (Or.inl rfl) (.inr rfl)) (fun _ _ _ _=>fP (bP Gb (bz G_law_bar (hr.mono (by decide)) (af (aa 0) (af (aa 1) (aA))) (au (au aQ))) (j7))) (fun _ _ _ _=>aa 0) )))
 (bR))
 (aC (eV PassesOwn.never rfl (dw b_range (aG)) (aY (i:=4) cH.nd)
 (aC (a_ (i:=5) cH.nd (bz G_between (hr.mono (by decide)) (af (aa 0) (af (aa 1) (aA))) (au (au aQ))))
 (aC (d7 (AW.at (Dm (rq (iP (aT C9 b_isinstance ie (af (aa 5) (af (A5 b_list lG) (aA)))))) (vM (bP (L6 hr.units) (aa 5) (aa 2)))))
 (aM (bB (yX)))
 (bR))
 (aC (eV PassesOwn.never rfl (gF (aa 5)) (aY (i:=6) cH.nd)
 (aM (d7 (AW.at (Dm (rq (iP (aT C9 b_isinstance ie (af (aa 6) (af (A5 b_tuple jx) (aA)))))) (vM (iP (aT (Hz rfl) b_any CY (af (fU (N:=["_law_thing"]) (cap:=[none]) rfl (iZ [] rfl (by decide +kernel) (by decide +kernel) (by decide +kernel) (by decide +kernel) (by decide +kernel) (fun _ h=>nomatch h) trivial) (gF (aa 6)) (fun _ _ _ _=>aY (i:=0) (show (["_law_thing"]:List Str).Nodup by decide +kernel) rfl (Or.inl rfl) (.inr rfl)) (fun _ _ _ _=>nG) (fun _ _ _ _=>aT C9 b_isinstance ie (af (aa 0) (af (A5 b_bool E1) (aA))))) (aA)))))))
 (aM (bB (yX)))
 (bR))))
 (aM (gR (sS PySem.F.slot_list_append PySem.F.type_list_append oB (aa 5) (af (j7) (aA)))))))))
 (aC (a_ (i:=7) cH.nd (aT dY b_len cE (af (fU (N:=["_law_order_here"]) (cap:=[none]) rfl (iZ [] rfl (by decide +kernel) (by decide +kernel) (by decide +kernel) (by decide +kernel) (by decide +kernel) (fun _ h=>nomatch h) trivial) (gF (aa 2)) (fun _ _ _ _=>aY (i:=0) (show (["_law_order_here"]:List Str).Nodup by decide +kernel) rfl (Or.inl rfl) (.inr rfl)) (fun _ _ _ _=>fP (bP (vq hr.units) (aO n9 (aT dY b_len cE (af (bz G_law_wrong (hr.mono (by decide)) (af (aa 0) (aA)) (au aQ)) (aA))) (aG)) (aG))) (fun _ _ _ _=>aa 0)) (aA))))
 (aM (bB (K9 (mH (vq hr.units) (aa 0) (aa 1)) (BL (mH (vq hr.units) (aO j5 (aG) (aa 7)) (aT dY b_len cE (af (aa 2) (aA)))))))))))
theorem kh:FnScope ["_law_script", "_law_bag_here", "_law_one", "_law_other"] ["_law_script"] (aI lH):=⟨rfl,rfl,rfl,by decide +kernel,rfl,by decide +kernel,by decide +kernel⟩
theorem Kc {f:Addr} {fd:FuncData} (F:Fun K "law" "law" lH f fd) (G_law_bag:fq P w K mg base 1 "_law_bag" ["_law_script", "_law_k"] eX) (G_law_pair:fq P w K mg base 4 "_law_pair" ["_law_bag_here", "_law_n"] dM) (G_law_digit:fq P w K mg base 1 "_law_digit" ["_law_bag_here", "_law_many"] aR) (G_law_good:fq P w K mg base 6 "_law_good" ["_law_one", "_law_other"] di):FnOk P w K mg base jL 7 f fd ["_law_script"] (kB K 1 qF):=nj (m:=CD) F kh fun cdv B outer s H E hr=>
 aC (a_ (i:=1) kh.nd (bz G_law_bag (hr.mono (by decide)) (af (aa 0) (af (aG) (aA))) (au (au aQ))))
 (aC (g7 (bz G_law_pair (hr.mono (by decide)) (af (aa 1) (af (bJ (ff (af (aG) (af (aG) (af (aG) (af (aG) (af (aG) (af (aG) (af (aG) (af (aG) (aA)))))))))) (bz G_law_digit (hr.mono (by decide)) (af (aa 1) (af (aG) (aA))) (au (au aQ)))) (aA))) (au (au aQ))) (iQ rfl (bI (aY (i:=2) kh.nd) (bI (aY (i:=3) kh.nd) (fV)))))
 (aC (d7 (rq (iP (bz G_law_good (hr.mono (by decide)) (af (aa 2) (af (aa 3) (aA))) (au (au aQ)))))
 (aM (bB (yX)))
 (bR))
 (aC (a_ (i:=1) kh.nd (bz G_law_bag (hr.mono (by decide)) (af (aa 0) (af (aG) (aA))) (au (au aQ))))
 (aC (g7 (bz G_law_pair (hr.mono (by decide)) (af (aa 1) (af (aO cO (aG) (bz G_law_digit (hr.mono (by decide)) (af (aa 1) (af (aG) (aA))) (au (au aQ)))) (aA))) (au (au aQ))) (iQ rfl (bI (aY (i:=2) kh.nd) (bI (aY (i:=3) kh.nd) (fV)))))
 (aM (bB (JP (bz G_law_good (hr.mono (by decide)) (af (aa 2) (af (aa 3) (aA))) (au (au aQ))) (BL (bz G_law_good (hr.mono (by decide)) (af (aa 3) (af (aa 2) (aA))) (au (au aQ)))))))))))
end
end K18
namespace K18
open PySem L2 Am
noncomputable def lK (S:aE) (b:Nat):Prop:=∃ g st:Int,ak S b=some [.int g,.int st]/\0<=g/\0<=st/\st < 4294967296
theorem lK.kp {S S':aE} {b:Nat} {c:Nat->Prop} (h:lK S b) (k:Kp c S S') (hb:¬ c b):lK S' b:=by
 obtain ⟨g,st,e,q⟩:=h
 exact ⟨g,st,k.lst b _ hb e,q⟩
theorem xE {S:aE} {ns:List Int} {k:Int} (h0:0<=k) (h1:k<=100):∃ S',eX [.frz (ns.map .int),.int k] S=.ok (.ref S.length) S'/\lK S' S.length/\fH S S':=by
 have e3:EC (.int 10) (.int 18)=fun S=>R.ok (.int 1000000000000000000) S:=by
  funext S;exact cZ ⟨by decide,by decide,by decide⟩
 have go:∀ cell:Int,0<=cell->∃ S',((RS.seq (.nx [A.frz (ns.map .int),.int k,.int cell,.unb] S) (aZ (bE (aH b_ (eC (.int 1)) (aH kj (aH b_ (aH b_ (aH b_ (aH kj (ah 2) (eC (.int 2147483647))) (aH gq (aH gq (eC (.int 7919)) (ah 1)) (ah 1))) (aH gq (eC (.int 17)) (ah 1))) (eC (.int 3))) (eC (.int 2147483646)))) (bF 3))
   (cF (jS (aj (aH gq (ah 2) (aV (f1 n5) (aj (aH Kw (ah 2) (aH EC (eC (.int 10)) (eC (.int 18)))) (aJ)))) (aj (ah 3) (aJ))))))).end=.ok (.ref S.length) S')/\lK S' S.length/\fH S S':=by
  intro cell hc
  have m1:kj (.int cell) (.int 2147483647)=fun S=>R.ok (.int (cell % 2147483647)) S:=by funext S;exact oW (by decide)
  have m2:∀ x:Int,kj (.int x) (.int 2147483646)=fun S=>R.ok (.int (x % 2147483646)) S:=fun x=>by funext S;exact oW (by decide)
  have m3:∀ x:Int,gq (.int 7919) (.int x)=fun S=>R.ok (.int (7919 * x)) S:=fun x=>by funext S;exact uw (by decide) (by decide)
  have m4:gq (.int (7919 * k)) (.int k)=fun S=>R.ok (.int (7919 * k * k)) S:=by funext S;exact mul_r (by omega) (by omega)
  have m5:∀ x:Int,gq (.int 17) (.int x)=fun S=>R.ok (.int (17 * x)) S:=fun x=>by funext S;exact uw (by decide) (by decide)
  have m6:∀ b:Bool,gq (.int cell) (.int (if b=true then 1 else 0))=fun S=>R.ok (.int (cell * (if b=true then 1 else 0))) S:=fun b=>by
   funext S
   refine mul_r ?_ ?_ <;> cases b <;> decide
  have s0:0<=1+(cell % 2147483647+7919 * k * k+17 * k+3) % 2147483646:=by
   have:=Int.emod_nonneg (cell % 2147483647+7919 * k * k+17 * k+3) (show (2147483646:Int)≠0 by decide)
   omega
  have s1:1+(cell % 2147483647+7919 * k * k+17 * k+3) % 2147483646 < 4294967296:=by
   have:=Int.emod_lt_of_pos (cell % 2147483647+7919 * k * k+17 * k+3) (show (0:Int) < 2147483646 by decide)
   omega
  refine ⟨S++[.lst [.int (cell * (if decide (1000000000000000000<=cell)=true then 1 else 0)),.int (1+(cell % 2147483647+7919 * k * k+17 * k+3) % 2147483646)]],?_,⟨_,_,aS,?_,s0,s1⟩,Kp.refl.lay⟩
  ·simp only [bx,bools,m1,m2,m3,m4,m5,e3,m6]
  ·refine Int.mul_nonneg hc ?_
   split <;> decide
 have hA:∀ x:Int,0<=(if x < 0 then -x else x):=by intro x;split <;> omega
 unfold eX mq pY
 simp only [bx,bools,gH,Nat.reduceAdd,Nat.reduceSub,List.length_map]
 by_cases hk:k < (ns.length:Int)
 ·have hn:k.toNat < ns.length:=by omega
  have ha:fB (ns.map A.int) k=some (.int ns[k.toNat]):=cu (k:=k.toNat) (by omega) (List.getElem?_eq_getElem hn)
  rw [decide_eq_true hk]
  simp only [bx,bools,ha]
  exact go _ (hA _)
 ·rw [decide_eq_false hk]
  simp only [bx,bools]
  exact go 0 (Int.le_refl 0)
theorem digit {S:aE} {b:Nat} {m:Int} (h:lK S b) (h1:1<=m) (h2:m < 1073741824):∃ d S',aR [.ref b,.int m] S=.ok (.int d) S'/\0<=d/\d < m/\lK S' b/\Kp (·=b) S S':=by
 obtain ⟨g,st,hl,hg,hs,hs2⟩:=h
 have hb:=cN hl
 have i0:oE 2 0=some 0:=gJ rfl (by decide)
 have i1:oE 2 1=some 1:=gJ rfl (by decide)
 have fin:∀ d g' st':Int,0<=d->d < m->0<=g'->0<=st'->st' < 4294967296->aR [.ref b,.int m] S=.ok (.int d) (S.set b (.lst [.int g',.int st']))->∃ d S',aR [.ref b,.int m] S=.ok (.int d) S'/\0<=d/\d < m/\lK S' b/\Kp (·=b) S S':=
  fun d g' st' a1 a2 a3 a4 a5 e=>⟨d,_,e,a1,a2,⟨g',st',cj hb,a3,a4,a5⟩,Kp.refl.set (.inl rfl)⟩
 by_cases hg0:0 < g
 ·refine fin (g % m) (g / m) st (Int.emod_nonneg _ (by omega)) (Int.emod_lt_of_pos _ (by omega)) (Int.ediv_nonneg hg (by omega)) hs hs2 ?_
  unfold aR gW jE
  rw [nv]
  simp [hl,BX,Cz,hg0,oW (show 0 < m by omega),ve (show 0 < m by omega) h2,i0]
 ·have:g=0:=by omega
  subst this
  have e1:0<=st * 48271 % 2147483647:=Int.emod_nonneg _ (by decide)
  have e2:st * 48271 % 2147483647 < 2147483647:=Int.emod_lt_of_pos _ (by decide)
  refine fin ((st * 48271 % 2147483647) * ((st * 48271 % 2147483647) / 65536+9) % 2147483629 / 32 % m) 0 (st * 48271 % 2147483647) (Int.emod_nonneg _ (by omega)) (Int.emod_lt_of_pos _ (by omega)) (by decide) e1 (by omega) ?_
  unfold aR gW jE
  rw [nv]
  simp [hl,BX,Cz,oW (show 0 < m by omega),i0,i1,uw (show -18446744073709551616 < st by omega) (by omega),oW (show (0:Int) < 2147483647 by decide),cj hb,ve (show (0:Int) < 65536 by decide) (by decide),uw (show -18446744073709551616 < st * 48271 % 2147483647 by omega) (by omega),oW (show (0:Int) < 2147483629 by decide),ve (show (0:Int) < 32 by decide) (by decide)]
theorem gC:∀ (l:List Int) (j:Nat) (h:j < l.length),(l[j]::l.eraseIdx j).Perm l
 | x::l,0,_=>List.Perm.refl _
 | x::l,j+1,h=>(List.Perm.swap x _ _).trans (List.Perm.cons x (gC l j (Nat.lt_of_succ_lt_succ h)))
theorem z9 {ls fs:List Int} {j:Nat} (h:j < ls.length):((fs++[ls[j]])++ls.eraseIdx j).Perm (fs++ls):=by
 rw [List.append_assoc]
 refine List.Perm.append_left fs ?_
 show (ls[j]::ls.eraseIdx j).Perm ls
 exact gC ls j h
theorem Kh {S:aE} {b:Nat} {n:Int} (h:lK S b) (h1:1<=n) (h2:n<=20):∃ (xs:List Int) (S':aE),fZ [.ref b,.int n] S=.ok (.tup (xs.map .int)) S'/\xs.Perm (aX 1 (n+1))/\lK S' b/\Kp (·=b) S S':=by
 have hbS:b < S.length:=by obtain ⟨_,_,e,_⟩:=h;exact cN e
 unfold fZ mC pU
 simp only [bx,bools,gH,Nat.reduceAdd,Nat.reduceSub,p5 (sX (show (-1000000:Int)<=1 by decide) (by decide) (show -1000000<=n+1 by omega) (by omega) (by omega)),List.length_append]
 have key:=jg (t:=jD) (c:=jC)
  (fun τ S1=>∃ (L:Nat) (x4:A) (ls fs:List Int),τ=[.ref b,.int n,.ref L,.ref (S.length+1),x4]/\ak S1 L=some (ls.map .int)/\ak S1 (S.length+1)=some (fs.map .int)/\L≠S.length+1/\S.length<=L/\(fs++ls).Perm (aX 1 (n+1))/\lK S1 b/\Kp (·=b) S S1)
  (fun τ S1=>match τ with
   | [_,_,.ref L,_,_]=>((ak S1 L).getD []).length
   | _=>0)
  (fun r=>∃ (xs:List Int) (S':aE),RS.end (RS.seq r (cF (aV (f1 iY) (aj (ah 3) aJ))))=.ok (.tup (xs.map .int)) S'/\xs.Perm (aX 1 (n+1))/\lK S' b/\Kp (·=b) S S') ?_ 1000000
 ·refine key _ _ ⟨S.length,.unb,aX 1 (n+1),[],rfl,?_,?_,by omega,Nat.le_refl _,List.Perm.refl _,h.kp (c:=fun _=>False) (Kp.refl.lay.lay) (fun z=>z),Kp.refl.lay.lay⟩ ?_
  ·exact c_ aS
  ·have:ak (S++[.lst ((aX 1 (n+1)).map .int)]++[.lst []]) (S++[O.lst ((aX 1 (n+1)).map .int)]).length=some []:=aS
   simpa using this
  ·show ((ak _ S.length).getD []).length < _
   rw [c_ aS,Option.getD_some,List.length_map,bU]
   omega
 ·rintro τ S1 ⟨L,x4,ls,fs,rfl,hL,hF,hne,hLS,hp,hb,hk⟩
  have hlen:ls.length<=20:=by
   have:=hp.length_eq
   rw [List.length_append,bU] at this
   omega
  unfold jD jC
  simp only [bx,bools,hL,List.length_map]
  by_cases h0:ls=[]
  ·subst h0
   left
   refine ⟨S1,rfl,fs,S1,?_,by simpa using hp,hb,hk⟩
   simp only [bx,bools,hF]
  ·right
   have hpos:0 < ls.length:=List.length_pos_iff.mpr h0
   refine ⟨S1,by rw [decide_eq_true (by omega)],.inl ?_⟩
   obtain ⟨d,S2,e2,d0,d1,hb2,hk2⟩:=digit (m:=(ls.length:Int)) hb (by omega) (by omega)
   have nLb:¬ L=b:=by omega
   have hL2:=hk2.lst L _ nLb hL
   have hF2:=hk2.lst (S.length+1) _ (by omega) hF
   have hd:d.toNat < ls.length:=by omega
   have ha:fB (ls.map A.int) d=some (.int ls[d.toNat]):=cu (k:=d.toNat) (by omega) (List.getElem?_eq_getElem hd)
   have lF:=cN hF2
   have lL:=cN hL2
   have hfl:fs.length<=20:=by
    have:=hp.length_eq
    rw [List.length_append,bU] at this
    omega
   have hl3:ak (S2.set (S.length+1) (.lst (fs.map .int++[.int ls[d.toNat]]))) L=some (ls.map .int):=by rw [bT (Ne.symm hne)];exact hL2
   have hc1:kc (ls.map A.int) none (some d)=(ls.take d.toNat).map .int:=by
    have:=zx (ls.map A.int) d.toNat (by rw [List.length_map];exact hd)
    rw [show ((d.toNat:Nat):Int)=d by omega] at this
    rw [this,List.map_take]
   have hc2:kc (ls.map A.int) (some (d+1)) none=(ls.drop (d.toNat+1)).map .int:=by
    have:=Aa (ls.map A.int) d.toNat (by rw [List.length_map];exact hd)
    rw [show ((d.toNat:Nat):Int)=d by omega] at this
    rw [this,List.map_drop]
   simp only [bx,bools,hL,List.length_map,e2,hF2,hL2,ha,B0 (show (fs.length) < 16777216 by omega),hl3,hc1,hc2]
   have g1:ak (S2.set (S.length+1) (.lst (fs.map .int++[.int ls[d.toNat]]))++[.lst ((ls.take d.toNat).map .int)]) L=some (ls.map .int):=c_ hl3
   simp only [bx,bools,g1,hc2]
   have hcat:=LS (S:=S2.set (S.length+1) (.lst (fs.map .int++[.int ls[d.toNat]]))++[.lst ((ls.take d.toNat).map .int)]++[.lst ((ls.drop (d.toNat+1)).map .int)]) (c_ aS) aS (by rw [List.length_map,List.length_map,List.length_take,List.length_drop];omega)
   rw [hcat]
   simp only [bx,bools]
   have hfin:(ls.take d.toNat).map A.int++(ls.drop (d.toNat+1)).map A.int=(ls.eraseIdx d.toNat).map .int:=by rw [<- List.map_append,<- List.eraseIdx_eq_take_drop_succ]
   rw [hfin]
   have hlen5:(S2.set (S.length+1) (.lst (fs.map .int++[.int ls[d.toNat]]))++[O.lst ((ls.take d.toNat).map .int)]++[O.lst ((ls.drop (d.toNat+1)).map .int)]).length=S2.length+2:=by simp
   have k3:Kp (·=b) S (S2.set (S.length+1) (.lst (fs.map .int++[.int ls[d.toNat]]))):=(hk.trans hk2).set (.inr (by omega))
   have b3:lK (S2.set (S.length+1) (.lst (fs.map .int++[.int ls[d.toNat]]))) b:=by
    obtain ⟨g,st,e,q⟩:=hb2
    exact ⟨g,st,by rw [bT (by omega)];exact e,q⟩
   refine ⟨_,_,rfl,⟨_,_,ls.eraseIdx d.toNat,fs++[ls[d.toNat]],rfl,aS,?_,?_,?_,?_,b3.kp (c:=fun _=>False) Kp.refl.lay.lay.lay (fun z=>z),k3.lay.lay.lay⟩,?_⟩
   ·rw [List.map_append]
    exact c_ (c_ (c_ (cj (by omega))))
   ·rw [hlen5];omega
   ·rw [hlen5];omega
   ·exact (z9 hd).trans hp
   ·simp only [aS,Option.getD_some,List.length_map,List.length_eraseIdx_of_lt hd]
    omega
theorem t8 {xs:List Int} {i j:Nat} {x y:Int} (hi:xs[i]?=some x) (hj:xs[j]?=some y):((xs.set i y).set j x).Perm xs:=by
 obtain ⟨li,ei⟩:=List.getElem?_eq_some_iff.mp hi
 obtain ⟨lj,ej⟩:=List.getElem?_eq_some_iff.mp hj
 subst ei ej
 exact List.set_set_perm li lj
theorem uh {S:aE} {b:Nat} {n:Int} (h:lK S b) (h1:1<=n) (h2:n<=20):∃ (xs:List Int) (S':aE),dg [.ref b,.int n] S=.ok (.tup (xs.map .int)) S'/\xs.Perm (aX 1 (n+1))/\lK S' b/\Kp (·=b) S S':=by
 unfold dg jA mP
 obtain ⟨d,S1,e1,d0,d1,hb1,hk1⟩:=digit (m:=4) h (by decide) (by decide)
 simp only [bx,bools,gH,Nat.reduceAdd,Nat.reduceSub,e1]
 by_cases hw:1 < d
 ·obtain ⟨xs,S2,e2,hp,hb2,hk2⟩:=Kh hb1 h1 h2
  rw [decide_eq_true hw]
  simp only [bx,bools,e2]
  exact ⟨xs,S2,rfl,hp,hb2,hk1.trans hk2⟩
 ·rw [decide_eq_false hw]
  have hbS:b < S.length:=by obtain ⟨_,_,e,_⟩:=h;exact cN e
  have hl1:=hk1.len
  simp only [bx,bools,p5 (sX (show (-1000000:Int)<=1 by decide) (by decide) (show -1000000<=n+1 by omega) (by omega) (by omega))]
  have go:∀ (L:Nat) (fs:List Int) (S2:aE),ak S2 L=some (fs.map .int)->fs.Perm (aX 1 (n+1))->lK S2 b->Kp (·=b) S S2->S.length<=L ->
    ∃ (xs:List Int) (S':aE),RS.end (RS.seq (gp jW (bF 4) iu [.ref b,.int n,.int d,.ref L,.unb,.unb,.unb] S2) (cF (aV (f1 iY) (aj (ah 3) (aJ)))))=.ok (.tup (xs.map .int)) S'/\xs.Perm (aX 1 (n+1))/\lK S' b/\Kp (·=b) S S':=by
   intro L fs S2 hL hp hb2 hk2 hLS
   obtain ⟨m,S3,e3,m0,m1,hb3,hk3⟩:=digit (m:=7) hb2 (by decide) (by decide)
   refine fN (lo:=0) (hi:=m) (S1:=S3) ?_ (fun _ τ S4=>∃ (x4 x5 x6:A) (fs:List Int),τ=[.ref b,.int n,.int d,.ref L,x4,x5,x6]/\ak S4 L=some (fs.map .int)/\fs.Perm (aX 1 (n+1))/\lK S4 b/\Kp (·=b) S S4) (fun r=>∃ (xs:List Int) (S':aE),RS.end (RS.seq r _)=.ok (.tup (xs.map .int)) S'/\xs.Perm (aX 1 (n+1))/\lK S' b/\Kp (·=b) S S') ⟨_,_,_,fs,rfl,hk3.lst L _ (by omega) hL,hp,hb3,hk2.trans hk3⟩ ?_ ?_
   ·refine eF ?_ (cL (by omega) (by omega))
    simp only [bx,bools,e3]
   ·rintro i τ S4 hi ⟨x4,x5,x6,fs,rfl,hL4,hp4,hb4,hk4⟩
    left
    obtain ⟨p,S5,e5,p0,p1,hb5,hk5⟩:=digit (m:=n) hb4 h1 (by omega)
    obtain ⟨q,S6,e6,q0,q1,hb6,hk6⟩:=digit (m:=n) hb5 h1 (by omega)
    have hL6:=hk6.lst L _ (by omega) (hk5.lst L _ (by omega) hL4)
    have hlen:(fs.length:Int)=n:=by rw [hp4.length_eq,bU];omega
    have hp':p.toNat < fs.length:=by omega
    have hq':q.toNat < fs.length:=by omega
    have ap:fB (fs.map A.int) p=some (.int fs[p.toNat]):=cu (k:=p.toNat) (by omega) (List.getElem?_eq_getElem hp')
    have aq:fB (fs.map A.int) q=some (.int fs[q.toNat]):=cu (k:=q.toNat) (by omega) (List.getElem?_eq_getElem hq')
    have ip:oE fs.length p=some p.toNat:=gJ (by omega) hp'
    have iq:oE fs.length q=some q.toNat:=gJ (by omega) hq'
    have lL6:=cN hL6
    unfold iu
    simp only [bx,bools,e5,e6,hL6,ap,aq,fJ (show ([_,_]:List A).length<=16777216 by simp),cZ (show ([_,_]:List A).length=2 from rfl),List.length_map,ip,iq,cj lL6,List.length_set]
    refine ⟨_,_,rfl,_,_,_,(fs.set p.toNat fs[q.toNat]).set q.toNat fs[p.toNat],rfl,?_,?_,?_,?_⟩
    ·rw [cj (by rw [List.length_set];exact lL6),List.map_set,List.map_set]
    ·exact (t8 (List.getElem?_eq_getElem hp') (List.getElem?_eq_getElem hq')).trans hp4
    ·obtain ⟨g,st,e,z⟩:=hb6
     exact ⟨g,st,by rw [bT (by omega),bT (by omega)];exact e,z⟩
    ·exact ((((hk4.trans hk5).trans hk6).set (.inr hLS)).set (.inr hLS))
   ·rintro τ S4 ⟨x4,x5,x6,fs,rfl,hL4,hp4,hb4,hk4⟩
    refine ⟨fs,S4,?_,hp4,hb4,hk4⟩
    simp only [bx,bools,hL4]
  have b2:lK (S1++[O.lst ((aX 1 (n+1)).map .int)]) b:=hb1.kp (c:=fun _=>False) Kp.refl.lay fun z=>z
  by_cases h1':d=1
  ·subst h1'
   simp only [bx,bools,beq_self_eq_true]
   exact go _ (aX 1 (n+1)).reverse _ (by rw [List.map_reverse];exact aS) (List.reverse_perm _) (b2.kp (c:=fun _=>False) Kp.refl.lay fun z=>z) hk1.lay.lay (by simp;omega)
  ·rw [show (d == 1)=false by simpa using h1']
   simp only [bx,bools]
   exact go _ (aX 1 (n+1)) _ aS (List.Perm.refl _) b2 hk1.lay hl1
theorem tP {xs:List Int} {n:Nat} (px:xs.Perm (aX 1 ((n:Int)+1))):xs.length=n:=by have:=jv px (by omega);omega
theorem Lv {l:List Int} {k:Nat} {i:Int} (h:i=k) (hk:k < l.length):fB (l.map A.int) i=some (.int (l.getD k 0)):=cu h (by rw [List.getD_eq_getElem?_getD,List.getElem?_eq_getElem hk];rfl)
noncomputable def prs (n:Int):List A:=(aX 1 n).flatMap fun i=>(aX (i+1) (n+1)).map fun j=>.tup [.int i,.int j]
theorem FL {n:Int} {x:A}:x∈prs n ↔ ∃ i j:Int,1<=i/\i < j/\j<=n/\x=.tup [.int i,.int j]:=by
 unfold prs
 rw [List.mem_flatMap]
 constructor
 ·rintro ⟨i,hi,hx⟩
  obtain ⟨j,hj,rfl⟩:=List.mem_map.mp hx
  rw [fy] at hi hj
  exact ⟨i,j,by omega,by omega,by omega,rfl⟩
 ·rintro ⟨i,j,h1,h2,h3,rfl⟩
  exact ⟨i,fy.mpr ⟨h1,by omega⟩,List.mem_map.mpr ⟨j,fy.mpr ⟨by omega,by omega⟩,rfl⟩⟩
theorem pH {α β:Type} {f:α->List β} {B:Nat}:∀ (l:List α),(∀ x∈l,(f x).length<=B)->(l.flatMap f).length<=l.length * B
 | [],_=>Nat.zero_le _
 | x::l,h=>by
  rw [List.flatMap_cons,List.length_append,List.length_cons,Nat.add_mul,Nat.one_mul]
  have:=pH l fun y hy=>h y (List.mem_cons_of_mem _ hy)
  have:=h x (List.mem_cons_self ..)
  omega
theorem xm {n:Int} (h0:0<=n) (h1:n<=1000):(prs n).length<=16777216:=by
 have:=pH (B:=1000) (f:=fun i=>(aX (i+1) (n+1)).map fun j=>A.tup [.int i,.int j]) (aX 1 n) fun x hx=>by
  rw [fy] at hx
  rw [List.length_map,bU];omega
 rw [bU] at this
 have h2:(n - 1).toNat * 1000<=1000 * 1000:=Nat.mul_le_mul_right _ (by omega)
 unfold prs
 omega
theorem GV {S:aE} {i n lo hi:Int}:∀ (k t:Nat) (x1:A),k+t=(hi - lo).toNat->∃ x1',g9 (cM lo hi) (bF 1) pN (fM (aj (ah 0) (aj (ah 1) (aJ)))) k t [.int i,x1,.int n] S=.ok ((List.range' t k).map fun q:Nat=>A.tup [.int i,.int (lo+q)],[.int i,x1',.int n]) S
 | 0,t,x1,_=>⟨x1,rfl⟩
 | k+1,t,x1,h=>by
  obtain ⟨x1',e⟩:=GV (S:=S) (i:=i) (n:=n) (lo:=lo) (hi:=hi) k (t+1) (.int (lo+t)) (by omega)
  refine ⟨x1',?_⟩
  unfold g9
  have hg:(cM lo hi).get t S=some (.int (lo+t)):=if_pos (by omega)
  simp only [bx,bools,hg,fJ (show ([_,_]:List A).length<=16777216 by simp),e,List.range'_succ,List.map_cons]
theorem Dv {S:aE} {n:Int} (h0:0<=n) (h1:n<=1000):∀ (k t:Nat) (x0 x1:A),k+t=(n - 1).toNat->fW (cM 1 n) (bF 0) pN (gz (aH b_ (ah 0) (eC (.int 1))) (aH b_ (ah 2) (eC (.int 1)))) (bF 1) pN (fM (aj (ah 0) (aj (ah 1) (aJ)))) k t [x0,x1,.int n] S=.ok ((List.range' t k).flatMap fun q:Nat=>(aX (1+q+1) (n+1)).map fun j=>A.tup [.int (1+q),.int j]) S
 | 0,t,x0,x1,_=>rfl
 | k+1,t,x0,x1,h=>by
  have hg:(cM 1 n).get t S=some (.int (1+t)):=if_pos (by omega)
  obtain ⟨x1',e⟩:=GV (S:=S) (i:=1+t) (n:=n) (lo:=1+t+1) (hi:=n+1) (cM (1+t+1) (n+1)).k 0 x1 rfl
  have hr:((List.range' 0 (cM (1+(t:Int)+1) (n+1)).k).map fun q:Nat=>A.tup [.int (1+t),.int (1+t+1+q)])=(aX (1+t+1) (n+1)).map fun j=>A.tup [.int (1+t),.int j]:=by
   unfold aX
   rw [List.map_map,List.range_eq_range']
   rfl
  rw [hr] at e
  have e2:=Dv (S:=S) h0 h1 k (t+1) (.int (1+t)) x1' (by omega)
  have hs:gz (aH b_ (ah 0) (eC (.int 1))) (aH b_ (ah 2) (eC (.int 1))) [.int (1+t),x1,.int n] S=.ok (cM (1+t+1) (n+1)) S:=
   jh (S1:=S) (by simp only [bx,bools]) (by simp only [bx,bools]) (cL (by omega) (by omega)) (cL (by omega) (by omega))
  unfold fW
  simp only [bx,bools,hg,hs,e,e2,List.range'_succ,List.flatMap_cons]
theorem CH {S:aE} {n:Int} (h0:0<=n) (h1:n<=1000):bN [.int n] S=.ok (.ref S.length) (S++[.lst (prs n)]):=by
 have hs:gz (eC (.int 1)) (ah 0) [.int n] S=.ok (cM 1 n) S:=jh (S1:=S) (by simp only [bx,bools]) (by simp only [bx,bools]) (cL (by omega) (by omega)) (cL (by omega) (by omega))
 have e:=Dv (S:=S) h0 h1 (cM 1 n).k 0 .unb .unb rfl
 have hp:((List.range' 0 (cM 1 n).k).flatMap fun q:Nat=>(aX (1+q+1) (n+1)).map fun j=>A.tup [.int (1+q),.int j])=prs n:=by
  unfold prs aX
  rw [List.flatMap_map,<- List.range_eq_range']
  rfl
 rw [hp] at e
 unfold bN iw j3 vt
 simp only [bx,bools,gH,Nat.reduceAdd,Nat.reduceSub,hs,e,bX (xm h0 h1)]
noncomputable def wg (xs:List Int) (q:A):Bool:=match q with
 | .tup [.int i,.int j]=>decide (xs.getD (i - 1).toNat 0 > xs.getD (j - 1).toNat 0)
 | _=>false
theorem Mi {xs:List Int} {i:Int} (h1:0<=i) (h2:i < xs.length):fB (xs.map A.int) i=some (.int (xs.getD i.toNat 0)):=Lv (k:=i.toNat) (by omega) (by omega)
noncomputable def iF (i hi:Int):List A:=(aX (i+1) hi).map fun j=>.tup [.int i,.int j]
theorem uJ (a:Int) (u:Nat):aX a (a+((u+1:Nat):Int))=aX a (a+(u:Int))++[a+(u:Int)]:=by
 unfold aX
 rw [show (a+((u+1:Nat):Int) - a).toNat=u+1 by omega,show (a+(u:Int) - a).toNat=u by omega,List.range_succ,List.map_append];rfl
theorem t9 (n:Nat):prs n=(aX 1 (n:Int)).flatMap fun i=>iF i ((n:Int)+1):=rfl
theorem zR {xs:List Int} {i n:Int}:(((aX (i+1) n).filter fun j=>decide (xs.getD i.toNat 0 > xs.getD j.toNat 0)).map fun j=>A.tup [.int (i+1),.int (j+1)])=(iF (i+1) (n+1)).filter (wg xs):=by
 unfold iF
 have e:aX (i+1+1) (n+1)=(aX (i+1) n).map (·+1):=by
  unfold aX
  rw [List.map_map,show n+1 - (i+1+1)=n - (i+1) by omega]
  refine List.map_congr_left fun q _=>?_
  show i+1+1+(q:Int)=i+1+(q:Int)+1
  omega
 rw [e,List.map_map,List.filter_map]
 congr 1
 refine List.filter_congr fun j _=>?_
 show _=decide (xs.getD (i+1 - 1).toNat 0 > xs.getD (j+1 - 1).toNat 0)
 rw [show i+1 - 1=i by omega,show j+1 - 1=j by omega]
theorem C8 {S:aE} {n m:Nat} {xs ys:List A} (h1:ak S n=some xs) (h2:ak S m=some ys) (h3:xs.length+ys.length<=16777216):nh (.ref n) [.ref m] S=.ok .non (S.set n (.lst (xs++ys))):=by
 show opt (ak S n) _=_
 rw [h1]
 show opt (ak S m) _=_
 rw [h2]
 exact Io h3
theorem xT {i hi:Int} (h0:0<=i) (h:hi<=21):(iF i hi).length<=20:=by
 unfold iF;rw [List.length_map,bU];omega
theorem JF {S:aE} {n:Nat} {xs:List Int} {v:A} (hu:v.eE=false) (hv:∀ T,fH S T->eg v T=.ok (.int n) T/\∀ (i:Int) (x:A),fB (xs.map A.int) i=some x->fG v (.int i) T=.ok x T) (hlen:xs.length=n) (h1:1<=n) (h2:n<=20):∃ (D:Nat) (S':aE),cI [v] S=.ok (.ref D) S'/\ak S' D=some ((prs n).filter (wg xs))/\fH S S':=by
 unfold cI jq mX
 simp only [bx,bools,gH,Nat.reduceAdd,Nat.reduceSub,hu,(hv S Kp.refl).1]
 refine fN (lo:=0) (hi:=(n:Int)) (S1:=S++[.lst []]) (show jV _ _=_ from eF (by simp only [bx,bools]) (cL (by omega) (by omega)))
  (fun t τ S1=>(∃ a3,τ=[v,.int n,.ref S.length,a3])/\ak S1 S.length=some (((aX 1 (1+(t:Int))).flatMap fun i=>iF i ((n:Int)+1)).filter (wg xs))/\fH S S1)
  (fun r=>∃ (D:Nat) (S':aE),RS.end (RS.seq r _)=.ok (.ref D) S'/\ak S' D=some ((prs n).filter (wg xs))/\fH S S') ⟨⟨_,rfl⟩,?_,Kp.refl.lay⟩ ?_ ?_
 ·rw [aS];rfl
 ·rintro t τ S1 ht ⟨⟨a3,rfl⟩,hL,kp⟩
  left
  have hb:(((aX 1 (1+(t:Int))).flatMap fun i=>iF i ((n:Int)+1)).filter (wg xs)).length<=1000:=by
   have q1:=List.length_filter_le (wg xs) ((aX 1 (1+(t:Int))).flatMap fun i=>iF i ((n:Int)+1))
   have q2:=pH (B:=20) (f:=fun i=>iF i ((n:Int)+1)) (aX 1 (1+(t:Int))) fun x hx=>xT (by have:=fy.mp hx;omega) (by omega)
   rw [bU] at q2
   have q3:(1+(t:Int) - 1).toNat * 20<=20 * 20:=Nat.mul_le_mul_right _ (by omega)
   omega
  have x0:fB (xs.map A.int) (0+(t:Int))=some (.int (xs.getD (0+(t:Int)).toNat 0)):=Mi (by omega) (by omega)
  have ec:=uE (lo:=0+(t:Int)+1) (hi:=(n:Int)) (cap:=[some 3,some 0]) (src:=gz (aH b_ (ah 3) (eC (.int 1))) (ah 1)) (t:=iW (aH Al (aH fG (ah 2) (ah 1)) (aH fG (ah 2) (ah 0)))) (e:=fM (aj (aH b_ (ah 1) (eC (.int 1))) (aj (aH b_ (ah 0) (eC (.int 1))) (aJ)))) (τ:=[v,.int n,.ref S.length,.int (0+(t:Int))]) (S:=S1) (S1:=S1)
   (jh (S1:=S1) (by simp only [bx,bools]) (by simp only [bx,bools]) (cL (by omega) (by omega)) (cL (by omega) (by omega)))
   (fun j=>decide (xs.getD (0+(t:Int)).toNat 0 > xs.getD j.toNat 0)) (fun j=>.tup [.int (0+(t:Int)+1),.int (j+1)]) (fun j g1 g2=>by
    have x2:fB (xs.map A.int) j=some (.int (xs.getD j.toNat 0)):=Mi (by omega) (by omega)
    simp only [bx,bools,hu,(hv S1 kp).2 _ _ x0,(hv S1 kp).2 _ _ x2]) (fun j _ _ _=>by simp only [bx,bools,fJ (show ([_,_]:List A).length<=16777216 by simp)]) (by omega)
  rw [zR] at ec
  have hr:((iF (0+(t:Int)+1) ((n:Int)+1)).filter (wg xs)).length<=1000:=Nat.le_trans (List.length_filter_le _ _) (Nat.le_trans (xT (by omega) (by omega)) (by decide))
  have lt:=cN hL
  have ex:=C8 (S:=S1++[.lst ((iF (0+(t:Int)+1) ((n:Int)+1)).filter (wg xs))]) (c_ hL) aS (by omega)
  unfold j6
  simp only [bx,bools,hu,hL,ec,ex]
  refine ⟨_,_,rfl,⟨_,rfl⟩,?_,kp.lay.set (.inr (Nat.le_refl _))⟩
  rw [cj (by rw [List.length_append];exact Nat.lt_of_lt_of_le lt (Nat.le_add_right _ _)),uJ,List.flatMap_append,List.filter_append,show (0:Int)+(t:Int)+1=1+(t:Int) by omega]
  simp
 ·rintro τ S1 ⟨⟨a3,rfl⟩,hL,kp⟩
  simp only [bx,bools]
  refine ⟨_,_,rfl,?_,kp⟩
  rw [hL,show 1+(((n:Int) - 0).toNat:Int)=1+((((n - 1)+1:Nat)):Int) by omega,uJ,List.flatMap_append,t9]
  have e:iF (1+((n - 1:Nat):Int)) ((n:Int)+1)=[]:=by
   unfold iF aX
   rw [show ((n:Int)+1 - (1+((n - 1:Nat):Int)+1)).toNat=0 by omega];rfl
  rw [show (1:Int)+((n - 1:Nat):Int)=n by omega] at e ⊢
  simp [e]
open Bl
theorem A4 {xs:List Int} {i:Nat} (h:i<=xs.length):(aX ((i:Int)+1) ((xs.length:Int)+1)).map (fun j=>xs.getD (j - 1).toNat 0)=xs.drop i:=by
 apply List.ext_getElem?
 intro p
 rw [List.getElem?_map,List.getElem?_drop]
 by_cases c:i+p < xs.length
 ·have:(aX ((i:Int)+1) ((xs.length:Int)+1))[p]?=some ((i:Int)+1+p):=by
   unfold aX
   rw [List.getElem?_map,List.getElem?_range (by omega)];rfl
  rw [this]
  show some (xs.getD ((i:Int)+1+p - 1).toNat 0)=_
  rw [show ((i:Int)+1+p - 1).toNat=i+p by omega,<- Iv.iV c]
 ·rw [List.getElem?_eq_none (by rw [bU];omega),List.getElem?_eq_none (by omega)];rfl
theorem E9 {xs:List Int} {i:Nat} (h:i < xs.length):((iF ((i:Int)+1) ((xs.length:Int)+1)).filter (wg xs)).length=(xs.drop (i+1)).countP fun y=>decide (y < xs.getD i 0):=by
 rw [<- A4 (xs:=xs) (i:=i+1) (by omega),List.countP_map,<- List.countP_eq_length_filter]
 unfold iF
 rw [List.countP_map,show (((i+1:Nat):Int))=(i:Int)+1 by omega]
 refine List.countP_congr fun j _=>?_
 show wg xs (.tup [.int ((i:Int)+1),.int j])=true ↔ decide (xs.getD (j - 1).toNat 0 < xs.getD i 0)=true
 show decide (xs.getD ((i:Int)+1 - 1).toNat 0 > xs.getD (j - 1).toNat 0)=true ↔ _
 rw [show ((i:Int)+1 - 1).toNat=i by omega]
theorem tM {xs:List Int}:∀ (k i:Nat),i+k=xs.length->(((List.range' i k).flatMap fun q:Nat=>iF ((q:Int)+1) ((xs.length:Int)+1)).filter (wg xs)).length=Iv.inv (xs.drop i)
 | 0,i,h=>by rw [List.drop_of_length_le (by omega)];rfl
 | k+1,i,h=>by
  have hi:i < xs.length:=by omega
  rw [List.range'_succ,List.flatMap_cons,List.filter_append,List.length_append,E9 hi,tM k (i+1) (by omega)]
  have:xs.drop i=xs.getD i 0::xs.drop (i+1):=by
   rw [List.drop_eq_getElem_cons hi]
   congr 1
   have:=Iv.iV hi
   rw [List.getElem?_eq_getElem hi] at this
   exact Option.some.inj this
  rw [this];rfl
theorem Iw {xs:List Int} {n:Nat} (hl:xs.length=n) (h1:1<=n):((prs n).filter (wg xs)).length=Iv.inv xs:=by
 have h:=tM (xs:=xs) n 0 (by omega)
 rw [List.drop_zero] at h
 rw [<- h,t9,hl]
 have e:(aX 1 (n:Int)).flatMap (fun i=>iF i ((n:Int)+1))=(List.range' 0 n).flatMap fun q:Nat=>iF ((q:Int)+1) ((n:Int)+1):=by
  obtain ⟨m,rfl⟩:∃ m,n=m+1:=⟨n - 1,by omega⟩
  rw [List.range'_concat,List.flatMap_append]
  have z:iF (((0+1 * m:Nat):Int)+1) (((m+1:Nat):Int)+1)=[]:=by
   unfold iF aX
   rw [show (((m+1:Nat):Int)+1 - ((((0+1 * m:Nat):Int)+1)+1)).toNat=0 by omega];rfl
  rw [List.flatMap_cons,z]
  unfold aX
  rw [show (((m+1:Nat):Int) - 1).toNat=m by omega,List.flatMap_map,List.range_eq_range']
  simp only [List.flatMap_nil,List.append_nil]
  congr 1
  funext q
  rw [Int.add_comm]
 rw [e]
theorem Km {S:aE} {a:List Int} {i j:Nat} (hij:i < j) (hj:j < a.length) (hl:a.length<=1000):∃ S',bu [.tup (a.map .int),.int ((i:Int)+1),.int ((j:Int)+1)] S=.ok (.tup ((Iv.sw a i j).map .int)) S'/\fH S S':=by
 have a1:fB (a.map A.int) (j:Int)=some (.int (a.getD j 0)):=Lv rfl hj
 have a2:fB (a.map A.int) (i:Int)=some (.int (a.getD i 0)):=Lv rfl (by omega)
 have x1:oE a.length (i:Int)=some i:=gJ rfl (by omega)
 have x2:oE a.length (j:Int)=some j:=gJ rfl hj
 have hL:ak (S++[O.lst (a.map .int)]) S.length=some (a.map .int):=aS
 have lS:∀ ys,ak ((S++[O.lst (a.map .int)]).set S.length (.lst ys)) S.length=some ys:=fun ys=>cj (by simp)
 have em:((a.map A.int).set i (.int (a.getD j 0))).set j (.int (a.getD i 0))=(Iv.sw a i j).map .int:=by unfold Iv.sw;rw [List.map_set,List.map_set]
 unfold bu dN gv
 simp only [bx,bools,gH,Nat.reduceAdd,Nat.reduceSub,hL,show (j:Int)+1 - 1=j by omega,show (i:Int)+1 - 1=i by omega,a1,a2,cZ (show 2<=sizeLine by decide),cZ (show 2=2 from rfl),List.length_map,x1,lS,List.length_set,x2,em]
 rw [cj (by simp)]
 simp only [bx,bools]
 exact ⟨_,rfl,((Kp.refl.lay).set (.inr (Nat.le_refl _))).set (.inr (Nat.le_refl _))⟩
open Stp
noncomputable abbrev aW (w:List Int):A:=.tup (w.map .int)
noncomputable def pA (p:Nat×Nat):A:=.tup [.int ((p.1:Int)+1),.int ((p.2:Int)+1)]
noncomputable def EF (n i:Nat):List (Nat×Nat):=(List.range' (i+1) (n - (i+1))).map fun j=>(i,j)
noncomputable def Jo (n:Nat):List (Nat×Nat):=(List.range n).flatMap (EF n)
theorem y_ {n:Nat} {p:Nat×Nat} (h:p∈Jo n):p.1 < p.2/\p.2 < n:=by
 obtain ⟨i,hi,h⟩:=List.mem_flatMap.mp h
 obtain ⟨j,hj,rfl⟩:=List.mem_map.mp h
 have:=List.mem_range.mp hi
 rw [List.mem_range'_1] at hj
 exact ⟨by show i < j;omega,by show j < n;omega⟩
theorem E7 {n i j:Nat} (h1:i < j) (h2:j < n):(i,j)∈Jo n:=
 List.mem_flatMap.mpr ⟨i,List.mem_range.mpr (by omega),List.mem_map.mpr ⟨j,List.mem_range'_1.mpr (by omega),rfl⟩⟩
theorem zf {n:Nat} (h1:1<=n):prs n=(Jo n).map pA:=by
 have e1:List.range n=List.range (n - 1)++[n - 1]:=by rw [<- List.range_succ,Nat.succ_eq_add_one,show n - 1+1=n by omega]
 have e2:EF n (n - 1)=[]:=by unfold EF;rw [show n - (n - 1+1)=0 by omega];rfl
 unfold Jo
 rw [e1,List.flatMap_append,List.flatMap_cons,List.flatMap_nil,e2,List.append_nil,List.append_nil,List.map_flatMap]
 unfold prs
 have e3:aX 1 (n:Int)=(List.range (n - 1)).map fun q:Nat=>(1:Int)+q:=by
  unfold aX
  rw [show ((n:Int) - 1).toNat=n - 1 by omega]
 rw [e3,List.flatMap_map]
 congr 1
 funext i
 unfold EF aX
 rw [List.map_map,List.map_map,List.range'_eq_map_range,List.map_map,show ((n:Int)+1 - (1+(i:Int)+1)).toNat=n - (i+1) by omega]
 refine List.map_congr_left fun q _=>?_
 show A.tup [.int (1+(i:Int)),.int (1+(i:Int)+1+(q:Int))]=A.tup [.int ((i:Int)+1),.int (((i+1+q:Nat):Int)+1)]
 rw [show (1:Int)+(i:Int)=(i:Int)+1 by omega,show ((i:Int)+1+1+(q:Int))=(((i+1+q:Nat):Int)+1) by omega]
theorem JM {a:List Int} {i j:Nat} (hij:i < j) (hj:j < a.length):kc (a.map A.int) (some ((i:Int)+1)) (some ((j:Int)+1 - 1))=(mm a i j).map .int:=by
 unfold kc mm
 have l:(a.map A.int).length=a.length:=List.length_map ..
 have s1:HT.dU (a.map A.int).length 0 (some ((i:Int)+1))=i+1:=by
  rw [show (i:Int)+1=((i+1:Nat):Int) by omega,HT.kN,l];omega
 have s2:HT.dU (a.map A.int).length (a.map A.int).length (some ((j:Int)+1 - 1))=j:=by
  rw [show (j:Int)+1 - 1=(j:Int) by omega,HT.kN,l];omega
 rw [s1,s2,List.map_take,List.map_drop,show j - (i+1)=j - i - 1 by omega]
theorem MX {f g:A->A->aE->R A} {ca cb cc:Ex} {τ:List A} {S:aE} {a b c:A} (h1:ca τ S=.ok a S) (h2:cb τ S=.ok b S) (h3:f a b S=.ok (.bl true) S) (h4:cc τ S=.ok c S):Ff f g ca cb cc τ S=g b c S:=by
 unfold Ff;rw [h1,R.dz,h2,R.dz,h3,R.dz];unfold N5;show (cc τ S).bind _=_;rw [h4];rfl
theorem MZ {f g:A->A->aE->R A} {ca cb cc:Ex} {τ:List A} {S:aE} {a b:A} (h1:ca τ S=.ok a S) (h2:cb τ S=.ok b S) (h3:f a b S=.ok (.bl false) S):Ff f g ca cb cc τ S=.ok (.bl false) S:=by
 unfold Ff;rw [h1,R.dz,h2,R.dz,h3,R.dz];rfl
theorem Cv {S:aE} {n:Nat} {xs:List A} {bs:List Bool} (h:ak S n=some xs) (hb:A.Ed xs=some bs):A3 (.ref n) S=.ok (.bl (bs.any fun b=>b)) S:=by
 show opt (ak S n) _=_
 rw [h]
 show opt (A.Ed xs) _=_
 rw [hb];rfl
theorem v_ {α:Type} (f:α->Bool):∀ (xs:List α),A.Ed (xs.map fun x=>.bl (f x))=some (xs.map f)
 | []=>rfl
 | x::xs=>by rw [List.map_cons,l_,v_ f xs];rfl
theorem EE {S:aE} {a:List Int} {i j:Nat} (hij:i < j) (hj:j < a.length) (hl:a.length<=20):dW [.tup (a.map .int),.int ((i:Int)+1),.int ((j:Int)+1)] S=.ok (.bl (Aj a i j)) (S++[.lst ((mm a i j).map fun m=>.bl (rZ (if a.getD j 0 < a.getD i 0 then a.getD j 0 else a.getD i 0) (if a.getD j 0 > a.getD i 0 then a.getD j 0 else a.getD i 0) m))]):=by
 have a1:fB (a.map A.int) (j:Int)=some (.int (a.getD j 0)):=Lv rfl hj
 have a2:fB (a.map A.int) (i:Int)=some (.int (a.getD i 0)):=Lv rfl (by omega)
 obtain ⟨x,hx⟩:∃ x,x=(if a.getD j 0 < a.getD i 0 then a.getD j 0 else a.getD i 0):=⟨_,rfl⟩
 obtain ⟨y,hy⟩:∃ y,y=(if a.getD j 0 > a.getD i 0 then a.getD j 0 else a.getD i 0):=⟨_,rfl⟩
 have lm:(mm a i j).length<=20:=by unfold mm;rw [List.length_take,List.length_drop];omega
 have ec:=sO (cap:=[some 3,some 4]) (src:=fK (Kz (ah 0) (mW (ah 1)) (mW (aH aSub (ah 2) (eC (.int 1)))))) (e:=Ff yd yd (ah 1) (ah 0) (ah 2)) (τ:=[.tup (a.map .int),.int ((i:Int)+1),.int ((j:Int)+1),.int x,.int y]) (S:=S) (S1:=S) (xs:=(mm a i j).map .int)
  (IP (by
   simp only [bx,bools]
   have hg:¬ (HT.dU (a.map A.int).length 0 (some ((i:Int)+1))=0/\HT.dU (a.map A.int).length (a.map A.int).length (some ((j:Int)+1 - 1))=(a.map A.int).length):=by
    rw [show (i:Int)+1=((i+1:Nat):Int) by omega,HT.kN,List.length_map]
    omega
   have hs:Ky (.tup (a.map .int)) (some ((i:Int)+1)) (some ((j:Int)+1 - 1)) S=.ok (.tup (kc (a.map .int) (some ((i:Int)+1)) (some ((j:Int)+1 - 1)))) S:=cZ hg
   rw [hs,JM hij hj]))
  (fun z=>match z with | .int m=>.bl (rZ x y m) | _=>.non) (fun z hz=>by
   obtain ⟨m,_,rfl⟩:=List.mem_map.mp hz
   show Ff yd yd (ah 1) (ah 0) (ah 2) [.int m,.int x,.int y] S=.ok (.bl (rZ x y m)) S
   unfold rZ
   by_cases c:x < m
   ·rw [MX (a:=.int x) (b:=.int m) (c:=.int y) rfl rfl (by simp only [bx,decide_eq_true c]) rfl,decide_eq_true c,Bool.true_and]
    simp only [bx]
   ·rw [MZ (a:=.int x) (b:=.int m) rfl rfl (by simp only [bx,decide_eq_false c]),decide_eq_false c];rfl) (by rw [List.length_map];omega)
 rw [List.map_map,show ((fun z=>match z with | .int m=>A.bl (rZ x y m) | _=>.non) ∘ A.int:Int->A)=(fun m=>A.bl (rZ x y m)) from rfl] at ec
 unfold dW lZ p6
 simp only [bx,bools,gH,Nat.reduceAdd,Nat.reduceSub,show (j:Int)+1 - 1=j by omega,show (i:Int)+1 - 1=i by omega,a1,a2,<- hx,<- hy,ec]
 rw [Cv aS (v_ (rZ x y) (mm a i j))]
 simp only [bx,bools]
 unfold Aj
 rw [<- hx,<- hy,List.any_map]
 rfl
end K18
namespace K18
open PySem L2 Am
open Stp
theorem yC:∀ {ls:List (List Int)},(∀ l∈ls,l≠[])->JA (ls.map aW)=some ls
 | [],_=>rfl
 | l::ls,h=>by
  have hl:=h l (List.mem_cons_self ..)
  have ih:=yC fun k hk=>h k (List.mem_cons_of_mem _ hk)
  show JA (.tup (l.map .int)::ls.map aW)=_
  unfold JA
  rw [ints_map]
  cases l with
  | nil=>exact absurd rfl hl
  | cons k ks=>dsimp only;rw [ih];rfl
theorem yw {S:aE} {n:Nat} {ls:List (List Int)} (h:ak S n=some (ls.map aW)) (hne:∀ l∈ls,l≠[]):kM (.ref n) S=.ok (.ref S.length) (S++[.lst ((fF ls).map aW)]):=by
 cases ls with
 | nil=>
  have e:Mc (.ref n) S=false:=by
   show (match ak S n with
    | some (.tup _::_)=>true
    | _=>false)=_
   rw [h];rfl
  unfold kM
  rw [e]
  show opt (ak S n) _=_
  rw [h];rfl
 | cons l ls=>
  have e:Mc (.ref n) S=true:=by
   show (match ak S n with
    | some (.tup _::_)=>true
    | _=>false)=_
   rw [h];rfl
  unfold kM
  rw [e]
  show rD n S=_
  unfold rD
  rw [h,bA,yC hne,bA]
theorem KJ {a:List Int} {i j:Nat} (h:1<=a.length):Iv.sw a i j≠[]:=fun z=>by
 have:=Iv.HX a i j
 rw [z,List.length_nil] at this
 omega
theorem rH {α β:Type} (ls:List α) (p:α->Bool) (f:α->β) (d:α):((List.range ls.length).filter fun i=>p (ls.getD i d)).map (fun i=>f (ls.getD i d))=(ls.filter p).map f:=by
 have e:ls=(List.range ls.length).map fun i=>ls.getD i d:=(range_getD ls d).symm
 conv=>rhs;rw [e,List.filter_map,List.map_map]
 rfl
noncomputable def stp (a:List Int) (ps:List (Nat×Nat)):List (List Int):=(ps.filter fun p=>Aj a p.1 p.2).map fun p=>Iv.sw a p.1 p.2
theorem AA {S:aE} {a:List Int} {P:Nat} {ps:List (Nat×Nat)} (hp:ak S P=some (ps.map pA)) (hps:∀ p∈ps,p.1 < p.2/\p.2 < a.length) (h1:1<=a.length) (hl:a.length<=20) (hlen:ps.length<=16777216) :
  ∃ (R:Nat) (S':aE),jO [aW a,.ref P] S=.ok (.ref R) S'/\ak S' R=some ((fF (stp a ps)).map aW)/\fH S S'/\S.length<=R:=by
 have pm:∀ i,i < ps.length->ps.getD i (0,0)∈ps:=fun i hi=>by rw [List.getD_eq_getElem?_getD,List.getElem?_eq_getElem hi];exact List.getElem_mem hi
 have lm:(ps.map pA).length=ps.length:=List.length_map ..
 obtain ⟨S',g1,g2,g3⟩:=iS (s:=d8 P (ps.map pA).length) (g:=pO 2 (iI (bF 0) (iI (bF 1) (pQ)))) (t:=ji (eFn dW (aj (ah 2) (aj (ah 0) (aj (ah 1) (aJ)))))) (e:=eFn bu (aj (ah 2) (aj (ah 0) (aj (ah 1) (aJ)))))
  (P:=fun S1=>ak S1 P=some (ps.map pA)/\fH S S1) (T:=fun τ'=>∃ y z,τ'=[y,z,aW a])
  (fun i=>pA (ps.getD i (0,0))) (fun i=>Aj a (ps.getD i (0,0)).1 (ps.getD i (0,0)).2) (fun i=>aW (Iv.sw a (ps.getD i (0,0)).1 (ps.getD i (0,0)).2))
  (fun i S1 hi k=>by
   have hi:i < ps.length:=by rw [<- lm];exact hi
   show (ak S1 P).bind _=_
   rw [k.1,Option.bind_some,List.getElem?_map,List.getD_eq_getElem?_getD,List.getElem?_eq_getElem hi];rfl)
  (fun S1 k=>by
   show (match ak S1 P with
    | some ys=>decide (ys.length<=(ps.map pA).length)
    | none=>false)=true
   rw [k.1]
   simp)
  (fun i τ' S1 hi ⟨y,z,hy⟩ k=>by
   have hi:i < ps.length:=by rw [<- lm];exact hi
   subst hy
   obtain ⟨q1,q2⟩:=hps _ (pm i hi)
   obtain ⟨p,hpe⟩:∃ p,p=ps.getD i (0,0):=⟨_,rfl⟩
   rw [<- hpe] at q1 q2 ⊢
   have s1:=EE (S:=S1) q1 q2 hl
   have k1:fH S1 (S1++[.lst ((mm a p.1 p.2).map fun m=>.bl (rZ (if a.getD p.2 0 < a.getD p.1 0 then a.getD p.2 0 else a.getD p.1 0) (if a.getD p.2 0 > a.getD p.1 0 then a.getD p.2 0 else a.getD p.1 0) m))]):=Kp.refl.lay
   obtain ⟨S2,hS2⟩:∃ S2,S2=S1++[.lst ((mm a p.1 p.2).map fun m=>.bl (rZ (if a.getD p.2 0 < a.getD p.1 0 then a.getD p.2 0 else a.getD p.1 0) (if a.getD p.2 0 > a.getD p.1 0 then a.getD p.2 0 else a.getD p.1 0) m))]:=⟨_,rfl⟩
   rw [<- hS2] at s1 k1
   obtain ⟨S3,e3,k3⟩:=Km (S:=S2) q1 q2 (by omega)
   refine ⟨[.int ((p.1:Int)+1),.int ((p.2:Int)+1),aW a],S1,S2,?_,?_,⟨_,_,rfl⟩,fun _=>⟨k1.lst _ _ (fun z=>z) k.1,k.2.trans k1⟩,fun _=>⟨S3,?_,(k1.trans k3).lst _ _ (fun z=>z) k.1,(k.2.trans k1).trans k3⟩⟩
   ·show pO 2 (iI (bF 0) (iI (bF 1) (pQ))) (.tup [.int ((p.1:Int)+1),.int ((p.2:Int)+1)]) _ _=_
    simp only [bx,uM,bools,cZ (show ([_,_]:List A).length=2 from rfl)]
   ·simp only [bx,uM,bools,s1]
   ·simp only [bx,uM,bools,e3])
  (ps.map pA).length 0 (eT [none,none,some 0] [aW a,.ref P]) S rfl ⟨_,_,rfl⟩ ⟨hp,Kp.refl⟩
 rw [lm,<- List.range_eq_range',rH ps (fun p=>Aj a p.1 p.2) (fun p=>aW (Iv.sw a p.1 p.2)) (0,0)] at g1
 have e1:(ps.filter fun p=>Aj a p.1 p.2).map (fun p=>aW (Iv.sw a p.1 p.2))=(stp a ps).map aW:=by unfold stp;rw [List.map_map];rfl
 rw [e1] at g1
 have ll:((stp a ps).map aW).length<=16777216:=by
  unfold stp
  rw [List.length_map,List.length_map]
  exact Nat.le_trans (List.length_filter_le _ _) hlen
 have ec:bW [none,none,some 0] (fK (ah 1)) (pO 2 (iI (bF 0) (iI (bF 1) (pQ)))) (ji (eFn dW (aj (ah 2) (aj (ah 0) (aj (ah 1) (aJ)))))) (eFn bu (aj (ah 2) (aj (ah 0) (aj (ah 1) (aJ))))) [aW a,.ref P] S=.ok (.ref S'.length) (S'++[.lst ((stp a ps).map aW)]):=by
  unfold bW
  rw [jk (S1:=S) (by simp only [bx,uM,bools]) hp,R.dz]
  show R.dc (eB (d8 P (ps.map pA).length) _ _ _ (ps.map pA).length 0 _ _) _=_
  rw [lm,g1,R.cU,bX ll]
 have so:=yw (S:=S'++[.lst ((stp a ps).map aW)]) (n:=S'.length) aS fun l hl=>by
  unfold stp at hl
  obtain ⟨p,_,rfl⟩:=List.mem_map.mp hl
  exact KJ h1
 refine ⟨(S'++[O.lst ((stp a ps).map aW)]).length,(S'++[O.lst ((stp a ps).map aW)])++[.lst ((fF (stp a ps)).map aW)],?_,aS,g3.lay.lay,by have:=g3.len;rw [List.length_append];omega⟩
 unfold jO rm xV
 simp only [bx,uM,bools,gH,Nat.reduceAdd,Nat.reduceSub,ec,so]
theorem FJ {n:Nat} (h1:1<=n) (h:n<=20):(Jo n).length<=16777216:=by
 have:=xm (n:=(n:Int)) (by omega) (by omega)
 rw [zf h1,List.length_map] at this
 exact this
theorem FY {n:Nat} (h1:1<=n) (q:A->Bool):(prs n).filter q=((Jo n).filter fun p=>q (pA p)).map pA:=by
 rw [zf h1,List.filter_map];rfl
noncomputable def ups (a:List Int):List (Nat×Nat):=(Jo a.length).filter fun p=>decide (a.getD p.1 0 < a.getD p.2 0)
theorem BK {S:aE} {a:List Int} (h1:1<=a.length) (hl:a.length<=20):∃ (R:Nat) (S':aE),cW [aW a] S=.ok (.ref R) S'/\ak S' R=some ((fF (stp a (ups a))).map aW)/\fH S S'/\S.length<=R:=by
 have eq:=CH (S:=S) (n:=(a.length:Int)) (by omega) (by omega)
 have hL:ak (S++[O.lst (prs a.length)]) S.length=some (prs a.length):=aS
 obtain ⟨S',g1,g2⟩:=iS (s:=d8 S.length (prs a.length).length) (g:=pO 2 (iI (bF 0) (iI (bF 1) (pQ)))) (t:=iW (aH yd (aH fG (ah 2) (aH aSub (ah 0) (eC (.int 1)))) (aH fG (ah 2) (aH aSub (ah 1) (eC (.int 1)))))) (e:=fM (aj (ah 0) (aj (ah 1) (aJ))))
  (P:=fun S1=>S1=S++[O.lst (prs a.length)]) (T:=fun τ'=>∃ y z,τ'=[y,z,aW a])
  (fun i=>(prs a.length).getD i .unb) (fun i=>match (prs a.length).getD i .unb with | .tup [.int i,.int j]=>decide (a.getD (i - 1).toNat 0 < a.getD (j - 1).toNat 0) | _=>false) (fun i=>(prs a.length).getD i .unb)
  (fun i S1 hi k=>by
   have hi:i < (prs a.length).length:=hi
   show (ak S1 S.length).bind _=_
   rw [k,hL,Option.bind_some,List.getD_eq_getElem?_getD,List.getElem?_eq_getElem hi];rfl)
  (fun S1 k=>by
   show (match ak S1 S.length with
    | some ys=>decide (ys.length<=(prs a.length).length)
    | none=>false)=true
   rw [k,hL]
   simp)
  (fun i τ' S1 hi ⟨y,z,hy⟩ k=>by
   have hi:i < (prs a.length).length:=hi
   subst hy k
   have hm:(prs a.length).getD i .unb∈prs a.length:=by rw [List.getD_eq_getElem?_getD,List.getElem?_eq_getElem hi];exact List.getElem_mem hi
   obtain ⟨u,c,q1,q2,q3,eac⟩:=FL.mp hm
   rw [eac]
   have x1:fB (a.map A.int) (u - 1)=some (.int (a.getD (u - 1).toNat 0)):=Mi (by omega) (by omega)
   have x2:fB (a.map A.int) (c - 1)=some (.int (a.getD (c - 1).toNat 0)):=Mi (by omega) (by omega)
   refine ⟨[.int u,.int c,aW a],S++[O.lst (prs a.length)],S++[O.lst (prs a.length)],by simp only [bx,uM,bools,cZ (show ([_,_]:List A).length=2 from rfl)],by simp only [bx,uM,bools,x1,x2],⟨_,_,rfl⟩,fun _=>rfl,fun _=>⟨_,by simp only [bx,uM,bools,fJ (show ([_,_]:List A).length<=16777216 by simp)],rfl⟩⟩)
  (prs a.length).length 0 (eT [none,none,some 0] [aW a]) (S++[O.lst (prs a.length)]) rfl ⟨_,_,rfl⟩ rfl
 subst g2
 rw [<- List.range_eq_range',rH (prs a.length) (fun z=>match z with | .tup [.int i,.int j]=>decide (a.getD (i - 1).toNat 0 < a.getD (j - 1).toNat 0) | _=>false) (fun q=>q) .unb,List.map_id'] at g1
 have ef:(prs a.length).filter (fun z=>match z with | .tup [.int i,.int j]=>decide (a.getD (i - 1).toNat 0 < a.getD (j - 1).toNat 0) | _=>false)=(ups a).map pA:=by
  rw [FY h1]
  have:(fun p=>(fun z=>match z with | .tup [.int i,.int j]=>decide (a.getD (i - 1).toNat 0 < a.getD (j - 1).toNat 0) | _=>false) (pA p))=fun p:Nat×Nat=>decide (a.getD p.1 0 < a.getD p.2 0):=by
   funext p
   show decide (a.getD ((p.1:Int)+1 - 1).toNat 0 < a.getD ((p.2:Int)+1 - 1).toNat 0)=_
   rw [show ((p.1:Int)+1 - 1).toNat=p.1 by omega,show ((p.2:Int)+1 - 1).toNat=p.2 by omega]
  rw [this];rfl
 rw [ef] at g1
 have lu:(ups a).length<=16777216:=Nat.le_trans (List.length_filter_le _ _) (FJ h1 hl)
 have ec:bW [none,none,some 0] (fK (eFn bN (aj (aV (f1 eg) (aj (ah 0) (aJ))) (aJ)))) (pO 2 (iI (bF 0) (iI (bF 1) (pQ)))) (iW (aH yd (aH fG (ah 2) (aH aSub (ah 0) (eC (.int 1)))) (aH fG (ah 2) (aH aSub (ah 1) (eC (.int 1)))))) (fM (aj (ah 0) (aj (ah 1) (aJ)))) [aW a] S=.ok (.ref (S++[O.lst (prs a.length)]).length) ((S++[O.lst (prs a.length)])++[.lst ((ups a).map pA)]):=by
  unfold bW
  rw [jk (S1:=S++[O.lst (prs a.length)]) (by simp only [bx,uM,bools,List.length_map,eq]) hL,R.dz]
  show R.dc (eB (d8 S.length (prs a.length).length) _ _ _ (prs a.length).length 0 _ _) _=_
  rw [g1,R.cU,bX (by rw [List.length_map];exact lu)]
 have k1:fH S ((S++[O.lst (prs a.length)])++[.lst ((ups a).map pA)]):=Kp.refl.lay.lay
 have l1:ak ((S++[O.lst (prs a.length)])++[.lst ((ups a).map pA)]) (S++[O.lst (prs a.length)]).length=some ((ups a).map pA):=aS
 obtain ⟨R,S2,e2,g2,k2,b2⟩:=AA (a:=a) l1 (fun p hp=>y_ (List.mem_filter.mp hp).1) h1 hl lu
 refine ⟨R,S2,?_,g2,k1.trans k2,Nat.le_trans k1.len b2⟩
 unfold cW g_ jX
 simp only [bx,uM,bools,gH,Nat.reduceAdd,Nat.reduceSub,ec,e2]
theorem Od {S:aE} {a:List Int} (h1:1<=a.length) (hl:a.length<=20):∃ (D:Nat) (S':aE),cI [aW a] S=.ok (.ref D) S'/\(∃ xs,ak S' D=some xs/\xs.length=Iv.inv a)/\fH S S':=by
 obtain ⟨D,S',e,g,k⟩:=JF (S:=S) (n:=a.length) (xs:=a) (v:=aW a) rfl (fun T _=>⟨by simp only [bx,List.length_map],fun i x h=>by simp only [bx,h]⟩) rfl h1 hl
 exact ⟨D,S',e,⟨_,g,Iw rfl h1⟩,k⟩
end K18
namespace K18
open PySem L2 Am
open Bl
theorem kC {S:aE} {xs ys:List Int} (h:xs.length=ys.length):cG [.tup (xs.map .int),.tup (ys.map .int)] S=.ok .non S:=by
 unfold cG jj mY
 simp only [bx,bools,gH,Nat.reduceAdd,Nat.reduceSub,List.length_map,h,beq_self_eq_true,Bool.not_true]
theorem Bq {S:aE} {L:Nat} {ms:List Int} (hL:ak S L=some (ms.map .int)) (hp:∃ m∈ms,0 < m) (hms:ms.length<=1000):∃ j:Nat,bC [.ref L] S=.ok (.int ((j:Int)+1)) S/\(∃ m,ms[j]?=some m/\0 < m)/\∀ (k:Nat) (m:Int),k < j->ms[k]?=some m->m<=0:=by
 unfold bC dh fE
 simp only [bx,bools,gH,Nat.reduceAdd,Nat.reduceSub]
 refine jg (fun τ S'=>S'=S/\∃ p:Nat,p < ms.length/\τ=[.ref L,.int ((p:Int)+1)]/\∀ (k:Nat) (m:Int),k < p->ms[k]?=some m->m<=0)
  (fun τ _=>match τ with
   | [_,.int i]=>(ms.length+1) - i.toNat
   | _=>0)
  (fun r=>∃ j:Nat,RS.end (RS.seq r _)=.ok (.int ((j:Int)+1)) S/\(∃ m,ms[j]?=some m/\0 < m)/\∀ (k:Nat) (m:Int),k < j->ms[k]?=some m->m<=0) ?_ 1000000 _ _ ⟨rfl,0,?_,rfl,fun k m hk=>absurd hk (Nat.not_lt_zero _)⟩ ?_
 ·rintro τ S' ⟨rfl,p,hpl,rfl,hall⟩
  have ha:fB (ms.map A.int) ((p:Int)+1 - 1)=some (.int ms[p]):=cu (k:=p) (by omega) (List.getElem?_eq_getElem hpl)
  unfold eo eG
  simp only [bx,bools,hL,ha]
  by_cases h0:ms[p]<=0
  ·right
   refine ⟨S',by rw [decide_eq_true h0],.inl ⟨_,_,rfl,⟨rfl,p+1,?_,congrArg (fun z=>[A.ref L,A.int z]) (by omega),fun k m hk hm=>?_⟩,?_⟩⟩
   ·obtain ⟨m,hm,hm0⟩:=hp
    obtain ⟨k,hk,e⟩:=List.mem_iff_getElem.mp hm
    have:¬ k<=p:=fun hkp=>by
     rcases Nat.lt_or_ge k p with h | h
     ·have:=hall k m h (by rw [List.getElem?_eq_getElem hk,e])
      omega
     ·have:k=p:=by omega
      subst this
      omega
    omega
   ·rcases Nat.lt_or_ge k p with h | h
    ·exact hall k m h hm
    ·have:k=p:=by omega
     subst this
     rw [List.getElem?_eq_getElem hpl] at hm
     cases hm
     exact h0
   ·show ms.length+1 - ((p:Int)+1+1).toNat < ms.length+1 - ((p:Int)+1).toNat
    omega
  ·left
   refine ⟨S',by rw [decide_eq_false h0],p,by simp only [bx,bools],⟨ms[p],List.getElem?_eq_getElem hpl,by omega⟩,hall⟩
 ·obtain ⟨m,hm,_⟩:=hp
  exact List.length_pos_of_mem hm
 ·show ms.length+1 - (1:Int).toNat < 1000000
  omega
theorem t_ {f:A->A->aE->R A} {d:Int} (hf:∀ (m:Int) S,f (.int m) (.int 1) S=.ok (.int (m+d)) S) {src:Ic} {L:Nat} {ms:List Int} {a0 a1 a3 a4:A} {x:Int} {S:aE} {Post:RS->Prop} (hx0:0<=x) (hx:x<=ms.length)
  (hsrc:src [a0,a1,.ref L,a3,a4] S=.ok (cM 0 x) S) (hL:ak S L=some (ms.map .int)) (fin:∀ a4' S',ak S' L=some ((dI x.toNat d ms).map .int)->Kp (·=L) S S'->Post (.nx [a0,a1,.ref L,a3,a4'] S')) :
  Post (gp src (bF 4) (oQ (ah 2) (ah 4) (eC (.int 1)) f) [a0,a1,.ref L,a3,a4] S):=by
 refine fN (lo:=0) (hi:=x) hsrc (fun i τ S'=>∃ a4',τ=[a0,a1,.ref L,a3,a4']/\ak S' L=some ((dI i d ms).map .int)/\Kp (·=L) S S') Post ⟨a4,rfl,hL,Kp.refl⟩ ?_ ?_
 ·rintro i τ S' hi ⟨a4',rfl,hL',hk⟩
  left
  have hi':i < ms.length:=by omega
  have e1:((dI i d ms).map A.int)[((0:Int)+(i:Int)).toNat]?=some (.int ms[i]):=by
   rw [show ((0:Int)+(i:Int)).toNat=i by omega,List.getElem?_map,jI,List.getElem?_eq_getElem hi']
   simp
  have e2:oE (dI i d ms).length (0+(i:Int))=some i:=gJ (by omega) (by rw [lJ];exact hi')
  have lL:=cN hL'
  simp only [bx,bools,hL',cZ (show (0:Int)<=0+(i:Int) by omega),e1,hf,List.length_map,e2]
  refine ⟨_,_,rfl,_,rfl,?_,hk.set (.inl rfl)⟩
  rw [cj lL,<- oV i d ms ms[i] (List.getElem?_eq_getElem hi'),List.map_set]
 ·rintro τ S' ⟨a4',rfl,hL',hk⟩
  exact fin a4' S' (by rw [Int.sub_zero] at hL';exact hL') hk
noncomputable def yf (xs ys:List Int) (i j:Nat):Prop:=cnt (ys.take i) j < cnt (xs.take i) j/\(∀ i' j':Nat,i' < i->1<=j'->j'<=xs.length->cnt (xs.take i') j'<=cnt (ys.take i') j')/\∀ j':Nat,1<=j'->j' < j->cnt (xs.take i) j'<=cnt (ys.take i) j'
theorem HD {S:aE} {xs ys:List Int} {n:Nat} (px:xs.Perm (aX 1 ((n:Int)+1))) (py:ys.Perm (aX 1 ((n:Int)+1))) (h1:1<=n) (h2:n<=20):∃ S',((pC [.tup (xs.map .int),.tup (ys.map .int)] S=.ok .non S'/\Below xs ys) \/
  ∃ i j:Nat,pC [.tup (xs.map .int),.tup (ys.map .int)] S=.ok (.tup [.int i,.int j]) S'/\1<=i/\i<=n/\1<=j/\j<=n/\yf xs ys i j)/\fH S S':=by
 have lx:xs.length=n:=by have:=jv px (by omega);omega
 have ly:ys.length=n:=by have:=jv py (by omega);omega
 unfold pC Bo Ho
 simp only [bx,bools,gH,Nat.reduceAdd,Nat.reduceSub,kC (S:=S) (lx.trans ly.symm),List.length_map,lx]
 rw [A6 (k:=n) aS (by omega)]
 simp only [bx,bools]
 have hlen:(S++[O.lst [.int 0]]).length=S.length+1:=by simp
 rw [hlen]
 refine fN (lo:=0) (hi:=(n:Int)) (S1:=S++[O.lst [.int 0]]++[O.lst (List.replicate n (.int 0))]) ?_
  (fun t τ S'=>∃ a3 a4,τ=[.tup (xs.map .int),.tup (ys.map .int),.ref (S.length+1),a3,a4]/\ak S' (S.length+1)=some ((iH n xs ys t).map .int)/\fH S S'/\∀ i' j':Nat,i'<=t->1<=j'->j'<=n->cnt (xs.take i') j'<=cnt (ys.take i') j')
  (fun r=>∃ S',((RS.end (RS.seq r _)=.ok .non S'/\Below xs ys)\/∃ i j:Nat,RS.end (RS.seq r _)=.ok (.tup [.int i,.int j]) S'/\1<=i/\i<=n/\1<=j/\j<=n/\yf xs ys i j)/\fH S S') ⟨.unb,.unb,rfl,?_,Kp.refl.lay.lay,?_⟩ ?_ ?_
 ·refine eF ?_ (cL (by omega) (by omega))
  simp only [bx,bools,List.length_map,lx]
 ·rw [Ft,List.map_replicate,<- hlen];exact aS
 ·intro i' j' hi _ _
  have:i'=0:=by omega
  subst this
  simp [cnt]
 ·rintro t τ S' ht ⟨a3,a4,rfl,hL,hk,hok⟩
  have ht':t < n:=by omega
  have hx:t < xs.length:=by omega
  have hy:t < ys.length:=by omega
  have mx:=uq px (List.getElem_mem hx)
  have my:=uq py (List.getElem_mem hy)
  have ax:fB (xs.map A.int) (0+(t:Int))=some (.int xs[t]):=cu (k:=t) (by omega) (List.getElem?_eq_getElem hx)
  have ay:fB (ys.map A.int) (0+(t:Int))=some (.int ys[t]):=cu (k:=t) (by omega) (List.getElem?_eq_getElem hy)
  unfold yh
  simp only [bx,bools]
  obtain ⟨a4',S2,e2,hL2,hk2⟩:=t_ (f:=zL) (d:=1) (ms:=iH n xs ys t) (x:=xs[t]) (src:=zk) (a0:=.tup (xs.map .int)) (a1:=.tup (ys.map .int)) (a3:=.int (0+(t:Int))) (a4:=a4) (Post:=fun r=>∃ a4' S2,r=.nx [.tup (xs.map .int),.tup (ys.map .int),.ref (S.length+1),.int (0+(t:Int)),a4'] S2/\ak S2 (S.length+1)=some ((dI xs[t].toNat 1 (iH n xs ys t)).map .int)/\Kp (·=S.length+1) S' S2) (fun _ _=>rfl) (by omega) (by rw [eS];omega)
   (eF (by simp only [bx,bools,ax]) (cL (by omega) (by omega))) hL (fun a4' S2 h1 h2=>⟨a4',S2,rfl,h1,h2⟩)
  obtain ⟨a4'',S3,e3,hL3,hk3⟩:=t_ (f:=aSub) (d:=-1) (ms:=dI xs[t].toNat 1 (iH n xs ys t)) (x:=ys[t]) (src:=yc) (a0:=.tup (xs.map .int)) (a1:=.tup (ys.map .int)) (a3:=.int (0+(t:Int))) (a4:=a4') (Post:=fun r=>∃ a4'' S3,r=.nx [.tup (xs.map .int),.tup (ys.map .int),.ref (S.length+1),.int (0+(t:Int)),a4''] S3/\ak S3 (S.length+1)=some ((dI ys[t].toNat (-1) (dI xs[t].toNat 1 (iH n xs ys t))).map .int)/\Kp (·=S.length+1) S2 S3) (fun _ _=>rfl) (by omega) (by rw [lJ,eS];omega)
   (eF (by simp only [bx,bools,ay]) (cL (by omega) (by omega))) hL2 (fun a4' S2 h1 h2=>⟨a4',S2,rfl,h1,h2⟩)
  rw [vN hx hy] at hL3
  have hk':fH S S3:=(hk.old hk2 fun n hn _=>by omega).old hk3 fun n hn _=>by omega
  obtain ⟨m,em,m1,m2⟩:=D6 hL3 (by intro z;have:=congrArg List.length z;rw [eS] at this;simp at this;omega)
  simp only [show xK=oQ (ah 2) (ah 4) (eC (.int 1)) zL from rfl,show yV=oQ (ah 2) (ah 4) (eC (.int 1)) aSub from rfl,e2,e3,bx,bools,em]
  by_cases hm:0 < m
  ·right
   rw [decide_eq_true hm]
   obtain ⟨j,ej,⟨mj,hj1,hj2⟩,hj3⟩:=Bq hL3 ⟨m,m1,hm⟩ (by rw [eS];omega)
   simp only [bx,bools,ej,fJ (show ([_,_]:List A).length<=16777216 by simp)]
   have hjn:j < n:=by
    have:=(List.getElem?_eq_some_iff.mp hj1).1
    rwa [eS] at this
   refine ⟨_,_,rfl,S3,.inr ⟨t+1,j+1,?_,by omega,by omega,by omega,by omega,?_,?_,?_⟩,hk'⟩
   ·have e5:(0:Int)+(t:Int)+1=((t+1:Nat):Int):=by omega
    have e6:(j:Int)+1=((j+1:Nat):Int):=by omega
    rw [e5,e6]
   ·rw [iA hjn] at hj1
    cases hj1
    have:((j+1:Nat):Int)=(j:Int)+1:=by omega
    rw [this]
    omega
   ·intro i' j' hi' h1' h2'
    exact hok i' j' (by omega) h1' (by omega)
   ·intro j' h1' h2'
    have:=hj3 (j' - 1) _ (by omega) (iA (by omega))
    rw [show (((j' - 1:Nat):Int)+1)=(j':Int) by omega] at this
    omega
  ·left
   rw [decide_eq_false hm]
   simp only [bx,bools]
   refine ⟨_,_,rfl,_,_,rfl,hL3,hk',fun i' j' hi' h1' h2'=>?_⟩
   by_cases hi:i'<=t
   ·exact hok i' j' hi h1' h2'
   ·have:i'=t+1:=by omega
    subst this
    have:=m2 _ (List.mem_of_getElem? (iA (n:=n) (xs:=xs) (ys:=ys) (t:=t+1) (j:=j' - 1) (by omega)))
    rw [show (((j' - 1:Nat):Int)+1)=(j':Int) by omega] at this
    omega
 ·rintro τ S' ⟨a3,a4,rfl,hL,hk,hok⟩
  refine ⟨S',.inl ⟨by simp only [bx,bools],?_⟩,hk⟩
  refine (qd px py).mp fun i q hi hq=>?_
  have:=hok (i+1) (q+1) (by omega) (by omega) (by omega)
  exact this
theorem ur {S:aE} {xs ys:List Int} {n:Nat} (px:xs.Perm (aX 1 ((n:Int)+1))) (py:ys.Perm (aX 1 ((n:Int)+1))) (h1:1<=n) (h2:n<=20):∃ (k:Bool) (S':aE),cJ [.tup (xs.map .int),.tup (ys.map .int)] S=.ok (.bl k) S'/\(k=true ↔ Below xs ys)/\fH S S':=by
 obtain ⟨S',h | ⟨i,j,e,i1,i2,j1,j2,h,_⟩,hk⟩:=HD (S:=S) px py h1 h2
 ·refine ⟨true,S',?_,⟨fun _=>h.2,fun _=>rfl⟩,hk⟩
  unfold cJ iU kg
  simp only [bx,bools,gH,Nat.reduceAdd,Nat.reduceSub,h.1]
 ·refine ⟨false,S',?_,⟨fun z=>absurd z Bool.false_ne_true,fun z=>?_⟩,hk⟩
  ·unfold cJ iU kg
   simp only [bx,bools,gH,Nat.reduceAdd,Nat.reduceSub,e]
  ·have:=z i j
   omega
theorem Ad {S:aE} {b:Nat} {xs:List Int} {n:Nat} {most:Int} (h:lK S b) (px:xs.Perm (aX 1 ((n:Int)+1))) (h1:1<=n) (h2:n<=20) (m0:0<=most) (m1:most<=1000):∃ (ys:List Int) (S':aE),dm [.ref b,.tup (xs.map .int),.int most] S=.ok (.tup (ys.map .int)) S'/\ys.Perm (aX 1 ((n:Int)+1))/\Bl.Below xs ys/\lK S' b/\Kp (·=b) S S':=by
 have hbS:b < S.length:=by obtain ⟨_,_,e,_⟩:=h;exact cN e
 unfold dm iX kZ
 simp only [bx,bools,gH,Nat.reduceAdd,Nat.reduceSub]
 obtain ⟨m,S3,e3,d0,d1,hb3,hk3⟩:=digit (S:=S++[.lst (xs.map .int)]) (m:=most+1) (h.kp (c:=fun _=>False) Kp.refl.lay fun z=>z) (by omega) (by omega)
 have hL3:=hk3.lst S.length _ (by omega) aS
 refine fN (lo:=0) (hi:=m) (S1:=S3) (eF (by simp only [bx,bools,e3]) (cL (by omega) (by omega)))
  (fun _ τ S4=>∃ (x4 x5 x6:A) (fs:List Int),τ=[.ref b,.tup (xs.map .int),.int most,.ref S.length,x4,x5,x6]/\ak S4 S.length=some (fs.map .int)/\fs.Perm (aX 1 ((n:Int)+1))/\Bl.Below xs fs/\lK S4 b/\Kp (·=b) S S4)
  (fun r=>∃ (ys:List Int) (S':aE),RS.end (RS.seq r _)=.ok (.tup (ys.map .int)) S'/\ys.Perm (aX 1 ((n:Int)+1))/\Bl.Below xs ys/\lK S' b/\Kp (·=b) S S') ⟨_,_,_,xs,rfl,hL3,px,Bl.Below.refl _,hb3,Kp.refl.lay.trans hk3⟩ ?_ ?_
 ·rintro i τ S4 hi ⟨x4,x5,x6,fs,rfl,hL4,hp4,bl4,hb4,hk4⟩
  left
  have hlen:fs.length=n:=tP hp4
  obtain ⟨p,S5,e5,p0,p1,hb5,hk5⟩:=digit (m:=(fs.length:Int)) hb4 (by omega) (by omega)
  obtain ⟨q,S6,e6,q0,q1,hb6,hk6⟩:=digit (m:=(fs.length:Int)) hb5 (by omega) (by omega)
  have hL5:=hk5.lst S.length _ (by omega) hL4
  have hL6:=hk6.lst S.length _ (by omega) hL5
  have lL6:=cN hL6
  unfold jB
  simp only [bx,bools,hL4,List.length_map,e5,hL5,e6]
  have go:∀ p q:Int,0<=p->p<=q->q < fs.length->∃ τ' S',(nO (iW (aH yd (aH fG (ah 3) (ah 5)) (aH fG (ah 3) (ah 6))))
 (bE (fM (aj (aH fG (ah 3) (ah 6)) (aj (aH fG (ah 3) (ah 5)) (aJ)))) (pO 2 (iI (yM (ah 3) (ah 5)) (iI (yM (ah 3) (ah 6)) (pQ)))))
 (fX)) [.ref b,.tup (xs.map .int),.int most,.ref S.length,.int (0+(i:Int)),.int p,.int q] S6=.nx τ' S'/\∃ (x4 x5 x6:A) (fs:List Int),τ'=[.ref b,.tup (xs.map .int),.int most,.ref S.length,x4,x5,x6]/\ak S' S.length=some (fs.map .int)/\fs.Perm (aX 1 ((n:Int)+1))/\Bl.Below xs fs/\lK S' b/\Kp (·=b) S S':=by
   intro p q p0 pq q1
   have hp':p.toNat < fs.length:=by omega
   have hq':q.toNat < fs.length:=by omega
   have ap:fB (fs.map A.int) p=some (.int fs[p.toNat]):=cu (k:=p.toNat) (by omega) (List.getElem?_eq_getElem hp')
   have aq:fB (fs.map A.int) q=some (.int fs[q.toNat]):=cu (k:=q.toNat) (by omega) (List.getElem?_eq_getElem hq')
   have ip:oE fs.length p=some p.toNat:=gJ (by omega) hp'
   have iq:oE fs.length q=some q.toNat:=gJ (by omega) hq'
   simp only [bx,bools,hL6,ap,aq]
   by_cases hlt:fs[p.toNat] < fs[q.toNat]
   ·rw [decide_eq_true hlt]
    simp only [bx,bools,hL6,ap,aq,fJ (show ([_,_]:List A).length<=16777216 by simp),cZ (show ([_,_]:List A).length=2 from rfl),List.length_map,ip,iq,cj lL6,List.length_set]
    have hne:p.toNat < q.toNat:=by
     rcases Nat.lt_or_ge p.toNat q.toNat with z | z
     ·exact z
     ·have e:p.toNat=q.toNat:=by omega
      simp only [e] at hlt
      omega
    refine ⟨_,_,rfl,_,_,_,(fs.set p.toNat fs[q.toNat]).set q.toNat fs[p.toNat],rfl,?_,?_,?_,?_,?_⟩
    ·rw [cj (by rw [List.length_set];exact lL6),List.map_set,List.map_set]
    ·exact (t8 (List.getElem?_eq_getElem hp') (List.getElem?_eq_getElem hq')).trans hp4
    ·exact bl4.trans (Bl.jd hp' hq' hne hlt)
    ·obtain ⟨g,st,e,z⟩:=hb6
     exact ⟨g,st,by rw [bT (by omega),bT (by omega)];exact e,z⟩
    ·exact ((((hk4.trans hk5).trans hk6).set (.inr (Nat.le_refl _))).set (.inr (Nat.le_refl _)))
   ·rw [decide_eq_false hlt]
    simp only [bx,bools]
    exact ⟨_,_,rfl,_,_,_,fs,rfl,hL6,hp4,bl4,hb6,(hk4.trans hk5).trans hk6⟩
  have:=go (if q < p then q else p) (if q > p then q else p) (by split <;> omega) (by split <;> split <;> omega) (by split <;> omega)
  simpa only [bx,bools] using this
 ·rintro τ S4 ⟨x4,x5,x6,fs,rfl,hL4,hp4,bl4,hb4,hk4⟩
  exact ⟨fs,S4,by simp only [bx,bools,hL4],hp4,bl4,hb4,hk4⟩
open Bl
noncomputable def d9 (n:Nat) (xs:List Int) (i j:Nat):List Int:=(List.range (n+2)).map fun q:Nat=>if 1<=q/\q<=n then (if q < j then cnt (xs.take (i+1)) q else cnt (xs.take i) q) else 0
theorem iz {n:Nat} {xs:List Int} {i j:Nat}:(d9 n xs i j).length=n+2:=by unfold d9;rw [List.length_map,List.length_range]
theorem gO {n:Nat} {xs:List Int} {i j q:Nat} (h:q < n+2):(d9 n xs i j)[q]?=some (if 1<=q/\q<=n then (if q < j then cnt (xs.take (i+1)) q else cnt (xs.take i) q) else 0):=by
 unfold d9
 rw [List.getElem?_map,List.getElem?_range h];rfl
theorem oA {n:Nat} {l:List Int} {xs:List Int} {i j:Nat} (hl:l.length=n+2) (h:∀ q,q < n+2->l[q]?=some (if 1<=q/\q<=n then (if q < j then cnt (xs.take (i+1)) q else cnt (xs.take i) q) else 0)):l=d9 n xs i j:=by
 apply List.ext_getElem?
 intro q
 by_cases hq:q < n+2
 ·rw [h q hq,gO hq]
 ·rw [List.getElem?_eq_none (by omega),List.getElem?_eq_none (by rw [iz];omega)]
theorem AQ {n:Nat} {xs:List Int}:List.replicate (n+2) (0:Int)=d9 n xs 0 1:=oA (by rw [List.length_replicate]) fun q hq=>by
 rw [List.getElem?_replicate,if_pos hq]
 congr 1
 split
 ·rw [if_neg (by omega)];rfl
 ·rfl
theorem Ac {n:Nat} {xs:List Int} {i:Nat}:d9 n xs i (n+1)=d9 n xs (i+1) 1:=oA iz fun q hq=>by
 rw [gO hq]
 congr 1
 by_cases c:1<=q/\q<=n
 ·rw [if_pos c,if_pos c,if_pos (by omega),if_neg (by omega)]
 ·rw [if_neg c,if_neg c]
theorem ue {n:Nat} {xs:List Int} {i j:Nat} (h1:1<=j) (h2:j<=n):(d9 n xs i j).set j (cnt (xs.take (i+1)) j)=d9 n xs i (j+1):=oA (by rw [List.length_set,iz]) fun q hq=>by
 by_cases c:q=j
 ·subst c
  rw [List.getElem?_set_self (by rw [iz];omega),if_pos ⟨h1,h2⟩,if_pos (by omega)]
 ·rw [List.getElem?_set_ne (Ne.symm c),gO hq]
  congr 1
  by_cases d:1<=q/\q<=n
  ·rw [if_pos d,if_pos d]
   by_cases e:q < j
   ·rw [if_pos e,if_pos (by omega)]
   ·rw [if_neg e,if_neg (by omega)]
  ·rw [if_neg d,if_neg d]
theorem E3 {S:aE} {xs ys:List Int} {n:Nat} (px:xs.Perm (aX 1 ((n:Int)+1))) (py:ys.Perm (aX 1 ((n:Int)+1))) (h1:1<=n) (h2:n<=20):∃ S',((bL [.tup (xs.map .int),.tup (ys.map .int)] S=.ok .non S'/\Below xs ys) \/
  ∃ i j:Nat,bL [.tup (xs.map .int),.tup (ys.map .int)] S=.ok (.tup [.int i,.int j]) S'/\1<=i/\i<=n/\1<=j/\j<=n/\yf xs ys i j)/\fH S S':=by
 have lx:xs.length=n:=by have:=jv px (by omega);omega
 have ly:ys.length=n:=by have:=jv py (by omega);omega
 obtain ⟨Z,hZ⟩:∃ Z:List A,Z=List.replicate (n+2) (.int 0):=⟨_,rfl⟩
 have r1:=A6 (S:=S++[O.lst [.int 0]]) (n:=S.length) (x:=.int 0) (k:=n+2) aS (by omega)
 rw [<- hZ] at r1
 have l1:(S++[O.lst [A.int 0]]).length=S.length+1:=by simp
 have l2:(S++[O.lst [A.int 0]]++[O.lst Z]).length=S.length+2:=by simp
 have r2:=A6 (S:=S++[O.lst [A.int 0]]++[O.lst Z]++[O.lst [.int 0]]) (n:=S.length+2) (x:=.int 0) (k:=n+2) (by rw [<- l2];exact aS) (by omega)
 rw [<- hZ] at r2
 have l3:(S++[O.lst [A.int 0]]++[O.lst Z]++[O.lst [A.int 0]]).length=S.length+3:=by simp
 rw [show ((n+2:Nat):Int)=(n:Int)+2 by omega] at r1 r2
 unfold bL lN qg
 simp only [bx,bools,gH,Nat.reduceAdd,Nat.reduceSub,List.length_map,lx,r1,l1,l2,r2,l3]
 refine fN (lo:=0) (hi:=(n:Int)) (S1:=S++[O.lst [A.int 0]]++[O.lst Z]++[O.lst [.int 0]]++[O.lst Z]) (show mR _ _=_ from eF (by simp only [bx,bools]) (cL (by omega) (by omega)))
  (fun i τ S'=>∃ a5 a6,τ=[.tup (xs.map .int),.tup (ys.map .int),.int n,.ref (S.length+1),.ref (S.length+3),a5,a6]/\ak S' (S.length+1)=some ((d9 n xs i 1).map .int)/\ak S' (S.length+3)=some ((d9 n ys i 1).map .int)/\fH S S'/\∀ i' j':Nat,i'<=i->1<=j'->j'<=n->cnt (xs.take i') j'<=cnt (ys.take i') j')
  (fun r=>∃ S',((RS.end (RS.seq r _)=.ok .non S'/\Below xs ys)\/∃ i j:Nat,RS.end (RS.seq r _)=.ok (.tup [.int i,.int j]) S'/\1<=i/\i<=n/\1<=j/\j<=n/\yf xs ys i j)/\fH S S')
  ⟨_,_,rfl,?_,?_,Kp.refl.lay.lay.lay.lay,?_⟩ ?_ ?_
 ·rw [<- AQ,List.map_replicate,<- hZ,<- l1];exact c_ (c_ aS)
 ·rw [<- AQ,List.map_replicate,<- hZ,<- l3];exact aS
 ·intro i' j' hi _ _
  have:i'=0:=by omega
  subst this
  simp [cnt]
 ·rintro i τ S1 hi ⟨a5,a6,rfl,hA,hB,kp,hok⟩
  have hix:i < xs.length:=by omega
  have hiy:i < ys.length:=by omega
  have ax:fB (xs.map A.int) (0+(i:Int))=some (.int xs[i]):=cu (k:=i) (by omega) (List.getElem?_eq_getElem hix)
  have ay:fB (ys.map A.int) (0+(i:Int))=some (.int ys[i]):=cu (k:=i) (by omega) (List.getElem?_eq_getElem hiy)
  have inner:∃ (S2:aE),((∃ a6',gp gZ (bF 6) gQ [.tup (xs.map .int),.tup (ys.map .int),.int n,.ref (S.length+1),.ref (S.length+3),.int (0+(i:Int)),a6] S1=.nx [.tup (xs.map .int),.tup (ys.map .int),.int n,.ref (S.length+1),.ref (S.length+3),.int (0+(i:Int)),a6'] S2)/\ak S2 (S.length+1)=some ((d9 n xs (i+1) 1).map .int)/\ak S2 (S.length+3)=some ((d9 n ys (i+1) 1).map .int)/\(∀ j':Nat,1<=j'->j'<=n->cnt (xs.take (i+1)) j'<=cnt (ys.take (i+1)) j') \/
    ∃ j:Nat,gp gZ (bF 6) gQ [.tup (xs.map .int),.tup (ys.map .int),.int n,.ref (S.length+1),.ref (S.length+3),.int (0+(i:Int)),a6] S1=.rt (.tup [.int ((i+1:Nat):Int),.int j]) S2/\1<=j/\j<=n/\cnt (ys.take (i+1)) j < cnt (xs.take (i+1)) j/\∀ j':Nat,1<=j'->j' < j->cnt (xs.take (i+1)) j'<=cnt (ys.take (i+1)) j')/\fH S S2:=by
   refine fN (lo:=1) (hi:=(n:Int)+1) (S1:=S1) (show gZ _ _=_ from jh (S1:=S1) (by simp only [bx,bools]) (by simp only [bx,bools]) (cL (by omega) (by omega)) (cL (by omega) (by omega)))
    (fun t τ S'=>(∃ a6,τ=[.tup (xs.map .int),.tup (ys.map .int),.int n,.ref (S.length+1),.ref (S.length+3),.int (0+(i:Int)),a6])/\ak S' (S.length+1)=some ((d9 n xs i (1+t)).map .int)/\ak S' (S.length+3)=some ((d9 n ys i (1+t)).map .int)/\fH S S'/\∀ j':Nat,1<=j'->j' < 1+t->cnt (xs.take (i+1)) j'<=cnt (ys.take (i+1)) j')
    (fun r=>∃ (S2:aE),((∃ a6',r=.nx [.tup (xs.map .int),.tup (ys.map .int),.int n,.ref (S.length+1),.ref (S.length+3),.int (0+(i:Int)),a6'] S2)/\ak S2 (S.length+1)=some ((d9 n xs (i+1) 1).map .int)/\ak S2 (S.length+3)=some ((d9 n ys (i+1) 1).map .int)/\(∀ j':Nat,1<=j'->j'<=n->cnt (xs.take (i+1)) j'<=cnt (ys.take (i+1)) j') \/
     ∃ j:Nat,r=.rt (.tup [.int ((i+1:Nat):Int),.int j]) S2/\1<=j/\j<=n/\cnt (ys.take (i+1)) j < cnt (xs.take (i+1)) j/\∀ j':Nat,1<=j'->j' < j->cnt (xs.take (i+1)) j'<=cnt (ys.take (i+1)) j')/\fH S S2)
    ⟨⟨_,rfl⟩,hA,hB,kp,fun j' _ _=>by omega⟩ ?_ ?_
   ·rintro t τ S2 ht ⟨⟨a6,rfl⟩,gA,gB,k2,hj⟩
    obtain ⟨j,hjt⟩:∃ j:Nat,j=1+t:=⟨_,rfl⟩
    rw [<- hjt] at gA gB
    rw [show (1:Int)+(t:Int)=(j:Int) by omega]
    have j1:1<=j:=by omega
    have j2:j<=n:=by omega
    have xA:fB ((d9 n xs i j).map A.int) (j:Int)=some (.int (cnt (xs.take i) j)):=cu rfl (by rw [gO (by omega),if_pos ⟨j1,j2⟩,if_neg (by omega)])
    have xB:fB ((d9 n ys i j).map A.int) (j:Int)=some (.int (cnt (ys.take i) j)):=cu rfl (by rw [gO (by omega),if_pos ⟨j1,j2⟩,if_neg (by omega)])
    have nA:oE (d9 n xs i j).length (j:Int)=some j:=gJ rfl (by rw [iz];omega)
    have nB:oE (d9 n ys i j).length (j:Int)=some j:=gJ rfl (by rw [iz];omega)
    have lA:=cN gA
    have lB:=cN gB
    have cA:cnt (xs.take i) j+(if decide (xs[i]>=(j:Int)) then 1 else 0)=cnt (xs.take (i+1)) j:=by
     rw [bK hix];congr 1;simp
    have cB:cnt (ys.take i) j+(if decide (ys[i]>=(j:Int)) then 1 else 0)=cnt (ys.take (i+1)) j:=by
     rw [bK hiy];congr 1;simp
    have sA:((d9 n xs i j).map A.int).set j (.int (cnt (xs.take (i+1)) j))=(d9 n xs i (j+1)).map .int:=by rw [<- List.map_set,ue j1 j2]
    have sB:((d9 n ys i j).map A.int).set j (.int (cnt (ys.take (i+1)) j))=(d9 n ys i (j+1)).map .int:=by rw [<- List.map_set,ue j1 j2]
    have yA:fB ((d9 n xs i (j+1)).map A.int) (j:Int)=some (.int (cnt (xs.take (i+1)) j)):=cu rfl (by rw [gO (by omega),if_pos ⟨j1,j2⟩,if_pos (by omega)])
    have yB:fB ((d9 n ys i (j+1)).map A.int) (j:Int)=some (.int (cnt (ys.take (i+1)) j)):=cu rfl (by rw [gO (by omega),if_pos ⟨j1,j2⟩,if_pos (by omega)])
    have gB':∀ zs,ak (S2.set (S.length+1) (.lst zs)) (S.length+3)=some ((d9 n ys i j).map .int):=fun zs=>by rw [bT (by omega)];exact gB
    have gA':∀ zs ws,ak ((S2.set (S.length+1) (.lst zs)).set (S.length+3) (.lst ws)) (S.length+1)=some zs:=fun zs ws=>by rw [bT (by omega),cj lA]
    have gB2:∀ zs ws,ak ((S2.set (S.length+1) (.lst zs)).set (S.length+3) (.lst ws)) (S.length+3)=some ws:=fun zs ws=>cj (by rw [List.length_set];exact lB)
    have k3:∀ zs ws,fH S ((S2.set (S.length+1) (.lst zs)).set (S.length+3) (.lst ws)):=fun zs ws=>(k2.set (.inr (by omega))).set (.inr (by omega))
    unfold gQ
    simp only [bx,bools,gA,xA,ax,cA,List.length_map,nA,sA,gB',xB,ay,cB,nB,sB,gA',yA,gB2,yB]
    by_cases c:cnt (ys.take (i+1)) j < cnt (xs.take (i+1)) j
    ·right
     rw [decide_eq_true c]
     simp only [bx,bools,fJ (show ([_,_]:List A).length<=16777216 by simp)]
     rw [show (0:Int)+(i:Int)+1=((i+1:Nat):Int) by omega]
     exact ⟨_,_,rfl,_,.inr ⟨j,rfl,j1,j2,c,fun j' q1 q2=>hj j' q1 (by omega)⟩,k3 _ _⟩
    ·left
     rw [decide_eq_false c]
     simp only [bx,bools]
     refine ⟨_,_,rfl,⟨_,rfl⟩,?_,?_,k3 _ _,fun j' q1 q2=>?_⟩
     ·rw [gA',show 1+(t+1)=j+1 by omega]
     ·rw [gB2,show 1+(t+1)=j+1 by omega]
     ·by_cases d:j' < 1+t
      ·exact hj j' q1 d
      ·have:j'=j:=by omega
       subst this
       omega
   ·rintro τ S2 ⟨⟨a6,rfl⟩,gA,gB,k2,hj⟩
    rw [show 1+((n:Int)+1 - 1).toNat=n+1 by omega] at gA gB hj
    rw [Ac] at gA gB
    exact ⟨S2,.inl ⟨⟨_,rfl⟩,gA,gB,fun j' q1 q2=>hj j' q1 (by omega)⟩,k2⟩
  obtain ⟨S2,⟨⟨a6',e2⟩,gA,gB,hj⟩ | ⟨j,e2,j1,j2,c,hj⟩,k2⟩:=inner
  ·left
   refine ⟨_,_,show jw _ _=_ from e2,_,_,rfl,gA,gB,k2,fun i' j' q0 q1 q2=>?_⟩
   by_cases d:i'<=i
   ·exact hok i' j' d q1 q2
   ·have:i'=i+1:=by omega
    subst this
    exact hj j' q1 q2
  ·right
   refine ⟨_,_,show jw _ _=_ from e2,S2,.inr ⟨i+1,j,by simp only [bx,bools],by omega,by omega,j1,j2,c,fun i' j' q0 q1 q2=>hok i' j' (by omega) q1 (by omega),hj⟩,k2⟩
 ·rintro τ S1 ⟨a5,a6,rfl,hA,hB,kp,hok⟩
  refine ⟨S1,.inl ⟨by simp only [bx,bools],?_⟩,kp⟩
  refine (qd px py).mp fun i q hi hq=>?_
  have:=hok (i+1) (q+1) (by omega) (by omega) (by omega)
  exact this
theorem yI {S:aE} {b n:Nat} (h:lK S b) (h1:1<=n) (h2:n<=20):∃ (xs ys:List Int) (S':aE),dM [.ref b,.int n] S=.ok (.tup [.tup (xs.map .int),.tup (ys.map .int)]) S'/\xs.Perm (aX 1 ((n:Int)+1))/\ys.Perm (aX 1 ((n:Int)+1))/\lK S' b/\Kp (·=b) S S':=by
 obtain ⟨x,S1,e1,px,b1,k1⟩:=uh (n:=(n:Int)) h (by omega) (by omega)
 obtain ⟨w,S2,e2,w0,w1,b2,k2⟩:=digit (m:=5) b1 (by decide) (by decide)
 unfold dM ki oZ
 simp only [bx,bools,gH,Nat.reduceAdd,Nat.reduceSub,e1,e2]
 by_cases c0:w=0
 ·subst c0
  obtain ⟨y,S3,e3,py,b3,k3⟩:=uh (n:=(n:Int)) b2 (by omega) (by omega)
  simp only [bx,bools,beq_self_eq_true,e3,fJ (show ([_,_]:List A).length<=16777216 by simp)]
  exact ⟨_,_,_,rfl,px,py,b3,(k1.trans k2).trans k3⟩
 ·rw [show (w == (0:Int))=false by simpa using c0]
  by_cases c1:w=1
  ·subst c1
   simp only [bx,bools,beq_self_eq_true,fJ (show ([_,_]:List A).length<=16777216 by simp)]
   exact ⟨_,_,_,rfl,px,px,b2,k1.trans k2⟩
  ·have f1:(w == (1:Int))=false:=by simpa using c1
   obtain ⟨q,S3,e3,q0,q1,b3,k3⟩:=digit (S:=S2++[.lst [.int 2,.int 6,.int 20]]) (m:=3) (b2.kp (c:=fun _=>False) Kp.refl.lay fun z=>z) (by decide) (by decide)
   have hb:b < S2.length:=by obtain ⟨_,_,e,_⟩:=b2;exact cN e
   have l3:=k3.lst S2.length _ (by omega) aS
   obtain ⟨m,em,m0,m1⟩:∃ m:Int,fB [A.int 2,.int 6,.int 20] q=some (.int m)/\0<=m/\m<=1000:=by
    by_cases g0:q=0
    ·exact ⟨2,by rw [g0];exact BX,by decide,by decide⟩
    ·by_cases g1:q=1
     ·exact ⟨6,by rw [g1];exact Cz,by decide,by decide⟩
     ·exact ⟨20,by rw [show q=2 by omega];rfl,by decide,by decide⟩
   obtain ⟨y,S4,e4,py,_,b4,k4⟩:=Ad (most:=m) b3 px h1 h2 m0 m1
   have kk:Kp (·=b) S S4:=((k1.trans k2).lay.trans k3).trans k4
   by_cases c2:w=2
   ·subst c2
    simp only [bx,bools,f1,e3,l3,em,e4,beq_self_eq_true,fJ (show ([_,_]:List A).length<=16777216 by simp)]
    exact ⟨_,_,_,rfl,py,px,b4,kk⟩
   ·have f2:(w == (2:Int))=false:=by simpa using c2
    simp only [bx,bools,f1,f2,e3,l3,em,e4,fJ (show ([_,_]:List A).length<=16777216 by simp)]
    exact ⟨_,_,_,rfl,px,py,b4,kk⟩
end K18
namespace K18
open PySem L2 Am
open Bl
open Stp
open Fw (rg)
section
variable {S:aE}
theorem FU {xs:List (List Int×A)}:bO (S++[.dct xs]) S.length=some xs:=lE (by simp)
theorem Gn {o:O} {n:Nat} {xs:List (List Int×A)} (h:bO S n=some xs):bO (S++[o]) n=some xs:=by
 have h':=gM h
 exact lE (by rw [List.getElem?_append_left (List.getElem?_eq_some_iff.mp h').1];exact h')
theorem J5 {n:Nat} {xs:List (List Int×A)} (h:bO S n=some xs):n < S.length:=(List.getElem?_eq_some_iff.mp (gM h)).1
theorem EK {n:Nat} {ys:List (List Int×A)} (h:n < S.length):bO (S.set n (.dct ys)) n=some ys:=lE (List.getElem?_set_self h)
theorem pe {n m:Nat} {o:O} (h:n≠m):bO (S.set n o) m=bO S m:=by unfold bO;rw [List.getElem?_set_ne h]
theorem uz {n m:Nat} {o:O} (h:n≠m):ak (S.set n o) m=ak S m:=by unfold ak;rw [List.getElem?_set_ne h]
end
noncomputable abbrev Eb:=List (List Int×Bool)
noncomputable def kb (es:Eb):List (List Int×A):=es.map fun e=>(e.1,.bl e.2)
theorem rf:∀ {es:Eb} {w:List Int},(fC (kb es) w).isSome=decide (w∈es.map (·.1))
 | [],w=>rfl
 | e::es,w=>by
  show (fC ((e.1,.bl e.2)::kb es) w).isSome=_
  by_cases c:e.1=w
  ·rw [mz c,decide_eq_true (by rw [<- c];simp)];rfl
  ·rw [lO c,rf,decide_eq_decide]
   constructor
   ·exact fun z=>List.mem_cons_of_mem _ z
   ·intro z
    rcases List.mem_cons.mp z with z | z
    ·exact absurd z.symm c
    ·exact z
theorem uC:∀ {es:Eb} {w:List Int} {b:Bool},w∉es.map (·.1)->fC (kb (es++[(w,b)])) w=some (.bl b)
 | [],w,b,_=>mz rfl
 | e::es,w,b,h=>by
  show fC ((e.1,.bl e.2)::kb (es++[(w,b)])) w=_
  rw [lO fun z=>h (by rw [<- z];simp)]
  exact uC fun z=>h (List.mem_cons_of_mem _ z)
theorem Gk {es:Eb} {w:List Int} {b:Bool} (h:w∉es.map (·.1)):putD (kb es) w (.bl b)=kb (es++[(w,b)]):=by
 unfold putD
 rw [rf,decide_eq_false h,if_neg Bool.false_ne_true]
 unfold kb
 rw [List.map_append];rfl
theorem kH (w:List Int):A.ints (w.map .int)=some w:=ints_map w
theorem J0 {S:aE} {D:Nat} {es:Eb} {w:List Int} (h:bO S D=some (kb es)):IM true (aW w) (.ref D) S=.ok (.bl (!decide (w∈es.map (·.1)))) S:=by
 show opt (bO S D) _=_
 rw [h,bA]
 show opt (A.ints (w.map .int)) _=_
 rw [kH,bA,<- rf];rfl
theorem Mz {S:aE} {D:Nat} {es:Eb} {w:List Int} {v:A} (h:bO S D=some (kb es)) (hl:fC (kb es) w=some v):EH (.ref D) (aW w) S=.ok v S:=by
 show opt (bO S D) _=_
 rw [h,bA]
 show opt (A.ints (w.map .int)) _=_
 rw [kH,bA,hl,bA]
theorem few {n:Nat} (hn:n<=9) {ks:List (List Int)} (nd:ks.Nodup) (h:∀ k∈ks,k.Perm (rg n)):ks.length<=362880:=by
 have hr:∀ k∈ks,Nu.rank k < Nu.fS n/\Nu.An n (rg n) (Nu.rank k)=k:=fun k hk=>Nu.q_ n (rg n) k (Wd.cY n) (Nu.mw _ _) (h k hk)
 have h1:(ks.map Nu.rank).Nodup:=by
  unfold List.Nodup
  rw [List.pairwise_map]
  exact List.Pairwise.imp_of_mem (fun {a b} ha hb hab z=>hab (by rw [<- (hr a ha).2,<- (hr b hb).2,z])) nd
 have:=Rd.lC (Nu.fS n) _ h1 fun x hx=>by
  obtain ⟨k,hk,rfl⟩:=List.mem_map.mp hx
  exact (hr k hk).1
 rw [List.length_map] at this
 exact Nat.le_trans this (Nat.le_trans (Nu.Dt hn) (by decide))
noncomputable def Cl (n:Nat) (z:List Int) (es:Eb):Prop:=∀ i j,i < j->j < n->z.getD i 0 < z.getD j 0->Aj z i j=true->Iv.sw z i j∈es.map (·.1)
structure Lk (n:Nat) (u y:List Int) (es:Eb) (ws:List (List Int)) (v:Option (List Int)):Prop where
 nd:(es.map (·.1)).Nodup
 pm:∀ e∈es,e.1.Perm (rg n)
 wt:∀ w∈ws,(w,true)∈es
 up:∀ e∈es,Below u e.1
 fl:∀ e∈es,(e.2=true ↔ Below e.1 y)
 st:u∈es.map (·.1)
 cl:∀ e∈es,e.2=true->e.1∈ws\/some e.1=v\/Cl n e.1 es
theorem Lk.few {n:Nat} {u y:List Int} {es:Eb} {ws:List (List Int)} {v:Option (List Int)} (h:Lk n u y es ws v) (hn:n<=9):es.length<=362880:=by
 have:=K18.few hn h.nd fun k hk=>by
  obtain ⟨e,he,rfl⟩:=List.mem_map.mp hk
  exact h.pm e he
 rwa [List.length_map] at this
theorem HW {n i j:Nat} {a:List Int} (pa:a.Perm (rg n)) (hij:i < j) (hj:j < n) (h:a.getD i 0 < a.getD j 0):Below a (Iv.sw a i j):=by
 have la:a.length=n:=by rw [pa.length_eq,Wd.cY]
 unfold Iv.sw
 rw [Eu.bH (show i < a.length by omega),Eu.bH (show j < a.length by omega)] at h ⊢
 exact jd (by omega) (by omega) hij h
theorem Cl.more {n:Nat} {z:List Int} {es:Eb} {x:List Int×Bool} (h:Cl n z es):Cl n z (es++[x]):=fun i j a b c d=>by
 rw [List.map_append];exact List.mem_append_left _ (h i j a b c d)
theorem Lk.more {n:Nat} {u y x:List Int} {es:Eb} {ws:List (List Int)} {v:Option (List Int)} {k:Bool} (h:Lk n u y es ws v) (hx:x∉es.map (·.1)) (px:x.Perm (rg n)) (ux:Below u x) (hk:k=true ↔ Below x y):Lk n u y (es++[(x,k)]) (if k=true then ws++[x] else ws) v where
 nd:=by
  rw [List.map_append,List.nodup_append]
  refine ⟨h.nd,by simp,fun a ha b hb zz=>hx ?_⟩
  have:b=x:=by simpa using hb
  rw [<- this,<- zz];exact ha
 pm:=fun e he=>by
  rcases List.mem_append.mp he with z | z
  ·exact h.pm e z
  ·have:e=(x,k):=by simpa using z
   rw [this];exact px
 wt:=fun w hw=>by
  cases k with
  | false=>exact List.mem_append_left _ (h.wt w hw)
  | true=>
   rcases List.mem_append.mp hw with z | z
   ·exact List.mem_append_left _ (h.wt w z)
   ·have:w=x:=by simpa using z
    rw [this];exact List.mem_append_right _ (by simp)
 up:=fun e he=>by
  rcases List.mem_append.mp he with z | z
  ·exact h.up e z
  ·have:e=(x,k):=by simpa using z
   rw [this];exact ux
 fl:=fun e he=>by
  rcases List.mem_append.mp he with z | z
  ·exact h.fl e z
  ·have:e=(x,k):=by simpa using z
   rw [this];exact hk
 st:=by rw [List.map_append];exact List.mem_append_left _ h.st
 cl:=fun e he h2=>by
  rcases List.mem_append.mp he with z | z
  ·rcases h.cl e z h2 with q | q | q
   ·left
    cases k with
    | false=>exact q
    | true=>exact List.mem_append_left _ q
   ·exact .inr (.inl q)
   ·exact .inr (.inr q.more)
  ·have:e=(x,k):=by simpa using z
   subst this
   have h2:k=true:=h2
   subst h2
   left
   exact List.mem_append_right _ (by simp)
theorem wI {n:Nat} {a:List Int} (la:a.length=n) {l:List Int}:l∈fF (stp a (ups a)) ↔ ∃ i j,i < j/\j < n/\a.getD i 0 < a.getD j 0/\Aj a i j=true/\l=Iv.sw a i j:=by
 rw [(j_ _).mem_iff]
 unfold stp ups
 rw [List.mem_map]
 constructor
 ·rintro ⟨p,hp,rfl⟩
  obtain ⟨h1,h2⟩:=List.mem_filter.mp hp
  obtain ⟨h3,h4⟩:=List.mem_filter.mp h1
  have:=y_ h3
  exact ⟨p.1,p.2,this.1,by omega,of_decide_eq_true h4,h2,rfl⟩
 ·rintro ⟨i,j,h1,h2,h3,h4,rfl⟩
  exact ⟨(i,j),List.mem_filter.mpr ⟨List.mem_filter.mpr ⟨E7 h1 (by omega),decide_eq_true h3⟩,h4⟩,rfl⟩
theorem looked {S0 S T:aE} {n D W M:Nat} {es:Eb} {ws:List (List Int)} {L:List (List Int)} {u v oth:List Int} (hn:n<=9) (h1:1<=n) (po:oth.Perm (rg n)) (hD:bO S D=some (kb es)) (hW:ak S W=some (ws.map aW)) (hM:ak S M=some (L.map aW)) (hL:∀ l∈L,l.Perm (rg n)/\Below u l) (lk:Lk n u oth es ws (some v))
  (hDS:S0.length<=D) (hWS:S0.length<=W) (hDW:D≠W) (hDM:D≠M) (hWM:W≠M) (hwe:ws.length<=es.length) (kp:fH S0 S) {a0 a4 a5:A} (hsrc:gT [a0,aW oth,.ref D,.ref W,a4,a5] T=.ok (d8 M (L.map aW).length) S) :
  ∃ (es':Eb) (ws':List (List Int)) (b5:A) (S':aE),gp gT (bF 5) jo [a0,aW oth,.ref D,.ref W,a4,a5] T=.nx [a0,aW oth,.ref D,.ref W,a4,b5] S'/\bO S' D=some (kb es')/\ak S' W=some (ws'.map aW)/\Lk n u oth es' ws' (some v)/\(∀ l∈L,l∈es'.map (·.1))/\es.length<=es'.length/\ws'.length+es.length<=ws.length+es'.length/\fH S0 S':=by
 refine rJ (n:=M) (xs:=L.map aW) (S1:=S) hsrc
  (fun i τ S'=>∃ (es':Eb) (ws':List (List Int)) (b5:A),τ=[a0,aW oth,.ref D,.ref W,a4,b5]/\bO S' D=some (kb es')/\ak S' W=some (ws'.map aW)/\ak S' M=some (L.map aW)/\Lk n u oth es' ws' (some v)/\(∀ l∈L.take i,l∈es'.map (·.1))/\es.length<=es'.length/\ws'.length+es.length<=ws.length+es'.length/\fH S0 S')
  (fun r=>∃ (es':Eb) (ws':List (List Int)) (b5:A) (S':aE),r=.nx [a0,aW oth,.ref D,.ref W,a4,b5] S'/\bO S' D=some (kb es')/\ak S' W=some (ws'.map aW)/\Lk n u oth es' ws' (some v)/\(∀ l∈L,l∈es'.map (·.1))/\es.length<=es'.length/\ws'.length+es.length<=ws.length+es'.length/\fH S0 S')
  ⟨es,ws,_,rfl,hD,hW,hM,lk,fun l hl=>absurd hl (by simp),Nat.le_refl _,Nat.le_refl _,kp⟩ (fun i τ S' hh=>by obtain ⟨_,_,_,_,_,_,z,_⟩:=hh;exact z) ?_ ?_
 ·rintro i z τ S' hz ⟨es',ws',b5,rfl,hD',hW',hM',lk',hin,hle,hle2,kp'⟩
  rw [List.getElem?_map] at hz
  obtain ⟨x,hx,rfl⟩:=Option.map_eq_some_iff.mp hz
  obtain ⟨px,ux⟩:=hL x (List.mem_of_getElem? hx)
  have ht:L.take (i+1)=L.take i++[x]:=by
   obtain ⟨hi,e⟩:=List.getElem?_eq_some_iff.mp hx
   rw [List.take_succ_eq_append_getElem hi,e]
  refine ⟨[a0,aW oth,.ref D,.ref W,a4,aW x],S',rfl,.inl ?_⟩
  unfold jo
  by_cases c:x∈es'.map (·.1)
  ·simp only [bx,uM,bools,J0 hD',decide_eq_true c,Bool.not_true]
   refine ⟨_,_,rfl,es',ws',_,rfl,hD',hW',hM',lk',fun l hl=>?_,hle,hle2,kp'⟩
   rw [ht] at hl
   rcases List.mem_append.mp hl with z | z
   ·exact hin l z
   ·have:l=x:=by simpa using z
    rw [this];exact c
  ·obtain ⟨k,U,e1,hk,kU⟩:=ur (S:=S') (n:=n) px po h1 (by omega)
   have hDU:=kU.dct _ _ (fun z=>z) hD'
   have hWU:=kU.lst _ _ (fun z=>z) hW'
   have hMU:=kU.lst _ _ (fun z=>z) hM'
   have fw:=lk'.few hn
   have lkb:(kb es').length=es'.length:=List.length_map ..
   have sd:yN (.ref D) (aW x) (.bl k) U=.ok () (U.set D (.dct (kb (es'++[(x,k)])))):=by
    show opt (bO U D) _=_
    rw [hDU,bA]
    show opt (A.ints (x.map .int)) _=_
    rw [kH,bA,Io (by rw [lkb,sizeLine_eq];omega),Gk c]
   have gw:JQ (ah 2) (ah 5) (.bl k) [a0,aW oth,.ref D,.ref W,a4,aW x] U=.ok [a0,aW oth,.ref D,.ref W,a4,aW x] (U.set D (.dct (kb (es'++[(x,k)])))):=by
    show (yN (.ref D) (aW x) (.bl k) U).bind _=_
    rw [sd];rfl
   have lD:=J5 hDU
   have hD2:bO (U.set D (.dct (kb (es'++[(x,k)])))) D=some (kb (es'++[(x,k)])):=EK lD
   have hW2:ak (U.set D (.dct (kb (es'++[(x,k)])))) W=some (ws'.map aW):=by rw [uz hDW];exact hWU
   have hM2:ak (U.set D (.dct (kb (es'++[(x,k)])))) M=some (L.map aW):=by rw [uz hDM];exact hMU
   have ix:=Mz hD2 (uC c)
   have k2:fH S0 (U.set D (.dct (kb (es'++[(x,k)])))):=(kp'.trans kU).Jl (.inr hDS)
   have lk2:=lk'.more c px ux hk
   have le2:(es'++[(x,k)]).length=es'.length+1:=by simp
   have hin2:∀ l∈L.take (i+1),l∈(es'++[(x,k)]).map (·.1):=fun l hl=>by
    rw [ht] at hl
    rw [List.map_append]
    rcases List.mem_append.mp hl with z | z
    ·exact List.mem_append_left _ (hin l z)
    ·have:l=x:=by simpa using z
     rw [this];exact List.mem_append_right _ (by simp)
   have e1:cJ [aW x,aW oth] S'=.ok (.bl k) U:=e1
   cases k with
   | false=>
    simp only [bx,uM,bools,J0 hD',decide_eq_false c,Bool.not_false,e1,gw,ix]
    exact ⟨_,_,rfl,_,ws',_,rfl,hD2,hW2,hM2,lk2,hin2,by omega,by omega,k2⟩
   | true=>
    have lW:=cN hW2
    have ew:ws'.map aW++[aW x]=(ws'++[x]).map aW:=by rw [List.map_append];rfl
    simp only [bx,uM,bools,J0 hD',decide_eq_false c,Bool.not_false,e1,gw,ix,hW2,B0 (show (ws'.map aW).length < 16777216 by rw [List.length_map];omega),ew]
    refine ⟨_,_,rfl,_,ws'++[x],_,rfl,?_,cj lW,?_,lk2,hin2,by omega,?_,k2.set (.inr hWS)⟩
    ·rw [pe hDW.symm];exact hD2
    ·rw [bT hWM];exact hM2
    ·rw [List.length_append,le2];show _+1+_<=_;omega
 ·rintro τ S' ⟨es',ws',b5,rfl,hD',hW',hM',lk',hin,hle,hle2,kp'⟩
  rw [List.length_map,List.take_length] at hin
  exact ⟨es',ws',b5,S',rfl,hD',hW',lk',hin,hle,hle2,kp'⟩
end K18
namespace K18
open PySem L2 Am
open Bl
open Stp
open Fw (rg)
theorem GZ {S:aE} {n:Nat} {xs:List A} (h:ak S n=some xs):A.JG (.ref n) S=some (!xs.isEmpty):=by
 show (ak S n).map _=_
 rw [h];rfl
theorem jf {n:Nat} {x:List Int} (px:x.Perm (rg n)):x.length=n:=by rw [px.length_eq,Wd.cY]
theorem zP {S:aE} {n:Nat} {x y:List Int} (px:x.Perm (rg n)) (h6:n<=6):cP [aW x,aW y,.int 6,.int 9,.int 4] S=.ok .non S:=by
 have lx:=jf px
 unfold cP g8 jZ
 simp only [bx,bools,gH,Nat.reduceAdd,Nat.reduceSub,List.length_map,lx,decide_eq_true (show (n:Int)<=6 by omega)]
theorem FO {S:aE} {n D:Nat} {es:Eb} {ws:List (List Int)} {u y:List Int} {v:Option (List Int)} {a0 a1 a3 a4 a5:A} (hD:bO S D=some (kb es)) (lk:Lk n u y es ws v) (h1:1<=n) (hn:n<=9) :
  ∃ (V:Nat) (S':aE),RS.end (RS.seq (.nx [a0,a1,.ref D,a3,a4,a5] S) (cF (aV (f1 kM) (aj (bW [none,none] (zU (ah 2)) (pO 2 (iI (bF 0) (iI (bF 1) (pQ)))) (ji (ah 1)) (ah 0)) (aJ)))))=.ok (.ref V) S'/\ak S' V=some ((fF ((es.filter (·.2)).map (·.1))).map aW)/\S'=S.set D (.ins "" [])++[.lst ((es.filter (·.2)).map fun e=>aW e.1)]++[.lst ((fF ((es.filter (·.2)).map (·.1))).map aW)]/\S.length<=V:=by
 have hs:zU (ah 2) [a0,a1,.ref D,a3,a4,a5] S=.ok (eN ((kb es).map Ah)) (S.set D (.ins "" [])):=by
  show opt (bO S D) _=_
  rw [hD,bA]
 have lkb:((kb es).map Ah).length=es.length:=by unfold kb;rw [List.length_map,List.length_map]
 have fw:=lk.few hn
 obtain ⟨T,g1,g2⟩:=iS (s:=eN ((kb es).map Ah)) (g:=pO 2 (iI (bF 0) (iI (bF 1) (pQ)))) (t:=ji (ah 1)) (e:=ah 0)
  (P:=fun S1=>S1=S.set D (.ins "" [])) (T:=fun τ=>∃ y z,τ=[y,z]) (fun i=>Ah ((es.getD i ([],false)).1,.bl (es.getD i ([],false)).2)) (fun i=>(es.getD i ([],false)).2) (fun i=>aW (es.getD i ([],false)).1)
  (fun i S1 hi _=>by
   have hi:i < ((kb es).map Ah).length:=hi
   rw [lkb] at hi
   show ((kb es).map Ah)[i]?=_
   unfold kb
   rw [List.map_map,List.getElem?_map,List.getD_eq_getElem?_getD,List.getElem?_eq_getElem hi];rfl)
  (fun S1 _=>rfl)
  (fun i τ S1 hi ⟨y,z,hy⟩ k=>by
   subst hy k
   refine ⟨[aW (es.getD i ([],false)).1,.bl (es.getD i ([],false)).2],S.set D (.ins "" []),S.set D (.ins "" []),?_,by simp only [bx,bools],⟨_,_,rfl⟩,fun _=>rfl,fun _=>⟨_,by simp only [bx,bools],rfl⟩⟩
   unfold Ah
   simp only [bx,bools,cZ (show ([_,_]:List A).length=2 from rfl)])
  es.length 0 (eT [none,none] [a0,a1,.ref D,a3,a4,a5]) (S.set D (.ins "" [])) (by show es.length+0=((kb es).map Ah).length;rw [lkb];rfl) ⟨_,_,rfl⟩ rfl
 subst g2
 have ef:=rH es (fun e=>e.2) (fun e=>aW e.1) ([],false)
 rw [List.range_eq_range'] at ef
 rw [ef] at g1
 obtain ⟨fs,hfs⟩:∃ fs:List (List Int),fs=(es.filter (·.2)).map (·.1):=⟨_,rfl⟩
 have efs:((es.filter (·.2)).map fun e=>aW e.1)=fs.map aW:=by rw [hfs,List.map_map];rfl
 have hne:∀ l∈fs,l≠[]:=fun l hl=>by
  rw [hfs] at hl
  obtain ⟨e,he,rfl⟩:=List.mem_map.mp hl
  have:=jf (lk.pm e (List.mem_filter.mp he).1)
  intro z
  rw [z] at this
  simp at this
  omega
 have ec:bW [none,none] (zU (ah 2)) (pO 2 (iI (bF 0) (iI (bF 1) (pQ)))) (ji (ah 1)) (ah 0) [a0,a1,.ref D,a3,a4,a5] S=.ok (.ref (S.set D (.ins "" [])).length) (S.set D (.ins "" [])++[.lst (fs.map aW)]):=by
  unfold bW
  rw [hs,R.dz]
  show R.dc (eB (eN ((kb es).map Ah)) _ _ _ ((kb es).map Ah).length 0 _ _) _=_
  rw [lkb,g1,R.cU,bX (by rw [List.length_map];exact Nat.le_trans (List.length_filter_le _ _) (by omega)),efs]
 have so:=yw (S:=S.set D (.ins "" [])++[.lst (fs.map aW)]) (n:=(S.set D (.ins "" [])).length) aS hne
 simp only [bx,bools,ec,so]
 rw [hfs] at so ⊢
 refine ⟨_,_,rfl,aS,by rw [efs,hfs],?_⟩
 rw [List.length_append,List.length_set];omega
theorem vU {S:aE} {n:Nat} {x y:List Int} (px:x.Perm (rg n)) (py:y.Perm (rg n)) (h1:1<=n) (h6:n<=6) (q:List Int->Bool) (hq:∀ z,z.Perm (rg n)->(q z=true ↔ Below x z/\Below z y)):∃ (V:Nat) (S':aE),eO [aW x,aW y] S=.ok (.ref V) S'/\ak S' V=some (((Eu.inj n n).filter q).map aW)/\fH S S'/\S.length<=V:=by
 have hn:n<=9:=by omega
 have h2:n<=20:=by omega
 have lx:=jf px
 have ly:=jf py
 have ep:=kC (S:=S) (xs:=x) (ys:=y) (by omega)
 have e1:=zP (S:=S) (y:=y) px h6
 obtain ⟨k,S2,e2,hk,k2⟩:=ur (S:=S) (n:=n) px py h1 h2
 have k12:=k2
 cases k with
 | false=>
  unfold eO jR lQ
  simp only [bx,uM,bools,gH,Nat.reduceAdd,Nat.reduceSub,ep,e1,e2,Bool.not_false]
  have e0:(Eu.inj n n).filter q=[]:=List.filter_eq_nil_iff.mpr fun z hz hqz=>by
   obtain ⟨z1,z2⟩:=(hq z (Eu.fQ.mp hz)).mp hqz
   exact absurd (hk.mpr (z1.trans z2)) Bool.false_ne_true
  rw [e0]
  exact ⟨_,_,rfl,aS,k12.lay,k12.len⟩
 | true=>
  have ed:Ay (ah 0) (eC (.bl true)) [aW x,aW y,.unb,.unb,.unb,.unb] S2=.ok (.ref S2.length) (S2++[.dct (kb [(x,true)])]):=by
   show opt (A.ints (x.map .int)) _=_
   rw [kH,bA];rfl
  have l1:(S2++[O.dct (kb [(x,true)])]).length=S2.length+1:=by simp
  have key:=jg (t:=jn) (c:=jF)
   (fun τ T=>∃ (a4 a5:A) (es:Eb) (ws:List (List Int)),τ=[aW x,aW y,.ref S2.length,.ref (S2.length+1),a4,a5]/\bO T S2.length=some (kb es)/\ak T (S2.length+1)=some (ws.map aW)/\Lk n x y es ws none/\ws.length<=es.length/\fH S2 T)
   (fun _ T=>2 * (362880 - ((bO T S2.length).getD []).length)+((ak T (S2.length+1)).getD []).length)
   (fun r=>∃ (V:Nat) (S':aE),RS.end (RS.seq r (cF (aV (f1 kM) (aj (bW [none,none] (zU (ah 2)) (pO 2 (iI (bF 0) (iI (bF 1) (pQ)))) (ji (ah 1)) (ah 0)) (aJ)))))=.ok (.ref V) S'/\ak S' V=some (((Eu.inj n n).filter q).map aW)/\fH S S'/\S.length<=V) ?_ 1000000
  ·unfold eO jR lQ
   simp only [bx,uM,bools,gH,Nat.reduceAdd,Nat.reduceSub,ep,e1,e2,Bool.not_true,ed,l1]
   have hd0:bO (S2++[O.dct (kb [(x,true)])]++[O.lst [aW x]]) S2.length=some (kb [(x,true)]):=Gn FU
   have hw0:ak (S2++[O.dct (kb [(x,true)])]++[O.lst [aW x]]) (S2.length+1)=some [aW x]:=by rw [<- l1];exact aS
   refine key _ _ ⟨_,_,[(x,true)],[x],rfl,hd0,hw0,⟨by simp,fun e he=>?_,fun w hw=>?_,fun e he=>?_,fun e he=>?_,by simp,fun e he _=>?_⟩,Nat.le_refl _,Kp.refl.lay.lay⟩ ?_
   ·have:e=(x,true):=by simpa using he
    rw [this];exact px
   ·have:w=x:=by simpa using hw
    rw [this];simp
   ·have:e=(x,true):=by simpa using he
    rw [this];exact Below.refl _
   ·have:e=(x,true):=by simpa using he
    rw [this];exact hk
   ·have:e=(x,true):=by simpa using he
    rw [this];left;simp
   ·rw [hd0,hw0];show 2 * (362880 - 1)+1 < 1000000;decide
  ·rintro τ T ⟨a4,a5,es,ws,rfl,hD,hW,lk,hwe,kp⟩
   have fw:=lk.few hn
   unfold jn
   have lk2:(kb es).length=es.length:=List.length_map ..
   rcases List.eq_nil_or_concat ws with c | ⟨vs,v,c⟩
   ·left
    subst c
    obtain ⟨V,T2,e3,h3,hT2,hV⟩:=FO (a0:=aW x) (a1:=aW y) (a3:=.ref (S2.length+1)) (a4:=a4) (a5:=a5) hD lk h1 hn
    have dn:Eu.Done n x y es:=⟨lk.nd,lk.pm,lk.up,lk.fl,lk.st,fun e he h2=>by
     rcases lk.cl e he h2 with z | z | z
     ·cases z
     ·cases z
     ·exact z⟩
    rw [dn.told q hq] at h3
    have l2:=k12.len
    have lT:=kp.len
    refine ⟨T,by simp only [bx,bools,GZ hW];rfl,V,T2,e3,h3,?_,by omega⟩
    rw [hT2]
    exact k12.trans (((kp.Jl (.inr (Nat.le_refl _))).lay).lay)
   ·right
    rw [List.concat_eq_append] at c
    subst c
    have tr:A.JG (.ref (S2.length+1)) T=some true:=by
     rw [GZ hW]
     cases vs <;> rfl
    refine ⟨T,by simp only [bx,bools,tr],.inl ?_⟩
    have ev:=lk.wt v (by simp)
    have pv:v.Perm (rg n):=lk.pm _ ev
    have uv:Below x v:=lk.up _ ev
    have lv:=jf pv
    have pop:JY (.ref (S2.length+1)) [] T=.ok (aW v) (T.set (S2.length+1) (.lst (vs.map aW))):=by
     show opt (ak T (S2.length+1)) _=_
     rw [hW,bA,List.map_append]
     show opt ((vs.map aW++[aW v])[(vs.map aW++[aW v]).length - 1]?) _=_
     rw [List.length_append,show (vs.map aW).length+[aW v].length - 1=(vs.map aW).length by simp,List.getElem?_append_right (Nat.le_refl _),Nat.sub_self]
     show R.ok (aW v) (T.set (S2.length+1) (.lst (vs.map aW++[aW v]).dropLast))=_
     rw [List.dropLast_concat]
    have lW:=cN hW
    have hD1:bO (T.set (S2.length+1) (.lst (vs.map aW))) S2.length=some (kb es):=by rw [pe (by omega)];exact hD
    obtain ⟨M,U,e4,hM,k4,sM⟩:=BK (S:=T.set (S2.length+1) (.lst (vs.map aW))) (a:=v) (by omega) (by omega)
    have hDU:=k4.dct _ _ (fun z=>z) hD1
    have hWU:=k4.lst _ _ (fun z=>z) (cj (ys:=vs.map aW) lW)
    rw [List.length_set] at sM
    have hsrc:gT [aW x,aW y,.ref S2.length,.ref (S2.length+1),aW v,a5] (T.set (S2.length+1) (.lst (vs.map aW)))=.ok (d8 M ((fF (stp v (ups v))).map aW).length) U:=
     jk (by simp only [bx,bools,e4]) hM
    have kU:fH S2 U:=(kp.set (.inr (by omega))).trans k4
    rw [List.length_append] at hwe
    have hwe':vs.length+1<=es.length:=hwe
    have lk0:Lk n x y es vs (some v):=⟨lk.nd,lk.pm,fun w hw=>lk.wt w (List.mem_append_left _ hw),lk.up,lk.fl,lk.st,fun e he h2=>by
     rcases lk.cl e he h2 with z | z | z
     ·rcases List.mem_append.mp z with z | z
      ·exact .inl z
      ·have:e.1=v:=by simpa using z
       rw [this];exact .inr (.inl rfl)
     ·cases z
     ·exact .inr (.inr z)⟩
    obtain ⟨es',ws',b5,S',e5,hD',hW',lk',hin,hle,hle2,kp'⟩:=looked (S0:=S2) hn h1 py hDU hWU hM (fun l hl=>by
     obtain ⟨i,j,c1,c2,c3,c4,rfl⟩:=(wI lv).mp hl
     exact ⟨(Stp.Fd c1 (by omega)).trans pv,uv.trans (HW pv c1 c2 c3)⟩) lk0 (Nat.le_refl _) (by omega) (by omega) (by omega) (by omega) (by omega) kU hsrc
    have lkn:Lk n x y es' ws' none:=⟨lk'.nd,lk'.pm,lk'.wt,lk'.up,lk'.fl,lk'.st,fun e he h2=>by
     rcases lk'.cl e he h2 with z | z | z
     ·exact .inl z
     ·have z:e.1=v:=Option.some.inj z
      right;right
      intro i j c1 c2 c3 c4
      rw [z] at c3 c4 ⊢
      exact hin _ ((wI lv).mpr ⟨i,j,c1,c2,c3,c4,rfl⟩)
     ·exact .inr (.inr z)⟩
    unfold jF
    simp only [bx,uM,bools,hW,pop,e5]
    refine ⟨_,_,rfl,⟨_,_,es',ws',rfl,hD',hW',lkn,by omega,kp'⟩,?_⟩
    have fw':=lk'.few hn
    have lk3:(kb es').length=es'.length:=List.length_map ..
    simp only [hD',hW',hD,hW,Option.getD_some,List.length_map,List.length_append,lk2,lk3]
    show 2 * (362880 - es'.length)+ws'.length < 2 * (362880 - es.length)+(vs.length+1)
    omega
end K18
namespace K18
open PySem L2 Am
open Bl
open Stp
open Fw (rg)
open Eu (inj ext)
theorem qz {f:A->A->Option Bool}:∀ {L:List A},(∀ x∈L,f x x=some true)->i_ f L L=some true
 | [],_=>rfl
 | x::L,h=>by
  show (f x x).bind (fun p=>(i_ f L L).map fun q=>p && q)=_
  rw [h x (List.mem_cons_self ..),qz fun y hy=>h y (List.mem_cons_of_mem _ hy)]
  rfl
theorem Jc {S:aE} {a b:Nat} {L:List (List Int)} (h:ak S a=some (L.map aW)) (h':ak S b=some (L.map aW)):oO S 12 (.ref a) (.ref b)=some true:=by
 show (ak S a).bind (fun xs=>(ak S b).bind fun ys=>i_ (oO S 11) xs ys)=_
 rw [h,Option.bind_some,h',Option.bind_some]
 refine qz fun x hx=>?_
 obtain ⟨l,_,rfl⟩:=List.mem_map.mp hx
 show i_ (oO S 10) (l.map .int) (l.map .int)=_
 rw [mJ,decide_eq_true rfl]
theorem Ir {S:aE} {xs ys:List Int} (h:xs.length+ys.length<=16777216):b_ (.tup (xs.map .int)) (.tup (ys.map .int)) S=.ok (.tup ((xs++ys).map .int)) S:=by
 show gd ((xs.map A.int).length+(ys.map A.int).length<=sizeLine) _=_
 rw [List.map_append]
 exact Io (by rw [List.length_map,List.length_map];exact h)
theorem xy {S:aE} {t:Int}:∀ (p:List Int),KA S (.int t) (p.map .int)=some (decide (t∈p))
 | []=>rfl
 | x::p=>by
  show (oO S 12 (.int x) (.int t)).bind (fun a=>(KA S (.int t) (p.map .int)).map fun b=>a || b)=_
  rw [xy p]
  show some ((x == t) || decide (t∈p))=_
  by_cases c:x=t
  ·subst c
   rw [beq_self_eq_true,decide_eq_true (show x∈x::p from List.mem_cons_self ..)];rfl
  ·rw [beq_eq_false_iff_ne.mpr c]
   congr 1
   rw [Bool.false_or,decide_eq_decide]
   constructor
   ·exact fun z=>List.mem_cons_of_mem _ z
   ·intro z
    rcases List.mem_cons.mp z with z | z
    ·exact absurd z.symm c
    ·exact z
theorem GJ {n k:Nat} (h:n<=6) (hk:k<=n):n ^ k<=46656:=Nat.le_trans (Nat.pow_le_pow_left h k) (Nat.le_trans (Nat.pow_le_pow_right (by decide) (show k<=6 by omega)) (by decide))
theorem oJ {n:Nat} (h:n<=6):∀ (l:List (List Int)),(l.flatMap (ext n)).length<=l.length * 6
 | []=>Nat.zero_le _
 | p::l=>by
  rw [List.flatMap_cons,List.length_append,List.length_cons,Nat.add_mul,Nat.one_mul]
  have:(ext n p).length<=n:=by
   unfold ext
   rw [List.length_map]
   exact Nat.le_trans (List.length_filter_le _ _) (by rw [Wd.cY];exact Nat.le_refl _)
  have:=oJ h l
  omega
theorem Jt {S:aE} {n:Nat} (h6:n<=6):∃ (V:Nat) (S':aE),dS [.int n] S=.ok (.ref V) S'/\ak S' V=some ((inj n n).map aW)/\fH S S'/\S.length<=V:=by
 unfold dS lI qu
 simp only [bx,bools,gH,Nat.reduceAdd,Nat.reduceSub,cZ (show 0<=sizeLine from Nat.zero_le _)]
 refine fN (lo:=0) (hi:=(n:Int)) (S1:=S++[O.lst [.tup []]]) (show mQ _ _=_ from eF (by simp only [bx,bools]) (cL (by omega) (by omega)))
  (fun i τ T=>∃ (F:Nat) (a2 a3 a4:A),τ=[.int n,.ref F,a2,a3,a4]/\ak T F=some ((inj n i).map aW)/\fH S T/\S.length<=F)
  (fun r=>∃ (V:Nat) (S':aE),RS.end (RS.seq r _)=.ok (.ref V) S'/\ak S' V=some ((inj n n).map aW)/\fH S S'/\S.length<=V) ⟨S.length,_,_,_,rfl,aS,Kp.refl.lay,Nat.le_refl _⟩ ?_ ?_
 ·rintro i τ T hi ⟨F,a2,a3,a4,rfl,hF,kp,hSF⟩
  left
  have lF:=cN hF
  have lT:=kp.len
  have hin:i < n:=by omega
  have il:=Eu.qZ (n:=n) i
  have pw:=GJ h6 (show i<=n by omega)
  unfold mL
  simp only [bx,bools]
  have hF1:ak (T++[O.lst []]) F=some ((inj n i).map aW):=c_ hF
  obtain ⟨b4,U,ef,hW,kU⟩:=rJ (n:=F) (xs:=(inj n i).map aW) (S1:=T++[O.lst []]) (g:=bF 4) (c:=jy) (τ:=[.int n,.ref F,.int (0+(i:Int)),.ref T.length,a4]) (S:=T++[O.lst []]) (show mV _ _=_ from jk (by simp only [bx,bools]) hF1)
   (fun j τ T'=>(∃ b4,τ=[.int n,.ref F,.int (0+(i:Int)),.ref T.length,b4])/\ak T' F=some ((inj n i).map aW)/\ak T' T.length=some ((((inj n i).take j).flatMap (ext n)).map aW)/\fH S T')
   (fun r=>∃ (b4:A) (U:aE),r=.nx [.int n,.ref F,.int (0+(i:Int)),.ref T.length,b4] U/\ak U T.length=some ((inj n (i+1)).map aW)/\fH S U) ⟨⟨_,rfl⟩,hF1,aS,kp.lay⟩ (fun j τ T' hh=>hh.2.1) (by
    rintro j z τ T' hz ⟨⟨b4,rfl⟩,hF',hW',kp'⟩
    rw [List.getElem?_map] at hz
    obtain ⟨p,hp,rfl⟩:=Option.map_eq_some_iff.mp hz
    have hpl:=(Eu.jP.mp (List.mem_of_getElem? hp)).1
    refine ⟨[.int n,.ref F,.int (0+(i:Int)),.ref T.length,aW p],T',rfl,.inl ?_⟩
    have cc:=uE (lo:=1) (hi:=(n:Int)+1) (cap:=[some 4]) (src:=gz (eC (.int 1)) (aH b_ (ah 0) (eC (.int 1)))) (t:=iW (aH (Mm true) (ah 0) (ah 1))) (e:=aH b_ (ah 1) (fM (aj (ah 0) (aJ)))) (τ:=[.int n,.ref F,.int (0+(i:Int)),.ref T.length,aW p]) (S:=T') (S1:=T')
     (jh (S1:=T') (by simp only [bx,bools]) (by simp only [bx,bools]) (cL (by omega) (by omega)) (cL (by omega) (by omega)))
     (fun t=>decide (t∉p)) (fun t=>aW (p++[t])) (fun t _ _=>by
      have e:Mm true (.int t) (aW p) T'=.ok (.bl (decide (t∉p))) T':=by
       show opt (KA T' (.int t) (p.map .int)) _=_
       rw [xy,bA]
       by_cases c:t∈p
       ·rw [decide_eq_true c,decide_eq_false (fun z=>z c)];rfl
       ·rw [decide_eq_false c,decide_eq_true c];rfl
      simp only [bx,bools,e]) (fun t _ _ _=>by
      have e:b_ (aW p) (.tup [.int t]) T'=.ok (aW (p++[t])) T':=Ir (ys:=[t]) (by rw [hpl];show _+1<=_;omega)
      simp only [bx,bools,fJ (show ([_]:List A).length<=16777216 by simp),e]) (by omega)
    have ee:(((aX 1 ((n:Int)+1)).filter fun t=>decide (t∉p)).map fun t=>aW (p++[t]))=(ext n p).map aW:=by unfold ext;rw [List.map_map];rfl
    rw [ee] at cc
    have ht:(inj n i).take (j+1)=(inj n i).take j++[p]:=by
     obtain ⟨hj,e⟩:=List.getElem?_eq_some_iff.mp hp
     rw [List.take_succ_eq_append_getElem hj,e]
    have fl1:=oJ h6 ((inj n i).take j)
    have fl2:=oJ h6 [p]
    rw [List.flatMap_cons,List.flatMap_nil,List.append_nil] at fl2
    have htl:((inj n i).take j).length<=46656:=by rw [List.length_take];omega
    have x1:=C8 (S:=T'++[.lst ((ext n p).map aW)]) (c_ hW') aS (by
     rw [List.length_map,List.length_map]
     have:[p].length=1:=rfl
     omega)
    have lW:=cN hW'
    unfold jy
    simp only [bx,bools,hW',cc,x1]
    refine ⟨_,_,rfl,⟨_,rfl⟩,?_,?_,kp'.lay.set (.inr lT)⟩
    ·rw [bT (by omega)];exact c_ hF'
    ·rw [cj (by rw [List.length_append];exact Nat.lt_of_lt_of_le lW (Nat.le_add_right _ _)),ht,List.flatMap_append,List.map_append,List.flatMap_cons,List.flatMap_nil,List.append_nil]) (by
    rintro τ T' ⟨⟨b4,rfl⟩,hF',hW',kp'⟩
    rw [List.length_map,List.take_length] at hW'
    exact ⟨b4,T',rfl,hW',kp'⟩)
  rw [ef]
  simp only [bx,bools]
  exact ⟨_,_,rfl,T.length,_,_,_,rfl,hW,kU,lT⟩
 ·rintro τ T ⟨F,a2,a3,a4,rfl,hF,kp,hSF⟩
  rw [show ((n:Int) - 0).toNat=n by omega] at hF
  simp only [bx,bools]
  exact ⟨F,T,rfl,hF,kp,hSF⟩
theorem Jr {S T:aE} {V n:Nat} {L:List (List Int)} {c:Nat} {src:Ic} {te:Te} {τ:List A} {cap:List (Option Nat)} {z0:List A} (hs:src τ S=.ok (d8 V (L.map aW).length) T) (hV:ak T V=some (L.map aW)) (hL:∀ l∈L,l.Perm (rg n)) (hl:L.length<=16777216) (hc:eT cap τ=z0) (q:List Int->Bool)
  (ht:∀ l∈L,∀ T1,fH T T1->∃ T2,te (aW l::z0) T1=.ok (q l) T2/\fH T1 T2):∃ T',bW (none::cap) src (bF 0) te (ah 0) τ S=.ok (.ref T'.length) (T'++[.lst ((L.filter q).map aW)])/\fH T T':=by
 obtain ⟨T',g1,g2⟩:=iS (s:=d8 V (L.map aW).length) (g:=bF 0) (t:=te) (e:=ah 0) (P:=fun S1=>fH T S1) (T:=fun τ'=>∃ y,τ'=y::z0) (fun i=>aW (L.getD i [])) (fun i=>q (L.getD i [])) (fun i=>aW (L.getD i []))
  (fun i S1 hi k=>by
   have hi:i < (L.map aW).length:=hi
   rw [List.length_map] at hi
   show (ak S1 V).bind _=_
   rw [k.lst _ _ (fun z=>z) hV,Option.bind_some,List.getElem?_map,List.getD_eq_getElem?_getD,List.getElem?_eq_getElem hi];rfl)
  (fun S1 k=>by
   show (match ak S1 V with
    | some ys=>decide (ys.length<=(L.map aW).length)
    | none=>false)=true
   rw [k.lst _ _ (fun z=>z) hV]
   simp)
  (fun i τ' S1 hi ⟨y,hy⟩ k=>by
   have hi:i < (L.map aW).length:=hi
   rw [List.length_map] at hi
   subst hy
   have hm:L.getD i []∈L:=by rw [List.getD_eq_getElem?_getD,List.getElem?_eq_getElem hi];exact List.getElem_mem hi
   obtain ⟨T2,e2,k2⟩:=ht _ hm S1 k
   exact ⟨aW (L.getD i [])::z0,S1,T2,rfl,e2,⟨_,rfl⟩,fun _=>k.trans k2,fun _=>⟨T2,by simp only [bx,bools],k.trans k2⟩⟩)
  (L.map aW).length 0 (eT (none::cap) τ) T rfl ⟨.unb,by rw [<- hc];rfl⟩ Kp.refl
 have ef:=rH L q aW []
 rw [List.range_eq_range'] at ef
 rw [List.length_map,ef] at g1
 refine ⟨T',?_,g2⟩
 unfold bW
 rw [hs,R.dz]
 show R.dc (eB (d8 V (L.map aW).length) _ _ _ (L.map aW).length 0 _ _) _=_
 rw [List.length_map,g1,R.cU,bX (by rw [List.length_map];exact Nat.le_trans (List.length_filter_le _ _) hl)]
noncomputable def qb (x z:List Int):Bool:=@decide (Below x z) (Classical.propDecidable _)
theorem o4 {x z:List Int}:qb x z=true ↔ Below x z:=@decide_eq_true_iff _ (Classical.propDecidable _)
theorem GR {x z:List Int} (h:¬ Below x z):qb x z=false:=by
 cases c:qb x z with
 | false=>rfl
 | true=>exact absurd (o4.mp c) h
theorem uO {S:aE} {n:Nat} {x y:List Int} (px:x.Perm (rg n)) (py:y.Perm (rg n)) (h1:1<=n) (h2:n<=20):∃ S' v,bL [aW x,aW y] S=.ok v S'/\v.eE=false/\qV false v .non S'=.ok (.bl (qb x y)) S'/\fH S S':=by
 obtain ⟨S',h,k⟩:=E3 (S:=S) px py h1 h2
 rcases h with ⟨e,hb⟩ | ⟨i,j,e,_,_,_,_,hb⟩
 ·exact ⟨S',_,e,rfl,by rw [o4.mpr hb];rfl,k⟩
 ·refine ⟨S',_,e,rfl,?_,k⟩
  rw [GR fun z=>by have:=hb.1;have:=z i j;omega];rfl
end K18
namespace K18
open PySem L2 Am
open Bl
open Stp
open Fw (rg)
open Eu (inj ext)
noncomputable def qx (x y z:List Int):Bool:=qb z y && qb x z
theorem qX {x y z:List Int}:qx x y z=true ↔ Below x z/\Below z y:=by
 unfold qx
 rw [Bool.and_eq_true,o4,o4]
 exact ⟨fun h=>⟨h.2,h.1⟩,fun h=>⟨h.2,h.1⟩⟩
theorem qH {n:Nat} (h6:n<=6):(inj n n).length<=46656:=Nat.le_trans (Eu.qZ n) (GJ h6 (Nat.le_refl _))
theorem El {n:Nat} {x y:List Int} (h6:n<=6):((inj n n).filter (qx x y)).length<=46656:=Nat.le_trans (List.length_filter_le _ _) (qH h6)
theorem vP {n:Nat} {x y:List Int}:∀ l∈(inj n n).filter (qx x y),l.Perm (rg n):=fun l hl=>Eu.fQ.mp (List.mem_filter.mp hl).1
theorem Gh {S:aE} {n:Nat} {x y:List Int} (px:x.Perm (rg n)) (py:y.Perm (rg n)) (h1:1<=n) (h6:n<=6):∃ (T:aE) (D:Nat) (a3:A),RS.seq (.nx [aW x,aW y,.ref S.length,.unb,.unb,.unb,.unb,.unb] (S++[O.lst []])) (nO (iW (aH (qV false) (eFn bL (aj (ah 0) (aj (ah 1) (aJ)))) (eC .non)))
 (aZ (bE (bW [none,some 0] (fK (eFn dS (aj (aV (f1 eg) (aj (ah 0) (aJ))) (aJ)))) (bF 0) (iW (aH (qV false) (eFn bL (aj (ah 1) (aj (ah 0) (aJ)))) (eC .non))) (ah 0)) (bF 3))
 (bE (bW [none,some 1] (fK (ah 3)) (bF 0) (iW (aH (qV false) (eFn bL (aj (ah 0) (aj (ah 1) (aJ)))) (eC .non))) (ah 0)) (bF 2)))
 (fX))=.nx [aW x,aW y,.ref D,a3,.unb,.unb,.unb,.unb] T/\ak T D=some (((inj n n).filter (qx x y)).map aW)/\fH S T:=by
 have lx:=jf px
 obtain ⟨S2,v,e1,vu,e2,k2⟩:=uO (S:=S++[O.lst []]) px py h1 (by omega)
 have k02:fH S S2:=(Kp.refl.lay).trans k2
 by_cases c:Below x y
 ·rw [o4.mpr c] at e2
  obtain ⟨V,S3,e3,hV,k3,sV⟩:=Jt (S:=S2) h6
  obtain ⟨T1,e4,k4⟩:=Jr (S:=S2) (T:=S3) (V:=V) (n:=n) (c:=0) (L:=inj n n) (src:=fK (eFn dS (aj (aV (f1 eg) (aj (ah 0) (aJ))) (aJ)))) (te:=iW (aH (qV false) (eFn bL (aj (ah 1) (aj (ah 0) (aJ)))) (eC .non))) (τ:=[aW x,aW y,.ref S.length,.unb,.unb,.unb,.unb,.unb]) (cap:=[some 0]) (z0:=[aW x])
   (jk (by simp only [bx,bools,List.length_map,lx,e3]) hV) hV (fun l hl=>Eu.fQ.mp hl) (Nat.le_trans (qH h6) (by decide)) rfl (fun z=>qb x z) (fun l hl T1 _=>by
    obtain ⟨T2,v,f1,fu,f2,f3⟩:=uO (S:=T1) px (Eu.fQ.mp hl) h1 (by omega)
    exact ⟨T2,by simp only [bx,bools,f1,f2],f3⟩)
  have hX:ak (T1++[O.lst (((inj n n).filter fun z=>qb x z).map aW)]) T1.length=some (((inj n n).filter fun z=>qb x z).map aW):=aS
  obtain ⟨T2,e5,k5⟩:=Jr (S:=T1++[O.lst (((inj n n).filter fun z=>qb x z).map aW)]) (T:=T1++[O.lst (((inj n n).filter fun z=>qb x z).map aW)]) (V:=T1.length) (n:=n) (c:=0) (L:=(inj n n).filter fun z=>qb x z) (src:=fK (ah 3)) (te:=iW (aH (qV false) (eFn bL (aj (ah 0) (aj (ah 1) (aJ)))) (eC .non))) (τ:=[aW x,aW y,.ref S.length,.ref T1.length,.unb,.unb,.unb,.unb]) (cap:=[some 1]) (z0:=[aW y])
   (jk (by simp only [bx,bools]) hX) hX (fun l hl=>Eu.fQ.mp (List.mem_filter.mp hl).1) (Nat.le_trans (List.length_filter_le _ _) (Nat.le_trans (qH h6) (by decide))) rfl (fun z=>qb z y) (fun l hl T1 _=>by
    obtain ⟨T2,v,f1,fu,f2,f3⟩:=uO (S:=T1) (Eu.fQ.mp (List.mem_filter.mp hl).1) py h1 (by omega)
    exact ⟨T2,by simp only [bx,bools,f1,f2],f3⟩)
  have ef:(((inj n n).filter fun z=>qb x z).filter fun z=>qb z y)=(inj n n).filter (qx x y):=by rw [List.filter_filter];rfl
  rw [ef] at e5
  simp only [bx,bools,e1,e2,e4,e5]
  exact ⟨_,_,_,rfl,aS,(((k02.trans k3).trans k4).lay.trans k5).lay⟩
 ·rw [GR c] at e2
  have e0:(inj n n).filter (qx x y)=[]:=List.filter_eq_nil_iff.mpr fun z _ hq=>by
   obtain ⟨z1,z2⟩:=qX.mp hq
   exact c (z1.trans z2)
  simp only [bx,bools,e1,e2]
  refine ⟨_,_,_,rfl,?_,k02⟩
  rw [e0]
  exact k2.lst _ _ (fun z=>z) aS
theorem KW {S:aE} {L:List A}:A3 (.ref S.length) (S++[O.lst (L.map fun _=>A.bl false)])=.ok (.bl false) (S++[O.lst (L.map fun _=>A.bl false)]):=by
 have h:A.Ed (L.map fun _=>A.bl false)=some (L.map fun _=>false):=v_ (fun _=>false) L
 rw [Cv aS h]
 congr 2
 induction L with
 | nil=>rfl
 | cons x L ih=>exact ih (v_ (fun _=>false) L)
theorem qN {S:aE} {n:Nat} {x y:List Int} (px:x.Perm (rg n)) (py:y.Perm (rg n)) (h1:1<=n) (h6:n<=6):∃ S',di [aW x,aW y] S=.ok (.bl true) S'/\fH S S':=by
 classical
 obtain ⟨T0,D,a3,e0,hD0,k0⟩:=Gh (S:=S) px py h1 h6
 have df:=El (x:=x) (y:=y) h6
 unfold di j8 ow
 simp only [bx,bools,gH,Nat.reduceAdd,Nat.reduceSub]
 simp only [bx,bools] at e0
 rw [e0]
 simp only [bx,bools]
 refine fN (lo:=0) (hi:=2) (S1:=T0) (show kW _ _=_ from eF (by simp only [bx,bools]) (cL (by decide) (by decide)))
  (fun i τ T=>(∃ a4 a5 a6,τ=[aW x,aW y,.ref D,a3,a4,a5,a6,.unb])/\ak T D=some (((inj n n).filter (qx x y)).map aW)/\fH S T)
  (fun r=>∃ S',RS.end (RS.seq r _)=.ok (.bl true) S'/\fH S S') ⟨⟨_,_,_,rfl⟩,hD0,k0⟩ ?_ ?_
 ·rintro i τ T hi ⟨⟨a4,a5,a6,rfl⟩,hD,kp⟩
  left
  obtain ⟨V,T1,e1,hV,k1,sV⟩:=vU (S:=T) px py h1 h6 (qx x y) (fun z _=>qX)
  have hD1:=k1.lst _ _ (fun z=>z) hD
  have q1:=Jy (Jc hV hD1)
  have lD:=cN hD
  unfold kD
  simp only [bx,bools,e1,hV,Option.map_some,show vE .lst "list" = some true from rfl,Bool.not_true,q1]
  obtain ⟨b6,U,ef,kU⟩:=rJ (n:=V) (xs:=((inj n n).filter (qx x y)).map aW) (S1:=T1) (g:=bF 6) (c:=iM) (τ:=[aW x,aW y,.ref D,a3,.int (0+(i:Int)),.ref V,a6,.unb]) (S:=T1) (show kK _ _=_ from jk (by simp only [bx,bools]) hV)
   (fun j τ T'=>(∃ b6,τ=[aW x,aW y,.ref D,a3,.int (0+(i:Int)),.ref V,b6,.unb])/\fH T1 T')
   (fun r=>∃ (b6:A) (U:aE),r=.nx [aW x,aW y,.ref D,a3,.int (0+(i:Int)),.ref V,b6,.unb] U/\fH T1 U) ⟨⟨_,rfl⟩,Kp.refl⟩ (fun j τ T' hh=>hh.2.lst _ _ (fun z=>z) hV) (by
    rintro j z τ T' hz ⟨⟨b6,rfl⟩,k'⟩
    rw [List.getElem?_map] at hz
    obtain ⟨l,hl,rfl⟩:=Option.map_eq_some_iff.mp hz
    have ll:=jf (vP l (List.mem_of_getElem? hl))
    refine ⟨[aW x,aW y,.ref D,a3,.int (0+(i:Int)),.ref V,aW l,.unb],T',rfl,.inl ?_⟩
    have cc:=sO (xs:=l.map .int) (cap:=[]) (src:=fK (ah 6)) (e:=aV (f2 z7) (aj (ah 0) (aj (eC (.ty "bool")) (aJ)))) (τ:=[aW x,aW y,.ref D,a3,.int (0+(i:Int)),.ref V,aW l,.unb]) (S:=T') (S1:=T') rfl (fun _=>.bl false) (fun t ht=>by
     obtain ⟨t',_,rfl⟩:=List.mem_map.mp ht
     simp only [bx,bools,show vE .int "bool" = some false from rfl]) (by rw [List.length_map];omega)
    unfold iM
    simp only [bx,bools,show vE .tup "tuple" = some true from rfl,Bool.not_true,cc,KW]
    exact ⟨_,_,rfl,⟨_,rfl⟩,k'.lay⟩) (by
    rintro τ T' ⟨⟨b6,rfl⟩,k'⟩
    exact ⟨b6,T',rfl,k'⟩)
  rw [ef]
  have hVU:=kU.lst _ _ (fun z=>z) hV
  have lV:=kp.len
  simp only [bx,bools,hVU,B0 (show (((inj n n).filter (qx x y)).map aW).length < 16777216 by rw [List.length_map];omega)]
  refine ⟨_,_,rfl,⟨_,_,_,rfl⟩,?_,((kp.trans k1).trans kU).set (.inr (by omega))⟩
  rw [bT (by omega)]
  exact kU.lst _ _ (fun z=>z) hD1
 ·rintro τ T ⟨⟨a4,a5,a6,rfl⟩,hD,kp⟩
  obtain ⟨T1,e1,k1⟩:=Jr (S:=T) (T:=T) (V:=D) (n:=n) (c:=0) (L:=(inj n n).filter (qx x y)) (src:=fK (ah 2)) (te:=iW (aH (qE false) (aH kj (aV (f1 eg) (aj (eFn cI (aj (ah 0) (aJ))) (aJ))) (eC (.int 2))) (eC (.int 1)))) (τ:=[aW x,aW y,.ref D,a3,a4,a5,a6,.unb]) (cap:=[]) (z0:=[])
   (jk (by simp only [bx,bools]) hD) hD vP (by omega) rfl (fun z=>decide (Iv.inv z % 2=1)) (fun l hl T1 _=>by
    have ll:=jf (vP l hl)
    obtain ⟨E,T2,f1,⟨us,g1,g2⟩,f3⟩:=Od (S:=T1) (a:=l) (by omega) (by omega)
    have em:kj (.int (Iv.inv l:Nat)) (.int 2) T2=.ok (.int ((Iv.inv l:Int) % 2)) T2:=oW (by decide)
    have eq:(((Iv.inv l:Int) % 2) == 1)=decide (Iv.inv l % 2=1):=by
     by_cases c:Iv.inv l % 2=1
     ·rw [decide_eq_true c,beq_iff_eq];omega
     ·rw [decide_eq_false c,beq_eq_false_iff_ne];omega
    exact ⟨T2,by simp only [bx,bools,f1,g1,g2,em,eq],f3⟩)
  have hD1:ak (T1++[O.lst ((((inj n n).filter (qx x y)).filter fun z=>decide (Iv.inv z % 2=1)).map aW)]) D=some (((inj n n).filter (qx x y)).map aW):=c_ (k1.lst _ _ (fun z=>z) hD)
  have lo:(((inj n n).filter (qx x y)).filter fun z=>decide (Iv.inv z % 2=1)).length<=46656:=Nat.le_trans (List.length_filter_le _ _) df
  generalize hk:(((inj n n).filter (qx x y)).filter fun z=>decide (Iv.inv z % 2=1))=od at e1 hD1 lo
  have mm2:∀ S',gq (.int 2) (.int (od.length:Nat)) S'=.ok (.int (2 * (od.length:Int))) S':=fun S'=>uw (by decide) (by decide)
  by_cases c:x=y
  ·simp only [bx,bools,e1,List.length_map,t6,decide_eq_true c]
   exact ⟨_,rfl,(kp.trans k1).lay⟩
  ·have hh:2 * od.length=((inj n n).filter (qx x y)).length:=by
    by_cases hb:Below x y
    ·rw [<- hk];exact Eu.half px py hb c (qx x y) fun z _=>qX
    ·have e0:(inj n n).filter (qx x y)=[]:=List.filter_eq_nil_iff.mpr fun z _ hq=>by
      obtain ⟨z1,z2⟩:=qX.mp hq
      exact hb (z1.trans z2)
     rw [<- hk,e0];rfl
   have q2:((2 * (od.length:Int)) == (((inj n n).filter (qx x y)).length:Int))=true:=by rw [beq_iff_eq];omega
   simp only [bx,bools,e1,List.length_map,t6,decide_eq_false c,mm2,hD1,q2]
   exact ⟨_,rfl,(kp.trans k1).lay⟩
theorem I_ (ns:List Int) (hl:ns.length<=63):∃ S',qF [.frz (ns.map .int)] []=.ok (.bl true) S':=by
 obtain ⟨S1,e1,b1,kp1⟩:=xE (S:=[]) (ns:=ns) (k:=0) (by decide) (by decide)
 have b1l:0 < S1.length:=by obtain ⟨_,_,e,_⟩:=b1;exact cN e
 obtain ⟨os,hos⟩:∃ os:List A,os=[.int 1,.int 2,.int 3,.int 4,.int 4,.int 5,.int 5,.int 6]:=⟨_,rfl⟩
 have n1:newL [.int 1,.int 2,.int 3,.int 4,.int 4,.int 5,.int 5,.int 6] S1=.ok (.ref S1.length) (S1++[O.lst os]):=by rw [hos];exact bX (show 8<=16777216 by decide)
 have k1:fH S1 (S1++[O.lst os]):=Kp.refl.lay
 obtain ⟨q,S2,e2,q0,q1,b2,kp2⟩:=digit (m:=8) (b1.kp k1 fun z=>z) (by decide) (by decide)
 have g2:ak S2 S1.length=some os:=kp2.lst _ _ (by show S1.length≠0;omega) aS
 obtain ⟨m,em,m0,m1⟩:∃ m:Nat,fB os q=some (.int m)/\1<=m/\m<=6:=by
  have:q=0\/q=1\/q=2\/q=3\/q=4\/q=5\/q=6\/q=7:=by omega
  rw [hos]
  rcases this with rfl | rfl | rfl | rfl | rfl | rfl | rfl | rfl
  ·exact ⟨1,rfl,by decide,by decide⟩
  ·exact ⟨2,rfl,by decide,by decide⟩
  ·exact ⟨3,rfl,by decide,by decide⟩
  ·exact ⟨4,rfl,by decide,by decide⟩
  ·exact ⟨4,rfl,by decide,by decide⟩
  ·exact ⟨5,rfl,by decide,by decide⟩
  ·exact ⟨5,rfl,by decide,by decide⟩
  ·exact ⟨6,rfl,by decide,by decide⟩
 obtain ⟨x,y,S3,e3,px,py,b3,kp3⟩:=yI (n:=m) b2 m0 (by omega)
 obtain ⟨S4,e4,k4⟩:=qN (S:=S3) px py m0 m1
 obtain ⟨S5,e5,b5,kp5⟩:=xE (S:=S4) (ns:=ns) (k:=1) (by decide) (by decide)
 obtain ⟨d,S6,e6,d0,d1,b6,kp6⟩:=digit (m:=4) b5 (by decide) (by decide)
 obtain ⟨n,hn⟩:∃ n:Nat,(n:Int)=1+d:=⟨(1+d).toNat,by omega⟩
 obtain ⟨u,v,S7,e7,pu,pv,b7,kp7⟩:=yI (n:=n) b6 (by omega) (by omega)
 obtain ⟨S8,e8,k8⟩:=qN (S:=S7) pu pv (by omega) (by omega)
 obtain ⟨S9,e9,k9⟩:=qN (S:=S8) pv pu (by omega) (by omega)
 unfold qF CD Ht
 simp only [bx,bools,gH,Nat.reduceAdd,Nat.reduceSub,e1,n1,e2,g2,em,e3,cZ (show ([_,_]:List A).length=2 from rfl),e4,Bool.not_true,e5,e6,<- hn,e7,e8,e9]
 exact ⟨_,rfl⟩
end K18
namespace K18
open PySem L2 Am
theorem all_mk {l:PySem.W.OpenLaw} {w:World} {K:PySem.W.Frag} {h:Heap} {mg:Str->Option Value} {fa f1 f2 f3 f4 f5 f6 f7 f8 f9 f10 f11 f12 f13 f14 f15 f16 f17 f18 f19 f20 f21 f22 f23 f24:Addr} (X:K.In h) (G:h.Ns mainGlobals mg) (hfa:mg "law" = some (.ref fa))
  {od1 an1 od2 an2 od3 an3 od4 an4 od5 an5 od6 an6 od7 an7 od8 an8 od9 an9 od10 an10 od11 an11 od12 an12 od13 an13 od14 an14 od15 an15 od16 an16 od17 an17 od18 an18 od19 an19 od20 an20 od21 an21 od22 an22 od23 an23 od24 an24:Option Addr} {sl1 sl2 sl3 sl4 sl5 sl6 sl7 sl8 sl9 sl10 sl11 sl12 sl13 sl14 sl15 sl16 sl17 sl18 sl19 sl20 sl21 sl22 sl23 sl24:Array (Option Value)} {oc1 kV1 dc1 pm1 cd1 ct1 oc2 kV2 dc2 pm2 cd2 ct2 oc3 kV3 dc3 pm3 cd3 ct3 oc4 kV4 dc4 pm4 cd4 ct4 oc5 kV5 dc5 pm5 cd5 ct5 oc6 kV6 dc6 pm6 cd6 ct6 oc7 kV7 dc7 pm7 cd7 ct7 oc8 kV8 dc8 pm8 cd8 ct8 oc9 kV9 dc9 pm9 cd9 ct9 oc10 kV10 dc10 pm10 cd10 ct10 oc11 kV11 dc11 pm11 cd11 ct11 oc12 kV12 dc12 pm12 cd12 ct12 oc13 kV13 dc13 pm13 cd13 ct13 oc14 kV14 dc14 pm14 cd14 ct14 oc15 kV15 dc15 pm15 cd15 ct15 oc16 kV16 dc16 pm16 cd16 ct16 oc17 kV17 dc17 pm17 cd17 ct17 oc18 kV18 dc18 pm18 cd18 ct18 oc19 kV19 dc19 pm19 cd19 ct19 oc20 kV20 dc20 pm20 cd20 ct20 oc21 kV21 dc21 pm21 cd21 ct21 oc22 kV22 dc22 pm22 cd22 ct22 oc23 kV23 dc23 pm23 cd23 ct23 oc24 kV24 dc24 pm24 cd24 ct24:Value}
  (a1:PySem.W.nsIn K mainGlobals "need_pair" = some (some (.ref f1))) (l1:K.lookup f1=some ⟨oc1,od1,.func (PySem.W.fnOf "need_pair" "need_pair" (bh dZ) (bf dZ) (aI dZ) .none kV1 dc1 pm1 an1 cd1 ct1),sl1⟩) (c1:PySem.W.codeIn K cd1 "need_pair" = true) (k1:PySem.W.keepIn K (.ref f1)=true)
  (a2:PySem.W.nsIn K mainGlobals "exchanged_places" = some (some (.ref f2))) (l2:K.lookup f2=some ⟨oc2,od2,.func (PySem.W.fnOf "exchanged_places" "exchanged_places" (bh bM) (bf bM) (aI bM) .none kV2 dc2 pm2 an2 cd2 ct2),sl2⟩) (c2:PySem.W.codeIn K cd2 "exchanged_places" = true) (k2:PySem.W.keepIn K (.ref f2)=true)
  (a3:PySem.W.nsIn K mainGlobals "place_pairs" = some (some (.ref f3))) (l3:K.lookup f3=some ⟨oc3,od3,.func (PySem.W.fnOf "place_pairs" "place_pairs" (bh cR) (bf cR) (aI cR) .none kV3 dc3 pm3 an3 cd3 ct3),sl3⟩) (c3:PySem.W.codeIn K cd3 "place_pairs" = true) (k3:PySem.W.keepIn K (.ref f3)=true)
  (a4:PySem.W.nsIn K mainGlobals "wrong_pairs" = some (some (.ref f4))) (l4:K.lookup f4=some ⟨oc4,od4,.func (PySem.W.fnOf "wrong_pairs" "wrong_pairs" (bh cV) (bf cV) (aI cV) .none kV4 dc4 pm4 an4 cd4 ct4),sl4⟩) (c4:PySem.W.codeIn K cd4 "wrong_pairs" = true) (k4:PySem.W.keepIn K (.ref f4)=true)
  (a5:PySem.W.nsIn K mainGlobals "length" = some (some (.ref f5))) (l5:K.lookup f5=some ⟨oc5,od5,.func (PySem.W.fnOf "length" "length" (bh iE) (bf iE) (aI iE) .none kV5 dc5 pm5 an5 cd5 ct5),sl5⟩) (c5:PySem.W.codeIn K cd5 "length" = true) (k5:PySem.W.keepIn K (.ref f5)=true)
  (a6:PySem.W.nsIn K mainGlobals "first_above_nought" = some (some (.ref f6))) (l6:K.lookup f6=some ⟨oc6,od6,.func (PySem.W.fnOf "first_above_nought" "first_above_nought" (bh bD) (bf bD) (aI bD) .none kV6 dc6 pm6 an6 cd6 ct6),sl6⟩) (c6:PySem.W.codeIn K cd6 "first_above_nought" = true) (k6:PySem.W.keepIn K (.ref f6)=true)
  (a7:PySem.W.nsIn K mainGlobals "bar" = some (some (.ref f7))) (l7:K.lookup f7=some ⟨oc7,od7,.func (PySem.W.fnOf "bar" "bar" (bh p8) (bf p8) (aI p8) .none kV7 dc7 pm7 an7 cd7 ct7),sl7⟩) (c7:PySem.W.codeIn K cd7 "bar" = true) (k7:PySem.W.keepIn K (.ref f7)=true)
  (a8:PySem.W.nsIn K mainGlobals "is_below" = some (some (.ref f8))) (l8:K.lookup f8=some ⟨oc8,od8,.func (PySem.W.fnOf "is_below" "is_below" (bh eZ) (bf eZ) (aI eZ) .none kV8 dc8 pm8 an8 cd8 ct8),sl8⟩) (c8:PySem.W.codeIn K cd8 "is_below" = true) (k8:PySem.W.keepIn K (.ref f8)=true)
  (a9:PySem.W.nsIn K mainGlobals "need_bounds" = some (some (.ref f9))) (l9:K.lookup f9=some ⟨oc9,od9,.func (PySem.W.fnOf "need_bounds" "need_bounds" (bh cT) (bf cT) (aI cT) .none kV9 dc9 pm9 an9 cd9 ct9),sl9⟩) (c9:PySem.W.codeIn K cd9 "need_bounds" = true) (k9:PySem.W.keepIn K (.ref f9)=true)
  (a10:PySem.W.nsIn K mainGlobals "is_step" = some (some (.ref f10))) (l10:K.lookup f10=some ⟨oc10,od10,.func (PySem.W.fnOf "is_step" "is_step" (bh gg) (bf gg) (aI gg) .none kV10 dc10 pm10 an10 cd10 ct10),sl10⟩) (c10:PySem.W.codeIn K cd10 "is_step" = true) (k10:PySem.W.keepIn K (.ref f10)=true)
  (a11:PySem.W.nsIn K mainGlobals "steps" = some (some (.ref f11))) (l11:K.lookup f11=some ⟨oc11,od11,.func (PySem.W.fnOf "steps" "steps" (bh jJ) (bf jJ) (aI jJ) .none kV11 dc11 pm11 an11 cd11 ct11),sl11⟩) (c11:PySem.W.codeIn K cd11 "steps" = true) (k11:PySem.W.keepIn K (.ref f11)=true)
  (a12:PySem.W.nsIn K mainGlobals "steps_above" = some (some (.ref f12))) (l12:K.lookup f12=some ⟨oc12,od12,.func (PySem.W.fnOf "steps_above" "steps_above" (bh cS) (bf cS) (aI cS) .none kV12 dc12 pm12 an12 cd12 ct12),sl12⟩) (c12:PySem.W.codeIn K cd12 "steps_above" = true) (k12:PySem.W.keepIn K (.ref f12)=true)
  (a13:PySem.W.nsIn K mainGlobals "between" = some (some (.ref f13))) (l13:K.lookup f13=some ⟨oc13,od13,.func (PySem.W.fnOf "between" "between" (bh f_) (bf f_) (aI f_) .none kV13 dc13 pm13 an13 cd13 ct13),sl13⟩) (c13:PySem.W.codeIn K cd13 "between" = true) (k13:PySem.W.keepIn K (.ref f13)=true)
  (a14:PySem.W.nsIn K mainGlobals "_law_bag" = some (some (.ref f14))) (l14:K.lookup f14=some ⟨oc14,od14,.func (PySem.W.fnOf "_law_bag" "_law_bag" (bh gh) (bf gh) (aI gh) .none kV14 dc14 pm14 an14 cd14 ct14),sl14⟩) (c14:PySem.W.codeIn K cd14 "_law_bag" = true) (k14:PySem.W.keepIn K (.ref f14)=true)
  (a15:PySem.W.nsIn K mainGlobals "_law_digit" = some (some (.ref f15))) (l15:K.lookup f15=some ⟨oc15,od15,.func (PySem.W.fnOf "_law_digit" "_law_digit" (bh dX) (bf dX) (aI dX) .none kV15 dc15 pm15 an15 cd15 ct15),sl15⟩) (c15:PySem.W.codeIn K cd15 "_law_digit" = true) (k15:PySem.W.keepIn K (.ref f15)=true)
  (a16:PySem.W.nsIn K mainGlobals "_law_any" = some (some (.ref f16))) (l16:K.lookup f16=some ⟨oc16,od16,.func (PySem.W.fnOf "_law_any" "_law_any" (bh gf) (bf gf) (aI gf) .none kV16 dc16 pm16 an16 cd16 ct16),sl16⟩) (c16:PySem.W.codeIn K cd16 "_law_any" = true) (k16:PySem.W.keepIn K (.ref f16)=true)
  (a17:PySem.W.nsIn K mainGlobals "_law_order" = some (some (.ref f17))) (l17:K.lookup f17=some ⟨oc17,od17,.func (PySem.W.fnOf "_law_order" "_law_order" (bh dR) (bf dR) (aI dR) .none kV17 dc17 pm17 an17 cd17 ct17),sl17⟩) (c17:PySem.W.codeIn K cd17 "_law_order" = true) (k17:PySem.W.keepIn K (.ref f17)=true)
  (a18:PySem.W.nsIn K mainGlobals "_law_raised" = some (some (.ref f18))) (l18:K.lookup f18=some ⟨oc18,od18,.func (PySem.W.fnOf "_law_raised" "_law_raised" (bh dj) (bf dj) (aI dj) .none kV18 dc18 pm18 an18 cd18 ct18),sl18⟩) (c18:PySem.W.codeIn K cd18 "_law_raised" = true) (k18:PySem.W.keepIn K (.ref f18)=true)
  (a19:PySem.W.nsIn K mainGlobals "_law_pair" = some (some (.ref f19))) (l19:K.lookup f19=some ⟨oc19,od19,.func (PySem.W.fnOf "_law_pair" "_law_pair" (bh eL) (bf eL) (aI eL) .none kV19 dc19 pm19 an19 cd19 ct19),sl19⟩) (c19:PySem.W.codeIn K cd19 "_law_pair" = true) (k19:PySem.W.keepIn K (.ref f19)=true)
  (a20:PySem.W.nsIn K mainGlobals "_law_bar" = some (some (.ref f20))) (l20:K.lookup f20=some ⟨oc20,od20,.func (PySem.W.fnOf "_law_bar" "_law_bar" (bh gb) (bf gb) (aI gb) .none kV20 dc20 pm20 an20 cd20 ct20),sl20⟩) (c20:PySem.W.codeIn K cd20 "_law_bar" = true) (k20:PySem.W.keepIn K (.ref f20)=true)
  (a21:PySem.W.nsIn K mainGlobals "_law_wrong" = some (some (.ref f21))) (l21:K.lookup f21=some ⟨oc21,od21,.func (PySem.W.fnOf "_law_wrong" "_law_wrong" (bh dQ) (bf dQ) (aI dQ) .none kV21 dc21 pm21 an21 cd21 ct21),sl21⟩) (c21:PySem.W.codeIn K cd21 "_law_wrong" = true) (k21:PySem.W.keepIn K (.ref f21)=true)
  (a22:PySem.W.nsIn K mainGlobals "_law_all" = some (some (.ref f22))) (l22:K.lookup f22=some ⟨oc22,od22,.func (PySem.W.fnOf "_law_all" "_law_all" (bh gc) (bf gc) (aI gc) .none kV22 dc22 pm22 an22 cd22 ct22),sl22⟩) (c22:PySem.W.codeIn K cd22 "_law_all" = true) (k22:PySem.W.keepIn K (.ref f22)=true)
  (a23:PySem.W.nsIn K mainGlobals "_law_good" = some (some (.ref f23))) (l23:K.lookup f23=some ⟨oc23,od23,.func (PySem.W.fnOf "_law_good" "_law_good" (bh fh) (bf fh) (aI fh) .none kV23 dc23 pm23 an23 cd23 ct23),sl23⟩) (c23:PySem.W.codeIn K cd23 "_law_good" = true) (k23:PySem.W.keepIn K (.ref f23)=true)
  (a24:PySem.W.nsIn K mainGlobals "law" = some (some (.ref f24))) (l24:K.lookup f24=some ⟨oc24,od24,.func (PySem.W.fnOf "law" "law" (bh lH) (bf lH) (aI lH) .none kV24 dc24 pm24 an24 cd24 ct24),sl24⟩) (c24:PySem.W.codeIn K cd24 "law" = true) (k24:PySem.W.keepIn K (.ref f24)=true)
  (z_len:PySem.W.nsIn K mainGlobals "len" = some none)
  (z_list:PySem.W.nsIn K mainGlobals "list" = some none)
  (z_tuple:PySem.W.nsIn K mainGlobals "tuple" = some none)
  (z_range:PySem.W.nsIn K mainGlobals "range" = some none)
  (z_max:PySem.W.nsIn K mainGlobals "max" = some none)
  (z_min:PySem.W.nsIn K mainGlobals "min" = some none)
  (z_any:PySem.W.nsIn K mainGlobals "any" = some none)
  (z_sorted:PySem.W.nsIn K mainGlobals "sorted" = some none)
  (z_abs:PySem.W.nsIn K mainGlobals "abs" = some none)
  (z_int:PySem.W.nsIn K mainGlobals "int" = some none)
  (z_isinstance:PySem.W.nsIn K mainGlobals "isinstance" = some none)
  (z_bool:PySem.W.nsIn K mainGlobals "bool" = some none)
  {t_MOST_CLIMBED_PAIRS:Tok} (y_MOST_CLIMBED_PAIRS:PySem.W.nsIn K mainGlobals "MOST_CLIMBED_PAIRS" = some (some (.int 4 t_MOST_CLIMBED_PAIRS)))
  {t_MOST_CLIMBED_THINGS:Tok} (y_MOST_CLIMBED_THINGS:PySem.W.nsIn K mainGlobals "MOST_CLIMBED_THINGS" = some (some (.int 9 t_MOST_CLIMBED_THINGS)))
  {t_MOST_THINGS:Tok} (y_MOST_THINGS:PySem.W.nsIn K mainGlobals "MOST_THINGS" = some (some (.int 6 t_MOST_THINGS)))
  : ∃ fd:FuncData,(∀ (s:Shared) (v:Value),BindsTo s fd ⟨[v],[]⟩ [("_law_script",v)])/\∀ base:Heap,K.In base->base.Ns mainGlobals mg->FnOk l.prog w K mg base jL 7 fa fd ["_law_script"] (kB K 1 qF):=by
 have e:=hfa.symm.trans (PySem.W.mg_of X G a24)
 cases e
 have b_len:=PySem.W.mg_none_of X G z_len
 have b_list:=PySem.W.mg_none_of X G z_list
 have b_tuple:=PySem.W.mg_none_of X G z_tuple
 have b_range:=PySem.W.mg_none_of X G z_range
 have b_max:=PySem.W.mg_none_of X G z_max
 have b_min:=PySem.W.mg_none_of X G z_min
 have b_any:=PySem.W.mg_none_of X G z_any
 have b_sorted:=PySem.W.mg_none_of X G z_sorted
 have b_abs:=PySem.W.mg_none_of X G z_abs
 have b_int:=PySem.W.mg_none_of X G z_int
 have b_isinstance:=PySem.W.mg_none_of X G z_isinstance
 have b_bool:=PySem.W.mg_none_of X G z_bool
 have g_MOST_CLIMBED_PAIRS:∃ t,mg "MOST_CLIMBED_PAIRS" = some (.int 4 t):=⟨t_MOST_CLIMBED_PAIRS,PySem.W.mg_of X G y_MOST_CLIMBED_PAIRS⟩
 have g_MOST_CLIMBED_THINGS:∃ t,mg "MOST_CLIMBED_THINGS" = some (.int 9 t):=⟨t_MOST_CLIMBED_THINGS,PySem.W.mg_of X G y_MOST_CLIMBED_THINGS⟩
 have g_MOST_THINGS:∃ t,mg "MOST_THINGS" = some (.int 6 t):=⟨t_MOST_THINGS,PySem.W.mg_of X G y_MOST_THINGS⟩
 have F1:=bS (st:=dZ) l1 c1 k1
 have i1:=F1.binds (ps:=["one", "other"]) fun _ _ _ _ _ _=>Ao fun _ _=>rfl
 have F2:=bS (st:=bM) l2 c2 k2
 have i2:=F2.binds (ps:=["order", "i", "j"]) fun _ _ _ _ _ _=>MT fun _ _ _=>rfl
 have F3:=bS (st:=cR) l3 c3 k3
 have i3:=F3.binds (ps:=["n"]) fun _ _ _ _ _ _=>Gw fun _=>rfl
 have F4:=bS (st:=cV) l4 c4 k4
 have i4:=F4.binds (ps:=["order"]) fun _ _ _ _ _ _=>Gw fun _=>rfl
 have F5:=bS (st:=iE) l5 c5 k5
 have i5:=F5.binds (ps:=["order"]) fun _ _ _ _ _ _=>Gw fun _=>rfl
 have F6:=bS (st:=bD) l6 c6 k6
 have i6:=F6.binds (ps:=["numbers"]) fun _ _ _ _ _ _=>Gw fun _=>rfl
 have F7:=bS (st:=p8) l7 c7 k7
 have i7:=F7.binds (ps:=["one", "other"]) fun _ _ _ _ _ _=>Ao fun _ _=>rfl
 have F8:=bS (st:=eZ) l8 c8 k8
 have i8:=F8.binds (ps:=["one", "other"]) fun _ _ _ _ _ _=>Ao fun _ _=>rfl
 have F9:=bS (st:=cT) l9 c9 k9
 have i9:=F9.binds (ps:=["one", "other", "free_things", "most_things", "most_pairs"]) fun _ _ _ _ _ _=>Oj fun _ _ _ _ _=>rfl
 have F10:=bS (st:=gg) l10 c10 k10
 have i10:=F10.binds (ps:=["order", "i", "j"]) fun _ _ _ _ _ _=>MT fun _ _ _=>rfl
 have F11:=bS (st:=jJ) l11 c11 k11
 have i11:=F11.binds (ps:=["order", "pairs"]) fun _ _ _ _ _ _=>Ao fun _ _=>rfl
 have F12:=bS (st:=cS) l12 c12 k12
 have i12:=F12.binds (ps:=["order"]) fun _ _ _ _ _ _=>Gw fun _=>rfl
 have F13:=bS (st:=f_) l13 c13 k13
 have i13:=F13.binds (ps:=["one", "other"]) fun _ _ _ _ _ _=>Ao fun _ _=>rfl
 have F14:=bS (st:=gh) l14 c14 k14
 have i14:=F14.binds (ps:=["_law_script", "_law_k"]) fun _ _ _ _ _ _=>Ao fun _ _=>rfl
 have F15:=bS (st:=dX) l15 c15 k15
 have i15:=F15.binds (ps:=["_law_bag_here", "_law_many"]) fun _ _ _ _ _ _=>Ao fun _ _=>rfl
 have F16:=bS (st:=gf) l16 c16 k16
 have i16:=F16.binds (ps:=["_law_bag_here", "_law_n"]) fun _ _ _ _ _ _=>Ao fun _ _=>rfl
 have F17:=bS (st:=dR) l17 c17 k17
 have i17:=F17.binds (ps:=["_law_bag_here", "_law_n"]) fun _ _ _ _ _ _=>Ao fun _ _=>rfl
 have F18:=bS (st:=dj) l18 c18 k18
 have i18:=F18.binds (ps:=["_law_bag_here", "_law_order_here", "_law_most"]) fun _ _ _ _ _ _=>MT fun _ _ _=>rfl
 have F19:=bS (st:=eL) l19 c19 k19
 have i19:=F19.binds (ps:=["_law_bag_here", "_law_n"]) fun _ _ _ _ _ _=>Ao fun _ _=>rfl
 have F20:=bS (st:=gb) l20 c20 k20
 have i20:=F20.binds (ps:=["_law_one", "_law_other"]) fun _ _ _ _ _ _=>Ao fun _ _=>rfl
 have F21:=bS (st:=dQ) l21 c21 k21
 have i21:=F21.binds (ps:=["_law_order_here"]) fun _ _ _ _ _ _=>Gw fun _=>rfl
 have F22:=bS (st:=gc) l22 c22 k22
 have i22:=F22.binds (ps:=["_law_n"]) fun _ _ _ _ _ _=>Gw fun _=>rfl
 have F23:=bS (st:=fh) l23 c23 k23
 have i23:=F23.binds (ps:=["_law_one", "_law_other"]) fun _ _ _ _ _ _=>Ao fun _ _=>rfl
 have F24:=bS (st:=lH) l24 c24 k24
 have i24:=F24.binds (ps:=["_law_script"]) fun _ _ _ _ _ _=>Gw fun _=>rfl
 refine ⟨PySem.W.fnOf "law" "law" (bh lH) (bf lH) (aI lH) .none kV24 dc24 pm24 an24 cd24 ct24,fun s v=>.of_eq rfl,fun base _ _=>?_⟩
 have G_need_pair:fq l.prog w K mg base 1 "need_pair" ["one", "other"] cG:=⟨f1,_,qS F1 b_len,PySem.W.mg_of X G a1,k1,i1⟩
 have G_exchanged_places:fq l.prog w K mg base 1 "exchanged_places" ["order", "i", "j"] bu:=⟨f2,_,jU F2 b_list b_tuple,PySem.W.mg_of X G a2,k2,i2⟩
 have G_place_pairs:fq l.prog w K mg base 1 "place_pairs" ["n"] bN:=⟨f3,_,oK F3 b_range,PySem.W.mg_of X G a3,k3,i3⟩
 have G_wrong_pairs:fq l.prog w K mg base 2 "wrong_pairs" ["order"] fj:=⟨f4,_,oU F4 b_len G_place_pairs,PySem.W.mg_of X G a4,k4,i4⟩
 have G_length:fq l.prog w K mg base 3 "length" ["order"] jz:=⟨f5,_,zV F5 b_len G_wrong_pairs,PySem.W.mg_of X G a5,k5,i5⟩
 have G_first_above_nought:fq l.prog w K mg base 1 "first_above_nought" ["numbers"] bC:=⟨f6,_,jc F6,PySem.W.mg_of X G a6,k6,i6⟩
 have G_bar:fq l.prog w K mg base 2 "bar" ["one", "other"] pC:=⟨f7,_,IK F7 b_len b_range b_max G_need_pair G_first_above_nought,PySem.W.mg_of X G a7,k7,i7⟩
 have G_is_below:fq l.prog w K mg base 3 "is_below" ["one", "other"] cJ:=⟨f8,_,uA F8 G_bar,PySem.W.mg_of X G a8,k8,i8⟩
 have G_need_bounds:fq l.prog w K mg base 4 "need_bounds" ["one", "other", "free_things", "most_things", "most_pairs"] cP:=⟨f9,_,oY F9 b_len G_length,PySem.W.mg_of X G a9,k9,i9⟩
 have G_is_step:fq l.prog w K mg base 1 "is_step" ["order", "i", "j"] dW:=⟨f10,_,vH F10 b_min b_max b_any,PySem.W.mg_of X G a10,k10,i10⟩
 have G_steps:fq l.prog w K mg base 2 "steps" ["order", "pairs"] jO:=⟨f11,_,CM F11 b_sorted G_is_step G_exchanged_places,PySem.W.mg_of X G a11,k11,i11⟩
 have G_steps_above:fq l.prog w K mg base 3 "steps_above" ["order"] cW:=⟨f12,_,o7 F12 b_len G_steps G_place_pairs,PySem.W.mg_of X G a12,k12,i12⟩
 have G_between:fq l.prog w K mg base 5 "between" ["one", "other"] eO:=⟨f13,_,vJ F13 b_sorted g_MOST_CLIMBED_PAIRS g_MOST_CLIMBED_THINGS g_MOST_THINGS G_need_pair G_need_bounds G_is_below G_steps_above,PySem.W.mg_of X G a13,k13,i13⟩
 have G_law_bag:fq l.prog w K mg base 1 "_law_bag" ["_law_script", "_law_k"] eX:=⟨f14,_,u_ F14 b_len b_abs b_int,PySem.W.mg_of X G a14,k14,i14⟩
 have G_law_digit:fq l.prog w K mg base 1 "_law_digit" ["_law_bag_here", "_law_many"] aR:=⟨f15,_,qK F15,PySem.W.mg_of X G a15,k15,i15⟩
 have G_law_any:fq l.prog w K mg base 2 "_law_any" ["_law_bag_here", "_law_n"] fZ:=⟨f16,_,uU F16 b_list b_range b_len b_tuple G_law_digit,PySem.W.mg_of X G a16,k16,i16⟩
 have G_law_order:fq l.prog w K mg base 3 "_law_order" ["_law_bag_here", "_law_n"] dg:=⟨f17,_,rR F17 b_list b_range b_tuple G_law_digit G_law_any,PySem.W.mg_of X G a17,k17,i17⟩
 have G_law_raised:fq l.prog w K mg base 2 "_law_raised" ["_law_bag_here", "_law_order_here", "_law_most"] dm:=⟨f18,_,pT F18 b_list b_range b_len b_max b_min b_tuple G_law_digit,PySem.W.mg_of X G a18,k18,i18⟩
 have G_law_pair:fq l.prog w K mg base 4 "_law_pair" ["_law_bag_here", "_law_n"] dM:=⟨f19,_,uF F19 G_law_order G_law_digit G_law_raised,PySem.W.mg_of X G a19,k19,i19⟩
 have G_law_bar:fq l.prog w K mg base 1 "_law_bar" ["_law_one", "_law_other"] bL:=⟨f20,_,vS F20 b_len b_range b_int,PySem.W.mg_of X G a20,k20,i20⟩
 have G_law_wrong:fq l.prog w K mg base 1 "_law_wrong" ["_law_order_here"] cI:=⟨f21,_,rF F21 b_len b_range,PySem.W.mg_of X G a21,k21,i21⟩
 have G_law_all:fq l.prog w K mg base 1 "_law_all" ["_law_n"] dS:=⟨f22,_,u0 F22 b_range,PySem.W.mg_of X G a22,k22,i22⟩
 have G_law_good:fq l.prog w K mg base 6 "_law_good" ["_law_one", "_law_other"] di:=⟨f23,_,tF F23 b_len b_range b_isinstance b_list b_any b_bool b_tuple G_law_bar G_law_all G_between G_law_wrong,PySem.W.mg_of X G a23,k23,i23⟩
 exact Kc F24 G_law_bag G_law_pair G_law_digit G_law_good
theorem walk {l:PySem.W.OpenLaw} {q:Program} {loose:List Str} {XP:(Str->Option Value)->Heap->Prop} {YP:World->Heap->Prop} {d:DefRec} {K:Params->PySem.W.Frag} (hn:l.most=some 63) (hdf:d.params.defaults=[])
  (hY:∀ (w:World) (h:Heap),YP w h->(K w.params).In h)
  (F:∀ (w:World) (mg:Str->Option Value) (fa:Addr) (h:Heap),(K w.params).In h->h.Ns mainGlobals mg->mg d.name=some (.ref fa) ->
   ∃ fd:FuncData,(∀ (s:Shared) (u:Value),BindsTo s fd ⟨[u],[]⟩ [("_law_script",u)])/\∀ base:Heap,(K w.params).In base->base.Ns mainGlobals mg->FnOk l.prog w (K w.params) mg base jL 7 fa fd ["_law_script"] (kB (K w.params) 1 qF)) :
  PySem.W.WalkO q loose XP YP l.row.toRowW d [] (fun f vs=>PySem.call f vs):=
 L2.EY (n:=63) (k:=7) (x := "_law_script") (CX:=fun _=>jL) (sp:=fun w=>kB (K w.params) 1 qF) hn (by decide) hdf ⟨rfl,by decide,by decide⟩ hY F (fun _ H a ns hl hO hS=>zl hO hS (I_ ns hl)) fun _ _ _ _ _ z=>z
end K18
open PySem PySem.W PyProof.Rows
namespace PySem.W.Fast
theorem tw3004571830306651636:True:=trivial
theorem tw17344661002011200602:True:=trivial
theorem tw15961359151545436883:True:=trivial
theorem tw11424177328158572441:True:=trivial
theorem tw14494726646509934393:True:=trivial
theorem tw6156324529037816907:True:=trivial
theorem tw15934666797886838654:True:=trivial
theorem tw4923051627953366964:True:=trivial
theorem tw14716895260692589363:True:=trivial
theorem tw947969883359526409:True:=trivial
theorem tw5248864266962687935:True:=trivial
theorem tw8928318563367978870:True:=trivial
theorem tw12299333909849702599:True:=trivial
theorem tw11364098299646715596:True:=trivial
theorem tw302633709842279107:True:=trivial
theorem tw13324996795690909298:True:=trivial
theorem tw2479731099635242352:True:=trivial
theorem tw15822338898582157426:True:=trivial
theorem tw13181814702949846868:True:=trivial
theorem tw1821072763768546375:True:=trivial
theorem tw16290343447275044699:True:=trivial
theorem tw17749046125256539253:True:=trivial
theorem tw11405128925679438933:True:=trivial
theorem tw16400498361891235070:True:=trivial
theorem tw15785255468187189665:True:=trivial
theorem tw15117576841232889966:True:=trivial
theorem tw3536026565323706589:True:=trivial
theorem tw13292899962441721071:True:=trivial
theorem tw16075038361353172707:True:=trivial
theorem tw11870572538020071163:True:=trivial
theorem tw18079508302918854436:True:=trivial
theorem tw15777192227361031715:True:=trivial
theorem tw5602009421101194055:True:=trivial
theorem tw685781247384230595:True:=trivial
theorem tw15302178415111034091:True:=trivial
theorem tw10630660114297910521:True:=trivial
theorem tw6786855243317328902:True:=trivial
theorem tw15349698479547534390:True:=trivial
theorem tw11867054142993193944:True:=trivial
theorem tw13642109199209781077:True:=trivial
theorem tw9720937847022804914:True:=trivial
theorem tw7481498478290617245:True:=trivial
theorem tw11853124555965671134:True:=trivial
theorem tw9694168316521938092:True:=trivial
theorem tw17799443842184810456:True:=trivial
theorem tw9955012583556821695:True:=trivial
theorem tw10480215959718857003:True:=trivial
theorem tw2933296956575483794:True:=trivial
theorem tw7688904837976212885:True:=trivial
theorem tw13498885982678393664:True:=trivial
theorem tw6581141949080641647:True:=trivial
theorem tw3370919899192617587:True:=trivial
theorem tw6941551841218080632:True:=trivial
theorem tw15473076059101178480:True:=trivial
theorem tw6412539296358706631:True:=trivial
theorem tw3523184858930651940:True:=trivial
theorem tw481990684749281583:True:=trivial
theorem tw15504616052251776241:True:=trivial
theorem tw14302746589098129320:True:=trivial
theorem tw6107951832456809438:True:=trivial
end PySem.W.Fast
set_option maxRecDepth 100000 in
set_option maxHeartbeats 0 in
theorem PySem.Challenge.cw_undercells_k18_all_between_holds : PySem.Challenge.rw_undercells_k18_all_between.Holds := by
 w_on;o_law;k_head;(case hw=>w_witness2)
 k_fill
 refine K18.walk (l:=PySem.Challenge.rw_undercells_k18_all_between) rfl rfl (fun w h Y=>PySem.W.kIn_of Y) ?F
 case F=>
  intro w mg fa h KX G hmg
  refine' K18.all_mk KX G hmg ?a1 ?l1 ?c1 ?k1 ?a2 ?l2 ?c2 ?k2 ?a3 ?l3 ?c3 ?k3 ?a4 ?l4 ?c4 ?k4 ?a5 ?l5 ?c5 ?k5 ?a6 ?l6 ?c6 ?k6 ?a7 ?l7 ?c7 ?k7 ?a8 ?l8 ?c8 ?k8 ?a9 ?l9 ?c9 ?k9 ?a10 ?l10 ?c10 ?k10 ?a11 ?l11 ?c11 ?k11 ?a12 ?l12 ?c12 ?k12 ?a13 ?l13 ?c13 ?k13 ?a14 ?l14 ?c14 ?k14 ?a15 ?l15 ?c15 ?k15 ?a16 ?l16 ?c16 ?k16 ?a17 ?l17 ?c17 ?k17 ?a18 ?l18 ?c18 ?k18 ?a19 ?l19 ?c19 ?k19 ?a20 ?l20 ?c20 ?k20 ?a21 ?l21 ?c21 ?k21 ?a22 ?l22 ?c22 ?k22 ?a23 ?l23 ?c23 ?k23 ?a24 ?l24 ?c24 ?k24 ?z_len ?z_list ?z_tuple ?z_range ?z_max ?z_min ?z_any ?z_sorted ?z_abs ?z_int ?z_isinstance ?z_bool ?y_MOST_CLIMBED_PAIRS ?y_MOST_CLIMBED_THINGS ?y_MOST_THINGS
  (case a1=>k_is)
  (case l1=>k_is)
  (case c1=>k_is)
  (case k1=>k_is)
  (case a2=>k_is)
  (case l2=>k_is)
  (case c2=>k_is)
  (case k2=>k_is)
  (case a3=>k_is)
  (case l3=>k_is)
  (case c3=>k_is)
  (case k3=>k_is)
  (case a4=>k_is)
  (case l4=>k_is)
  (case c4=>k_is)
  (case k4=>k_is)
  (case a5=>k_is)
  (case l5=>k_is)
  (case c5=>k_is)
  (case k5=>k_is)
  (case a6=>k_is)
  (case l6=>k_is)
  (case c6=>k_is)
  (case k6=>k_is)
  (case a7=>k_is)
  (case l7=>k_is)
  (case c7=>k_is)
  (case k7=>k_is)
  (case a8=>k_is)
  (case l8=>k_is)
  (case c8=>k_is)
  (case k8=>k_is)
  (case a9=>k_is)
  (case l9=>k_is)
  (case c9=>k_is)
  (case k9=>k_is)
  (case a10=>k_is)
  (case l10=>k_is)
  (case c10=>k_is)
  (case k10=>k_is)
  (case a11=>k_is)
  (case l11=>k_is)
  (case c11=>k_is)
  (case k11=>k_is)
  (case a12=>k_is)
  (case l12=>k_is)
  (case c12=>k_is)
  (case k12=>k_is)
  (case a13=>k_is)
  (case l13=>k_is)
  (case c13=>k_is)
  (case k13=>k_is)
  (case a14=>k_is)
  (case l14=>k_is)
  (case c14=>k_is)
  (case k14=>k_is)
  (case a15=>k_is)
  (case l15=>k_is)
  (case c15=>k_is)
  (case k15=>k_is)
  (case a16=>k_is)
  (case l16=>k_is)
  (case c16=>k_is)
  (case k16=>k_is)
  (case a17=>k_is)
  (case l17=>k_is)
  (case c17=>k_is)
  (case k17=>k_is)
  (case a18=>k_is)
  (case l18=>k_is)
  (case c18=>k_is)
  (case k18=>k_is)
  (case a19=>k_is)
  (case l19=>k_is)
  (case c19=>k_is)
  (case k19=>k_is)
  (case a20=>k_is)
  (case l20=>k_is)
  (case c20=>k_is)
  (case k20=>k_is)
  (case a21=>k_is)
  (case l21=>k_is)
  (case c21=>k_is)
  (case k21=>k_is)
  (case a22=>k_is)
  (case l22=>k_is)
  (case c22=>k_is)
  (case k22=>k_is)
  (case a23=>k_is)
  (case l23=>k_is)
  (case c23=>k_is)
  (case k23=>k_is)
  (case a24=>k_is)
  (case l24=>k_is)
  (case c24=>k_is)
  (case k24=>k_is)
  (case z_len=>k_is)
  (case z_list=>k_is)
  (case z_tuple=>k_is)
  (case z_range=>k_is)
  (case z_max=>k_is)
  (case z_min=>k_is)
  (case z_any=>k_is)
  (case z_sorted=>k_is)
  (case z_abs=>k_is)
  (case z_int=>k_is)
  (case z_isinstance=>k_is)
  (case z_bool=>k_is)
  (case y_MOST_CLIMBED_PAIRS=>k_is)
  (case y_MOST_CLIMBED_THINGS=>k_is)
  (case y_MOST_THINGS=>k_is)
