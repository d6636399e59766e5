import PyProof.Rows.All
import Wide.All
import OpenK.AllK
import Wide.FinOn
import Lean
import PyProof.EqAt
import PyProof.EqKinds
import PyProof.TupleCall
import PySem.Challenge.RW_undercells_k09_roads_refused
set_option Elab.async false
set_option linter.all false
set_option maxRecDepth 100000
namespace L2
open PySem PySem.Spec PyProof.Rows
abbrev Key:=Sum Int Str
def pW:Key -> Value -> Bool
 | .inl k,v=>Value.isInt k v
 | .inr x,v=>Value.isStrOf x v
def KW (w:World):Key -> Int
 | .inl k=>hashInt k
 | .inr x=>hashStr w x
theorem cB:∀ {k:Key} {v:Value},pW k v=true -> (∃ i t,k=Sum.inl i /\ v=Value.int i t) \/ (∃ x t,k=Sum.inr x /\ v=Value.str x t)
 | .inl i,v,h=>by
  obtain ⟨t,e⟩:=Value.isInt_shape (k:=i) (v:=v) h
  exact .inl ⟨i,t,rfl,e⟩
 | .inr x,v,h=>by
  obtain ⟨t,e⟩:=Value.isStrOf_shape (x:=x) (v:=v) h
  exact .inr ⟨x,t,rfl,e⟩
theorem yw (i:Int) (t:Tok):pW (.inl i) (.int i t)=true:=by simp [pW,Value.isInt]
theorem yC (x:Str) (t:Tok):pW (.inr x) (.str x t)=true:=by simp [pW,Value.isStrOf]
theorem Hv (a b:Int):decide ((Sum.inl a:Key)=Sum.inl b)=(a == b):=by
 by_cases e:a=b
 ·subst e;simp
 ·have h:¬ (Sum.inl a:Key)=Sum.inl b:=fun q=>e (Sum.inl.inj q)
  rw [decide_eq_false h]
  exact (beq_eq_false_iff_ne.mpr e).symm
theorem Gy (a b:Str):decide ((Sum.inr a:Key)=Sum.inr b)=decide (a=b):=by
 by_cases e:a=b
 ·subst e;simp
 ·have h:¬ (Sum.inr a:Key)=Sum.inr b:=fun q=>e (Sum.inr.inj q)
  rw [decide_eq_false h,decide_eq_false e]
theorem Gg (a:Int) (b:Str):decide ((Sum.inl a:Key)=Sum.inr b)=false:=decide_eq_false (fun q=>nomatch q)
theorem GV (a:Str) (b:Int):decide ((Sum.inr a:Key)=Sum.inl b)=false:=decide_eq_false (fun q=>nomatch q)
def dh (prog:Program) (w:World):PySem.KeyKind prog w Key where
 is:=pW
 hash:=KW w
 inj:=fun v a b ha hb=>by
  rcases cB ha with ⟨i,t,rfl,rfl⟩ | ⟨x,t,rfl,rfl⟩
  ·rcases cB hb with ⟨j,u,rfl,e⟩ | ⟨y,u,rfl,e⟩
   ·injection e with e1 _;rw [e1]
   ·exact nomatch e
  ·rcases cB hb with ⟨j,u,rfl,e⟩ | ⟨y,u,rfl,e⟩
   ·exact nomatch e
   ·injection e with e1 _;rw [e1]
 byValue:=fun k v h=>by
  rcases cB h with ⟨i,t,rfl,rfl⟩ | ⟨x,t,rfl,rfl⟩ <;> rfl
 pyHash:=fun hv h=>by
  rcases cB hv with ⟨i,t,rfl,rfl⟩ | ⟨x,t,rfl,rfl⟩
  ·exact wpAny_pyHash_int h
  ·exact wpAny_pyHash_str h
 eqBool:=fun hu hv h=>by
  rcases cB hu with ⟨i,t,rfl,rfl⟩ | ⟨x,t,rfl,rfl⟩
  ·rcases cB hv with ⟨j,u,rfl,rfl⟩ | ⟨y,u,rfl,rfl⟩
   ·rw [Hv] at h;exact wpAny_eqBool_int h
   ·rw [Gg] at h;exact SeqAt.EqAt.int_str i t y u _ _ _ _ h
  ·rcases cB hv with ⟨j,u,rfl,rfl⟩ | ⟨y,u,rfl,rfl⟩
   ·rw [GV] at h;exact SeqAt.EqAt.str_int x t j u _ _ _ _ h
   ·rw [Gy] at h;exact wpAny_eqBool_str h
 «strs»:=fun k x t v h=>by
  rcases cB h with ⟨i,u,rfl,e⟩ | ⟨y,u,rfl,e⟩
  ·exact nomatch e
  ·injection e with e1 _
   subst e1
   cases v <;> rfl
theorem rR (prog:Program) (w:World) (i:Int) (t:Tok):(dh prog w).is (.inl i) (.int i t)=true:=yw i t
theorem sN (prog:Program) (w:World) (x:Str) (t:Tok):(dh prog w).is (.inr x) (.str x t)=true:=yC x t
end L2
namespace L2
open PySem PySem.Spec PyProof.Rows
inductive V where
 | non | bl (b:Bool) | int (i:Int) | str (x:Str) | byt (b:Array UInt8) | flt (b:UInt64) | ref (a:Addr) | ty (n:String)
 deriving DecidableEq
def RelV:V -> Value -> Prop
 | .non,u=>u=Value.none
 | .bl b,u=>u=Value.bool b
 | .int i,u=>∃ t,u=Value.int i t
 | .str x,u=>∃ t,u=Value.str x t
 | .byt b,u=>∃ t,u=Value.bytes b t
 | .flt b,u=>∃ t,u=Value.float b t
 | .ref a,u=>u=Value.ref a
 | .ty n,u=>u=Value.type n
abbrev Vals:List V -> List Value -> Prop:=Paired RelV
theorem Vals.length {xs:List V} {us:List Value} (r:Vals xs us):xs.length=us.length:=Paired.length r
theorem Vals.get:∀ {xs:List V} {us:List Value} {i:Nat} {x:V},Vals xs us -> xs[i]?=some x -> ∃ u,us[i]?=some u /\ RelV x u
 | _,_,_,_,.nil,e=>by simp at e
 | _,_,0,_,.cons r _,e=>by simp at e;subst e;exact ⟨_,rfl,r⟩
 | _,_,i + 1,x,.cons _ t,e=>by
  obtain ⟨u,h1,h2⟩:=Vals.get (i:=i) (x:=x) t (by simpa using e)
  exact ⟨u,by simpa using h1,h2⟩
theorem Vals.set {x:V} {u:Value} (r:RelV x u):∀ {xs:List V} {us:List Value} (i:Nat),Vals xs us -> Vals (xs.set i x) (us.set i u)
 | _,_,_,.nil=>.nil
 | _,_,0,.cons _ t=>.cons r t
 | _,_,i + 1,.cons q t=>.cons q (Vals.set r i t)
theorem Vals.append:∀ {xs ys:List V} {us ws:List Value},Vals xs us -> Vals ys ws -> Vals (xs ++ ys) (us ++ ws)
 | _,_,_,_,.nil,s=>s
 | _,_,_,_,.cons r t,s=>.cons r (Vals.append t s)
theorem Vals.take:∀ {xs:List V} {us:List Value} (n:Nat),Vals xs us -> Vals (xs.take n) (us.take n)
 | _,_,0,_=>.nil
 | _,_,_ + 1,.nil=>.nil
 | _,_,n + 1,.cons r t=>.cons r (Vals.take n t)
theorem Vals.drop:∀ {xs:List V} {us:List Value} (n:Nat),Vals xs us -> Vals (xs.drop n) (us.drop n)
 | _,_,0,r=>r
 | _,_,_ + 1,.nil=>.nil
 | _,_,n + 1,.cons _ t=>Vals.drop n t
def oh:Option V -> Option Value -> Prop
 | some v,some u=>RelV v u
 | none,none=>True
 | _,_=>False
def KV {κ:Type}:List (κ × V) -> List (κ × Value) -> Prop:=Paired fun (p:κ × V) (q:κ × Value)=>p.1=q.1 /\ RelV p.2 q.2
def kV:Key -> V
 | .inl i=>.int i
 | .inr x=>.str x
inductive HO where
 | lst (xs:List V)
 | tup (xs:List V)
 | dK (kvs:List (Key × V)) | dT (kvs:List (List Key × V))
 | set (S:Int -> Bool) (n:Nat)
 | ins (C dx:Addr) (fs:List (Str × V))
 | own (x:Addr)
 | xd (fs:List (Str × V))
 | met (f x:Addr)
 | rng (lo hi:Int)
 | frz (o:Obj) (u:HO)
 | tbl (ps:Array Value)
 | ext (φ:Heap -> Prop)
abbrev Hp:=Addr -> Option HO
def upd (H:Hp) (a:Addr) (o:HO):Hp:=fun b=>if b=a then some o else H b
theorem bx {H:Hp} {a:Addr} {o:HO}:upd H a o a=some o:=by unfold upd;rw [if_pos rfl]
theorem aM {H:Hp} {a b:Addr} {o:HO} (h:b ≠ a):upd H a o b=H b:=by unfold upd;rw [if_neg h]
theorem EJ {H:Hp} {a b:Addr} {o u:HO} (h:H a=some o) (h':H b=some u) (d:o ≠ u):a ≠ b:=by
 intro e;subst e;rw [h] at h';exact d (Option.some.inj h')
theorem a_ {H:Hp} {a b:Addr} {o:HO} (h:H a=some o) (h':H b=none):a ≠ b:=by
 intro e;subst e;rw [h] at h';cases h'
def eZ (h:Heap) (a:Addr) (items:Array Value):Prop:=∃ o,h.get? a=some o /\ o.cls=.type "tuple" /\ o.dict=none /\ ∃ n,o.data=.seq items n
theorem eZ.tup {h:Heap} {a:Addr} {items:Array Value}:eZ h a items -> IsTup h a items:=fun ⟨o,e,c,_,n,d⟩=>⟨o,e,c,n,d⟩
theorem eZ.new (h:Heap) (items:Array Value):eZ (h.push { cls:=.type "tuple",data:=.seq items }) h.objs.size items:=⟨_,Heap.get?_push_size _ rfl,rfl,rfl,_,rfl⟩
theorem eZ.lt {h:Heap} {a:Addr} {items:Array Value} (x:eZ h a items):a < h.objs.size:=let ⟨_,ho,_⟩:=x;Heap.lt_size ho
section
variable (P:Program) (w:World)
def cA (H:Hp) (h:Heap) (a:Addr):HO -> Prop
 | .lst xs=>xs.length <= sizeLine /\ ∃ (its:List Value) (n:Nat),Vals xs its /\ h.get? a=some { cls:=.type "list",data:=.seq its.toArray n }
 | .tup xs=>xs.length <= sizeLine /\ ∃ its:List Value,Vals xs its /\ eZ h a its.toArray
 | .dK kvs=>kvs.length <= sizeLine /\ (a == sysModules)=false /\ ∃ vs,KV kvs vs /\ h.DictOf (dh P w) a vs
 | .dT kvs=>kvs.length <= sizeLine /\ (a == sysModules)=false /\ ∃ xs:List (List Key × Addr × Value),
   Paired (fun (p:List Key × V) (q:List Key × Addr × Value)=>p.1=q.1 /\ H q.2.1=some (.tup (p.1.map kV)) /\ RelV p.2 q.2.2) kvs xs /\
   ∃ o es ep,h.get? a=some o /\ o.ExactDict /\ o.data=.dict es ep /\ es.toList=xs.map (entryOfKey (tupleKind (dh P w))) /\ (xs.map (·.1)).Nodup
 | .set S n=>h.SetOf (intKind P w) a S n
 | .ins C dx fs=>H dx=some (.own a) /\ fs.length <= 1000 /\ dx ≠ a /\ h.get? a=some (PySem.W.instObj C dx) /\
   ∃ mA,h.Ns1 dx mA /\ (∀ f,oh (fs.lookup f) (mA f)) /\ PySem.Within mA (fs.map (·.1))
 | .own _=>∃ o,h.get? a=some o
 | .xd fs=>∃ mA,h.Ns1 a mA /\ ∀ f,oh (fs.lookup f) (mA f)
 | .rng lo hi=>∃ t u v,h.get? a=some { cls:=.type "range",data:=.fields #[.int lo t,.int hi u,.int 1 v] }
 | .frz o u=>h.get? a=some o /\ cA H h a u
 | .tbl ps=>h.get? a=some { cls:=.none,data:=.fields ps }
 | .met f x=>h.get? a=some (PySem.W.methodObj (.ref f) (.ref x))
 | .ext φ=>φ h /\ (∃ o,h.get? a=some o) /\ ∀ h1 h2:Heap,φ h1 -> (∀ o,h1.get? a=some o -> h2.get? a=some o) -> φ h2
def jt (H:Hp) (h:Heap):Prop:=∀ a o,H a=some o -> cA P w H h a o
end
section
variable {P:Program} {w:World} {H H':Hp} {h h':Heap} {a:Addr} {o:HO}
theorem cA.lt (x:cA P w H h a o):a < h.objs.size:=by
 cases o with
 | lst xs=>obtain ⟨_,_,_,_,e⟩:=x;exact Heap.lt_size e
 | tup xs=>obtain ⟨_,_,_,p⟩:=x;exact eZ.lt p
 | dK kvs=>obtain ⟨_,_,_,_,o,_,_,e,_⟩:=x;exact Heap.lt_size e
 | dT kvs=>obtain ⟨_,_,_,_,o,_,_,e,_⟩:=x;exact Heap.lt_size e
 | set S n=>obtain ⟨o,_,_,_,e,_⟩:=x;exact Heap.lt_size e
 | ins C dx fs=>obtain ⟨_,_,_,e,_⟩:=x;exact Heap.lt_size e
 | own y=>obtain ⟨_,e⟩:=x;exact Heap.lt_size e
 | xd fs=>obtain ⟨_,⟨_,_,_,e,_⟩,_⟩:=x;exact Heap.lt_size e
 | rng lo hi=>obtain ⟨_,_,_,e⟩:=x;exact Heap.lt_size e
 | frz ob u=>obtain ⟨e,_⟩:=x;exact Heap.lt_size e
 | tbl ps=>exact Heap.lt_size (show h.get? a=some _ from x)
 | met f y=>exact Heap.lt_size (show h.get? a=some _ from x)
 | ext φ=>obtain ⟨_,⟨_,e⟩,_⟩:=x;exact Heap.lt_size e
theorem Paired.Il {α β:Type} {F G:α -> β -> Prop}:∀ {l₁:List α} {l₂:List β},Paired F l₁ l₂ -> (∀ a b,F a b -> G a b) -> Paired G l₁ l₂
 | _,_,.nil,_=>.nil
 | _,_,.cons r t,f=>.cons (f _ _ r) (Paired.Il t f)
theorem cA.stay (x:cA P w H h a o) (k:∀ b u,(b=a \/ H b=some (.own a)) -> h.get? b=some u -> h'.get? b=some u)
  (ho:∀ b,H b=some (.own a) -> H' b=some (.own a)) (ht:∀ b xs,H b=some (.tup xs) -> H' b=some (.tup xs)):cA P w H' h' a o:=by
 induction o with
 | lst xs=>obtain ⟨z,its,n,r,e⟩:=x;exact ⟨z,its,n,r,k _ _ (.inl rfl) e⟩
 | tup xs=>obtain ⟨z,its,r,ob,e,c⟩:=x;exact ⟨z,its,r,ob,k _ _ (.inl rfl) e,c⟩
 | dK kvs=>obtain ⟨z,y,vs,r,ob,es,ep,e,c⟩:=x;exact ⟨z,y,vs,r,ob,es,ep,k _ _ (.inl rfl) e,c⟩
 | dT kvs=>
  obtain ⟨z,y,xs,r,ob,es,ep,e,c⟩:=x
  exact ⟨z,y,xs,Paired.Il r fun p q z=>⟨z.1,ht _ _ z.2.1,z.2.2⟩,ob,es,ep,k _ _ (.inl rfl) e,c⟩
 | set S n=>obtain ⟨ob,es,ep,t,e,c⟩:=x;exact ⟨ob,es,ep,t,k _ _ (.inl rfl) e,c⟩
 | ins C dx fs=>
  obtain ⟨d,z,ne,e,mA,⟨od,es,ep,e2,c⟩,r⟩:=x
  exact ⟨ho _ d,z,ne,k _ _ (.inl rfl) e,mA,⟨od,es,ep,k _ _ (.inr d) e2,c⟩,r⟩
 | own y=>obtain ⟨ob,e⟩:=x;exact ⟨ob,k _ _ (.inl rfl) e⟩
 | xd fs=>obtain ⟨mA,⟨od,es,ep,e,c⟩,r⟩:=x;exact ⟨mA,⟨od,es,ep,k _ _ (.inl rfl) e,c⟩,r⟩
 | rng lo hi=>obtain ⟨t,u,v,e⟩:=x;exact ⟨t,u,v,k _ _ (.inl rfl) e⟩
 | frz ob u ih=>obtain ⟨e,q⟩:=x;exact ⟨k _ _ (.inl rfl) e,ih q⟩
 | tbl ps=>
  have e:h.get? a=some { cls:=.none,data:=.fields ps }:=x
  show h'.get? a=some { cls:=.none,data:=.fields ps }
  exact k a _ (.inl rfl) e
 | met f y=>
  have e:h.get? a=some (PySem.W.methodObj (.ref f) (.ref y)):=x
  show h'.get? a=some (PySem.W.methodObj (.ref f) (.ref y))
  exact k a _ (.inl rfl) e
 | ext φ=>obtain ⟨p,⟨o,e⟩,st⟩:=x;exact ⟨st _ _ p fun o q=>k _ _ (.inl rfl) q,⟨o,k _ _ (.inl rfl) e⟩,st⟩
theorem jt.lt (x:jt P w H h) (e:H a=some o):a < h.objs.size:=(x a o e).lt
theorem jt.fresh (x:jt P w H h) (e:h.objs.size <= a):H a=none:=by
 cases q:H a with
 | none=>rfl
 | some u=>exact absurd (Nat.lt_of_lt_of_le (x.lt q) e) (Nat.lt_irrefl _)
theorem jt.kept (x:jt P w H h) (k:∀ b u,h.get? b=some u -> h'.get? b=some u):jt P w H h':=fun a o e=>
 (x a o e).stay (fun b u _ q=>k b u q) (fun _ q=>q) fun _ _ q=>q
theorem jt.laid (x:jt P w H h) (k:∀ b u,h.get? b=some u -> h'.get? b=some u) (hp:h.objs.size <= a) (new:cA P w (upd H a o) h' a o):jt P w (upd H a o) h':=fun b u e=>by
 have hn:=x.fresh hp
 by_cases hb:b=a
 ·subst hb;rw [bx] at e;cases e;exact new
 ·rw [aM hb] at e
  exact (x b u e).stay (fun c v _ q=>k c v q) (fun c q=>by rw [aM (a_ q hn)];exact q) fun c xs q=>by rw [aM (a_ q hn)];exact q
end
def Rd (H:Hp) (a:Addr) (u:HO):Prop:=H a=some u \/ ∃ o,H a=some (.frz o u)
theorem Rd.ok {P:Program} {w:World} {H:Hp} {h:Heap} {a:Addr} {u:HO} (r:Rd H a u) (x:jt P w H h):cA P w H h a u:=by
 rcases r with r | ⟨o,r⟩
 ·exact x a u r
 ·obtain ⟨_,q⟩:=x a _ r
  exact q
def Iz:Option HO -> Prop
 | some (.lst _)=>True
 | some (.dK _)=>True
 | some (.dT _)=>True
 | some (.set _ _)=>True
 | some (.ins _ _ _)=>True
 | some (.ext _)=>True
 | _=>False
section
variable {P:Program} {w:World} {H:Hp} {h h':Heap} {x e:Addr} {o':HO}
theorem jt.write (ok:jt P w H h) (mu:Iz (H x)) (he:e=x \/ H e=some (.own x)) (k:∀ b u,b ≠ e -> h.get? b=some u -> h'.get? b=some u) (heo:∃ u,h'.get? e=some u)
  (new:cA P w (upd H x o') h' x o'):jt P w (upd H x o') h':=fun b u q=>by
 have nown:∀ c y,H c=some (.own y) -> c ≠ x:=fun c y r z=>by subst z;rw [r] at mu;exact mu
 have ntup:∀ c xs,H c=some (.tup xs) -> c ≠ x:=fun c xs r z=>by subst z;rw [r] at mu;exact mu
 by_cases hb:b=x
 ·subst hb;rw [bx] at q;cases q;exact new
 ·rw [aM hb] at q
  by_cases hbe:b=e
  ·have q':H b=some (.own x):=by
    rcases he with z | z
    ·exact absurd (hbe.trans z) hb
    ·rw [hbe];exact z
   rw [q] at q';cases q'
   obtain ⟨v,hv⟩:=heo
   exact ⟨v,by rw [hbe];exact hv⟩
  ·refine (ok b u q).stay (fun c v hc r=>k c v ?_ r) (fun c r=>by rw [aM (nown c b r)];exact r) fun c xs r=>by rw [aM (ntup c xs r)];exact r
   rcases hc with rfl | hc
   ·exact hbe
   ·rintro rfl
    rcases he with z | z
    ·exact nown c b hc z
    ·rw [hc] at z;cases z;exact hb rfl
end
structure Un (fs ex:List Addr) (H H':Hp) (h h':Heap):Prop where
 keep:∀ b o,h.get? b=some o -> H b=none -> b ∉ fs -> b ∉ ex -> h'.get? b=some o
 slot:∀ b o,h.get? b=some o -> H b=none -> b ∈ fs -> b ∉ ex -> ∃ sl,h'.get? b=some { o with slots:=sl }
 free:∀ b o,h.get? b=some o -> H b=none -> b ∉ ex -> H' b=none
 there:∀ b o,h.get? b=some o -> b ∉ ex -> ∃ o',h'.get? b=some o'
 tups:∀ b xs,H b=some (.tup xs) -> H' b=some (.tup xs)
 frzs:∀ b o u,H b=some (.frz o u) -> H' b=some (.frz o u)
 tbls:∀ b ps,H b=some (.tbl ps) -> ∃ more,H' b=some (.tbl (ps ++ more))
section
variable {fs fs' ex ex':List Addr} {H H1 H2:Hp} {h h1 h2 h':Heap} {a x e:Addr} {o:HO}
theorem Un.any (u:Un fs ex H H1 h h1) {b:Addr} {ob:Obj} (q:h.get? b=some ob) (n:H b=none) (hx:b ∉ ex):∃ sl,h1.get? b=some { ob with slots:=sl }:=by
 by_cases hb:b ∈ fs
 ·exact u.slot b ob q n hb hx
 ·exact ⟨ob.slots,u.keep b ob q n hb hx⟩
theorem Un.kept (k:∀ b u,h.get? b=some u -> h'.get? b=some u):Un fs ex H H h h':=
 ⟨fun b ob q _ _ _=>k b ob q,fun b ob q _ _ _=>⟨ob.slots,k b ob q⟩,fun _ _ _ n _=>n,fun b ob q _=>⟨ob,k b ob q⟩,fun _ _ q=>q,fun _ _ _ q=>q,fun _ ps q=>⟨#[],by rw [q];simp⟩⟩
theorem Un.refl:Un fs ex H H h h:=Un.kept fun _ _ q=>q
theorem Un.laid (k:∀ b u,h.get? b=some u -> h'.get? b=some u) (hp:h.objs.size <= a) (hn:H a=none):Un fs ex H (upd H a o) h h' where
 keep:=fun b u q _ _ _=>k b u q
 slot:=fun b u q _ _ _=>⟨u.slots,k b u q⟩
 free:=fun b u q n _=>by rw [aM (Nat.ne_of_lt (Nat.lt_of_lt_of_le (Heap.lt_size q) hp))];exact n
 there:=fun b u q _=>⟨u,k b u q⟩
 tups:=fun b xs q=>by rw [aM (a_ q hn)];exact q
 frzs:=fun b u xs q=>by rw [aM (a_ q hn)];exact q
 tbls:=fun b ps q=>⟨#[],by rw [aM (a_ q hn),q];simp⟩
theorem Un.write (mu:Iz (H x)) (he:e=x \/ H e=some (.own x)) (k:∀ b u,b ≠ e -> h.get? b=some u -> h'.get? b=some u) (heo:∃ u,h'.get? e=some u):Un fs ex H (upd H x o) h h':=by
 have hx:∀ b,H b=none -> b ≠ x:=fun b n z=>by subst z;rw [n] at mu;exact mu
 have hb:∀ b,H b=none -> b ≠ e:=fun b n z=>by
  subst z
  rcases he with r | r
  ·exact hx b n r
  ·rw [n] at r;cases r
 have hm:∀ b u,H b=some u -> ¬ Iz (some u) -> b ≠ x:=fun b u q nm z=>by subst z;rw [q] at mu;exact nm mu
 refine ⟨fun b u q n _ _=>k b u (hb b n) q,fun b u q n _ _=>⟨u.slots,k b u (hb b n) q⟩,fun b u q n _=>by rw [aM (hx b n)];exact n,fun b u q _=>?_,
  fun b xs q=>by rw [aM (hm b _ q fun z=>z)];exact q,fun b u xs q=>by rw [aM (hm b _ q fun z=>z)];exact q,fun b ps q=>⟨#[],by rw [aM (hm b _ q fun z=>z),q];simp⟩⟩
 by_cases hbe:b=e
 ·subst hbe;exact heo
 ·exact ⟨u,k b u hbe q⟩
end
def Ko (h:Heap) (H:Hp):List Addr:=(List.range h.objs.size).filter fun a=>(H a).isSome
def qN (h:Heap) (H:Hp):Heap:=PySem.W.hideAll h (Ko h H)
theorem yp (h:Heap) (H:Hp):(qN h H).objs.size=h.objs.size:=PySem.W.hideAll_size _ _
theorem CW {h:Heap} {H:Hp} {b:Addr} {o:Obj} (e:h.get? b=some o) (n:H b=none):(qN h H).get? b=some o:=
 PySem.W.hideAll_get _ e fun hm=>by
  have q:(H b).isSome=true:=(List.mem_filter.mp hm).2
  rw [n] at q;simp at q
theorem Em {h:Heap} {H:Hp} {b:Addr} {o:Obj} (e:(qN h H).get? b=some o):h.get? b=some o /\ H b=none:=by
 have e':h.get? b=some o:=PySem.W.of_hideAll (Ko h H) e
 refine ⟨e',?_⟩
 cases q:H b with
 | none=>rfl
 | some x=>
  have hm:b ∈ Ko h H:=List.mem_filter.mpr ⟨List.mem_range.mpr (Heap.lt_size e'),by simp [q]⟩
  have z:(qN h H).get? b=none:=PySem.W.hideAll_none (Ko h H) hm
  rw [z] at e;cases e
def Ec (g h:Heap) (L:Addr):List (Addr × Obj):=(List.range h.objs.size).filterMap fun a=>if a=L \/ (g.get? a).isSome=true then none else (h.get? a).map fun o=>(a,o)
def rest (g h:Heap) (L d:Addr):List (Addr × Obj):=(Ec g h L).filter fun p=>decide (p.1 ≠ d)
end L2
namespace L2
open PySem PySem.Spec PyProof.Rows
structure Mod (K:PySem.W.Frag) (mg:Str -> Option Value) (base:Heap):Prop where
 kin:K.In base
 glob:base.Ns mainGlobals mg
 blt:∃ mb,base.Ns builtinsNs mb /\ ∀ x:Str,x ≠ "__name__" -> mb x=bootBuiltins x
 nolimit:base.NoLimit
structure Cx where
 prog:Program
 w:World
 K:PySem.W.Frag
 mg:Str -> Option Value
 base:Heap
 A:Around
 N:List Str
 s₀:Shared
 H₀:Hp
 env:Env
 outer:List Env
 stack:List Env
 ex:List Addr
 fn:Str -> Bool
 calm:Bool
 pn:List (Addr × Obj)
 xe:Value -> Shared -> Prop
def frs (l:List Env):List Addr:=l.filterMap (·.frame)
abbrev Cx.fs (X:Cx):List Addr:=frs X.outer
def I0 (sc:Scope) (x:Str):Prop:=sc.names.lookup x=some .local \/ sc.names.lookup x=some .cell \/ sc.names.lookup x=some .free
def Loc (sc:Scope) (x:Str):Prop:=sc.names.lookup x=some .local \/ sc.names.lookup x=some .cell
def Look (env:Env) (h:Heap) (m:Str -> Option Value) (x:Str) (u:Value):Prop:=
 (env.kindOf x=some .local /\ m x=some u) \/ ((env.kindOf x=some .cell \/ env.kindOf x=some .free) /\ ∃ c,env.cells.lookup x=some c /\ h.IsCell c (some u))
structure Cx.Ok (X:Cx):Prop where
 mod:Mod X.K X.mg X.base
 kind:X.env.scope.kind=.function
 glob:X.env.globals=mainGlobals
 blt:X.env.builtins=builtinsNs
 above:X.s₀.heap.objs.size <= X.env.locals
 inj:∀ x y c,X.env.cells.lookup x=some c -> X.env.cells.lookup y=some c -> x=y
 has:∀ x,(X.env.kindOf x=some .cell \/ X.env.kindOf x=some .free) -> ∃ c,X.env.cells.lookup x=some c
 cab:∀ x c,X.fn x=true -> X.env.cells.lookup x=some c -> X.s₀.heap.objs.size <= c
 hd:X.calm=true -> X.A.handled=none
 frames:X.A.frames=some X.stack
 stk:X.stack=X.outer \/ (X.stack=X.env :: X.outer /\ X.env.frame=some X.env.locals)
 exf:∀ b ∈ X.ex,b ≠ X.env.locals /\ ∀ x c,X.env.cells.lookup x=some c -> c ≠ b
 bs:∀ b o,X.base.get? b=some o -> X.s₀.heap.get? b=some o /\ X.H₀ b=none
 bsz:X.base.objs.size <= X.s₀.heap.objs.size
 noex:∀ b o,X.base.get? b=some o -> b ∉ X.ex
 exfs:∀ b ∈ X.ex,b ∉ X.fs
 iR:X.s₀.heap.FunFrames X.base X.outer
 frf:∀ b ∈ X.fs,X.H₀ b=none
structure Inv (X:Cx) (pins:List (Addr × Obj)) (σ:List (Option V)) (H:Hp) (s:Shared):Prop where
 ok:X.Ok
 os:s.os=X.s₀.os
 bare:AllBare s.gens
 base:Un X.fs X.ex X.H₀ H X.s₀.heap s.heap
 loc:∃ m,s.heap.Ns X.env.locals m /\ ∀ (i:Nat) (x:Str) (v:V),X.N[i]?=some x -> σ[i]?=some (some v) -> I0 X.env.scope x -> ∃ u,RelV v u /\ Look X.env s.heap m x u
 cell:∀ x c,X.env.cells.lookup x=some c -> ∃ v,s.heap.IsCell c v
 free:H X.env.locals=none
 freeC:∀ x c,X.env.cells.lookup x=some c -> H c=none
 pin:∀ p ∈ X.pn ++ pins,s.heap.get? p.1=some p.2 /\ H p.1=none /\ p.1 ≠ X.env.locals /\ p.1 ∉ X.fs /\ ∀ v,p.2.data ≠ .cell v
 hok:jt X.prog X.w H s.heap
 len:σ.length=X.N.length
section
variable {X:Cx} {pins:List (Addr × Obj)} {σ:List (Option V)} {H H':Hp} {s:Shared} {h':Heap}
theorem Cx.Ok.Ky (ok:X.Ok) {b:Addr} {o:Obj} (e:X.base.get? b=some o):b ∉ X.fs:=fun hb=>by
 have:=(ok.iR.mem hb).1
 rw [e] at this;cases this
theorem Inv.bs (I:Inv X pins σ H s):∀ b o,X.base.get? b=some o -> s.heap.get? b=some o /\ H b=none:=fun b o e=>
 ⟨I.base.keep b o (I.ok.bs b o e).1 (I.ok.bs b o e).2 (I.ok.Ky e) (I.ok.noex b o e),I.base.free b o (I.ok.bs b o e).1 (I.ok.bs b o e).2 (I.ok.noex b o e)⟩
theorem Inv.bk (I:Inv X pins σ H s):∀ b o,X.base.get? b=some o -> s.heap.get? b=some o:=fun b o e=>(I.bs b o e).1
theorem Inv.mod (I:Inv X pins σ H s):Mod X.K X.mg X.base:=I.ok.mod
theorem Inv.mO (I:Inv X pins σ H s):X.K.In s.heap:=I.ok.mod.kin.keeps I.bk
theorem Inv.lt (I:Inv X pins σ H s):X.env.locals < s.heap.objs.size:=let ⟨_,hn,_⟩:=I.loc;hn.lt
theorem Inv.sz (I:Inv X pins σ H s):X.s₀.heap.objs.size <= s.heap.objs.size:=Nat.le_trans I.ok.above (Nat.le_of_lt I.lt)
theorem Inv.Ln (I:Inv X pins σ H s) {a:Addr} (h:s.heap.objs.size <= a):a ∉ X.fs:=fun hb=>by
 obtain ⟨_,o,ho,_⟩:=I.ok.iR.mem hb
 exact absurd (Nat.lt_of_lt_of_le (Heap.lt_size ho) (Nat.le_trans I.sz h)) (Nat.lt_irrefl _)
theorem Inv.DW (I:Inv X pins σ H s):∀ x c,X.env.cells.lookup x=some c -> c ≠ X.env.locals:=fun x c e z=>by
 obtain ⟨v,o,ho,hd⟩:=I.cell x c e
 obtain ⟨m,⟨o',es,ep,ho',hd',_⟩,_⟩:=I.loc
 rw [z,ho'] at ho;cases ho;rw [hd'] at hd;cases hd
theorem Inv.iR (I:Inv X pins σ H s):s.heap.FunFrames X.base X.outer:=by
 have all:∀ (l:List Env),(∀ b ∈ frs l,b ∈ X.fs) -> X.s₀.heap.FunFrames X.base l -> s.heap.FunFrames X.base l:=by
  intro l
  induction l with
  | nil=>intro _ _;trivial
  | cons env r ih=>
   intro hs hl
   obtain ⟨hk,⟨L,o,hf,hn,ho,hd⟩,hr⟩:=hl
   have hL:L ∈ X.fs:=hs L (by unfold frs;rw [List.filterMap_cons,hf];exact List.mem_cons_self)
   obtain ⟨sl,e⟩:=I.base.slot L o ho (I.ok.frf L hL) hL fun z=>I.ok.exfs L z hL
   exact ⟨hk,⟨L,_,hf,hn,e,hd⟩,ih (fun b hb=>hs b (by unfold frs;rw [List.filterMap_cons,hf];exact List.mem_cons_of_mem _ hb)) hr⟩
 exact all X.outer (fun _ hb=>hb) I.ok.iR
theorem Inv.stack (I:Inv X pins σ H s):s.heap.FunFrames X.base X.stack:=by
 rcases I.ok.stk with e | ⟨e,hf⟩
 ·rw [e];exact I.iR
 ·rw [e]
  obtain ⟨m,hn,_⟩:=I.loc
  refine .cons (by rw [I.ok.kind];decide) hf hn ?_ I.iR
  exact Heap.get?_none_of_le (Nat.le_trans I.ok.bsz I.ok.above)
theorem Inv.kW (I:Inv X pins σ H s):∀ b ∈ frs X.stack,b ∈ X.env.locals :: X.fs:=fun b hb=>by
 rcases I.ok.stk with e | ⟨e,hf⟩
 ·rw [e] at hb;exact List.mem_cons_of_mem _ hb
 ·rw [e] at hb
  unfold frs at hb
  rw [List.filterMap_cons,hf] at hb
  exact hb
theorem Inv.mZ (I:Inv X pins σ H s):∀ b ∈ frs X.stack,H b=none:=fun b hb=>by
 rcases List.mem_cons.mp (I.kW b hb) with e | hb
 ·rw [e];exact I.free
 ·obtain ⟨_,o,ho,_⟩:=I.ok.iR.mem hb
  exact I.base.free b o ho (I.ok.frf b hb) fun z=>I.ok.exfs b z hb
theorem Inv.step {g':Array GenState} {t':Nat} {d':Drawn} {ch:List Addr} (I:Inv X pins σ H s)
  (hch:∀ b ∈ ch,(b ∈ X.ex \/ X.s₀.heap.objs.size <= b) /\ b ≠ X.env.locals /\ (∀ x c,X.env.cells.lookup x=some c -> c ≠ b) /\ ∀ p ∈ X.pn ++ pins,p.1 ≠ b)
  (keep:∀ b o,b ≠ X.env.locals -> b ∉ X.fs -> b ∉ ch -> s.heap.get? b=some o -> H b=none -> h'.get? b=some o)
  (slot:∀ b o,b ≠ X.env.locals -> b ∈ X.fs -> b ∉ ch -> s.heap.get? b=some o -> H b=none -> ∃ sl,h'.get? b=some { o with slots:=sl }) (free:∀ b o,b ∉ ch -> s.heap.get? b=some o -> H b=none -> H' b=none)
  (there:∀ b o,b ∉ ch -> s.heap.get? b=some o -> ∃ o',h'.get? b=some o')
  (tups:∀ b xs,H b=some (.tup xs) -> H' b=some (.tup xs)) (frzs:∀ b o u,H b=some (.frz o u) -> H' b=some (.frz o u)) (tbls:∀ b ps,H b=some (.tbl ps) -> ∃ more,H' b=some (.tbl (ps ++ more)))
  (ns:∀ m,s.heap.Ns X.env.locals m -> h'.Ns X.env.locals m) (hok:jt X.prog X.w H' h') (hg:AllBare g') :
  Inv X pins σ H' { s with heap:=h',gens:=g',drawn:=d',toks:=t' }:=by
 have neL:∀ b o,X.s₀.heap.get? b=some o -> b ≠ X.env.locals:=fun b o e=>Nat.ne_of_lt (Nat.lt_of_lt_of_le (Heap.lt_size e) I.ok.above)
 have neC:∀ b o,X.s₀.heap.get? b=some o -> b ∉ X.ex -> b ∉ ch:=fun b o e hx hb=>by
  rcases (hch b hb).1 with z | z
  ·exact hx z
  ·exact absurd (Nat.lt_of_lt_of_le (Heap.lt_size e) z) (Nat.lt_irrefl _)
 have cellK:∀ x c,X.env.cells.lookup x=some c -> ∀ v,s.heap.IsCell c v -> h'.IsCell c v:=fun x c e v ⟨o,ho,hd⟩=>by
  have nch:c ∉ ch:=fun z=>(hch c z).2.2.1 x c e rfl
  by_cases hc:c ∈ X.fs
  ·obtain ⟨sl,q⟩:=slot c o (I.DW x c e) hc nch ho (I.freeC x c e)
   exact ⟨_,q,hd⟩
  ·exact ⟨o,keep c o (I.DW x c e) hc nch ho (I.freeC x c e),hd⟩
 refine ⟨I.ok,I.os,hg,⟨fun b o e n hb hx=>?_,fun b o e n hb hx=>?_,fun b o e n hx=>?_,fun b o e hx=>?_,fun b xs e=>tups b xs (I.base.tups b xs e),fun b o xs e=>frzs b o xs (I.base.frzs b o xs e),fun b ps e=>?_⟩,?_,fun x c e=>?_,?_,fun x c e=>?_,fun p hp=>?_,hok,I.len⟩
 ·exact keep b o (neL b o e) hb (neC b o e hx) (I.base.keep b o e n hb hx) (I.base.free b o e n hx)
 ·obtain ⟨sl,e1⟩:=I.base.slot b o e n hb hx
  obtain ⟨sl',e2⟩:=slot b _ (neL b o e) hb (neC b o e hx) e1 (I.base.free b o e n hx)
  exact ⟨sl',e2⟩
 ·obtain ⟨o',e1⟩:=I.base.there b o e hx
  exact free b o' (neC b o e hx) e1 (I.base.free b o e n hx)
 ·obtain ⟨o',e1⟩:=I.base.there b o e hx
  exact there b o' (neC b o e hx) e1
 ·obtain ⟨m1,e1⟩:=I.base.tbls b ps e
  obtain ⟨m2,e2⟩:=tbls b _ e1
  exact ⟨m1 ++ m2,by rw [e2,Array.append_assoc]⟩
 ·obtain ⟨m,hn,hl⟩:=I.loc
  refine ⟨m,ns m hn,fun i x v e1 e2 e3=>?_⟩
  obtain ⟨u,r,l⟩:=hl i x v e1 e2 e3
  refine ⟨u,r,?_⟩
  rcases l with l | ⟨k,c,e,z⟩
  ·exact .inl l
  ·exact .inr ⟨k,c,e,cellK x c e _ z⟩
 ·obtain ⟨v,z⟩:=I.cell x c e
  exact ⟨v,cellK x c e v z⟩
 ·obtain ⟨m,⟨o,_,_,ho,_⟩,_⟩:=I.loc
  exact free _ o (fun z=>(hch _ z).2.1 rfl) ho I.free
 ·obtain ⟨v,o,ho,hd⟩:=I.cell x c e
  exact free c o (fun z=>(hch c z).2.2.1 x c e rfl) ho (I.freeC x c e)
 ·obtain ⟨e,n,ne,nf,d⟩:=I.pin p hp
  have nch:p.1 ∉ ch:=fun z=>(hch p.1 z).2.2.2 p hp rfl
  exact ⟨keep p.1 p.2 ne nf nch e n,free p.1 p.2 nch e n,ne,nf,d⟩
theorem Inv.un {t':Nat} (I:Inv X pins σ H s) (u:Un X.fs [] H H' s.heap h') (hok:jt X.prog X.w H' h'):Inv X pins σ H' { s with heap:=h',toks:=t' }:=by
 obtain ⟨m,⟨o,es,ep,ho,r⟩,_⟩:=id I.loc
 obtain ⟨sl,hL⟩:=u.any ho I.free (by simp)
 exact I.step (g':=s.gens) (d':=s.drawn) (ch:=[]) (fun _ z=>nomatch z) (fun b o _ hb _ e n=>u.keep b o e n hb (by simp)) (fun b o _ hb _ e n=>u.slot b o e n hb (by simp)) (fun b o _ e n=>u.free b o e n (by simp)) (fun b o _ e=>u.there b o e (by simp)) u.tups u.frzs u.tbls (fun m' hm=>by
  obtain ⟨o',es',ep',ho',r'⟩:=hm
  rw [ho] at ho';cases ho'
  exact ⟨_,es',ep',hL,r'⟩) hok I.bare
theorem Inv.call {g':Array GenState} {t':Nat} {d':Drawn} {ch:List Addr} (I:Inv X pins σ H s) (u:Un (frs X.stack) ch H H' s.heap h') (hok:jt X.prog X.w H' h') (hg:AllBare g')
  (hch:∀ b ∈ ch,(b ∈ X.ex \/ X.s₀.heap.objs.size <= b) /\ b ≠ X.env.locals /\ (∀ x c,X.env.cells.lookup x=some c -> c ≠ b) /\ ∀ p ∈ X.pn ++ pins,p.1 ≠ b) :
  Inv X pins σ H' { s with heap:=h',gens:=g',drawn:=d',toks:=t' }:=by
 obtain ⟨m,⟨o,es,ep,ho,r⟩,_⟩:=id I.loc
 obtain ⟨sl,hL⟩:=u.any ho I.free fun z=>(hch _ z).2.1 rfl
 exact I.step (ch:=ch) hch (fun b o hL hb hc e n=>u.keep b o e n (fun z=>(List.mem_cons.mp (I.kW b z)).elim hL hb) hc) (fun b o _ _ hc e n=>u.any e n hc) (fun b o hc e n=>u.free b o e n hc) (fun b o hc e=>u.there b o e hc) u.tups u.frzs u.tbls (fun m' hm=>by
  obtain ⟨o',es',ep',ho',r'⟩:=hm
  rw [ho] at ho';cases ho'
  exact ⟨_,es',ep',hL,r'⟩) hok hg
theorem Inv.turned {t':Nat} {it:Addr} (I:Inv X pins σ H s) (k:∀ b o,b ≠ it -> s.heap.get? b=some o -> h'.get? b=some o) (hn:H it=none) (hL:it ≠ X.env.locals)
  (h1:it ∈ X.ex \/ X.s₀.heap.objs.size <= it) (h2:∀ x c,X.env.cells.lookup x=some c -> c ≠ it) (h3:∀ p ∈ X.pn ++ pins,p.1 ≠ it):Inv X pins σ H { s with heap:=h',toks:=t' }:=by
 have nit:∀ b u,H b=some u -> b ≠ it:=fun b u e z=>by rw [z,hn] at e;cases e
 refine I.step (g':=s.gens) (d':=s.drawn) (ch:=[it]) (fun b hb=>?_) (fun b o _ _ hc e _=>k b o (fun z=>hc (by simp [z])) e) (fun b o _ _ hc e _=>⟨o.slots,k b o (fun z=>hc (by simp [z])) e⟩) (fun _ _ _ _ n=>n)
  (fun b o hc e=>⟨o,k b o (fun z=>hc (by simp [z])) e⟩) (fun _ _ e=>e) (fun _ _ _ e=>e) (fun b ps e=>⟨#[],by rw [e];simp⟩) (fun m hm=>?_) (fun b u e=>?_) I.bare
 ·have e:b=it:=by simpa using hb
  subst e
  exact ⟨h1,hL,h2,h3⟩
 ·obtain ⟨o,es,ep,ho,r⟩:=hm
  exact ⟨o,es,ep,k _ o (Ne.symm hL) ho,r⟩
 ·refine (I.hok b u e).stay (fun c v hc q=>k c v ?_ q) (fun _ q=>q) fun _ _ q=>q
  rcases hc with z | z
  ·rw [z];exact nit b u e
  ·exact nit c _ z
theorem Inv.tok (I:Inv X pins σ H s) (t:Nat):Inv X pins σ H { s with toks:=t }:=I.un (h':=s.heap) (t':=t) Un.refl I.hok
theorem Inv.kept {t':Nat} (I:Inv X pins σ H s) (k:∀ b u,s.heap.get? b=some u -> h'.get? b=some u):Inv X pins σ H { s with heap:=h',toks:=t' }:=I.un (Un.kept k) (I.hok.kept k)
theorem Inv.laid {a:Addr} {o:HO} {t':Nat} (I:Inv X pins σ H s) (k:∀ b u,s.heap.get? b=some u -> h'.get? b=some u) (hp:s.heap.objs.size <= a) (new:cA X.prog X.w (upd H a o) h' a o) :
  Inv X pins σ (upd H a o) { s with heap:=h',toks:=t' }:=I.un (Un.laid k hp (I.hok.fresh hp)) (I.hok.laid k hp new)
theorem Inv.write {x e:Addr} {o:HO} {t':Nat} (I:Inv X pins σ H s) (mu:Iz (H x)) (he:e=x \/ H e=some (.own x)) (k:∀ b u,b ≠ e -> s.heap.get? b=some u -> h'.get? b=some u) (heo:∃ u,h'.get? e=some u)
  (new:cA X.prog X.w (upd H x o) h' x o):Inv X pins σ (upd H x o) { s with heap:=h',toks:=t' }:=I.un (Un.write mu he k heo) (I.hok.write mu he k heo new)
theorem Inv.vj {pins':List (Addr × Obj)} (I:Inv X pins σ H s) (h:∀ p ∈ pins',s.heap.get? p.1=some p.2 /\ H p.1=none /\ p.1 ≠ X.env.locals /\ p.1 ∉ X.fs /\ ∀ v,p.2.data ≠ .cell v):Inv X pins' σ H s:=
 ⟨I.ok,I.os,I.bare,I.base,I.loc,I.cell,I.free,I.freeC,fun p hp=>(List.mem_append.mp hp).elim (fun z=>I.pin p (List.mem_append_left _ z)) (h p),I.hok,I.len⟩
theorem nQ {N:List Str} (hN:N.Nodup) {i j:Nat} {x:Str} (a:N[i]?=some x) (b:N[j]?=some x):i=j:=by
 obtain ⟨h1,e1⟩:=List.getElem?_eq_some_iff.mp a
 obtain ⟨h2,e2⟩:=List.getElem?_eq_some_iff.mp b
 exact (List.getElem_inj hN).mp (e1.trans e2.symm)
theorem yK {M:Model} {A:Around} {E:Value -> Shared -> Prop} {i:Nat} {x:Str} {v:V} {u:Value} {Q:Unit -> Shared -> Prop} (I:Inv X pins σ H s) (hN:X.N.Nodup) (hi:X.N[i]?=some x) (hx:Loc X.env.scope x) (r:RelV v u)
  (h:∀ s',Inv X pins (σ.set i (some v)) H s' -> (∃ a,Heap.SameBut a s.heap s'.heap /\ (a=X.env.locals \/ X.env.cells.lookup x=some a)) -> Q () s') (hf:X.fn x=true \/ X.env.scope.names.lookup x=some .local:=by first | exact .inl rfl | exact .inr rfl | assumption):wpAny M A (storeName X.env x u) Q E s:=by
 obtain ⟨m,hn,hl⟩:=id I.loc
 have hcls:(X.env.scope.kind == .class || (X.env.scope.kind == .module && X.env.locals != X.env.globals))=false:=by rw [I.ok.kind];rfl
 have hiσ:i < σ.length:=by rw [I.len];exact (List.getElem?_eq_some_iff.mp hi).1
 have DW:=I.DW
 have tracked:∀ {a:Addr} {h':Heap},(∃ o,s.heap.get? a=some o /\ H a=none) -> Heap.SameBut a s.heap h' -> jt X.prog X.w H h':=fun {a h'} ha hs b ob e=>by
  obtain ⟨_,_,hfree⟩:=ha
  refine (I.hok b ob e).stay (fun c w' hc q=>(hs.2 c ?_).trans q) (fun _ q=>q) fun _ _ q=>q
  rintro rfl
  rcases hc with rfl | hc
  ·rw [hfree] at e;cases e
  ·rw [hfree] at hc;cases hc
 rcases hx with hk | hk
 ·refine wpAny_storeName_local hk hn (fun h' hn' hs=>?_) hcls
  obtain ⟨oL,_,_,hoL,_⟩:=id hn
  refine h _ ⟨I.ok,I.os,I.bare,⟨fun b o e n hb hx=>?_,fun b o e n hb hx=>?_,I.base.free,fun b o e hx=>?_,I.base.tups,I.base.frzs,I.base.tbls⟩,⟨_,hn',fun j y v' e1 e2 e3=>?_⟩,fun y c e=>?_,I.free,I.freeC,fun p hp=>?_,tracked ⟨oL,hoL,I.free⟩ hs,by simpa using I.len⟩ ⟨_,hs,.inl rfl⟩
  ·exact (hs.2 b (Nat.ne_of_lt (Nat.lt_of_lt_of_le (Heap.lt_size e) I.ok.above))).trans (I.base.keep b o e n hb hx)
  ·obtain ⟨sl,e1⟩:=I.base.slot b o e n hb hx
   exact ⟨sl,(hs.2 b (Nat.ne_of_lt (Nat.lt_of_lt_of_le (Heap.lt_size e) I.ok.above))).trans e1⟩
  ·obtain ⟨o',e1⟩:=I.base.there b o e hx
   exact ⟨o',(hs.2 b (Nat.ne_of_lt (Nat.lt_of_lt_of_le (Heap.lt_size e) I.ok.above))).trans e1⟩
  ·by_cases hj:j=i
   ·subst hj
    rw [hi] at e1;cases e1
    rw [List.getElem?_set_self hiσ] at e2
    cases e2
    exact ⟨u,r,.inl ⟨hk,by simp⟩⟩
   ·rw [List.getElem?_set_ne (Ne.symm hj)] at e2
    obtain ⟨u',r',q⟩:=hl j y v' e1 e2 e3
    refine ⟨u',r',?_⟩
    rcases q with ⟨k,e⟩ | ⟨k,c,e,z⟩
    ·refine .inl ⟨k,?_⟩
     have:y ≠ x:=fun e=>hj (nQ hN e1 (e ▸ hi))
     simp [this,e]
    ·exact .inr ⟨k,c,e,z.sameBut hs (DW y c e)⟩
  ·obtain ⟨w',z⟩:=I.cell y c e
   exact ⟨w',z.sameBut hs (DW y c e)⟩
  ·obtain ⟨e,n,ne,nf,d⟩:=I.pin p hp
   exact ⟨(hs.2 p.1 ne).trans e,n,ne,nf,d⟩
 ·have hfn:X.fn x=true:=by
   rcases hf with z | z
   ·exact z
   ·rw [z] at hk;cases hk
  obtain ⟨c,hc⟩:=I.ok.has x (.inl hk)
  obtain ⟨w',z⟩:=I.cell x c hc
  refine wpAny_storeName_cell I.ok.kind hk hc z (fun h' hc' hs=>?_)
  obtain ⟨oc,hoc,hocd⟩:=id z
  refine h { s with heap:=h' } ⟨I.ok,I.os,I.bare,⟨fun b o e n hb hx=>?_,fun b o e n hb hx=>?_,I.base.free,fun b o e hx=>?_,I.base.tups,I.base.frzs,I.base.tbls⟩,⟨m,hn.sameBut hs (Ne.symm (DW x c hc)),fun j y v' e1 e2 e3=>?_⟩,fun y c' e=>?_,I.free,I.freeC,fun p hp=>?_,tracked ⟨oc,hoc,I.freeC x c hc⟩ hs,by simpa using I.len⟩ ⟨c,hs,.inr hc⟩
  ·exact (hs.2 b (Nat.ne_of_lt (Nat.lt_of_lt_of_le (Heap.lt_size e) (I.ok.cab x c hfn hc)))).trans (I.base.keep b o e n hb hx)
  ·obtain ⟨sl,e1⟩:=I.base.slot b o e n hb hx
   exact ⟨sl,(hs.2 b (Nat.ne_of_lt (Nat.lt_of_lt_of_le (Heap.lt_size e) (I.ok.cab x c hfn hc)))).trans e1⟩
  ·obtain ⟨o',e1⟩:=I.base.there b o e hx
   exact ⟨o',(hs.2 b (Nat.ne_of_lt (Nat.lt_of_lt_of_le (Heap.lt_size e) (I.ok.cab x c hfn hc)))).trans e1⟩
  ·by_cases hj:j=i
   ·subst hj
    rw [hi] at e1;cases e1
    rw [List.getElem?_set_self hiσ] at e2
    cases e2
    exact ⟨u,r,.inr ⟨.inl hk,c,hc,hc'⟩⟩
   ·rw [List.getElem?_set_ne (Ne.symm hj)] at e2
    obtain ⟨u',r',q⟩:=hl j y v' e1 e2 e3
    refine ⟨u',r',?_⟩
    rcases q with q | ⟨k,c',e,z'⟩
    ·exact .inl q
    ·refine .inr ⟨k,c',e,z'.sameBut hs ?_⟩
     rintro rfl
     exact hj (nQ hN e1 (I.ok.inj _ _ _ e hc ▸ hi))
  ·by_cases hcc:c'=c
   ·subst hcc;exact ⟨_,hc'⟩
   ·obtain ⟨w2,z2⟩:=I.cell y c' e
    exact ⟨w2,z2.sameBut hs hcc⟩
  ·obtain ⟨e,n,ne,nf,d⟩:=I.pin p hp
   refine ⟨(hs.2 p.1 ?_).trans e,n,ne,nf,d⟩
   intro q
   rw [q,hoc] at e
   have q':oc=p.2:=Option.some.inj e
   exact d w' (by rw [<- q'];exact hocd)
theorem iP {M:Model} {A:Around} {E:Value -> Shared -> Prop} {i:Nat} {x:Str} {v:V} {u:Value} {Q:Unit -> Shared -> Prop} (I:Inv X pins σ H s) (hN:X.N.Nodup) (hi:X.N[i]?=some x) (hx:Loc X.env.scope x) (r:RelV v u)
  (h:∀ s',Inv X pins (σ.set i (some v)) H s' -> Q () s') (hf:X.fn x=true \/ X.env.scope.names.lookup x=some .local:=by first | exact .inl rfl | exact .inr rfl | assumption):wpAny M A (storeName X.env x u) Q E s:=
 yK I hN hi hx r (fun s' I' _=>h s' I') hf
theorem Inv.vU {s':Shared} {ch:List Addr} (I:Inv X pins σ H s) (ho:s'.os=s.os) (u:Un (frs X.stack) ch H H' s.heap s'.heap) (hok:jt X.prog X.w H' s'.heap) (hg:AllBare s'.gens)
  (hch:∀ b ∈ ch,(b ∈ X.ex \/ X.s₀.heap.objs.size <= b) /\ b ≠ X.env.locals /\ (∀ x c,X.env.cells.lookup x=some c -> c ≠ b) /\ ∀ p ∈ X.pn ++ pins,p.1 ≠ b):Inv X pins σ H' s':=by
 obtain ⟨h',g',d',t',o'⟩:=s'
 have e:o'=s.os:=ho
 subst e
 exact I.call (g':=g') (t':=t') (d':=d') u hok hg hch
end
abbrev XK:=Value -> Option Addr -> Hp -> Prop
abbrev St:=List (Option V)
abbrev VK:=V -> Hp -> Prop
abbrev TE:=St -> Hp -> VK -> Prop
abbrev TT:=St -> Hp -> (Bool -> Hp -> Prop) -> Prop
abbrev TA:=St -> Hp -> (List V -> Hp -> Prop) -> Prop
structure Ends where
 nx:St -> Hp -> Prop
 rt:VK
 bk:St -> Hp -> Prop:=fun _ _=>False
 ct:St -> Hp -> Prop:=fun _ _=>False
abbrev TS:=Ends -> St -> Hp -> Prop
def EP (X:Cx) (pins:List (Addr × Obj)) (σ:St) (Q:VK) (u:Value) (s':Shared):Prop:=∃ v H',Inv X pins σ H' s' /\ RelV v u /\ Q v H'
def TP (X:Cx) (pins:List (Addr × Obj)) (σ:St) (Q:Bool -> Hp -> Prop) (b:Bool) (s':Shared):Prop:=∃ H',Inv X pins σ H' s' /\ Q b H'
def AP (X:Cx) (pins:List (Addr × Obj)) (σ:St) (Q:List V -> Hp -> Prop) (us:List Value) (s':Shared):Prop:=∃ vs H',Inv X pins σ H' s' /\ Vals vs us /\ Q vs H'
def SP (X:Cx) (pins:List (Addr × Obj)) (D:Ends) (f:Flow) (s':Shared):Prop:=
 match f with
 | .next=>∃ σ' H',Inv X pins σ' H' s' /\ D.nx σ' H'
 | .brk=>∃ σ' H',Inv X pins σ' H' s' /\ D.bk σ' H'
 | .cont=>∃ σ' H',Inv X pins σ' H' s' /\ D.ct σ' H'
 | .ret u=>∃ v σ' H',Inv X pins σ' H' s' /\ RelV v u /\ D.rt v H'
def PE (X:Cx) (e:Expr) (t:TE):Prop:=
 ∀ (pins:List (Addr × Obj)) (s:Shared) (σ:St) (H:Hp) (Q:VK),Inv X pins σ H s -> t σ H Q -> wpAny (model X.prog X.w) X.A (eval e X.env) (EP X pins σ Q) X.xe s
def PT (X:Cx) (e:Expr) (t:TT):Prop:=
 ∀ (pins:List (Addr × Obj)) (s:Shared) (σ:St) (H:Hp) (Q:Bool -> Hp -> Prop),Inv X pins σ H s -> t σ H Q -> wpAny (model X.prog X.w) X.A (isTrue e X.env (eval e X.env)) (TP X pins σ Q) X.xe s
def PW (X:Cx) (e:Expr) (t:TT):Prop:=
 ∀ (whole:Sem Value) (pins:List (Addr × Obj)) (s:Shared) (σ:St) (H:Hp) (Q:Bool -> Hp -> Prop),Inv X pins σ H s -> t σ H Q -> wpAny (model X.prog X.w) X.A (isTrue e X.env whole) (TP X pins σ Q) X.xe s
def PA (X:Cx) (es:List Expr) (t:TA):Prop:=
 ∀ (pos:Pos) (pins:List (Addr × Obj)) (s:Shared) (σ:St) (H:Hp) (Q:List V -> Hp -> Prop),Inv X pins σ H s -> t σ H Q -> wpAny (model X.prog X.w) X.A (spliced (backTo pos (starEach es X.env))) (AP X pins σ Q) X.xe s
def PS (X:Cx) (st:Stmt) (t:TS):Prop:=
 ∀ (pins:List (Addr × Obj)) (s:Shared) (σ:St) (H:Hp) (D:Ends),Inv X pins σ H s -> t D σ H -> wpAny (model X.prog X.w) X.A (exec st X.env) (SP X pins D) X.xe s
def qd (X:Cx) (st:List Stmt) (t:TS):Prop:=
 ∀ (pins:List (Addr × Obj)) (s:Shared) (σ:St) (H:Hp) (D:Ends),Inv X pins σ H s -> t D σ H -> wpAny (model X.prog X.w) X.A (execs st X.env) (SP X pins D) X.xe s
theorem b9 {α:Type} {t:Sem α} {Q Q':α -> Shared -> Prop} {M:Model} {A:Around} {E:Value -> Shared -> Prop} {s:Shared} (h:wpAny M A t Q E s) (hQ:∀ a s,Q a s -> Q' a s):wpAny M A t Q' E s:=wpAny_mono h hQ fun _ _ x=>x
end L2
namespace L2
open PySem PySem.Spec PyProof.Rows
section
variable {X:Cx}
def K4 (i:Nat):TE:=fun σ H Q=>∃ v,σ[i]?=some (some v) /\ Q v H
def tC (v:V):TE:=fun _ H Q=>Q v H
theorem Hj {i:Nat} {x:Str} {pos:Pos} (hN:X.N[i]?=some x) (hv:I0 X.env.scope x) (hd:(x == ("__debug__" : Str))=false:=by decide) (hcd:(x == ("__classdict__" : Str))=false:=by decide):PE X (.Name x pos) (K4 i):=by
 intro pins s σ H Q I h
 obtain ⟨v,e,h⟩:=h
 obtain ⟨m,hn,hl⟩:=I.loc
 obtain ⟨u,r,l⟩:=hl i x v hN e hv
 have fin:EP X pins σ Q u s:=⟨v,H,I,r,h⟩
 rcases l with ⟨hk,hm⟩ | ⟨hk,c,hc,hcell⟩
 ·exact wpAny_Name (wpAny_loadName_local I.ok.kind hk hn hm fin) hd
 ·rcases hk with hk | hk
  ·exact wpAny_Name (wpAny_loadName_cell I.ok.kind hk hc hcell fin) hd
  ·exact wpAny_Name (wpAny_loadName_free I.ok.kind hk hc hcell fin hcd) hd
theorem uG {i j pos}:PE X (.Constant (.int i) j pos) (tC (.int i)):=fun _ _ _ H _ I h=>wpAny_Constant_int ⟨.int i,H,I.tok _,⟨_,rfl⟩,h⟩
theorem Jt {b j pos}:PE X (.Constant (.bool b) j pos) (tC (.bl b)):=fun _ _ _ H _ I h=>Constant_bool ⟨.bl b,H,I,rfl,h⟩
theorem GG {j pos}:PE X (.Constant .none j pos) (tC .non):=fun _ _ _ H _ I h=>Constant_none ⟨.non,H,I,rfl,h⟩
theorem zY {x j pos}:PE X (.Constant (.str x) j pos) (tC (.str x)):=fun _ _ _ H _ I h=>Calls.Constant_str ⟨.str x,H,I.tok _,⟨_,rfl⟩,h⟩
def Gl (X:Cx) (x:Str):Prop:=X.env.kindOf x=some .globalImplicit
theorem kB {E:Value -> Shared -> Prop} {pins:List (Addr × Obj)} {s:Shared} {σ:St} {H:Hp} {x:Str} {u:Value} {pos:Pos} {Q:Value -> Shared -> Prop} (I:Inv X pins σ H s) (hg:Gl X x) (hm:X.mg x=some u) (h:Q u s)
  (hd:(x == ("__debug__" : Str))=false:=by decide):wpAny (model X.prog X.w) X.A (eval (.Name x pos) X.env) Q E s:=
 Calls.Name_function_global I.ok.kind hg (Calls.loadGlobal_global (by rw [I.ok.glob];exact I.mod.glob.keeps I.bk) hm h) hd
theorem nL {E:Value -> Shared -> Prop} {pins:List (Addr × Obj)} {s:Shared} {σ:St} {H:Hp} {x:Str} {u:Value} {pos:Pos} {Q:Value -> Shared -> Prop} (I:Inv X pins σ H s) (hg:Gl X x) (hm:X.mg x=none) (hv:bootBuiltins x=some u) (h:Q u s)
  (hn:x ≠ "__name__" := by decide) (hd:(x == ("__debug__" : Str))=false:=by decide):wpAny (model X.prog X.w) X.A (eval (.Name x pos) X.env) Q E s:=by
 obtain ⟨mb,h1,h2⟩:=I.mod.blt
 exact Calls.Name_function_global I.ok.kind hg (Calls.loadGlobal_builtin (by rw [I.ok.glob];exact I.mod.glob.keeps I.bk) hm (by rw [I.ok.blt];exact h1.keeps I.bk) ((h2 x hn).trans hv) h) hd
theorem xR {x:Str} {v:V} {u:Value} {pos:Pos} (hg:Gl X x) (hm:X.mg x=some u) (r:RelV v u) (hd:(x == ("__debug__" : Str))=false:=by decide):PE X (.Name x pos) (tC v):=
 fun _ _ _ H _ I h=>kB I hg hm ⟨v,H,I,r,h⟩ hd
theorem xG {x:Str} {v:V} {u:Value} {pos:Pos} (hg:Gl X x) (hm:X.mg x=none) (hv:bootBuiltins x=some u) (r:RelV v u) (hn:x ≠ "__name__" := by decide) (hd:(x == ("__debug__" : Str))=false:=by decide):PE X (.Name x pos) (tC v):=
 fun _ _ _ H _ I h=>nL I hg hm hv ⟨v,H,I,r,h⟩ hn hd
variable {a b:Expr} {ta tb:TE} {pos:Pos}
variable {tA tB':TT} {rest:List Expr}
def Jl (t u:TT):TT:=fun σ H Q=>t σ H fun c H1=>if c=true then u σ H1 Q else Q false H1
def LM (t u:TT):TT:=fun σ H Q=>t σ H fun c H1=>if c=true then Q true H1 else u σ H1 Q
def Ku (t:TT):TT:=fun σ H Q=>t σ H fun c H1=>Q (!c) H1
theorem EA (ha:PT X a tA):PW X (.BoolOp .And [a] pos) tA:=by
 intro wh pins s σ H Q I h
 refine isTrue_and (b9 (ha pins s σ H Q I h) fun c s1 e=>?_)
 cases c with
 | true=>exact isTrue_and_nil e
 | false=>exact e
theorem FY (ha:PT X a tA):PW X (.BoolOp .Or [a] pos) tA:=by
 intro wh pins s σ H Q I h
 refine isTrue_or (b9 (ha pins s σ H Q I h) fun c s1 e=>?_)
 cases c with
 | false=>exact isTrue_or_nil e
 | true=>exact e
theorem Hw (ha:PT X a tA) (hb:PW X (.BoolOp .And (b :: rest) pos) tB'):PW X (.BoolOp .And (a :: b :: rest) pos) (Jl tA tB'):=by
 intro wh pins s σ H Q I h
 refine isTrue_and (b9 (ha pins s σ H _ I h) fun c s1 ⟨H1,I1,q1⟩=>?_)
 cases c with
 | true=>exact hb wh pins s1 σ H1 Q I1 q1
 | false=>exact ⟨H1,I1,q1⟩
theorem J7 (ha:PT X a tA) (hb:PW X (.BoolOp .Or (b :: rest) pos) tB'):PW X (.BoolOp .Or (a :: b :: rest) pos) (LM tA tB'):=by
 intro wh pins s σ H Q I h
 refine isTrue_or (b9 (ha pins s σ H _ I h) fun c s1 ⟨H1,I1,q1⟩=>?_)
 cases c with
 | true=>exact ⟨H1,I1,q1⟩
 | false=>exact hb wh pins s1 σ H1 Q I1 q1
theorem Gz (ha:PT X a tA):PT X (.UnaryOp .Not a pos) (Ku tA):=by
 intro pins s σ H Q I h
 exact isTrue_not (ha pins s σ H (fun c H1=>Q (!c) H1) I h)
def Jr (ta tb:TE):TE:=fun σ H Q=>ta σ H fun x H1=>∃ c,x=.bl c /\ if c=true then tb σ H1 Q else Q (.bl false) H1
def KZ (ta tb:TE):TE:=fun σ H Q=>ta σ H fun x H1=>∃ c,x=.bl c /\ if c=true then Q (.bl true) H1 else tb σ H1 Q
def J1 (ta:TE):TE:=fun σ H Q=>ta σ H fun x H1=>∃ c,x=.bl c /\ Q (.bl (!c)) H1
theorem Gr {op} {t:TE} (h:PE X a t):PE X (.BoolOp op [a] pos) t:=fun pins s σ H Q I hw=>BoolOp_one (h pins s σ H Q I hw)
theorem GB (ha:PE X a ta) (hb:PE X (.BoolOp .And (b :: rest) pos) tb):PE X (.BoolOp .And (a :: b :: rest) pos) (Jr ta tb):=by
 intro pins s σ H Q I h
 refine BoolOp_and (b9 (ha pins s σ H _ I h) fun v s1 ⟨x,H1,I1,r1,q1⟩=>?_)
 obtain ⟨c,rfl,q1⟩:=q1
 cases r1
 refine wpAny_truthy_bool ?_
 cases c with
 | true=>exact hb pins s1 σ H1 Q I1 q1
 | false=>exact ⟨.bl false,H1,I1,rfl,q1⟩
theorem JA (ha:PE X a ta) (hb:PE X (.BoolOp .Or (b :: rest) pos) tb):PE X (.BoolOp .Or (a :: b :: rest) pos) (KZ ta tb):=by
 intro pins s σ H Q I h
 refine BoolOp_or (b9 (ha pins s σ H _ I h) fun v s1 ⟨x,H1,I1,r1,q1⟩=>?_)
 obtain ⟨c,rfl,q1⟩:=q1
 cases r1
 refine wpAny_truthy_bool ?_
 cases c with
 | false=>exact hb pins s1 σ H1 Q I1 q1
 | true=>exact ⟨.bl true,H1,I1,rfl,q1⟩
theorem F_ (ha:PE X a ta):PE X (.UnaryOp .Not a pos) (J1 ta):=by
 intro pins s σ H Q I h
 refine UnaryOp_ (b9 (ha pins s σ H _ I h) fun v s1 ⟨x,H1,I1,r1,q1⟩=>?_)
 obtain ⟨c,rfl,q1⟩:=q1
 cases r1
 exact not_of (wpAny_truthy_bool ⟨.bl (!c),H1,I1,rfl,q1⟩)
end
end L2
namespace L2
open PySem PySem.Spec PyProof.Rows
def fF (K:PySem.W.Frag) (H:Hp) (a:Addr) (xs:List V):Prop:=
 Rd H a (.lst xs) \/
  ∃ (o:Obj) (its:Array Value) (n:Nat),K.lookup a=some o /\ o.cls=.type "list" /\ o.dict=none /\ o.data=.seq its n /\ its.size <= sizeLine /\ Vals xs its.toList
def dg (K:PySem.W.Frag) (H:Hp) (a:Addr) (xs:List V):Prop:=
 Rd H a (.tup xs) \/
  ∃ (o:Obj) (its:Array Value) (n:Nat),K.lookup a=some o /\ o.cls=.type "tuple" /\ o.dict=none /\ o.data=.seq its n /\ its.size <= sizeLine /\ Vals xs its.toList
def Kz:Value -> Option V
 | .none=>some .non
 | .bool b=>some (.bl b)
 | .int i _=>some (.int i)
 | .str x _=>some (.str x)
 | .bytes b _=>some (.byt b)
 | .float b _=>some (.flt b)
 | .ref a=>some (.ref a)
 | .type n=>some (.ty n)
 | _=>none
theorem RelV.abs {x:V} {u:Value} (r:RelV x u):Kz u=some x:=by
 cases x with
 | non=>cases r;rfl
 | bl _=>cases r;rfl
 | int _=>obtain ⟨t,rfl⟩:=r;rfl
 | str _=>obtain ⟨t,rfl⟩:=r;rfl
 | byt _=>obtain ⟨t,rfl⟩:=r;rfl
 | flt _=>obtain ⟨t,rfl⟩:=r;rfl
 | ref _=>cases r;rfl
 | ty _=>cases r;rfl
theorem RelV.inj {x y:V} {u:Value} (r:RelV x u) (q:RelV y u):x=y:=Option.some.inj (r.abs.symm.trans q.abs)
theorem Vals.inj:∀ {xs ys:List V} {us:List Value},Vals xs us -> Vals ys us -> xs=ys
 | _,_,_,.nil,.nil=>rfl
 | _,_,_,.cons r t,.cons r' t'=>by rw [r.inj r',Vals.inj t t']
section
variable {X:Cx} {pins:List (Addr × Obj)} {σ:St} {H:Hp} {s:Shared} {a:Addr} {xs ys:List V}
theorem fF.of {K:PySem.W.Frag} (h:H a=some (.lst xs)):fF K H a xs:=.inl (.inl h)
theorem dg.of {K:PySem.W.Frag} (h:H a=some (.tup xs)):dg K H a xs:=.inl (.inl h)
theorem Inv.list (I:Inv X pins σ H s) (h:fF X.K H a xs):∃ its:List Value,Vals xs its /\ PlainL s.heap a its.toArray /\ xs.length <= sizeLine:=by
 rcases h with h | ⟨o,its,n,hk,hc,hd,hs,hz,r⟩
 ·obtain ⟨z,its,n,r,e⟩:=h.ok I.hok
  exact ⟨its,r,⟨_,n,e,rfl,rfl,rfl⟩,z⟩
 ·refine ⟨its.toList,r,⟨o,n,I.mO a o hk,hc,hd,by simpa using hs⟩,?_⟩
  have e:=r.length
  simp only [Array.length_toList] at e
  omega
theorem Inv.tuple (I:Inv X pins σ H s) (h:dg X.K H a xs):∃ its:List Value,Vals xs its /\ IsTup s.heap a its.toArray /\ xs.length <= sizeLine:=by
 rcases h with h | ⟨o,its,n,hk,hc,_,hs,hz,r⟩
 ·obtain ⟨z,its,r,p⟩:=h.ok I.hok
  exact ⟨its,r,p.tup,z⟩
 ·refine ⟨its.toList,r,⟨o,I.mO a o hk,hc,n,by simpa using hs⟩,?_⟩
  have e:=r.length
  simp only [Array.length_toList] at e
  omega
theorem Inv.FO (I:Inv X pins σ H s) (h:dg X.K H a xs):∃ o,s.heap.get? a=some o /\ o.cls=.type "tuple" /\ o.dict=none:=by
 rcases h with h | ⟨o,its,n,hk,hc,hd,hs,hz,r⟩
 ·obtain ⟨z,its,r,o,e,c,d,_⟩:=h.ok I.hok
  exact ⟨o,e,c,d⟩
 ·exact ⟨o,I.mO a o hk,hc,hd⟩
theorem Inv.Al (I:Inv X pins σ H s) (h:fF X.K H a xs) (h':fF X.K H a ys):xs=ys:=by
 obtain ⟨its,r,⟨o,n,e,_,_,d⟩,_⟩:=I.list h
 obtain ⟨its',r',⟨o',n',e',_,_,d'⟩,_⟩:=I.list h'
 rw [e] at e';cases e'
 rw [d] at d'
 injection d' with d1 _
 have:its=its':=by simpa using congrArg Array.toList d1
 subst this
 exact r.inj r'
theorem Inv.pV (I:Inv X pins σ H s) (h:dg X.K H a xs) (h':dg X.K H a ys):xs=ys:=by
 obtain ⟨its,r,⟨o,e,_,n,d⟩,_⟩:=I.tuple h
 obtain ⟨its',r',⟨o',e',_,n',d'⟩,_⟩:=I.tuple h'
 rw [e] at e';cases e'
 rw [d] at d'
 injection d' with d1 _
 have:its=its':=by simpa using congrArg Array.toList d1
 subst this
 exact r.inj r'
end
abbrev Cx.pC (X:Cx) (E:Value -> Shared -> Prop):Cx:={ X with xe:=E }
abbrev Cx.JZ (X:Cx):Cx:=X.pC fun _ _=>False
theorem Cx.Ok.pC {X:Cx} (ok:X.Ok) (E:Value -> Shared -> Prop):(X.pC E).Ok:=
 ⟨ok.mod,ok.kind,ok.glob,ok.blt,ok.above,ok.inj,ok.has,ok.cab,ok.hd,ok.frames,ok.stk,ok.exf,ok.bs,ok.bsz,ok.noex,ok.exfs,ok.iR,ok.frf⟩
theorem Cx.Ok.iL {X:Cx} {E:Value -> Shared -> Prop} (ok:(X.pC E).Ok):X.Ok:=
 ⟨ok.mod,ok.kind,ok.glob,ok.blt,ok.above,ok.inj,ok.has,ok.cab,ok.hd,ok.frames,ok.stk,ok.exf,ok.bs,ok.bsz,ok.noex,ok.exfs,ok.iR,ok.frf⟩
section
variable {X:Cx} {pins:List (Addr × Obj)} {σ:St} {H:Hp} {s:Shared} {E:Value -> Shared -> Prop}
theorem Inv.pC (I:Inv X pins σ H s) (E:Value -> Shared -> Prop):Inv (X.pC E) pins σ H s:=⟨I.ok.pC E,I.os,I.bare,I.base,I.loc,I.cell,I.free,I.freeC,I.pin,I.hok,I.len⟩
theorem Inv.iL (I:Inv (X.pC E) pins σ H s):Inv X pins σ H s:=⟨I.ok.iL,I.os,I.bare,I.base,I.loc,I.cell,I.free,I.freeC,I.pin,I.hok,I.len⟩
theorem SP.iL {D:Ends} {f:Flow} {s':Shared} (h:SP (X.pC E) pins D f s'):SP X pins D f s':=by
 cases f with
 | next=>obtain ⟨σ',H',I,q⟩:=h;exact ⟨σ',H',I.iL,q⟩
 | brk=>obtain ⟨σ',H',I,q⟩:=h;exact ⟨σ',H',I.iL,q⟩
 | cont=>obtain ⟨σ',H',I,q⟩:=h;exact ⟨σ',H',I.iL,q⟩
 | ret u=>obtain ⟨v,σ',H',I,r,q⟩:=h;exact ⟨v,σ',H',I.iL,r,q⟩
theorem qd.JZ {st:List Stmt} {t:TS} (h:qd X.JZ st t):qd X st t:=fun pins s σ H D I hw=>
 wpAny_mono (h pins s σ H D (I.pC _) hw) (fun _ _ q=>q.iL) fun _ _ z=>False.elim z
end
section
variable {X:Cx} {st:Stmt} {rest:List Stmt} {t u:TS} {e:Expr} {te:TE} {pos:Pos}
def Jc:TS:=fun D σ H=>D.nx σ H
def Jg (t u:TS):TS:=fun D σ H=>t { D with nx:=u D } σ H
theorem Dg:qd X [] Jc:=fun _ _ σ H _ I h=>wpAny_execs_nil ⟨σ,H,I,h⟩
theorem Ak (h1:PS X st t) (h2:qd X rest u):qd X (st :: rest) (Jg t u):=by
 intro pins s σ H D I h
 refine wpAny_execs_cons (b9 (h1 pins s σ H { D with nx:=u D } I h) fun f s1 q=>?_)
 cases f with
 | next=>
  obtain ⟨σ',H',I',q⟩:=q
  exact h2 pins s1 σ' H' D I' q
 | ret v=>exact q
 | brk=>exact q
 | cont=>exact q
theorem xZ (h1:PS X st t):qd X [st] t:=by
 intro pins s σ H D I h
 refine wpAny_execs_cons (b9 (h1 pins s σ H D I h) fun f s1 q=>?_)
 cases f with
 | next=>exact wpAny_execs_nil q
 | ret v=>exact q
 | brk=>exact q
 | cont=>exact q
theorem Inv.quiet {pins:List (Addr × Obj)} {σ:St} {H:Hp} {s:Shared} (I:Inv X pins σ H s):interactive X.env=false:=by simp [interactive,I.ok.kind]
def Ja (te:TE):TS:=fun D σ H=>te σ H fun _ H1=>D.nx σ H1
theorem Er (he:PE X e te) (hs:swapsWith e none pos.line X.env=pure false:=by rfl):PS X (.Expr e pos) (Ja te):=by
 intro pins s σ H D I h
 exact wpAny_Expr_any (b9 (he pins s σ H _ I h) fun v s1 ⟨x,H1,I1,r1,q1⟩=>⟨σ,H1,I1,q1⟩) I.quiet hs
def Lr (te:TE):TS:=fun D σ H=>te σ H D.rt
theorem G0 (he:PE X e te):PS X (.Return (some e) pos) (Lr te):=by
 intro pins s σ H D I h
 exact wpAny_Return_some (b9 (he pins s σ H _ I h) fun v s1 ⟨x,H1,I1,r1,q1⟩=>⟨x,σ,H1,I1,r1,q1⟩)
def Kw (c:TT) (t u:TS):TS:=fun D σ H=>c σ H fun b H1=>if b=true then t D σ H1 else u D σ H1
theorem IZ {c:Expr} {a b:List Stmt} {tc:TT} (hc:PT X c tc) (ha:qd X a t) (hb:qd X b u):PS X (.If c a b pos) (Kw tc t u):=by
 intro pins s σ H D I h
 refine wpAny_If (b9 (hc pins s σ H _ I h) fun d s1 ⟨H1,I1,q1⟩=>?_)
 cases d with
 | true=>exact ha pins s1 σ H1 D I1 q1
 | false=>exact hb pins s1 σ H1 D I1 q1
end
abbrev TG:=V -> St -> Hp -> (St -> Hp -> Prop) -> Prop
abbrev Ft:=List V -> St -> Hp -> (St -> Hp -> Prop) -> Prop
def PG (X:Cx) (target:Expr) (t:TG):Prop:=
 ∀ (pins:List (Addr × Obj)) (s:Shared) (σ:St) (H:Hp) (v:V) (u:Value) (Q:St -> Hp -> Prop),Inv X pins σ H s -> RelV v u -> t v σ H Q ->
  wpAny (model X.prog X.w) X.A (assign target X.env u) (fun _ s'=>∃ σ' H',Inv X pins σ' H' s' /\ Q σ' H') X.xe s
def Jz (X:Cx) (ts:List Expr) (t:Ft):Prop:=
 ∀ (pins:List (Addr × Obj)) (s:Shared) (σ:St) (H:Hp) (vs:List V) (us:List Value) (Q:St -> Hp -> Prop),Inv X pins σ H s -> Vals vs us -> t vs σ H Q ->
  wpAny (model X.prog X.w) X.A (assignInOrder ((assignEach ts X.env).map (·.2)) us) (fun _ s'=>∃ σ' H',Inv X pins σ' H' s' /\ Q σ' H') X.xe s
abbrev CY:=V -> V -> V -> Hp -> (Hp -> Prop) -> Prop
def AQ (X:Cx) (t:CY):Prop:=
 ∀ (pins:List (Addr × Obj)) (s:Shared) (σ:St) (H:Hp) (o i v:V) (ov iv u:Value) (Q:Hp -> Prop),Inv X pins σ H s -> RelV o ov -> RelV i iv -> RelV v u -> t o i v H Q ->
  wpAny (model X.prog X.w) X.A (setItem ov iv u) (fun _ s'=>∃ H',Inv X pins σ H' s' /\ Q H') X.xe s
abbrev IJ:=V -> V -> Hp -> VK -> Prop
def Kf (X:Cx) (op:Operator) (t:IJ):Prop:=
 ∀ (pins:List (Addr × Obj)) (s:Shared) (σ:St) (H:Hp) (x y:V) (v u:Value) (Q:VK),Inv X pins σ H s -> RelV x v -> RelV y u -> t x y H Q ->
  wpAny (model X.prog X.w) X.A (inplaceOp op v u) (EP X pins σ Q) X.xe s
section
variable {X:Cx} {pos:Pos}
def zQ (i:Nat):TG:=fun v σ H Q=>Q (σ.set i (some v)) H
theorem vp {i:Nat} {x:Str} (hN:X.N.Nodup) (hi:X.N[i]?=some x) (hx:Loc X.env.scope x) (hf:X.fn x=true \/ X.env.scope.names.lookup x=some .local:=by first | exact .inl rfl | exact .inr rfl | assumption):PG X (.Name x pos) (zQ i):=by
 intro pins s σ H v u Q I r h
 exact wpAny_assign_Name (iP I hN hi hx r (fun s' I'=>⟨_,H,I',h⟩) hf)
def KL:Ft:=fun vs σ H Q=>vs=[] /\ Q σ H
def Jj (t:TG) (u:Ft):Ft:=fun vs σ H Q=>∃ v r,vs=v :: r /\ t v σ H fun σ' H'=>u r σ' H' Q
theorem Ek:Jz X [] KL:=by
 intro pins s σ H vs us Q I r h
 obtain ⟨e,h⟩:=h
 subst e
 cases r
 exact assignInOrder_nil ⟨σ,H,I,h⟩
theorem AB {e:Expr} {es:List Expr} {t:TG} {u:Ft} (h1:PG X e t) (h2:Jz X es u)
  (hs:(assignEach (e :: es) X.env).map (·.2)=assign e X.env :: (assignEach es X.env).map (·.2):=by rfl):Jz X (e :: es) (Jj t u):=by
 intro pins s σ H vs us Q I r h
 obtain ⟨v,vr,e1,h⟩:=h
 subst e1
 cases r with
 | cons r rr=>
  rw [hs]
  refine assignInOrder_cons (b9 (h1 pins s σ H _ _ _ I r h) fun _ s1 ⟨σ1,H1,I1,q1⟩=>?_)
  exact h2 pins s1 σ1 H1 _ _ Q I1 rr q1
def K3 (K:PySem.W.Frag) (n:Nat) (t:Ft):TG:=fun v σ H Q=>∃ a xs,v=.ref a /\ dg K H a xs /\ xs.length=n /\ t xs σ H Q
theorem GJ {es:List Expr} {k:Nat} {t:Ft} {n:Nat} (hc:X.calm=true) (h:Jz X es t)
  (hn:(assignEach es X.env).length=n:=by rfl) (hst:(assignEach es X.env).findIdx? (·.1)=none:=by rfl):PG X (.Tuple es k pos) (K3 X.K n t):=by
 intro pins s σ H v u Q I r hw
 obtain ⟨a,xs,e1,hq,hl,hw⟩:=hw
 subst e1
 cases r
 obtain ⟨its,rv,ht,hz⟩:=I.tuple hq
 refine assign_Tuple_tuple (I.ok.hd hc) ht (by simp [hn,<- hl,rv.length]) hst fun h' hx=>?_
 have I1:Inv X pins σ H { s with heap:=h' }:=I.kept (t':=s.toks) fun b o e=>hx b o (Nat.ne_of_lt (Heap.lt_size e)) e
 exact h pins _ σ H xs _ Q I1 (by simpa using rv) hw
def Lq (to ti:TE) (t:CY):TG:=fun v σ H Q=>to σ H fun o H1=>ti σ H1 fun i H2=>t o i v H2 fun H3=>Q σ H3
theorem CF {o i:Expr} {to ti:TE} {t:CY} (ho:PE X o to) (hi:PE X i ti) (hs:AQ X t)
  (ha:∀ v,assign (.Subscript o i pos) X.env v=(do
   let ov <- holding [v] (eval o X.env)
   let iv <- holding [v,ov] (eval i X.env)
   standAt pos
   holding [v,ov,iv] (setItem ov iv v)
   release [v,ov,iv] []):=by intro _;rfl):PG X (.Subscript o i pos) (Lq to ti t):=by
 intro pins s σ H v u Q I r h
 rw [ha]
 refine wpAny_bind (wpAny_holding (b9 (ho pins s σ H _ I h) fun ov s1 ⟨x,H1,I1,r1,q1⟩=>?_))
 refine wpAny_bind (wpAny_holding (b9 (hi pins s1 σ H1 _ I1 q1) fun iv s2 ⟨y,H2,I2,r2,q2⟩=>?_))
 refine wpAny_bind (wpAny_standAt (wpAny_bind (wpAny_holding (b9 (hs pins s2 σ H2 x y v ov iv u _ I2 r1 r2 r q2) fun _ s3 ⟨H3,I3,q3⟩=>?_))))
 exact wpAny_release ⟨σ,H3,I3,q3⟩
def D9 (te:TE) (g:TG):TS:=fun D σ H=>te σ H fun x H1=>g x σ H1 D.nx
theorem FN {tg e:Expr} {te:TE} {g:TG} (he:PE X e te) (hg:PG X tg g) (hs:swapsWithSole [tg] e pos.line X.env=pure false:=by rfl) (hw:swappedStores [tg] e X.env=pure none:=by rfl)
  (h1:(assignEach [tg] X.env).map (·.2)=[assign tg X.env]:=by rfl):PS X (.Assign [tg] e pos) (D9 te g):=by
 intro pins s σ H D I h
 refine wpAny_Assign_stores (b9 (he pins s σ H _ I h) fun v s1 ⟨x,H1,I1,r1,q1⟩=>?_) hs hw
 rw [h1]
 exact b9 (hg pins s1 σ H1 x v _ I1 r1 q1) fun _ s2 q=>q
theorem Cm {i:Nat} {x:Str} {e:Expr} {te:TE} {pos':Pos} (hN:X.N.Nodup) (hi:X.N[i]?=some x) (hx:Loc X.env.scope x) (he:PE X e te) (hs:swapsWith e (some (.Name x pos')) pos.line X.env=pure false:=by rfl) (hf:X.fn x=true \/ X.env.scope.names.lookup x=some .local:=by first | exact .inl rfl | exact .inr rfl | assumption) :
  PS X (.Assign [.Name x pos'] e pos) (D9 te (zQ i)):=by
 intro pins s σ H D I h
 refine wpAny_Assign_Name (b9 (he pins s σ H _ I h) fun v s1 ⟨y,H1,I1,r1,q1⟩=>?_) hs
 exact iP I1 hN hi hx r1 (fun s2 I2=>⟨_,H1,I2,q1⟩) hf
def Ld (i:Nat) (te:TE) (ti:IJ):TS:=fun D σ H=>∃ x,σ[i]?=some (some x) /\ te σ H fun y H1=>ti x y H1 fun z H2=>D.nx (σ.set i (some z)) H2
theorem Hi {i:Nat} {x:Str} {e:Expr} {te:TE} {op:Operator} {ti:IJ} {pos':Pos} (hN:X.N.Nodup) (hi:X.N[i]?=some x) (hx:Loc X.env.scope x) (he:PE X e te) (ho:Kf X op ti) (hf:X.fn x=true \/ X.env.scope.names.lookup x=some .local:=by first | exact .inl rfl | exact .inr rfl | assumption) :
  PS X (.AugAssign (.Name x pos') op e pos) (Ld i te ti):=by
 intro pins s σ H D I h
 obtain ⟨v,e1,h⟩:=h
 obtain ⟨m,hn,hl⟩:=I.loc
 have vis:I0 X.env.scope x:=by rcases hx with k | k;exact .inl k;exact .inr (.inl k)
 obtain ⟨u,r,l⟩:=hl i x v hi e1 vis
 refine wpAny_AugAssign_Name ?_
 have go:wpAny (model X.prog X.w) X.A (eval e X.env) (fun w s₂=>wpAny (model X.prog X.w) X.A (inplaceOp op u w) (fun r s₃=>wpAny (model X.prog X.w) X.A (storeName X.env x r) (fun _=>SP X pins D .next) X.xe s₃) X.xe s₂) X.xe s:=by
  refine b9 (he pins s σ H _ I h) fun w s1 ⟨y,H1,I1,r1,q1⟩=>?_
  refine b9 (ho pins s1 σ H1 v y u w _ I1 r r1 q1) fun z s2 ⟨zv,H2,I2,r2,q2⟩=>?_
  exact iP I2 hN hi hx r2 (fun s3 I3=>⟨_,H2,I3,q2⟩) hf
 rcases l with ⟨hk,hm⟩ | ⟨hk,c,hc,hcell⟩
 ·exact wpAny_loadName_local I.ok.kind hk hn hm go
 ·rcases hk with hk | hk
  ·exact wpAny_loadName_cell I.ok.kind hk hc hcell go
  ·rcases hx with k | k
   ·have:X.env.scope.names.lookup x=some .free:=hk
    rw [k] at this;cases this
   ·have:X.env.scope.names.lookup x=some .free:=hk
    rw [k] at this;cases this
def Mb (f:Int -> Int -> Int):IJ:=fun x y H Q=>∃ i j,x=.int i /\ y=.int j /\ Q (.int (f i j)) H
theorem HC:Kf X .Add (Mb fun i j=>i + j):=by
 intro pins s σ H x y v u Q I r1 r2 h
 obtain ⟨i,j,e1,e2,q⟩:=h
 subst e1;subst e2
 obtain ⟨t,rfl⟩:=r1
 obtain ⟨t',rfl⟩:=r2
 exact iadd_int ⟨.int _,H,I.tok _,⟨_,rfl⟩,q⟩
end
section
variable {X:Cx} {pos:Pos}
def CP (c:TT) (tb:TS):TS:=fun D σ H=>∃ W:Nat -> St -> Hp -> Prop,(∃ m,W m σ H) /\ ∀ m σ H,W m σ H ->
 c σ H fun b H1=>if b=true then ∃ N:St -> Hp -> Prop,(∀ σ' H',N σ' H' -> ∃ m',m' < m /\ W m' σ' H') /\ tb { D with nx:=N,ct:=N,bk:=D.nx } σ H1 else D.nx σ H1
theorem A7 {c:Expr} {body:List Stmt} {tc:TT} {tb:TS} (hp:PassesOwn (model X.prog X.w) X.A X.env X.xe) (hc:PT X c tc) (hb:qd X body tb):PS X (.While c body [] pos) (CP tc tb):=by
 intro pins s σ H D I h
 obtain ⟨W,⟨m0,w0⟩,turn⟩:=h
 refine wpAny_While (codeAny_whileLoop (fun n s'=>∃ σ' H',Inv X pins σ' H' s' /\ W n σ' H') ?_ m0 ⟨σ,H,I,w0⟩)
 rintro n s1 ⟨σ1,H1,I1,w1⟩
 refine wpAny_passesOwn hp (b9 (hc pins s1 σ1 H1 _ I1 (turn n σ1 H1 w1)) fun b s2 ⟨H2,I2,q2⟩=>?_)
 cases b with
 | true=>
  obtain ⟨N,hN,q2⟩:=q2
  rw [if_pos rfl]
  refine wpAny_passesOwn hp (b9 (hb pins s2 σ1 H2 _ I2 q2) fun f s3 q3=>?_)
  cases f with
  | next=>
   obtain ⟨σ3,H3,I3,n3⟩:=q3
   obtain ⟨m',hm,w3⟩:=hN σ3 H3 n3
   exact ⟨m',hm,σ3,H3,I3,w3⟩
  | cont=>
   obtain ⟨σ3,H3,I3,n3⟩:=q3
   obtain ⟨m',hm,w3⟩:=hN σ3 H3 n3
   exact ⟨m',hm,σ3,H3,I3,w3⟩
  | brk=>exact q3
  | ret v=>exact q3
 | false=>
  rw [if_neg Bool.false_ne_true]
  exact wpAny_execs_nil ⟨σ1,H2,I2,q2⟩
end
structure It where
 go:Nat -> Hp -> Prop
 yld:Nat -> Hp -> V -> Hp -> Prop
 stop:Nat -> Hp -> Prop
def g9 (X:Cx) (pins:List (Addr × Obj)) (H:Hp) (b:Addr):Prop:=
 H b=none /\ b ≠ X.env.locals /\ b ∉ X.fs /\ (b ∈ X.ex \/ X.s₀.heap.objs.size <= b) /\ (∀ x c,X.env.cells.lookup x=some c -> c ≠ b) /\ ∀ p ∈ X.pn ++ pins,p.1 ≠ b
theorem Inv.z7 {X:Cx} {pins:List (Addr × Obj)} {σ:St} {H H':Hp} {s:Shared} {b:Addr} (I:Inv X pins σ H s) (hb:s.heap.objs.size <= b) (hn:H' b=none):g9 X pins H' b:=by
 refine ⟨hn,Nat.ne_of_gt (Nat.lt_of_lt_of_le I.lt hb),I.Ln hb,.inr (Nat.le_trans I.sz hb),fun x c e z=>?_,fun p hp z=>?_⟩
 ·obtain ⟨v,q⟩:=I.cell x c e
  exact absurd (Nat.lt_of_lt_of_le q.lt (by rw [z];exact hb)) (Nat.lt_irrefl _)
 ·exact absurd (Nat.lt_of_lt_of_le (Heap.lt_size (I.pin p hp).1) (by rw [z];exact hb)) (Nat.lt_irrefl _)
structure Turn (P:Program) (w:World) (K:PySem.W.Frag) (tg:Expr) (J:It) (fp:List Addr) (it:Addr) (tn:Nat -> Heap -> Prop):Prop where
 mem:it ∈ fp
 obj:∀ i h,tn i h -> ∀ b ∈ fp,∃ o,h.get? b=some o /\ ∀ v,o.data ≠ .cell v
 keep:∀ i h h',tn i h -> (∀ b ∈ fp,∀ o,h.get? b=some o -> h'.get? b=some o) -> tn i h'
 item:∀ (X:Cx),X.prog=P -> X.w=w -> X.K=K -> X.calm=true -> ∀ (i:Nat) (pins:List (Addr × Obj)) (s:Shared) (σ:St) (H:Hp) (E:Value -> Shared -> Prop),Inv X pins σ H s -> (∀ b ∈ fp,g9 X pins H b) -> tn i s.heap -> J.go i H ->
  wpAny (model P w) X.A (pyNext (.ref it)) (fun r s1=>∃ u,r=some u /\
   wpAny (model P w) X.A (letOwnedTupleGo tg (.ref it) u) (fun _ s2=>∃ x H',Inv X pins σ H' s2 /\ RelV x u /\ J.yld i H x H' /\ tn (i + 1) s2.heap /\ ∀ b ∈ fp,H' b=none) E s1) E s
 done:∀ (X:Cx),X.prog=P -> X.w=w -> X.K=K -> X.calm=true -> ∀ (i:Nat) (pins:List (Addr × Obj)) (s:Shared) (σ:St) (H:Hp) (E:Value -> Shared -> Prop),Inv X pins σ H s -> (∀ b ∈ fp,g9 X pins H b) -> tn i s.heap -> J.stop i H ->
  wpAny (model P w) X.A (pyNext (.ref it)) (fun r s1=>r=none /\ Inv X pins σ H s1) E s
 self:∀ (A:Around) (i:Nat) (s:Shared) (Q:Value -> Shared -> Prop) (E:Value -> Shared -> Prop),tn i s.heap -> Q (.ref it) s -> wpAny (model P w) A (pyIter (.ref it)) Q E s
abbrev TI:=St -> Hp -> (It -> Hp -> Prop) -> Prop
def LV (X:Cx) (pins:List (Addr × Obj)) (σ:St) (tg:Expr) (R:It -> Hp -> Prop) (itv:Value) (s2:Shared):Prop:=
 ∃ (it:Addr) (fp:List Addr) (tn:Nat -> Heap -> Prop) (J:It) (H':Hp),itv=.ref it /\ Inv X pins σ H' s2 /\ Turn X.prog X.w X.K tg J fp it tn /\ tn 0 s2.heap /\ (∀ b ∈ fp,g9 X pins H' b) /\ R J H'
def PI (X:Cx) (tg iter:Expr) (wi:TI):Prop:=
 ∀ (pins:List (Addr × Obj)) (s:Shared) (σ:St) (H:Hp) (R:It -> Hp -> Prop),Inv X pins σ H s -> wi σ H R ->
  wpAny (model X.prog X.w) X.A (eval iter X.env) (fun v s1=>wpAny (model X.prog X.w) X.A (pyIter v) (LV X pins σ tg R) X.xe s1) X.xe s
theorem vN {M:Model} {A:Around} {E:Value -> Shared -> Prop} {s:Shared} {tg:Expr} {it:Addr} {u:Value} {o:Obj} {n:String} {vs:Array Value} {Q:Unit -> Shared -> Prop} (ho:s.heap.get? it=some o) (hc:o.cls=.type n) (hd:o.data=.fields vs)
  (hn:["enumerate", "zip", "dict_itemiterator", "dict_reverseitemiterator", "odict_iterator", "itertools.zip_longest", "itertools.pairwise"].contains n=false) (hQ:Q () s):wpAny M A (letOwnedTupleGo tg (.ref it) u) Q E s:=by
 unfold letOwnedTupleGo
 cases tg <;> first
  | exact wpAny_pure hQ
  | (cases u <;> first
    | exact wpAny_pure hQ
    | (refine wpAny_bind (wpAny_load ho ?_)
       rw [hc,hd]
       show wpAny M A (if (["enumerate", "zip", "dict_itemiterator", "dict_reverseitemiterator", "odict_iterator", "itertools.zip_longest", "itertools.pairwise"].contains n && vs[0]? == some (rawInt _))=true then _ else _) Q E s
       rw [if_neg (by intro h;rw [hn,Bool.false_and] at h;cases h)]
       exact wpAny_pure hQ))
def Kh (K:PySem.W.Frag) (a:Addr):It:=
 ⟨fun i H=>∃ xs x,fF K H a xs /\ xs[i]?=some x,fun i H x H'=>H'=H /\ ∀ xs,fF K H a xs -> xs[i]?=some x,fun i H=>∃ xs,fF K H a xs /\ xs.length <= i⟩
def Lu (K:PySem.W.Frag) (a:Addr):It:=
 ⟨fun i H=>∃ xs x,dg K H a xs /\ xs[i]?=some x,fun i H x H'=>H'=H /\ ∀ xs,dg K H a xs -> xs[i]?=some x,fun i H=>∃ xs,dg K H a xs /\ xs.length <= i⟩
def IS (lo:Int) (n:Nat):It:=⟨fun i _=>i < n,fun i H x H'=>H'=H /\ x=.int (lo + i),fun i _=>n <= i⟩
theorem yM {P:Program} {w:World} {K:PySem.W.Frag} {tg:Expr} (a it:Addr):Turn P w K tg (Kh K a) [it] it (fun i h=>h.IsListIter it a i) where
 mem:=by simp
 obj:=fun i h st b hb=>by
  have e:b=it:=by simpa using hb
  subst e
  obtain ⟨o,e,c,d⟩:=st
  exact ⟨o,e,fun v z=>by rw [d] at z;cases z⟩
 keep:=fun i h h' st k=>st.at fun o e=>k it (by simp) o e
 item:=by
  intro X hP hw hK hc i pins s σ H E I hf st hg
  subst hP hw hK
  obtain ⟨xs,x,hq,hx⟩:=hg
  obtain ⟨its,rv,p,hz⟩:=I.list hq
  obtain ⟨u,hu,ru⟩:=rv.get hx
  obtain ⟨f0,f1,f2,f3,f4,f5⟩:=hf it (by simp)
  refine wpAny_pyNext_list_item st p.isList (x:=u) (by simpa using hu) fun h' st' sb=>?_
  have I1:Inv X pins σ H { s with heap:=h' }:=I.turned (t':=s.toks) (fun b o hb e=>(sb.2 b hb).trans e) f0 f1 f3 f4 f5
  obtain ⟨o,e,c,d⟩:=id st'
  exact ⟨u,rfl,vN (s:={ s with heap:=h' }) e c d (by decide) ⟨x,H,I1,ru,⟨rfl,fun ys hy=>by rw [I.Al hy hq];exact hx⟩,st',fun b hb=>(hf b hb).1⟩⟩
 done:=by
  intro X hP hw hK hc i pins s σ H E I hf st hg
  subst hP hw hK
  obtain ⟨xs,hq,hx⟩:=hg
  obtain ⟨its,rv,p,hz⟩:=I.list hq
  obtain ⟨f0,f1,f2,f3,f4,f5⟩:=hf it (by simp)
  have hl:=rv.length
  exact wpAny_pyNext_list_end (I.ok.hd hc) st p.isList (by simp;omega) fun h' eb=>⟨rfl,I.turned (t':=s.toks) (fun b o hb e=>eb b o hb e) f0 f1 f3 f4 f5⟩
 self:=fun _ _ _ _ _ st h=>wpAny_pyIter_listiter st h
theorem uw {P:Program} {w:World} {K:PySem.W.Frag} {tg:Expr} (a it:Addr):Turn P w K tg (Lu K a) [it] it (fun i h=>h.IsTupleIter it a i) where
 mem:=by simp
 obj:=fun i h st b hb=>by
  have e:b=it:=by simpa using hb
  subst e
  obtain ⟨o,e,c,d⟩:=st
  exact ⟨o,e,fun v z=>by rw [d] at z;cases z⟩
 keep:=fun i h h' st k=>st.at fun o e=>k it (by simp) o e
 item:=by
  intro X hP hw hK hc i pins s σ H E I hf st hg
  subst hP hw hK
  obtain ⟨xs,x,hq,hx⟩:=hg
  obtain ⟨its,rv,p,hz⟩:=I.tuple hq
  obtain ⟨u,hu,ru⟩:=rv.get hx
  obtain ⟨f0,f1,f2,f3,f4,f5⟩:=hf it (by simp)
  refine wpAny_pyNext_tuple_item st (show s.heap.IsTuple a its.toArray from p) (x:=u) (by simpa using hu) fun h' st' sb=>?_
  have I1:Inv X pins σ H { s with heap:=h' }:=I.turned (t':=s.toks) (fun b o hb e=>(sb.2 b hb).trans e) f0 f1 f3 f4 f5
  obtain ⟨o,e,c,d⟩:=id st'
  exact ⟨u,rfl,vN (s:={ s with heap:=h' }) e c d (by decide) ⟨x,H,I1,ru,⟨rfl,fun ys hy=>by rw [I.pV hy hq];exact hx⟩,st',fun b hb=>(hf b hb).1⟩⟩
 done:=by
  intro X hP hw hK hc i pins s σ H E I hf st hg
  subst hP hw hK
  obtain ⟨xs,hq,hx⟩:=hg
  obtain ⟨its,rv,p,hz⟩:=I.tuple hq
  obtain ⟨f0,f1,f2,f3,f4,f5⟩:=hf it (by simp)
  have hl:=rv.length
  exact wpAny_pyNext_tuple_end (I.ok.hd hc) st (show s.heap.IsTuple a its.toArray from p) (by simp;omega) fun h' eb=>⟨rfl,I.turned (t':=s.toks) (fun b o hb e=>eb b o hb e) f0 f1 f3 f4 f5⟩
 self:=fun _ _ _ _ _ st h=>wpAny_pyIter_tupleiter st h
theorem uP {P:Program} {w:World} {K:PySem.W.Frag} {tg:Expr} (it:Addr) (lo:Int) (n:Nat):Turn P w K tg (IS lo n) [it] it (fun i h=>IsRangeIter h it (lo + (i:Nat) * 1) ((n:Int) - (i:Nat)) 1) where
 mem:=by simp
 obj:=fun i h st b hb=>by
  have e:b=it:=by simpa using hb
  subst e
  exact ⟨_,st,fun v z=>by
   have z':Data.fields _=Data.cell v:=z
   cases z'⟩
 keep:=fun i h h' st k=>k it (by simp) _ st
 item:=by
  intro X hP hw hK hc i pins s σ H E I hf st hg
  subst hP hw hK
  obtain ⟨f0,f1,f2,f3,f4,f5⟩:=hf it (by simp)
  have W:=Walks.range (prog:=X.prog) (w:=X.w) (I.ok.hd hc) it lo 1 n
  refine W.item i s _ _ hg st fun v h' tk hv st' kk=>?_
  obtain ⟨t,rfl⟩:=hv
  have I1:Inv X pins σ H { s with heap:=h',toks:=tk }:=I.turned (fun b o hb e=>kk b o (by simpa using hb) e) f0 f1 f3 f4 f5
  refine ⟨_,rfl,vN (s:={ s with heap:=h',toks:=tk }) (n := "range_iterator") st' rfl rfl (by decide) ⟨.int (lo + i),H,I1,⟨t,?_⟩,⟨rfl,rfl⟩,st',fun b hb=>(hf b hb).1⟩⟩
  rw [Int.mul_one]
 done:=by
  intro X hP hw hK hc i pins s σ H E I hf st hg
  subst hP hw hK
  obtain ⟨f0,f1,f2,f3,f4,f5⟩:=hf it (by simp)
  exact wpAny_pyNext_range_end (I.ok.hd hc) st (by have:n <= i:=hg;omega) fun h' eb=>⟨rfl,I.turned (t':=s.toks) (fun b o hb e=>eb b o hb e) f0 f1 f3 f4 f5⟩
 self:=fun _ _ _ _ _ st h=>wpAny_pyIter_rangeiter st h
end L2
namespace L2
open PySem PySem.Spec PyProof.Rows
section
variable {X:Cx} {tg:Expr}
def J0 (K:PySem.W.Frag) (tl:TE):TI:=fun σ H R=>tl σ H fun x H1=>∃ a,x=.ref a /\ (∃ xs,fF K H1 a xs) /\ R (Kh K a) H1
def K2 (K:PySem.W.Frag) (tl:TE):TI:=fun σ H R=>tl σ H fun x H1=>∃ a,x=.ref a /\ (∃ xs,dg K H1 a xs) /\ R (Lu K a) H1
theorem vn {l:Expr} {tl:TE} (hl:PE X l tl):PI X tg l (J0 X.K tl):=by
 intro pins s σ H R I h
 refine b9 (hl pins s σ H _ I h) fun v s1 ⟨x,H1,I1,r1,q1⟩=>?_
 obtain ⟨a,e,⟨xs,hq⟩,q⟩:=q1
 subst e
 cases r1
 obtain ⟨its,rv,p,hz⟩:=I1.list hq
 refine wpAny_pyIter_list p.isList ?_
 refine ⟨s1.heap.objs.size,[s1.heap.objs.size],_,_,H1,rfl,I1.kept (t':=s1.toks) fun b o e=>Heap.get?_push_of_some _ e,yM a _,⟨_,Heap.get?_push_size _ rfl,rfl,rfl⟩,fun b hb=>?_,q⟩
 have e:b=s1.heap.objs.size:=by simpa using hb
 subst e
 exact I1.z7 (Nat.le_refl _) (I1.hok.fresh (Nat.le_refl _))
theorem By {l:Expr} {tl:TE} (hl:PE X l tl):PI X tg l (K2 X.K tl):=by
 intro pins s σ H R I h
 refine b9 (hl pins s σ H _ I h) fun v s1 ⟨x,H1,I1,r1,q1⟩=>?_
 obtain ⟨a,e,⟨xs,hq⟩,q⟩:=q1
 subst e
 cases r1
 obtain ⟨its,rv,p,hz⟩:=I1.tuple hq
 refine wpAny_pyIter_tuple (show s1.heap.IsTuple a its.toArray from p) ?_
 refine ⟨s1.heap.objs.size,[s1.heap.objs.size],_,_,H1,rfl,I1.kept (t':=s1.toks) fun b o e=>Heap.get?_push_of_some _ e,uw a _,⟨_,Heap.get?_push_size _ rfl,rfl,rfl⟩,fun b hb=>?_,q⟩
 have e:b=s1.heap.objs.size:=by simpa using hb
 subst e
 exact I1.z7 (Nat.le_refl _) (I1.hok.fresh (Nat.le_refl _))
theorem sy {pins:List (Addr × Obj)} {σ:St} {H:Hp} {s:Shared} {R:It -> Hp -> Prop} {E:Value -> Shared -> Prop} {lo hi:Int} {t u v:Tok} {tk:Nat} (I:Inv X pins σ H s) (h1:-(2 ^ 62) <= lo) (h2:lo < 2 ^ 62) (h3:-(2 ^ 62) <= hi) (h4:hi < 2 ^ 62)
  (q:R (IS lo (hi - lo).toNat) H):wpAny (model X.prog X.w) X.A (pyIter (.ref s.heap.objs.size)) (LV X pins σ tg R) E { s with heap:=s.heap.push { cls:=.type "range",data:=.fields #[.int lo t,.int hi u,.int 1 v] },toks:=tk }:=by
 refine wpAny_pyIter_range (IsRange.new ..) (small_one h1 h2 h3 h4) ?_
 have I1:Inv X pins σ H { s with heap:=s.heap.push { cls:=.type "range",data:=.fields #[.int lo t,.int hi u,.int 1 v] },toks:=tk }:=I.kept fun b o e=>Heap.get?_push_of_some _ e
 refine ⟨(s.heap.push { cls:=.type "range",data:=.fields #[.int lo t,.int hi u,.int 1 v] }).objs.size,[(s.heap.push { cls:=.type "range",data:=.fields #[.int lo t,.int hi u,.int 1 v] }).objs.size],_,_,H,rfl,
  I1.kept (t':=tk) fun b o e=>Heap.get?_push_of_some _ e,uP _ lo (hi - lo).toNat,?_,fun b hb=>?_,q⟩
 ·have e1:lo + ((0:Nat):Int) * 1=lo:=by simp
  have e2:(((hi - lo).toNat:Nat):Int) - ((0:Nat):Int)=Builtin.Range.rangeSize lo hi 1:=by rw [rangeSize_one];split <;> omega
  show IsRangeIter _ _ (lo + ((0:Nat):Int) * 1) ((((hi - lo).toNat:Nat):Int) - ((0:Nat):Int)) 1
  rw [e1,e2]
  exact Heap.get?_push_size _ rfl
 ·have e:b=(s.heap.push { cls:=.type "range",data:=.fields #[.int lo t,.int hi u,.int 1 v] }).objs.size:=by simpa using hb
  subst e
  exact I1.z7 (Nat.le_refl _) (I1.hok.fresh (Nat.le_refl _))
def gZ (ta:TA):TI:=fun σ H R=>ta σ H fun vs H1=>∃ j:Int,vs=[.int j] /\ -(2 ^ 62) <= j /\ j < 2 ^ 62 /\ R (IS 0 j.toNat) H1
def fJ (ta:TA):TI:=fun σ H R=>ta σ H fun vs H1=>∃ i j:Int,vs=[.int i,.int j] /\ (-(2 ^ 62) <= i /\ i < 2 ^ 62 /\ -(2 ^ 62) <= j /\ j < 2 ^ 62) /\ R (IS i (j - i).toNat) H1
theorem yF {a:Expr} {ta:TA} {p pos:Pos} (hg:Gl X "range") (hm:X.mg "range" = none) (ha:PA X [a] ta) (hs:starEach [a] X.env=[(false,eval a X.env)]:=by rfl):PI X tg (.Call (.Name "range" p) [a] [] pos) (gZ ta):=by
 intro pins s σ H R I h
 refine Call_ (nL I hg hm boot_range (PyProof.Rows.callWith_type1 (b9 (ha pos pins s σ H _ I h) fun us s1 ⟨vs,H1,I1,r1,q1⟩=>?_) hs rfl))
 obtain ⟨j,e,q1,q2,q⟩:=q1
 subst e
 cases r1 with
 | cons r rr=>
  cases rr
  obtain ⟨t,rfl⟩:=r
  exact call_range_1 (sy I1 (by omega) (by omega) q1 q2 (by simpa using q))
theorem yz {a b:Expr} {ta:TA} {p pos:Pos} (hg:Gl X "range") (hm:X.mg "range" = none) (ha:PA X [a,b] ta) (hs:starEach [a,b] X.env=[(false,eval a X.env),(false,eval b X.env)]:=by rfl) (hs2:starEach [b] X.env=[(false,eval b X.env)]:=by rfl) :
  PI X tg (.Call (.Name "range" p) [a,b] [] pos) (fJ ta):=by
 intro pins s σ H R I h
 refine Call_ (nL I hg hm boot_range (PyProof.Rows.callWith_type1 (b9 (ha pos pins s σ H _ I h) fun us s1 ⟨vs,H1,I1,r1,q1⟩=>?_) (by rw [hs,hs2]) (by rw [hs2];rfl)))
 obtain ⟨i,j,e,⟨q1,q2,q3,q4⟩,q⟩:=q1
 subst e
 cases r1 with
 | cons r rr=>
  cases rr with
  | cons r' rr=>
   cases rr
   obtain ⟨t,rfl⟩:=r
   obtain ⟨t',rfl⟩:=r'
   exact call_range_2 (sy I1 q1 q2 q3 q4 q)
def K1 (wi:TI) (g:TG) (tb:TS):TS:=fun D σ H=>wi σ H fun J H1=>∃ W:Nat -> Nat -> St -> Hp -> Prop,(∃ m,W 0 m σ H1) /\ ∀ i m σ H,W i m σ H ->
 (J.stop i H /\ D.nx σ H) \/ (J.go i H /\ ∃ N:St -> Hp -> Prop,(∀ σ' H',N σ' H' -> ∃ m',m' < m /\ W (i + 1) m' σ' H') /\ ∀ x H',J.yld i H x H' -> g x σ H' fun σ2 H2=>tb { D with nx:=N,ct:=N,bk:=D.nx } σ2 H2)
def iQ (fp:List Addr) (h:Heap):List (Addr × Obj):=fp.filterMap fun b=>(h.get? b).map fun o=>(b,o)
theorem bW {fp:List Addr} {h:Heap} {b:Addr} {o:Obj} (hb:b ∈ fp) (e:h.get? b=some o):(b,o) ∈ iQ fp h:=List.mem_filterMap.mpr ⟨b,hb,by rw [e];rfl⟩
theorem zb {fp:List Addr} {h:Heap} {p:Addr × Obj} (hp:p ∈ iQ fp h):p.1 ∈ fp /\ h.get? p.1=some p.2:=by
 obtain ⟨b,hb,e⟩:=List.mem_filterMap.mp hp
 cases q:h.get? b with
 | none=>rw [q] at e;cases e
 | some o=>
  rw [q] at e
  have e':(b,o)=p:=Option.some.inj e
  subst e'
  exact ⟨hb,q⟩
theorem Inv.pinned {pins:List (Addr × Obj)} {σ:St} {H:Hp} {s:Shared} {fp:List Addr} (I:Inv X pins σ H s) (hf:∀ b ∈ fp,g9 X pins H b) (ho:∀ b ∈ fp,∃ o,s.heap.get? b=some o /\ ∀ v,o.data ≠ .cell v):Inv X (pins ++ iQ fp s.heap) σ H s:=
 I.vj fun p hp=>(List.mem_append.mp hp).elim (fun z=>I.pin p (List.mem_append_right _ z)) fun z=>by
  obtain ⟨hb,e⟩:=zb z
  obtain ⟨f0,f1,f2,_⟩:=hf p.1 hb
  obtain ⟨o,e',d⟩:=ho p.1 hb
  rw [e] at e';cases e'
  exact ⟨e,f0,f1,f2,d⟩
theorem Inv.fD {pins pl:List (Addr × Obj)} {σ:St} {H:Hp} {s:Shared} (I:Inv X (pins ++ pl) σ H s):Inv X pins σ H s:=I.vj fun p hp=>I.pin p (List.mem_append_right _ (List.mem_append_left _ hp))
theorem HB {iter:Expr} {body:List Stmt} {wi:TI} {g:TG} {tb:TS} {pos:Pos} (hp:PassesOwn (model X.prog X.w) X.A X.env X.xe) (hc:X.calm=true) (hi:PI X tg iter wi) (hg:PG X tg g) (hb:qd X body tb)
  (hs:∀ x,foldedSetIterable iter X.env x=pure x:=by intro _;rfl):PS X (.For tg iter body [] pos) (K1 wi g tb):=by
 intro pins s σ H D I h
 refine wpAny_For (b9 (hi pins s σ H _ I h) fun v s1 h1=>b9 h1 fun itv s2 h2=>?_) hs
 obtain ⟨it,fp,tn,J,H2,e,I2,T,st2,f2,W,⟨m0,w0⟩,turn⟩:=h2
 subst e
 have stat:∀ {H':Hp},(∀ b ∈ fp,H' b=none) -> ∀ b ∈ fp,g9 X pins H' b:=fun hn b hb=>⟨hn b hb,(f2 b hb).2⟩
 refine codeAny_forLoop_any (fun n s'=>∃ i σ' H',Inv X pins σ' H' s' /\ tn i s'.heap /\ (∀ b ∈ fp,H' b=none) /\ W i n σ' H') ?_ m0 ⟨0,σ,H2,I2,st2,fun b hb=>(f2 b hb).1,w0⟩
 rintro n s3 ⟨i,σ3,H3,I3,st3,fr3,w3⟩
 rcases turn i n σ3 H3 w3 with ⟨stop,qn⟩ | ⟨go,N,hN,step⟩
 ·refine wpAny_passesOwn hp (b9 (T.done X rfl rfl rfl hc i pins s3 σ3 H3 X.xe I3 (stat fr3) st3 stop) fun r s4 ⟨hr,I4⟩=>?_)
  subst hr
  exact wpAny_execs_nil ⟨σ3,H3,I4,qn⟩
 ·refine wpAny_passesOwn hp (b9 (T.item X rfl rfl rfl hc i pins s3 σ3 H3 X.xe I3 (stat fr3) st3 go) fun r s4 ⟨u,hr,h4⟩=>?_)
  subst hr
  refine wpAny_passesOwn hp (b9 h4 fun _ s5 ⟨x,H5,I5,r5,y5,st5,fr5⟩=>?_)
  have I5':=I5.pinned (stat fr5) (T.obj _ _ st5)
  refine wpAny_passesOwn hp (b9 (hg _ s5 σ3 H5 x u _ I5' r5 (step x H5 y5)) fun _ s6 ⟨σ6,H6,I6,q6⟩=>?_)
  refine wpAny_passesOwn hp (b9 (hb _ s6 σ6 H6 _ I6 q6) fun f s7 q7=>?_)
  have again:∀ {σ7:St} {H7:Hp},Inv X (pins ++ iQ fp s5.heap) σ7 H7 s7 -> N σ7 H7 -> ∃ m,m < n /\ ∃ i σ' H',Inv X pins σ' H' s7 /\ tn i s7.heap /\ (∀ b ∈ fp,H' b=none) /\ W i m σ' H':=fun {σ7 H7} I7 n7=>by
   obtain ⟨m',hm,w7⟩:=hN σ7 H7 n7
   refine ⟨m',hm,i + 1,σ7,H7,I7.fD,T.keep _ _ _ st5 fun b hb o e=>(I7.pin (b,o) (List.mem_append_right _ (List.mem_append_right _ (bW hb e)))).1,fun b hb=>?_,w7⟩
   obtain ⟨o,e,d⟩:=T.obj _ _ st5 b hb
   exact (I7.pin (b,o) (List.mem_append_right _ (List.mem_append_right _ (bW hb e)))).2.1
  cases f with
  | next=>obtain ⟨σ7,H7,I7,n7⟩:=q7;exact again I7 n7
  | cont=>obtain ⟨σ7,H7,I7,n7⟩:=q7;exact again I7 n7
  | brk=>obtain ⟨σ7,H7,I7,q7⟩:=q7;exact ⟨σ7,H7,I7.fD,q7⟩
  | ret v=>obtain ⟨x7,σ7,H7,I7,r7,q7⟩:=q7;exact ⟨x7,σ7,H7,I7.fD,r7,q7⟩
end
theorem kC {c:TT} {tb:TS} {D:Ends} {σ:St} {H:Hp} (Pv:St -> Hp -> Prop) (μ:St -> Hp -> Nat) (h0:Pv σ H)
  (hs:∀ σ H,Pv σ H -> c σ H fun b H1=>if b=true then tb { D with nx:=fun σ' H'=>Pv σ' H' /\ μ σ' H' < μ σ H,ct:=fun σ' H'=>Pv σ' H' /\ μ σ' H' < μ σ H,bk:=D.nx } σ H1 else D.nx σ H1)
  (mono:∀ σ H Q Q',(∀ b H1,Q b H1 -> Q' b H1) -> c σ H Q -> c σ H Q'):CP c tb D σ H:=by
 refine ⟨fun m σ H=>m=μ σ H /\ Pv σ H,⟨_,rfl,h0⟩,?_⟩
 rintro m σ H ⟨rfl,p⟩
 refine mono σ H _ _ (fun b H1 q=>?_) (hs σ H p)
 cases b with
 | true=>exact ⟨_,fun σ' H' ⟨p',l⟩=>⟨_,l,rfl,p'⟩,q⟩
 | false=>exact q
end L2
namespace L2
open PySem PySem.Spec PyProof.Rows
abbrev R2:=V -> V -> Hp -> VK -> Prop
def eW (X:Cx) (f:Value -> Value -> Sem Value) (r:R2):Prop:=
 ∀ (pins:List (Addr × Obj)) (s:Shared) (σ:St) (H:Hp) (x y:V) (v u:Value) (Q:VK),Inv X pins σ H s -> RelV x v -> RelV y u -> r x y H Q ->
  wpAny (model X.prog X.w) X.A (f v u) (EP X pins σ Q) X.xe s
def Km (X:Cx) (f:Value -> Sem Value) (r:V -> Hp -> VK -> Prop):Prop:=
 ∀ (pins:List (Addr × Obj)) (s:Shared) (σ:St) (H:Hp) (x:V) (v:Value) (Q:VK),Inv X pins σ H s -> RelV x v -> r x H Q ->
  wpAny (model X.prog X.w) X.A (f v) (EP X pins σ Q) X.xe s
def bD (X:Cx) (f:Value) (r:List V -> Hp -> VK -> Prop):Prop:=
 ∀ (pins:List (Addr × Obj)) (s:Shared) (σ:St) (H:Hp) (xs:List V) (us:List Value) (Q:VK),Inv X pins σ H s -> Vals xs us -> r xs H Q ->
  wpAny (model X.prog X.w) X.A (call f us) (EP X pins σ Q) X.xe s
def Lk (X:Cx) (r:V -> Hp -> (Bool -> Hp -> Prop) -> Prop):Prop:=
 ∀ (pins:List (Addr × Obj)) (s:Shared) (σ:St) (H:Hp) (x:V) (v:Value) (Q:Bool -> Hp -> Prop),Inv X pins σ H s -> RelV x v -> r x H Q ->
  wpAny (model X.prog X.w) X.A (truthy v) (TP X pins σ Q) X.xe s
def JN (r:R2) (ta tb:TE):TE:=fun σ H Q=>ta σ H fun x H1=>tb σ H1 fun y H2=>r x y H2 Q
def LK (r:V -> Hp -> VK -> Prop) (ta:TE):TE:=fun σ H Q=>ta σ H fun x H1=>r x H1 Q
def rI (C:Int -> Int -> Prop) (g:Int -> Int -> V):R2:=fun x y H Q=>∃ i j,x=.int i /\ y=.int j /\ C i j /\ Q (g i j) H
def Fd (g:Int -> Int -> V):R2:=fun x y H Q=>∃ i j,x=.int i /\ y=.int j /\ Q (g i j) H
def rU (g:Int -> V):V -> Hp -> VK -> Prop:=fun x H Q=>∃ i,x=.int i /\ Q (g i) H
section
variable {X:Cx} {a b c:Expr} {ta tb tc:TE} {pos:Pos}
theorem G6 (ha:PE X a ta) (hb:PE X b tb) {pins:List (Addr × Obj)} {s:Shared} {σ:St} {H:Hp} {R:V -> V -> Hp -> Prop} (I:Inv X pins σ H s)
  (h:ta σ H fun x H1=>tb σ H1 fun y H2=>R x y H2) {Q:Value -> Shared -> Prop} {f:Value -> Value -> Sem Value}
  (hf:∀ v u s2 x y H2,Inv X pins σ H2 s2 -> RelV x v -> RelV y u -> R x y H2 -> wpAny (model X.prog X.w) X.A (f v u) Q X.xe s2) :
  wpAny (model X.prog X.w) X.A (eval a X.env) (fun v s₁=>wpAny (model X.prog X.w) X.A (eval b X.env) (fun u s₂=>wpAny (model X.prog X.w) X.A (f v u) Q X.xe s₂) X.xe s₁) X.xe s:=by
 refine b9 (ha pins s σ H _ I h) fun v s1 ⟨x,H1,I1,r1,q1⟩=>?_
 refine b9 (hb pins s1 σ H1 _ I1 q1) fun u s2 ⟨y,H2,I2,r2,q2⟩=>?_
 exact hf v u s2 x y H2 I2 r1 r2 q2
theorem JC {op:Operator} {r:R2} (ho:eW X (binaryOp op) r) (ha:PE X a ta) (hb:PE X b tb):PE X (.BinOp a op b pos) (JN r ta tb):=by
 intro pins s σ H Q I h
 exact wpAny_BinOp (G6 ha hb I h fun v u s2 x y H2 I2 rx ry q=>ho pins s2 σ H2 x y v u Q I2 rx ry q)
theorem B5 {op:UnaryOp} {r:V -> Hp -> VK -> Prop} (ho:Km X (unaryOp op) r) (ha:PE X a ta):PE X (.UnaryOp op a pos) (LK r ta):=by
 intro pins s σ H Q I h
 exact UnaryOp_ (b9 (ha pins s σ H _ I h) fun v s1 ⟨x,H1,I1,r1,q1⟩=>ho pins s1 σ H1 x v Q I1 r1 q1)
theorem Kq {f:Value -> Value -> Sem Value} {C:Int -> Int -> Prop} {g:Int -> Int -> Int}
  (rule:∀ (i j:Int) (t u:Tok) (s:Shared) (Q:Value -> Shared -> Prop) (E:Value -> Shared -> Prop),C i j -> Q (.int (g i j) s.toks) { s with toks:=s.toks + 1 } -> wpAny (model X.prog X.w) X.A (f (.int i t) (.int j u)) Q E s) :
  eW X f (rI C fun i j=>.int (g i j)):=by
 intro pins s σ H x y v u Q I rx ry h
 obtain ⟨i,j,rfl,rfl,hc,q⟩:=h
 obtain ⟨t,rfl⟩:=rx
 obtain ⟨t',rfl⟩:=ry
 exact rule i j t t' s _ _ hc ⟨.int (g i j),H,I.tok _,⟨_,rfl⟩,q⟩
theorem JY {f:Value -> Value -> Sem Value} {g:Int -> Int -> Int}
  (rule:∀ (i j:Int) (t u:Tok) (s:Shared) (Q:Value -> Shared -> Prop) (E:Value -> Shared -> Prop),Q (.int (g i j) s.toks) { s with toks:=s.toks + 1 } -> wpAny (model X.prog X.w) X.A (f (.int i t) (.int j u)) Q E s) :
  eW X f (Fd fun i j=>.int (g i j)):=by
 intro pins s σ H x y v u Q I rx ry h
 obtain ⟨i,j,rfl,rfl,q⟩:=h
 obtain ⟨t,rfl⟩:=rx
 obtain ⟨t',rfl⟩:=ry
 exact rule i j t t' s _ _ ⟨.int (g i j),H,I.tok _,⟨_,rfl⟩,q⟩
theorem Ds {f:Value -> Value -> Sem Value} {g:Int -> Int -> Bool}
  (rule:∀ (i j:Int) (t u:Tok) (s:Shared) (Q:Value -> Shared -> Prop) (E:Value -> Shared -> Prop),Q (.bool (g i j)) s -> wpAny (model X.prog X.w) X.A (f (.int i t) (.int j u)) Q E s) :
  eW X f (Fd fun i j=>.bl (g i j)):=by
 intro pins s σ H x y v u Q I rx ry h
 obtain ⟨i,j,rfl,rfl,q⟩:=h
 obtain ⟨t,rfl⟩:=rx
 obtain ⟨t',rfl⟩:=ry
 exact rule i j t t' s _ _ ⟨.bl (g i j),H,I,rfl,q⟩
def Lj (i j:Int):Prop:=0 <= j /\ j <= 1000000 /\ i.natAbs < 2 ^ 64
def DG (i j:Int):Prop:=(-(2 ^ 64) < i /\ i < 2 ^ 64) \/ (-(2 ^ 64) < j /\ j < 2 ^ 64)
theorem DG.ok {i j:Int} (h:DG i j):IntMulOk i j:=by
 rcases h with ⟨h1,h2⟩ | ⟨h1,h2⟩
 ·exact .of_left (intBits_le_64 h1 h2)
 ·exact .of_right (intBits_le_64 h1 h2)
theorem Gf:eW X (binaryOp .Add) (Fd fun i j=>.int (i + j)):=JY fun _ _ _ _ _ _ _ q=>add_int q
theorem GQ:eW X (binaryOp .Sub) (Fd fun i j=>.int (i - j)):=JY fun _ _ _ _ _ _ _ q=>sub_int q
theorem GA:eW X (binaryOp .Mult) (rI DG fun i j=>.int (i * j)):=Kq fun _ _ _ _ _ _ _ hc q=>mul_int q hc.ok
theorem FT:eW X (binaryOp .Mod) (rI (fun _ j=>0 < j) fun i j=>.int (i % j)):=Kq fun i j _ _ _ _ _ hc q=>by
 have h1:(0:Int) < j:=hc
 exact mod_int' (by omega) (by rw [Int.fmod_eq_emod_of_nonneg i (by omega)];exact q)
theorem FQ:eW X (binaryOp .Pow) (rI Lj fun i j=>.int (i ^ j.toNat)):=Kq fun _ _ _ _ _ _ _ hc q=>pow_int_small hc.1 hc.2.1 hc.2.2 q
theorem L8 {f:Value -> Sem Value} {g:Int -> Int}
  (rule:∀ (i:Int) (t:Tok) (s:Shared) (Q:Value -> Shared -> Prop) (E:Value -> Shared -> Prop),Q (.int (g i) s.toks) { s with toks:=s.toks + 1 } -> wpAny (model X.prog X.w) X.A (f (.int i t)) Q E s) :
  Km X f (rU fun i=>.int (g i)):=by
 intro pins s σ H x v Q I rx h
 obtain ⟨i,rfl,q⟩:=h
 obtain ⟨t,rfl⟩:=rx
 exact rule i t s _ _ ⟨.int (g i),H,I.tok _,⟨_,rfl⟩,q⟩
theorem uQ:Km X (unaryOp .USub) (rU fun i=>.int (-i)):=L8 fun _ _ _ _ _ q=>neg_int q
end
section
variable {X:Cx} {a b c:Expr} {ta tb tc:TE} {pos:Pos}
theorem Hq {pins:List (Addr × Obj)} {σ:St} {H:Hp} {s:Shared} {Q:VK} {k k':Bool} (I:Inv X pins σ H s) (q:Q (.bl k) H) (e:k=k'):EP X pins σ Q (.bool k') s:=by
 subst e
 exact ⟨.bl k,H,I,rfl,q⟩
theorem Jx:eW X (compareOp .Lt) (Fd fun i j=>.bl (decide (i < j))):=Ds fun _ _ _ _ _ _ _ q=>lt_int q
theorem Jq:eW X (compareOp .LtE) (Fd fun i j=>.bl (decide (i <= j))):=Ds fun _ _ _ _ _ _ _ q=>le_int q
theorem JJ:eW X (compareOp .Gt) (Fd fun i j=>.bl (decide (j < i))):=Ds fun _ _ _ _ _ _ _ q=>gt_int q
theorem JU:eW X (compareOp .GtE) (Fd fun i j=>.bl (decide (j <= i))):=Ds fun _ _ _ _ _ _ _ q=>ge_int q
theorem DM:eW X (compareOp .IsNot) (fun x y H Q=>y=.non /\ Q (.bl (!decide (x=.non))) H):=by
 intro pins s σ H x y v u Q I rx ry h
 obtain ⟨rfl,q⟩:=h
 cases ry
 refine isnot_none_gen (Hq I q ?_)
 cases x <;> first
  | (cases rx;rfl)
  | (obtain ⟨t,rfl⟩:=rx;rfl)
theorem zj (b:Expr) {op:CmpOp} (h:op ≠ .In:=by decide) (h2:op ≠ .NotIn:=by decide):behindInMarks op b=false:=by
 have e1:(op == CmpOp.In)=false:=by cases op <;> first | rfl | exact absurd rfl h
 have e2:(op == CmpOp.NotIn)=false:=by cases op <;> first | rfl | exact absurd rfl h2
 cases b <;> simp [behindInMarks,e1,e2]
theorem C5 {op:CmpOp} {r:R2} (ho:eW X (compareOp op) r) (ha:PE X a ta) (hb:PE X b tb) (hm:behindInMarks op b=false):PE X (.Compare a [op] [b] pos) (JN r ta tb):=by
 intro pins s σ H Q I h
 exact wpAny_Compare1 (G6 ha hb I h fun v u s2 x y H2 I2 rx ry q=>ho pins s2 σ H2 x y v u Q I2 rx ry q) hm
def IU (t:TE):TT:=fun σ H Q=>t σ H fun x H'=>∃ k,x=.bl k /\ Q k H'
theorem Ej {op:CmpOp} {r:R2} (ho:eW X (compareOp op) r) (ha:PE X a ta) (hb:PE X b tb) (hm:behindInMarks op b=false):PT X (.Compare a [op] [b] pos) (IU (JN r ta tb)):=by
 intro pins s σ H Q I h
 refine wpAny_isTrue_Compare1 (b9 (ha pins s σ H _ I h) fun v s1 ⟨x,H1,I1,r1,q1⟩=>b9 (hb pins s1 σ H1 _ I1 q1) fun u s2 ⟨y,H2,I2,r2,q2⟩=>
  b9 (ho pins s2 σ H2 x y v u _ I2 r1 r2 q2) fun c s3 ⟨z,H3,I3,r3,k,e,q3⟩=>?_) hm
 subst e
 cases r3
 exact wpAny_truthy_bool ⟨H3,I3,q3⟩
def zu (r r':R2) (ta tb tc:TE):TE:=fun σ H Q=>ta σ H fun x H1=>tb σ H1 fun y H2=>r x y H2 fun z H3=>∃ k,z=.bl k /\
 (if k=true then tc σ H3 fun w' H4=>r' y w' H4 Q else Q (.bl false) H3)
theorem BE {op op':CmpOp} {r r':R2} (ho:eW X (compareOp op) r) (ho':eW X (compareOp op') r') (ha:PE X a ta) (hb:PE X b tb) (hc:PE X c tc)
  (hm:lastMarks [op,op'] [b,c]=false:=by with_unfolding_all rfl):PE X (.Compare a [op,op'] [b,c] pos) (zu r r' ta tb tc):=by
 intro pins s σ H Q I h
 refine Compare_chain (b9 (ha pins s σ H _ I h) fun v s1 ⟨x,H1,I1,r1,q1⟩=>chain_link (b9 (hb pins s1 σ H1 _ I1 q1) fun u s2 ⟨y,H2,I2,r2,q2⟩=>
  b9 (ho pins s2 σ H2 x y v u _ I2 r1 r2 q2) fun d s3 ⟨z,H3,I3,r3,k,e,q3⟩=>?_)) hm
 subst e
 cases r3
 refine wpAny_truthy_bool ?_
 cases k with
 | false=>exact ite_ff ⟨.bl false,H3,I3,rfl,q3⟩
 | true=>exact ite_tt (chain_last (b9 (hc pins s3 σ H3 _ I3 q3) fun w' s4 ⟨z',H4,I4,r4,q4⟩=>ho' pins s4 σ H4 y z' u w' Q I4 r2 r4 q4))
def Hs (K:PySem.W.Frag) (x:V) (H:Hp) (k:Bool):Prop:=
 match x with
 | .non=>k=false
 | .bl b=>k=b
 | .int i=>k=(i != 0)
 | .str y=>y.length <= sizeLine /\ k=((y.length:Int) != 0)
 | .byt y=>y.size <= sizeLine /\ k=((y.size:Int) != 0)
 | .ref p=>(∃ xs,fF K H p xs /\ k=!xs.isEmpty) \/ (∃ xs,dg K H p xs /\ k=!xs.isEmpty) \/ ∃ kvs,H p=some (.dK kvs) /\ k=!kvs.isEmpty
 | _=>False
theorem uC {κ:Type} {kvs:List (κ × V)} {vs:List (κ × Value)} (r:KV kvs vs):(!vs.isEmpty)=!kvs.isEmpty:=by
 cases r <;> rfl
theorem oX {xs:List V} {its:List Value} (r:Vals xs its):(!its.toArray.isEmpty)=!xs.isEmpty:=by
 cases r <;> simp
theorem jK:(sizeLine:Nat) < 2 ^ 63:=by rw [sizeLine_eq];decide
theorem HZ:Lk X (fun x H Q=>∃ k,Hs X.K x H k /\ Q k H):=by
 intro pins s σ H x v Q I rx h
 obtain ⟨k,e,q⟩:=h
 have hl:=jK
 have hs:sizeLine=16777216:=sizeLine_eq
 cases x with
 | non=>
  cases rx
  have e':k=false:=e
  subst e'
  exact truthy_none ⟨H,I,q⟩
 | bl b=>
  cases rx
  have e':k=b:=e
  subst e'
  exact wpAny_truthy_bool ⟨H,I,q⟩
 | int i=>
  obtain ⟨t,rfl⟩:=rx
  have e':k=(i != 0):=e
  subst e'
  exact PySem.P.truthy_int ⟨H,I,q⟩
 | str y=>
  obtain ⟨t,rfl⟩:=rx
  obtain ⟨hy,e'⟩:y.length <= sizeLine /\ k=((y.length:Int) != 0):=e
  subst e'
  exact PySem.P.truthy_str (by omega) ⟨H,I.tok _,q⟩
 | byt y=>
  obtain ⟨t,rfl⟩:=rx
  obtain ⟨hy,e'⟩:y.size <= sizeLine /\ k=((y.size:Int) != 0):=e
  subst e'
  exact PySem.W.truthy_bytes (by omega) ⟨H,I.tok _,q⟩
 | ref p=>
  cases rx
  have e':(∃ xs,fF X.K H p xs /\ k=!xs.isEmpty) \/ (∃ xs,dg X.K H p xs /\ k=!xs.isEmpty) \/ ∃ kvs,H p=some (.dK kvs) /\ k=!kvs.isEmpty:=e
  rcases e' with ⟨xs,hx,e'⟩ | ⟨xs,hx,e'⟩ | ⟨kvs,hx,e'⟩
  ·subst e'
   obtain ⟨its,r,pl,hz⟩:=I.list hx
   have hlen:=r.length
   exact wpAny_truthy_list pl.isList (by simp only [List.size_toArray];omega) ⟨H,I.tok _,by rw [oX r];exact q⟩
  ·subst e'
   obtain ⟨its,r,pl,hz⟩:=I.tuple hx
   have hlen:=r.length
   exact truthy_tuple pl (by simp only [List.size_toArray];omega) ⟨H,I.tok _,by rw [oX r];exact q⟩
  ·subst e'
   obtain ⟨hz,hS,vs,r,m⟩:kvs.length <= sizeLine /\ (p == sysModules)=false /\ ∃ vs,KV kvs vs /\ s.heap.DictOf (dh X.prog X.w) p vs:=I.hok p _ hx
   have hlen:kvs.length=vs.length:=Paired.length r
   exact wpAny_truthy_dict hS m (by omega) ⟨H,I.tok _,by rw [uC r];exact q⟩
 | _=>exact (show False from e).elim
theorem AK (ha:PE X a ta) (he:∀ whole,isTrue a X.env whole=(do let v <- whole;standAt a.pos;holding [v] (truthy v))) :
  PT X a (fun σ H Q=>ta σ H fun x H'=>∃ k,Hs X.K x H' k /\ Q k H'):=by
 intro pins s σ H Q I h
 exact isTrue_plain (b9 (ha pins s σ H _ I h) fun v s1 ⟨x,H1,I1,r1,q1⟩=>HZ pins s1 σ H1 x v Q I1 r1 q1) (he _)
theorem uB:eW X (binaryOp .Add) (fun x y H Q=>∃ i j,x=.str i /\ y=.str j /\ i.length + j.length <= sizeLine /\ Q (.str (i ++ j)) H):=by
 intro pins s σ H x y v u Q I rx ry h
 obtain ⟨i,j,rfl,rfl,hz,q⟩:=h
 obtain ⟨t,rfl⟩:=rx
 obtain ⟨t',rfl⟩:=ry
 exact add_str (fun t' tk=>⟨.str (i ++ j),H,I.tok _,⟨_,rfl⟩,q⟩) hz
theorem vals1 {x:V} {us:List Value} (r:Vals [x] us):∃ u,us=[u] /\ RelV x u:=by
 cases r with
 | cons r1 r2=>cases r2;exact ⟨_,rfl,r1⟩
theorem vals2 {x y:V} {us:List Value} (r:Vals [x,y] us):∃ u w',us=[u,w'] /\ RelV x u /\ RelV y w':=by
 cases r with
 | cons r1 r2=>
  cases r2 with
  | cons r3 r4=>cases r4;exact ⟨_,_,rfl,r1,r3⟩
theorem Aw:bD X (.builtin "abs") (fun xs H Q=>∃ i,xs=[.int i] /\ Q (.int (if i < 0 then -i else i)) H):=by
 intro pins s σ H xs us Q I r h
 obtain ⟨i,rfl,q⟩:=h
 obtain ⟨u,rfl,t,rfl⟩:=vals1 r
 exact call_abs_int fun u tk=>⟨.int (if i < 0 then -i else i),H,I.tok _,⟨_,rfl⟩,q⟩
theorem yG (hc:X.calm=true):bD X (.builtin "max") (fun xs H Q=>∃ i j,xs=[.int i,.int j] /\ Q (.int (if j > i then j else i)) H):=by
 intro pins s σ H xs us Q I r h
 obtain ⟨i,j,rfl,q⟩:=h
 obtain ⟨u,w',rfl,⟨t,rfl⟩,⟨t',rfl⟩⟩:=vals2 r
 refine max_two_ints (I.ok.hd hc) fun h' tk k=>⟨_,H,I.kept k,?_,q⟩
 by_cases hj:j > i
 ·rw [if_pos hj,if_pos hj];exact ⟨_,rfl⟩
 ·rw [if_neg hj,if_neg hj];exact ⟨_,rfl⟩
theorem yX (hc:X.calm=true):bD X (.builtin "min") (fun xs H Q=>∃ i j,xs=[.int i,.int j] /\ Q (.int (if j < i then j else i)) H):=by
 intro pins s σ H xs us Q I r h
 obtain ⟨i,j,rfl,q⟩:=h
 obtain ⟨u,w',rfl,⟨t,rfl⟩,⟨t',rfl⟩⟩:=vals2 r
 refine min_two_ints (I.ok.hd hc) fun h' tk k=>⟨_,H,I.kept k,?_,q⟩
 by_cases hj:j < i
 ·rw [if_pos hj,if_pos hj];exact ⟨_,rfl⟩
 ·rw [if_neg hj,if_neg hj];exact ⟨_,rfl⟩
theorem qh:bD X (.type "int") (fun xs H Q=>(∃ i,xs=[.int i] /\ Q (.int i) H) \/ ∃ k,xs=[.bl k] /\ Q (.int (if k then 1 else 0)) H):=by
 intro pins s σ H xs us Q I r h
 rcases h with ⟨i,rfl,q⟩ | ⟨k,rfl,q⟩
 ·obtain ⟨u,rfl,t,rfl⟩:=vals1 r
  exact call_int_int ⟨.int i,H,I,⟨_,rfl⟩,q⟩
 ·obtain ⟨u,rfl,r1⟩:=vals1 r
  cases r1
  exact call_int_bool ⟨.int (if k then 1 else 0),H,I.tok _,⟨_,rfl⟩,q⟩
def K0 (K:PySem.W.Frag) (x:V) (H:Hp) (n:Nat):Prop:=
 match x with
 | .str y=>y.length <= sizeLine /\ n=y.length
 | .byt y=>y.size <= sizeLine /\ n=y.size
 | .ref p=>(∃ xs,fF K H p xs /\ n=xs.length) \/ ∃ xs,dg K H p xs /\ n=xs.length
 | _=>False
theorem zg:bD X (.builtin "len") (fun xs H Q=>∃ x n,xs=[x] /\ K0 X.K x H n /\ Q (.int n) H):=by
 intro pins s σ H xs us Q I r h
 obtain ⟨x,n,rfl,e,q⟩:=h
 obtain ⟨u,rfl,rx⟩:=vals1 r
 have hl:=jK
 have hs:sizeLine=16777216:=sizeLine_eq
 cases x with
 | str y=>
  obtain ⟨t,rfl⟩:=rx
  obtain ⟨hy,e'⟩:y.length <= sizeLine /\ n=y.length:=e
  subst e'
  exact len_str (by omega) ⟨.int _,H,I.tok _,⟨_,rfl⟩,q⟩
 | byt y=>
  obtain ⟨t,rfl⟩:=rx
  obtain ⟨hy,e'⟩:y.size <= sizeLine /\ n=y.size:=e
  subst e'
  exact PySem.W.len_bytes (by omega) ⟨.int _,H,I.tok _,⟨_,rfl⟩,q⟩
 | ref p=>
  cases rx
  have e':(∃ xs,fF X.K H p xs /\ n=xs.length) \/ ∃ xs,dg X.K H p xs /\ n=xs.length:=e
  rcases e' with ⟨xs,hx,e'⟩ | ⟨xs,hx,e'⟩
  ·subst e'
   obtain ⟨its,r',pl,hz⟩:=I.list hx
   have hlen:=r'.length
   exact Calls.call_len_list pl.isList (by simp only [List.size_toArray];omega) ⟨.int xs.length,H,I.tok _,⟨_,by simp only [List.size_toArray];rw [hlen]⟩,q⟩
  ·subst e'
   obtain ⟨its,r',pl,hz⟩:=I.tuple hx
   have hlen:=r'.length
   exact len_tuple pl (by simp only [List.size_toArray];omega) ⟨.int xs.length,H,I.tok _,⟨_,by simp only [List.size_toArray];rw [hlen]⟩,q⟩
 | _=>exact (show False from e).elim
end
end L2
namespace L2
open PySem PySem.Spec PyProof.Rows
structure ObjM (h:Heap) (x dx C:Addr) (mA:Str -> Option Value):Prop where
 obj:h.get? x=some (PySem.W.instObj C dx)
 ns:h.Ns1 dx mA
 ne:dx ≠ x
theorem yx {h:Heap} {dx:Addr} {mA:Str -> Option Value} (n:h.Ns1 dx mA):∃ od,h.get? dx=some od /\ ∀ name,PySem.W.lookIn name od=some (mA name):=by
 obtain ⟨o,es,ep,ho,hd,hk,_,hm⟩:=n
 refine ⟨o,ho,fun name=>?_⟩
 have e:=hm name
 unfold nsFind findBy at e
 rw [<- Array.find?_toList] at e
 unfold PySem.W.lookIn
 rw [hd]
 dsimp only
 split
 ·rename_i y q
  rw [q] at e
  exact congrArg some e
 ·rename_i q
  rw [q] at e
  have a:es.toList.any (·.refKey)=false:=by
   rw [List.any_eq_false]
   intro y hy
   obtain ⟨z,t,hkey⟩:=hk y (Array.mem_toList_iff.mp hy)
   simp [DictEntry.refKey,hkey]
  have a':¬ es.toList.any (·.refKey)=true:=by rw [a];exact Bool.false_ne_true
  rw [if_neg a']
  exact congrArg some e
theorem ObjM.look {h:Heap} {x dx C:Addr} {mA:Str -> Option Value} (I:ObjM h x dx C mA):∃ od,PySem.W.InstAt h x (PySem.W.instObj C dx) C (some od) /\ ∀ name,PySem.W.lookIn name od=some (mA name):=
 let ⟨od,ho,hl⟩:=yx I.ns
 ⟨od,⟨I.obj,rfl,rfl,ho⟩,hl⟩
section
variable {prog:Program} {w:World} {A:Around} {E:Value -> Shared -> Prop} {s:Shared} {K:PySem.W.Frag} {x dx C f:Addr} {mA:Str -> Option Value} {name:Str} {v:Value}
end
theorem oh.some_of {v:V} {o:Option Value} (r:oh (some v) o):∃ u,o=some u /\ RelV v u:=by
 cases o with
 | none=>exact (show False from r).elim
 | some u=>exact ⟨u,rfl,r⟩
section
variable {P:Program} {w:World} {H H':Hp} {h h':Heap} {a C dx:Addr} {fs fs':List (Str × V)}
theorem DC (hok:jt P w H h) (e:H a=some (.ins C dx fs)):∃ mA,ObjM h a dx C mA /\ (∀ f,oh (fs.lookup f) (mA f)) /\ PySem.Within mA (fs.map (·.1)) /\ fs.length <= 1000 /\ H dx=some (.own a):=by
 obtain ⟨d,z,ne,ob,mA,n,r,q⟩:=(show cA P w H h a (.ins C dx fs) from hok a _ e)
 exact ⟨mA,⟨ob,n,ne⟩,r,q,z,d⟩
end
structure Cls (K:PySem.W.Frag) (C:Addr):Prop where
 pg:PySem.W.plainGet K C Str.empty=true
 hd:PySem.W.hasDictIn K C=true
 po:PySem.W.plainOver K C=true
 sa:PySem.W.findIn K (.ref C) "__setattr__" = some (some (.builtin "object.__setattr__"))
theorem Cls.get {K:PySem.W.Frag} {C:Addr} (c:Cls K C) (f:Str):PySem.W.plainGet K C f=true:=c.pg
structure Con (K:PySem.W.Frag) (C:Addr) (f:Str) (v:V) (u:Value):Prop where
 at_:PySem.W.findIn K (.ref C) f=some (some u)
 rel:RelV v u
 get:PySem.W.specialIn K u "__get__" = some none
 cp:PySem.W.copiedNames.contains f=false
structure Meth (K:PySem.W.Frag) (C:Addr) (m:Str) (f:Addr):Prop where
 at_:PySem.W.findIn K (.ref C) m=some (some (.ref f))
 fn:PySem.W.isFn K (.ref f)=true
 kp:PySem.W.keepIn K (.ref f)=true
section
variable {X:Cx} {pins:List (Addr × Obj)} {σ:St} {H:Hp} {s:Shared} {a C dx:Addr} {fs:List (Str × V)} {f:Str} {v:V} {A:Around} {E:Value -> Shared -> Prop}
end
section
variable {X:Cx} {o e value:Expr} {f:Str} {pos pos' tpos:Pos} {ta tv:TE}
end
section
variable {X:Cx} {pins:List (Addr × Obj)} {σ:St} {H:Hp} {s:Shared} {A:Around} {E:Value -> Shared -> Prop} {Q:Value -> Shared -> Prop} {c:Value} {b:Bool}
inductive TyOf (K:PySem.W.Frag) (H:Hp):V -> Value -> Prop where
 | non:TyOf K H .non (.type "NoneType")
 | bl (x:Bool):TyOf K H (.bl x) (.type "bool")
 | int (i:Int):TyOf K H (.int i) (.type "int")
 | str (x:Str):TyOf K H (.str x) (.type "str")
 | flt (x:UInt64):TyOf K H (.flt x) (.type "float")
 | lst {a:Addr} {xs:List V} (e:H a=some (.lst xs)):TyOf K H (.ref a) (.type "list")
 | frz {a:Addr} {o:Obj} {xs:List V} (e:H a=some (.frz o (.lst xs))):TyOf K H (.ref a) (.type "list")
 | tup {a:Addr} {xs:List V} (e:H a=some (.tup xs)):TyOf K H (.ref a) (.type "tuple")
 | dK {a:Addr} {kvs:List (Key × V)} (e:H a=some (.dK kvs)):TyOf K H (.ref a) (.type "dict")
 | dT {a:Addr} {kvs:List (List Key × V)} (e:H a=some (.dT kvs)):TyOf K H (.ref a) (.type "dict")
 | ins {a C dx:Addr} {fs:List (Str × V)} (e:H a=some (.ins C dx fs)) (cl:Cls K C) (ha:PySem.W.findIn K (.ref C) "__class__" = some (some (.builtin "object.__class__")))
   (hn:PySem.W.specialIn K (.builtin "object.__class__") "__get__" = some (some (.builtin "getset_descriptor.__get__"))) (htk:PySem.W.takesIn K (.builtin "object.__class__")=some true)
   (hm:PySem.W.mroIn K C (.type "object")=some true):TyOf K H (.ref a) (.ref C)
theorem yL {x:V} {u t:Value} (I:Inv X pins σ H s) (rx:RelV x u) (ty:TyOf X.K H x t) (e:PySem.W.kitOne X.K t c=some b) (h:∀ tk,Q (.bool b) { s with toks:=tk }) :
  wpAny (model X.prog X.w) A (call (.builtin "isinstance") [u,c]) Q E s:=by
 cases ty with
 | non=>cases (show u=Value.none from rx);exact PySem.W.kia_one PySem.W.kitx_none I.mO True.intro e (fun z=>nomatch z) h
 | bl y=>cases (show u=Value.bool y from rx);exact PySem.W.kia_one PySem.W.kitx_bool I.mO True.intro e (fun z=>nomatch z) h
 | int i=>obtain ⟨t,q⟩:=(show ∃ t,u=Value.int i t from rx);cases q;exact PySem.W.kia_one PySem.W.kitx_int I.mO True.intro e (fun z=>nomatch z) h
 | str y=>obtain ⟨t,q⟩:=(show ∃ t,u=Value.str y t from rx);cases q;exact PySem.W.kia_one PySem.W.kitx_str I.mO True.intro e (fun z=>nomatch z) h
 | flt y=>obtain ⟨t,q⟩:=(show ∃ t,u=Value.float y t from rx);cases q;exact PySem.W.kia_one PySem.W.kitx_float I.mO True.intro e (fun z=>nomatch z) h
 | @lst a xs ea=>
  cases (show u=Value.ref a from rx)
  obtain ⟨_,_,n,_,h1⟩:=(show cA X.prog X.w H s.heap a (.lst xs) from I.hok a _ ea)
  exact PySem.W.kia_one PySem.W.kitx_list I.mO ⟨_,h1,rfl⟩ e (fun z=>nomatch z) h
 | @frz a ob xs ea=>
  cases (show u=Value.ref a from rx)
  obtain ⟨_,_,_,n,_,h1⟩:=(show cA X.prog X.w H s.heap a (.frz ob (.lst xs)) from I.hok a _ ea)
  exact PySem.W.kia_one PySem.W.kitx_list I.mO ⟨_,h1,rfl⟩ e (fun z=>nomatch z) h
 | @tup a xs ea=>
  cases (show u=Value.ref a from rx)
  obtain ⟨_,_,_,p⟩:=(show cA X.prog X.w H s.heap a (.tup xs) from I.hok a _ ea)
  obtain ⟨o,h1,h2,_⟩:=p
  exact PySem.W.kia_one PySem.W.kitx_tuple I.mO ⟨o,h1,h2⟩ e (fun z=>nomatch z) h
 | @dK a kvs ea=>
  cases (show u=Value.ref a from rx)
  obtain ⟨_,_,vs,_,p⟩:=(show cA X.prog X.w H s.heap a (.dK kvs) from I.hok a _ ea)
  obtain ⟨o,es,ep,h1,h2,_⟩:=p
  exact PySem.W.kia_one PySem.W.kitx_dict I.mO ⟨o,h1,h2.1⟩ e (fun z=>nomatch z) h
 | @dT a kvs ea=>
  cases (show u=Value.ref a from rx)
  obtain ⟨_,_,xs,_,o,es,ep,h1,h2,_⟩:=(show cA X.prog X.w H s.heap a (.dT kvs) from I.hok a _ ea)
  exact PySem.W.kia_one PySem.W.kitx_dict I.mO ⟨o,h1,h2.1⟩ e (fun z=>nomatch z) h
 | @ins a C dx fs ea cl ha hn htk hm=>
  cases (show u=Value.ref a from rx)
  obtain ⟨mA,O,_⟩:=DC I.hok ea
  obtain ⟨od,J,_⟩:=O.look
  exact PySem.W.kia_one (PySem.W.kitx_own (cl.get _) cl.hd ha hn htk hm) I.mO J e (fun z=>nomatch z) h
end
end L2
namespace L2
open PySem PySem.Spec PyProof.Rows
structure Room (k:Nat) (A:Around):Prop where
 hd:A.handled=none
 dp:A.depth + 3 * k + 5 < recursionLimit
 un:A.units + 16 * k + 200 < cLine
theorem Room.mono {j k:Nat} {A:Around} (r:Room k A) (h:j <= k):Room j A:=⟨r.hd,by have:=r.dp;omega,by have:=r.un;omega⟩
theorem Room.deeper {k:Nat} {A:Around} (r:Room (k + 1) A) (env:Env):Room k (A.deeper env):=
 ⟨r.hd,by have:=r.dp;show A.depth + 1 + 3 * k + 5 < _;omega,by have:=r.un;show A.units + 3 + 16 * k + 200 < _;omega⟩
theorem Room.depth {k:Nat} {A:Around} (r:Room k A):A.depth < recursionLimit:=by have:=r.dp;omega
theorem Room.units {k:Nat} {A:Around} (r:Room k A):A.units + 64 < cLine:=by have:=r.un;omega
def KH:TA:=fun _ H Q=>Q [] H
def J5 (ta:TE) (tr:TA):TA:=fun σ H Q=>ta σ H fun x H1=>tr σ H1 fun xs H2=>Q (x :: xs) H2
section
variable {X:Cx} {e:Expr} {es:List Expr} {te:TE} {t:TA} {pos:Pos}
theorem lF:PA X [] KH:=fun _ _ _ _ H Q I h=>Calls.spliced_nil ⟨[],H,I,.nil,h⟩
theorem gu (ha:PE X e te) (hr:PA X es t) (hs:starEach (e :: es) X.env=(false,eval e X.env) :: starEach es X.env:=by rfl):PA X (e :: es) (J5 te t):=by
 intro pos pins s σ H Q I h
 rw [hs]
 show wpAny _ _ (spliced ((false,eval e X.env) :: backTo pos (starEach es X.env))) _ _ s
 refine Calls.spliced_cons (b9 (ha pins s σ H _ I h) fun u s1 ⟨x,H1,I1,r1,q1⟩=>?_)
 exact b9 (hr pos pins s1 σ H1 _ I1 q1) fun us s2 ⟨xs,H2,I2,r2,q2⟩=>⟨x :: xs,H2,I2,.cons r1 r2,q2⟩
def Lw (t:TA):TE:=fun σ H Q=>t σ H fun xs H1=>xs.length <= sizeLine /\ ∀ p,H1 p=none -> Q (.ref p) (upd H1 p (.tup xs))
def Lm (t:TA):TE:=fun σ H Q=>t σ H fun xs H1=>xs.length <= sizeLine /\ ∀ p,H1 p=none -> Q (.ref p) (upd H1 p (.lst xs))
theorem HE {x1} (h:PA X es t):PE X (.Tuple es x1 pos) (Lw t):=by
 intro pins s σ H Q I hq
 refine wpAny_Tuple_spliced (b9 (h pos pins s σ H _ I hq) fun us s1 ⟨xs,H1,I1,r,z,q⟩=>⟨by rw [<- r.length];exact z,?_⟩)
 have hf:H1 s1.heap.objs.size=none:=I1.hok.fresh (Nat.le_refl _)
 refine ⟨.ref s1.heap.objs.size,upd H1 s1.heap.objs.size (.tup xs),I1.laid (t':=s1.toks) (fun b u e=>Heap.get?_push_of_some _ e) (Nat.le_refl _) ?_,rfl,q _ hf⟩
 exact ⟨z,us,r,⟨_,Heap.get?_push_size _ rfl,rfl,rfl,_,rfl⟩⟩
theorem FU (h:PA X es t):PE X (.List es pos) (Lm t):=by
 intro pins s σ H Q I hq
 refine wpAny_List_spliced (b9 (h pos pins s σ H _ I hq) fun us s1 ⟨xs,H1,I1,r,z,q⟩=>⟨by rw [<- r.length];exact z,?_⟩)
 have hf:H1 s1.heap.objs.size=none:=I1.hok.fresh (Nat.le_refl _)
 refine ⟨.ref s1.heap.objs.size,upd H1 s1.heap.objs.size (.lst xs),I1.laid (t':=s1.toks) (fun b u e=>Heap.get?_push_of_some _ e) (Nat.le_refl _) ?_,rfl,q _ hf⟩
 exact ⟨z,us,0,r,Heap.get?_push_size _ rfl⟩
end
abbrev Sp:=List V -> Hp -> VK -> XK -> Prop
abbrev zd:=List Env -> Hp -> Shared -> XK -> Value -> Shared -> Prop
structure Env0 (P:Program) (w:World) (K:PySem.W.Frag) (mg:Str -> Option Value) (base:Heap) (A:Around) (outer:List Env) (s:Shared) (H:Hp):Prop where
 frames:A.frames=some outer
 mod:Mod K mg base
 bs:∀ b o,base.get? b=some o -> s.heap.get? b=some o /\ H b=none
 bsz:base.objs.size <= s.heap.objs.size
 iR:s.heap.FunFrames base outer
 frf:∀ b ∈ frs outer,H b=none
 hok:jt P w H s.heap
 bare:AllBare s.gens
def CE (outer:List Env) (P:Program) (w:World) (H:Hp) (s:Shared) (Q:VK) (u:Value) (s':Shared):Prop:=
 ∃ v H',s'.os=s.os /\ AllBare s'.gens /\ Un (frs outer) [] H H' s.heap s'.heap /\ jt P w H' s'.heap /\ RelV v u /\ Q v H'
def CR (CX:zd) (outer:List Env) (P:Program) (w:World) (H:Hp) (s:Shared) (Q:VK) (E:XK) (r:Result) (s':Shared):Prop:=
 match r with
 | .ok (.ret u)=>CE outer P w H s Q u s'
 | .ok _=>False
 | .error e=>CX outer H s E e s'
structure FnOk (P:Program) (w:World) (K:PySem.W.Frag) (mg:Str -> Option Value) (base:Heap) (CX:zd) (k:Nat) (f:Addr) (fd:FuncData) (ps:List Str) (sp:Sp):Prop where
 len:∀ vs H Q E,sp vs H Q E -> vs.length=ps.length
 run:∀ (A:Around) (outer:List Env) (s:Shared) (H:Hp) (args:Args) (us:List Value) (vs:List V) (Q:VK) (E:XK),Room k A -> Env0 P w K mg base A outer s H -> BindsTo s fd args (ps.zip us) -> Vals vs us -> sp vs H Q E ->
  codeAny (model P w) A (.call (.ref f) args) (CR CX outer P w H s Q E) s
section
variable {X:Cx} {pins:List (Addr × Obj)} {σ:St} {H:Hp} {s s':Shared}
theorem Inv.JW (I:Inv X pins σ H s):Env0 X.prog X.w X.K X.mg X.base X.A X.stack s H:=
 ⟨I.ok.frames,I.ok.mod,I.bs,Nat.le_trans I.ok.bsz I.sz,I.stack,I.mZ,I.hok,I.bare⟩
theorem Inv.after {Q:VK} {u:Value} (I:Inv X pins σ H s) (h:CE X.stack X.prog X.w H s Q u s'):EP X pins σ Q u s':=by
 obtain ⟨v,H',os,bare,un,hok,r,q⟩:=h
 obtain ⟨hh,g,d,t,os'⟩:=s'
 obtain rfl:os'=s.os:=os
 exact ⟨v,H',I.call (h':=hh) (g':=g) (d':=d) (t':=t) (ch:=[]) un hok bare (fun b z=>absurd z (by simp)),r,q⟩
end
def EI (sp:Sp) (dvs:List V) (E:XK) (t:TA):TE:=fun σ H Q=>t σ H fun vs H1=>sp (vs ++ dvs) H1 Q E
def Binds (K:PySem.W.Frag) (fd:FuncData) (ps:List Str) (ds:List Value):Prop:=
 ∀ (s:Shared) (us:List Value),K.In s.heap -> (us ++ ds).length=ps.length -> BindsTo s fd ⟨us,[]⟩ (ps.zip (us ++ ds))
theorem Binds.all {K:PySem.W.Frag} {fd:FuncData} {ps:List Str} (h:∀ us:List Value,us.length=ps.length -> bindArgs fd ⟨us,[]⟩=pure (ps.zip us)):Binds K fd ps []:=fun s us _ hl=>by
 rw [List.append_nil] at hl ⊢
 exact .of_eq (h us hl)
def Passes (CX:zd) (X:Cx) (E:XK):Prop:=∀ (pins:List (Addr × Obj)) (σ:St) (H:Hp) (s:Shared) (e:Value) (s':Shared),Inv X pins σ H s -> CX X.stack H s E e s' -> X.xe e s'
section
variable {X:Cx} {CX:zd} {k:Nat} {f C:Addr} {fd:FuncData} {ps:List Str} {sp:Sp} {dvs:List V} {ds:List Value} {E:XK} {x m:Str} {p pos apos:Pos} {e o:Expr} {es:List Expr} {ta:TE} {t:TA}
theorem GL {pins:List (Addr × Obj)} {σ:St} {H:Hp} {s:Shared} {Q:VK} {us:List Value} {vs:List V} (F:FnOk X.prog X.w X.K X.mg X.base CX k f fd ps sp) (hr:Room k X.A) (hb:Binds X.K fd ps ds) (hd:Vals dvs ds) (hx:Passes CX X E)
  (I:Inv X pins σ H s) (r:Vals vs us) (h:sp (vs ++ dvs) H Q E):wpAny (model X.prog X.w) X.A (call (.ref f) us) (EP X pins σ Q) X.xe s:=by
 have r2:Vals (vs ++ dvs) (us ++ ds):=r.append hd
 have hl:(us ++ ds).length=ps.length:=by rw [<- r2.length];exact F.len _ _ _ _ h
 refine wpAny_call (codeAny_mono (F.run X.A X.stack s H ⟨us,[]⟩ (us ++ ds) (vs ++ dvs) Q E hr I.JW (hb s us I.mO hl) r2 h) fun r s' hq=>?_)
 cases r with
 | error e=>exact hx pins σ H s e s' I hq
 | ok fl=>
  cases fl with
  | ret u=>exact I.after hq
  | next=>exact False.elim hq
  | brk=>exact False.elim hq
  | cont=>exact False.elim hq
theorem xO (F:FnOk X.prog X.w X.K X.mg X.base CX k f fd ps sp) (hr:Room k X.A) (hg:Gl X x) (hm:X.mg x=some (.ref f)) (hk:PySem.W.keepIn X.K (.ref f)=true) (hb:Binds X.K fd ps ds) (hd:Vals dvs ds) (hx:Passes CX X E)
  (ha:PA X (e :: es) t) (hdb:(x == ("__debug__" : Str))=false:=by decide) (he:starEach (e :: es) X.env=(false,eval e X.env) :: starEach es X.env:=by rfl) (hpl:(backTo pos (starEach es X.env)).any (·.1)=false:=by rfl) :
  PE X (.Call (.Name x p) (e :: es) [] pos) (EI sp dvs E t):=by
 intro pins s σ H Q I h
 refine wpAny_Call_Name_kw (kB I hg hm ?_ hdb)
 refine PySem.W.callWith_K (h₀:=X.base) I.ok.mod.kin hk (b9 (ha pos pins s σ H _ I h) fun us s1 ⟨vs,H1,I1,r,q⟩=>⟨I1.mO,?_⟩) he hpl
 exact GL F hr hb hd hx I1 r q
structure Mk (K:PySem.W.Frag) (C f:Addr):Prop where
 makes:PySem.W.makesIn K C=true
 init:PySem.W.findIn K (.ref C) "__init__" = some (some (.ref f))
 fn:PySem.W.isFn K (.ref f)=true
 kp:PySem.W.keepIn K (.ref C)=true
end
section
variable {X:Cx} {CX:zd} {k:Nat} {f C:Addr} {fd:FuncData} {ps ks:List Str} {sp:Sp} {E:XK} {x m:Str} {p pos apos kpos:Pos} {e o:Expr} {es:List Expr} {kws:List Keyword} {te ta:TE} {t tk:TA} {nm:Option Str}
structure KBinds (K:PySem.W.Frag) (fd:FuncData) (ps ks:List Str) (g:List Value -> List Value -> List Value) (gV:List V -> List V -> List V):Prop where
 to:∀ (s:Shared) (us ws:List Value),K.In s.heap -> (g us ws).length=ps.length -> BindsTo s fd ⟨us,ks.zip ws⟩ (ps.zip (g us ws))
 rel:∀ {vs:List V} {us:List Value} {zs:List V} {ws:List Value},Vals vs us -> Vals zs ws -> Vals (gV vs zs) (g us ws)
variable {g:List Value -> List Value -> List Value} {gV:List V -> List V -> List V}
end
structure FnScope (N P:List Str) (sc:Scope):Prop where
 kind:sc.kind=.function
 co:sc.isCoroutine=false
 gen:sc.isGenerator=false
 nd:N.Nodup
 pre:N.take P.length=P
 par:∀ x ∈ P,sc.names.lookup x=some .local \/ sc.names.lookup x=some .cell
 nofree:∀ y ∈ sc.names,y.2 ≠ .free
theorem pS {kindOf:Str -> Option NameKind} {x:Str}:∀ {binds:List (Str × Value)} {m:Str -> Option Value},(∀ v,(x,v) ∉ binds) -> bindL kindOf binds m x=m x
 | [],_,_=>rfl
 | (n,v) :: r,m,h=>by
  unfold bindL
  rw [pS fun w hw=>h w (List.mem_cons_of_mem _ hw)]
  split
  ·have:x ≠ n:=by rintro rfl;exact h v List.mem_cons_self
   simp [this]
  ·rfl
theorem ql {kindOf:Str -> Option NameKind} {x:Str}:∀ {binds:List (Str × Value)} {m:Str -> Option Value},(∀ v,(x,v) ∉ binds) -> bindC kindOf binds m x=m x
 | [],_,_=>rfl
 | (n,v) :: r,m,h=>by
  unfold bindC
  rw [ql fun w hw=>h w (List.mem_cons_of_mem _ hw)]
  split
  ·rfl
  ·have:x ≠ n:=by rintro rfl;exact h v List.mem_cons_self
   simp [this]
theorem pU {kindOf:Str -> Option NameKind} {x:Str} {v:Value}:∀ {P:List Str} {vs:List Value} {i:Nat} {m:Str -> Option Value},P.Nodup -> P[i]?=some x -> vs[i]?=some v -> kindOf x=some .local ->
  bindL kindOf (P.zip vs) m x=some v
 | [],_,_,_,_,h,_,_=>by simp at h
 | _ :: _,[],_,_,_,_,h,_=>by simp at h
 | p :: P,w :: vs,0,m,nd,h1,h2,hk=>by
  simp at h1 h2;subst h1;subst h2
  show bindL kindOf ((p,w) :: P.zip vs) m p=_
  unfold bindL
  rw [pS fun v hv=>(List.nodup_cons.mp nd).1 (List.of_mem_zip hv).1,if_pos hk]
  simp
 | p :: P,w :: vs,i + 1,m,nd,h1,h2,hk=>by
  show bindL kindOf ((p,w) :: P.zip vs) m x=_
  unfold bindL
  exact pU (i:=i) (List.nodup_cons.mp nd).2 (by simpa using h1) (by simpa using h2) hk
theorem qf {kindOf:Str -> Option NameKind} {x:Str} {v:Value}:∀ {P:List Str} {vs:List Value} {i:Nat} {m:Str -> Option Value},P.Nodup -> P[i]?=some x -> vs[i]?=some v -> kindOf x ≠ some .local ->
  bindC kindOf (P.zip vs) m x=some v
 | [],_,_,_,_,h,_,_=>by simp at h
 | _ :: _,[],_,_,_,_,h,_=>by simp at h
 | p :: P,w :: vs,0,m,nd,h1,h2,hk=>by
  simp at h1 h2;subst h1;subst h2
  show bindC kindOf ((p,w) :: P.zip vs) m p=_
  unfold bindC
  rw [ql fun v hv=>(List.nodup_cons.mp nd).1 (List.of_mem_zip hv).1,if_neg hk]
  simp
 | p :: P,w :: vs,i + 1,m,nd,h1,h2,hk=>by
  show bindC kindOf ((p,w) :: P.zip vs) m x=_
  unfold bindC
  exact qf (i:=i) (List.nodup_cons.mp nd).2 (by simpa using h1) (by simpa using h2) hk
def start (N:List Str) (vs:List V):St:=vs.map some ++ List.replicate (N.length - vs.length) none
def mF (CX:zd) (P:Program) (w:World) (K:PySem.W.Frag) (mg:Str -> Option Value) (base:Heap) (N:List Str) (qual:Str) (scope:Scope) (f:Addr) (cd:Value) (A:Around) (outer:List Env) (s:Shared) (H:Hp) (E:XK):Cx where
 prog:=P
 w:=w
 K:=K
 mg:=mg
 base:=base
 A:=A.deeper (envOfC qual scope s.heap.objs.size f cd)
 N:=N
 s₀:=s
 H₀:=H
 env:=envOfC qual scope s.heap.objs.size f cd
 outer:=outer
 stack:=envOfC qual scope s.heap.objs.size f cd :: outer
 ex:=[]
 calm:=true
 fn:=fun _=>true
 pn:=[]
 xe:=fun e s'=>wpAny (model P w) (A.deeper (envOfC qual scope s.heap.objs.size f cd)) (leaving (envOfC qual scope s.heap.objs.size f cd) e) (fun _ s''=>CX outer H s E e s'') (fun e' s''=>CX outer H s E e' s'') s'
theorem rY {sc:Scope} {n:Nat} {x:Str} (h:sc.names.lookup x=some .cell):∃ c,(cellsFrom n sc.names []).lookup x=some c:=by
 have q:=PySem.W.cellsFrom_some sc.names n [] (.inl h)
 exact Option.isSome_iff_exists.mp q
theorem yt {CX:zd} {P:Program} {w:World} {K:PySem.W.Frag} {mg:Str -> Option Value} {base:Heap} {N ps:List Str} {qual:Str} {scope:Scope} {f:Addr} {cd:Value} {A:Around} {outer:List Env} {s s1:Shared} {H:Hp} {E:XK} {us:List Value} {vs:List V}
  (S:FnScope N ps scope) (hd:A.handled=none) (e0:Env0 P w K mg base A outer s H) (hl:vs.length=ps.length) (r:Vals vs us)
  (x:InCallC s s.heap.objs.size (bindL (envOfC qual scope s.heap.objs.size f cd).kindOf (ps.zip us) fun _=>none) (cellsFrom (s.heap.objs.size + 1) scope.names []) (bindC (envOfC qual scope s.heap.objs.size f cd).kindOf (ps.zip us) fun _=>none) s1) :
  Inv (mF CX P w K mg base N qual scope f cd A outer s H E) [] (start N vs) H s1:=by
 have hpl:ps.length <= N.length:=by have:=congrArg List.length S.pre;rw [List.length_take] at this;omega
 obtain ⟨h1,tk,rfl,hk⟩:=x.done
 have noA:∀ b:Addr,b ∉ (mF CX P w K mg base N qual scope f cd A outer s H E).ex:=fun b z=>absurd (show b ∈ ([]:List Addr) from z) (by simp)
 refine ⟨⟨e0.mod,S.kind,rfl,rfl,Nat.le_refl _,fun y z c h1 h2=>?_,fun y hy=>?_,fun y c _ h=>?_,fun _=>hd,Around.frames_deeper e0.frames,.inr ⟨rfl,rfl⟩,fun b z=>absurd z (noA b),e0.bs,e0.bsz,fun b _ _=>noA b,fun b z=>absurd z (noA b),e0.iR,e0.frf⟩,
  rfl,e0.bare,Un.kept hk,⟨_,x.toInCall.ns,fun i y v h1 h2 h3=>?_⟩,fun y c h=>⟨_,x.cell y c h⟩,e0.hok.fresh (Nat.le_refl _),fun y c h=>?_,fun p hp=>absurd (show p ∈ ([]:List (Addr × Obj)) from hp) (by simp),e0.hok.kept hk,?_⟩
 ·exact name_of_addr x.apart (PySem.mem_of_lookup h1) (PySem.mem_of_lookup h2)
 ·have hy:scope.names.lookup y=some .cell \/ scope.names.lookup y=some .free:=hy
  rcases hy with hy | hy
  ·exact rY hy
  ·exact absurd rfl (S.nofree _ (PySem.mem_of_lookup hy))
 ·exact Nat.le_of_lt (x.above y c (PySem.mem_of_lookup h))
 ·have hi:i < vs.length:=by
   unfold start at h2
   by_cases hi:i < vs.length
   ·exact hi
   ·rw [List.getElem?_append_right (by simpa using hi)] at h2
    rw [List.getElem?_replicate] at h2
    split at h2 <;> cases h2
  have ha:vs[i]?=some v:=by
   unfold start at h2
   rw [List.getElem?_append_left (by simpa using hi),List.getElem?_map] at h2
   cases e:vs[i]? with
   | none=>rw [e] at h2;cases h2
   | some a=>rw [e] at h2;cases h2;rfl
  obtain ⟨u,hu,rv⟩:=r.get ha
  have hp:ps[i]?=some y:=by
   rw [<- S.pre,List.getElem?_take_of_lt (by omega)];exact h1
  have ndP:ps.Nodup:=by rw [<- S.pre];exact S.nd.sublist (List.take_sublist _ _)
  refine ⟨u,rv,?_⟩
  rcases S.par y (List.mem_of_getElem? hp) with k | k
  ·exact .inl ⟨k,pU ndP hp hu k⟩
  ·obtain ⟨c,e⟩:=rY (n:=s.heap.objs.size + 1) k
   refine .inr ⟨.inl k,c,e,?_⟩
   have q:=x.cell y c e
   rw [qf ndP hp hu (by show scope.names.lookup y ≠ _;rw [k];decide)] at q
   exact q
 ·exact e0.hok.fresh (Nat.le_of_lt (x.above y c (PySem.mem_of_lookup h)))
 ·unfold start
  show _=N.length
  rw [List.length_append,List.length_map,List.length_replicate]
  omega
theorem Fi {CX:zd} {P:Program} {w:World} {K:PySem.W.Frag} {mg:Str -> Option Value} {base:Heap} {k:Nat} {f:Addr} {name qual:Str} {params:Arguments} {body:List Stmt} {scope:Scope} {dV kV doc pm cdv ct oc:Value} {an od:Option Addr}
  {osl:Array (Option Value)} {N ps:List Str} {sp:Sp} (lk:K.lookup f=some ⟨oc,od,.func (PySem.W.fnOf name qual params body scope dV kV doc pm an cdv ct),osl⟩) (hcd:PySem.W.codeIn K cdv qual=true) (S:FnScope N ps scope)
  (len:∀ vs H Q E,sp vs H Q E -> vs.length=ps.length)
  (hbody:∀ (A:Around) (outer:List Env) (s:Shared) (H:Hp) (vs:List V) (Q:VK) (E:XK),Room k (A.deeper (envOfC qual scope s.heap.objs.size f cdv)) -> sp vs H Q E ->
   ∃ t,qd (mF CX P w K mg base N qual scope f cdv A outer s H E) body t /\ t { nx:=fun _ H'=>Q .non H',rt:=Q } (start N vs) H) :
  FnOk P w K mg base CX (k + 1) f (PySem.W.fnOf name qual params body scope dV kV doc pm an cdv ct) ps sp:=by
 refine ⟨len,fun A outer s H args us vs Q E hr e0 hb r hsp=>?_⟩
 have hl:=len _ _ _ _ hsp
 have KX:K.In s.heap:=e0.mod.kin.keeps fun b o e=>(e0.bs b o e).1
 have lim:s.heap.NoLimit:=e0.mod.nolimit.keeps fun b o e=>(e0.bs b o e).1
 have hkind:∀ y ∈ ps.zip us,scope.names.lookup y.1=some .local \/ (scope.names.lookup y.1=some .cell /\ ((cellsFrom (s.heap.objs.size + 1) scope.names []).lookup y.1).isSome=true):=fun ⟨n,v⟩ hy=>by
  rcases S.par n (List.of_mem_zip hy).1 with q | q
  ·exact .inl q
  ·exact .inr ⟨q,PySem.W.cellsFrom_some _ _ _ (.inl q)⟩
 refine codeAny_call_function hr.depth (KX _ _ lk) rfl S.co S.gen rfl (PySem.W.codeRec_of KX hcd) (hb _ _ _ _ ?_)
 refine wpAny_newFunctionEnv_cells S.kind hkind fun env he s1 x=>?_
 subst he
 refine ⟨lim.keeps x.toInCall.keep,codeAny_func ?_⟩
 obtain ⟨t,ht,hq⟩:=hbody A outer s H vs Q E (hr.deeper _) hsp
 have I:Inv (mF CX P w K mg base N qual scope f cdv A outer s H E) [] (start N vs) H s1:=yt S hr.hd e0 hl r x
 refine wpAny_mono (ht [] s1 (start N vs) H _ I hq) (fun fl s' hs=>?_) fun e s' hs=>hs
 have fin:∀ {σ':St} {H':Hp} {v:V} {u:Value},Inv (mF CX P w K mg base N qual scope f cdv A outer s H E) [] σ' H' s' -> RelV v u -> Q v H' -> CE outer P w H s Q u s':=
  fun {σ' H' v u} J rv q=>⟨v,H',J.os,J.bare,J.base,J.hok,rv,q⟩
 cases fl with
 | ret u=>
  obtain ⟨v,σ',H',J,rv,q⟩:=hs
  exact fin J rv q
 | next=>
  obtain ⟨σ',H',J,q⟩:=hs
  exact fin (v:=V.non) (u:=Value.none) J rfl q
 | brk=>
  obtain ⟨_,_,_,q⟩:=hs
  exact False.elim q
 | cont=>
  obtain ⟨_,_,_,q⟩:=hs
  exact False.elim q
end L2
namespace L2
open PySem PySem.Spec PyProof.Rows
section
variable {X:Cx} {x:Str} {p pos:Pos} {e:Expr} {es:List Expr} {t:TA} {id T:String} {r:List V -> Hp -> VK -> Prop}
def Lo (r:List V -> Hp -> VK -> Prop) (t:TA):TE:=fun σ H Q=>t σ H fun vs H1=>r vs H1 Q
theorem sR (hc:bD X (.builtin id) r) (hg:Gl X x) (hm:X.mg x=none) (hv:bootBuiltins x=some (.builtin id)) (ha:PA X (e :: es) t) (hn:x ≠ "__name__" := by decide) (hdb:(x == ("__debug__" : Str))=false:=by decide)
  (he:starEach (e :: es) X.env=(false,eval e X.env) :: starEach es X.env:=by rfl) (hpl:(backTo pos (starEach es X.env)).any (·.1)=false:=by rfl):PE X (.Call (.Name x p) (e :: es) [] pos) (Lo r t):=by
 intro pins s σ H Q I h
 refine wpAny_Call_Name_kw (nL I hg hm hv ?_ hn hdb)
 exact PyProof.Rows.callWith_builtin1 (b9 (ha pos pins s σ H _ I h) fun us s1 ⟨vs,H1,I1,r1,q1⟩=>hc pins s1 σ H1 vs us Q I1 r1 q1) he hpl
theorem yv (hc:bD X (.type T) r) (hg:Gl X x) (hm:X.mg x=none) (hv:bootBuiltins x=some (.type T)) (ha:PA X (e :: es) t) (hn:x ≠ "__name__" := by decide) (hdb:(x == ("__debug__" : Str))=false:=by decide)
  (he:starEach (e :: es) X.env=(false,eval e X.env) :: starEach es X.env:=by rfl) (hpl:(backTo pos (starEach es X.env)).any (·.1)=false:=by rfl):PE X (.Call (.Name x p) (e :: es) [] pos) (Lo r t):=by
 intro pins s σ H Q I h
 refine wpAny_Call_Name_kw (nL I hg hm hv ?_ hn hdb)
 exact PyProof.Rows.callWith_type1 (b9 (ha pos pins s σ H _ I h) fun us s1 ⟨vs,H1,I1,r1,q1⟩=>hc pins s1 σ H1 vs us Q I1 r1 q1) he hpl
end
end L2
namespace HT
open PySem PyProof.Rows
def lexLt:List Int -> List Int -> Bool
 | [],[]=>false
 | [],_ :: _=>true
 | _ :: _,[]=>false
 | x :: xs,y :: ys=>if x=y then lexLt xs ys else decide (x < y)
theorem jR (x y:Int) (xs ys:List Int):lexLt (x :: xs) (y :: ys)=if x=y then lexLt xs ys else decide (x < y):=rfl
theorem jB:lexLt [] []=false:=rfl
theorem nk (y:Int) (ys:List Int):lexLt [] (y :: ys)=true:=rfl
theorem nJ (x:Int) (xs:List Int):lexLt (x :: xs) []=false:=rfl
theorem sF (A:Around) (s:Shared) (a:Int) (t:Tok) (c:Int) (u:Tok):∃ e,SeqAt.EqAt A s (.int a t) (.int c u) e /\ (e=true ↔ a=c):=
 ⟨(a == c),SeqAt.EqAt.int_int a t c u,by simp⟩
theorem A3 (A:Around) (s:Shared) (a:Int) (t:Tok) (c:Int) (u:Tok) (prog:Program) (w:World) (E:Value -> Shared -> Prop) (Q:Value -> Shared -> Prop) (h:Q (.bool (decide (a < c))) s) :
  wpAny (model prog w) A (richCompare .Lt (.int a t) (.int c u)) Q E s:=
 (PyProof.Rows.lt_int h:wpAny (model prog w) A (compareOp .Lt (.int a t) (.int c u)) Q E s)
section
open PySem.SeqAt
open PySem.AutoSeq1 (wpAny_loadPart')
open PySem.MeetsSeq PySem.MeetsSeq2 PySem.MeetsSeq3
theorem pF (l b:Addr) (items items2:Array Value) (n n2:Nat) (dd dd2:Option Addr) (sl sl2:Array (Option Value)) (ns ms:List Int) (hi:IntsAre items.toList ns) (hj:IntsAre items2.toList ms) :
  Meets (Builtin.«tuple.__lt__» ⟨[.ref l,.ref b],[]⟩)
   (fun _ R s=>s.heap.get? l=some { cls:=.type "tuple",dict:=dd,data:=.seq items n,slots:=sl } /\ s.heap.get? b=some { cls:=.type "tuple",dict:=dd2,data:=.seq items2 n2,slots:=sl2 } /\
    R (.ok (.ret (.bool (lexLt ns ms)))) s):=
 .of_wp fun prog w A R s h=>by
  obtain ⟨hp,g,d,tk,os⟩:=s;obtain ⟨hl,hb,h⟩:=h
  have f2:=AutoSeq1.sub_tuple_tuple
  have z1:items.size=ns.length:=by rw [<- hi.length];simp
  have z2:items2.size=ms.length:=by rw [<- hj.length];simp
  wp_walk using wpAny_loadPart' hl,wpAny_loadPart' hb,wpAny_forIn_list _ (fun rest b s'=>b.1=none /\ s'=⟨hp,g,d,tk,os⟩ /\ ∃ (vs ws:List Value) (ns' ms':List Int),rest=vs.zip ws /\
   IntsAre vs ns' /\ IntsAre ws ms' /\ ns'.length + items2.size=ms'.length + items.size /\ R (.ok (.ret (.bool (lexLt ns' ms')))) ⟨hp,g,d,tk,os⟩) _
  case turn=>
   rintro ⟨y,x⟩ rest b s' ⟨hb',rfl,vs,ws,ns',ms',hz,hvi,hwi,hlen,hR⟩
   cases hvi with
   | nil=>rw [List.zip_nil_left] at hz;cases hz
   | cons a t hvi'=>
    cases hwi with
    | nil=>rw [List.zip_nil_right] at hz;cases hz
    | cons c u hwi'=>
     rw [List.zip_cons_cons] at hz
     injection hz with hyx hrest
     injection hyx with hy hx
     subst hy hx
     rw [jR] at hR
     simp only [List.length_cons] at hlen
     obtain ⟨e,he,hiff⟩:=sF A.in1 ⟨hp,g,d,tk,os⟩ a t c u
     refine wpAny_bind (he prog w _ _ ?_)
     cases e with
     | true=>
      rw [if_pos (hiff.mp rfl)] at hR
      wp_walk
      exact ⟨rfl,rfl,_,_,_,_,hrest,hvi',hwi',by omega,hR⟩
     | false=>
      rw [if_neg (fun q=>absurd (hiff.mpr q) Bool.false_ne_true)] at hR
      have hri:=A3 A.in1 ⟨hp,g,d,tk,os⟩ a t c u prog w
      wp_walk using hri
      exact ⟨_,rfl,by simpa using hR⟩
  case fin=>
   rintro ⟨b1,b2⟩ s' ⟨hb',rfl,vs,ws,ns',ms',hz,hvi,hwi,hlen,hR⟩
   simp only at hb'
   subst hb'
   have hv:lexLt ns' ms'=decide (items.size < items2.size):=by
    cases hvi with
    | nil=>
     cases hwi with
     | nil=>
      simp only [List.length_nil] at hlen
      rw [jB]
      exact (decide_eq_false (by omega)).symm
     | cons c u hw=>
      simp only [List.length_nil,List.length_cons] at hlen
      rw [nk]
      exact (decide_eq_true (by omega)).symm
    | cons a t hv=>
     cases hwi with
     | nil=>
      simp only [List.length_nil,List.length_cons] at hlen
      rw [nJ]
      exact (decide_eq_false (by omega)).symm
     | cons c u hw=>
      rw [List.zip_cons_cons] at hz
      cases hz
   rw [hv] at hR
   wp_walk
   exact ⟨_,rfl,by simpa [Builtin.Tuple.tupleCompareSizes] using hR⟩
  case h=>
   exact ⟨rfl,rfl,items.toList,items2.toList,ns,ms,rfl,hi,hj,by omega,h⟩
end
section
variable {prog:Program} {w:World} {A:Around} {E:Value -> Shared -> Prop} {s:Shared}
theorem uV {l b:Addr} {items items2:Array Value} {ns ms:List Int} {Q:Value -> Shared -> Prop} (hl:IsTup s.heap l items) (hb:IsTup s.heap b items2) (hi:IntsAre items.toList ns) (hj:IntsAre items2.toList ms)
  (hu:A.units < cLine) (h:Q (.bool (lexLt ns ms)) s):wpAny (model prog w) A (compareOp .Lt (.ref l) (.ref b)) Q E s:=by
 obtain ⟨⟨cls,dd,data,sl⟩,ho,hc,n,hd⟩:=id hl
 obtain ⟨⟨cls2,dd2,data2,sl2⟩,ho2,hc2,n2,hd2⟩:=id hb
 simp only at hc hd hc2 hd2
 subst hc hd hc2 hd2
 exact richCompare_meets_room (op:=.Lt) ⟨_,ho,rfl⟩ ⟨_,ho2,rfl⟩ PySem.F.slot_tuple_lt PySem.F.entry_tuple_lt (PySem.F.args_tuple_lt_2 _ _) (pF l b items items2 n n2 dd dd2 sl sl2 ns ms hi hj)
  ⟨ho,ho2,show Value.bool (lexLt ns ms) ≠ Value.notImplemented /\ Q (.bool (lexLt ns ms)) s from ⟨(fun x=>nomatch x),h⟩⟩ hu
theorem Dk {t b:Addr} {vs ws:List Value} {Q:Value -> Shared -> Prop} (ht:IsTup s.heap t vs.toArray) (hb:IsTup s.heap b ws.toArray) (hv:vs ≠ [])
  (h1:ws=[] -> Q (.ref t) s) (h2:ws ≠ [] -> Q (.ref s.heap.objs.size) { s with heap:=s.heap.push { cls:=.type "tuple",data:=.seq (vs ++ ws).toArray } })
  (hsz:vs.length + ws.length <= sizeLine):wpAny (model prog w) A (binaryOp .Add (.ref t) (.ref b)) Q E s:=by
 obtain ⟨⟨cls,dd,data,sl⟩,ho,hc,n,hd⟩:=id ht
 obtain ⟨⟨cls2,dd2,data2,sl2⟩,ho2,hc2,n2,hd2⟩:=id hb
 simp only at hc hd hc2 hd2
 subst hc hd hc2 hd2
 have e:vs.toArray ++ ws.toArray=(vs ++ ws).toArray:=by simp
 by_cases hw:ws=[]
 ·exact concat_meets ⟨_,ho,rfl⟩ ⟨_,ho2,rfl⟩ noFill_tuple_add seq_tuple_add PySem.F.slot_tuple_add PySem.F.entry_tuple_add (PySem.F.args_tuple_add_2 _ _)
   (tuple_addW1 t b vs.toArray ws.toArray n n2 dd dd2 sl sl2 (by simpa using hv) (by simp [hw])) ⟨ho,ho2,h1 hw⟩
 ·refine concat_meets ⟨_,ho,rfl⟩ ⟨_,ho2,rfl⟩ noFill_tuple_add seq_tuple_add PySem.F.slot_tuple_add PySem.F.entry_tuple_add (PySem.F.args_tuple_add_2 _ _)
   (tuple_addW2 t b vs.toArray ws.toArray n n2 dd dd2 sl sl2 (by simpa using hv) (by simpa using hw) (by rw [List.size_toArray,List.size_toArray];exact hsz)) ⟨ho,ho2,?_⟩
  rw [e]
  exact h2 hw
def er (n d:Nat):Option Int -> Nat
 | none=>d
 | some v=>if v < 0 then (v + (n:Int)).toNat else min v.toNat n
theorem kq (n d:Nat):er n d none=d:=rfl
theorem iZ (n d k:Nat):er n d (some (k:Int))=min k n:=by
 show (if (k:Int) < 0 then ((k:Int) + (n:Int)).toNat else min (k:Int).toNat n)=min k n
 rw [if_neg (by omega),Int.toNat_natCast]
theorem GY (n d:Nat) (hd:d <= n) (o:Option Int):er n d o <= n:=by
 cases o with
 | none=>exact hd
 | some v=>
  show (if v < 0 then (v + (n:Int)).toNat else min v.toNat n) <= n
  by_cases hv:v < 0
  ·rw [if_pos hv];omega
  ·rw [if_neg hv];exact Nat.min_le_right _ _
theorem yb (v:Int) (n d:Nat):(if v < 0 then max (v + (n:Int)) 0 else min v (n:Int))=((er n d (some v):Nat):Int):=by
 show (if v < 0 then max (v + (n:Int)) 0 else min v (n:Int))=(((if v < 0 then (v + (n:Int)).toNat else min v.toNat n):Nat):Int)
 by_cases hv:v < 0
 ·simp only [if_pos hv];omega
 ·simp only [if_neg hv];omega
theorem vd (lo hi:Option Int) (n:Nat):Builtin.Slice.sliceAdjust lo hi 1 (n:Int)=(((er n 0 lo:Nat):Int),((er n n hi:Nat):Int)):=by
 have h1:¬ ((1:Int) < 0):=by omega
 unfold Builtin.Slice.sliceAdjust
 simp only [h1,if_false]
 refine Prod.ext ?_ ?_
 ·cases lo with
  | none=>rfl
  | some v=>exact yb v n 0
 ·cases hi with
  | none=>rfl
  | some v=>exact yb v n n
theorem u5 (i j:Nat):Builtin.Slice.slicePlaces (i:Int) (j:Int) 1=j - i:=by
 unfold Builtin.Slice.slicePlaces
 have h1:(1:Int) > 0:=by omega
 simp only [h1,if_true,Int.ediv_one]
 split <;> omega
theorem oN {v:Value} {o:Option Int} {Q:Option Int -> Shared -> Prop} (p:IsPart v o) (h:Q o s):wpAny (model prog w) A (Builtin.Slice.slicePartIndex v) Q E s:=by
 cases p with
 | none=>exact slicePart_none h
 | int i t=>exact slicePart_int h
theorem kR {sl:Addr} {vl vu:Value} {lo hi:Option Int} {n:Nat} {Q:Int × Int × Nat -> Shared -> Prop} (hs:s.heap.IsSliceOf sl vl vu .none) (pl:IsPart vl lo) (pu:IsPart vu hi)
  (h:Q (((er n 0 lo:Nat):Int),1,er n n hi - er n 0 lo) s):wpAny (model prog w) A (Builtin.Slice.sliceApplied (.ref sl) (pure (n:Int))) Q E s:=by
 obtain ⟨os,hos,hcs,hds⟩:=id hs
 unfold Builtin.Slice.sliceApplied Builtin.Slice.sliceFields
 refine wpAny_bind (wpAny_bind (wpAny_field hos hds (x:=vl) rfl (wpAny_bind (wpAny_field hos hds (x:=vu) rfl (wpAny_bind (wpAny_field hos hds (x:=.none) rfl (wpAny_pure ?_)))))))
 refine wpAny_bind (slicePart_none ?_)
 show wpAny _ _ (if ((1:Int) == 0)=true then _ else _) _ _ s
 rw [if_neg (by decide)]
 refine wpAny_bind (oN pl (wpAny_bind (oN pu (wpAny_bind (wpAny_pure ?_)))))
 show wpAny _ _ (match Builtin.Slice.sliceAdjust lo hi 1 (n:Int) with | (lo,hi)=>pure (lo,(1:Int),Builtin.Slice.slicePlaces lo hi 1)) _ _ s
 rw [vd lo hi n]
 show wpAny _ _ (pure (((er n 0 lo:Nat):Int),(1:Int),Builtin.Slice.slicePlaces ((er n 0 lo:Nat):Int) ((er n n hi:Nat):Int) 1)) _ _ s
 rw [u5]
 exact wpAny_pure h
theorem Ad (xs:Array Value) (i k:Nat):((List.range k).filterMap fun (m:Nat)=>xs[((i:Int) + (m:Int) * 1).toNat]?).toArray=((xs.toList.drop i).take k).toArray:=by
 have e:(fun (m:Nat)=>xs[((i:Int) + (m:Int) * 1).toNat]?)=fun m=>xs[i + m]?:=by
  funext m
  have:((i:Int) + (m:Int) * 1).toNat=i + m:=by omega
  rw [this]
 rw [e]
 have:=pick_run xs i k
 rw [List.filterMap_map] at this
 have e2:((fun x=>xs[x]?) ∘ fun x=>i + x)=fun m=>xs[i + m]?:=rfl
 rw [e2] at this
 rw [this]
theorem ki {t sl:Addr} {items:Array Value} {vl vu:Value} {lo hi:Option Int} {Q:Value -> Shared -> Prop} (ht:IsTup s.heap t items) (hs:s.heap.IsSliceOf sl vl vu .none) (pl:IsPart vl lo) (pu:IsPart vu hi)
  (hw:¬ (er items.size 0 lo=0 /\ er items.size items.size hi=items.size))
  (h:Q (.ref s.heap.objs.size) { s with heap:=s.heap.push { cls:=.type "tuple",data:=.seq ((items.toList.drop (er items.size 0 lo)).take (er items.size items.size hi - er items.size 0 lo)).toArray } })
  (hsz:items.size <= sizeLine):wpAny (model prog w) A (getItem (.ref t) (.ref sl)) Q E s:=by
 have htake:sizeOk (.seq ((items.toList.drop (er items.size 0 lo)).take (er items.size items.size hi - er items.size 0 lo)).toArray):=by
  show ((items.toList.drop (er items.size 0 lo)).take (er items.size items.size hi - er items.size 0 lo)).toArray.size <= sizeLine
  rw [List.size_toArray,List.length_take,List.length_drop,Array.length_toList]
  omega
 have hj:er items.size items.size hi <= items.size:=GY _ _ (Nat.le_refl _) hi
 obtain ⟨os,hos,hcs,hds⟩:=id hs
 have hTs:s.TypeIs (.ref sl) "slice" := ⟨os,hos,hcs⟩
 unfold getItem
 try with_reducible refine wpAny_holding ?_
 first | refine wpAny_bind (wpAny_pure ?_) | skip
 refine wpAny_bind (wpAny_sequenceKey ht.typeIs (by decide) ?_)
 refine wpAny_bind (wpAny_callSpecial?_slot (name:=Str.ofString "__getitem__") ht.typeIs PyProof.Rows.slot_tuple_getitem
  (wpAny_call_entry PyProof.Rows.slot_tuple_getitem ht.typeIs entry_tuple_getitem ?_ (args_tuple_getitem _ _)))
 show wpAny _ _ (Builtin.Tuple.tupleItemsOf (.ref t) >>= _) _ _ s
 refine wpAny_bind (tupleItemsOf_ ht ?_)
 refine wpAny_bind (wpAny_typeOf hTs ?_)
 rw [if_pos (by decide)]
 refine wpAny_bind (kR hs pl pu ?_)
 have hno:¬ ((((er items.size 0 lo:Nat):Int) == 0 && (1:Int) == 1 && (er items.size items.size hi - er items.size 0 lo) == items.size)=true):=by
  intro q
  rw [Bool.and_eq_true,Bool.and_eq_true] at q
  have q1:((er items.size 0 lo:Nat):Int)=0:=eq_of_beq q.1.1
  have q2:er items.size items.size hi - er items.size 0 lo=items.size:=eq_of_beq q.2
  exact hw ⟨by omega,by omega⟩
 show wpAny _ _ (if (((er items.size 0 lo:Nat):Int) == 0 && (1:Int) == 1 && (er items.size items.size hi - er items.size 0 lo) == items.size)=true then _ else _) _ _ s
 rw [if_neg hno,Ad]
 first
  | exact wpAny_bind (m:=Builtin.Tuple.tupleExact _) (wpAny_newObj_type (wpAny_pure ⟨_,rfl,wpAny_pure h⟩) htake)
  | exact wpAny_bind (m:=Builtin.Tuple.tupleExact _) (wpAny_newObj_type (wpAny_bind (wpAny_pure (wpAny_pure ⟨_,rfl,wpAny_pure h⟩))) htake)
  | exact wpAny_bind (wpAny_bind (m:=Builtin.Tuple.tupleExact _) (wpAny_newObj_type (wpAny_pure (wpAny_pure ⟨_,rfl,wpAny_pure h⟩)) htake))
  | exact wpAny_bind (wpAny_bind (m:=Builtin.Tuple.tupleExact _) (wpAny_newObj_type (wpAny_pure ⟨_,rfl,wpAny_pure h⟩) htake))
end
end HT
namespace L2
open PySem PySem.Spec PyProof.Rows
abbrev TO:=St -> Hp -> (Option Int -> Hp -> Prop) -> Prop
def PO (X:Cx) (e:Option Expr) (t:TO):Prop:=
 ∀ (pins:List (Addr × Obj)) (s:Shared) (σ:St) (H:Hp) (Q:Option Int -> Hp -> Prop),Inv X pins σ H s -> t σ H Q ->
  wpAny (model X.prog X.w) X.A (evalPart e X.env) (fun u s'=>∃ o H',Inv X pins σ H' s' /\ IsPart u o /\ Q o H') X.xe s
def D6:TO:=fun _ H Q=>Q none H
def JB (t:TE):TO:=fun σ H Q=>t σ H fun x H1=>∃ i,x=.int i /\ Q (some i) H1
theorem intsAre_of {ns:List Int}:∀ {us:List Value},Vals (ns.map V.int) us -> IntsAre us ns:=by
 induction ns with
 | nil=>intro us r;rw [List.map_nil] at r;cases r;exact .nil
 | cons n ns ih=>
  intro us r
  rw [List.map_cons] at r
  cases r with
  | cons r1 r2=>
   obtain ⟨t,e⟩:=r1
   subst e
   exact .cons n t (ih r2)
section
variable {X:Cx} {e:Expr} {te:TE} {lo hi:Option Expr} {tl th:TO} {pos p2:Pos}
theorem Es:PO X none D6:=by
 intro pins s σ H Q I h
 rw [evalPart_none]
 exact wpAny_pure ⟨none,H,I,.none,h⟩
theorem Et (h:PE X e te):PO X (some e) (JB te):=by
 intro pins s σ H Q I hw
 rw [evalPart_some]
 refine b9 (h pins s σ H _ I hw) fun u s1 ⟨x,H1,I1,r1,q1⟩=>?_
 obtain ⟨i,rfl,q⟩:=q1
 obtain ⟨t,rfl⟩:=r1
 exact ⟨some i,H1,I1,.int i t,q⟩
def Ke (X:Cx) (r:V -> Option Int -> Option Int -> Hp -> VK -> Prop):Prop:=
 ∀ (pins:List (Addr × Obj)) (s:Shared) (σ:St) (H:Hp) (x:V) (v vl vu:Value) (lo hi:Option Int) (sl:Addr) (Q:VK),Inv X pins σ H s -> RelV x v -> s.heap.IsSliceOf sl vl vu .none -> IsPart vl lo -> IsPart vu hi -> r x lo hi H Q ->
  ∃ T id,typeLookup (.type T) "__getitem__" = pure (some (.builtin id)) /\ s.TypeIs v T /\ wpAny (model X.prog X.w) X.A (getItem v (.ref sl)) (EP X pins σ Q) X.xe s
def L7 (r:V -> Option Int -> Option Int -> Hp -> VK -> Prop) (te:TE) (tl th:TO):TE:=fun σ H Q=>te σ H fun x H1=>tl σ H1 fun l H2=>th σ H2 fun u H3=>r x l u H3 Q
theorem Bt {r:V -> Option Int -> Option Int -> Hp -> VK -> Prop} (hr:Ke X r) (he:PE X e te) (hl:PO X lo tl) (hu:PO X hi th):PE X (.Subscript e (.Slice lo hi none p2) pos) (L7 r te tl th):=by
 intro pins s σ H Q I h
 refine Subscript_ (b9 (he pins s σ H _ I h) fun v s1 ⟨x,H1,I1,r1,q1⟩=>?_)
 refine wpAny_Slice (b9 (hl pins s1 σ H1 _ I1 q1) fun vl s2 ⟨l,H2,I2,pl,q2⟩=>b9 (hu pins s2 σ H2 _ I2 q2) fun vu s3 ⟨u,H3,I3,pu,q3⟩=>?_)
 rw [evalPart_none]
 refine wpAny_pure ?_
 have I4:Inv X pins σ H3 { s3 with heap:=s3.heap.push { cls:=.type "slice",data:=.fields #[vl,vu,.none] } }:=I3.kept (t':=s3.toks) fun b ob q=>Heap.get?_push_of_some _ q
 obtain ⟨T,id,hT,ht,hg⟩:=hr pins { s3 with heap:=s3.heap.push { cls:=.type "slice",data:=.fields #[vl,vu,.none] } } σ H3 x v vl vu l u s3.heap.objs.size Q I4 r1 (Heap.IsSliceOf.new ..) pl pu q3
 show wpAny (model X.prog X.w) X.A (subscriptTail e (.Slice lo hi none p2) v (.ref s3.heap.objs.size)) (EP X pins σ Q) X.xe { s3 with heap:=s3.heap.push { cls:=.type "slice",data:=.fields #[vl,vu,.none] } }
 exact tail_any (ops:=[.ref s3.heap.objs.size,v]) ht hT hg (by with_unfolding_all rfl)
def sH (xs:List V) (lo hi:Option Int):List V:=(xs.drop (HT.er xs.length 0 lo)).take (HT.er xs.length xs.length hi - HT.er xs.length 0 lo)
theorem mq (xs:List V) (lo hi:Option Int):(sH xs lo hi).length <= xs.length:=by
 unfold sH
 rw [List.length_take,List.length_drop]
 omega
def KP (K:PySem.W.Frag):V -> Option Int -> Option Int -> Hp -> VK -> Prop:=fun x lo hi H Q=>∃ a xs,x=.ref a /\ dg K H a xs /\
 ¬ (HT.er xs.length 0 lo=0 /\ HT.er xs.length xs.length hi=xs.length) /\ ∀ p,H p=none -> Q (.ref p) (upd H p (.tup (sH xs lo hi)))
theorem Ii:Ke X (KP X.K):=by
 intro pins s σ H x v vl vu lo hi sl Q I rx hs pl pu h
 obtain ⟨a,xs,rfl,hx,hw,q⟩:=h
 cases rx
 obtain ⟨its,r,ht,hz⟩:=I.tuple hx
 have hlen:its.toArray.size=xs.length:=by rw [List.size_toArray];exact r.length.symm
 refine ⟨"tuple",_,PyProof.Rows.slot_tuple_getitem.lookup,ht.typeIs,?_⟩
 refine HT.ki ht hs pl pu (by rw [hlen];exact hw) ?_ (by rw [hlen];exact hz)
 rw [hlen]
 refine ⟨.ref s.heap.objs.size,_,I.laid (t':=s.toks) (o:=.tup (sH xs lo hi)) (fun b ob q=>Heap.get?_push_of_some _ q) (Nat.le_refl _) ?_,rfl,q _ (I.hok.fresh (Nat.le_refl _))⟩
 exact ⟨Nat.le_trans (mq xs lo hi) hz,_,(r.drop (HT.er xs.length 0 lo)).take (HT.er xs.length xs.length hi - HT.er xs.length 0 lo),eZ.new _ _⟩
def KU (K:PySem.W.Frag):R2:=fun x y H Q=>∃ a b ns ms,x=.ref a /\ y=.ref b /\ dg K H a (ns.map V.int) /\ dg K H b (ms.map V.int) /\ Q (.bl (HT.lexLt ns ms)) H
theorem Gs (hu:X.A.units < cLine):eW X (compareOp .Lt) (KU X.K):=by
 intro pins s σ H x y v u Q I rx ry h
 obtain ⟨a,b,ns,ms,rfl,rfl,ha,hb,q⟩:=h
 cases rx
 cases ry
 obtain ⟨its,r1,p1,_⟩:=I.tuple ha
 obtain ⟨its2,r2,p2,_⟩:=I.tuple hb
 have i1:IntsAre its.toArray.toList ns:=intsAre_of r1
 have i2:IntsAre its2.toArray.toList ms:=intsAre_of r2
 exact HT.uV p1 p2 i1 i2 hu ⟨.bl (HT.lexLt ns ms),H,I,rfl,q⟩
def Jk (K:PySem.W.Frag):R2:=fun x y H Q=>∃ a b xs ys,x=.ref a /\ y=.ref b /\ dg K H a xs /\ dg K H b ys /\ xs ≠ [] /\ xs.length + ys.length <= sizeLine /\
 (ys=[] -> Q (.ref a) H) /\ (ys ≠ [] -> ∀ p,H p=none -> Q (.ref p) (upd H p (.tup (xs ++ ys))))
theorem Vals.qV {xs:List V} {us:List Value} (r:Vals xs us):us=[] ↔ xs=[]:=by
 cases r with
 | nil=>simp
 | cons _ _=>simp
theorem El:eW X (binaryOp .Add) (Jk X.K):=by
 intro pins s σ H x y v u Q I rx ry h
 obtain ⟨a,b,xs,ys,rfl,rfl,ha,hb,hx,hz,q1,q2⟩:=h
 cases rx
 cases ry
 obtain ⟨its,r1,p1,_⟩:=I.tuple ha
 obtain ⟨its2,r2,p2,_⟩:=I.tuple hb
 refine HT.Dk p1 p2 (fun z=>hx (r1.qV.mp z)) (fun z=>⟨.ref a,H,I,rfl,q1 (r2.qV.mp z)⟩) (fun z=>?_) (by rw [<- r1.length,<- r2.length];exact hz)
 refine ⟨.ref s.heap.objs.size,_,I.laid (t':=s.toks) (o:=.tup (xs ++ ys)) (fun b ob q=>Heap.get?_push_of_some _ q) (Nat.le_refl _) ?_,rfl,q2 (fun w=>z (r2.qV.mpr w)) _ (I.hok.fresh (Nat.le_refl _))⟩
 exact ⟨by rw [List.length_append];exact hz,_,r1.append r2,eZ.new _ _⟩
end
end L2
namespace L2
open PySem PySem.Spec PyProof.Rows
def o4 (n:Nat) (i:Int):Option Nat:=if 0 <= i then (if i < n then some i.toNat else none) else if -(n:Int) <= i then some (i + n).toNat else none
def eV {α:Type} (xs:List α) (i:Int):Option α:=(o4 xs.length i).bind fun j=>xs[j]?
theorem wL {n:Nat} {i:Int} {j:Nat} (h:o4 n i=some j):seqIndex? i n=some j /\ j < n /\ -(n:Int) <= i /\ i < n:=by
 unfold o4 at h
 by_cases h0:0 <= i
 ·rw [if_pos h0] at h
  by_cases h1:i < n
  ·rw [if_pos h1] at h
   have e:i.toNat=j:=Option.some.inj h
   exact ⟨by rw [seqIndex_of h0 h1,e],by omega,by omega,h1⟩
  ·rw [if_neg h1] at h;cases h
 ·rw [if_neg h0] at h
  by_cases h1:-(n:Int) <= i
  ·rw [if_pos h1] at h
   have e:(i + n).toNat=j:=Option.some.inj h
   exact ⟨by rw [seqIndex_neg (by omega) h1,e],by omega,h1,by omega⟩
  ·rw [if_neg h1] at h;cases h
theorem qB {α:Type} {xs:List α} {i:Int} {v:α} (h:eV xs i=some v):∃ j,seqIndex? i xs.length=some j /\ xs[j]?=some v /\ j < xs.length /\ -(xs.length:Int) <= i /\ i < xs.length:=by
 unfold eV at h
 cases e:o4 xs.length i with
 | none=>rw [e] at h;cases h
 | some j=>
  rw [e] at h
  obtain ⟨h1,h2,h3,h4⟩:=wL e
  exact ⟨j,h1,h,h2,h3,h4⟩
theorem Ep {α:Type} {xs:List α} {j:Nat} {v:α} (h:xs[j]?=some v):eV xs (j:Int)=some v:=by
 have hj:j < xs.length:=(List.getElem?_eq_some_iff.mp h).1
 have e:o4 xs.length (j:Int)=some j:=by
  unfold o4
  rw [if_pos (by omega),if_pos (by omega)];simp
 unfold eV;rw [e];exact h
def rD (b:Expr):Prop:=∀ o i,subscripted b false o i=operate [o,i] (getItem o i)
def Gv (X:Cx) (r:R2):Prop:=
 ∀ (value slice:Expr) (pins:List (Addr × Obj)) (s:Shared) (σ:St) (H:Hp) (x y:V) (v u:Value) (Q:VK),Inv X pins σ H s -> RelV x v -> RelV y u -> r x y H Q ->
  subscripted slice false v u=operate [v,u] (getItem v u) -> wpAny (model X.prog X.w) X.A (subscriptTail value slice v u) (EP X pins σ Q) X.xe s
def Gm (X:Cx) (id:String) (r:V -> List V -> Hp -> VK -> Prop):Prop:=
 ∀ (pins:List (Addr × Obj)) (s:Shared) (σ:St) (H:Hp) (x:V) (xs:List V) (v:Value) (us:List Value) (Q:VK),Inv X pins σ H s -> RelV x v -> Vals xs us -> r x xs H Q ->
  wpAny (model X.prog X.w) X.A (call (.builtin id) (v :: us)) (EP X pins σ Q) X.xe s
section
variable {X:Cx} {a b:Expr} {ta tb:TE} {pos:Pos}
theorem Ff {r:R2} (hr:Gv X r) (ha:PE X a ta) (hb:PE X b tb) (hs:rD b):PE X (.Subscript a b pos) (JN r ta tb):=by
 intro pins s σ H Q I h
 exact Subscript_ (G6 ha hb I h fun v u s2 x y H2 I2 rx ry q=>hr a b pins s2 σ H2 x y v u Q I2 rx ry q (hs _ _))
def Kr (K:PySem.W.Frag):R2:=fun x y H Q=>∃ p xs i v,x=.ref p /\ y=.int i /\ fF K H p xs /\ eV xs i=some v /\ Q v H
def KA (K:PySem.W.Frag):R2:=fun x y H Q=>∃ p xs i v,x=.ref p /\ y=.int i /\ dg K H p xs /\ eV xs i=some v /\ Q v H
def Kv:R2:=fun x y H Q=>∃ z i c,x=.str z /\ y=.int i /\ z.length <= sizeLine /\ eV z.cps.toList i=some c /\ Q (.str ⟨#[c]⟩) H
theorem v9:Gv X (Kr X.K):=by
 intro value slice pins s σ H x y v u Q I rx ry h hs
 obtain ⟨p,xs,i,z,rfl,rfl,hq,he,q⟩:=h
 cases rx
 obtain ⟨t,rfl⟩:=ry
 obtain ⟨its,r,pl,hz⟩:=I.list hq
 obtain ⟨j,h1,h2,h3,h4,h5⟩:=qB he
 obtain ⟨w,ew,rw'⟩:=r.get h2
 have hl:=r.length
 have hn:=jK
 have fin:EP X pins σ Q w s:=⟨z,H,I,rw',q⟩
 by_cases h0:0 <= i
 ·have hj:i.toNat=j:=by
   rw [seqIndex_of h0 h5] at h1
   exact Option.some.inj h1
  exact item_listR pl.isList h0 (by omega) (by rw [hj];simpa using ew) fin hs
 ·have hj:(i + (its.toArray.size:Int)).toNat=j:=by
   rw [seqIndex_neg (by omega) h4] at h1
   rw [List.size_toArray,<- hl]
   exact Option.some.inj h1
  exact subscriptTail_builtinR (x:=w) pl.isList.typeIs slot_list_getitem.lookup
   (wpAny_getItem_list_neg (Q:=fun r s'=>r=w /\ EP X pins σ Q r s') pl.isList (by omega) (by rw [List.size_toArray] <;> omega) (by omega) (by rw [hj];simpa using ew) ⟨rfl,fin⟩) hs
theorem HV:Gv X (KA X.K):=by
 intro value slice pins s σ H x y v u Q I rx ry h hs
 obtain ⟨p,xs,i,z,rfl,rfl,hq,he,q⟩:=h
 cases rx
 obtain ⟨t,rfl⟩:=ry
 obtain ⟨its,r,pl,hz⟩:=I.tuple hq
 obtain ⟨j,h1,h2,h3,h4,h5⟩:=qB he
 obtain ⟨w,ew,rw'⟩:=r.get h2
 have hl:=r.length
 have hn:=jK
 have fin:EP X pins σ Q w s:=⟨z,H,I,rw',q⟩
 exact subscriptTail_builtinR (x:=w) pl.typeIs slot_tuple_getitem.lookup
  (getItem_tuple (j:=j) (Q:=fun r s'=>r=w /\ EP X pins σ Q r s') pl (by omega) (by omega) (by rw [List.size_toArray,<- hl];exact h1) (by simpa using ew) ⟨rfl,fin⟩) hs
theorem HS:Gv X Kv:=by
 intro value slice pins s σ H x y v u Q I rx ry h hs
 obtain ⟨z,i,c,rfl,rfl,hz,he,q⟩:=h
 obtain ⟨t,rfl⟩:=rx
 obtain ⟨t',rfl⟩:=ry
 obtain ⟨j,h1,h2,h3,h4,h5⟩:=qB he
 have hl:z.cps.toList.length=z.length:=by simp [Str.length]
 rw [hl] at h1 h4 h5
 have hn:=jK
 exact tail_any (typeIs_str s z t) slot_str_getitem.lookup (getItem_str (c:=c) (by
  have e1:decide (i < -(2 ^ 63:Int))=false:=decide_eq_false (by omega)
  have e2:decide (i >= 2 ^ 63)=false:=decide_eq_false (by omega)
  rw [e1,e2,Bool.or_false]) (by rw [h1];simpa using h2) ⟨.str ⟨#[c]⟩,H,I.tok _,⟨_,rfl⟩,q⟩) hs
theorem uO (its:List Value) (n j:Nat) (u:Value):Obj.mapSeq (·.setIfInBounds j u) { cls:=.type "list",data:=.seq its.toArray n }={ cls:=.type "list",data:=.seq (its.set j u).toArray n }:=by
 simp [Obj.mapSeq]
theorem Inv.lst {pins:List (Addr × Obj)} {σ:St} {H:Hp} {s:Shared} {p:Addr} {xs:List V} (I:Inv X pins σ H s) (h:H p=some (.lst xs)) :
  ∃ (its:List Value) (n:Nat),Vals xs its /\ s.heap.get? p=some { cls:=.type "list",data:=.seq its.toArray n } /\ xs.length <= sizeLine:=by
 obtain ⟨z,its,n,r,e⟩:=I.hok p _ h
 exact ⟨its,n,r,e,z⟩
theorem Inv.Hr {pins:List (Addr × Obj)} {σ:St} {H:Hp} {s:Shared} {p:Addr} {xs ys:List V} {its its':List Value} {n n':Nat} {f:Obj -> Obj} (I:Inv X pins σ H s) (h:H p=some (.lst xs))
  (ho:s.heap.get? p=some { cls:=.type "list",data:=.seq its.toArray n }) (hf:f { cls:=.type "list",data:=.seq its.toArray n }={ cls:=.type "list",data:=.seq its'.toArray n' }) (r:Vals ys its') (hz:ys.length <= sizeLine) (t:Nat) :
  Inv X pins σ (upd H p (.lst ys)) { s with heap:=s.heap.update p f,toks:=t }:=by
 have e:(s.heap.update p f).get? p=some { cls:=.type "list",data:=.seq its'.toArray n' }:=by
  rw [Heap.get?_update_self f ho (by rw [hf] <;> rfl),hf]
 refine I.write (x:=p) (e:=p) (by rw [h];trivial) (.inl rfl) (fun b u hb q=>(Heap.get?_update_other _ _ (Ne.symm hb)).trans q) ⟨_,e⟩ ?_
 exact ⟨hz,its',n',r,e⟩
def IK:V -> V -> V -> Hp -> (Hp -> Prop) -> Prop:=fun o i v H Q=>∃ p xs k j,o=.ref p /\ i=.int k /\ H p=some (.lst xs) /\ o4 xs.length k=some j /\ Q (upd H p (.lst (xs.set j v)))
theorem set_list:AQ X IK:=by
 intro pins s σ H o i v ov iv u Q I ro ri rv h
 obtain ⟨p,xs,k,j,rfl,rfl,hp,hj,q⟩:=h
 cases ro
 obtain ⟨t,rfl⟩:=ri
 obtain ⟨its,n,r,ho,hz⟩:=I.lst hp
 obtain ⟨h1,h2,h3,h4⟩:=wL hj
 have hl:=r.length
 have hn:=jK
 have I':Inv X pins σ (upd H p (.lst (xs.set j v))) { s with heap:=s.heap.update p (Obj.mapSeq (·.setIfInBounds j u)) }:=
  I.Hr hp ho (uO its n j u) (r.set rv j) (by rw [List.length_set];exact hz) s.toks
 by_cases h0:0 <= k
 ·have hk:k.toNat=j:=by
   rw [seqIndex_of h0 h4] at h1
   exact Option.some.inj h1
  exact PySem.W.ki_setAt ho h0 (by omega) (by rw [List.size_toArray,<- hl];exact h4) (by rw [hk];exact ⟨_,I',q⟩)
 ·have hk:(k + (its.toArray.size:Int)).toNat=j:=by
   rw [seqIndex_neg (by omega) h3] at h1
   rw [List.size_toArray,<- hl]
   exact Option.some.inj h1
  exact PySem.W.ki_setBack ho (by omega) (by rw [List.size_toArray,<- hl];exact h3) (by omega) (by rw [hk];exact ⟨_,I',q⟩)
theorem rF (lo hi:Option Int) (n:Nat):(sliceBounds lo hi none n).1=((HT.er n 0 lo:Nat):Int) /\ (sliceBounds lo hi none n).2.1=((HT.er n n hi:Nat):Int) /\ (sliceBounds lo hi none n).2.2=1:=by
 refine ⟨?_,?_,rfl⟩
 ·cases lo with
  | none=>simp [sliceBounds,HT.er]
  | some i=>
   simp only [sliceBounds,HT.er,Option.getD_none,show (1:Int) > 0 by decide,if_true]
   by_cases h:i < 0
   ·simp only [h,if_true] <;> omega
   ·simp only [h,if_false] <;> omega
 ·cases hi with
  | none=>simp [sliceBounds,HT.er]
  | some i=>
   simp only [sliceBounds,HT.er,Option.getD_none,show (1:Int) > 0 by decide,if_true]
   by_cases h:i < 0
   ·simp only [h,if_true] <;> omega
   ·simp only [h,if_false] <;> omega
theorem o_ (its:List Value) (lo hi:Option Int):slicePick its.toArray lo hi none=((its.drop (HT.er its.length 0 lo)).take (HT.er its.length its.length hi - HT.er its.length 0 lo)).toArray:=by
 obtain ⟨h1,h2,h3⟩:=rF lo hi its.toArray.size
 unfold slicePick
 rw [h1,h2,h3]
 simp only [sliceRange_one,pick_run,List.size_toArray] <;> rfl
def Lp (K:PySem.W.Frag):V -> Option Int -> Option Int -> Hp -> VK -> Prop:=fun x lo hi H Q=>∃ a xs,x=.ref a /\ fF K H a xs /\ ∀ p,H p=none -> Q (.ref p) (upd H p (.lst (sH xs lo hi)))
theorem wW:Ke X (Lp X.K):=by
 intro pins s σ H x v vl vu lo hi sl Q I rx hs pl pu h
 obtain ⟨a,xs,rfl,hx,q⟩:=h
 cases rx
 obtain ⟨its,r,ht,hz⟩:=I.list hx
 have hlen:=r.length
 refine ⟨"list",_,slot_list_getitem.lookup,ht.isList.typeIs,?_⟩
 refine wpAny_getItem_list_slice ht.isList hs pl pu .none (by simp) ?_ (by rw [List.size_toArray] <;> omega)
 rw [o_,<- hlen]
 refine ⟨.ref s.heap.objs.size,_,I.laid (t':=s.toks) (o:=.lst (sH xs lo hi)) (fun b ob q=>Heap.get?_push_of_some _ q) (Nat.le_refl _) ?_,rfl,q _ (I.hok.fresh (Nat.le_refl _))⟩
 exact ⟨Nat.le_trans (mq xs lo hi) hz,_,0,(r.drop (HT.er xs.length 0 lo)).take (HT.er xs.length xs.length hi - HT.er xs.length 0 lo),Heap.get?_push_size _ rfl⟩
def iA:V -> Bool
 | .non=>true
 | .bl _=>true
 | .int _=>true
 | .str _=>true
 | _=>false
def um:V -> V -> Bool
 | .non,.non=>true
 | .bl a,.bl b=>a == b
 | .bl a,.int b=>(if a then 1 else 0) == b
 | .int a,.bl b=>a == (if b then 1 else 0)
 | .int a,.int b=>a == b
 | .str a,.str b=>a == b
 | _,_=>false
theorem Gu {A:Around} {s:Shared} {y x:V} {u v:Value} (ry:RelV y u) (rx:RelV x v) (fy:iA y=true) (fx:iA x=true):SeqAt.EqAt A s u v (um y x):=by
 cases y with
 | non=>
  cases ry
  cases x with
  | non=>cases rx;exact SeqAt.EqAt.same _
  | bl b=>cases rx;exact SeqAt.EqAt.none_bool b
  | int b=>obtain ⟨t,rfl⟩:=rx;exact SeqAt.EqAt.none_int b t
  | str b=>obtain ⟨t,rfl⟩:=rx;exact SeqAt.EqAt.none_str b t
  | _=>exact absurd (show false=true from fx) Bool.false_ne_true
 | bl a=>
  cases ry
  cases x with
  | non=>cases rx;exact SeqAt.EqAt.bool_none a
  | bl b=>cases rx;exact SeqAt.EqAt.bool_bool a b
  | int b=>obtain ⟨t,rfl⟩:=rx;exact SeqAt.EqAt.bool_int a b t
  | str b=>obtain ⟨t,rfl⟩:=rx;exact SeqAt.EqAt.bool_str a b t
  | _=>exact absurd (show false=true from fx) Bool.false_ne_true
 | int a=>
  obtain ⟨t',rfl⟩:=ry
  cases x with
  | non=>cases rx;exact SeqAt.EqAt.int_none a t'
  | bl b=>cases rx;exact SeqAt.EqAt.int_bool a t' b
  | int b=>obtain ⟨t,rfl⟩:=rx;exact SeqAt.EqAt.int_int a t' b t
  | str b=>obtain ⟨t,rfl⟩:=rx;exact SeqAt.EqAt.int_str a t' b t
  | _=>exact absurd (show false=true from fx) Bool.false_ne_true
 | str a=>
  obtain ⟨t',rfl⟩:=ry
  cases x with
  | non=>cases rx;exact SeqAt.EqAt.str_none a t'
  | bl b=>cases rx;exact SeqAt.EqAt.str_bool a t' b
  | int b=>obtain ⟨t,rfl⟩:=rx;exact SeqAt.EqAt.str_int a t' b t
  | str b=>obtain ⟨t,rfl⟩:=rx;exact SeqAt.EqAt.str_str a t' b t
  | _=>exact absurd (show false=true from fx) Bool.false_ne_true
 | _=>exact absurd (show false=true from fy) Bool.false_ne_true
def Iw (x:V) (u:Value):Bool:=match u with
 | .none=>um .non x
 | .bool b=>um (.bl b) x
 | .int i _=>um (.int i) x
 | .str z _=>um (.str z) x
 | _=>false
theorem u7 {x y:V} {u:Value} (r:RelV y u) (f:iA y=true):Iw x u=um y x:=by
 cases y with
 | non=>cases r;rfl
 | bl b=>cases r;rfl
 | int i=>obtain ⟨t,rfl⟩:=r;rfl
 | str z=>obtain ⟨t,rfl⟩:=r;rfl
 | _=>exact absurd (show false=true from f) Bool.false_ne_true
theorem nO {A:Around} {s:Shared} {x:V} {v:Value} (rx:RelV x v) (fx:iA x=true):∀ {xs:List V} {us:List Value},Vals xs us -> xs.all iA=true -> ∀ u ∈ us,SeqAt.EqAt A s u v (Iw x u)
 | _,_,.nil,_=>fun u hu=>by cases hu
 | y :: xs,u :: us,.cons r t,f=>fun u' hu=>by
  rw [List.all_cons,Bool.and_eq_true] at f
  rcases List.mem_cons.mp hu with rfl | hu
  ·rw [u7 r f.1];exact Gu r rx f.1 fx
  ·exact nO rx fx t f.2 u' hu
def LW (x:V) (xs:List V):Bool:=xs.any fun y=>um y x
theorem g6:bD X (.type "list") (fun xs H Q=>∃ p ys,xs=[.ref p] /\ (fF X.K H p ys \/ dg X.K H p ys) /\ ∀ l,H l=none -> Q (.ref l) (upd H l (.lst ys))):=by
 intro pins s σ H xs us Q I r h
 obtain ⟨p,ys,rfl,hq,q⟩:=h
 obtain ⟨u,rfl,rx⟩:=vals1 r
 cases rx
 have fin:∀ (its:List Value),Vals ys its -> ys.length <= sizeLine -> ∀ (h':Heap) (c':Nat),(∀ b o',s.heap.get? b=some o' -> h'.get? b=some o') ->
   h'.get? s.heap.objs.size=some { cls:=.type "list",dict:=none,data:=.seq its.toArray c',slots:=#[] } -> EP X pins σ Q (.ref s.heap.objs.size) { s with heap:=h' }:=fun its r' hz h' c' kp e=>
  ⟨.ref s.heap.objs.size,_,I.laid (t':=s.toks) kp (Nat.le_refl _) (show cA X.prog X.w _ h' _ (.lst ys) from ⟨hz,its,c',r',e⟩),rfl,q _ (I.hok.fresh (Nat.le_refl _))⟩
 rcases hq with hq | hq
 ·obtain ⟨its,r',pl,hz⟩:=I.list hq
  have hlen:=r'.length
  obtain ⟨o,ho,hc,n,hd⟩:=pl.isList
  exact call_list_seq p (.inl rfl) ho hc hd (fun h' c' kp e=>fin its r' hz h' c' kp e) (by simp only [List.size_toArray] <;> omega)
 ·obtain ⟨its,r',pl,hz⟩:=I.tuple hq
  have hlen:=r'.length
  obtain ⟨o,ho,hc,n,hd⟩:=pl
  exact call_list_seq p (.inr rfl) ho hc hd (fun h' c' kp e=>fin its r' hz h' c' kp e) (by simp only [List.size_toArray] <;> omega)
theorem gz:bD X (.type "tuple") (fun xs H Q=>∃ p ys,xs=[.ref p] /\ ((fF X.K H p ys /\ ∀ l,H l=none -> Q (.ref l) (upd H l (.tup ys))) \/ (dg X.K H p ys /\ Q (.ref p) H))):=by
 intro pins s σ H xs us Q I r h
 obtain ⟨p,ys,rfl,h⟩:=h
 obtain ⟨u,rfl,rx⟩:=vals1 r
 cases rx
 rcases h with ⟨hq,q⟩ | ⟨hq,q⟩
 ·obtain ⟨its,r',pl,hz⟩:=I.list hq
  have hlen:=r'.length
  refine call_tuple_list pl.isList (fun h' kp=>?_) (by simp only [List.size_toArray] <;> omega)
  have I1:Inv X pins σ H { s with heap:=h' }:=I.kept (t':=s.toks) kp
  have I2:Inv X pins σ (upd H h'.objs.size (.tup ys)) { s with heap:=h'.push { cls:=.type "tuple",data:=.seq its.toArray } }:=
   I1.laid (t':=s.toks) (fun b o e=>Heap.get?_push_of_some _ e) (Nat.le_refl _) (show cA X.prog X.w _ _ _ (.tup ys) from ⟨hz,its,r',eZ.new _ _⟩)
  exact ⟨.ref h'.objs.size,_,I2,rfl,q _ (I1.hok.fresh (Nat.le_refl _))⟩
 ·obtain ⟨its,r',pl,hz⟩:=I.tuple hq
  exact call_tuple_same pl ⟨.ref p,H,I,rfl,q⟩
def KN (K:PySem.W.Frag) (T:String) (x:V) (H:Hp):Prop:=match x with
 | .str _=>T = "str"
 | .int _=>T = "int"
 | .ref p=>(T = "list" /\ ∃ xs,fF K H p xs) \/ (T = "tuple" /\ ∃ o,K.lookup p=some o /\ o.cls=.type "tuple" /\ o.dict=none) \/
   (T = "dict" /\ ((∃ kvs,H p=some (.dK kvs)) \/ ∃ kvs,H p=some (.dT kvs))) \/ (T = "set" /\ ∃ S n,H p=some (.set S n))
 | _=>False
theorem GW {pins:List (Addr × Obj)} {σ:St} {H:Hp} {s:Shared} {T:String} {x:V} {v:Value} (I:Inv X pins σ H s) (r:RelV x v) (ty:KN X.K T x H) :
  s.TypeIs v T /\ ∀ a,v=.ref a -> ∃ ob,s.heap.get? a=some ob /\ ob.dict=none:=by
 cases x with
 | str z=>
  obtain ⟨t,rfl⟩:=r
  cases (show T = "str" from ty)
  exact ⟨typeIs_str s z t,fun _ e=>nomatch e⟩
 | int i=>
  obtain ⟨t,rfl⟩:=r
  cases (show T = "int" from ty)
  exact ⟨typeIs_int s i t,fun _ e=>nomatch e⟩
 | ref p=>
  cases r
  rcases ty with ⟨rfl,xs,hq⟩ | ⟨rfl,o,hk,hc,hd⟩ | ⟨rfl,hk⟩ | ⟨rfl,S,n,hk⟩
  ·obtain ⟨its,_,pl,_⟩:=I.list hq
   refine ⟨pl.isList.typeIs,fun a e=>?_⟩
   cases e
   obtain ⟨o,n,e,c,hd,_⟩:=pl
   exact ⟨o,e,hd⟩
  ·refine ⟨⟨o,I.mO p o hk,hc⟩,fun a e=>?_⟩
   cases e
   exact ⟨o,I.mO _ o hk,hd⟩
  ·have z:∃ o,s.heap.get? p=some o /\ o.ExactDict:=by
    rcases hk with ⟨kvs,hk⟩ | ⟨kvs,hk⟩
    ·obtain ⟨_,_,_,_,o,_,_,e,ex,_⟩:=I.hok p _ hk
     exact ⟨o,e,ex⟩
    ·obtain ⟨_,_,_,_,o,_,_,e,ex,_⟩:=I.hok p _ hk
     exact ⟨o,e,ex⟩
   obtain ⟨o,e,ex⟩:=z
   refine ⟨⟨o,e,ex.1⟩,fun a e2=>?_⟩
   cases e2
   exact ⟨o,e,ex.2.1⟩
  ·obtain ⟨o,_,_,_,e,ex,_⟩:=I.hok p _ hk
   refine ⟨⟨o,e,ex.1⟩,fun a e2=>?_⟩
   cases e2
   exact ⟨o,e,ex.2.1⟩
 | _=>exact False.elim ty
def Ml (K:PySem.W.Frag) (T:String) (r:V -> List V -> Hp -> VK -> Prop) (to:TE) (t:TA):TE:=fun σ H Q=>to σ H fun x H1=>KN K T x H1 /\ t σ H1 fun xs H2=>r x xs H2 Q
variable {o e:Expr} {es:List Expr} {to:TE} {t:TA} {name:Str} {apos cpos:Pos} {T id:String} {r:V -> List V -> Hp -> VK -> Prop}
theorem JD (pa:PlainAttrs T) (slot:Slot T name id) (hty:typeOf (.builtin id)=pure (.type "method_descriptor")) (hm:Gm X id r) (ho:PE X o to) (ha:PA X (e :: es) t)
  (hbase:attributeBase o name X.env (eval o X.env)=eval o X.env:=by rfl)
  (hfew:((backTo cpos (starEach (e :: es) X.env)).all (fun x=>!x.1) && (backToKw cpos (keywordEach [] X.env)).all (fun x=>x.1.isSome)
   && decide ((e :: es).length + ([]:List Keyword).length + (if ([]:List Keyword).isEmpty then 0 else 1) < 30))=true:=by rfl)
  (hline:(apos.endLine == cpos.line)=true:=by rfl) (hs:starEach (e :: es) X.env=(false,eval e X.env) :: starEach es X.env:=by rfl) (hplain:(backTo cpos (starEach es X.env)).any (·.1)=false:=by rfl) :
  PE X (.Call (.Attribute o name apos) (e :: es) [] cpos) (Ml X.K T r to t):=by
 intro pins s σ H Q I h
 refine wpAny_Call_method_late hbase hfew hline rfl (b9 (ho pins s σ H _ I h) fun v s1 ⟨x,H1,I1,r1,ty,q1⟩=>?_)
 obtain ⟨h1,h2⟩:=GW I1 r1 ty
 refine ⟨T,id,pa,slot,hty,h1,h2,?_⟩
 have hA:=ha cpos pins s1 σ H1 _ I1 q1
 rw [hs] at hA ⊢
 refine Calls.callWith_builtin (by show (false || (backTo cpos (starEach es X.env)).any (·.1))=false;rw [hplain] <;> rfl) (Calls.evalArgs_plain ?_)
 exact b9 hA fun us s2 ⟨vs,H2,I2,r2,q2⟩=>hm pins s2 σ H2 x vs v us Q I2 r1 r2 q2
end
end L2
namespace L2
open PySem PySem.Spec PyProof.Rows
def LG (X:Cx) (id:String) (r:V -> List V -> Hp -> VK -> Prop):Prop:=
 ∀ (pins:List (Addr × Obj)) (s:Shared) (σ:St) (H:Hp) (x:V) (xs:List V) (v:Value) (us:List Value) (Q:VK),Inv X pins σ H s -> RelV x v -> Vals xs us -> r x xs H Q ->
  wpAny (model X.prog X.w) X.A (call (.builtin id) (v :: us)) (EP X pins σ Q) X.xe s
theorem Vals.one:∀ {x:V} {us:List Value},Vals [x] us -> ∃ u,us=[u] /\ RelV x u
 | _,_,.cons r .nil=>⟨_,rfl,r⟩
theorem Vals.reverse {xs:List V} {us:List Value} (h:Vals xs us):Vals xs.reverse us.reverse:=by
 induction h with
 | nil=>exact .nil
 | cons r t ih=>rw [List.reverse_cons,List.reverse_cons];exact Vals.append ih (.cons r .nil)
theorem Vals.rep {xs:List V} {us:List Value} (h:Vals xs us):∀ k:Nat,Vals (List.replicate k xs).flatten (List.replicate k us).flatten
 | 0=>.nil
 | k + 1=>by
  rw [List.replicate_succ,List.replicate_succ,List.flatten_cons,List.flatten_cons]
  exact Vals.append h (Vals.rep h k)
theorem foldl_rep (its:List Value):∀ (k:Nat) (acc:List Value),
  List.foldl (fun x1 x2=>x1 ++ x2) acc.toArray (List.replicate k its.toArray)=(acc ++ (List.replicate k its).flatten).toArray
 | 0,acc=>by simp
 | k + 1,acc=>by
  have e:acc.toArray ++ its.toArray=(acc ++ its).toArray:=by simp
  have e2:(acc ++ its) ++ (List.replicate k its).flatten=acc ++ (List.replicate (k + 1) its).flatten:=by
   rw [List.replicate_succ,List.flatten_cons,List.append_assoc]
  rw [<- e2,<- foldl_rep its k (acc ++ its),<- e,List.replicate_succ,List.foldl_cons]
section
variable {X:Cx} {pins:List (Addr × Obj)} {σ:St} {H:Hp} {s:Shared} {l b:Addr} {xs ys zs:List V}
theorem Inv.Ji {its its':List Value} {n:Nat} {f:Array Value -> Array Value} {t':Nat} (I:Inv X pins σ H s) (hH:H l=some (.lst xs))
  (e:s.heap.get? l=some { cls:=.type "list",data:=.seq its.toArray n }) (hf:f its.toArray=its'.toArray) (hv:Vals ys its') (hz:ys.length <= sizeLine) :
  Inv X pins σ (upd H l (.lst ys)) { s with heap:=s.heap.update l (Obj.mapSeq f),toks:=t' }:=by
 have q:=PySem.IsL.update e f
 rw [hf] at q
 refine I.write (x:=l) (e:=l) (by rw [hH];exact trivial) (.inl rfl) (fun b' u hb hu=>(Heap.get?_update_other s.heap (Obj.mapSeq f) (Ne.symm hb)).trans hu) ⟨_,q⟩ ?_
 exact ⟨hz,its',_,hv,q⟩
theorem Inv.yT {its:List Value} {t':Nat} (I:Inv X pins σ H s) (hv:Vals ys its) (hz:ys.length <= sizeLine) :
  Inv X pins σ (upd H s.heap.objs.size (.lst ys)) { s with heap:=s.heap.push { cls:=.type "list",data:=.seq its.toArray },toks:=t' }:=
 I.laid (fun _ _ q=>Heap.get?_push_of_some _ q) (Nat.le_refl _) ⟨hz,its,0,hv,Heap.get?_push_size _ rfl⟩
theorem Inv.fresh (I:Inv X pins σ H s):H s.heap.objs.size=none:=I.hok.fresh (Nat.le_refl _)
theorem Inv.yD (I:Inv X pins σ H s) (hH:H l=some (.lst xs)):xs.length <= sizeLine /\ ∃ (its:List Value) (n:Nat),Vals xs its /\ xs.length=its.length /\ s.heap.get? l=some { cls:=.type "list",data:=.seq its.toArray n }:=by
 obtain ⟨z,its,n,r,e⟩:=I.hok l _ hH
 exact ⟨z,its,n,r,r.length,e⟩
theorem sI {n:Nat} (h:n <= sizeLine):Builtin.List.listTooLong n=false:=by
 unfold Builtin.List.listTooLong
 exact decide_eq_false (by omega)
end
section
variable {X:Cx}
def Ei:V -> List V -> Hp -> VK -> Prop:=fun x vs H Q=>∃ l xs y,x=.ref l /\ vs=[y] /\ H l=some (.lst xs) /\ xs.length < sizeLine /\ Q .non (upd H l (.lst (xs ++ [y])))
theorem jb:LG X "list.append" Ei:=by
 intro pins s σ H x vs v us Q I rx rv h
 obtain ⟨l,xs,y,rfl,rfl,hH,hz,q⟩:=h
 cases rx
 obtain ⟨u,rfl,ru⟩:=rv.one
 obtain ⟨z,its,n,r,hl,e⟩:=I.yD hH
 refine call_meets F.slot_list_append ⟨_,e,rfl⟩ F.entry_list_append (F.args_list_append_2 _ _) (PySem.list_append l its.toArray n u (by rw [List.size_toArray];omega)) ⟨e,?_⟩
 refine ⟨.non,_,I.Ji (its':=its ++ [u]) hH e (by simp) (r.append (.cons ru .nil)) ?_,rfl,q⟩
 rw [List.length_append,List.length_singleton]
 omega
def D5:V -> List V -> Hp -> VK -> Prop:=fun x vs H Q=>∃ l b xs zs,x=.ref l /\ vs=[.ref b] /\ H l=some (.lst xs) /\ H b=some (.lst zs) /\ xs.length + zs.length <= sizeLine /\ Q .non (upd H l (.lst (xs ++ zs)))
theorem yo:LG X "list.extend" D5:=by
 intro pins s σ H x vs v us Q I rx rv h
 obtain ⟨l,b,xs,zs,rfl,rfl,hH,hB,hz,q⟩:=h
 cases rx
 obtain ⟨u,rfl,ru⟩:=rv.one
 cases ru
 obtain ⟨z,its,n,r,hl,e⟩:=I.yD hH
 obtain ⟨z2,its2,n2,r2,hl2,e2⟩:=I.yD hB
 have hsz:its.toArray.size + its2.toArray.size <= sizeLine:=by rw [List.size_toArray,List.size_toArray];omega
 have hlong:¬ (!its.toArray.isEmpty && Builtin.List.listTooLong (its.toArray.size + its2.toArray.size))=true:=by
  rw [sI hsz,Bool.and_false]
  exact Bool.false_ne_true
 refine call_meets F.slot_list_extend ⟨_,e,rfl⟩ F.entry_list_extend (F.args_list_extend_2 _ _)
  (AutoSeq1.list_extend_list_list_0 l its.toArray n b its2.toArray n2 hlong (by rw [List.size_toArray];omega) (by omega)) ⟨e,e2,?_⟩
 refine ⟨.non,_,I.Ji (its':=its ++ its2) hH e (by simp) (r.append r2) ?_,rfl,q⟩
 rw [List.length_append]
 omega
def Kx:R2:=fun x y H Q=>∃ l b xs zs,x=.ref l /\ y=.ref b /\ H l=some (.lst xs) /\ H b=some (.lst zs) /\ xs.length + zs.length <= sizeLine /\ ∀ p,H p=none -> Q (.ref p) (upd H p (.lst (xs ++ zs)))
theorem Ih:eW X (binaryOp .Add) Kx:=by
 intro pins s σ H x y v u Q I rx ry h
 obtain ⟨l,b,xs,zs,rfl,rfl,hH,hB,hz,q⟩:=h
 cases rx
 cases ry
 obtain ⟨z,its,n,r,hl,e⟩:=I.yD hH
 obtain ⟨z2,its2,n2,r2,hl2,e2⟩:=I.yD hB
 refine PySem.P.add_list e e2 ?_ (by rw [List.size_toArray,List.size_toArray];omega)
 have ea:its.toArray ++ its2.toArray=(its ++ its2).toArray:=by simp
 rw [ea]
 exact ⟨.ref _,_,I.yT (t':=s.toks) (r.append r2) (by rw [List.length_append];omega),rfl,q _ I.fresh⟩
def Lb:R2:=fun x y H Q=>∃ l k xs,x=.ref l /\ y=.int k /\ H l=some (.lst xs) /\ -(2 ^ 63) <= k /\ k < 2 ^ 63 /\ xs.length * k.toNat <= sizeLine /\
 ∀ p,H p=none -> Q (.ref p) (upd H p (.lst (List.replicate k.toNat xs).flatten))
theorem len_rep {α:Type} (xs:List α) (k:Nat):(List.replicate k xs).flatten.length=k * xs.length:=by
 induction k with
 | zero=>simp
 | succ k ih=>rw [List.replicate_succ,List.flatten_cons,List.length_append,ih,Nat.succ_mul,Nat.add_comm]
theorem HM:eW X (binaryOp .Mult) Lb:=by
 intro pins s σ H x y v u Q I rx ry h
 obtain ⟨l,k,xs,rfl,rfl,hH,h1,h2,hz,q⟩:=h
 cases rx
 obtain ⟨t,rfl⟩:=ry
 obtain ⟨z,its,n,r,hl,e⟩:=I.yD hH
 have hlen:its.toArray.size * k.toNat <= sizeLine:=by rw [List.size_toArray,<- hl];exact hz
 have hcap:¬ its.toArray.size * k.toNat > (2 ^ 63 - 1) / 8:=by
  have:(sizeLine:Nat) <= (2 ^ 63 - 1) / 8:=by decide
  omega
 have hfit:¬ (!Builtin.List.listFitsIndex k)=true:=by
  rw [fitsIndex_both h1 h2]
  exact Bool.false_ne_true
 have hlong:¬ Builtin.List.listTooLong (its.toArray.size * k.toNat)=true:=by
  rw [sI hlen]
  exact Bool.false_ne_true
 have hnew:List.foldl (fun x1 x2=>x1 ++ x2) #[] (List.replicate (if its.toArray.isEmpty=true then 0 else k.toNat) its.toArray)=(List.replicate k.toNat its).flatten.toArray:=by
  have f0:∀ m:Nat,List.foldl (fun x1 x2=>x1 ++ x2) #[] (List.replicate m its.toArray)=(List.replicate m its).flatten.toArray:=fun m=>by
   have:=foldl_rep its m []
   rw [List.nil_append] at this
   exact this
  rw [f0]
  cases its with
  | nil=>simp
  | cons a r'=>rw [if_neg (by simp)]
 refine wpAny_binaryOp_repeat_ref (T := "list") (U := "int") (by decide) ⟨_,e,rfl⟩ (fun s'=>typeIs_int s' k t) noFill_list_mul F.fills_int_mul F.slot_int_rmul repeat_list F.slot_int_index.lookup
  (call_meets F.slot_int_rmul (typeIs_int s k t) F.entry_int_rmul (F.args_int_rmul_2 _ _) (int___rmul___int_list k t l its.toArray n)
   ⟨e,rfl,⟨_,e,rfl⟩,call_meets F.slot_list_mul ⟨_,e,rfl⟩ F.entry_list_mul (F.args_list_mul_2 _ _) (AutoListH.list___mul___list_int_3 l its.toArray n k t hfit hcap hlong) ⟨e,?_⟩⟩)
 rw [hnew]
 exact ⟨.ref _,_,I.yT (t':=s.toks) (r.rep k.toNat) (by rw [len_rep,Nat.mul_comm];exact hz),rfl,q _ I.fresh⟩
end
section
variable {prog:Program} {w:World} {A:Around} {E:Value -> Shared -> Prop} {s:Shared}
end
section
variable {X:Cx}
end
end L2
namespace Att
open PySem PySem.W PySem.Calls PyProof.Rows
theorem mJ {P:Params} {h:Heap}:∀ (ns:List Int) (vs:List Value),WellAll P h vs (ns.map WData.int) -> IntsAre vs ns:=by
 intro ns
 induction ns with
 | nil=>
  intro vs w
  rw [List.map_nil] at w
  cases w
  exact .nil
 | cons n ns ih=>
  intro vs w
  rw [List.map_cons] at w
  cases w with
  | cons a b=>
   cases a
   exact .cons _ _ (ih _ b)
theorem ym {l:OpenLaw} {n:Nat} (hn:l.most=some n) {P:Params} {h:Heap} {args:List WData} {vals:List Value}
  (hpre:l.row.toRowW.claim.pre args=true) (hwl:WellAll P h vals args) :
  ∃ a vs ns,vals=[Value.ref a] /\ args=[WData.list (ns.map WData.int)] /\ h.get? a=some { cls:=.type "list",data:=.seq vs.toArray } /\ IntsAre vs ns /\ ns.length <= n:=by
 have hsh:WShape.hasAll [] args [.list .int]=true:=(pre_splitW hpre).1
 have hc:l.pre.holds [] { args:=args }=true:=(pre_splitW hpre).2
 obtain ⟨d,r,rfl,h1,h2⟩:=hasAllW_cons hsh
 obtain rfl:=hasAllW_nil h2
 obtain ⟨xs,rfl,h3⟩:=hasW_list h1
 obtain ⟨ns,rfl⟩:=items_int h3
 have hlen:ns.length <= n:=by
  unfold OpenLaw.pre at hc
  have h4:(WTm.not (.lt (.lit (.int (n:Int))) (.len (.arg 0)))).holds [] { args:=[.list (ns.map .int)] }=true:=by
   have h4:=(holds_andW hc).1
   rw [hn] at h4
   exact h4
  have h5:=condW_of h4 (w_not (w_lt w_lit (w_len_list (w_arg rfl))))
  rw [List.length_map] at h5
  refine Nat.le_of_not_lt fun q=>?_
  have q':(n:Int) < ((ns.length:Nat):Int):=by omega
  first
   | (rw [decide_eq_true q'] at h5;exact absurd h5 (by decide))
   | (simp at h5;omega)
 cases hwl with
 | cons w1 w2=>
  cases w2
  cases w1 with
  | list ho hall=>exact ⟨_,_,ns,rfl,rfl,ho,mJ ns _ hall,hlen⟩
theorem yQ (l:OpenLaw) (args:List WData):l.row.toRowW.claim.post args (.bool true) args=true:=
 postW_of (r:=l.row.toRowW) (X:=(true == true))
  (show WShape.has [] (.bool true) .bool=true by first | rfl | decide | simp [WShape.has,WShape.arms,WShape.armsAll])
  (show (WTm.eq .res (.lit (.bool true))).value [] { args:=args,res:=some (.bool true),after:=args }=some (.bool (true == true)) from w_eq_bool (w_res rfl) w_lit) rfl
theorem uf {l:OpenLaw} {n:Nat} {q:Program} {loose:List Str} {XP:(Str -> Option Value) -> Heap -> Prop} {YP:World -> Heap -> Prop} {d:DefRec}
  (hn:l.most=some n) (hdf:d.params.defaults=[])
  (call:∀ (w:World) (s₀ s₁:Shared) (mg mb:Str -> Option Value) (fa:Addr) (o:Obj) (pm cd doc:Value) (a:Addr) (vs:List Value) (ns:List Int),
   Ground q loose [] XP w s₀ mg mb s₁.heap -> YP w s₁.heap ->
   s₁.heap.get? fa=some o -> o.data=.func (docDef d.name d.params d.body d.scope pm cd doc) -> s₁.heap.CodeRec cd d.name -> mg d.name=some (.ref fa) ->
   s₁.heap.get? a=some { cls:=.type "list",data:=.seq vs.toArray } -> IntsAre vs ns -> ns.length <= n -> s₁.gens=#[] ->
   codeAny (model l.prog w) callerA (.call (.ref fa) ⟨[.ref a],[]⟩) (fun r s'=>r=.ok (.ret (.bool true)) /\ OldK s₁.heap s'.heap /\ s'.os=s₁.os /\ AllBare s'.gens) s₁) :
  WalkO q loose XP YP l.row.toRowW d [] (fun f vs=>PySem.call f vs):=by
 intro w s₀ s₁ mg mb G Y fa o pm cd doc dV kV ho hd hcd hD hmg hg args vals as hpre hlay hrd hwl hlo
 obtain rfl:dV=.none:=Dflts.none hD hdf
 obtain rfl:kV=.none:=Dflts.noKw hD
 obtain ⟨a,vs,ns,rfl,rfl,hobj,hints,hlen⟩:=ym hn hpre hwl
 refine enter_call (codeAny_mono (call w s₀ s₁ mg mb fa o pm cd doc a vs ns G Y ho (fd_plain hd) hcd hmg hobj hints hlen hg) fun r s' hq=>?_)
 obtain ⟨rfl,h2,h3,h4⟩:=hq
 exact ⟨.inl ⟨.bool true,.bool true,[],rfl,fun _=>rfl,.bool true,yQ l _,fun _=>⟨List.Pairwise.nil,fun _ hm=>(nomatch hm)⟩⟩,h2,h3,h4⟩
section
variable {prog:Program} {w:World} {A:Around} {E:Value -> Shared -> Prop} {s:Shared} {K:Frag}
end
end Att
namespace L2
open PySem PySem.Spec PyProof.Rows
theorem pK:∀ {vs:List Value} {ns:List Int},IntsAre vs ns -> Vals (ns.map V.int) vs
 | _,_,.nil=>.nil
 | _,_,.cons n t h=>.cons ⟨t,rfl⟩ (pK h)
def Dz (H:Hp):Prop:=∀ b,H b=none \/ ∃ o xs,H b=some (.frz o (.lst xs))
theorem B_ {P:Program} {w:World} {K:PySem.W.Frag} {mg mb:Str -> Option Value} {CX:zd} {k:Nat} {fa a:Addr} {fd:FuncData} {x:Str} {sp:Sp} {s₁:Shared} {vs:List Value} {ns:List Int}
  (KX:K.In s₁.heap) (hns:s₁.heap.Ns mainGlobals mg) (hb:s₁.heap.Ns builtinsNs mb) (hbb:∀ x:Str,x ≠ "__name__" -> mb x=bootBuiltins x) (hlim:s₁.heap.NoLimit) (hg:s₁.gens=#[])
  (ha:s₁.heap.get? a=some { cls:=.type "list",data:=.seq vs.toArray }) (hi:IntsAre vs ns) (hl:ns.length <= sizeLine) (hr:Room k callerA)
  (F:∀ base:Heap,K.In base -> base.Ns mainGlobals mg -> FnOk P w K mg base CX k fa fd [x] sp) (hbind:∀ (s:Shared) (u:Value),BindsTo s fd ⟨[u],[]⟩ [(x,u)])
  (hsp:∀ H:Hp,Dz H -> fF K H a (ns.map V.int) -> sp [.ref a] H (fun v _=>v=.bl true) fun _ _ _=>False)
  (hCX:∀ H e s',CX [] H s₁ (fun _ _ _=>False) e s' -> False) :
  codeAny (model P w) callerA (.call (.ref fa) ⟨[.ref a],[]⟩) (fun r s'=>r=.ok (.ret (.bool true)) /\ OldK s₁.heap s'.heap /\ s'.os=s₁.os /\ AllBare s'.gens) s₁:=by
 have rv:=pK hi
 have lenV:=hi.length
 have core:∀ H:Hp,Dz H -> fF K H a (ns.map V.int) -> jt P w H s₁.heap -> (∀ b,H b ≠ none -> b=a) -> (H a ≠ none -> K.lookup a=none) ->
   codeAny (model P w) callerA (.call (.ref fa) ⟨[.ref a],[]⟩) (fun r s'=>r=.ok (.ret (.bool true)) /\ OldK s₁.heap s'.heap /\ s'.os=s₁.os /\ AllBare s'.gens) s₁:=by
  intro H hO hS hok hA hK
  have base_of:∀ {b:Addr} {o:Obj},s₁.heap.get? b=some o -> H b=none -> (qN s₁.heap H).get? b=some o:=fun e n=>CW e n
  have noA:∀ {b:Addr} {o:Obj} {es:Array DictEntry} {ep:Nat},s₁.heap.get? b=some o -> o.data=.dict es ep -> H b=none:=fun {b o es ep} e d=>by
   cases q:H b with
   | none=>rfl
   | some u=>
    have e':b=a:=hA b (by rw [q];simp)
    subst e'
    rw [ha] at e;cases e
    have d':Data.seq vs.toArray _=Data.dict es ep:=d
    cases d'
  have nsK:∀ {b:Addr} {m:Str -> Option Value},s₁.heap.Ns b m -> (qN s₁.heap H).Ns b m:=fun {b m} ⟨o,es,ep,e,d,r⟩=>⟨o,es,ep,base_of e (noA e d),d,r⟩
  have hKb:K.In (qN s₁.heap H):=fun b o e=>base_of (KX b o e) (by
   cases q:H b with
   | none=>rfl
   | some u=>
    have e':b=a:=hA b (by rw [q];simp)
    subst e'
    rw [hK (by rw [q];simp)] at e;cases e)
  have hM:Mod K mg (qN s₁.heap H):=⟨hKb,nsK hns,⟨mb,nsK hb,hbb⟩,let ⟨mc,h1,h2⟩:=hlim;⟨mc,nsK h1,h2⟩⟩
  have e0:Env0 P w K mg (qN s₁.heap H) callerA [] s₁ H:=⟨rfl,hM,fun b o e=>Em e,Nat.le_of_eq (yp _ _),trivial,fun b hb=>absurd (show b ∈ ([]:List Addr) from hb) (by simp),hok,.of_eq hg⟩
  refine codeAny_mono ((F _ hKb (nsK hns)).run callerA [] s₁ H ⟨[.ref a],[]⟩ [.ref a] [.ref a] _ _ hr e0 (hbind s₁ (.ref a)) (.cons rfl .nil) (hsp H hO hS)) fun r s' h=>?_
  cases r with
  | error e=>exact (hCX H e s' h).elim
  | ok fl=>
   cases fl with
   | next=>exact False.elim h
   | brk=>exact False.elim h
   | cont=>exact False.elim h
   | ret u=>
    obtain ⟨v,H',os,bare,un,hok',r',q⟩:=h
    have q':v=.bl true:=q
    subst q'
    obtain rfl:u=Value.bool true:=r'
    refine ⟨rfl,OldK.of_keep fun b o e=>?_,os,bare⟩
    cases q:H b with
    | none=>exact un.keep b o e q (by intro z;exact absurd (show b ∈ ([]:List Addr) from z) (by simp)) (by simp)
    | some u=>
     rcases hO b with z | ⟨ob,xs,z⟩
     ·rw [q] at z;cases z
     ·have z2:=un.frzs b ob _ z
      obtain ⟨e1,_⟩:=hok b _ z
      obtain ⟨e2,_⟩:=hok' b _ z2
      rw [e] at e1;cases e1
      exact e2
 cases hk:K.lookup a with
 | some o=>
  have e:=KX a o hk
  rw [ha] at e
  cases e
  refine core (fun _=>none) (fun _=>.inl rfl) (.inr ⟨_,vs.toArray,_,hk,rfl,rfl,rfl,by rw [List.size_toArray,lenV];exact hl,by simpa using rv⟩) (fun b u z=>by have z':(none:Option HO)=some u:=z;cases z') (fun b z=>absurd rfl z) fun z=>absurd rfl z
 | none=>
  refine core (fun b=>if b=a then some (.frz { cls:=.type "list",data:=.seq vs.toArray } (.lst (ns.map V.int))) else none) (fun b=>?_) (.inl (.inr ⟨{ cls:=.type "list",data:=.seq vs.toArray },if_pos rfl⟩)) (fun b u z=>?_) (fun b z=>?_) fun _=>hk
  ·by_cases hb:b=a
   ·exact .inr ⟨_,_,if_pos hb⟩
   ·exact .inl (if_neg hb)
  ·by_cases hb:b=a
   ·have z':=(if_pos hb).symm.trans z
    cases z'
    subst hb
    exact ⟨ha,by rw [List.length_map];exact hl,vs,_,rv,ha⟩
   ·have z':=(if_neg hb).symm.trans z
    cases z'
  ·by_cases hb:b=a
   ·exact hb
   ·exact absurd (if_neg hb) z
end L2
namespace L2
open PySem PySem.Spec PyProof.Rows
theorem Dr {l:PySem.W.OpenLaw} {n k:Nat} {q:Program} {loose:List Str} {XP:(Str -> Option Value) -> Heap -> Prop} {YP:World -> Heap -> Prop} {d:DefRec} {K:Params -> PySem.W.Frag} {CX:World -> zd} {sp:World -> Sp} {x:Str}
  (hn:l.most=some n) (hn2:n <= sizeLine) (hdf:d.params.defaults=[]) (hr:Room k callerA)
  (hY:∀ (w:World) (h:Heap),YP w h -> (K w.params).In h)
  (F:∀ (w:World) (mg:Str -> Option Value) (fa:Addr) (h:Heap),(K w.params).In h -> h.Ns mainGlobals mg -> mg d.name=some (.ref fa) ->
   ∃ fd:FuncData,(∀ (s:Shared) (u:Value),BindsTo s fd ⟨[u],[]⟩ [(x,u)]) /\
    ∀ base:Heap,(K w.params).In base -> base.Ns mainGlobals mg -> FnOk l.prog w (K w.params) mg base (CX w) k fa fd [x] (sp w))
  (hsp:∀ (w:World) (H:Hp) (a:Addr) (ns:List Int),ns.length <= n -> Dz H -> fF (K w.params) H a (ns.map V.int) -> sp w [.ref a] H (fun v _=>v=.bl true) fun _ _ _=>False)
  (hCX:∀ (w:World) (H:Hp) (s:Shared) (e:Value) (s':Shared),CX w [] H s (fun _ _ _=>False) e s' -> False) :
  PySem.W.WalkO q loose XP YP l.row.toRowW d [] (fun f vs=>PySem.call f vs):=by
 refine Att.uf hn hdf fun w s₀ s₁ mg mb fa o pm cd doc a vs ns G Y ho hd hcd hmg hobj hints hlen hg=>?_
 have KX:=hY w _ Y
 obtain ⟨fd,hb,hF⟩:=F w mg fa _ KX G.T.g hmg
 exact B_ KX G.T.g G.T.b G.T.builtins G.T.nolimit hg hobj hints (Nat.le_trans hlen hn2) hr hF hb (fun H hO hS=>hsp w H a ns hlen hO hS) fun H e s'=>hCX w H s₁ e s'
end L2
namespace L2
open PySem PySem.Spec PyProof.Rows
def aW (s:Stmt):Arguments:=match s with
 | .FunctionDef _ a _ _ _ _ _ _ _ _=>a
 | _=>{ posonlyargs:=[],args:=[],vararg:=none,kwonlyargs:=[],kw_defaults:=[],kwarg:=none,defaults:=[] }
def aV (s:Stmt):List Stmt:=match s with
 | .FunctionDef _ _ b _ _ _ _ _ _ _=>b
 | _=>[]
def aC (s:Stmt):Scope:=match s with
 | .FunctionDef _ _ _ _ _ _ sc _ _ _=>sc
 | _=>{ kind:=.function,names:=[],isGenerator:=false,isCoroutine:=false }
abbrev jh:zd:=fun _ _ _ _ _ _=>False
abbrev E0:XK:=fun _ _ _=>False
theorem Jv {X:Cx}:Passes jh X E0:=fun _ _ _ _ _ _ _ h=>h.elim
structure Fun (K:PySem.W.Frag) (x qual:Str) (st:Stmt) (f:Addr) (fd:FuncData):Prop where
 ex:∃ (oc:Value) (od:Option Addr) (kV doc pm:Value) (an:Option Addr) (cdv ct:Value) (osl:Array (Option Value)),
  fd=PySem.W.fnOf x qual (aW st) (aV st) (aC st) .none kV doc pm an cdv ct /\ K.lookup f=some ⟨oc,od,.func fd,osl⟩ /\ PySem.W.codeIn K cdv qual=true
 kp:PySem.W.keepIn K (.ref f)=true
section
variable {P:Program} {w:World} {K:PySem.W.Frag} {mg:Str -> Option Value} {base:Heap}
theorem Fun.ok {x qual:Str} {st:Stmt} {f:Addr} {fd:FuncData} {N ps:List Str} {k:Nat} {sp:Sp} (F:Fun K x qual st f fd) (S:FnScope N ps (aC st)) (len:∀ vs H Q E,sp vs H Q E -> vs.length=ps.length)
  (hbody:∀ (cdv:Value) (A:Around) (outer:List Env) (s:Shared) (H:Hp) (vs:List V) (Q:VK) (E:XK),Room k (A.deeper (envOfC qual (aC st) s.heap.objs.size f cdv)) -> sp vs H Q E ->
   ∃ t,qd (mF jh P w K mg base N qual (aC st) f cdv A outer s H E).JZ (aV st) t /\ t { nx:=fun _ H'=>Q .non H',rt:=Q } (start N vs) H):FnOk P w K mg base jh (k + 1) f fd ps sp:=by
 obtain ⟨oc,od,kV,doc,pm,an,cdv,ct,osl,rfl,lk,hcd⟩:=F.ex
 refine Fi lk hcd S len fun A outer s H vs Q E hr hsp=>?_
 obtain ⟨t,h,q⟩:=hbody cdv A outer s H vs Q E hr hsp
 exact ⟨t,h.JZ,q⟩
theorem Fun.binds {x qual:Str} {st:Stmt} {f:Addr} {fd:FuncData} {ps:List Str} (F:Fun K x qual st f fd)
  (h:∀ (kV doc pm:Value) (an:Option Addr) (cdv ct:Value) (us:List Value),us.length=ps.length -> bindArgs (PySem.W.fnOf x qual (aW st) (aV st) (aC st) .none kV doc pm an cdv ct) ⟨us,[]⟩=pure (ps.zip us)):Binds K fd ps []:=by
 obtain ⟨oc,od,kV,doc,pm,an,cdv,ct,osl,rfl,lk,hcd⟩:=F.ex
 exact .all (h kV doc pm an cdv ct)
theorem bG {x qual:Str} {st:Stmt} {f:Addr} {oc:Value} {od an:Option Addr} {osl:Array (Option Value)} {kV doc pm cdv ct:Value} (l:K.lookup f=some ⟨oc,od,.func (PySem.W.fnOf x qual (aW st) (aV st) (aC st) .none kV doc pm an cdv ct),osl⟩)
  (c:PySem.W.codeIn K cdv qual=true) (k:PySem.W.keepIn K (.ref f)=true):Fun K x qual st f (PySem.W.fnOf x qual (aW st) (aV st) (aC st) .none kV doc pm an cdv ct):=⟨⟨oc,od,kV,doc,pm,an,cdv,ct,osl,rfl,l,c⟩,k⟩
end
section
variable {X:Cx}
end
end L2
set_option maxHeartbeats 4000000
namespace L2
open PySem PySem.Spec PyProof.Rows
def DH (σ:St):Option Nat -> Option V
 | some j=>(σ[j]?).getD none
 | none=>none
def iF (env:Env):List (Str × NameKind) -> List (Str × Addr) -> List (Str × Addr)
 | [],cs=>cs
 | (n,k) :: r,cs=>iF env r (if k == .free then (n,(env.cells.lookup n).getD 0) :: cs else cs)
theorem jP {scope:Scope} {env:Env} (h:∀ y ∈ scope.names,y.2=.free -> ∃ c,env.cells.lookup y.1=some c):closureFor scope env=pure (iF env scope.names []):=by
 have key:∀ (l:List (Str × NameKind)) (cs:List (Str × Addr)),(∀ y ∈ l,y.2=.free -> ∃ c,env.cells.lookup y.1=some c) ->
   (forIn l cs (fun (x:Str × NameKind) (r:List (Str × Addr))=>(match x with
    | (name,kind)=>if (kind == NameKind.free)=true then (do let c <- cellOf env name;pure (ForInStep.yield ((name,c) :: r))) else pure (ForInStep.yield r):Sem (ForInStep (List (Str × Addr))))))=(pure (iF env l cs):Sem (List (Str × Addr))):=by
  intro l
  induction l with
  | nil=>intro cs _;rfl
  | cons y r ih=>
   intro cs hl
   obtain ⟨n,k⟩:=y
   rw [List.forIn_cons]
   by_cases hk:k=.free
   ·subst hk
    obtain ⟨c,hc⟩:=hl (n,.free) List.mem_cons_self rfl
    have e1:cellOf env n=pure c:=by
     unfold cellOf
     rw [hc]
    simp only [beq_self_eq_true,if_true,e1,pure_bind]
    rw [ih _ (fun z hz=>hl z (List.mem_cons_of_mem _ hz))]
    simp only [iF,beq_self_eq_true,if_true,hc,Option.getD_some]
   ·have hb:(k == NameKind.free)=false:=by simpa using hk
    simp only [hb,Bool.false_eq_true,if_false,pure_bind]
    rw [ih _ (fun z hz=>hl z (List.mem_cons_of_mem _ hz))]
    simp only [iF,hb,Bool.false_eq_true,if_false]
 have:=key scope.names [] h
 exact (congrArg (fun z=>z >>= fun cs=>(pure cs:Sem (List (Str × Addr)))) this).trans (pure_bind _ _)
theorem oW:∀ {l:List (Str × NameKind)} {x:Str} {k:NameKind},l.lookup x=some k -> (x,k) ∈ l
 | [],_,_,h=>nomatch h
 | (n,k') :: r,x,k,h=>by
  rw [List.lookup_cons] at h
  cases hx:x == n with
  | true=>
   rw [hx] at h
   have e:x=n:=by simpa using hx
   subst e
   cases h
   exact List.mem_cons_self
  | false=>rw [hx] at h;exact List.mem_cons_of_mem _ (oW h)
theorem pN {env:Env} {x:Str} {c:Addr}:∀ {l:List (Str × NameKind)} {cs:List (Str × Addr)},(∀ y ∈ l,y.2=.free -> ∃ c,env.cells.lookup y.1=some c) -> (iF env l cs).lookup x=some c -> env.cells.lookup x=some c \/ cs.lookup x=some c
 | [],cs,_,h=>.inr h
 | (n,k) :: r,cs,hl,h=>by
  have h':=pN (l:=r) (fun z hz=>hl z (List.mem_cons_of_mem _ hz)) h
  rcases h' with h' | h'
  ·exact .inl h'
  ·by_cases hk:k=.free
   ·subst hk
    simp only [beq_self_eq_true,if_true] at h'
    obtain ⟨c',hc⟩:=hl (n,.free) List.mem_cons_self rfl
    rw [hc,Option.getD_some,List.lookup_cons] at h'
    cases hx:x == n with
    | true=>
     rw [hx] at h'
     have e:x=n:=by simpa using hx
     subst e
     left
     rw [hc];exact h'
    | false=>rw [hx] at h';exact .inr h'
   ·have hb:(k == NameKind.free)=false:=by simpa using hk
    simp only [hb,Bool.false_eq_true,if_false] at h'
    exact .inr h'
theorem pP {env:Env} {x:Str}:∀ {l:List (Str × NameKind)} {cs:List (Str × Addr)},(cs.lookup x).isSome=true -> ((iF env l cs).lookup x).isSome=true
 | [],cs,h=>h
 | (n,k) :: r,cs,h=>by
  show ((iF env r _).lookup x).isSome=true
  refine pP (l:=r) ?_
  by_cases hk:(k == NameKind.free)=true
  ·rw [if_pos hk,List.lookup_cons]
   cases hx:x == n with
   | true=>rfl
   | false=>exact h
  ·rw [if_neg hk];exact h
theorem ng {env:Env} {x:Str}:∀ {l:List (Str × NameKind)} {cs:List (Str × Addr)},(x,NameKind.free) ∈ l -> ((iF env l cs).lookup x).isSome=true
 | [],_,h=>nomatch h
 | (n,k) :: r,cs,h=>by
  rcases List.mem_cons.mp h with e | h
  ·cases e
   show ((iF env r _).lookup x).isSome=true
   refine pP (l:=r) ?_
   rw [if_pos (by rfl),List.lookup_cons]
   simp
  ·exact ng (l:=r) h
def bL (X:Cx) (scope:Scope) (N:List Str) (C:Addr) (s₀:Shared) (H₀:Hp) (ex:List Addr):Cx where
 prog:=X.prog
 w:=X.w
 K:=X.K
 mg:=X.mg
 base:=X.base
 A:=X.A
 N:=N
 s₀:=s₀
 H₀:=H₀
 env:=compEnvC scope (iF X.env scope.names []) C X.env
 outer:=X.stack
 stack:=X.stack
 ex:=ex
 fn:=fun _=>false
 calm:=X.calm
 pn:=[]
 xe:=fun _ _=>False
structure CpScope (X:Cx) (scope:Scope) (N:List Str) (cap:List (Option Nat)):Prop where
 kind:scope.kind=.function
 nocell:∀ y ∈ scope.names,y.2 ≠ .cell
 nm:∀ y ∈ scope.names,y.2=.local -> scope.names.lookup y.1=some .local
 fr:∀ y ∈ scope.names,y.2=.free -> X.env.kindOf y.1=some .cell \/ X.env.kindOf y.1=some .free
 rl:∀ y,((relabel scope X.env).names.lookup y=some .cell \/ (relabel scope X.env).names.lookup y=some .free) -> (y,NameKind.free) ∈ scope.names
 len:cap.length=N.length
 nolf:∀ x,(x,NameKind.free) ∈ scope.names -> scope.names.lookup x ≠ some .local
 cp:∀ (i j:Nat) (x:Str),N[i]?=some x -> cap[i]?=some (some j) -> X.N[j]?=some x /\ (x,NameKind.free) ∈ scope.names
theorem uT {X:Cx} {scope:Scope} {N:List Str} {cap:List (Option Nat)} {pins:List (Addr × Obj)} {σ:St} {H:Hp} {s:Shared} {fp:List Addr} {h₁:Heap} {m:Str -> Option Value} {tk:Nat} (S:CpScope X scope N cap) (I:Inv X pins σ H s)
  (hf:∀ b ∈ fp,g9 X pins H b) (ho:∀ b ∈ fp,∃ o,s.heap.get? b=some o) (hn:h₁.Ns s.heap.objs.size m) (hk:∀ b o,s.heap.get? b=some o -> h₁.get? b=some o) :
  Inv (bL X scope N s.heap.objs.size s H fp) [] (cap.map (DH σ)) H { s with heap:=h₁,toks:=tk }:=by
 have hfree:∀ y ∈ scope.names,y.2=.free -> ∃ c,X.env.cells.lookup y.1=some c:=fun y hy e=>I.ok.has _ (S.fr y hy e)
 have lk:∀ x c,(iF X.env scope.names []).lookup x=some c -> X.env.cells.lookup x=some c:=fun x c e=>by
  rcases pN hfree e with z | z
  ·exact z
  ·cases z
 have lt:∀ b o,s.heap.get? b=some o -> b ≠ s.heap.objs.size:=fun b o e=>Nat.ne_of_lt (Heap.lt_size e)
 refine ⟨⟨I.ok.mod,?_,I.ok.glob,I.ok.blt,Nat.le_refl _,?_,?_,?_,I.ok.hd,I.ok.frames,.inl rfl,?_,I.bs,Nat.le_trans I.ok.bsz I.sz,?_,?_,I.stack,I.mZ⟩,rfl,I.bare,Un.kept hk,?_,?_,I.hok.fresh (Nat.le_refl _),?_,?_,I.hok.kept hk,?_⟩
 ·exact S.kind
 ·intro x y c e1 e2
  exact I.ok.inj x y c (lk x c e1) (lk y c e2)
 ·intro x e
  have hm:=S.rl x e
  have:=ng (env:=X.env) (cs:=[]) hm
  exact Option.isSome_iff_exists.mp this
 ·intro x c e _
  exact absurd e (by simp [bL])
 ·intro b hb
  obtain ⟨o,e⟩:=ho b hb
  refine ⟨lt b o e,fun x c e2=>(hf b hb).2.2.2.2.1 x c (lk x c e2)⟩
 ·intro b o e hb
  obtain ⟨_,_,_,h3,_⟩:=hf b hb
  rcases h3 with z | z
  ·exact I.ok.noex b o e z
  ·exact absurd (Nat.lt_of_lt_of_le (Heap.lt_size (I.ok.bs b o e).1) z) (Nat.lt_irrefl _)
 ·intro b hb hz
  obtain ⟨_,h1,h2,_⟩:=hf b hb
  rcases List.mem_cons.mp (I.kW b hz) with z | z
  ·exact h1 z
  ·exact h2 z
 ·refine ⟨m,hn,fun i x v e1 e2 e3=>?_⟩
  rw [List.getElem?_map] at e2
  cases hc:cap[i]? with
  | none=>rw [hc] at e2;cases e2
  | some oj=>
   rw [hc] at e2
   cases oj with
   | none=>cases e2
   | some j=>
    have e2':(σ[j]?).getD none=some v:=Option.some.inj e2
    obtain ⟨hj,hm⟩:=S.cp i j x e1 hc
    obtain ⟨m0,hn0,hl0⟩:=I.loc
    have hσ:σ[j]?=some (some v):=by
     cases h:σ[j]? with
     | none=>rw [h] at e2';cases e2'
     | some z=>rw [h,Option.getD_some] at e2';rw [e2']
    have hkd:=S.fr (x,.free) hm rfl
    have hv:I0 X.env.scope x:=.inr hkd
    obtain ⟨u,ru,lo⟩:=hl0 j x v hj hσ hv
    refine ⟨u,ru,?_⟩
    rcases lo with ⟨lo,_⟩ | ⟨_,c,ec,ic⟩
    ·rcases hkd with z | z <;> (rw [z] at lo;cases lo)
    ·have h2:=ng (env:=X.env) (cs:=[]) hm
     obtain ⟨c',hc'⟩:=Option.isSome_iff_exists.mp h2
     have:c'=c:=Option.some.inj ((lk x c' hc').symm.trans ec)
     subst this
     refine .inr ⟨?_,c',hc',?_⟩
     ·rcases e3 with z | z | z
      ·exfalso
       have:(relabel scope X.env).names.lookup x=some .local:=z
       have hloc:scope.names.lookup x=some .local:=by
        have hmem:∃ k,(x,k) ∈ (relabel scope X.env).names /\ k=.local:=by
         clear hc' h2
         have:=oW this
         exact ⟨_,this,rfl⟩
        obtain ⟨k,hk1,rfl⟩:=hmem
        obtain ⟨⟨n',k'⟩,hm1,hm2⟩:=List.mem_map.mp hk1
        dsimp only at hm2
        split at hm2
        ·cases hm2
        ·cases hm2
         exact S.nm (x,.local) hm1 rfl
       exact False.elim (S.nolf x hm hloc)
      ·exact .inl z
      ·exact .inr z
     ·obtain ⟨o,ho',hd⟩:=ic
      exact ⟨o,hk _ _ ho',hd⟩
 ·intro x c e
  obtain ⟨v,o,ho',hd⟩:=I.cell x c (lk x c e)
  exact ⟨v,o,hk _ _ ho',hd⟩
 ·intro x c e
  exact I.freeC x c (lk x c e)
 ·intro p hp
  cases hp
 ·rw [List.length_map,S.len]
  rfl
def C1 (X:Cx) (ifs:List Expr) (t:TT):Prop:=
 ∀ (pins:List (Addr × Obj)) (s:Shared) (σ:St) (H:Hp) (Q:Bool -> Hp -> Prop),Inv X pins σ H s -> t σ H Q ->
  wpAny (model X.prog X.w) X.A (forIn ifs true fun c r=>if r=true then do let ok <- isTrue c X.env (eval c X.env);pure (ForInStep.yield ok) else pure (ForInStep.yield r)) (TP X pins σ Q) X.xe s
def Lv:TT:=fun _ H Q=>Q true H
theorem Eu {X:Cx}:C1 X [] Lv:=fun _ _ _ H _ I h=>wpAny_tests_nil ⟨H,I,h⟩
theorem DQ {X:Cx} {c:Expr} {t:TT} (h:PT X c t):C1 X [c] t:=fun pins s σ H Q I q=>wpAny_tests_one (h pins s σ H Q I q)
def Gh (cap:List (Option Nat)) (g:TG) (tc:TT) (te:TE) (σ:St) (Q:VK) (J:It) (H1:Hp):Prop:=∀ D,H1 D=none ->
 ∃ W:Nat -> Nat -> St -> Hp -> Prop,(∃ m,W 0 m (cap.map (DH σ)) (upd H1 D (.lst []))) /\ ∀ i m σ' H',W i m σ' H' ->
  (J.stop i H' /\ Q (.ref D) H') \/ (J.go i H' /\ ∀ x H2,J.yld i H' x H2 -> g x σ' H2 fun σ3 H3=>tc σ3 H3 fun b H4=>
   if b=true then te σ3 H4 fun y H5=>∃ ys,H5 D=some (.lst ys) /\ ys.length < sizeLine /\ ∃ m',m' < m /\ W (i + 1) m' σ3 (upd H5 D (.lst (ys ++ [y])))
   else ∃ m',m' < m /\ W (i + 1) m' σ3 H4)
def JV (cap:List (Option Nat)) (wi:TI) (g:TG) (tc:TT) (te:TE):TE:=fun σ H Q=>wi σ H (Gh cap g tc te σ Q)
theorem kK {α:Type} {t:Sem α} {Q Q':α -> Shared -> Prop} {M:Model} {A:Around} {E:Value -> Shared -> Prop} {s:Shared} (h:wpAny M A t Q (fun _ _=>False) s) (hQ:∀ a s,Q a s -> Q' a s):wpAny M A t Q' E s:=
 wpAny_mono h hQ fun _ _ f=>f.elim
structure TurnG (ok:Cx -> Prop) (P:Program) (w:World) (K:PySem.W.Frag) (tg:Expr) (J:It) (fp:List Addr) (it:Addr) (tn:Nat -> Heap -> Prop):Prop where
 obj:∀ i h,tn i h -> ∀ b ∈ fp,∃ o,h.get? b=some o /\ ∀ v,o.data ≠ .cell v
 keep:∀ i h h',tn i h -> (∀ b ∈ fp,∀ o,h.get? b=some o -> h'.get? b=some o) -> tn i h'
 item:∀ (X:Cx),X.prog=P -> X.w=w -> X.K=K -> ok X -> ∀ (i:Nat) (pins:List (Addr × Obj)) (s:Shared) (σ:St) (H:Hp) (E:Value -> Shared -> Prop),Inv X pins σ H s -> (∀ b ∈ fp,g9 X pins H b) -> tn i s.heap -> J.go i H ->
  wpAny (model P w) X.A (pyNext (.ref it)) (fun r s1=>∃ u,r=some u /\
   wpAny (model P w) X.A (letOwnedTupleGo tg (.ref it) u) (fun _ s2=>∃ x H',Inv X pins σ H' s2 /\ RelV x u /\ J.yld i H x H' /\ tn (i + 1) s2.heap /\ ∀ b ∈ fp,H' b=none) E s1) E s
 done:∀ (X:Cx),X.prog=P -> X.w=w -> X.K=K -> ok X -> ∀ (i:Nat) (pins:List (Addr × Obj)) (s:Shared) (σ:St) (H:Hp) (E:Value -> Shared -> Prop),Inv X pins σ H s -> (∀ b ∈ fp,g9 X pins H b) -> tn i s.heap -> J.stop i H ->
  wpAny (model P w) X.A (pyNext (.ref it)) (fun r s1=>r=none /\ Inv X pins σ H s1) E s
 self:∀ (A:Around) (i:Nat) (s:Shared) (Q:Value -> Shared -> Prop) (E:Value -> Shared -> Prop),tn i s.heap -> Q (.ref it) s -> wpAny (model P w) A (pyIter (.ref it)) Q E s
def Le (ok:Cx -> Prop) (X:Cx) (pins:List (Addr × Obj)) (σ:St) (tg:Expr) (R:It -> Hp -> Prop) (itv:Value) (s2:Shared):Prop:=
 ∃ (it:Addr) (fp:List Addr) (tn:Nat -> Heap -> Prop) (J:It) (H':Hp),itv=.ref it /\ Inv X pins σ H' s2 /\ TurnG ok X.prog X.w X.K tg J fp it tn /\ tn 0 s2.heap /\ (∀ b ∈ fp,g9 X pins H' b) /\ R J H'
def LB (ok:Cx -> Prop) (X:Cx) (tg iter:Expr) (wi:TI):Prop:=
 ∀ (pins:List (Addr × Obj)) (s:Shared) (σ:St) (H:Hp) (R:It -> Hp -> Prop),Inv X pins σ H s -> wi σ H R ->
  wpAny (model X.prog X.w) X.A (eval iter X.env) (fun v s1=>wpAny (model X.prog X.w) X.A (pyIter v) (Le ok X pins σ tg R) X.xe s1) X.xe s
theorem PI.g {X:Cx} {tg iter:Expr} {wi:TI} (h:PI X tg iter wi):LB (fun Y=>Y.calm=true) X tg iter wi:=fun pins s σ H R I q=>
 b9 (h pins s σ H R I q) fun v s1 h1=>b9 h1 fun itv s2 ⟨it,fp,tn,J,H',e,I',T,a,b,c⟩=>⟨it,fp,tn,J,H',e,I',⟨T.obj,T.keep,T.item,T.done,T.self⟩,a,b,c⟩
theorem HW {ok:Cx -> Prop} {X:Cx} {tg iter elt:Expr} {ifs:List Expr} {scope:Scope} {pos:Pos} {N:List Str} {cap:List (Option Nat)} {wi:TI} {g:TG} {tc:TT} {te:TE} (S:CpScope X scope N cap) (hok:∀ C s₀ H₀ ex,(∀ a o u,X.H₀ a=some (.frz o u) -> H₀ a=some (.frz o u)) -> ok (bL X scope N C s₀ H₀ ex)) (hi:LB ok X tg iter wi)
  (hg:∀ C s₀ H₀ ex,PG (bL X scope N C s₀ H₀ ex) tg g) (ht:∀ C s₀ H₀ ex,C1 (bL X scope N C s₀ H₀ ex) ifs tc) (he:∀ C s₀ H₀ ex,PE (bL X scope N C s₀ H₀ ex) elt te)
  (hs:∀ x,foldedSetIterable iter X.env x=pure x:=by intro _;rfl):PE X (.ListComp elt [⟨tg,iter,ifs,0⟩] scope pos) (JV cap wi g tc te):=by
 intro pins s σ H Q I h
 have hfree:∀ y ∈ scope.names,y.2=.free -> ∃ c,X.env.cells.lookup y.1=some c:=fun y hy e=>I.ok.has _ (S.fr y hy e)
 rw [eval_ListComp]
 refine wpAny_comprehension_free (use:=none) rfl hs (jP hfree) S.kind S.nm (b9 (hi pins s σ H _ I h) fun xv s1 h1=>b9 h1 fun itv s2 h2=>?_)
 obtain ⟨it,fp,tn,J,H2,rfl,I2,T,st2,f2,h2⟩:=h2
 refine wpAny_newObj_type (wpAny_newFunctionEnv S.nocell (by intro y hy;simp at hy) (fun h₁ hns₁ hsb₁=>?_) S.kind)
 obtain ⟨W,⟨m0,w0⟩,turn⟩:=h2 s2.heap.objs.size I2.fresh
 dsimp only at hns₁ hsb₁ ⊢
 have I3:Inv X pins σ (upd H2 s2.heap.objs.size (.lst [])) { s2 with heap:=s2.heap.push { cls:=.type "list",data:=.seq ([]:List Value).toArray } }:=I2.yT (t':=s2.toks) (its:=[]) .nil (Nat.zero_le _)
 have hfp:∀ b ∈ fp,∃ o,s2.heap.get? b=some o:=fun b hb=>by
  obtain ⟨o,e,_⟩:=T.obj 0 _ st2 b hb
  exact ⟨o,e⟩
 have neD:∀ b ∈ fp,b ≠ s2.heap.objs.size:=fun b hb=>by
  obtain ⟨o,e⟩:=hfp b hb
  exact Nat.ne_of_lt (Heap.lt_size e)
 have f3:∀ b ∈ fp,g9 X pins (upd H2 s2.heap.objs.size (.lst [])) b:=fun b hb=>⟨by rw [aM (neD b hb)];exact (f2 b hb).1,(f2 b hb).2⟩
 have hDC:s2.heap.objs.size ≠ (s2.heap.push { cls:=.type "list",data:=.seq ([]:List Value).toArray }).objs.size:=by rw [Heap.size_push];exact Nat.ne_of_lt (Nat.lt_succ_self _)
 have old:∀ b o,(s2.heap.push { cls:=.type "list",data:=.seq ([]:List Value).toArray }).get? b=some o -> h₁.get? b=some o:=fun b o e=>hsb₁.extBut b o (Nat.ne_of_lt (Heap.lt_size e)) (Heap.get?_push_of_some _ e)
 have I4:=uT (tk:=s2.toks + ([]:List (Str × Value)).length) (fp:=fp) S I3 f3 (fun b hb=>by
  obtain ⟨o,e⟩:=hfp b hb
  exact ⟨o,Heap.get?_push_of_some _ e⟩) hns₁ old
 have st4:tn 0 h₁:=T.keep _ _ _ st2 fun b hb o e=>old b o (Heap.get?_push_of_some _ e)
 have hc:=hok (s2.heap.push { cls:=.type "list",data:=.seq ([]:List Value).toArray }).objs.size { s2 with heap:=s2.heap.push { cls:=.type "list",data:=.seq ([]:List Value).toArray } } (upd H2 s2.heap.objs.size (.lst [])) fp fun a o u e=>by
  have z:=I2.base.frzs a o u e
  rw [aM (fun q=>by rw [q,I2.fresh] at z;cases z)]
  exact z
 have stat:∀ {H':Hp},(∀ b ∈ fp,H' b=none) -> ∀ b ∈ fp,g9 (bL X scope N (s2.heap.push { cls:=.type "list",data:=.seq ([]:List Value).toArray }).objs.size { s2 with heap:=s2.heap.push { cls:=.type "list",data:=.seq ([]:List Value).toArray } } (upd H2 s2.heap.objs.size (.lst [])) fp) [] H' b:=fun hn b hb=>by
  have ok:=I4.ok
  refine ⟨hn b hb,(ok.exf b hb).1,ok.exfs b hb,.inl hb,fun x c e=>(ok.exf b hb).2 x c e,fun p hp=>nomatch hp⟩
 have loop:∀ s4:Shared,s4={ s2 with heap:=h₁,toks:=s2.toks + ([]:List (Str × Value)).length } ->
   codeAny (model X.prog X.w) X.A (.compLoop (.ListComp elt [⟨tg,iter,ifs,0⟩] scope pos) 0 (.ref it) (.ref s2.heap.objs.size) (compEnvC scope (iF X.env scope.names []) (s2.heap.push { cls:=.type "list",data:=.seq ([]:List Value).toArray }).objs.size X.env))
    (compPost (model X.prog X.w) X.A X.xe none (EP X pins σ Q) (.ref s2.heap.objs.size) (s2.heap.push { cls:=.type "list",data:=.seq ([]:List Value).toArray }).objs.size) s4:=by
  rintro s4 rfl
  refine codeAny_loop rfl (fun n s'=>∃ i σ' H',Inv (bL X scope N (s2.heap.push { cls:=.type "list",data:=.seq ([]:List Value).toArray }).objs.size { s2 with heap:=s2.heap.push { cls:=.type "list",data:=.seq ([]:List Value).toArray } } (upd H2 s2.heap.objs.size (.lst [])) fp) [] σ' H' s' /\ tn i s'.heap /\ (∀ b ∈ fp,H' b=none) /\ W i n σ' H') (fun n s5 hI=>?_) m0 ⟨0,_,_,I4,st4,fun b hb=>(f3 b hb).1,w0⟩
  obtain ⟨i,σ5,H5,I5,st5,fr5,w5⟩:=hI
  show wpAny _ X.A ((compTurn (.ListComp elt [⟨tg,iter,ifs,0⟩] scope pos) 0 (.ref it) (.ref s2.heap.objs.size) (compEnvC scope (iF X.env scope.names []) (s2.heap.push { cls:=.type "list",data:=.seq ([]:List Value).toArray }).objs.size X.env)).onRaise (fun x=>do noteFrame x _;theTreesLotGoes x)) _ _ s5
  refine wpAny_noted ?_
  rw [compTurn_list]
  refine wpAny_bind (wpAny_standAt (wpAny_bind ?_))
  rcases turn i n σ5 H5 w5 with ⟨stop,q⟩ | ⟨go,step⟩
  ·refine b9 (T.done (bL X scope N (s2.heap.push { cls:=.type "list",data:=.seq ([]:List Value).toArray }).objs.size { s2 with heap:=s2.heap.push { cls:=.type "list",data:=.seq ([]:List Value).toArray } } (upd H2 s2.heap.objs.size (.lst [])) fp) rfl rfl rfl hc i [] s5 σ5 H5 _ I5 (stat fr5) st5 stop) fun r s6 ⟨hr,I6⟩=>?_
   subst hr
   obtain ⟨m6,hn6,_⟩:=I6.loc
   refine wpAny_pure ⟨m6,hn6,fun h' sb=>?_⟩
   have u6:=I6.base
   have nC:∀ b o,(s2.heap.push { cls:=.type "list",data:=.seq ([]:List Value).toArray }).get? b=some o -> b ≠ (s2.heap.push { cls:=.type "list",data:=.seq ([]:List Value).toArray }).objs.size:=fun b o e=>Nat.ne_of_lt (Heap.lt_size e)
   refine ⟨.ref s2.heap.objs.size,H5,?_,rfl,q⟩
   refine I3.vU (ch:=fp) I6.os ⟨fun b o e n hb hx=>?_,fun b o e n hb hx=>?_,fun b o e n hx=>?_,fun b o e hx=>?_,u6.tups,u6.frzs,u6.tbls⟩ ?_ I6.bare ?_
   ·exact sb.extBut b o (nC b o e) (u6.keep b o e n hb hx)
   ·obtain ⟨sl,z⟩:=u6.slot b o e n hb hx
    exact ⟨sl,sb.extBut b _ (nC b o e) z⟩
   ·exact u6.free b o e n hx
   ·obtain ⟨o',z⟩:=u6.there b o e hx
    exact ⟨o',sb.extBut b _ (nC b o e) z⟩
   ·intro b o e
    have hb:∀ c v,H5 c=some v -> c ≠ (s2.heap.push { cls:=.type "list",data:=.seq ([]:List Value).toArray }).objs.size:=fun c v e z=>by
     rw [z] at e
     have:=I6.free
     rw [show H5 (s2.heap.push { cls:=.type "list",data:=.seq ([]:List Value).toArray }).objs.size=none from this] at e
     cases e
    refine (I6.hok b o e).stay (fun c v hc q=>sb.extBut c v ?_ q) (fun _ q=>q) fun _ _ q=>q
    rcases hc with z | z
    ·rw [z];exact hb b o e
    ·exact hb c _ z
   ·intro b hb
    obtain ⟨_,z1,_,z3,z4,z5⟩:=f3 b hb
    exact ⟨z3,z1,z4,z5⟩
  ·refine b9 (T.item (bL X scope N (s2.heap.push { cls:=.type "list",data:=.seq ([]:List Value).toArray }).objs.size { s2 with heap:=s2.heap.push { cls:=.type "list",data:=.seq ([]:List Value).toArray } } (upd H2 s2.heap.objs.size (.lst [])) fp) rfl rfl rfl hc i [] s5 σ5 H5 _ I5 (stat fr5) st5 go) fun r s6 ⟨u,hr,h6⟩=>?_
   subst hr
   refine wpAny_bind (b9 h6 fun _ s7 ⟨x,H7,I7,r7,y7,st7,fr7⟩=>?_)
   have I7':=I7.pinned (stat fr7) (T.obj _ _ st7)
   refine wpAny_bind (kK (hg _ _ _ fp _ s7 σ5 H7 x u _ I7' r7 (step x H7 y7)) fun _ s8 ⟨σ8,H8,I8,q8⟩=>?_)
   refine wpAny_bind (kK (ht _ _ _ fp _ s8 σ8 H8 _ I8 q8) fun ok s9 ⟨H9,I9,q9⟩=>?_)
   have again:∀ {s10:Shared} {H10:Hp},Inv (bL X scope N (s2.heap.push { cls:=.type "list",data:=.seq ([]:List Value).toArray }).objs.size { s2 with heap:=s2.heap.push { cls:=.type "list",data:=.seq ([]:List Value).toArray } } (upd H2 s2.heap.objs.size (.lst [])) fp) ([] ++ iQ fp s7.heap) σ8 H10 s10 -> (∃ m',m' < n /\ W (i + 1) m' σ8 H10) ->
     ∃ m,m < n /\ ∃ i σ' H',Inv (bL X scope N (s2.heap.push { cls:=.type "list",data:=.seq ([]:List Value).toArray }).objs.size { s2 with heap:=s2.heap.push { cls:=.type "list",data:=.seq ([]:List Value).toArray } } (upd H2 s2.heap.objs.size (.lst [])) fp) [] σ' H' s10 /\ tn i s10.heap /\ (∀ b ∈ fp,H' b=none) /\ W i m σ' H':=fun {s10 H10} I10 ⟨m',hm,w10⟩=>by
    refine ⟨m',hm,i + 1,σ8,H10,I10.fD,T.keep _ _ _ st7 fun b hb o e=>(I10.pin (b,o) (List.mem_append_right _ (List.mem_append_right _ (bW hb e)))).1,fun b hb=>?_,w10⟩
    obtain ⟨o,e,d⟩:=T.obj _ _ st7 b hb
    exact (I10.pin (b,o) (List.mem_append_right _ (List.mem_append_right _ (bW hb e)))).2.1
   cases ok with
   | false=>
    rw [if_neg Bool.false_ne_true] at q9
    exact wpAny_pure ⟨rfl,again I9 q9⟩
   | true=>
    rw [if_pos rfl] at q9
    refine wpAny_bind (wpAny_bind (kK (he _ _ _ fp _ s9 σ8 H9 _ I9 q9) fun y s10 ⟨v10,H10,I10,r10,ys,hD,hz,w10⟩=>?_))
    refine wpAny_bind (kK (jb _ s10 σ8 H10 (.ref s2.heap.objs.size) [v10] _ [y] (fun _ H'=>H'=upd H10 s2.heap.objs.size (.lst (ys ++ [v10]))) I10 rfl (.cons r10 .nil) ⟨_,ys,v10,rfl,rfl,hD,hz,rfl⟩) fun _ s11 ⟨_,H11,I11,_,e11⟩=>?_)
    subst e11
    exact wpAny_pure (wpAny_pure ⟨rfl,again I11 w10⟩)
 exact codeAny_compStart_list (loop _ rfl) (T.self _ 0 _ _ _ st4 (loop _ rfl))
theorem Jd {X:Cx} {tg iter elt:Expr} {ifs:List Expr} {scope:Scope} {pos:Pos} {N:List Str} {cap:List (Option Nat)} {wi:TI} {g:TG} {tc:TT} {te:TE} (hc:X.calm=true) (S:CpScope X scope N cap) (hi:PI X tg iter wi)
  (hg:∀ C s₀ H₀ ex,PG (bL X scope N C s₀ H₀ ex) tg g) (ht:∀ C s₀ H₀ ex,C1 (bL X scope N C s₀ H₀ ex) ifs tc) (he:∀ C s₀ H₀ ex,PE (bL X scope N C s₀ H₀ ex) elt te)
  (hs:∀ x,foldedSetIterable iter X.env x=pure x:=by intro _;rfl):PE X (.ListComp elt [⟨tg,iter,ifs,0⟩] scope pos) (JV cap wi g tc te):=
 HW S (fun _ _ _ _ _=>hc) hi.g hg ht he hs
end L2
namespace L2
open PySem PySem.Spec PyProof.Rows
section
variable {X:Cx}
theorem CV {bs:List Bool}:∀ {us:List Value},Vals (bs.map V.bl) us -> LSm.BoolsAre us bs:=by
 induction bs with
 | nil=>intro us r;cases r;exact .nil
 | cons b bs ih=>
  intro us r
  cases r with
  | cons h t=>
   have e:_=Value.bool b:=h
   subst e
   exact .cons b (ih t)
theorem yh (hc:X.calm=true):bD X (.builtin "all") (fun xs H Q=>∃ (p:Addr) (bs:List Bool),xs=[.ref p] /\ fF X.K H p (bs.map V.bl) /\ Q (.bl (bs.all id)) H):=by
 intro pins s σ H xs us Q I r h
 obtain ⟨p,bs,rfl,hq,q⟩:=h
 obtain ⟨u,rfl,rx⟩:=vals1 r
 cases rx
 obtain ⟨its,rv,pl,hz⟩:=I.list hq
 have hb:=CV rv
 have hl:=pl.isList
 have hlt:p < s.heap.objs.size:=by obtain ⟨_,e,_⟩:=hl;exact Heap.lt_size e
 refine call_all_walk (wpAny_pyIter_list hl ?_)
 refine ⟨s.heap.objs.size,[s.heap.objs.size,p],[s.heap.objs.size],its.toArray.size,_,_,fun i=>(bs[i]?).getD true,rfl,Walks.list (A:=X.A.in1) (I.ok.hd hc) _ p (Nat.ne_of_lt hlt) its.toArray,
  ⟨⟨_,Heap.get?_push_size _ rfl,rfl,rfl⟩,hl.push _⟩,fun i v s' Q' E' hP hQ=>?_,fun h' tk hk=>?_⟩
 ·obtain ⟨b,e,rfl⟩:=hb.get i v (by simpa using hP)
  simp only [e,Option.getD_some] at hQ
  exact wpAny_truthy_bool hQ
 ·have e:((List.range its.toArray.size).all fun i=>(bs[i]?).getD true)=bs.all id:=by
   rw [List.size_toArray,hb.length];exact LSm.range_all bs
  rw [e]
  exact ⟨.bl _,H,I.kept (LSm.kept_iter hk),rfl,q⟩
def Mi:List V -> List V -> Bool
 | [],[]=>true
 | x :: xs,y :: ys=>um x y && Mi xs ys
 | _,_=>false
theorem yl:eW X (compareOp .IsNot) (fun x y H Q=>∃ a b,x=.bl a /\ y=.bl b /\ Q (.bl (a != b)) H):=by
 intro pins s σ H x y v u Q I rx ry h
 obtain ⟨a,b,rfl,rfl,q⟩:=h
 cases rx;cases ry
 exact isnot_bool ⟨.bl _,H,I,rfl,q⟩
theorem rf:bD X (.type "range") (fun xs H Q=>∃ i j,xs=[.int i,.int j] /\ ∀ p,H p=none -> Q (.ref p) (upd H p (.rng i j))):=by
 intro pins s σ H xs us Q I r h
 obtain ⟨i,j,rfl,q⟩:=h
 obtain ⟨u,w',rfl,⟨t,rfl⟩,⟨t',rfl⟩⟩:=vals2 r
 refine call_range_2 ⟨.ref s.heap.objs.size,_,I.laid (o:=.rng i j) (fun b o e=>Heap.get?_push_of_some _ e) (Nat.le_refl _) ?_,rfl,q _ I.fresh⟩
 exact ⟨t,t',s.toks,Heap.get?_push_size _ rfl⟩
def aP (i j:Int):List Int:=(List.range (j - i).toNat).map fun k:Nat=>i + (k:Int)
theorem cJ (i j:Int):(aP i j).length=(j - i).toNat:=by unfold aP;rw [List.length_map,List.length_range]
theorem nI {i:Int} {n:Nat} {acc:Array Value} (h:ItemsOf (fun k v=>∃ t,v=Value.int (i + (k:Int) * 1) t) acc n):Vals (((List.range n).map fun k:Nat=>i + (k:Int)).map V.int) acc.toList:=by
 obtain ⟨hs,hv⟩:=h
 have gen:∀ (l:List Value) (b:Nat),(∀ j v,l[j]?=some v -> ∃ t,v=Value.int (i + ((b + j:Nat):Int)) t) -> Vals (((List.range' b l.length).map fun k:Nat=>i + (k:Int)).map V.int) l:=by
  intro l
  induction l with
  | nil=>intro b _;exact .nil
  | cons v l ih=>
   intro b hb
   rw [List.length_cons,List.range'_succ,List.map_cons,List.map_cons]
   refine .cons ?_ ?_
   ·obtain ⟨t,e⟩:=hb 0 v rfl
    exact ⟨t,by rw [e];simp⟩
   ·refine ih (b + 1) fun j w hw=>?_
    obtain ⟨t,e⟩:=hb (j + 1) w hw
    exact ⟨t,by rw [e,show b + (j + 1)=b + 1 + j by omega]⟩
 have:=gen acc.toList 0 fun j v hj=>by
  obtain ⟨t,e⟩:=hv j v (by simpa using hj)
  exact ⟨t,by rw [e,Nat.zero_add,Int.mul_one]⟩
 rw [Array.length_toList,hs,<- List.range_eq_range'] at this
 exact this
theorem Ck {i j:Int}:Builtin.Range.rangeSize i j 1=(((j - i).toNat:Nat):Int):=by rw [rangeSize_one];split <;> omega
theorem pD (hc:X.calm=true):bD X (.type "list") (fun xs H Q=>∃ p i j,xs=[.ref p] /\ H p=some (.rng i j) /\ (-(2 ^ 62) <= i /\ i < 2 ^ 62 /\ -(2 ^ 62) <= j /\ j < 2 ^ 62) /\ (j - i).toNat <= 1000 /\ ∀ l,H l=none -> Q (.ref l) (upd H l (.lst ((aP i j).map V.int)))):=by
 intro pins s σ H xs us Q I r h
 obtain ⟨p,i,j,rfl,hp,⟨b1,b2,b3,b4⟩,hn,q⟩:=h
 obtain ⟨u,rfl,rx⟩:=vals1 r
 cases rx
 obtain ⟨t,u',v,e⟩:=I.hok p _ hp
 refine call_list_range (n:=(j - i).toNat) (I.ok.hd hc) e (small_one b1 b2 b3 b4) Ck (by omega) fun h' tk acc' c' hk hS hacc=>?_
 refine ⟨.ref s.heap.objs.size,_,I.laid (o:=.lst ((aP i j).map V.int)) hk (Nat.le_refl _) ⟨?_,acc'.toList,c',nI hacc,by rw [hS]⟩,rfl,q _ I.fresh⟩
 rw [List.length_map,cJ,sizeLine_eq];omega
end
end L2
namespace L2
open PySem PySem.Spec PyProof.Rows
section
variable {X:Cx}
theorem uc {prog:Program} {w:World} {A:Around} {E:Value -> Shared -> Prop} {s:Shared} {Q:List Value -> Shared -> Prop} {r:Addr} {a b c:Int} {t u v:Tok} {n:Nat} (hh:A.handled=none) (hr:IsRange s.heap r a b c t u v) (hsmall:Builtin.Range.small a b c=true)
  (hn:Builtin.Range.rangeSize a b c=n) (hlen:n <= 2 ^ 24)
  (hQ:∀ h' tk (acc':Array Value),(∀ b o,s.heap.get? b=some o -> h'.get? b=some o) -> ItemsOf (fun i v=>∃ t,v=.int (a + i * c) t) acc' n -> Q acc'.toList { s with heap:=h',toks:=tk }) :
  wpAny (model prog w) A (collect (.ref r)) Q E s:=by
 unfold collect
 refine wpAny_bind (wpAny_runValue (codeAny_builtin F.entry_proto_collect ?_))
 rw [Around.under_plainId F.plain_proto_collect _]
 show wpAny _ A.in1 (newList [] >>= fun l=>again (.builtin "list.__iadd__" ⟨[l,.ref r],[]⟩)) _ _ s
 refine wpAny_bind (wpAny_newObj_type ?_)
 refine wpAny_pure ⟨plainId_quiet F.plain_list_iadd _,codeAny_builtin F.entry_list_iadd ?_⟩
 rw [Around.under_plainId F.plain_list_iadd _]
 show wpAny _ A.in1 (Builtin.List.listExtendWith (.ref s.heap.objs.size) (.ref r) (.ref s.heap.objs.size)) _ _ _
 have hS:(s.heap.push { cls:=.type "list",data:=.seq ([]:List Value).toArray }).get? s.heap.objs.size=some { cls:=.type "list",data:=.seq #[] 0 }:=Heap.get?_push_size _ rfl
 have fin':∀ (h':Heap) (tk:Nat) (acc':Array Value) (c':Nat),(∀ b o,b ≠ s.heap.objs.size -> (s.heap.push { cls:=.type "list",data:=.seq ([]:List Value).toArray }).get? b=some o -> h'.get? b=some o) ->
   h'.get? s.heap.objs.size=some { cls:=.type "list",dict:=none,data:=.seq acc' c',slots:=#[] } -> ItemsOf (fun i v=>∃ t,v=.int (a + i * c) t) acc' n ->
   wpAny (model prog w) A (match Value.ref s.heap.objs.size with
   | Value.ref a=>do
    match (<- load a).data with
     | Data.seq xs _=>pure xs.toList
     | _=>unsupported "internal:collect"
   | _=>unsupported "internal:collect") Q E { s with heap:=h',toks:=tk }:=by
  intro h' tk acc' c' hk hS' hacc
  show wpAny _ A (load s.heap.objs.size >>= _) _ _ _
  refine wpAny_bind (wpAny_load hS' ?_)
  refine wpAny_pure ?_
  exact hQ h' tk acc' (fun b o e=>hk b o (Nat.ne_of_lt (Heap.lt_size e)) (Heap.get?_push_of_some _ e)) hacc
 refine wpAny_mono (wpAny_extend_range (A:=A) (R:=fun rr s'=>rr=.ok (.ret (.ref s.heap.objs.size)) /\ ∃ h' tk acc' c',s'={ s with heap:=h',toks:=tk } /\ (∀ b o,b ≠ s.heap.objs.size -> (s.heap.push { cls:=.type "list",data:=.seq ([]:List Value).toArray }).get? b=some o -> h'.get? b=some o) /\
   h'.get? s.heap.objs.size=some { cls:=.type "list",dict:=none,data:=.seq acc' c',slots:=#[] } /\ ItemsOf (fun i v=>∃ t,v=.int (a + i * c) t) acc' n)
  (s:={ s with heap:=s.heap.push { cls:=.type "list",data:=.seq ([]:List Value).toArray } }) hh (Heap.get?_push_of_some _ hr) hsmall hn hlen s.heap.objs.size (.ref s.heap.objs.size) 0 hS
  (fun h' tk acc' c' hk hS' hacc=>⟨rfl,h',tk,acc',c',rfl,hk,hS',hacc⟩)) (fun fin s' h=>?_) (fun e s' h=>?_)
 ·cases fin with
  | done f=>
   obtain ⟨e,h',tk,acc',c',rfl,hk,hS',hacc⟩:=h
   cases e
   exact fin' h' tk acc' c' hk hS' hacc
  | again c'=>exact ⟨h.1,codeAny_mono h.2 fun r s'' hr=>by
    obtain ⟨rfl,h',tk,acc',c',rfl,hk,hS',hacc⟩:=hr
    exact fin' h' tk acc' c' hk hS' hacc⟩
 ·exact absurd h.1 (by simp)
theorem jq (l:Addr) {a b:Int} {t u v:Tok} {n:Nat} (hsmall:Builtin.Range.small a b 1=true)
  (hn:Builtin.Range.rangeSize a b 1=n) (hlen:n <= 1000) :
  Meets (Builtin.«tuple.__new__» ⟨[.type "tuple",.ref l],[]⟩)
   (fun A R s=>A.handled=none /\ IsRange s.heap l a b 1 t u v /\ ∀ (h':Heap) (tk:Nat) (acc':Array Value),(∀ b o',s.heap.get? b=some o' -> h'.get? b=some o') -> ItemsOf (fun i v=>∃ t,v=.int (a + i * 1) t) acc' n -> R (.ok (.ret (.ref h'.objs.size))) { s with heap:=h'.push { cls:=.type "tuple",data:=.seq acc' },toks:=tk }):=
 .of_wp fun prog w A R s h=>by
  obtain ⟨hp,g,d,tk,os⟩:=s
  obtain ⟨hh,ht,h⟩:=h
  have hsub:=sub_tuple_self
  have hinit:=init_tuple_lookup
  have hmh:=madeHere_tuple
  have hT:Shared.TypeIs ⟨hp,g,d,tk,os⟩ (.ref l) "range" := ⟨_,ht,rfl⟩
  have hh':A.in1.handled=none:=hh
  wp_walk using AutoSeq1.wpAny_loadPart' ht,wpAny_typeOf hT,uc (A:=A.in1) hh' ht hsmall hn (by omega)
  intro h' tk' acc' hk hacc
  show wpAny _ _ (Builtin.Tuple.tupleExact acc'.toList.toArray >>= fun v=>ret v) _ _ _
  unfold Builtin.Tuple.tupleExact
  have e:acc'.toList.toArray=acc':=by simp
  refine wpAny_bind (wpAny_newObj_type ?_ (by show acc'.toList.toArray.size <= sizeLine;rw [e,hacc.1,sizeLine_eq];omega))
  refine wpAny_pure ⟨_,rfl,?_⟩
  rw [e]
  exact h h' tk' acc' hk hacc
theorem oR (hc:X.calm=true):bD X (.type "tuple") (fun xs H Q=>∃ p i j,xs=[.ref p] /\ H p=some (.rng i j) /\ (-(2 ^ 62) <= i /\ i < 2 ^ 62 /\ -(2 ^ 62) <= j /\ j < 2 ^ 62) /\ (j - i).toNat <= 1000 /\ ∀ l,H l=none -> Q (.ref l) (upd H l (.tup ((aP i j).map V.int)))):=by
 intro pins s σ H xs us Q I r h
 obtain ⟨p,i,j,rfl,hp,⟨b1,b2,b3,b4⟩,hn,q⟩:=h
 obtain ⟨u,rfl,rx⟩:=vals1 r
 cases rx
 obtain ⟨t,u',v,e⟩:=I.hok p _ hp
 refine callType_new F.called_tuple (by decide) (F.typeCall_tuple_1 _) (F.newCall_tuple_1 _) (fun obj=>F.args_object_init_2 obj _) F.entry_tuple_new
  (jq (n:=(j - i).toNat) p (small_one b1 b2 b3 b4) Ck hn) ⟨I.ok.hd hc,e,fun h' tk acc' hk hacc=>⟨⟨_,Heap.get?_push_size _ rfl,rfl⟩,?_⟩⟩
 have I1:Inv X pins σ H { s with heap:=h',toks:=tk }:=I.kept hk
 refine ⟨.ref h'.objs.size,_,I1.laid (t':=tk) (o:=.tup ((aP i j).map V.int)) (fun b o e=>Heap.get?_push_of_some _ e) (Nat.le_refl _) ⟨?_,acc'.toList,nI hacc,?_⟩,rfl,q _ (I1.hok.fresh (Nat.le_refl _))⟩
 ·rw [List.length_map,cJ,sizeLine_eq];omega
 ·have e:acc'.toList.toArray=acc':=by simp
  rw [e]
  exact eZ.new _ _
def KR (K:PySem.W.Frag) (te:TE):TE:=fun σ H Q=>te σ H fun x H1=>∃ a xs,x=.ref a /\ fF K H1 a xs /\ ∀ p,H1 p=none -> Q (.ref p) (upd H1 p (.lst xs.reverse))
theorem DU {e:Expr} {te:TE} {p2 pos up cp:Pos} {kk:Nat} (he:PE X e te):PE X (.Subscript e (.Slice none none (some (.UnaryOp .USub (.Constant (.int 1) kk cp) up)) p2) pos) (KR X.K te):=by
 intro pins s σ H Q I h
 refine Subscript_ (b9 (he pins s σ H _ I h) fun v s1 ⟨x,H1,I1,r1,a,xs,ex,hq,q⟩=>?_)
 subst ex
 cases r1
 refine wpAny_Slice ?_
 rw [evalPart_none]
 refine wpAny_pure ?_
 refine wpAny_pure ?_
 rw [evalPart_some]
 refine b9 ((B5 (a:=.Constant (.int 1) kk cp) uQ uG) pins s1 σ H1 (fun v H'=>v=.int (-1) /\ H'=H1) I1 ⟨1,rfl,rfl,rfl⟩) fun vs s3 ⟨y,H3,I3,r3,ey,eH⟩=>?_
 subst ey eH
 obtain ⟨t,rfl⟩:=r3
 have I4:Inv X pins σ H3 { s3 with heap:=s3.heap.push { cls:=.type "slice",data:=.fields #[.none,.none,.int (-1) t] } }:=I3.kept (t':=s3.toks) fun b ob q=>Heap.get?_push_of_some _ q
 obtain ⟨its,rv,pl,hz⟩:=I4.list hq
 show wpAny (model X.prog X.w) X.A (subscriptTail e (.Slice none none (some (.UnaryOp .USub (.Constant (.int 1) kk cp) up)) p2) (.ref a) (.ref s3.heap.objs.size)) (EP X pins σ Q) X.xe { s3 with heap:=s3.heap.push { cls:=.type "slice",data:=.fields #[.none,.none,.int (-1) t] } }
 refine tail_any (ops:=[.ref a,.ref s3.heap.objs.size]) pl.isList.typeIs slot_list_getitem.lookup ?_ (by with_unfolding_all rfl)
 have hlen:=rv.length
 refine wpAny_getItem_list_slice pl.isList (Heap.IsSliceOf.new ..) .none .none (.int (-1) t) (by decide) ?_ (by rw [List.size_toArray] <;> omega)
 rw [PySem.W.krv_pick]
 refine ⟨.ref _,_,I4.yT (t':=s3.toks) (ys:=xs.reverse) (its:=its.reverse) rv.reverse (by rw [List.length_reverse];exact hz),rfl,q _ I4.fresh⟩
theorem tX {c:String}:bD X (.builtin "isinstance") (fun xs H Q=>∃ x t b,xs=[x,.ty c] /\ TyOf X.K H x t /\ PySem.W.kitOne X.K t (.type c)=some b /\ Q (.bl b) H):=by
 intro pins s σ H xs us Q I r h
 obtain ⟨x,t,b,rfl,ty,e,q⟩:=h
 obtain ⟨u,w',rfl,rx,rc⟩:=vals2 r
 cases rc
 exact yL I rx ty e fun tk=>⟨.bl b,H,I.tok tk,rfl,q⟩
def HN (K:PySem.W.Frag):R2:=fun x y H Q=>∃ a b ys,x=.ref a /\ y=.ref b /\ dg K H a [] /\ dg K H b ys /\ Q (.ref b) H
theorem Ah:eW X (binaryOp .Add) (HN X.K):=by
 intro pins s σ H x y v u Q I rx ry h
 obtain ⟨a,b,ys,rfl,rfl,h1,h2,q⟩:=h
 cases rx
 cases ry
 obtain ⟨us,r1,p1,_⟩:=I.tuple h1
 obtain ⟨ws,r2,p2,_⟩:=I.tuple h2
 cases r1
 obtain ⟨⟨cls,dd,data,sl⟩,ho,hc,n,hd⟩:=id p1
 obtain ⟨⟨cls2,dd2,data2,sl2⟩,ho2,hc2,n2,hd2⟩:=id p2
 simp only at hc hd hc2 hd2
 subst hc hd hc2 hd2
 exact concat_meets ⟨_,ho,rfl⟩ ⟨_,ho2,rfl⟩ noFill_tuple_add seq_tuple_add PySem.F.slot_tuple_add PySem.F.entry_tuple_add (PySem.F.args_tuple_add_2 _ _)
   (tuple_addW0 a b _ ws.toArray n n2 dd dd2 sl sl2 (by simp)) ⟨ho,ho2,⟨.ref b,H,I,rfl,q⟩⟩
end
end L2
namespace L2
open PySem PySem.Spec PyProof.Rows
theorem bV:bootBuiltins "len" = some (.builtin "len"):=by decide +kernel
theorem uz:bootBuiltins "abs" = some (.builtin "abs"):=by decide +kernel
theorem zF:bootBuiltins "all" = some (.builtin "all"):=by decide +kernel
theorem Gx:bootBuiltins "max" = some (.builtin "max"):=by decide +kernel
theorem Hl:bootBuiltins "min" = some (.builtin "min"):=by decide +kernel
theorem cF:bootBuiltins "isinstance" = some (.builtin "isinstance"):=by decide +kernel
theorem qK:bootBuiltins "int" = some (.type "int"):=by decide +kernel
theorem wo:bootBuiltins "bool" = some (.type "bool"):=by decide +kernel
theorem fN:bootBuiltins "list" = some (.type "list"):=by decide +kernel
theorem iI:bootBuiltins "tuple" = some (.type "tuple"):=by decide +kernel
theorem ow:bootBuiltins "range" = some (.type "range"):=by decide +kernel
structure Blt (mg:Str -> Option Value):Prop where
 len:mg "len" = none
 abs:mg "abs" = none
 all:mg "all" = none
 any:mg "any" = none
 max:mg "max" = none
 min:mg "min" = none
 sorted:mg "sorted" = none
 isinstance:mg "isinstance" = none
 int:mg "int" = none
 bool:mg "bool" = none
 str:mg "str" = none
 list:mg "list" = none
 tuple:mg "tuple" = none
 range:mg "range" = none
section
variable {X:Cx}
end
theorem wN (i j:Int):(aP i j).Pairwise (· <= ·):=by
 unfold aP
 rw [List.pairwise_map]
 exact List.pairwise_lt_range.imp fun h=>by omega
theorem nG (i j:Int):(aP i j).Nodup:=by
 unfold aP
 rw [List.Nodup,List.pairwise_map]
 exact List.pairwise_lt_range.imp fun h=>by omega
theorem dj {i j k:Int}:k ∈ aP i j ↔ i <= k /\ k < j:=by
 unfold aP
 rw [List.mem_map]
 constructor
 ·rintro ⟨a,ha,rfl⟩
  have:=List.mem_range.mp ha
  omega
 ·rintro ⟨h1,h2⟩
  exact ⟨(k - i).toNat,List.mem_range.mpr (by omega),by omega⟩
def Kn (P:Program) (w:World) (K:PySem.W.Frag) (mg:Str -> Option Value) (base:Heap) (k:Nat) (x:Str) (ps:List Str) (sp:Sp):Prop:=
 ∃ (f:Addr) (fd:FuncData),FnOk P w K mg base jh k f fd ps sp /\ mg x=some (.ref f) /\ PySem.W.keepIn K (.ref f)=true /\ Binds K fd ps []
theorem JQ {X:Cx} {k:Nat} {x:Str} {ps:List Str} {sp:Sp} {e:Expr} {es:List Expr} {t:TA} {p pos:Pos} (G:Kn X.prog X.w X.K X.mg X.base k x ps sp) (hr:Room k X.A) (ha:PA X (e :: es) t) (hg:Gl X x:=by rfl)
  (hdb:(x == ("__debug__" : Str))=false:=by decide) (hs:starEach (e :: es) X.env=(false,eval e X.env) :: starEach es X.env:=by rfl) (hplain:(backTo pos (starEach es X.env)).any (·.1)=false:=by rfl) :
  PE X (.Call (.Name x p) (e :: es) [] pos) (EI sp [] E0 t):=by
 obtain ⟨f,fd,F,hm,hk,hb⟩:=G
 exact xO F hr hg hm hk hb .nil Jv ha hdb hs hplain
def oH (XN fs:List Str):List Str -> List (Option Nat) -> Prop
 | [],[]=>True
 | _ :: N,none :: c=>oH XN fs N c
 | x :: N,some j :: c=>XN[j]?=some x /\ x ∈ fs /\ oH XN fs N c
 | _,_=>False
theorem oH.len {XN fs:List Str}:∀ {N:List Str} {c:List (Option Nat)},oH XN fs N c -> c.length=N.length
 | [],[],_=>rfl
 | _ :: N,none :: c,h=>congrArg (· + 1) (oH.len (N:=N) (c:=c) h)
 | _ :: N,some j :: c,h=>congrArg (· + 1) (oH.len (N:=N) (c:=c) h.2.2)
 | [],_ :: _,h=>h.elim
 | _ :: _,[],h=>h.elim
theorem oH.cp {XN fs:List Str}:∀ {N:List Str} {c:List (Option Nat)},oH XN fs N c -> ∀ (i j:Nat) (x:Str),N[i]?=some x -> c[i]?=some (some j) -> XN[j]?=some x /\ x ∈ fs
 | [],[],_,i,j,x,h1,_=>by simp at h1
 | y :: N,none :: c,h,i,j,x,h1,h2=>by
  cases i with
  | zero=>simp at h2
  | succ i=>exact oH.cp (N:=N) (c:=c) h i j x (by simpa using h1) (by simpa using h2)
 | y :: N,some k :: c,h,i,j,x,h1,h2=>by
  cases i with
  | zero=>
   simp at h1 h2
   subst h1 h2
   exact ⟨h.1,h.2.1⟩
  | succ i=>exact oH.cp (N:=N) (c:=c) h.2.2 i j x (by simpa using h1) (by simpa using h2)
 | [],_ :: _,h,_,_,_,_,_=>h.elim
 | _ :: _,[],h,_,_,_,_,_=>h.elim
theorem kh {X:Cx} {scope:Scope} {N:List Str} {cap:List (Option Nat)} (fs:List Str) (kind:scope.kind=.function) (nocell:∀ y ∈ scope.names,y.2 ≠ .cell) (nm:∀ y ∈ scope.names,y.2=.local -> scope.names.lookup y.1=some .local)
  (nolf:∀ y ∈ scope.names,y.2=.free -> scope.names.lookup y.1 ≠ some .local) (hf:∀ y ∈ scope.names,y.2=.free -> y.1 ∈ fs) (hfs:∀ x ∈ fs,(x,NameKind.free) ∈ scope.names) (hk:∀ x ∈ fs,X.env.kindOf x=some .cell \/ X.env.kindOf x=some .free) (cp:oH X.N fs N cap):CpScope X scope N cap where
 kind:=kind
 nocell:=nocell
 nm:=nm
 fr:=fun y hy e=>hk _ (hf y hy e)
 rl:=fun y h=>by
  have go:∀ k,(k=NameKind.cell \/ k=NameKind.free) -> (relabel scope X.env).names.lookup y=some k -> (y,NameKind.free) ∈ scope.names:=fun k hk e=>by
   obtain ⟨⟨n',k'⟩,hm1,hm2⟩:=List.mem_map.mp (oW e)
   dsimp only at hm2
   split at hm2
   ·rename_i hc
    cases hm2
    have:k'=.free:=by
     simp only [Bool.and_eq_true] at hc
     simpa using hc.1.1
    subst this
    exact hm1
   ·cases hm2
    rcases hk with rfl | rfl
    ·exact absurd rfl (nocell _ hm1)
    ·exact hm1
  rcases h with h | h
  ·exact go _ (.inl rfl) h
  ·exact go _ (.inr rfl) h
 len:=cp.len
 nolf:=fun x hx=>nolf (x,.free) hx rfl
 cp:=fun i j x h1 h2=>by
  obtain ⟨a,b⟩:=cp.cp i j x h1 h2
  exact ⟨a,hfs x b⟩
inductive Kd where
 | non | bl | int | str | lst | tup
 deriving DecidableEq
def Kd.ty:Kd -> Value
 | .non=>.type "NoneType" | .bl=>.type "bool" | .int=>.type "int" | .str=>.type "str" | .lst=>.type "list" | .tup=>.type "tuple"
def HG (H:Hp) (x:V):Kd -> Prop
 | .non=>x=.non
 | .bl=>∃ b,x=.bl b
 | .int=>∃ i,x=.int i
 | .str=>∃ s,x=.str s
 | .lst=>∃ a xs,x=.ref a /\ H a=some (.lst xs)
 | .tup=>∃ a xs,x=.ref a /\ H a=some (.tup xs)
theorem HG.Lg {K:PySem.W.Frag} {H:Hp} {x:V} {k:Kd} (h:HG H x k):TyOf K H x k.ty:=by
 cases k with
 | non=>cases h;exact .non
 | bl=>obtain ⟨b,rfl⟩:=h;exact .bl b
 | int=>obtain ⟨b,rfl⟩:=h;exact .int b
 | str=>obtain ⟨b,rfl⟩:=h;exact .str b
 | lst=>obtain ⟨a,xs,rfl,e⟩:=h;exact .lst e
 | tup=>obtain ⟨a,xs,rfl,e⟩:=h;exact .tup e
theorem DZ {K:PySem.W.Frag} (k:Kd):PySem.W.kitOne K k.ty (.type "int")=some (decide (k=.int \/ k=.bl)):=by cases k <;> rfl
theorem A1 {K:PySem.W.Frag} (k:Kd):PySem.W.kitOne K k.ty (.type "bool")=some (decide (k=.bl)):=by cases k <;> rfl
theorem kit_tuple {K:PySem.W.Frag} (k:Kd):PySem.W.kitOne K k.ty (.type "tuple")=some (decide (k=.tup)):=by cases k <;> rfl
theorem AA {K:PySem.W.Frag} (k:Kd):PySem.W.kitOne K k.ty (.type "list")=some (decide (k=.lst)):=by cases k <;> rfl
end L2
namespace L2
open PySem PySem.Spec PyProof.Rows
section
variable {prog:Program} {w:World} {A:Around} {E:Value -> Shared -> Prop} {s:Shared}
end
section
variable {X:Cx}
end
end L2
namespace L2
open PySem PySem.Spec PyProof.Rows
section
variable {prog:Program} {w:World} {A:Around} {E:Value -> Shared -> Prop} {s:Shared}
theorem vc (n:Nat):Builtin.Slice.sliceAdjust none none (-1) (n:Int)=((n:Int) - 1,-1):=by
 unfold Builtin.Slice.sliceAdjust
 rfl
theorem u_ (n:Nat):Builtin.Slice.slicePlaces ((n:Int) - 1) (-1) (-1)=n:=by
 unfold Builtin.Slice.slicePlaces
 have h1:¬ ((-1:Int) > 0):=by decide
 simp only [h1,if_false]
 by_cases h:n=0
 ·subst h;simp
 ·rw [if_pos (by omega)]
  rw [show (- -1:Int)=1 by decide,Int.ediv_one]
  omega
theorem kZ {sl:Addr} {t:Tok} {n:Nat} {Q:Int × Int × Nat -> Shared -> Prop} (hs:s.heap.IsSliceOf sl .none .none (.int (-1) t))
  (h:Q ((n:Int) - 1,-1,n) s):wpAny (model prog w) A (Builtin.Slice.sliceApplied (.ref sl) (pure (n:Int))) Q E s:=by
 obtain ⟨os,hos,hcs,hds⟩:=id hs
 unfold Builtin.Slice.sliceApplied Builtin.Slice.sliceFields
 refine wpAny_bind (wpAny_bind (wpAny_field hos hds (x:=.none) rfl (wpAny_bind (wpAny_field hos hds (x:=.none) rfl (wpAny_bind (wpAny_field hos hds (x:=.int (-1) t) rfl (wpAny_pure ?_)))))))
 refine wpAny_bind (slicePart_int ?_)
 show wpAny _ _ (if ((-1:Int) == 0)=true then _ else _) _ _ s
 rw [if_neg (by decide)]
 refine wpAny_bind (slicePart_none (wpAny_bind (slicePart_none (wpAny_bind (wpAny_pure ?_)))))
 show wpAny _ _ (match Builtin.Slice.sliceAdjust none none (-1) (n:Int) with | (lo,hi)=>pure (lo,(-1:Int),Builtin.Slice.slicePlaces lo hi (-1))) _ _ s
 rw [vc n]
 show wpAny _ _ (pure ((n:Int) - 1,(-1:Int),Builtin.Slice.slicePlaces ((n:Int) - 1) (-1) (-1))) _ _ s
 rw [u_]
 exact wpAny_pure h
theorem CL (xs:Array Value):((List.range xs.size).filterMap fun (m:Nat)=>xs[((xs.size:Int) - 1 + (m:Int) * (-1)).toNat]?).toArray=xs.toList.reverse.toArray:=by
 have e:(fun (m:Nat)=>xs[((xs.size:Int) - 1 + (m:Int) * (-1)).toNat]?)=(fun x=>xs[x]?) ∘ fun k=>xs.size - 1 - k:=by
  funext m
  have:((xs.size:Int) - 1 + (m:Int) * (-1)).toNat=xs.size - 1 - m:=by omega
  show xs[((xs.size:Int) - 1 + (m:Int) * (-1)).toNat]?=xs[xs.size - 1 - m]?
  rw [this]
 rw [e,<- List.filterMap_map,PySem.W.krv_range,List.filterMap_reverse,PySem.W.krv_all]
theorem j4 {t sl:Addr} {items:Array Value} {tk:Tok} {Q:Value -> Shared -> Prop} (ht:IsTup s.heap t items) (hs:s.heap.IsSliceOf sl .none .none (.int (-1) tk))
  (h:Q (.ref s.heap.objs.size) { s with heap:=s.heap.push { cls:=.type "tuple",data:=.seq items.toList.reverse.toArray } })
  (hsz:items.size <= sizeLine):wpAny (model prog w) A (getItem (.ref t) (.ref sl)) Q E s:=by
 have htake:sizeOk (.seq items.toList.reverse.toArray):=by
  show items.toList.reverse.toArray.size <= sizeLine
  rw [List.size_toArray,List.length_reverse,Array.length_toList]
  exact hsz
 obtain ⟨os,hos,hcs,hds⟩:=id hs
 have hTs:s.TypeIs (.ref sl) "slice" := ⟨os,hos,hcs⟩
 unfold getItem
 try with_reducible refine wpAny_holding ?_
 first | refine wpAny_bind (wpAny_pure ?_) | skip
 refine wpAny_bind (wpAny_sequenceKey ht.typeIs (by decide) ?_)
 refine wpAny_bind (wpAny_callSpecial?_slot (name:=Str.ofString "__getitem__") ht.typeIs PyProof.Rows.slot_tuple_getitem
  (wpAny_call_entry PyProof.Rows.slot_tuple_getitem ht.typeIs entry_tuple_getitem ?_ (args_tuple_getitem _ _)))
 show wpAny _ _ (Builtin.Tuple.tupleItemsOf (.ref t) >>= _) _ _ s
 refine wpAny_bind (tupleItemsOf_ ht ?_)
 refine wpAny_bind (wpAny_typeOf hTs ?_)
 rw [if_pos (by decide)]
 refine wpAny_bind (kZ hs ?_)
 have hno:¬ ((((items.size:Int) - 1) == 0 && (-1:Int) == 1 && items.size == items.size)=true):=by
  intro q
  rw [Bool.and_eq_true,Bool.and_eq_true] at q
  exact absurd q.1.2 (by decide)
 show wpAny _ _ (if (((items.size:Int) - 1) == 0 && (-1:Int) == 1 && items.size == items.size)=true then _ else _) _ _ s
 rw [if_neg hno,CL]
 first
  | exact wpAny_bind (m:=Builtin.Tuple.tupleExact _) (wpAny_newObj_type (wpAny_pure ⟨_,rfl,wpAny_pure h⟩) htake)
  | exact wpAny_bind (m:=Builtin.Tuple.tupleExact _) (wpAny_newObj_type (wpAny_bind (wpAny_pure (wpAny_pure ⟨_,rfl,wpAny_pure h⟩))) htake)
  | exact wpAny_bind (wpAny_bind (m:=Builtin.Tuple.tupleExact _) (wpAny_newObj_type (wpAny_pure (wpAny_pure ⟨_,rfl,wpAny_pure h⟩)) htake))
  | exact wpAny_bind (wpAny_bind (m:=Builtin.Tuple.tupleExact _) (wpAny_newObj_type (wpAny_pure ⟨_,rfl,wpAny_pure h⟩) htake))
end
section
variable {X:Cx}
def JK (K:PySem.W.Frag) (te:TE):TE:=fun σ H Q=>te σ H fun x H1=>∃ a xs,x=.ref a /\ dg K H1 a xs /\ ∀ p,H1 p=none -> Q (.ref p) (upd H1 p (.tup xs.reverse))
theorem xW {e:Expr} {te:TE} {p2 pos up cp:Pos} {kk:Nat} (he:PE X e te):PE X (.Subscript e (.Slice none none (some (.UnaryOp .USub (.Constant (.int 1) kk cp) up)) p2) pos) (JK X.K te):=by
 intro pins s σ H Q I h
 refine Subscript_ (b9 (he pins s σ H _ I h) fun v s1 ⟨x,H1,I1,r1,a,xs,ex,hq,q⟩=>?_)
 subst ex
 cases r1
 refine wpAny_Slice ?_
 rw [evalPart_none]
 refine wpAny_pure ?_
 refine wpAny_pure ?_
 rw [evalPart_some]
 refine b9 ((B5 (a:=.Constant (.int 1) kk cp) uQ uG) pins s1 σ H1 (fun v H'=>v=.int (-1) /\ H'=H1) I1 ⟨1,rfl,rfl,rfl⟩) fun vs s3 ⟨y,H3,I3,r3,ey,eH⟩=>?_
 subst ey eH
 obtain ⟨t,rfl⟩:=r3
 have I4:Inv X pins σ H3 { s3 with heap:=s3.heap.push { cls:=.type "slice",data:=.fields #[.none,.none,.int (-1) t] } }:=I3.kept (t':=s3.toks) fun b ob q=>Heap.get?_push_of_some _ q
 obtain ⟨its,rv,pl,hz⟩:=I4.tuple hq
 show wpAny (model X.prog X.w) X.A (subscriptTail e (.Slice none none (some (.UnaryOp .USub (.Constant (.int 1) kk cp) up)) p2) (.ref a) (.ref s3.heap.objs.size)) (EP X pins σ Q) X.xe { s3 with heap:=s3.heap.push { cls:=.type "slice",data:=.fields #[.none,.none,.int (-1) t] } }
 refine tail_any (ops:=[.ref a,.ref s3.heap.objs.size]) pl.typeIs PyProof.Rows.slot_tuple_getitem.lookup ?_ (by with_unfolding_all rfl)
 have hlen:=rv.length
 refine j4 pl (Heap.IsSliceOf.new ..) ?_ (by rw [List.size_toArray] <;> omega)
 refine ⟨.ref _,_,I4.laid (t':=s3.toks) (o:=.tup xs.reverse) (fun b o e=>Heap.get?_push_of_some _ e) (Nat.le_refl _) ⟨by rw [List.length_reverse];exact hz,its.reverse,rv.reverse,?_⟩,rfl,q _ I4.fresh⟩
 exact eZ.new _ _
end
end L2
namespace L2
open PySem PySem.Spec PyProof.Rows
theorem rC (elt t1 i1 t2 i2:Expr) (f1 f2:List Expr) (scope:Scope) (pos:Pos) (it acc:Value) (env:Env) :
  compTurn (.ListComp elt [⟨t1,i1,f1,0⟩,⟨t2,i2,f2,0⟩] scope pos) 0 it acc env=(do
   standAt i1.pos
   match <- pyNext it with
   | none=>pure (.done .next)
   | some v=>
    letOwnedTupleGo t1 it v
    assign t1 env v
    let mut ok:=true
    for c in f1 do
     if ok then ok <- isTrue c env (eval c env)
    if ok then
     let x <- eval i2 env
     standAt i2.pos
     let x <- foldedSetIterable i2 env x
     let _ <- runOwn (.compStart (.ListComp elt [⟨t1,i1,f1,0⟩,⟨t2,i2,f2,0⟩] scope pos) 1 (<- holding [x] (pyIter x)) acc env) env
    again (.compLoop (.ListComp elt [⟨t1,i1,f1,0⟩,⟨t2,i2,f2,0⟩] scope pos) 0 it acc env)):=by rfl
theorem qE (elt t1 i1 t2 i2:Expr) (f1 f2:List Expr) (scope:Scope) (pos:Pos) (it acc:Value) (env:Env) :
  compTurn (.ListComp elt [⟨t1,i1,f1,0⟩,⟨t2,i2,f2,0⟩] scope pos) 1 it acc env=(do
   standAt i2.pos
   match <- pyNext it with
   | none=>pure (.done .next)
   | some v=>
    letOwnedTupleGo t2 it v
    assign t2 env v
    let mut ok:=true
    for c in f2 do
     if ok then ok <- isTrue c env (eval c env)
    if ok then
     (do let _ <- call (.builtin "list.append") [acc,<- eval elt env])
    again (.compLoop (.ListComp elt [⟨t1,i1,f1,0⟩,⟨t2,i2,f2,0⟩] scope pos) 1 it acc env)):=by rfl
section
variable {prog:Program} {w:World} {A:Around} {R:Result -> Shared -> Prop} {s:Shared}
theorem iE {elt t1 i1 t2 i2:Expr} {f1 f2:List Expr} {scope:Scope} {pos:Pos} {it acc:Value} {env:Env}
  (h0:codeAny (model prog w) A (.compLoop (.ListComp elt [⟨t1,i1,f1,0⟩,⟨t2,i2,f2,0⟩] scope pos) 1 it acc env) R s)
  (h:wpAny (model prog w) A (pyIter it) (fun it' s'=>codeAny (model prog w) A (.compLoop (.ListComp elt [⟨t1,i1,f1,0⟩,⟨t2,i2,f2,0⟩] scope pos) 1 it' acc env) R s')
   (notedBy (model prog w) A env fun x s'=>R (.error x) s') s) :
  codeAny (model prog w) A (.compStart (.ListComp elt [⟨t1,i1,f1,0⟩,⟨t2,i2,f2,0⟩] scope pos) 1 it acc env) R s:=by
 refine codeAny_of_tree ?_
 show wpAny _ _ ((compStart (.ListComp elt [⟨t1,i1,f1,0⟩,⟨t2,i2,f2,0⟩] scope pos) 1 it acc env).onRaise (fun x=>do noteFrame x env;standAt theWindowsPlace)) _ _ s
 refine wpAny_notedAt ?_
 unfold compStart
 show wpAny _ _ (ask >>= _) _ _ s
 refine wpAny_bind (wpAny_askSetting (wpAny_ite ?_))
 split
 ·first
   | exact wpAny_bind (wpAny_pure (wpAny_pure (And.intro rfl h0)))
   | exact wpAny_pure (And.intro rfl h0)
 ·first
   | exact wpAny_bind (wpAny_rule (wpAny_bind (wpAny_standAt (wpAny_bind (wpAny_mono h (fun it' s' h'=>wpAny_pure (And.intro rfl h')) fun _ _ x=>x)))))
   | (refine wpAny_bind (wpAny_rule ?_);show wpAny _ _ (standAt i2.pos >>= _) _ _ s;exact wpAny_bind (wpAny_standAt (wpAny_bind (wpAny_mono h (fun it' s' h'=>wpAny_pure (And.intro rfl h')) fun _ _ x=>x))))
end
def zx (g:TG) (tc:TT) (te:TE) (D:Addr) (Nn:L2.St -> Hp -> Prop) (σ:L2.St) (J:It) (H1:Hp):Prop:=
 ∃ V:Nat -> Nat -> L2.St -> Hp -> Prop,(∃ m,V 0 m σ H1) /\ ∀ i m σ' H',V i m σ' H' ->
  (J.stop i H' /\ Nn σ' H') \/ (J.go i H' /\ ∀ x H2,J.yld i H' x H2 -> g x σ' H2 fun σ3 H3=>tc σ3 H3 fun b H4=>
   if b=true then te σ3 H4 fun y H5=>∃ ys,H5 D=some (.lst ys) /\ ys.length < sizeLine /\ ∃ m',m' < m /\ V (i + 1) m' σ3 (upd H5 D (.lst (ys ++ [y])))
   else ∃ m',m' < m /\ V (i + 1) m' σ3 H4)
theorem uE {Z:Cx} {t1 i1 tg i2 elt:Expr} {f1 ifs:List Expr} {scope:Scope} {pos:Pos} {J:It} {fp:List Addr} {it D:Addr} {tn:Nat -> Heap -> Prop} {pins:List (Addr × Obj)} {σ:L2.St} {H:Hp} {s:Shared} {g:TG} {tc:TT} {te:TE} {Nn:L2.St -> Hp -> Prop}
  (hc:Z.calm=true) (hxe:Z.xe=fun _ _=>False) (T:Turn Z.prog Z.w Z.K tg J fp it tn) (I:Inv Z pins σ H s) (st:tn 0 s.heap) (hf:∀ b ∈ fp,g9 Z pins H b) (hg:PG Z tg g) (ht:C1 Z ifs tc) (he:PE Z elt te) (goal:zx g tc te D Nn σ J H) :
  codeAny (model Z.prog Z.w) Z.A (.compLoop (.ListComp elt [⟨t1,i1,f1,0⟩,⟨tg,i2,ifs,0⟩] scope pos) 1 (.ref it) (.ref D) Z.env) (fun r s'=>r=.ok .next /\ ∃ σ' H',Inv Z pins σ' H' s' /\ Nn σ' H') s:=by
 obtain ⟨V,⟨m0,v0⟩,turn⟩:=goal
 have stat:∀ {H':Hp},(∀ b ∈ fp,H' b=none) -> ∀ b ∈ fp,g9 Z pins H' b:=fun hn b hb=>⟨hn b hb,(hf b hb).2⟩
 refine codeAny_loop rfl (fun n s'=>∃ i σ' H',Inv Z pins σ' H' s' /\ tn i s'.heap /\ (∀ b ∈ fp,H' b=none) /\ V i n σ' H') (fun n s5 hI=>?_) m0 ⟨0,σ,H,I,st,fun b hb=>(hf b hb).1,v0⟩
 obtain ⟨i,σ5,H5,I5,st5,fr5,w5⟩:=hI
 show wpAny _ Z.A ((compTurn (.ListComp elt [⟨t1,i1,f1,0⟩,⟨tg,i2,ifs,0⟩] scope pos) 1 (.ref it) (.ref D) Z.env).onRaise (fun x=>do noteFrame x _;theTreesLotGoes x)) _ _ s5
 refine wpAny_noted ?_
 rw [qE]
 refine wpAny_bind (wpAny_standAt (wpAny_bind ?_))
 rcases turn i n σ5 H5 w5 with ⟨stop,q⟩ | ⟨go,step⟩
 ·refine b9 (T.done Z rfl rfl rfl hc i pins s5 σ5 H5 _ I5 (stat fr5) st5 stop) fun r s6 ⟨hr,I6⟩=>?_
  subst hr
  exact wpAny_pure ⟨rfl,σ5,H5,I6,q⟩
 ·refine b9 (T.item Z rfl rfl rfl hc i pins s5 σ5 H5 _ I5 (stat fr5) st5 go) fun r s6 ⟨u,hr,h6⟩=>?_
  subst hr
  refine wpAny_bind (b9 h6 fun _ s7 ⟨x,H7,I7,r7,y7,st7,fr7⟩=>?_)
  have I7':=I7.pinned (stat fr7) (T.obj _ _ st7)
  have toF:∀ {α:Type} {t:Sem α} {Q Q':α -> Shared -> Prop} {E:Value -> Shared -> Prop} {s:Shared},wpAny (model Z.prog Z.w) Z.A t Q Z.xe s -> (∀ a s,Q a s -> Q' a s) -> wpAny (model Z.prog Z.w) Z.A t Q' E s:=fun h hQ=>by
   rw [hxe] at h
   exact kK h hQ
  refine wpAny_bind (toF (hg _ s7 σ5 H7 x u _ I7' r7 (step x H7 y7)) fun _ s8 ⟨σ8,H8,I8,q8⟩=>?_)
  refine wpAny_bind (toF (ht _ s8 σ8 H8 _ I8 q8) fun ok s9 ⟨H9,I9,q9⟩=>?_)
  have again:∀ {s10:Shared} {H10:Hp},Inv Z (pins ++ iQ fp s7.heap) σ8 H10 s10 -> (∃ m',m' < n /\ V (i + 1) m' σ8 H10) ->
    ∃ m,m < n /\ ∃ i σ' H',Inv Z pins σ' H' s10 /\ tn i s10.heap /\ (∀ b ∈ fp,H' b=none) /\ V i m σ' H':=fun {s10 H10} I10 ⟨m',hm,w10⟩=>by
   refine ⟨m',hm,i + 1,σ8,H10,I10.fD,T.keep _ _ _ st7 fun b hb o e=>(I10.pin (b,o) (List.mem_append_right _ (List.mem_append_right _ (bW hb e)))).1,fun b hb=>?_,w10⟩
   obtain ⟨o,e,d⟩:=T.obj _ _ st7 b hb
   exact (I10.pin (b,o) (List.mem_append_right _ (List.mem_append_right _ (bW hb e)))).2.1
  cases ok with
  | false=>
   rw [if_neg Bool.false_ne_true] at q9
   exact wpAny_pure ⟨rfl,again I9 q9⟩
  | true=>
   rw [if_pos rfl] at q9
   refine wpAny_bind (wpAny_bind (toF (he _ s9 σ8 H9 _ I9 q9) fun y s10 ⟨v10,H10,I10,r10,ys,hD,hz,w10⟩=>?_))
   refine wpAny_bind (toF (jb _ s10 σ8 H10 (.ref D) [v10] _ [y] (fun _ H'=>H'=upd H10 D (.lst (ys ++ [v10]))) I10 rfl (.cons r10 .nil) ⟨_,ys,v10,rfl,rfl,hD,hz,rfl⟩) fun _ s11 ⟨_,H11,I11,_,e11⟩=>?_)
   subst e11
   exact wpAny_pure (wpAny_pure ⟨rfl,again I11 w10⟩)
def DN (cap:List (Option Nat)) (g:TG) (tc:TT) (wi2:TI) (g2:TG) (tc2:TT) (te:TE) (σ:L2.St) (Q:VK) (J:It) (H1:Hp):Prop:=∀ D,H1 D=none ->
 ∃ W:Nat -> Nat -> L2.St -> Hp -> Prop,(∃ m,W 0 m (cap.map (DH σ)) (upd H1 D (.lst []))) /\ ∀ i m σ' H',W i m σ' H' ->
  (J.stop i H' /\ Q (.ref D) H') \/ (J.go i H' /\ ∀ x H2,J.yld i H' x H2 -> g x σ' H2 fun σ3 H3=>tc σ3 H3 fun b H4=>
   if b=true then wi2 σ3 H4 (zx g2 tc2 te D (fun σ5 H5=>∃ m',m' < m /\ W (i + 1) m' σ5 H5) σ3)
   else ∃ m',m' < m /\ W (i + 1) m' σ3 H4)
def KI (cap:List (Option Nat)) (wi:TI) (g:TG) (tc:TT) (wi2:TI) (g2:TG) (tc2:TT) (te:TE):TE:=fun σ H Q=>wi σ H (DN cap g tc wi2 g2 tc2 te σ Q)
theorem GR {X:Cx} {tg iter tg2 iter2 elt:Expr} {ifs ifs2:List Expr} {scope:Scope} {pos:Pos} {N:List Str} {cap:List (Option Nat)} {wi wi2:TI} {g g2:TG} {tc tc2:TT} {te:TE} (hc:X.calm=true) (S:CpScope X scope N cap) (hi:PI X tg iter wi)
  (hg:∀ C s₀ H₀ ex,PG (bL X scope N C s₀ H₀ ex) tg g) (ht:∀ C s₀ H₀ ex,C1 (bL X scope N C s₀ H₀ ex) ifs tc) (hi2:∀ C s₀ H₀ ex,PI (bL X scope N C s₀ H₀ ex) tg2 iter2 wi2)
  (hg2:∀ C s₀ H₀ ex,PG (bL X scope N C s₀ H₀ ex) tg2 g2) (ht2:∀ C s₀ H₀ ex,C1 (bL X scope N C s₀ H₀ ex) ifs2 tc2) (he:∀ C s₀ H₀ ex,PE (bL X scope N C s₀ H₀ ex) elt te)
  (hs:∀ x,foldedSetIterable iter X.env x=pure x:=by intro _;rfl) (hs2:∀ env x,foldedSetIterable iter2 env x=pure x:=by intro _ _;rfl):PE X (.ListComp elt [⟨tg,iter,ifs,0⟩,⟨tg2,iter2,ifs2,0⟩] scope pos) (KI cap wi g tc wi2 g2 tc2 te):=by
 intro pins s σ H Q I h
 have hfree:∀ y ∈ scope.names,y.2=.free -> ∃ c,X.env.cells.lookup y.1=some c:=fun y hy e=>I.ok.has _ (S.fr y hy e)
 rw [eval_ListComp]
 refine wpAny_comprehension_free (use:=none) rfl hs (jP hfree) S.kind S.nm (b9 (hi pins s σ H _ I h) fun xv s1 h1=>b9 h1 fun itv s2 h2=>?_)
 obtain ⟨it,fp,tn,J,H2,rfl,I2,T,st2,f2,h2⟩:=h2
 refine wpAny_newObj_type (wpAny_newFunctionEnv S.nocell (by intro y hy;simp at hy) (fun h₁ hns₁ hsb₁=>?_) S.kind)
 obtain ⟨W,⟨m0,w0⟩,turn⟩:=h2 s2.heap.objs.size I2.fresh
 dsimp only at hns₁ hsb₁ ⊢
 have I3:Inv X pins σ (upd H2 s2.heap.objs.size (.lst [])) { s2 with heap:=s2.heap.push { cls:=.type "list",data:=.seq ([]:List Value).toArray } }:=I2.yT (t':=s2.toks) (its:=[]) .nil (Nat.zero_le _)
 have hfp:∀ b ∈ fp,∃ o,s2.heap.get? b=some o:=fun b hb=>by
  obtain ⟨o,e,_⟩:=T.obj 0 _ st2 b hb
  exact ⟨o,e⟩
 have neD:∀ b ∈ fp,b ≠ s2.heap.objs.size:=fun b hb=>by
  obtain ⟨o,e⟩:=hfp b hb
  exact Nat.ne_of_lt (Heap.lt_size e)
 have f3:∀ b ∈ fp,g9 X pins (upd H2 s2.heap.objs.size (.lst [])) b:=fun b hb=>⟨by rw [aM (neD b hb)];exact (f2 b hb).1,(f2 b hb).2⟩
 have hDC:s2.heap.objs.size ≠ (s2.heap.push { cls:=.type "list",data:=.seq ([]:List Value).toArray }).objs.size:=by rw [Heap.size_push];exact Nat.ne_of_lt (Nat.lt_succ_self _)
 have old:∀ b o,(s2.heap.push { cls:=.type "list",data:=.seq ([]:List Value).toArray }).get? b=some o -> h₁.get? b=some o:=fun b o e=>hsb₁.extBut b o (Nat.ne_of_lt (Heap.lt_size e)) (Heap.get?_push_of_some _ e)
 have I4:=uT (tk:=s2.toks + ([]:List (Str × Value)).length) (fp:=fp) S I3 f3 (fun b hb=>by
  obtain ⟨o,e⟩:=hfp b hb
  exact ⟨o,Heap.get?_push_of_some _ e⟩) hns₁ old
 have st4:tn 0 h₁:=T.keep _ _ _ st2 fun b hb o e=>old b o (Heap.get?_push_of_some _ e)
 have stat:∀ {H':Hp},(∀ b ∈ fp,H' b=none) -> ∀ b ∈ fp,g9 (bL X scope N (s2.heap.push { cls:=.type "list",data:=.seq ([]:List Value).toArray }).objs.size { s2 with heap:=s2.heap.push { cls:=.type "list",data:=.seq ([]:List Value).toArray } } (upd H2 s2.heap.objs.size (.lst [])) fp) [] H' b:=fun hn b hb=>by
  have ok:=I4.ok
  refine ⟨hn b hb,(ok.exf b hb).1,ok.exfs b hb,.inl hb,fun x c e=>(ok.exf b hb).2 x c e,fun p hp=>nomatch hp⟩
 have loop:∀ s4:Shared,s4={ s2 with heap:=h₁,toks:=s2.toks + ([]:List (Str × Value)).length } ->
   codeAny (model X.prog X.w) X.A (.compLoop (.ListComp elt [⟨tg,iter,ifs,0⟩,⟨tg2,iter2,ifs2,0⟩] scope pos) 0 (.ref it) (.ref s2.heap.objs.size) (compEnvC scope (iF X.env scope.names []) (s2.heap.push { cls:=.type "list",data:=.seq ([]:List Value).toArray }).objs.size X.env))
    (compPost (model X.prog X.w) X.A X.xe none (EP X pins σ Q) (.ref s2.heap.objs.size) (s2.heap.push { cls:=.type "list",data:=.seq ([]:List Value).toArray }).objs.size) s4:=by
  rintro s4 rfl
  refine codeAny_loop rfl (fun n s'=>∃ i σ' H',Inv (bL X scope N (s2.heap.push { cls:=.type "list",data:=.seq ([]:List Value).toArray }).objs.size { s2 with heap:=s2.heap.push { cls:=.type "list",data:=.seq ([]:List Value).toArray } } (upd H2 s2.heap.objs.size (.lst [])) fp) [] σ' H' s' /\ tn i s'.heap /\ (∀ b ∈ fp,H' b=none) /\ W i n σ' H') (fun n s5 hI=>?_) m0 ⟨0,_,_,I4,st4,fun b hb=>(f3 b hb).1,w0⟩
  obtain ⟨i,σ5,H5,I5,st5,fr5,w5⟩:=hI
  show wpAny _ X.A ((compTurn (.ListComp elt [⟨tg,iter,ifs,0⟩,⟨tg2,iter2,ifs2,0⟩] scope pos) 0 (.ref it) (.ref s2.heap.objs.size) (compEnvC scope (iF X.env scope.names []) (s2.heap.push { cls:=.type "list",data:=.seq ([]:List Value).toArray }).objs.size X.env)).onRaise (fun x=>do noteFrame x _;theTreesLotGoes x)) _ _ s5
  refine wpAny_noted ?_
  rw [rC]
  refine wpAny_bind (wpAny_standAt (wpAny_bind ?_))
  rcases turn i n σ5 H5 w5 with ⟨stop,q⟩ | ⟨go,step⟩
  ·refine b9 (T.done (bL X scope N (s2.heap.push { cls:=.type "list",data:=.seq ([]:List Value).toArray }).objs.size { s2 with heap:=s2.heap.push { cls:=.type "list",data:=.seq ([]:List Value).toArray } } (upd H2 s2.heap.objs.size (.lst [])) fp) rfl rfl rfl hc i [] s5 σ5 H5 _ I5 (stat fr5) st5 stop) fun r s6 ⟨hr,I6⟩=>?_
   subst hr
   obtain ⟨m6,hn6,_⟩:=I6.loc
   refine wpAny_pure ⟨m6,hn6,fun h' sb=>?_⟩
   have u6:=I6.base
   have nC:∀ b o,(s2.heap.push { cls:=.type "list",data:=.seq ([]:List Value).toArray }).get? b=some o -> b ≠ (s2.heap.push { cls:=.type "list",data:=.seq ([]:List Value).toArray }).objs.size:=fun b o e=>Nat.ne_of_lt (Heap.lt_size e)
   refine ⟨.ref s2.heap.objs.size,H5,?_,rfl,q⟩
   refine I3.vU (ch:=fp) I6.os ⟨fun b o e n hb hx=>?_,fun b o e n hb hx=>?_,fun b o e n hx=>?_,fun b o e hx=>?_,u6.tups,u6.frzs,u6.tbls⟩ ?_ I6.bare ?_
   ·exact sb.extBut b o (nC b o e) (u6.keep b o e n hb hx)
   ·obtain ⟨sl,z⟩:=u6.slot b o e n hb hx
    exact ⟨sl,sb.extBut b _ (nC b o e) z⟩
   ·exact u6.free b o e n hx
   ·obtain ⟨o',z⟩:=u6.there b o e hx
    exact ⟨o',sb.extBut b _ (nC b o e) z⟩
   ·intro b o e
    have hb:∀ c v,H5 c=some v -> c ≠ (s2.heap.push { cls:=.type "list",data:=.seq ([]:List Value).toArray }).objs.size:=fun c v e z=>by
     rw [z] at e
     have:=I6.free
     rw [show H5 (s2.heap.push { cls:=.type "list",data:=.seq ([]:List Value).toArray }).objs.size=none from this] at e
     cases e
    refine (I6.hok b o e).stay (fun c v hc q=>sb.extBut c v ?_ q) (fun _ q=>q) fun _ _ q=>q
    rcases hc with z | z
    ·rw [z];exact hb b o e
    ·exact hb c _ z
   ·intro b hb
    obtain ⟨_,z1,_,z3,z4,z5⟩:=f3 b hb
    exact ⟨z3,z1,z4,z5⟩
  ·refine b9 (T.item (bL X scope N (s2.heap.push { cls:=.type "list",data:=.seq ([]:List Value).toArray }).objs.size { s2 with heap:=s2.heap.push { cls:=.type "list",data:=.seq ([]:List Value).toArray } } (upd H2 s2.heap.objs.size (.lst [])) fp) rfl rfl rfl hc i [] s5 σ5 H5 _ I5 (stat fr5) st5 go) fun r s6 ⟨u,hr,h6⟩=>?_
   subst hr
   refine wpAny_bind (b9 h6 fun _ s7 ⟨x,H7,I7,r7,y7,st7,fr7⟩=>?_)
   have I7':=I7.pinned (stat fr7) (T.obj _ _ st7)
   refine wpAny_bind (kK (hg _ _ _ fp _ s7 σ5 H7 x u _ I7' r7 (step x H7 y7)) fun _ s8 ⟨σ8,H8,I8,q8⟩=>?_)
   refine wpAny_bind (kK (ht _ _ _ fp _ s8 σ8 H8 _ I8 q8) fun ok s9 ⟨H9,I9,q9⟩=>?_)
   have again:∀ {s10:Shared} {H10:Hp} {σ10:L2.St},Inv (bL X scope N (s2.heap.push { cls:=.type "list",data:=.seq ([]:List Value).toArray }).objs.size { s2 with heap:=s2.heap.push { cls:=.type "list",data:=.seq ([]:List Value).toArray } } (upd H2 s2.heap.objs.size (.lst [])) fp) ([] ++ iQ fp s7.heap) σ10 H10 s10 -> (∃ m',m' < n /\ W (i + 1) m' σ10 H10) ->
     ∃ m,m < n /\ ∃ i σ' H',Inv (bL X scope N (s2.heap.push { cls:=.type "list",data:=.seq ([]:List Value).toArray }).objs.size { s2 with heap:=s2.heap.push { cls:=.type "list",data:=.seq ([]:List Value).toArray } } (upd H2 s2.heap.objs.size (.lst [])) fp) [] σ' H' s10 /\ tn i s10.heap /\ (∀ b ∈ fp,H' b=none) /\ W i m σ' H':=fun {s10 H10 σ10} I10 ⟨m',hm,w10⟩=>by
    refine ⟨m',hm,i + 1,σ10,H10,I10.fD,T.keep _ _ _ st7 fun b hb o e=>(I10.pin (b,o) (List.mem_append_right _ (List.mem_append_right _ (bW hb e)))).1,fun b hb=>?_,w10⟩
    obtain ⟨o,e,d⟩:=T.obj _ _ st7 b hb
    exact (I10.pin (b,o) (List.mem_append_right _ (List.mem_append_right _ (bW hb e)))).2.1
   cases ok with
   | false=>
    rw [if_neg Bool.false_ne_true] at q9
    exact wpAny_pure ⟨rfl,again I9 q9⟩
   | true=>
    rw [if_pos rfl] at q9
    refine wpAny_bind (kK (hi2 _ _ _ fp _ s9 σ8 H9 _ I9 q9) fun xv s10 h10=>wpAny_bind (wpAny_standAt ?_))
    rw [hs2]
    refine wpAny_bind (wpAny_pure (wpAny_bind (wpAny_holding (kK h10 fun itv s11 h11=>?_))))
    obtain ⟨it2,fp2,tn2,J2,H11,rfl,I11,T2,st11,f11,goal⟩:=h11
    have hcz:=hc
    have loop2:=(fun (Z:Cx) (h1:Z.calm=true) (h2:Z.xe=fun _ _=>False) T2 I11=>uE (Z:=Z) (t1:=tg) (i1:=iter) (f1:=ifs) (i2:=iter2) (scope:=scope) (pos:=pos) h1 h2 T2 I11) _ (show (bL X scope N _ _ _ fp).calm=true from hcz) rfl T2 I11 st11 f11 (hg2 _ _ _ fp) (ht2 _ _ _ fp) (he _ _ _ fp) goal
    refine wpAny_bind (wpAny_runOwn (codeAny_mono (iE loop2 (T2.self _ 0 _ _ _ st11 loop2)) fun r s12 hr12=>?_))
    obtain ⟨hr,σ12,H12,I12,n12⟩:=hr12
    subst hr
    exact wpAny_pure ⟨rfl,again I12 n12⟩
 exact codeAny_compStart_list (loop _ rfl) (T.self _ 0 _ _ _ st4 (loop _ rfl))
end L2
namespace L2
open PySem PySem.Spec PyProof.Rows
open PySem.SeqAt
open PySem.AutoSeq1 (wpAny_loadPart')
open PySem.MeetsSeq PySem.MeetsSeq2 PySem.MeetsSeq3 PySem.SeqAt
theorem ints_get:∀ {vs:List Value} {ns:List Int} {i:Nat},IntsAre vs ns -> i < vs.length -> ∃ a t,vs[i]?=some (.int a t) /\ ns.drop i=a :: ns.drop (i + 1)
 | _,_,_,.nil,h=>absurd h (by simp)
 | _,_,0,.cons a t _,_=>⟨a,t,rfl,rfl⟩
 | _,_,i + 1,.cons a t q,h=>by
  obtain ⟨b,u,e,f⟩:=ints_get q (i:=i) (by simpa using h)
  exact ⟨b,u,by simpa using e,by simpa using f⟩
theorem B4 (A:Around) (s:Shared) (a:Int) (t:Tok) (c:Int) (u:Tok) (prog:Program) (w:World) (E:Value -> Shared -> Prop) (Q:Value -> Shared -> Prop) (h:Q (.bool (decide (c < a))) s) :
  wpAny (model prog w) A (richCompare .Gt (.int a t) (.int c u)) Q E s:=
 (PyProof.Rows.gt_int h:wpAny (model prog w) A (compareOp .Gt (.int a t) (.int c u)) Q E s)
theorem AY (l b:Addr) (items items2:Array Value) (n n2:Nat) (dd dd2:Option Addr) (sl sl2:Array (Option Value)) (ns ms:List Int) (hi:IntsAre items.toList ns) (hj:IntsAre items2.toList ms) (k:Nat) :
  ∀ i:Nat,items.size - i=k -> i <= items.size -> i <= items2.size -> Meets (Builtin.«list.__eq__.loop» ⟨[.ref l,.ref b,rawInt i,rawInt 4],[]⟩)
   (fun _ R s=>s.heap.get? l=some { cls:=.type "list",dict:=dd,data:=.seq items n,slots:=sl } /\ s.heap.get? b=some { cls:=.type "list",dict:=dd2,data:=.seq items2 n2,slots:=sl2 } /\
    R (.ok (.ret (.bool (HT.lexLt (ms.drop i) (ns.drop i))))) s):=by
 have z1:items.size=ns.length:=by rw [<- hi.length];simp
 have z2:items2.size=ms.length:=by rw [<- hj.length];simp
 have fin:∀ i:Nat,i <= items.size -> i <= items2.size -> (i=items.size \/ i=items2.size) -> HT.lexLt (ms.drop i) (ns.drop i)=decide (items.size > items2.size):=fun i h1 h2 h=>by
  rcases h with h | h
  ·rw [List.drop_eq_nil_of_le (show ns.length <= i by omega),decide_eq_false (by omega)]
   cases ms.drop i <;> rfl
  ·rw [List.drop_eq_nil_of_le (show ms.length <= i by omega)]
   by_cases c:i < ns.length
   ·rw [decide_eq_true (by omega),List.drop_eq_getElem_cons c];rfl
   ·rw [decide_eq_false (by omega),List.drop_eq_nil_of_le (by omega)];rfl
 induction k with
 | zero=>
  intro i hk h1 h2 prog w A R s h
  obtain ⟨hp,g,d,tk,os⟩:=s;obtain ⟨hl,hb,h⟩:=h
  wp_walk using wpAny_loadPart' hl,wpAny_loadPart' hb
  have hi1:items[((i:Nat):Int).toNat]?=none:=by simp;omega
  rw [hi1]
  wp_walk using wpAny_loadPart' hl,wpAny_loadPart' hb
  rw [fin i h1 h2 (by omega)] at h
  exact h
 | succ k ih=>
  intro i hk h1 h2 prog w A R s h
  obtain ⟨hp,g,d,tk,os⟩:=s;obtain ⟨hl,hb,h⟩:=h
  wp_walk using wpAny_loadPart' hl,wpAny_loadPart' hb
  obtain ⟨a,t,ea,da⟩:=ints_get hi (i:=i) (by simp;omega)
  have hi1:items[((i:Nat):Int).toNat]?=some (.int a t):=by simpa using ea
  rw [hi1]
  by_cases c:i < items2.size
  ·obtain ⟨a',t',ea',da'⟩:=ints_get hj (i:=i) (by simp;omega)
   have hi2:items2[((i:Nat):Int).toNat]?=some (.int a' t'):=by simpa using ea'
   rw [hi2]
   have hc:((i:Int) + 1)=((i + 1:Nat):Int):=by push_cast;rfl
   rw [da,da',HT.jR] at h
   obtain ⟨e,he,hiff⟩:=HT.sF A.in1 ⟨hp,g,d,tk,os⟩ a t a' t'
   refine wpAny_bind (he prog w _ _ ?_)
   cases e with
   | true=>
    rw [if_pos (hiff.mp rfl).symm] at h
    wp_walk
    rw [hc]
    exact ⟨plainId_quiet plain_eq_loop _,codeAny_builtin entry_eq_loop (by
     rw [Around.under_plainId plain_eq_loop _]
     exact ih (i + 1) (by omega) (by omega) (by omega) prog w A R _ ⟨hl,hb,h⟩)⟩
   | false=>
    rw [if_neg (fun q=>absurd (hiff.mpr q.symm) Bool.false_ne_true)] at h
    wp_walk using wpAny_loadPart' hl,wpAny_loadPart' hb
    rw [hi1,hi2]
    have hri:=B4 A.in1 ⟨hp,g,d,tk,os⟩ a t a' t' prog w
    wp_walk using hri
    exact h
  ·have hi2:items2[((i:Nat):Int).toNat]?=none:=by simp;omega
   rw [hi2]
   wp_walk using wpAny_loadPart' hl,wpAny_loadPart' hb
   rw [fin i h1 h2 (by omega)] at h
   exact h
theorem zJ (l b:Addr) (items items2:Array Value) (n n2:Nat) (dd dd2:Option Addr) (sl sl2:Array (Option Value)) (ns ms:List Int) (hi:IntsAre items.toList ns) (hj:IntsAre items2.toList ms) :
  Meets (Builtin.«list.__gt__» ⟨[.ref l,.ref b],[]⟩)
   (fun A R s=>s.heap.get? l=some { cls:=.type "list",dict:=dd,data:=.seq items n,slots:=sl } /\ s.heap.get? b=some { cls:=.type "list",dict:=dd2,data:=.seq items2 n2,slots:=sl2 } /\
    R (.ok (.ret (.bool (HT.lexLt ms ns)))) s):=by
 intro prog w A R s h
 obtain ⟨hp,g,d,tk,os⟩:=s;obtain ⟨hl,hb,h⟩:=h
 have f3:=AutoSeq1.sub_list_list
 wp_walk using wpAny_loadPart' hl,wpAny_loadPart' hb
 exact ⟨plainId_quiet plain_eq_loop _,codeAny_builtin entry_eq_loop (by
  rw [Around.under_plainId plain_eq_loop _]
  exact AY l b items items2 n n2 dd dd2 sl sl2 ns ms hi hj _ 0 rfl (Nat.zero_le _) (Nat.zero_le _) prog w A R _ ⟨hl,hb,h⟩)⟩
section
variable {prog:Program} {w:World} {A:Around} {E:Value -> Shared -> Prop} {s:Shared}
theorem Cw {l b:Addr} {items items2:Array Value} {ns ms:List Int} {Q:Value -> Shared -> Prop} (hl:s.heap.IsList l items) (hb:s.heap.IsList b items2) (hi:IntsAre items.toList ns) (hj:IntsAre items2.toList ms)
  (hu:A.units < cLine) (h:Q (.bool (HT.lexLt ms ns)) s):wpAny (model prog w) A (compareOp .Gt (.ref l) (.ref b)) Q E s:=by
 obtain ⟨⟨cls,dd,data,sl⟩,ho,hc,n,hd⟩:=id hl
 obtain ⟨⟨cls2,dd2,data2,sl2⟩,ho2,hc2,n2,hd2⟩:=id hb
 simp only at hc hd hc2 hd2
 subst hc hd hc2 hd2
 exact richCompare_meets_room (op:=.Gt) ⟨_,ho,rfl⟩ ⟨_,ho2,rfl⟩ PySem.F.slot_list_gt PySem.F.entry_list_gt (PySem.F.args_list_gt_2 _ _) (zJ l b items items2 n n2 dd dd2 sl sl2 ns ms hi hj)
  ⟨ho,ho2,show Value.bool (HT.lexLt ms ns) ≠ Value.notImplemented /\ Q (.bool (HT.lexLt ms ns)) s from ⟨(fun x=>nomatch x),h⟩⟩ hu
end
section
variable {X:Cx}
theorem zZ:eW X (binaryOp .FloorDiv) (rI (fun _ j=>0 < j /\ j < 18446744073709551616) fun i j=>.int (i / j)):=Kq fun i j _ _ _ _ _ hc q=>by
 have h1:(0:Int) < j:=hc.1
 have h2:j < 18446744073709551616:=hc.2
 refine floordiv_int (by omega) (by rw [Int.fdiv_eq_ediv_of_nonneg i (by omega)];exact q) (.inl (PyProof.noPylong_of_log2 ?_))
 exact Nat.lt_of_lt_of_le ((Nat.log2_lt (by omega)).mpr (show j.natAbs < 2 ^ 64 by omega)) (by decide)
def KO (K:PySem.W.Frag):R2:=fun x y H Q=>∃ a b ns ms,x=.ref a /\ y=.ref b /\ fF K H a (ns.map V.int) /\ fF K H b (ms.map V.int) /\ Q (.bl (HT.lexLt ms ns)) H
theorem HJ (hu:X.A.units < cLine):eW X (compareOp .Gt) (KO X.K):=by
 intro pins s σ H x y v u Q I rx ry h
 obtain ⟨a,b,ns,ms,rfl,rfl,ha,hb,q⟩:=h
 cases rx
 cases ry
 obtain ⟨its,r1,⟨o1,n1,g1,c1,d1,s1⟩,_⟩:=I.list ha
 obtain ⟨its2,r2,⟨o2,n2,g2,c2,d2,s2⟩,_⟩:=I.list hb
 have i1:IntsAre its.toArray.toList ns:=intsAre_of r1
 have i2:IntsAre its2.toArray.toList ms:=intsAre_of r2
 exact Cw ⟨o1,g1,c1,n1,s1⟩ ⟨o2,g2,c2,n2,s2⟩ i1 i2 hu ⟨.bl (HT.lexLt ms ns),H,I,rfl,q⟩
end
end L2
namespace L2
open PySem PySem.Spec PyProof.Rows
def K8 (x:Str):It:=⟨fun i _=>i < x.cps.size,fun i H v H'=>H'=H /\ ∃ c,x.cps[i]?=some c /\ v=.str ⟨#[c]⟩,fun i _=>i=x.cps.size⟩
theorem Ag {P:Program} {w:World} {K:PySem.W.Frag} {tg:Expr} (x:Str) (t:Tok) (it:Addr):Turn P w K tg (K8 x) [it] it (fun i h=>h.IsStrIter it "str_ascii_iterator" x t i) where
 mem:=by simp
 obj:=fun i h st b hb=>by
  have e:b=it:=by simpa using hb
  subst e
  obtain ⟨o,e,c,d⟩:=st
  exact ⟨o,e,fun v z=>by rw [d] at z;cases z⟩
 keep:=fun i h h' st k=>let ⟨o,ho,r⟩:=st;⟨o,k it (by simp) o ho,r⟩
 item:=by
  intro X hP hw hK hc i pins s σ H E I hf st hg
  subst hP hw hK
  obtain ⟨f0,f1,f2,f3,f4,f5⟩:=hf it (by simp)
  have W:=Walks.strAscii (prog:=X.prog) (w:=X.w) (I.ok.hd hc) it x t
  refine W.item i s _ _ hg st fun v h' tk hv st' kk=>?_
  obtain ⟨c,u,hcx,rfl⟩:=hv
  have I1:Inv X pins σ H { s with heap:=h',toks:=tk }:=I.turned (fun b o hb e=>kk b o (by simpa using hb) e) f0 f1 f3 f4 f5
  obtain ⟨o,e,cc,d⟩:=id st'
  exact ⟨_,rfl,vN (s:={ s with heap:=h',toks:=tk }) e cc d (by decide) ⟨.str ⟨#[c]⟩,H,I1,⟨u,rfl⟩,⟨rfl,c,hcx,rfl⟩,st',fun b hb=>(hf b hb).1⟩⟩
 done:=by
  intro X hP hw hK hc i pins s σ H E I hf st hg
  subst hP hw hK
  obtain ⟨f0,f1,f2,f3,f4,f5⟩:=hf it (by simp)
  have hg:i=x.cps.size:=hg
  subst hg
  have W:=Walks.strAscii (prog:=X.prog) (w:=X.w) (I.ok.hd hc) it x t
  exact W.done s _ _ st fun h' tk kk=>⟨rfl,I.turned (fun b o hb e=>kk b o (by simpa using hb) e) f0 f1 f3 f4 f5⟩
 self:=fun _ _ _ _ _ st h=>wpAny_pyIter_striter_ascii st h
section
variable {X:Cx} {tg:Expr}
def Ls (tl:TE):TI:=fun σ H R=>tl σ H fun x H1=>∃ y:Str,x=.str y /\ y.cps.all (· < 128)=true /\ R (K8 y) H1
theorem HL {l:Expr} {tl:TE} (hl:PE X l tl):PI X tg l (Ls tl):=by
 intro pins s σ H R I h
 refine b9 (hl pins s σ H _ I h) fun v s1 ⟨x,H1,I1,r1,q1⟩=>?_
 obtain ⟨y,e,ha,q⟩:=q1
 subst e
 obtain ⟨t,rfl⟩:=r1
 refine wpAny_pyIter_ascii ha ?_
 refine ⟨s1.heap.objs.size,[s1.heap.objs.size],_,_,H1,rfl,I1.kept (t':=s1.toks) fun b o e=>Heap.get?_push_of_some _ e,Ag y t _,⟨_,Heap.get?_push_size _ rfl,rfl,rfl⟩,fun b hb=>?_,q⟩
 have e:b=s1.heap.objs.size:=by simpa using hb
 subst e
 exact I1.z7 (Nat.le_refl _) (I1.hok.fresh (Nat.le_refl _))
theorem yk:bD X (.type "int") (fun xs H Q=>∃ (y:Str) (n:Int),xs=[.str y] /\ y.length <= 640 /\ PySem.intText? y=some n /\ Q (.int n) H):=by
 intro pins s σ H xs us Q I rv h
 obtain ⟨y,n,rfl,hl,hn,q⟩:=h
 obtain ⟨w,rfl,rw'⟩:=vals1 rv
 obtain ⟨u,rfl⟩:=rw'
 exact PySem.W.KIN.call_text hn hl ⟨.int n,H,I.tok _,⟨_,rfl⟩,q⟩
end
end L2
namespace L2
open PySem PySem.Spec PyProof.Rows
section
variable {κ:Type} [DecidableEq κ]
def kg (kvs:List (κ × V)) (k:κ):Option V:=(kvs.find? fun kv=>decide (kv.1=k)).map (·.2)
def putK (kvs:List (κ × V)) (k:κ) (v:V):List (κ × V):=
 if (kvs.any fun kv=>decide (kv.1=k))=true then kvs.map (fun kv=>if kv.1=k then (kv.1,v) else kv) else kvs ++ [(k,v)]
theorem kG {p:κ × V} {r:List (κ × V)} {k:κ} (e:p.1=k):kg (p :: r) k=some p.2:=by simp [kg,List.find?_cons,e]
theorem kF {p:κ × V} {r:List (κ × V)} {k:κ} (e:¬ p.1=k):kg (p :: r) k=kg r k:=by simp [kg,List.find?_cons,e]
theorem oS (k:κ):∀ kvs:List (κ × V),(kvs.any fun kv=>decide (kv.1=k))=(kg kvs k).isSome
 | []=>rfl
 | p :: r=>by
  rw [List.any_cons]
  by_cases e:p.1=k
  ·simp only [kG e,decide_eq_true e,Bool.true_or,Option.isSome_some]
  ·rw [kF e,decide_eq_false e,Bool.false_or];exact oS k r
theorem mE (kvs:List (κ × V)) (k:κ) (v:V):(putK kvs k v).length <= kvs.length + 1:=by
 unfold putK
 split
 ·rw [List.length_map];omega
 ·rw [List.length_append,List.length_cons,List.length_nil];omega
theorem oh.lQ {o:Option V} {u:Option Value} (r:oh o u):o.isSome=u.isSome:=by
 cases o with
 | none=>cases u with
  | none=>rfl
  | some _=>exact (show False from r).elim
 | some _=>cases u with
  | none=>exact (show False from r).elim
  | some _=>rfl
theorem KV.val {kvs:List (κ × V)} {vs:List (κ × Value)} (r:KV kvs vs) (k:κ):oh (kg kvs k) (valueAt vs k):=by
 unfold KV at r
 induction r with
 | nil=>exact True.intro
 | @cons p q ps qs h t ih=>
  obtain ⟨h1,h2⟩:=h
  by_cases e:p.1=k
  ·have e':q.1=k:=h1.symm.trans e
   have b:valueAt (q :: qs) k=some q.2:=by simp [valueAt,List.find?_cons,e']
   rw [kG e,b];exact h2
  ·have e':¬ q.1=k:=fun z=>e (h1.trans z)
   have b:valueAt (q :: qs) k=valueAt qs k:=by simp [valueAt,List.find?_cons,e']
   rw [kF e,b];exact ih
theorem KV.any {kvs:List (κ × V)} {vs:List (κ × Value)} (r:KV kvs vs) (k:κ):(kvs.any fun kv=>decide (kv.1=k))=vs.any fun kv=>decide (kv.1=k):=by
 unfold KV at r
 induction r with
 | nil=>rfl
 | cons h t ih=>rw [List.any_cons,List.any_cons,ih,h.1]
theorem KV.repl {kvs:List (κ × V)} {vs:List (κ × Value)} (r:KV kvs vs) (k:κ) {y:V} {u:Value} (ry:RelV y u) :
  KV (kvs.map fun kv=>if kv.1=k then (kv.1,y) else kv) (vs.map fun kv=>if kv.1=k then (kv.1,u) else kv):=by
 unfold KV at r ⊢
 induction r with
 | nil=>exact .nil
 | @cons p q ps qs h t ih=>
  rw [List.map_cons,List.map_cons]
  refine .cons ?_ ih
  obtain ⟨h1,h2⟩:=h
  by_cases e:p.1=k
  ·rw [if_pos e,if_pos (h1.symm.trans e)];exact ⟨h1,ry⟩
  ·rw [if_neg e,if_neg (fun z=>e (h1.trans z))];exact ⟨h1,h2⟩
theorem KV.put {kvs:List (κ × V)} {vs:List (κ × Value)} (r:KV kvs vs) (k:κ) {y:V} {u:Value} (ry:RelV y u):KV (putK kvs k y) (stored vs k u):=by
 unfold putK stored
 rw [r.any k]
 by_cases e:(vs.any fun kv=>decide (kv.1=k))=true
 ·rw [if_pos e,if_pos e];exact r.repl k ry
 ·rw [if_neg e,if_neg e];exact Paired.snoc r ⟨rfl,ry⟩
theorem KV.length {kvs:List (κ × V)} {vs:List (κ × Value)} (r:KV kvs vs):kvs.length=vs.length:=Paired.length r
end
theorem xq {P:Program} {w:World} {k:Key} {u:Value} (r:RelV (kV k) u):(dh P w).is k u=true:=by
 cases k with
 | inl i=>obtain ⟨t,e⟩:=(show ∃ t,u=Value.int i t from r);subst e;exact rR P w i t
 | inr x=>obtain ⟨t,e⟩:=(show ∃ t,u=Value.str x t from r);subst e;exact sN P w x t
theorem pO {P:Program} {w:World}:∀ {ks:List Key} {us:List Value},Vals (ks.map kV) us -> ItemsAre (dh P w) ks us
 | [],_,r=>by rw [List.map_nil] at r;cases r;exact .nil
 | k :: ks,_,r=>by
  rw [List.map_cons] at r
  cases r with
  | cons h t=>exact .cons (xq h) (pO t)
abbrev KT (H:Hp):List (List Key × V) -> List (List Key × Addr × Value) -> Prop:=Paired fun p q=>p.1=q.1 /\ H q.2.1=some (.tup (p.1.map kV)) /\ RelV p.2 q.2.2
theorem KT.val {H:Hp} {kvs:List (List Key × V)} {xs:List (List Key × Addr × Value)} (r:KT H kvs xs) (k:List Key):oh (kg kvs k) ((atKey xs k).map (·.2)):=by
 induction r with
 | nil=>exact True.intro
 | @cons p q ps qs h t ih=>
  obtain ⟨h1,_,h2⟩:=h
  by_cases e:p.1=k
  ·have e':q.1=k:=h1.symm.trans e
   have b:atKey (q :: qs) k=some q.2:=by simp [atKey,List.find?_cons,e']
   rw [kG e,b];exact h2
  ·have e':¬ q.1=k:=fun z=>e (h1.trans z)
   have b:atKey (q :: qs) k=atKey qs k:=by simp [atKey,List.find?_cons,e']
   rw [kF e,b];exact ih
theorem KT.repl {H:Hp} {kvs:List (List Key × V)} {xs:List (List Key × Addr × Value)} (r:KT H kvs xs) (k:List Key) {y:V} {u:Value} (ry:RelV y u) :
  KT H (kvs.map fun kv=>if kv.1=k then (kv.1,y) else kv) (xs.map (putAt k u)):=by
 induction r with
 | nil=>exact .nil
 | @cons p q ps qs h t ih=>
  rw [List.map_cons,List.map_cons]
  refine .cons ?_ ih
  obtain ⟨h1,h2,h3⟩:=h
  unfold putAt
  by_cases e:p.1=k
  ·rw [if_pos e,if_pos (h1.symm.trans e)];exact ⟨h1,h2,ry⟩
  ·rw [if_neg e,if_neg (fun z=>e (h1.trans z))];exact ⟨h1,h2,h3⟩
theorem KT.put {H:Hp} {kvs:List (List Key × V)} {xs:List (List Key × Addr × Value)} (r:KT H kvs xs) (k:List Key) {b:Addr} {y:V} {u:Value} (hb:H b=some (.tup (k.map kV))) (ry:RelV y u) :
  KT H (putK kvs k y) (storedH xs k b u):=by
 have e:(kvs.any fun kv=>decide (kv.1=k))=(atKey xs k).isSome:=by
  rw [oS,(r.val k).lQ,Option.isSome_map]
 unfold putK storedH
 rw [e]
 by_cases q:(atKey xs k).isSome=true
 ·rw [if_pos q,if_pos q];exact r.repl k ry
 ·rw [if_neg q,if_neg q];exact Paired.snoc r ⟨rfl,hb,ry⟩
theorem KT.keeps {H H':Hp} {kvs:List (List Key × V)} {xs:List (List Key × Addr × Value)} (r:KT H kvs xs) (ht:∀ b ys,H b=some (.tup ys) -> H' b=some (.tup ys)):KT H' kvs xs:=
 Paired.Il r fun _ _ z=>⟨z.1,ht _ _ z.2.1,z.2.2⟩
section
variable {P:Program} {w:World} {H:Hp} {h:Heap} {a:Addr}
theorem ES {u:HO} (ok:jt P w H h) (e:Rd H a u):cA P w H h a u:=e.ok ok
theorem yg {kvs:List (Key × V)} (ok:jt P w H h) (e:Rd H a (.dK kvs)):kvs.length <= sizeLine /\ (a == sysModules)=false /\ ∃ vs,KV kvs vs /\ h.DictOf (dh P w) a vs:=
 show cA P w H h a (.dK kvs) from ES ok e
theorem J6 {kvs:List (Key × V)} (ok:jt P w H h) (e:H a=some (.dK kvs)):kvs.length <= sizeLine /\ (a == sysModules)=false /\ ∃ vs,KV kvs vs /\ h.DictOf (dh P w) a vs:=yg ok (.inl e)
theorem ny {ks:List Key} (ok:jt P w H h) (e:H a=some (.tup (ks.map kV))):(tupleKind (dh P w)).is h ks a:=by
 obtain ⟨_,its,r,o,h1,h2,_,n,h3⟩:=(show cA P w H h a (.tup (ks.map kV)) from ok a _ e)
 exact ⟨o,its.toArray,n,h1,h2,h3,by simpa using pO r⟩
theorem vH {kvs:List (List Key × V)} (ok:jt P w H h) (e:Rd H a (.dT kvs)):kvs.length <= sizeLine /\ (a == sysModules)=false /\
  ∃ xs,KT H kvs xs /\ h.DictOfH (tupleKind (dh P w)) a xs:=by
 obtain ⟨z,y,xs,r,o,es,ep,h1,h2,h3,h4,h5⟩:=(show cA P w H h a (.dT kvs) from ES ok e)
 refine ⟨z,y,xs,r,o,es,ep,h1,h2,h3,h4,fun x hx=>?_,h5⟩
 have all:∀ {l:List (List Key × V)} {m:List (List Key × Addr × Value)},KT H l m -> ∀ x ∈ m,(tupleKind (dh P w)).is h x.1 x.2.1:=by
  intro l m q
  induction q with
  | nil=>intro x hx;exact nomatch hx
  | @cons p q ps qs hq t ih=>
   intro x hx
   rcases List.mem_cons.mp hx with e | hx
   ·subst e
    exact ny ok (by rw [<- hq.1];exact hq.2.1)
   ·exact ih x hx
 exact all r x hx
theorem FF {kvs:List (List Key × V)} (ok:jt P w H h) (e:H a=some (.dT kvs)):kvs.length <= sizeLine /\ (a == sysModules)=false /\
  ∃ xs,KT H kvs xs /\ h.DictOfH (tupleKind (dh P w)) a xs:=vH ok (.inl e)
end
def qO (H:Hp) (a:Addr) (y:V) (r:Option V):Prop:=
 (∃ kvs k,Rd H a (.dK kvs) /\ y=kV k /\ r=kg kvs k) \/ ∃ kvs k b,Rd H a (.dT kvs) /\ y=.ref b /\ H b=some (.tup (k.map kV)) /\ r=kg kvs k
def B3 (H:Hp) (a:Addr) (y v:V) (H':Hp):Prop:=
 (∃ kvs k,H a=some (.dK kvs) /\ y=kV k /\ kvs.length < sizeLine /\ H'=upd H a (.dK (putK kvs k v))) \/
 ∃ kvs k b,H a=some (.dT kvs) /\ y=.ref b /\ H b=some (.tup (k.map kV)) /\ kvs.length < sizeLine /\ H'=upd H a (.dT (putK kvs k v))
theorem qO.t {H:Hp} {a b:Addr} {kvs:List (List Key × V)} {k:List Key} (e:H a=some (.dT kvs)) (eb:H b=some (.tup (k.map kV))):qO H a (.ref b) (kg kvs k):=.inr ⟨kvs,k,b,.inl e,rfl,eb,rfl⟩
theorem B3.t {H:Hp} {a b:Addr} {kvs:List (List Key × V)} {k:List Key} {v:V} (e:H a=some (.dT kvs)) (eb:H b=some (.tup (k.map kV))) (hl:kvs.length < sizeLine) :
  B3 H a (.ref b) v (upd H a (.dT (putK kvs k v))):=.inr ⟨kvs,k,b,e,rfl,eb,hl,rfl⟩
section
variable {X:Cx} {pins:List (Addr × Obj)} {σ:St} {H:Hp} {s:Shared} {a:Addr} {y v:V} {u r:Value} {o:Option V} {A:Around} {E:Value -> Shared -> Prop}
theorem Inv.big (I:Inv X pins σ H s):sysModules < s.heap.objs.size:=by
 have h:mainGlobals < s.heap.objs.size:=(I.mod.glob.keeps I.bk).lt
 exact Nat.lt_trans (by decide) h
theorem yU {Q:Value -> Shared -> Prop} (hu:A.units + 1 < cLine) (I:Inv X pins σ H s) (g:qO H a y (some v)) (ry:RelV y u) (h:∀ w' s',Inv X pins σ H s' -> RelV v w' -> Q w' s') :
  wpAny (model X.prog X.w) A (getItem (.ref a) u) Q E s:=by
 rcases g with ⟨kvs,k,e,ey,l⟩ | ⟨kvs,k,b,e,ey,eb,l⟩
 ·subst ey
  obtain ⟨z,hd,vs,rel,dd⟩:=yg I.hok e
  obtain ⟨w',hw,rw'⟩:=oh.some_of (v:=v) (o:=valueAt vs k) (by rw [l];exact rel.val k)
  exact wpAny_getItem_of (xq ry) dd.mapOf hw (h w' _ (I.tok _) rw')
 ·subst ey
  cases (show u=Value.ref b from ry)
  obtain ⟨z,hd,xs,rel,dd⟩:=vH I.hok e
  obtain ⟨w',hw,rw'⟩:=oh.some_of (v:=v) (o:=(atKey xs k).map (·.2)) (by rw [l];exact rel.val k)
  obtain ⟨p,hp,hp2⟩:=Option.map_eq_some_iff.mp hw
  refine wpAny_getItem_heap (tupleKind_room_in1 hu) (ny I.hok eb) dd hp ?_
  rw [hp2]
  exact h w' _ (I.tok _) rw'
theorem D7 {Q:Value -> Shared -> Prop} (hu:A.units + 1 < cLine) (I:Inv X pins σ H s) (g:qO H a y o) (ry:RelV y u) (h:∀ s',Inv X pins σ H s' -> Q (.bool (!o.isSome)) s') :
  wpAny (model X.prog X.w) A (compareOp .NotIn u (.ref a)) Q E s:=by
 rcases g with ⟨kvs,k,e,ey,l⟩ | ⟨kvs,k,b,e,ey,eb,l⟩
 ·subst ey
  obtain ⟨z,hd,vs,rel,dd⟩:=yg I.hok e
  refine wpAny_notIn_of (xq ry) hd dd.mapOf ?_
  rw [<- (rel.val k).lQ,<- l]
  exact h _ (I.tok _)
 ·subst ey
  cases (show u=Value.ref b from ry)
  obtain ⟨z,hd,xs,rel,dd⟩:=vH I.hok e
  refine wpAny_notIn_heap (tupleKind_room_in1 hu) (ny I.hok eb) hd dd ?_
  have q:=(rel.val k).lQ
  rw [Option.isSome_map] at q
  rw [<- q,<- l]
  exact h _ (I.tok _)
theorem qY {h':Heap} {t':Nat} {ob:HO} (I:Inv X pins σ H s) (mu:Iz (H a)) (hs:Heap.SameBut a s.heap h') (he:∃ q,h'.get? a=some q) (new:cA X.prog X.w (upd H a ob) h' a ob) :
  Inv X pins σ (upd H a ob) { s with heap:=h',toks:=t' }:=
 I.write (x:=a) (e:=a) mu (.inl rfl) (fun b q hb z=>(hs.2 b hb).trans z) he new
theorem Ht {P:Program} {w:World} {H':Hp} {h':Heap} {kvs:List (Key × V)} {vs:List (Key × Value)} (z:kvs.length <= sizeLine) (hd:(a == sysModules)=false) (rel:KV kvs vs) (dd:h'.DictOf (dh P w) a vs) :
  cA P w H' h' a (.dK kvs):=⟨z,hd,vs,rel,dd⟩
theorem yJ {H':Hp} {Q:Unit -> Shared -> Prop} (hu:A.units + 1 < cLine) (I:Inv X pins σ H s) (g:B3 H a y v H') (ry:RelV y u) (rv:RelV v r) (h:∀ s',Inv X pins σ H' s' -> Q () s') :
  wpAny (model X.prog X.w) A (setItem (.ref a) u r) Q E s:=by
 rcases g with ⟨kvs,k,e,ey,l,eH⟩ | ⟨kvs,k,b,e,ey,eb,l,eH⟩
 ·subst ey eH
  obtain ⟨z,hd,vs,rel,dd⟩:=J6 I.hok e
  have hz:vs.length <= sizeLine:=by rw [<- rel.length];exact z
  have hl:(putK kvs k v).length <= sizeLine:=by have:=mE kvs k v;omega
  refine wpAny_setItem_pairs (hsz:=hz) (xq ry) dd fun h' dd' hs=>h _ ?_
  have he:∃ q,h'.get? a=some q:=let ⟨q,_,_,hq,_⟩:=dd';⟨q,hq⟩
  exact qY I (by rw [e];exact True.intro) hs he (Ht hl hd (rel.put k rv) dd')
 ·subst ey eH
  cases (show u=Value.ref b from ry)
  obtain ⟨z,hd,xs,rel,dd⟩:=FF I.hok e
  have hz:xs.length <= sizeLine:=by rw [<- Paired.length rel];exact z
  have hl:(putK kvs k v).length <= sizeLine:=by have:=mE kvs k v;omega
  refine wpAny_setItem_heap (hsz:=hz) (tupleKind_room_in1 hu) (ny I.hok eb) dd fun h' dd' hs=>h _ ?_
  obtain ⟨q,es,ep,hq,h2,h3,h4,_,h5⟩:=dd'
  refine qY I (by rw [e];exact True.intro) hs ⟨q,hq⟩ ⟨hl,hd,_,(rel.put k eb rv).keeps fun c ys ec=>?_,q,es,ep,hq,h2,h3,h4,h5⟩
  rw [aM (EJ ec e (fun z=>nomatch z))]
  exact ec
end
section
variable {X:Cx} {pins:List (Addr × Obj)} {σ:St} {H:Hp} {s:Shared} {a:Addr} {kvs:List (Key × V)} {k:Key} {u:Value} {A:Around} {E:Value -> Shared -> Prop}
end
theorem tU {X:Cx} {pins:List (Addr × Obj)} {σ:St} {H:Hp} {s:Shared} {a:Addr} {y:V} {o:Option V} (I:Inv X pins σ H s) (g:qO H a y o):s.TypeIs (.ref a) "dict" := by
 rcases g with ⟨kvs,k,e,_,_⟩ | ⟨kvs,k,b,e,_,_,_⟩
 ·obtain ⟨_,_,vs,_,dd⟩:=yg I.hok e
  exact dd.typeIs
 ·obtain ⟨_,_,xs,_,dd⟩:=vH I.hok e
  exact dd.typeIs
section
variable {X:Cx} {o i e value:Expr} {pos pos' tpos:Pos} {td ty tv:TE}
end
theorem Cv {P:Program} {w:World} {H:Hp} (h:Heap) (hb:sysModules < h.objs.size):cA P w H (h.push { cls:=.type "dict",data:=.dict #[] }) h.objs.size (.dT []):=
 ⟨Nat.zero_le _,beq_eq_false_iff_ne.mpr (Ne.symm (Nat.ne_of_lt hb)),[],.nil,_,#[],0,Heap.get?_push_size _ rfl,⟨rfl,rfl,rfl⟩,rfl,rfl,List.nodup_nil⟩
section
variable {X:Cx} {pos:Pos}
end
structure M1 (X:Cx) (o:Expr) (m:Str) (apos:Pos) (e:Expr) (cpos:Pos):Prop where
 base:attributeBase o m X.env (eval o X.env)=eval o X.env
 few:((backTo cpos (starEach [e] X.env)).all (fun x=>!x.1) && (backToKw cpos (keywordEach [] X.env)).all (fun x=>x.1.isSome)
  && decide (([e]:List Expr).length + ([]:List Keyword).length + (if ([]:List Keyword).isEmpty then 0 else 1) < 30))=true
 line:(apos.endLine == cpos.line)=true
 trees:backTo cpos (starEach [e] X.env)=[(false,eval e X.env)]
structure M2 (X:Cx) (o:Expr) (m:Str) (apos:Pos) (e f:Expr) (cpos:Pos):Prop where
 base:attributeBase o m X.env (eval o X.env)=eval o X.env
 few:((backTo cpos (starEach [e,f] X.env)).all (fun x=>!x.1) && (backToKw cpos (keywordEach [] X.env)).all (fun x=>x.1.isSome)
  && decide (([e,f]:List Expr).length + ([]:List Keyword).length + (if ([]:List Keyword).isEmpty then 0 else 1) < 30))=true
 line:(apos.endLine == cpos.line)=true
 trees:backTo cpos (starEach [e,f] X.env)=[(false,eval e X.env),(false,eval f X.env)]
section
variable {X:Cx} {pins:List (Addr × Obj)} {σ:St} {H:Hp} {s:Shared} {a:Addr} {y d:V} {u r:Value} {o:Option V} {A:Around} {E:Value -> Shared -> Prop}
end
section
variable {X:Cx} {o e f:Expr} {apos cpos:Pos} {td ty tx:TE}
end
section
variable {X:Cx} {pins:List (Addr × Obj)} {σ:St} {H:Hp} {s:Shared} {a:Addr} {kvs:List (Key × V)} {A:Around} {E:Value -> Shared -> Prop}
end
section
variable {X:Cx} {pins:List (Addr × Obj)} {σ:St} {H:Hp} {s:Shared} {a:Addr} {y:V} {u:Value} {A:Around} {E:Value -> Shared -> Prop}
end
end L2
namespace L2
open PySem PySem.Spec PyProof.Rows
section
variable {X:Cx}
theorem Eb (hu:X.A.units + 1 < cLine):Gv X (fun x y H Q=>∃ a v,x=.ref a /\ qO H a y (some v) /\ Q v H):=by
 intro value slice pins s σ H x y v u Q I rx ry h hs
 obtain ⟨a,z,rfl,g,q⟩:=h
 cases rx
 have hT:=tU I g
 unfold subscriptTail
 refine wpAny_bind ?_
 rw [getitemInPython_of_ne hT.not_modules]
 refine wpAny_bind (wpAny_specialOf hT PySem.F.slot_dict_getitem.lookup ?_)
 have fin:wpAny (model X.prog X.w) X.A (subscripted slice false (.ref a) u) (fun r s₃=>wpAny (model X.prog X.w) X.A (letTemporaryGo value (.ref a) r >>= fun _=>pure r) (EP X pins σ Q) X.xe s₃) X.xe s:=by
  rw [hs]
  exact wpAny_operating (yU hu I g ry fun w' s3 I3 rw'=>wpAny_bind (wpAny_letTemporaryGo (wpAny_pure ⟨z,H,I3,rw',q⟩)))
 first
  | exact wpAny_pure (wpAny_bind fin)
  | exact wpAny_bind (wpAny_pure (wpAny_bind fin))
  | exact wpAny_bind fin
theorem yO (hu:X.A.units + 1 < cLine):eW X (compareOp .NotIn) (fun y x H Q=>∃ a o,x=.ref a /\ qO H a y o /\ Q (.bl (!o.isSome)) H):=by
 intro pins s σ H y x v u Q I ry rx h
 obtain ⟨a,o,rfl,g,q⟩:=h
 cases rx
 exact D7 hu I g ry fun s3 I3=>⟨.bl (!o.isSome),H,I3,rfl,q⟩
theorem set_dict (hu:X.A.units + 1 < cLine):AQ X (fun o i v H Q=>∃ a H',o=.ref a /\ B3 H a i v H' /\ Q H'):=by
 intro pins s σ H o i v ov iv u Q I ro ri rv h
 obtain ⟨a,H',rfl,g,q⟩:=h
 cases ro
 exact yJ hu I g ri rv fun s4 I4=>⟨H',I4,q⟩
def FP (tk tv:TE):TE:=fun σ H Q=>∀ p,H p=none -> tk σ (upd H p (.dT [])) fun x H1=>tv σ H1 fun y H2=>H2 p=some (.dT []) /\ ∃ b ks,x=.ref b /\ H2 b=some (.tup (ks.map kV)) /\ Q (.ref p) (upd H2 p (.dT [(ks,y)]))
theorem CM {k v:Expr} {pos:Pos} {tk tv:TE} (hu:X.A.units + 1 < cLine) (hk:PE X k tk) (hv:PE X v tv):PE X (.Dict [some k] [v] pos) (FP tk tv):=by
 intro pins s σ H Q I q
 have hn:=I.hok.fresh (Nat.le_refl s.heap.objs.size)
 have I1:=I.laid (a:=s.heap.objs.size) (o:=.dT []) (h':=s.heap.push { cls:=.type "dict",data:=.dict #[] }) (t':=s.toks) (fun _ _ q=>Heap.get?_push_of_some _ q) (Nat.le_refl _) (Cv s.heap I.big)
 refine wpAny_Dict_any rfl rfl (by simp) (show 1 <= 15 by decide) ?_
 refine pairTrees_cons_walk (b9 (hk pins _ σ _ _ I1 (q _ hn)) fun kv s1 ⟨x,H1,I2,rx,q1⟩=>b9 (hv pins s1 σ H1 _ I2 q1) fun vv s2 ⟨y,H2,I3,ry,e,b,ks,ex,eb,q2⟩=>pairTrees_nil_walk ?_)
 subst ex
 cases rx
 obtain ⟨z,hd,xs,rel,dd⟩:=FF I3.hok e
 cases rel
 unfold storeAll
 rw [List.forIn_cons]
 refine wpAny_bind (wpAny_bind (wpAny_dictSet_heap (hsz:=by simp) (show X.A.units < cLine by omega) (ny I3.hok eb) dd fun h' dd' hs=>wpAny_pure ?_))
 dsimp only
 rw [List.forIn_nil]
 refine wpAny_pure ⟨.ref s.heap.objs.size,_,?_,rfl,q2⟩
 obtain ⟨q',es,ep,hq,h2,h3,h4,_,h5⟩:=dd'
 refine qY I3 (by rw [e];exact True.intro) hs ⟨q',hq⟩ ⟨by show 1 <= sizeLine;decide,hd,_,(KT.put (kvs:=[]) .nil ks eb ry).keeps fun c ys ec=>?_,q',es,ep,hq,h2,h3,h4,h5⟩
 rw [aM (EJ ec e (fun z=>nomatch z))]
 exact ec
end
end L2
namespace L2
open PySem PySem.Spec PyProof.Rows
section
variable {P:Program} {w:World} {A:Around} {E:Value -> Shared -> Prop} {s:Shared} {it d:Addr} {i ep:Nat} {es:Array DictEntry} {o:Obj} {k0 v0:Value}
end
section
variable {X:Cx}
end
end L2
namespace L2
open PySem PySem.Spec PyProof.Rows
section
variable {X:Cx}
end
end L2
namespace L2
open PySem PySem.Spec PyProof.Rows
def C0 (e:Addr) (h:Heap):Prop:=∃ o vs,h.get? e=some o /\ o.data=.fields vs /\ vs[2]?=some .none /\ o.dict=none
def aY (e:Addr) {α:Type} (m:Sem α):Prop:=∀ (M:Model) (Γ:PySem.Ctx) (Q:α -> Pos -> Shared -> Prop) (E:Value -> Pos -> Shared -> Prop) (p:Pos) (s:Shared),Sem.wp M Γ m Q E p s -> C0 e s.heap -> Sem.wp M Γ m (fun a p s=>Q a p s /\ C0 e s.heap) (fun v p s=>E v p s /\ C0 e s.heap) p s
section
variable {e:Addr} {α β:Type}
theorem aY.bind {m:Sem α} {f:α -> Sem β} (h1:aY e m) (h2:∀ a,aY e (f a)):aY e (m >>= f):=by
 intro M Γ Q E p s h c
 rw [Sem.wp_bind'] at h ⊢
 exact Sem.wp_mono M Γ m (fun a p' s' z=>h2 a M Γ Q E p' s' z.1 z.2) (fun _ _ _ z=>z) p s (h1 M Γ _ _ p s h c)
theorem aY.pure (a:α):aY e (pure a:Sem α):=fun M Γ Q E p s h c=>by rw [Sem.wp_pure'] at h ⊢;exact ⟨h,c⟩
theorem aY.B8 (w:String):aY e (PySem.unsupported w:Sem α):=fun M Γ Q E p s h c=>by
 have h:Sem.wp M Γ (.unsupported w:Sem α) Q E p s:=h
 rw [Sem.wp_unsupported] at h;exact h.elim
theorem aY.load (a:Addr):aY e (PySem.load a):=fun M Γ Q E p s h c=>by
 have h:Sem.wp M Γ (.load a none .pure) Q E p s:=h
 show Sem.wp M Γ (.load a none .pure) _ _ p s
 rw [Sem.wp_load] at h ⊢
 obtain ⟨o,ho,h⟩:=h
 rw [Sem.wp_pure] at h
 exact ⟨o,ho,by rw [Sem.wp_pure];exact ⟨h,c⟩⟩
theorem C0.update {h:Heap} {a:Addr} {f:Obj -> Obj} (c:C0 e h) (hf:∀ o vs,o.data=.fields vs -> vs[2]?=some .none -> ∃ ws,(f o).data=.fields ws /\ ws[2]?=some .none /\ (f o).dict=o.dict):C0 e (h.update a f):=by
 obtain ⟨o,vs,h1,h2,h3,h4⟩:=c
 by_cases z:a=e
 ·subst z
  obtain ⟨ws,w1,w2,w3⟩:=hf o vs h2 h3
  exact ⟨f o,ws,Heap.get?_update_self f h1 (Obj.isFreed_of_fields w1),w1,w2,w3.trans h4⟩
 ·exact ⟨o,vs,by rw [Heap.get?_update_other _ _ z];exact h1,h2,h3,h4⟩
theorem aY.update (a:Addr) (f:Obj -> Obj) (hf:∀ o vs,o.data=.fields vs -> vs[2]?=some .none -> ∃ ws,(f o).data=.fields ws /\ ws[2]?=some .none /\ (f o).dict=o.dict):aY e (PySem.update a f):=fun M Γ Q E p s h c=>by
 have h:Sem.wp M Γ (.update a none f .pure) Q E p s:=h
 show Sem.wp M Γ (.update a none f .pure) _ _ p s
 rw [Sem.wp_update] at h ⊢
 obtain ⟨ho,h⟩:=h
 rw [Sem.wp_pure] at h
 exact ⟨ho,by rw [Sem.wp_pure];exact ⟨h,c.update hf⟩⟩
theorem aY.alloc (o:Obj):aY e (PySem.alloc o):=fun M Γ Q E p s h c=>by
 have h:Sem.wp M Γ (.alloc o .pure) Q E p s:=h
 show Sem.wp M Γ (.alloc o .pure) _ _ p s
 rw [Sem.wp_alloc,Sem.wp_pure] at h ⊢
 obtain ⟨ob,vs,h1,h2,h3,h4⟩:=c
 exact ⟨h,ob,vs,Heap.get?_push_of_some _ h1,h2,h3,h4⟩
theorem aY.stack:aY e PySem.stack:=fun M Γ Q E p s h c=>by
 have h:Sem.wp M Γ (.stack .pure) Q E p s:=h
 show Sem.wp M Γ (.stack .pure) _ _ p s
 rw [Sem.wp_stack,Sem.wp_pure] at h ⊢
 exact ⟨h,c⟩
theorem aY.ite {c:Prop} [Decidable c] {a b:Sem α} (h1:aY e a) (h2:aY e b):aY e (if c then a else b):=by
 split
 ·exact h1
 ·exact h2
theorem aY.field (v:Value) (i:Nat):aY e (PySem.field v i):=by
 unfold PySem.field PySem.fieldsOf
 refine aY.bind ?_ fun vs=>?_
 ·split
  ·refine aY.bind (aY.load _) fun o=>?_
   split
   ·exact aY.pure _
   ·exact aY.B8 _
  ·exact aY.B8 _
 ·split
  ·exact aY.pure _
  ·exact aY.B8 _
theorem aY.setField (v x:Value) (i:Nat) (hi:i ≠ 2):aY e (PySem.setField v i x):=by
 unfold PySem.setField PySem.updateField
 split
 ·refine aY.bind (aY.load _) fun o=>?_
  split
  ·refine aY.ite (aY.update _ _ fun o vs h1 h2=>⟨_,Obj.data_mapFields h1 _,?_,?_⟩) (aY.B8 _)
   ·rw [Array.getElem?_setIfInBounds_ne hi];exact h2
   ·unfold Obj.mapFields;split <;> rfl
  ·exact aY.B8 _
 ·exact aY.B8 _
theorem aY.frameEnvs:aY e PySem.frameEnvs:=by
 unfold PySem.frameEnvs
 exact aY.bind aY.stack fun _=>aY.pure _
theorem aY.behind (env:Env) (outer:List Env):aY e (behindIsImport env outer):=by
 unfold behindIsImport
 refine aY.ite (aY.pure _) (aY.ite (aY.pure _) (aY.bind (aY.field _ _) fun _=>aY.pure _))
theorem aY.under:aY e underTheClaimsCaller:=by
 unfold underTheClaimsCaller
 exact aY.bind aY.stack fun _=>aY.pure _
theorem aY.kept (env:Env) (b:Bool) (l:List Env):aY e (keptBack env b l):=by
 unfold keptBack
 split
 ·refine aY.ite (aY.pure _) (aY.bind aY.under fun _=>aY.pure _)
 ·exact aY.pure _
theorem aY.ready:∀ (l:List Env),aY e (readyFrames l)
 | []=>aY.pure _
 | env :: outer=>by
  unfold readyFrames
  split
  ·refine aY.bind (aY.load _) fun o=>?_
   refine aY.ite (aY.pure _) ?_
   refine aY.bind (aY.behind _ _) fun _=>aY.bind (aY.kept _ _ _) fun _=>aY.bind (aY.update _ _ fun o vs h1 h2=>⟨vs,h1,h2,rfl⟩) fun _=>aY.ready outer
  ·exact aY.B8 _
theorem aY.frameOf (env:Env):aY e (PySem.frameOf env):=by
 unfold PySem.frameOf
 refine aY.bind aY.frameEnvs fun l=>aY.bind ?_ fun _=>?_
 ·unfold frameObject
  split
  ·exact aY.pure _
  ·exact aY.bind (aY.ready _) fun _=>aY.pure _
 ·split
  ·exact aY.pure _
  ·exact aY.B8 _
theorem aY.place (f:Addr) (b:Bool):aY e (entryPlaceOf f b):=by
 unfold entryPlaceOf
 refine aY.bind aY.stack fun _=>?_
 split
 ·exact aY.pure _
 ·exact aY.pure _
theorem aY.entry (a b c d f:Value) (l:List Value):aY e (EntryCells.newEntry a b c d f l):=by
 unfold EntryCells.newEntry newFields newObj
 repeat (first | exact aY.pure _ | exact aY.B8 _ | refine aY.bind (aY.alloc _) fun _=>?_ | refine aY.bind (aY.B8 _) fun _=>?_ | refine aY.ite ?_ ?_ | (refine aY.bind ?_ fun _=>?_))
theorem aY.flight (v:Value) (f:Option Addr):aY e (setFlight v f):=by
 unfold setFlight
 refine aY.bind (aY.field _ _) fun _=>aY.ite (aY.setField _ _ _ (by decide)) (aY.pure _)
theorem aY.note (v:Value) (env:Env):aY e (noteFrame v env):=by
 unfold noteFrame
 split
 ·refine aY.bind (aY.field _ _) fun h=>aY.ite ?_ ?_
  ·refine aY.bind (aY.field _ _) fun _=>aY.ite (aY.pure _) ?_
   refine aY.bind (aY.setField _ _ _ (by decide)) fun _=>aY.bind (aY.frameOf _) fun _=>aY.bind (aY.place _ _) fun _=>aY.bind (aY.entry _ _ _ _ _ _) fun _=>aY.setField _ _ _ (by decide)
  ·refine aY.bind (aY.frameOf _) fun _=>aY.bind (aY.place _ _) fun _=>aY.bind (aY.entry _ _ _ _ _ _) fun _=>aY.setField _ _ _ (by decide)
 ·exact aY.B8 _
theorem aY.leave (v:Value) (env:Env):aY e (leaving env v):=by
 unfold leaving
 exact aY.bind (aY.note _ _) fun _=>aY.flight _ _
theorem aY.any {m:Sem α} {M:Model} {A:Around} {Q:α -> Shared -> Prop} {E:Value -> Shared -> Prop} {s:Shared} (k:aY e m) (h:wpAny M A m Q E s) (c:C0 e s.heap):wpAny M A m (fun a s'=>Q a s' /\ C0 e s'.heap) (fun v s'=>E v s' /\ C0 e s'.heap) s:=
 fun Γ p hΓ=>k M Γ _ _ p s (h Γ p hΓ) c
end
end L2
namespace L2
open PySem PySem.Spec PyProof.Rows
theorem cA.here {P:Program} {w:World} {H:Hp} {h:Heap} {a:Addr} {o:HO} (x:cA P w H h a o):∃ ob,h.get? a=some ob:=by
 cases o with
 | lst xs=>obtain ⟨_,_,_,_,e⟩:=x;exact ⟨_,e⟩
 | tup xs=>obtain ⟨_,_,_,p⟩:=x;obtain ⟨o,e,_⟩:=p;exact ⟨_,e⟩
 | dK kvs=>obtain ⟨_,_,_,_,o,_,_,e,_⟩:=x;exact ⟨_,e⟩
 | dT kvs=>obtain ⟨_,_,_,_,o,_,_,e,_⟩:=x;exact ⟨_,e⟩
 | set S n=>obtain ⟨o,_,_,_,e,_⟩:=x;exact ⟨_,e⟩
 | ins C dx fs=>obtain ⟨_,_,_,e,_⟩:=x;exact ⟨_,e⟩
 | own y=>exact x
 | xd fs=>obtain ⟨_,⟨_,_,_,e,_⟩,_⟩:=x;exact ⟨_,e⟩
 | rng lo hi=>obtain ⟨_,_,_,e⟩:=x;exact ⟨_,e⟩
 | frz ob u=>obtain ⟨e,_⟩:=x;exact ⟨_,e⟩
 | tbl ps=>exact ⟨_,(show h.get? a=some _ from x)⟩
 | met f y=>exact ⟨_,(show h.get? a=some _ from x)⟩
 | ext φ=>obtain ⟨_,⟨o,e⟩,_⟩:=x;exact ⟨_,e⟩
structure Fly (l:List Env) (g:Heap) (pn:List (Addr × Obj)) (H:Hp) (e:Addr) (cls:Value) (h:Heap):Prop where
 ex:∃ (B:Heap) (a0:Value),Heap.FlyingW B l e cls a0 h /\ (∀ a u,H a=some u -> ∃ o,B.get? a=some o) /\ (∀ b o,g.get? b=some o -> b ∉ frs l -> ∃ o',B.get? b=some o') /\ (∀ p ∈ pn,∃ o',B.get? p.1=some o') /\ C0 e h
structure Made (X:Cx) (H:Hp) (e:Addr) (cls:Value) (g:Heap) (h:Heap):Prop where
 ex:∃ (g':Heap) (vs:List Value),Heap.MadeExcOf g' h e cls vs /\ g'.FunFrames X.base X.stack /\ (∀ a u,H a=some u -> ∃ o,g'.get? a=some o) /\ (∀ b o,g.get? b=some o -> ∃ o',g'.get? b=some o') /\ (∀ p ∈ X.pn,∃ o',g'.get? p.1=some o')
theorem vV {g h:Heap} {e:Addr} {cls:Value} {vs:List Value} (M:Heap.MadeExcOf g h e cls vs):C0 e h:=by
 obtain ⟨t,he,_⟩:=M.there
 exact ⟨_,_,he,rfl,rfl,rfl⟩
def lg (X:Cx) (H:Hp) (e:Addr) (cls:Value) (s':Shared):Prop:=Made X H e cls X.s₀.heap s'.heap \/ Fly X.stack X.s₀.heap X.pn H e cls s'.heap
section
variable {X:Cx} {pins:List (Addr × Obj)} {σ:L2.St} {H:Hp} {s':Shared} {e:Addr} {cls:Value}
theorem oz (I:Inv X pins σ H s') (hex:X.ex=[]) {B h':Heap} (k1:B.StaysIn s'.heap) (k2:B.StaysIn h') (up:s'.heap.UpToSlots h') (c1:∀ a u,H a=some u -> ∃ o,B.get? a=some o) (c2:∀ b o,X.s₀.heap.get? b=some o -> b ∉ X.fs -> ∃ o',B.get? b=some o') :
  Un X.fs [] X.H₀ H X.s₀.heap h' /\ jt X.prog X.w H h':=by
 have nx:∀ b:Addr,b ∉ X.ex:=fun b z=>by rw [hex] at z;cases z
 have cov:∀ b o o',B.get? b=some o' -> s'.heap.get? b=some o -> h'.get? b=some o:=fun b o o' eb es=>by
  have:=k1 b o' eb
  rw [es] at this;cases this
  exact k2 b o eb
 have slot:∀ b o,X.s₀.heap.get? b=some o -> X.H₀ b=none -> b ∈ X.fs -> ∃ sl,h'.get? b=some { o with slots:=sl }:=fun b o q n hb=>by
  obtain ⟨sl,e1⟩:=I.base.slot b o q n hb (nx b)
  obtain ⟨_,o2,q2,d2⟩:=I.ok.iR.mem hb
  rw [q] at q2;cases q2
  obtain ⟨sl',e2⟩:=up b _ e1 d2
  exact ⟨sl',e2⟩
 refine ⟨⟨fun b o q n hb _=>?_,fun b o q n hb _=>slot b o q n hb,fun b o q n _=>I.base.free b o q n (nx b),fun b o q _=>?_,I.base.tups,I.base.frzs,I.base.tbls⟩,fun a u ea=>?_⟩
 ·obtain ⟨o',eb⟩:=c2 b o q hb
  exact cov b o o' eb (I.base.keep b o q n hb (nx b))
 ·by_cases hb:b ∈ X.fs
  ·obtain ⟨sl,z⟩:=slot b o q (I.ok.frf b hb) hb
   exact ⟨_,z⟩
  ·obtain ⟨o',eb⟩:=c2 b o q hb
   exact ⟨o',k2 b o' eb⟩
 ·refine (I.hok a u ea).stay (fun b v hb q=>?_) (fun _ q=>q) fun _ _ q=>q
  rcases hb with z | z
  ·subst z
   obtain ⟨o',eb⟩:=c1 _ u ea
   exact cov _ v o' eb q
  ·obtain ⟨o',eb⟩:=c1 b _ z
   exact cov b v o' eb q
theorem uS (I:Inv X pins σ H s') (hst:X.stack=X.env :: X.outer) (hf:X.env.frame=some X.env.locals) (hex:X.ex=[]) (R:lg X H e cls s') {Q:Shared -> Prop} {E:Value -> Shared -> Prop}
  (hQ:∀ h',Un X.fs [] X.H₀ H X.s₀.heap h' -> jt X.prog X.w H h' -> Fly X.outer X.s₀.heap [] H e cls h' -> Q { s' with heap:=h' }):wpAny (model X.prog X.w) X.A (leaving X.env (.ref e)) (fun _ s''=>Q s'') E s':=by
 have hfr:X.A.frames=some (X.env :: X.outer):=by rw [<- hst];exact I.ok.frames
 have nl:∀ b o,X.s₀.heap.get? b=some o -> b ∉ X.fs -> b ∉ frs (X.env :: X.outer):=fun b o q hb z=>by
  unfold frs at z
  rw [List.filterMap_cons,hf] at z
  rcases List.mem_cons.mp z with z | z
  ·rw [z] at q
   exact absurd (Nat.lt_of_lt_of_le (Heap.lt_size q) I.ok.above) (Nat.lt_irrefl _)
  ·exact hb z
 rcases R with ⟨g',vs,M,ffg,m1,m2,_⟩ | ⟨B,a0,F,c1,c2,_,k0⟩
 ·
  rw [hst] at ffg
  have hin:∀ env ∈ (X.env :: X.outer),∀ b,env.frame=some b -> b ∈ frs (X.env :: X.outer):=fun env he b hb=>List.mem_filterMap.mpr ⟨env,he,hb⟩
  refine wpAny_mono (aY.any (e:=e) (aY.leave _ _) (wpAny_leaves_madeW (Q:=fun _ s''=>∃ h' t,s''={ s' with heap:=h' } /\ Heap.FlyingW (PySem.W.hideAll g' (frs (X.env :: X.outer))) X.outer e cls (.ref t) h' /\ s'.heap.UpToSlots h') (E:=fun _ _=>False) (base:=PySem.W.hideAll g' (frs (X.env :: X.outer))) hfr hf (fun b o q=>PySem.W.of_hideAll _ q) (PySem.W.funFrames_hide ffg hin) M fun h' t x1 x2 x3 x4=>⟨h',t,rfl,x1,x4⟩) (vV M)) (fun _ s'' z=>?_) fun _ _ z=>z.1.elim
  obtain ⟨⟨h',t,rfl,x1,x4⟩,k0⟩:=z
  have k1:(PySem.W.hideAll g' (frs (X.env :: X.outer))).StaysIn s'.heap:=fun b o q=>M.keeps b o (PySem.W.of_hideAll _ q)
  have c1:∀ a u,H a=some u -> ∃ o,(PySem.W.hideAll g' (frs (X.env :: X.outer))).get? a=some o:=fun a u ea=>by
   obtain ⟨o,q⟩:=m1 a u ea
   refine ⟨o,PySem.W.hideAll_get _ q fun z=>?_⟩
   rw [<- hst] at z
   rw [I.mZ a z] at ea;cases ea
  have c2:∀ b o,X.s₀.heap.get? b=some o -> b ∉ X.fs -> ∃ o',(PySem.W.hideAll g' (frs (X.env :: X.outer))).get? b=some o':=fun b o q hb=>by
   obtain ⟨o',q'⟩:=m2 b o q
   exact ⟨o',PySem.W.hideAll_get _ q' (nl b o q hb)⟩
  obtain ⟨un,hok⟩:=oz I hex k1 x1.1 x4 c1 c2
  exact hQ h' un hok ⟨_,_,x1,c1,fun b o q hb=>c2 b o q hb,fun p hp=>absurd hp (by simp),k0⟩
 ·rw [hst] at F c2
  refine wpAny_mono (aY.any (e:=e) (aY.leave _ _) (wpAny_leaves_onW (Q:=fun _ s''=>∃ h',s''={ s' with heap:=h' } /\ Heap.FlyingW B X.outer e cls a0 h' /\ s'.heap.UpToSlots h') (E:=fun _ _=>False) hfr hf F fun h' x1 x4=>⟨h',rfl,x1,x4⟩) k0) (fun _ s'' z=>?_) fun _ _ z=>z.1.elim
  obtain ⟨⟨h',rfl,x1,x4⟩,k0'⟩:=z
  have c2':∀ b o,X.s₀.heap.get? b=some o -> b ∉ X.fs -> ∃ o',B.get? b=some o':=fun b o q hb=>c2 b o q (nl b o q hb)
  obtain ⟨un,hok⟩:=oz I hex F.1 x1.1 x4 c1 c2'
  exact hQ h' un hok ⟨_,_,x1,c1,c2',fun p hp=>absurd hp (by simp),k0'⟩
end
def yu (P:Program) (w:World):zd:=fun outer H s E e s''=>∃ ea cls H',e=.ref ea /\ s''.os=s.os /\ AllBare s''.gens /\ Un (frs outer) [] H H' s.heap s''.heap /\ jt P w H' s''.heap /\ Fly outer s.heap [] H' ea cls s''.heap /\ E cls none H'
section
variable {P:Program} {w:World} {K:PySem.W.Frag} {mg:Str -> Option Value} {base:Heap} {N:List Str} {qual:Str} {scope:Scope} {f:Addr} {cd:Value} {A:Around} {outer:List Env} {s:Shared} {H:Hp} {E:XK}
theorem za {pins:List (Addr × Obj)} {σ':L2.St} {H':Hp} {s':Shared} {ea:Addr} {cls:Value} (I:Inv (mF (yu P w) P w K mg base N qual scope f cd A outer s H E) pins σ' H' s')
  (hf:(envOfC qual scope s.heap.objs.size f cd).frame=some (envOfC qual scope s.heap.objs.size f cd).locals)
  (R:lg (mF (yu P w) P w K mg base N qual scope f cd A outer s H E) H' ea cls s') (hE:E cls none H'):(mF (yu P w) P w K mg base N qual scope f cd A outer s H E).xe (.ref ea) s':=by
 refine uS I rfl hf rfl R (Q:=fun s''=>yu P w outer H s E (.ref ea) s'') fun h' un hok fl=>?_
 exact ⟨ea,cls,H',rfl,I.os,I.bare,un,hok,fl,hE⟩
def EX (X:Cx):XK:=fun cls _ H'=>X.ex=[] /\ ∀ pins σ' s' e,Inv X pins σ' H' s' -> lg X H' e cls s' -> X.xe (.ref e) s'
theorem AU {X:Cx} (hP:X.prog=P) (hw:X.w=w):Passes (yu P w) X (EX X):=by
 intro pins σ H s e s' I ⟨ea,cls,H',he,os,bare,un,hok,⟨B,a0,F,c1,c2,_,k0⟩,hE⟩
 subst he hP hw
 obtain ⟨hh,g,d,t,os'⟩:=s'
 obtain rfl:os'=s.os:=os
 refine hE.2 pins σ _ ea (I.call (h':=hh) (g':=g) (d':=d) (t':=t) (ch:=[]) un hok bare (fun b z=>absurd z (by simp))) (.inr ⟨B,a0,F,c1,fun b o q hb=>?_,fun p hp=>?_,k0⟩)
 ·obtain ⟨o',q'⟩:=I.base.there b o q (by rw [hE.1];simp)
  exact c2 b o' q' hb
 ·obtain ⟨q,_,n1,n2,_⟩:=I.pin p (List.mem_append_left _ hp)
  exact c2 p.1 _ q fun z=>(List.mem_cons.mp (I.kW _ z)).elim n1 n2
def GH (X:Cx) (C:Addr) (t:TA):TS:=fun _ σ H=>t σ H fun vs H'=>vs.length <= sizeLine /\ EX X (.ref C) none H'
theorem tD {X:Cx} {x:Str} {C:Addr} {bmB:List Value} {newId B initId:String} {e:Expr} {es:List Expr} {t:TA} {np cpos pos:Pos} (O:OwnCls x C bmB newId X.mg X.base) (FB:ExcBaseFacts B newId initId bmB) (hh:X.A.handled=none) (ha:PA X (e :: es) t) (hg:Gl X x:=by rfl)
  (hs:starEach (e :: es) X.env=(false,eval e X.env) :: starEach es X.env:=by rfl) (hplain:(backTo cpos (starEach es X.env)).any (·.1)=false:=by rfl) (hd:(x == ("__debug__" : Str))=false:=by decide) :
  PS X (.Raise (some (.Call (.Name x np) (e :: es) [] cpos)) none pos) (GH X C t):=by
 intro pins s σ H D I h
 obtain ⟨tl,N,nm,q,bs,hdct,sn,sub,ab,col,dd,k0,k1,k2,k3,k5,mN,hC,hN,hni,T⟩:=O.obj
 refine wpAny_Raise_call_subU (C:=C) (nm:=nm) (q:=q) (N:=N) (bs:=bs) (bm:=tl) (hdct:=hdct) (sn:=sn) (sub:=sub) (ab:=ab) (col:=col) (dd:=dd) (k0:=k0) (k1:=k1) (k2:=k2) (k3:=k3) (k5:=k5)
  FB FB.hasB FB (mN:=mN) (T.hasType FB.hasBase) hh (by rw [hs];show (false || (backTo cpos (starEach es X.env)).any (·.1))=false;rw [hplain];rfl) hni (kB I hg O.bound ⟨rfl,?_⟩ hd)
 have hA:=ha cpos pins s σ H _ I h
 rw [hs] at hA ⊢
 refine Calls.evalArgs_plain (b9 hA fun us s2 ⟨vs,H2,I2,r2,hl,hex,q2⟩=>?_)
 refine ⟨rfl,by rw [<- r2.length];exact hl,I2.bk _ _ hC,hN.keeps I2.bk,T.keeps I2.bk,fun h' ea M=>?_⟩
 refine q2 pins σ { s2 with heap:=h' } ea ?_ (.inl ⟨s2.heap,us,M,I2.stack,fun a u ea=>?_,fun b o q=>?_,fun p hp=>⟨_,(I2.pin p (List.mem_append_left _ hp)).1⟩⟩)
 ·exact I2.kept (t':=s2.toks) M.keeps
 ·exact (I2.hok a u ea).here
 ·exact I2.base.there b o q (by rw [hex];simp)
end
end L2
namespace L2
open PySem PySem.Spec PyProof.Rows
def nB:List (Str ⊕ TE) -> St -> Hp -> (Hp -> Prop) -> Prop
 | [],_,H,k=>k H
 | .inl x :: ps,σ,H,k=>x.length <= 1000 /\ nB ps σ H k
 | .inr t :: ps,σ,H,k=>t σ H fun v H'=>∃ i,v=.int i /\ i.natAbs.log2 < 64 /\ nB ps σ H' k
inductive FParts (X:Cx):List Expr -> List (Str ⊕ TE) -> Prop
 | nil:FParts X [] []
 | txt {x:Str} {j pos} {es:List Expr} {ps:List (Str ⊕ TE)} (h:FParts X es ps):FParts X (.Constant (.str x) j pos :: es) (.inl x :: ps)
 | val {e:Expr} {pos:Pos} {t:TE} {es:List Expr} {ps:List (Str ⊕ TE)} (he:PE X e t) (h:FParts X es ps):FParts X (.FormattedValue e (-1) none pos :: es) (.inr t :: ps)
theorem jX {X:Cx} {pins:List (Addr × Obj)} {σ:St} {Q:VK}:∀ {es:List Expr} {ps:List (Str ⊕ TE)},FParts X es ps -> ∀ (H:Hp) (s:Shared) (out:Str),Inv X pins σ H s -> out.length + 2000 * es.length <= sizeLine ->
  nB ps σ H (fun H'=>∀ x:Str,x.length <= sizeLine -> Q (.str x) H') -> wpAny (model X.prog X.w) X.A (joinParts out (evalEach es X.env)) (EP X pins σ Q) X.xe s
 | _,_,.nil,H,s,out,I,hl,h=>joinParts_nilE (joinParts_nil (show EP X pins σ Q _ _ from ⟨.str out,H,I.tok _,⟨_,rfl⟩,h out (by simpa using hl)⟩) (by simpa using hl))
 | _,_,.txt (x:=x) hp,H,s,out,I,hl,h=>by
  refine joinParts_consE (joinParts_cons (Calls.Constant_str ?_))
  rw [List.length_cons] at hl
  have hx:=h.1
  have hz:(out ++ x).length=out.length + x.length:=strLen_append ..
  exact ⟨by rw [hz];omega,jX hp H _ _ (I.tok _) (by rw [hz];omega) h.2⟩
 | _,_,.val (e:=e) (t:=t) he hp,H,s,out,I,hl,h=>by
  rw [List.length_cons] at hl
  refine joinParts_consE (joinParts_cons (FormattedValue_plain (b9 (he pins s σ H _ I h) fun v s1 ⟨x,H1,I1,r1,i,hx,hi,h1⟩=>?_)))
  subst hx
  obtain ⟨tk,rfl⟩:=r1
  refine formatField_int_small (by omega) ?_
  have ht:(Str.ofString (toString i)).length <= 65:=by
   have:=int_text_length_le (a:=i) (k:=64) (by decide) hi
   rw [PySem.ofString_length];exact this
  have hz:(out ++ Str.ofString (toString i)).length=out.length + (Str.ofString (toString i)).length:=strLen_append ..
  exact ⟨by rw [hz];omega,jX hp H1 _ _ (I1.tok _) (by rw [hz];omega) h1⟩
def LZ (ps:List (Str ⊕ TE)):TE:=fun σ H Q=>nB ps σ H fun H'=>∀ x:Str,x.length <= sizeLine -> Q (.str x) H'
theorem Jp {X:Cx} {e1 e2:Expr} {es:List Expr} {ps:List (Str ⊕ TE)} {pos:Pos} (h:FParts X (e1 :: e2 :: es) ps) (hl:2000 * (e1 :: e2 :: es).length <= sizeLine:=by decide):PE X (.JoinedStr (e1 :: e2 :: es) pos) (LZ ps):=
 fun pins s σ H Q I q=>JoinedStr_many (jX h H s Str.empty I (by rw [show Str.empty.length=0 from rfl,Nat.zero_add];exact hl) q)
end L2
namespace L2
open PySem PySem.Spec PyProof.Rows
def Cx.j5 (X:Cx) (pn':List (Addr × Obj)) (xe':Value -> Shared -> Prop):Cx:={ X with xe:=xe',pn:=pn' }
def xu:HO:=.ext fun _=>True
def Cx.hand (X:Cx) (pn':List (Addr × Obj)) (e:Addr) (oe:Obj):Cx:={ X with A:=X.A.mark (some (.ref e)),calm:=false,xe:=fun _ _=>False,pn:=pn',H₀:=upd X.H₀ e (.frz oe xu) }
structure XO (C:Addr) (o:Obj):Prop where
 cls:o.cls=.ref C
 dict:o.dict=none
 ctx:∃ vs,o.data=.fields vs /\ vs[2]?=some .none
structure Fr0 (X:Cx) (e:Addr):Prop where
 no:∀ o,X.s₀.heap.get? e ≠ some o
 tup:∀ xs,X.H₀ e ≠ some (.tup xs)
 frz:∀ o u,X.H₀ e ≠ some (.frz o u)
 tbl:∀ ps,X.H₀ e ≠ some (.tbl ps)
section
variable {X:Cx} {pins:List (Addr × Obj)} {σ:L2.St} {H:Hp} {s':Shared} {e:Addr} {cls:Value}
theorem yY (I:Inv X pins σ H s') (hst:X.stack=X.env :: X.outer) (hf:X.env.frame=some X.env.locals) (R:lg X H e cls s') {Q:Unit -> Shared -> Prop} {E:Value -> Shared -> Prop}
  (hQ:∀ h' B a0,Heap.HeldW B (X.env :: X.outer) e cls a0 X.env.locals h' -> B.StaysIn s'.heap -> s'.heap.UpToSlots h' -> (∀ a u,H a=some u -> ∃ o,B.get? a=some o) -> (∀ b o,X.s₀.heap.get? b=some o -> b ∉ X.fs -> ∃ o',B.get? b=some o') -> (∀ p ∈ X.pn,∃ o',B.get? p.1=some o') -> C0 e h' -> Q () { s' with heap:=h' }) :
  wpAny (model X.prog X.w) X.A (noteFrame (.ref e) X.env) Q E s':=by
 have hfr:X.A.frames=some (X.env :: X.outer):=by rw [<- hst];exact I.ok.frames
 have nl:∀ b o,X.s₀.heap.get? b=some o -> b ∉ X.fs -> b ∉ frs (X.env :: X.outer):=fun b o q hb z=>by
  unfold frs at z
  rw [List.filterMap_cons,hf] at z
  rcases List.mem_cons.mp z with z | z
  ·rw [z] at q
   exact absurd (Nat.lt_of_lt_of_le (Heap.lt_size q) I.ok.above) (Nat.lt_irrefl _)
  ·exact hb z
 rcases R with ⟨g',vs,M,ffg,m1,m2,m3⟩ | ⟨B,a0,F,c1,c2,c3,k0⟩
 ·rw [hst] at ffg
  have hin:∀ env ∈ (X.env :: X.outer),∀ b,env.frame=some b -> b ∈ frs (X.env :: X.outer):=fun env he b hb=>List.mem_filterMap.mpr ⟨env,he,hb⟩
  have hl:=PySem.W.funFrames_hide ffg hin
  obtain ⟨t,he,htn,ht⟩:=M.there
  have bn:(PySem.W.hideAll g' (frs (X.env :: X.outer))).get? e=none:=by
   cases hq:(PySem.W.hideAll g' (frs (X.env :: X.outer))).get? e with
   | none=>rfl
   | some o'=>have:=PySem.W.of_hideAll _ hq;rw [M.new] at this;cases this
  have k1:(PySem.W.hideAll g' (frs (X.env :: X.outer))).StaysIn s'.heap:=fun b o q=>M.keeps b o (PySem.W.of_hideAll _ q)
  have go:wpAny (model X.prog X.w) X.A (noteFrame (.ref e) X.env) (fun _ s''=>∃ h',s''={ s' with heap:=h' } /\ Heap.HeldW (PySem.W.hideAll g' (frs (X.env :: X.outer))) (X.env :: X.outer) e cls (.ref t) X.env.locals h' /\ s'.heap.UpToSlots h') (fun _ _=>False) s':=by
   unfold noteFrame
   simp only [hf]
   refine wpAny_bind (wpAny_field he rfl (x:=.none) rfl ?_)
   rw [if_neg (by decide)]
   refine wpAny_entryW (base:=PySem.W.hideAll g' (frs (X.env :: X.outer))) (a0:=.ref t) hfr (hl.of_keeps fun b o hb _=>⟨o,M.keeps b o hb,rfl⟩) hf he k1 bn rfl (by simp) rfl fun h' hL=>?_
   obtain ⟨x1,x2,x3,x4⟩:=hL
   exact ⟨h',rfl,⟨x1,bn,x2,x3⟩,x4⟩
  refine wpAny_mono (aY.any (e:=e) (aY.note _ _) go (vV M)) (fun _ s'' z=>?_) fun _ _ z=>z.1.elim
  obtain ⟨⟨h',rfl,x1,x4⟩,k0⟩:=z
  refine hQ h' _ _ x1 k1 x4 (fun a u ea=>?_) (fun b o q hb=>?_) (fun p hp=>?_) k0
  ·obtain ⟨o,q⟩:=m1 a u ea
   refine ⟨o,PySem.W.hideAll_get _ q fun z=>?_⟩
   rw [<- hst] at z
   rw [I.mZ a z] at ea;cases ea
  ·obtain ⟨o',q'⟩:=m2 b o q
   exact ⟨o',PySem.W.hideAll_get _ q' (nl b o q hb)⟩
  ·obtain ⟨o',q'⟩:=m3 p hp
   obtain ⟨q,_,n1,n2,_⟩:=I.pin p (List.mem_append_left _ hp)
   refine ⟨o',PySem.W.hideAll_get _ q' fun z=>?_⟩
   rw [<- hst] at z
   exact (List.mem_cons.mp (I.kW _ z)).elim n1 n2
 ·rw [hst] at F c2
  refine wpAny_mono (aY.any (e:=e) (aY.note _ _) (wpAny_looks_onW (Q:=fun _ s''=>∃ h',s''={ s' with heap:=h' } /\ Heap.HeldW B (X.env :: X.outer) e cls a0 X.env.locals h' /\ s'.heap.UpToSlots h') (E:=fun _ _=>False) hfr hf F fun h' x1 x4=>⟨h',rfl,x1,x4⟩) k0) (fun _ s'' z=>?_) fun _ _ z=>z.1.elim
  obtain ⟨⟨h',rfl,x1,x4⟩,k0'⟩:=z
  exact hQ h' B a0 x1 F.1 x4 c1 (fun b o q hb=>c2 b o q (nl b o q hb)) c3 k0'
end
section
variable {X:Cx} {pn' pins:List (Addr × Obj)} {xe':Value -> Shared -> Prop} {σ:L2.St} {H:Hp} {s':Shared} {e C:Addr} {B h6:Heap} {a0:Value}
theorem qm (I:Inv (X.j5 pn' xe') pins σ H s') (hex:X.ex=[]) (F:Heap.FlyingW B (X.env :: X.outer) e (.ref C) a0 h6) (k1:B.StaysIn s'.heap) (up:s'.heap.UpToSlots h6)
  (c1:∀ a u,H a=some u -> ∃ o,B.get? a=some o) (c2:∀ b o,X.s₀.heap.get? b=some o -> b ∉ X.fs -> ∃ o',B.get? b=some o') (c3:∀ p ∈ pn',∃ o',B.get? p.1=some o') (k0:C0 e h6) :
  Fr0 X e /\ H e=none /\ ∃ oe,XO C oe /\ Inv (X.hand pn' e oe) [] σ (upd H e (.frz oe xu)) { s' with heap:=h6 }:=by
 obtain ⟨un,hok⟩:=oz I hex k1 F.1 up c1 c2
 have hn:H e=none:=by
  cases q:H e with
  | none=>rfl
  | some u=>obtain ⟨o,z⟩:=c1 e u q;rw [F.2.1] at z;cases z
 obtain ⟨o0,vs0,g1,g2,g3,g5⟩:=k0
 have ns:∀ o,X.s₀.heap.get? e ≠ some o:=fun o q=>by
  by_cases hb:e ∈ X.fs
  ·obtain ⟨_,o2,q2,d2⟩:=I.ok.iR.mem hb
   have q2:X.s₀.heap.get? e=some o2:=q2
   rw [q] at q2;cases q2
   obtain ⟨sl,z⟩:=un.slot e o q (I.ok.frf e hb) hb (by simp)
   rw [g1] at z
   have z:o0=_:=Option.some.inj z
   rw [z] at g2
   exact d2 _ g2
  ·obtain ⟨o',z⟩:=c2 e o q hb
   rw [F.2.1] at z;cases z
 have hs0:∀ (b:Addr) (ob:Obj),s'.heap.get? b=some ob -> (∀ vs,ob.data ≠ .fields vs) -> b ≠ e:=fun b ob q d z=>by
  obtain ⟨sl,z'⟩:=up b ob q d
  rw [z,g1] at z'
  have z':o0=_:=Option.some.inj z'
  rw [z'] at g2
  exact d _ g2
 obtain ⟨m,hm,hl⟩:=id I.loc
 have hm':s'.heap.Ns X.env.locals m:=hm
 have cel:∀ c v,s'.heap.IsCell c v -> h6.IsCell c v:=fun c v ⟨oc,q,d⟩=>by
  obtain ⟨sl,z⟩:=up c oc q fun vs y=>by rw [d] at y;cases y
  exact ⟨_,z,d⟩
 have lne:X.env.locals ≠ e:=by
  obtain ⟨oL,es,ep,q,d,_⟩:=id hm'
  exact hs0 _ oL q fun vs y=>by rw [d] at y;cases y
 have xo:XO C o0:=by
  obtain ⟨_,_,_,oe,vs,T,oT,ts,he,⟨hc,_⟩,hd,_⟩:=F
  rw [g1] at he
  have he:o0=oe:=Option.some.inj he
  subst he
  exact ⟨hc,g5,vs0,g2,g3⟩
 have no:∀ u,H e ≠ some u:=fun u q=>by rw [hn] at q;cases q
 have fr:Fr0 X e:=⟨ns,fun xs q=>no _ (un.tups e xs q),fun o u q=>no _ (un.frzs e o u q),fun ps q=>let ⟨_,z⟩:=un.tbls e ps q;no _ z⟩
 refine ⟨fr,hn,o0,xo,⟨I.ok.mod,I.ok.kind,I.ok.glob,I.ok.blt,I.ok.above,I.ok.inj,I.ok.has,I.ok.cab,fun h=>(by cases h),I.ok.frames,I.ok.stk,I.ok.exf,fun b o q=>⟨(I.ok.bs b o q).1,?_⟩,I.ok.bsz,I.ok.noex,I.ok.exfs,I.ok.iR,fun b hb=>?_⟩,I.os,I.bare,?_,⟨m,up.ns hm',fun i x v h1 h2 h3=>?_⟩,fun x c h=>?_,?_,fun x c h=>?_,fun p hp=>?_,fun b u q=>?_,I.len⟩
 ·show upd X.H₀ e _ b=none
  rw [aM (fun z=>ns o (by rw [<- z];exact (I.ok.bs b o q).1))];exact (I.ok.bs b o q).2
 ·show upd X.H₀ e _ b=none
  obtain ⟨_,o2,q2,d2⟩:=I.ok.iR.mem hb
  rw [aM (fun z=>ns o2 (by rw [<- z];exact q2))];exact I.ok.frf b hb
 ·have h0:∀ b o,X.s₀.heap.get? b=some o -> upd X.H₀ e (.frz o0 xu) b=none -> X.H₀ b=none:=fun b o q n=>by
   rwa [aM (fun z=>ns o (by rw [<- z];exact q))] at n
  refine ⟨fun b o q n h _=>un.keep b o q (h0 b o q n) h (by simp),fun b o q n h _=>un.slot b o q (h0 b o q n) h (by simp),fun b o q n _=>?_,fun b o q _=>un.there b o q (by simp),fun b xs q=>?_,fun b o u q=>?_,fun b ps q=>?_⟩
  ·rw [aM (fun z=>ns o (by rw [<- z];exact q))]
   exact un.free b o q (h0 b o q n) (by simp)
  ·have q:upd X.H₀ e (.frz o0 xu) b=some (.tup xs):=q
   by_cases hb:b=e
   ·rw [hb,bx] at q;cases q
   ·rw [aM hb] at q ⊢
    exact un.tups b xs q
  ·have q:upd X.H₀ e (.frz o0 xu) b=some (.frz o u):=q
   by_cases hb:b=e
   ·rw [hb,bx] at q ⊢;exact q
   ·rw [aM hb] at q ⊢
    exact un.frzs b o u q
  ·have q:upd X.H₀ e (.frz o0 xu) b=some (.tbl ps):=q
   by_cases hb:b=e
   ·rw [hb,bx] at q;cases q
   ·rw [aM hb] at q ⊢
    exact un.tbls b ps q
 ·obtain ⟨u,r,lk⟩:=hl i x v h1 h2 h3
  refine ⟨u,r,?_⟩
  rcases lk with ⟨k,z⟩ | ⟨k,c,z,y⟩
  ·exact .inl ⟨k,z⟩
  ·exact .inr ⟨k,c,z,cel c _ y⟩
 ·obtain ⟨v,z⟩:=I.cell x c h
  exact ⟨v,cel c v z⟩
 ·show upd H e _ X.env.locals=none
  rw [aM lne];exact I.free
 ·obtain ⟨v,oc,q,d⟩:=I.cell x c h
  rw [aM (hs0 c oc q fun vs y=>by rw [d] at y;cases y)]
  exact I.freeC x c h
 ·have hp:p ∈ pn':=by
   have hp:p ∈ pn' ++ []:=hp
   rwa [List.append_nil] at hp
  obtain ⟨q,n,n1,n2,d⟩:=I.pin p (List.mem_append_left _ hp)
  obtain ⟨o',z⟩:=c3 p hp
  have z1:=k1 _ _ z
  rw [q] at z1
  have z1:p.2=o':=Option.some.inj z1
  refine ⟨by rw [z1];exact F.1 _ _ z,?_,n1,n2,d⟩
  rw [aM (fun y=>by rw [y,F.2.1] at z;cases z)]
  exact n
 ·by_cases hb:b=e
  ·subst hb
   rw [bx] at q;cases q
   exact ⟨g1,trivial,⟨o0,g1⟩,fun _ _ _ _=>trivial⟩
  ·rw [aM hb] at q
   exact (hok b u q).stay (fun _ _ _ z=>z) (fun c z=>by rw [aM (a_ z hn)];exact z) fun c xs z=>by rw [aM (a_ z hn)];exact z
end
section
variable {X:Cx} {pins:List (Addr × Obj)} {σ:L2.St} {H:Hp} {s:Shared}
theorem yr {M:Model} {A:Around} {E:Value -> Shared -> Prop} {i:Nat} {n:Str} {v:V} {Q:Unit -> Shared -> Prop} (I:Inv X pins σ H s) (hN:X.N.Nodup) (hi:X.N[i]?=some n) (hlo:X.env.scope.names.lookup n=some .local) (hv:σ[i]?=some (some v))
  (h:∀ s',Inv X pins (σ.set i none) H s' -> Q () s'):wpAny M A (unbindName X.env n) Q E s:=by
 obtain ⟨m,hn,hl⟩:=id I.loc
 obtain ⟨u,r,lk⟩:=hl i n v hi hv (.inl hlo)
 have hm:m n=some u:=by
  rcases lk with ⟨_,z⟩ | ⟨k,_⟩
  ·exact z
  ·exfalso
   have hk:X.env.kindOf n=some .local:=hlo
   rcases k with k | k <;> (rw [hk] at k;cases k)
 have hcl:(X.env.scope.kind == .class || (X.env.scope.kind == .module && X.env.locals != X.env.globals))=false:=by rw [I.ok.kind];rfl
 refine wpAny_unbindName_local hlo hn hm hcl fun h' u' hn' hs=>?_
 have far:∀ b o,X.s₀.heap.get? b=some o -> h'.get? b=s.heap.get? b:=fun b o q=>hs.2 b (Nat.ne_of_lt (Nat.lt_of_lt_of_le (Heap.lt_size q) I.ok.above))
 obtain ⟨oL,_,_,hoL,_⟩:=id hn
 refine h _ ⟨I.ok,I.os,I.bare,⟨fun b o q a1 a2 a3=>(far b o q).trans (I.base.keep b o q a1 a2 a3),fun b o q a1 a2 a3=>?_,I.base.free,fun b o q a3=>?_,I.base.tups,I.base.frzs,I.base.tbls⟩,⟨_,hn',fun j y v' e1 e2 e3=>?_⟩,fun y c q=>?_,I.free,I.freeC,fun p hp=>?_,fun b ob q=>?_,by rw [List.length_set];exact I.len⟩
 ·obtain ⟨sl,z⟩:=I.base.slot b o q a1 a2 a3
  exact ⟨sl,(far b o q).trans z⟩
 ·obtain ⟨o',z⟩:=I.base.there b o q a3
  exact ⟨o',(far b o q).trans z⟩
 ·by_cases hj:j=i
  ·subst hj
   have:j < σ.length:=(List.getElem?_eq_some_iff.mp hv).1
   rw [List.getElem?_set_self this] at e2
   cases e2
  ·rw [List.getElem?_set_ne (Ne.symm hj)] at e2
   obtain ⟨w,r',q⟩:=hl j y v' e1 e2 e3
   refine ⟨w,r',?_⟩
   rcases q with ⟨k,z⟩ | ⟨k,c,z,y'⟩
   ·have:y ≠ n:=fun z=>hj (nQ hN e1 (z ▸ hi))
    exact .inl ⟨k,by simp [this,z]⟩
   ·exact .inr ⟨k,c,z,y'.sameBut hs (I.DW y c z)⟩
 ·obtain ⟨w,z⟩:=I.cell y c q
  exact ⟨w,z.sameBut hs (I.DW y c q)⟩
 ·obtain ⟨z,n0,ne,nf,d⟩:=I.pin p hp
  exact ⟨(hs.2 p.1 ne).trans z,n0,ne,nf,d⟩
 ·refine (I.hok b ob q).stay (fun c w hc z=>(hs.2 c ?_).trans z) (fun _ z=>z) fun _ _ z=>z
  intro y
  rcases hc with hc | hc
  ·rw [<- hc,y,I.free] at q;cases q
  ·rw [y,I.free] at hc;cases hc
theorem Inv.j5 (I:Inv X pins σ H s) (xe':Value -> Shared -> Prop):Inv (X.j5 (X.pn ++ pins) xe') [] σ H s:=
 ⟨⟨I.ok.mod,I.ok.kind,I.ok.glob,I.ok.blt,I.ok.above,I.ok.inj,I.ok.has,I.ok.cab,I.ok.hd,I.ok.frames,I.ok.stk,I.ok.exf,I.ok.bs,I.ok.bsz,I.ok.noex,I.ok.exfs,I.ok.iR,I.ok.frf⟩,I.os,I.bare,I.base,I.loc,I.cell,I.free,I.freeC,fun p hp=>I.pin p (by
  have hp:p ∈ (X.pn ++ pins) ++ []:=hp
  rwa [List.append_nil] at hp),I.hok,I.len⟩
theorem Inv.vW {xe':Value -> Shared -> Prop} {pins':List (Addr × Obj)} (I:Inv (X.j5 (X.pn ++ pins) xe') pins' σ H s):Inv X pins σ H s:=
 ⟨⟨I.ok.mod,I.ok.kind,I.ok.glob,I.ok.blt,I.ok.above,I.ok.inj,I.ok.has,I.ok.cab,I.ok.hd,I.ok.frames,I.ok.stk,I.ok.exf,I.ok.bs,I.ok.bsz,I.ok.noex,I.ok.exfs,I.ok.iR,I.ok.frf⟩,I.os,I.bare,I.base,I.loc,I.cell,I.free,I.freeC,fun p hp=>I.pin p (List.mem_append_left _ hp),I.hok,I.len⟩
theorem Inv.FZ {e:Addr} {oe:Obj} {pins':List (Addr × Obj)} (I:Inv (X.hand (X.pn ++ pins) e oe) pins' σ H s) (ok:X.Ok) (f0:Fr0 X e):Inv X pins σ H s:=
 have h0:∀ b o,X.s₀.heap.get? b=some o -> X.H₀ b=none -> upd X.H₀ e (.frz oe xu) b=none:=fun b o q n=>by
  rw [aM (fun z=>f0.no o (by rw [<- z];exact q))];exact n
 ⟨ok,I.os,I.bare,⟨fun b o q n=>I.base.keep b o q (h0 b o q n),fun b o q n=>I.base.slot b o q (h0 b o q n),fun b o q n=>I.base.free b o q (h0 b o q n),I.base.there,fun b xs q=>I.base.tups b xs (show upd X.H₀ e (.frz oe xu) b=_ by rw [aM (fun z=>f0.tup xs (by rw [<- z];exact q))];exact q),fun b o u q=>I.base.frzs b o u (show upd X.H₀ e (.frz oe xu) b=_ by rw [aM (fun z=>f0.frz o u (by rw [<- z];exact q))];exact q),fun b ps q=>I.base.tbls b ps (show upd X.H₀ e (.frz oe xu) b=_ by rw [aM (fun z=>f0.tbl ps (by rw [<- z];exact q))];exact q)⟩,I.loc,I.cell,I.free,I.freeC,fun p hp=>I.pin p (List.mem_append_left _ hp),I.hok,I.len⟩
end
section
variable {M:Model} {A:Around} {E:Value -> Shared -> Prop} {h:Heap} {g:Array GenState} {d:Drawn} {t:Nat} {os:OsState} {C N D N':Addr} {nm q nm' q':Str} {bs bm bs' bm':List Value} {hdct hdct':Bool} {sn sn':List Str} {sub sub':List Value} {ab ab':Bool} {col col':Option Bool} {dd dd':Option Addr} {k0 k1 k2 k3 k5 k0' k1' k2' k3' k5':Option Value} {newId newId':String}
theorem pq {e:Addr} {oe:Obj} {Q:Bool -> Shared -> Prop} (hC:h.get? C=some (excClassObj nm q C N bs bm hdct sn sub ab col dd k0 k1 k2 k3 k5 newId)) (hD:h.get? D=some (excClassObj nm' q' D N' bs' bm' hdct' sn' sub' ab' col' dd' k0' k1' k2' k3' k5' newId'))
  (he:h.get? e=some oe) (hcls:oe.cls=.ref C) (hbase:bm'.contains (.type "BaseException")=true) (hq:Q ((Value.ref C :: bm).contains (.ref D)) ⟨h,g,d,t,os⟩):wpAny M A (excMatches (.ref e) (.ref D)) Q E ⟨h,g,d,t,os⟩:=by
 have hcB:(Value.ref D :: bm').contains (.type "BaseException")=true:=by rw [List.contains_cons,hbase,Bool.or_true]
 have f:=tc_notTuple
 unfold excMatches
 repeat (first | (with_reducible refine wpAny_loadPart_at he ?_;rw [hcls]) | with_reducible refine wpAny_loadPart_at hD ?_ | (with_reducible refine wpAny_isSubtype_exc hD ?_;rw [hcB]) | with_reducible refine wpAny_isSubtype_exc hC ?_ | wp_step)
 cases hb:(Value.ref C :: bm).contains (.ref D) <;> (rw [hb] at hq;wp_walk;exact hq)
end
def mroIn (K:PySem.W.Frag) (C:Addr):Option (List Value):=match K.lookup C with
 | some ⟨.type "type",_,.cls cd,sl⟩=>(match cd.mro,sl.toList with
  | .ref C' :: bm,[_,_,_,_,some (.builtin _),_]=>if C'=C /\ cd.hasDel=false then some bm else none
  | _,_=>none)
 | _=>none
structure ClsAt (h:Heap) (C:Addr) (bm:List Value):Prop where
 ex:∃ nm q N bs hdct sn sub ab col dd k0 k1 k2 k3 k5 newId,h.get? C=some (excClassObj nm q C N bs bm hdct sn sub ab col dd k0 k1 k2 k3 k5 newId)
theorem Cs {K:PySem.W.Frag} {h:Heap} {C:Addr} {bm:List Value} (X:K.In h) (e:mroIn K C=some bm):ClsAt h C bm:=by
 unfold mroIn at e
 split at e
 ·rename_i dd cd sl ho
  split at e
  ·rename_i C' bm' k0 k1 k2 k3 n k5 hm hs
   split at e
   ·rename_i hc
    cases e
    obtain ⟨rfl,hdel⟩:=hc
    obtain ⟨nm,bs,mro,ns,qn,hd,sn,sub,ab,col,del⟩:=cd
    dsimp only at hm hdel
    subst hm hdel
    have hsl:sl=#[k0,k1,k2,k3,some (.builtin n),k5]:=by
     obtain ⟨l⟩:=sl
     simp only at hs
     rw [hs]
    subst hsl
    exact ⟨nm,qn,ns,bs,hd,sn,sub,ab,col,dd,k0,k1,k2,k3,k5,n,X _ _ ho⟩
   ·cases e
  ·cases e
 ·cases e
def KC (i:Nat) (D:Ends):Ends:=⟨fun σ H=>D.nx (σ.set i none) H,D.rt,fun σ H=>D.bk (σ.set i none) H,fun σ H=>D.ct (σ.set i none) H⟩
section
variable {X:Cx} {pins pins':List (Addr × Obj)} {xe':Value -> Shared -> Prop} {σ:L2.St} {H:Hp} {s':Shared} {e C Dc:Addr} {bm bmD:List Value} {x n:Str} {i:Nat} {De:Ends} {b0:Stmt} {suite:List Stmt} {np hp:Pos}
theorem tP {f:Flow} {s2:Shared} {pos:Pos} (hN:X.N.Nodup) (hi:X.N[i]?=some n) (hlo:X.env.scope.names.lookup n=some .local) {oe:Obj} (ok:X.Ok) (f0:Fr0 X e) (h:SP (X.hand (X.pn ++ pins) e oe) [] (KC i De) f s2) :
  wpAny (model X.prog X.w) X.A (do bindName X.env n .none;unbindBehindTheSuite X.env n pos) (fun _ s3=>SP X pins De f s3) X.xe s2:=by
 have hl:∀ {σ':L2.St} {H':Hp},Inv (X.hand (X.pn ++ pins) e oe) [] σ' H' s2 -> (∀ s3,Inv X pins (σ'.set i none) H' s3 -> SP X pins De f s3) -> wpAny (model X.prog X.w) X.A (do bindName X.env n .none;unbindBehindTheSuite X.env n pos) (fun _ s3=>SP X pins De f s3) X.xe s2:=fun {σ' H'} J k=>by
  have J:=J.FZ ok f0
  have hiσ:i < σ'.length:=by rw [J.len];exact (List.getElem?_eq_some_iff.mp hi).1
  refine wpAny_bind (wpAny_bindName (iP (v:=.non) J hN hi (.inl hlo) rfl (fun s3 J3=>?_) (.inr hlo)))
  unfold unbindBehindTheSuite
  refine wpAny_onRaise (yr (v:=.non) J3 hN hi hlo (List.getElem?_set_self hiσ) fun s4 J4=>k s4 ?_)
  rwa [List.set_set] at J4
 cases f with
 | next=>obtain ⟨σ',H',J,q⟩:=h;exact hl J fun s3 J3=>⟨_,_,J3,q⟩
 | brk=>obtain ⟨σ',H',J,q⟩:=h;exact hl J fun s3 J3=>⟨_,_,J3,q⟩
 | cont=>obtain ⟨σ',H',J,q⟩:=h;exact hl J fun s3 J3=>⟨_,_,J3,q⟩
 | ret u=>obtain ⟨v,σ',H',J,r,q⟩:=h;exact hl J fun s3 J3=>⟨v,_,_,J3,r,q⟩
theorem zK (hst:X.stack=X.env :: X.outer) (hf:X.env.frame=some X.env.locals) (hex:X.ex=[]) (hN:X.N.Nodup) (hi:X.N[i]?=some n) (hlo:X.env.scope.names.lookup n=some .local) (hg:Gl X x) (hm:X.mg x=some (.ref Dc)) (mD:mroIn X.K Dc=some bmD) (hbD:bmD.contains (.type "BaseException")=true)
  (I:Inv (X.j5 (X.pn ++ pins) xe') pins' σ H s') (R:lg (X.j5 (X.pn ++ pins) xe') H e (.ref C) s') (mC:mroIn X.K C=some bm) (hCD:(Value.ref C :: bm).contains (.ref Dc)=true)
  (k:∀ oe s6,XO C oe -> H e=none -> Inv (X.hand (X.pn ++ pins) e oe) [] (σ.set i (some (.ref e))) (upd H e (.frz oe xu)) s6 -> wpAny (model X.prog X.w) (X.A.mark (some (.ref e))) (execs (b0 :: suite) X.env) (SP (X.hand (X.pn ++ pins) e oe) [] (KC i De)) (fun _ _=>False) s6)
  (ok:X.Ok) (hdb:(x == ("__debug__" : Str))=false) :
  wpAny (model X.prog X.w) X.A (noteFrame (.ref e) X.env) (fun _ s2=>wpAny (model X.prog X.w) X.A (setFlight (.ref e) none) (fun _ s3=>wpAny (model X.prog X.w) X.A (handleBy (.ref e) X.env [.ExceptHandler (some (.Name x np)) (some n) (b0 :: suite) hp]) (SP X pins De) X.xe s3) X.xe s2) X.xe s':=by
 refine yY I hst hf R fun h4 B a0 held k1 up4 c1 c2 c3 z4=>?_
 refine wpAny_mono (aY.any (e:=e) (aY.flight _ _) (wpAny_landsW (Q:=fun _ s''=>∃ h',s''={ s' with heap:=h' } /\ Heap.FlyingW B (X.env :: X.outer) e (.ref C) a0 h' /\ h4.UpToSlots h') (E:=fun _ _=>False) held fun h' y1 y2=>⟨h',rfl,y1,y2⟩) z4) (fun _ s'' z=>?_) fun _ _ z=>z.1.elim
 obtain ⟨⟨h5,rfl,F5,up5⟩,z5⟩:=z
 obtain ⟨_,_,o5,x5,I5⟩:=qm I hex F5 k1 (up4.trans up5) c1 c2 c3 z5
 refine wpAny_handleBy_cons (codeAny_handlers_test (kB (X:=X.hand (X.pn ++ pins) e o5) I5 hg hm ?_ hdb)) (by intro q;cases q)
 obtain ⟨g1,_⟩:=I5.hok e _ bx
 obtain ⟨_,_,_,_,_,_,_,_,_,_,_,_,_,_,_,_,hC⟩:=(Cs I5.mO mC).ex
 obtain ⟨_,_,_,_,_,_,_,_,_,_,_,_,_,_,_,_,hD⟩:=(Cs I5.mO mD).ex
 refine pq hC hD g1 x5.cls hbD ?_
 rw [hCD]
 refine codeAny_handlers_suite_as ?_
 refine wpAny_mono (aY.any (e:=e) (aY.flight _ _) (lands_againW (Q:=fun _ s''=>∃ h',s''={ s' with heap:=h' } /\ Heap.FlyingW B (X.env :: X.outer) e (.ref C) a0 h' /\ h5.UpToSlots h') (E:=fun _ _=>False) F5 fun h' y1 y2=>⟨h',rfl,y1,y2⟩) z5) (fun _ s'' z=>?_) fun _ _ z=>z.1.elim
 obtain ⟨⟨h6,rfl,F6,up6⟩,z6⟩:=z
 obtain ⟨f0,n6,o6,x6,I6⟩:=qm I hex F6 k1 ((up4.trans up5).trans up6) c1 c2 c3 z6
 refine iP (X:=X.hand (X.pn ++ pins) e o6) (v:=.ref e) I6 hN hi (.inl hlo) rfl (fun s7 I7=>?_) (.inr hlo)
 exact wpAny_mono (k o6 s7 x6 n6 I7) (fun f s8 h8=>tP hN hi hlo ok f0 h8) fun _ _ z=>z.elim
end
end L2
namespace L2
open PySem PySem.Spec PyProof.Rows
open PySem.W in
structure XCls (K:PySem.W.Frag) (C:Addr):Prop where
 ga:findIn K (.ref C) "__getattribute__" = some (some (.builtin "BaseException.__getattribute__"))
 gt:findIn K (.ref C) "__getattr__" = some none
 fc:findObj K C none "__class__" = some (.bind (.builtin "getset_descriptor.__get__") (.builtin "object.__class__"))
 ob:PySem.W.mroIn K C (.type "object")=some true
 bs:subIn K (.ref C) (.type "BaseException")=some true
section
open PySem.W
variable {K:PySem.W.Frag} {C a:Addr} {ox:Obj} {prog:Program} {w:World} {A:Around} {E:Value -> Shared -> Prop} {h:Heap} {g:Array GenState} {d:Drawn} {t:Nat} {os:OsState}
theorem CT {tk:Tok} {Q:Fin -> Shared -> Prop} (x:XCls K C) (X:K.In h) (I:PySem.W.InstAt h a ox C none) (hq:Q (.done (.ret (.ref C))) ⟨h,g,d,t,os⟩) :
  wpAny (model prog w) A (Builtin.«object.__getattribute__» ⟨[.ref a,.str "__class__" tk],[]⟩) Q E ⟨h,g,d,t,os⟩:=by
 have L0:=I.type (M:=model prog w)
 have L1:=looks_find (M:=model prog w) X I x.fc
 unfold Builtin.«object.__getattribute__»
 repeat (first | with_reducible refine wpAny_bind (wpAny_call ?_) | with_reducible refine wpAny_call ?_ | lk)
 refine class_get X I x.ob ?_
 repeat lk
 exact hq
theorem A5 {M:Model} {nv:Value} {Q:Unit -> Shared -> Prop} (x:XCls K C) (X:K.In h) (I:PySem.W.InstAt h a ox C none) (hq:Q () ⟨h,g,d,t,os⟩):wpAny M A (checkBuiltinCall "BaseException.__getattribute__" ⟨[.ref a,nv],[]⟩) Q E ⟨h,g,d,t,os⟩:=by
 have hk:builtinKind "BaseException.__getattribute__" = some .slot:=by decide +kernel
 have hs:splitId "BaseException.__getattribute__" = some ("BaseException", "__getattribute__"):=by decide +kernel
 have LI:Looks M h (isInstance (.ref a) (.type "BaseException")) true:=(I.type (M:=M)).andThen (looks_subIn X x.bs)
 have hA:=F.args_bexc_ga (.ref a) nv
 simp only [checkBuiltinCall,hk,hs]
 refine wpAny_bind (LI.at ?_)
 show wpAny M A (match Manifest.signature? "BaseException.__getattribute__" with
  | some sig=>Bind.checkArgs "BaseException.__getattribute__" sig { pos:=[Value.ref a,nv] }
  | x=>pure ()) Q E _
 cases hsig:Manifest.signature? "BaseException.__getattribute__" with
 | none=>exact wpAny_pure hq
 | some sig=>
  simp only [argsOk,hsig] at hA
  have h2:Bind.checkArgs "BaseException.__getattribute__" sig ⟨[.ref a,nv],[]⟩=pure ():=hA
  show wpAny M A (Bind.checkArgs "BaseException.__getattribute__" sig ⟨[.ref a,nv],[]⟩) Q E _
  rw [h2]
  exact wpAny_pure hq
theorem Ez (self:Value):bindSpecial (.builtin "BaseException.__getattribute__") self=pure (.builtin "BaseException.__getattribute__",[self]):=by
 have h1:withoutEnding? "BaseException.__getattribute__" "#opaque" = none:=by decide +kernel
 have h2:withoutEnding? "BaseException.__getattribute__" "#data" = none:=by decide +kernel
 have hk:builtinKind "BaseException.__getattribute__" = some .slot:=by decide +kernel
 simp only [bindSpecial,typeOf,builtinType,h1,h2,hk];rfl
theorem Ju {tk:Tok} {Q:Value -> Shared -> Prop} (x:XCls K C) (X:K.In h) (I:PySem.W.InstAt h a ox C none) (hq:Q (.ref C) ⟨h,g,d,t,os⟩):wpAny (model prog w) A (getAttrBy (.ref a) (.str "__class__" tk) false) Q E ⟨h,g,d,t,os⟩:=by
 have L0:=I.type (M:=model prog w)
 have L1:=looks_findIn (M:=model prog w) X x.ga
 have L2:=looks_findIn (M:=model prog w) X x.gt
 unfold getAttrBy
 refine wpAny_holding (wpAny_bind (L0.at (wpAny_bind (L1.at ?_))))
 show wpAny _ _ (if (onTheHeap (Value.ref C) && Value.builtin "BaseException.__getattribute__" == Value.builtin "object.__getattribute__")=true then _ else getAttrByItsOwn (.ref a) (.str "__class__" tk) (.ref C) (.builtin "BaseException.__getattribute__") false false) _ _ _
 have ne:(Value.builtin "BaseException.__getattribute__" == Value.builtin "object.__getattribute__")=false:=by decide +kernel
 rw [ne,Bool.and_false,if_neg Bool.false_ne_true]
 unfold getAttrByItsOwn hookBefore
 rw [if_pos (show onTheHeap (Value.ref C)=true from rfl)]
 refine wpAny_bind (L2.at (wpAny_bind (wpAny_attempt (wpAny_holding ?_))))
 unfold callGetattribute boundAndCalled
 show wpAny _ _ (bindSpecial (.builtin "BaseException.__getattribute__") (.ref a) >>= fun x=>call x.1 (x.2 ++ [.str "__class__" tk])) _ _ _
 rw [Ez,pure_bind]
 refine wpAny_call (codeAny_call_builtin (by decide +kernel) F.entry_bexc_ga (A5 x X I (CT x X I ?_)))
 exact wpAny_pure hq
theorem CJ {Q:Option Value -> Shared -> Prop} (x:XCls K C) (X:K.In h) (I:PySem.W.InstAt h a ox C none) (hq:Q (some (.ref C)) ⟨h,g,d,t + 1,os⟩):wpAny (model prog w) A (getAttr? (.ref a) "__class__") Q E ⟨h,g,d,t,os⟩:=by
 unfold getAttr? getAttrBy?
 refine wpAny_bind (wpAny_mkText (wpAny_bind (wpAny_attempt (Ju x X I ?_))))
 exact wpAny_pure hq
def L4 (C a:Addr):Heap -> Prop:=fun h=>∃ ox,PySem.W.InstAt h a ox C none
theorem Ay (x:XCls K C) (hc:(clsIn K C).isSome=true):KitX K (.ref a) (.ref C) (L4 C a) where
 ty:=fun _ _ _ ⟨_,I⟩=>I.type
 it:=fun _ _ X _=>by
  unfold clsIn at hc
  split at hc
  ·rename_i ho
   intro A' Q' E' s' k q
   unfold isType loadHead
   exact wpAny_bind (wpAny_loadPart (k _ _ (X _ _ ho)) (wpAny_pure q))
  ·cases hc
 ne:=fun h tp dd its n sl X htp=>by
  refine Bool.eq_false_iff.mpr fun q=>?_
  have e:C=tp:=Value.ref.inj (beq_iff_eq.mp q)
  subst e
  unfold clsIn at hc
  split at hc
  ·rename_i ho
   have z:=(X _ _ ho).symm.trans htp
   cases z
  ·cases hc
 ca:=fun {_ _ _ _ _ s} X ⟨_,I⟩ k=>by
  obtain ⟨hh,gg,dd,tt,oo⟩:=s
  exact CJ x X I k
end
section
variable {X:Cx} {C:Addr} {pins:List (Addr × Obj)} {σ:L2.St} {H:Hp} {s:Shared}
theorem ux {A:Around} {E:Value -> Shared -> Prop} {Q:Value -> Shared -> Prop} {a:Addr} {c:Value} {b:Bool} (x:XCls X.K C) (hc:(PySem.W.clsIn X.K C).isSome=true) (I:Inv X pins σ H s) {oe:Obj} (ha:H a=some (.frz oe xu)) (hx:XO C oe) (e:PySem.W.kitOne X.K (.ref C) c=some b) (h:∀ tk,Q (.bool b) { s with toks:=tk }) :
  wpAny (model X.prog X.w) A (call (.builtin "isinstance") [.ref a,c]) Q E s:=by
 obtain ⟨g1,_⟩:=I.hok a _ ha
 obtain ⟨g2,g5,vs,g3,g4⟩:=hx
 refine PySem.W.kia_one (Ay x hc) I.mO ⟨oe,g1,g2,?_,?_⟩ e (fun z=>nomatch z) h
 ·unfold PySem.W.notCls;rw [g3]
 ·rw [g5];trivial
end
end L2
namespace L2
open PySem PySem.Spec PyProof.Rows
section
variable {prog:Program} {w:World} {A:Around} {E:Value -> Shared -> Prop} {s:Shared} {e n:Addr} {oe on:Obj} {vs ns:Array Value}
end
section
variable {X:Cx} {e C:Addr} {oe:Obj}
end
end L2
namespace L2
open PySem PySem.Spec PyProof.Rows
def Ig (A:Around):Around:={ A with handled:=none }
def IT (k:Nat) (A:Around):Prop:=Room k (Ig A)
structure Hnd (A:Around) (H:Hp) (e:Addr) (oe:Obj) (C:Addr):Prop where
 hh:A.handled=some (.ref e)
 h0:H e=some (.frz oe xu)
 xo:XO C oe
structure FnOkH (P:Program) (w:World) (K:PySem.W.Frag) (mg:Str -> Option Value) (base:Heap) (k:Nat) (f:Addr) (fd:FuncData) (ps:List Str) (sp:Sp):Prop where
 len:∀ vs H Q E,sp vs H Q E -> vs.length=ps.length
 run:∀ (A:Around) (outer:List Env) (s:Shared) (H:Hp) (args:Args) (us:List Value) (vs:List V) (Q:VK) (e:Addr) (oe:Obj) (C:Addr),IT k A -> Hnd A H e oe C -> Env0 P w K mg base A outer s H -> BindsTo s fd args (ps.zip us) -> Vals vs us -> sp vs H Q E0 ->
  codeAny (model P w) A (.call (.ref f) args) (CR jh outer P w H s Q E0) s
end L2
namespace L2
open PySem PySem.Spec PyProof.Rows PySem.SeqAt
theorem nj {prog:Program} {w:World} {A:Around} {E:Value -> Shared -> Prop} {β:Type} {b:Nat} {f:Nat -> β -> Sem (ForInStep β)} (I:Nat -> β -> Shared -> Prop) (Q:β -> Shared -> Prop)
  (turn:∀ i c s,i < b -> I i c s -> wpAny (model prog w) A (f i c) (fun r s'=>match r with | .done c'=>Q c' s' | .yield c'=>I (i + 1) c' s') E s)
  (fin:∀ c s,I b c s -> Q c s) {c:β} {s:Shared} (h:I 0 c s):wpAny (model prog w) A (forIn [0:b] c f) Q E s:=by
 rw [Std.Legacy.Range.forIn_eq_forIn_range']
 simp only [Std.Legacy.Range.size,Nat.sub_zero,Nat.add_sub_cancel,Nat.div_one]
 refine wpAny_forIn_list f (fun l c s=>∃ i,i <= b /\ l=List.range' i (b - i) 1 /\ I i c s) Q ?_ ?_ _ _ ⟨0,Nat.zero_le _,rfl,h⟩
 ·rintro x rest c s ⟨i,hib,hl,hI⟩
  have hlt:i < b:=by
   rcases Nat.lt_or_ge i b with h' | h'
   ·exact h'
   ·rw [show b - i=0 by omega] at hl;simp at hl
  obtain ⟨n,hn⟩:∃ n,b - i=n + 1:=⟨b - i - 1,by omega⟩
  rw [hn,List.range'_succ] at hl
  obtain ⟨rfl,rfl⟩:=List.cons.inj hl
  refine wpAny_mono (turn x c s hlt hI) (fun r s' h'=>?_) fun _ _ q=>q
  cases r with
  | done c'=>exact h'
  | yield c'=>exact ⟨x + 1,hlt,by congr 1;omega,h'⟩
 ·rintro c s ⟨i,hib,hl,hI⟩
  have:b - i=0:=by
   rcases Nat.eq_zero_or_pos (b - i) with z | z
   ·exact z
   ·obtain ⟨n,hn⟩:∃ n,b - i=n + 1:=⟨b - i - 1,by omega⟩
    rw [hn,List.range'_succ] at hl;cases hl
  have:i=b:=by omega
  subst this
  exact fin c s hI
theorem pI (l:Addr) (items:Array Value) (n:Nat) (dd:Option Addr) (sl:Array (Option Value)) (x:Value) (e:Value -> Bool) (j:Nat) (hj:j < items.size) (hit:e items[j]=true) (hno:∀ m (hm:m < items.size),m < j -> e items[m]=false) :
  Meets (Builtin.«tuple.index» ⟨[.ref l,x],[]⟩)
   (fun A R s=>s.heap.get? l=some { cls:=.type "tuple",dict:=dd,data:=.seq items n,slots:=sl } /\ (∀ y,y ∈ items -> EqAt A.in1 s y x (e y)) /\ R (.ok (.ret (.int j s.toks))) { s with toks:=s.toks + 1 }):=
 .of_wp fun prog w A R s h=>by
  obtain ⟨hp,g,d,tk,os⟩:=s;obtain ⟨hl,he,h⟩:=h
  wp_walk using wpAny_loadPart' hl,nj (fun i b s'=>b.1=none /\ s'=⟨hp,g,d,tk,os⟩ /\ i <= j) _
  case turn=>
   rintro i b s' hi ⟨hb,rfl,hij⟩
   have hi':i < items.size:=by omega
   rw [Array.getElem?_eq_getElem hi']
   refine wpAny_bind (he _ (Array.getElem_mem hi') prog w _ _ ?_)
   rcases Nat.lt_or_ge i j with q | q
   ·rw [hno i hi' q]
    wp_walk
    exact ⟨rfl,rfl,q⟩
   ·have:i=j:=by omega
    subst this
    rw [hit]
    wp_walk
    exact ⟨_,rfl,h⟩
  case fin=>
   rintro ⟨b1,b2⟩ s' ⟨hb,rfl,hij⟩
   omega
  case h=>exact ⟨rfl,rfl,Nat.zero_le _⟩
def GX (K:PySem.W.Frag) (tup:Bool):V -> List V -> Hp -> VK -> Prop:=fun x vs H Q=>∃ (p:Addr) (y:V) (xs:List V) (k:Nat) (z:V),x=.ref p /\ vs=[y] /\ (if tup=true then dg K H p xs else fF K H p xs) /\ iA y=true /\ xs.all iA=true /\ xs[k]?=some z /\ um z y=true /\ (∀ (m:Nat) (z':V),m < k -> xs[m]?=some z' -> um z' y=false) /\ Q (.int k) H
section
variable {X:Cx}
theorem AX {y:V} {xs:List V} {its:List Value} {k:Nat} {z:V} (r:Vals xs its) (f:xs.all iA=true) (hk:xs[k]?=some z) (hz:um z y=true) (hno:∀ m z',m < k -> xs[m]?=some z' -> um z' y=false) :
  ∃ hj:k < its.toArray.size,Iw y its.toArray[k]=true /\ ∀ m (hm:m < its.toArray.size),m < k -> Iw y its.toArray[m]=false:=by
 have fl:∀ m z',xs[m]?=some z' -> iA z'=true:=fun m z' h=>List.all_eq_true.mp f z' (List.mem_of_getElem? h)
 obtain ⟨u,hu,ru⟩:=r.get hk
 obtain ⟨hj,e⟩:=List.getElem?_eq_some_iff.mp hu
 refine ⟨by simpa using hj,?_,fun m hm hmk=>?_⟩
 ·rw [List.getElem_toArray,e,u7 ru (fl k z hk)];exact hz
 ·have hm':m < xs.length:=by have:=(List.getElem?_eq_some_iff.mp hk).1;omega
  obtain ⟨u',hu',ru'⟩:=r.get (List.getElem?_eq_getElem hm')
  obtain ⟨_,e'⟩:=List.getElem?_eq_some_iff.mp hu'
  rw [List.getElem_toArray,e',u7 ru' (fl m _ (List.getElem?_eq_getElem hm'))]
  exact hno m _ hmk (List.getElem?_eq_getElem hm')
theorem Dy:Gm X "tuple.index" (GX X.K true):=by
 intro pins s σ H x vs v us Q I rx rv ⟨p,y,xs,k,z,hx,hvs,hq,fy,fs,hk,hz,hno,q⟩
 subst hx hvs
 cases rx
 obtain ⟨u,rfl,ru⟩:=rv.one
 obtain ⟨its,r,pl,hsz⟩:=I.tuple hq
 obtain ⟨hj,h1,h2⟩:=AX r fs hk hz hno
 obtain ⟨⟨cls,dd,data,sl⟩,ho,hc,n,hd⟩:=id pl
 simp only at hc hd
 subst hc hd
 exact call_meets F.slot_tuple_index ⟨_,ho,rfl⟩ F.entry_tuple_index (F.args_tuple_index_2 _ _) (pI p its.toArray n dd sl u (Iw y) k hj h1 h2) ⟨ho,fun w hw=>nO ru fy r fs w (by simpa using hw),.int k,H,I.tok _,⟨_,rfl⟩,q⟩
theorem DF:Gm X "list.index" (GX X.K false):=by
 intro pins s σ H x vs v us Q I rx rv ⟨p,y,xs,k,z,hx,hvs,hq,fy,fs,hk,hz,hno,q⟩
 subst hx hvs
 cases rx
 obtain ⟨u,rfl,ru⟩:=rv.one
 obtain ⟨its,r,pl,hsz⟩:=I.list hq
 obtain ⟨hj,h1,h2⟩:=AX r fs hk hz hno
 obtain ⟨⟨cls,dd,data,sl⟩,ho,hc,n,hd⟩:=id pl.isList
 simp only at hc hd
 subst hc hd
 have:=jK
 have hz':k < xs.length:=(List.getElem?_eq_some_iff.mp hk).1
 exact call_meets F.slot_list_index ⟨_,ho,rfl⟩ F.entry_list_index (F.args_list_index_2 _ _) (SeqAt.list_indexAt p its.toArray n dd sl u (Iw y) k hj (by omega) h1 h2) ⟨ho,fun w hw=>nO ru fy r fs w (by simpa using hw),.int k,H,I.tok _,⟨_,rfl⟩,q⟩
def K6 (K:PySem.W.Frag) (to:TE) (t:TA):TE:=fun σ H Q=>to σ H fun x H1=>∃ (b:Bool) (p:Addr) (xs:List V),x=.ref p /\ (if b=true then dg K H1 p xs else fF K H1 p xs) /\ t σ H1 fun vs H2=>GX K b x vs H2 Q
theorem Gn {o e:Expr} {es:List Expr} {to:TE} {t:TA} {apos cpos:Pos} (ho:PE X o to) (ha:PA X (e :: es) t)
  (hbase:attributeBase o "index" X.env (eval o X.env)=eval o X.env:=by rfl)
  (hfew:((backTo cpos (starEach (e :: es) X.env)).all (fun x=>!x.1) && (backToKw cpos (keywordEach [] X.env)).all (fun x=>x.1.isSome)
   && decide ((e :: es).length + ([]:List Keyword).length + (if ([]:List Keyword).isEmpty then 0 else 1) < 30))=true:=by rfl)
  (hline:(apos.endLine == cpos.line)=true:=by rfl) (hs:starEach (e :: es) X.env=(false,eval e X.env) :: starEach es X.env:=by rfl) (hplain:(backTo cpos (starEach es X.env)).any (·.1)=false:=by rfl) :
  PE X (.Call (.Attribute o "index" apos) (e :: es) [] cpos) (K6 X.K to t):=by
 intro pins s σ H Q I h
 refine wpAny_Call_method_late hbase hfew hline rfl (b9 (ho pins s σ H _ I h) fun v s1 ⟨x,H1,I1,r1,b,p,xs,hx,hq,q1⟩=>?_)
 subst hx
 cases r1
 cases b with
 | true=>
  obtain ⟨ob,g1,g2,g3⟩:=I1.FO hq
  refine ⟨"tuple", "tuple.index",PySem.F.plainAttrs_tuple,PySem.F.slot_tuple_index,PySem.F.type_tuple_index,⟨ob,g1,g2⟩,fun a e=>by cases e;exact ⟨ob,g1,g3⟩,?_⟩
  have hA:=ha cpos pins s1 σ H1 _ I1 q1
  rw [hs] at hA ⊢
  refine Calls.callWith_builtin (by show (false || (backTo cpos (starEach es X.env)).any (·.1))=false;rw [hplain] <;> rfl) (Calls.evalArgs_plain ?_)
  exact b9 hA fun us s2 ⟨vs,H2,I2,r2,q2⟩=>Dy pins s2 σ H2 (.ref p) vs _ us Q I2 rfl r2 q2
 | false=>
  obtain ⟨its,r,⟨ob,n,g1,g2,g3,g4⟩,hz⟩:=I1.list hq
  refine ⟨"list", "list.index",PySem.F.plainAttrs_list,PySem.F.slot_list_index,PySem.F.type_list_index,⟨ob,g1,g2⟩,fun a e=>by cases e;exact ⟨ob,g1,g3⟩,?_⟩
  have hA:=ha cpos pins s1 σ H1 _ I1 q1
  rw [hs] at hA ⊢
  refine Calls.callWith_builtin (by show (false || (backTo cpos (starEach es X.env)).any (·.1))=false;rw [hplain] <;> rfl) (Calls.evalArgs_plain ?_)
  exact b9 hA fun us s2 ⟨vs,H2,I2,r2,q2⟩=>DF pins s2 σ H2 (.ref p) vs _ us Q I2 rfl r2 q2
end
end L2
namespace L2
open PySem PySem.Spec PyProof.Rows PySem.SeqAt
section
variable {X:Cx} {pos:Pos} {a b:Expr}
end
end L2
namespace L2
open PySem PySem.Spec PyProof.Rows PySem.SeqAt
section
variable {X:Cx}
end
end L2
namespace L2
open PySem PySem.Spec PyProof.Rows PySem.SeqAt
section
variable {prog:Program} {w:World} {A:Around} {E:Value -> Shared -> Prop} {s:Shared}
end
section
variable {prog:Program} {w:World} {A:Around} {E:Value -> Shared -> Prop} {s:Shared}
end
section
variable {X:Cx}
end
end L2
namespace L2
open PySem PySem.Spec PyProof.Rows
section
variable {X:Cx}
end
end L2
namespace L2
open PySem PySem.Spec PyProof.Rows
theorem G7 {X:Cx} {use:Option (Value -> Sem Unit)} {Q':Value -> Shared -> Prop} {tg iter elt:Expr} {ifs:List Expr} {scope:Scope} {pos:Pos} {N:List Str} {cap:List (Option Nat)} {wi:TI} {g:TG} {tc:TT} {te:TE} (hc:X.calm=true) (S:CpScope X scope N cap) (hi:PI X tg iter wi)
  (hg:∀ C s₀ H₀ ex,PG (bL X scope N C s₀ H₀ ex) tg g) (ht:∀ C s₀ H₀ ex,C1 (bL X scope N C s₀ H₀ ex) ifs tc) (he:∀ C s₀ H₀ ex,PE (bL X scope N C s₀ H₀ ex) elt te)
  (hs:∀ x,foldedSetIterable iter X.env x=pure x:=by intro _;rfl):∀ (pins:List (Addr × Obj)) (s:Shared) (σ:St) (H:Hp) (Q:VK),Inv X pins σ H s -> JV cap wi g tc te σ H Q ->
  (∀ (s6:Shared) (C D:Addr) (H5:Hp) (m:Str -> Option Value),s6.heap.Ns C m -> g9 X pins H5 C -> (∀ h',Heap.SameBut C s6.heap h' -> Inv X pins σ H5 { s6 with heap:=h' }) -> Q (.ref D) H5 -> ∀ v,compPost (model X.prog X.w) X.A X.xe use Q' (.ref D) C (.ok v) s6) ->
  wpAny (model X.prog X.w) X.A (comprehension (.ListComp elt [⟨tg,iter,ifs,0⟩] scope pos) scope X.env (firstIterPos [⟨tg,iter,ifs,0⟩] pos) (newList []) (firstAsync [⟨tg,iter,ifs,0⟩]) (firstIter [⟨tg,iter,ifs,0⟩] X.env) use) Q' X.xe s:=by
 intro pins s σ H Q I h hfin
 have hfree:∀ y ∈ scope.names,y.2=.free -> ∃ c,X.env.cells.lookup y.1=some c:=fun y hy e=>I.ok.has _ (S.fr y hy e)
 refine wpAny_comprehension_free (use:=use) rfl hs (jP hfree) S.kind S.nm (b9 (hi pins s σ H _ I h) fun xv s1 h1=>b9 h1 fun itv s2 h2=>?_)
 obtain ⟨it,fp,tn,J,H2,rfl,I2,T,st2,f2,h2⟩:=h2
 refine wpAny_newObj_type (wpAny_newFunctionEnv S.nocell (by intro y hy;simp at hy) (fun h₁ hns₁ hsb₁=>?_) S.kind)
 obtain ⟨W,⟨m0,w0⟩,turn⟩:=h2 s2.heap.objs.size I2.fresh
 dsimp only at hns₁ hsb₁ ⊢
 have I3:Inv X pins σ (upd H2 s2.heap.objs.size (.lst [])) { s2 with heap:=s2.heap.push { cls:=.type "list",data:=.seq ([]:List Value).toArray } }:=I2.yT (t':=s2.toks) (its:=[]) .nil (Nat.zero_le _)
 have hfp:∀ b ∈ fp,∃ o,s2.heap.get? b=some o:=fun b hb=>by
  obtain ⟨o,e,_⟩:=T.obj 0 _ st2 b hb
  exact ⟨o,e⟩
 have neD:∀ b ∈ fp,b ≠ s2.heap.objs.size:=fun b hb=>by
  obtain ⟨o,e⟩:=hfp b hb
  exact Nat.ne_of_lt (Heap.lt_size e)
 have f3:∀ b ∈ fp,g9 X pins (upd H2 s2.heap.objs.size (.lst [])) b:=fun b hb=>⟨by rw [aM (neD b hb)];exact (f2 b hb).1,(f2 b hb).2⟩
 have hDC:s2.heap.objs.size ≠ (s2.heap.push { cls:=.type "list",data:=.seq ([]:List Value).toArray }).objs.size:=by rw [Heap.size_push];exact Nat.ne_of_lt (Nat.lt_succ_self _)
 have old:∀ b o,(s2.heap.push { cls:=.type "list",data:=.seq ([]:List Value).toArray }).get? b=some o -> h₁.get? b=some o:=fun b o e=>hsb₁.extBut b o (Nat.ne_of_lt (Heap.lt_size e)) (Heap.get?_push_of_some _ e)
 have I4:=uT (tk:=s2.toks + ([]:List (Str × Value)).length) (fp:=fp) S I3 f3 (fun b hb=>by
  obtain ⟨o,e⟩:=hfp b hb
  exact ⟨o,Heap.get?_push_of_some _ e⟩) hns₁ old
 have st4:tn 0 h₁:=T.keep _ _ _ st2 fun b hb o e=>old b o (Heap.get?_push_of_some _ e)
 have stat:∀ {H':Hp},(∀ b ∈ fp,H' b=none) -> ∀ b ∈ fp,g9 (bL X scope N (s2.heap.push { cls:=.type "list",data:=.seq ([]:List Value).toArray }).objs.size { s2 with heap:=s2.heap.push { cls:=.type "list",data:=.seq ([]:List Value).toArray } } (upd H2 s2.heap.objs.size (.lst [])) fp) [] H' b:=fun hn b hb=>by
  have ok:=I4.ok
  refine ⟨hn b hb,(ok.exf b hb).1,ok.exfs b hb,.inl hb,fun x c e=>(ok.exf b hb).2 x c e,fun p hp=>nomatch hp⟩
 have loop:∀ s4:Shared,s4={ s2 with heap:=h₁,toks:=s2.toks + ([]:List (Str × Value)).length } ->
   codeAny (model X.prog X.w) X.A (.compLoop (.ListComp elt [⟨tg,iter,ifs,0⟩] scope pos) 0 (.ref it) (.ref s2.heap.objs.size) (compEnvC scope (iF X.env scope.names []) (s2.heap.push { cls:=.type "list",data:=.seq ([]:List Value).toArray }).objs.size X.env))
    (compPost (model X.prog X.w) X.A X.xe use Q' (.ref s2.heap.objs.size) (s2.heap.push { cls:=.type "list",data:=.seq ([]:List Value).toArray }).objs.size) s4:=by
  rintro s4 rfl
  refine codeAny_loop rfl (fun n s'=>∃ i σ' H',Inv (bL X scope N (s2.heap.push { cls:=.type "list",data:=.seq ([]:List Value).toArray }).objs.size { s2 with heap:=s2.heap.push { cls:=.type "list",data:=.seq ([]:List Value).toArray } } (upd H2 s2.heap.objs.size (.lst [])) fp) [] σ' H' s' /\ tn i s'.heap /\ (∀ b ∈ fp,H' b=none) /\ W i n σ' H') (fun n s5 hI=>?_) m0 ⟨0,_,_,I4,st4,fun b hb=>(f3 b hb).1,w0⟩
  obtain ⟨i,σ5,H5,I5,st5,fr5,w5⟩:=hI
  show wpAny _ X.A ((compTurn (.ListComp elt [⟨tg,iter,ifs,0⟩] scope pos) 0 (.ref it) (.ref s2.heap.objs.size) (compEnvC scope (iF X.env scope.names []) (s2.heap.push { cls:=.type "list",data:=.seq ([]:List Value).toArray }).objs.size X.env)).onRaise (fun x=>do noteFrame x _;theTreesLotGoes x)) _ _ s5
  refine wpAny_noted ?_
  rw [compTurn_list]
  refine wpAny_bind (wpAny_standAt (wpAny_bind ?_))
  rcases turn i n σ5 H5 w5 with ⟨stop,q⟩ | ⟨go,step⟩
  ·refine b9 (T.done (bL X scope N (s2.heap.push { cls:=.type "list",data:=.seq ([]:List Value).toArray }).objs.size { s2 with heap:=s2.heap.push { cls:=.type "list",data:=.seq ([]:List Value).toArray } } (upd H2 s2.heap.objs.size (.lst [])) fp) rfl rfl rfl hc i [] s5 σ5 H5 _ I5 (stat fr5) st5 stop) fun r s6 ⟨hr,I6⟩=>?_
   subst hr
   obtain ⟨m6,hn6,_⟩:=I6.loc
   refine wpAny_pure (hfin s6 _ _ H5 m6 hn6 (I3.z7 (Nat.le_refl _) I6.free) (fun h' sb=>?_) q _)
   have u6:=I6.base
   have nC:∀ b o,(s2.heap.push { cls:=.type "list",data:=.seq ([]:List Value).toArray }).get? b=some o -> b ≠ (s2.heap.push { cls:=.type "list",data:=.seq ([]:List Value).toArray }).objs.size:=fun b o e=>Nat.ne_of_lt (Heap.lt_size e)
   refine I3.vU (ch:=fp) I6.os ⟨fun b o e n hb hx=>?_,fun b o e n hb hx=>?_,fun b o e n hx=>?_,fun b o e hx=>?_,u6.tups,u6.frzs,u6.tbls⟩ ?_ I6.bare ?_
   ·exact sb.extBut b o (nC b o e) (u6.keep b o e n hb hx)
   ·obtain ⟨sl,z⟩:=u6.slot b o e n hb hx
    exact ⟨sl,sb.extBut b _ (nC b o e) z⟩
   ·exact u6.free b o e n hx
   ·obtain ⟨o',z⟩:=u6.there b o e hx
    exact ⟨o',sb.extBut b _ (nC b o e) z⟩
   ·intro b o e
    have hb:∀ c v,H5 c=some v -> c ≠ (s2.heap.push { cls:=.type "list",data:=.seq ([]:List Value).toArray }).objs.size:=fun c v e z=>by
     rw [z] at e
     have:=I6.free
     rw [show H5 (s2.heap.push { cls:=.type "list",data:=.seq ([]:List Value).toArray }).objs.size=none from this] at e
     cases e
    refine (I6.hok b o e).stay (fun c v hc q=>sb.extBut c v ?_ q) (fun _ q=>q) fun _ _ q=>q
    rcases hc with z | z
    ·rw [z];exact hb b o e
    ·exact hb c _ z
   ·intro b hb
    obtain ⟨_,z1,_,z3,z4,z5⟩:=f3 b hb
    exact ⟨z3,z1,z4,z5⟩
  ·refine b9 (T.item (bL X scope N (s2.heap.push { cls:=.type "list",data:=.seq ([]:List Value).toArray }).objs.size { s2 with heap:=s2.heap.push { cls:=.type "list",data:=.seq ([]:List Value).toArray } } (upd H2 s2.heap.objs.size (.lst [])) fp) rfl rfl rfl hc i [] s5 σ5 H5 _ I5 (stat fr5) st5 go) fun r s6 ⟨u,hr,h6⟩=>?_
   subst hr
   refine wpAny_bind (b9 h6 fun _ s7 ⟨x,H7,I7,r7,y7,st7,fr7⟩=>?_)
   have I7':=I7.pinned (stat fr7) (T.obj _ _ st7)
   refine wpAny_bind (kK (hg _ _ _ fp _ s7 σ5 H7 x u _ I7' r7 (step x H7 y7)) fun _ s8 ⟨σ8,H8,I8,q8⟩=>?_)
   refine wpAny_bind (kK (ht _ _ _ fp _ s8 σ8 H8 _ I8 q8) fun ok s9 ⟨H9,I9,q9⟩=>?_)
   have again:∀ {s10:Shared} {H10:Hp},Inv (bL X scope N (s2.heap.push { cls:=.type "list",data:=.seq ([]:List Value).toArray }).objs.size { s2 with heap:=s2.heap.push { cls:=.type "list",data:=.seq ([]:List Value).toArray } } (upd H2 s2.heap.objs.size (.lst [])) fp) ([] ++ iQ fp s7.heap) σ8 H10 s10 -> (∃ m',m' < n /\ W (i + 1) m' σ8 H10) ->
     ∃ m,m < n /\ ∃ i σ' H',Inv (bL X scope N (s2.heap.push { cls:=.type "list",data:=.seq ([]:List Value).toArray }).objs.size { s2 with heap:=s2.heap.push { cls:=.type "list",data:=.seq ([]:List Value).toArray } } (upd H2 s2.heap.objs.size (.lst [])) fp) [] σ' H' s10 /\ tn i s10.heap /\ (∀ b ∈ fp,H' b=none) /\ W i m σ' H':=fun {s10 H10} I10 ⟨m',hm,w10⟩=>by
    refine ⟨m',hm,i + 1,σ8,H10,I10.fD,T.keep _ _ _ st7 fun b hb o e=>(I10.pin (b,o) (List.mem_append_right _ (List.mem_append_right _ (bW hb e)))).1,fun b hb=>?_,w10⟩
    obtain ⟨o,e,d⟩:=T.obj _ _ st7 b hb
    exact (I10.pin (b,o) (List.mem_append_right _ (List.mem_append_right _ (bW hb e)))).2.1
   cases ok with
   | false=>
    rw [if_neg Bool.false_ne_true] at q9
    exact wpAny_pure ⟨rfl,again I9 q9⟩
   | true=>
    rw [if_pos rfl] at q9
    refine wpAny_bind (wpAny_bind (kK (he _ _ _ fp _ s9 σ8 H9 _ I9 q9) fun y s10 ⟨v10,H10,I10,r10,ys,hD,hz,w10⟩=>?_))
    refine wpAny_bind (kK (jb _ s10 σ8 H10 (.ref s2.heap.objs.size) [v10] _ [y] (fun _ H'=>H'=upd H10 s2.heap.objs.size (.lst (ys ++ [v10]))) I10 rfl (.cons r10 .nil) ⟨_,ys,v10,rfl,rfl,hD,hz,rfl⟩) fun _ s11 ⟨_,H11,I11,_,e11⟩=>?_)
    subst e11
    exact wpAny_pure (wpAny_pure ⟨rfl,again I11 w10⟩)
 exact codeAny_compStart_list (loop _ rfl) (T.self _ 0 _ _ _ st4 (loop _ rfl))
theorem Bb {X:Cx} {i:Nat} {y:Str} {py spos:Pos} {tg iter elt:Expr} {ifs:List Expr} {scope:Scope} {pos:Pos} {N:List Str} {cap:List (Option Nat)} {wi:TI} {g:TG} {tc:TT} {te:TE}
  (hN:X.N.Nodup) (hi':X.N[i]?=some y) (hx:Loc X.env.scope y) (hc:X.calm=true) (S:CpScope X scope N cap) (hi:PI X tg iter wi)
  (hg:∀ C s₀ H₀ ex,PG (bL X scope N C s₀ H₀ ex) tg g) (ht:∀ C s₀ H₀ ex,C1 (bL X scope N C s₀ H₀ ex) ifs tc) (he:∀ C s₀ H₀ ex,PE (bL X scope N C s₀ H₀ ex) elt te)
  (hsw:swapsWith (.ListComp elt [⟨tg,iter,ifs,0⟩] scope pos) (some (.Name y py)) spos.line X.env=pure true)
  (hf:X.fn y=true \/ X.env.scope.names.lookup y=some .local) (hs:∀ x,foldedSetIterable iter X.env x=pure x:=by intro _;rfl) :
  PS X (.Assign [.Name y py] (.ListComp elt [⟨tg,iter,ifs,0⟩] scope pos) spos) (D9 (JV cap wi g tc te) (zQ i)):=by
 intro pins s σ H D I h
 rw [exec_Assign_Name_used _ _ _ _ hsw]
 refine wpAny_bind (wpAny_standAt (wpAny_bind ?_))
 show wpAny _ X.A (do let _ <- comprehension (.ListComp elt [⟨tg,iter,ifs,0⟩] scope pos) scope X.env (firstIterPos [⟨tg,iter,ifs,0⟩] pos) (newList []) (firstAsync [⟨tg,iter,ifs,0⟩]) (firstIter [⟨tg,iter,ifs,0⟩] X.env) (some (assign (.Name y py) X.env))) _ _ s
 refine wpAny_bind (wpAny_mono (G7 (Q':=fun _ s'=>SP X pins D .next s') hc S hi hg ht he hs pins s σ H _ I h ?_) (fun _ s' hq=>wpAny_pure (wpAny_pure hq)) fun _ _ e=>e)
 intro s6 C Dd H5 m hn fk inv q v
 have Ia:=inv s6.heap (Heap.SameBut.refl _ _)
 obtain ⟨oC,hoC⟩:∃ o,s6.heap.get? C=some o /\ ∀ v,o.data ≠ .cell v:=by
  obtain ⟨o,es,ep,e,d,_⟩:=hn
  exact ⟨o,e,fun v z=>by rw [d] at z;cases z⟩
 have Ip:=Ia.pinned (fp:=[C]) (fun b hb=>by rw [List.mem_singleton] at hb;rw [hb];exact fk) (fun b hb=>by rw [List.mem_singleton] at hb;rw [hb];exact ⟨oC,hoC⟩)
 show wpAny _ X.A (assign (.Name y py) X.env (.ref Dd)) _ _ s6
 refine b9 (vp hN hi' hx hf _ s6 σ H5 (.ref Dd) (.ref Dd) _ Ip rfl q) fun _ s7 ⟨σ7,H7,I7,q7⟩=>?_
 have hp:=I7.pin (C,oC) (List.mem_append_right _ (List.mem_append_right _ (bW (List.mem_singleton.mpr rfl) hoC.1)))
 refine ⟨m,hn.at' fun o e=>by rw [hoC.1] at e;cases e;exact hp.1,fun h' sb=>?_⟩
 have nC:∀ c v,H7 c=some v -> c ≠ C:=fun c v e z=>by rw [z,hp.2.1] at e;cases e
 refine ⟨σ7,H7,?_,q7⟩
 refine I7.fD.vU (ch:=[C]) rfl ⟨fun b o e n hb hx=>?_,fun b o e n hb hx=>?_,fun b o e n hx=>n,fun b o e hx=>?_,fun _ _ e=>e,fun _ _ _ e=>e,fun _ _ e=>⟨#[],by rw [Array.append_empty];exact e⟩⟩ ?_ I7.bare ?_
 ·exact sb.extBut b o (by simpa using hx) e
 ·exact ⟨o.slots,sb.extBut b o (by simpa using hx) e⟩
 ·exact ⟨o,sb.extBut b o (by simpa using hx) e⟩
 ·intro b o e
  refine (I7.hok b o e).stay (fun c v hc q=>sb.extBut c v ?_ q) (fun _ q=>q) fun _ _ q=>q
  rcases hc with z | z
  ·rw [z];exact nC b o e
  ·exact nC c _ z
 ·intro b hb
  rw [List.mem_singleton] at hb
  rw [hb]
  exact ⟨fk.2.2.2.1,fk.2.1,fk.2.2.2.2.1,fk.2.2.2.2.2⟩
end L2
namespace L2
open PySem PySem.Spec PyProof.Rows
section
variable {X:Cx} {tg:Expr}
end
end L2
namespace L2
open PySem PySem.Spec PyProof.Rows
section
variable {prog:Program} {w:World} {A:Around} {E:Value -> Shared -> Prop} {s:Shared}
end
section
variable {X:Cx} {o e:Expr} {to:TE} {tl:TO} {p2 spos pos:Pos}
end
end L2
namespace Sx
open PySem PyProof.Rows
structure Ord where
 lt:Nat -> Nat -> Bool
 irr:∀ i,lt i i=false
 tr:∀ i j k,lt i j=true -> lt j k=true -> lt i k=true
 neg:∀ i j k,lt i k=true -> lt i j=true \/ lt j k=true
def P (o:Ord) (i j:Nat):Prop:=o.lt i j=true \/ (o.lt j i=false /\ i < j)
def So (o:Ord) (g:Nat -> Nat) (a b:Nat):Prop:=∀ i j,a <= i -> i < j -> j < b -> P o (g i) (g j)
def Cl (g:Nat -> Nat) (a b:Nat):Prop:=∀ i,a <= i -> i < b -> a <= g i /\ g i < b
def rev (g:Nat -> Nat) (i j:Nat):Nat -> Nat:=fun k=>if i <= k /\ k < j then g (i + j - 1 - k) else g k
def mv (g:Nat -> Nat) (src dst:Nat):Nat -> Nat:=fun k=>if k=dst then g src else if dst < k /\ k <= src then g (k - 1) else g k
section
variable {prog:Program} {w:World} {A:Around} {E:Value -> Shared -> Prop} {s:Shared} {o:Ord} {N:Nat} {f:Nat -> Keyed} {kd:SortKind} {g:Nat -> Nat} {p:Array (Nat × Nat × Nat)} {st:SortSt}
structure Sg (N:Nat) (f:Nat -> Keyed) (kd:SortKind) (g:Nat -> Nat) (p:Array (Nat × Nat × Nat)) (st:SortSt):Prop where
 size:(arrOf st).size=N
 get:∀ i,i < N -> (arrOf st)[i]?=some (f (g i))
 lt:∀ i,i < N -> g i < N
 kind:kindOf st=kd
 failed:failedOf st=none
 pend:pendingOf st=p
structure Rn (o:Ord) (g0 g:Nat -> Nat) (a b:Nat):Prop where
 out:∀ i,i < a \/ b <= i -> g i=g0 i
 cl:Cl g a b
 so:So o g a b
end
section
variable {prog:Program} {w:World} {A:Around} {E:Value -> Shared -> Prop} {s:Shared} {o:Ord} {N:Nat} {f:Nat -> Keyed} {kd:SortKind} {g g0:Nat -> Nat} {p:Array (Nat × Nat × Nat)} {st:SortSt}
structure Dc (o:Ord) (g0 g:Nat -> Nat) (a b q:Nat):Prop where
 out:∀ i,i < a \/ b <= i -> g i=g0 i
 cl:Cl g a b
 few:a + (q + 1) <= b
 dn:∀ i j,a <= i -> i < j -> j < b -> i < b - (q + 1) -> P o (g j) (g i)
 id:∀ i,b - (q + 1) <= i -> i < b -> g i=i
 al:∀ i j,b - (q + 1) <= i -> i < b -> b - (q + 1) <= j -> j < b -> o.lt i j=false
def Fin (o:Ord) (g0 g:Nat -> Nat) (a b:Nat):Prop:=(∀ i,i < a \/ b <= i -> g i=g0 i) /\ Cl g a b /\ (∀ i j,a <= i -> i < j -> j < b -> P o (g j) (g i))
end
end Sx
namespace Sx
open PySem PyProof.Rows
def vC:Bool -> Keyed -> Array Keyed -> Nat -> Nat -> Nat -> StateT SortSt Sem (Option Nat):=sortPriv% PySem.Builtin.gallop
section
variable {prog:Program} {w:World} {A:Around} {E:Value -> Shared -> Prop} {s:Shared} {st:SortSt}
end
section
variable {prog:Program} {w:World} {A:Around} {E:Value -> Shared -> Prop} {s:Shared} {o:Ord} {N:Nat} {f:Nat -> Keyed} {kd:SortKind} {st:SortSt}
end
end Sx
namespace Sx
open PySem PyProof.Rows
def Jb:Nat -> StateT SortSt Sem Unit:=sortPriv% PySem.Builtin.setMinGallop
section
variable {o:Ord} {N:Nat} {f:Nat -> Keyed} {A B hs:List Nat} {ia ib:Nat}
def fa (f:Nat -> Keyed) (l:List Nat):Array Keyed:=(l.map f).toArray
structure Ab (o:Ord) (N:Nat) (A B:List Nat):Prop where
 sa:A.Pairwise (P o)
 sb:B.Pairwise (P o)
 lt:∀ x ∈ A,∀ y ∈ B,x < y
 nb:∀ y ∈ B,y < N
 na:∀ x ∈ A,x < N
structure Mg (o:Ord) (A B hs:List Nat) (ia ib:Nat):Prop where
 la:ia <= A.length
 lb:ib <= B.length
 len:hs.length=ia + ib
 so:hs.Pairwise (P o)
 mem:∀ x ∈ hs,x ∈ A \/ x ∈ B
 ua:∀ x ∈ hs,∀ y ∈ A.drop ia,P o x y
 ub:∀ x ∈ hs,∀ y ∈ B.drop ib,P o x y
def Res (o:Ord) (f:Nat -> Keyed) (A B:List Nat) (out:Array Keyed):Prop:=∃ hs:List Nat,out=fa f hs /\ hs.length=A.length + B.length /\ hs.Pairwise (P o) /\ ∀ x ∈ hs,x ∈ A \/ x ∈ B
end
structure Sm (st st':SortSt):Prop where
 a:arrOf st'=arrOf st
 k:kindOf st'=kindOf st
 p:pendingOf st'=pendingOf st
 f:failedOf st'=failedOf st
abbrev G:=Option (Array Keyed) × Array Keyed × Nat × Nat × Nat × Nat × Nat
def T3 (a b out:Array Keyed) (ia ib mg ac bc:Nat):StateT SortSt Sem (ForInStep G):=do
 let x <- elem' a ia
 if (ia + 1 + 1 == a.size)=true then pure (ForInStep.done (some (out.push x ++ b.extract ib b.size ++ a.extract (ia + 1) a.size),out.push x,ia + 1,ib,mg,ac,bc))
 else if (decide (ac < 7) && decide (bc < 7))=true then pure (ForInStep.done (none,out.push x,ia + 1,ib,mg,ac,bc))
 else pure (ForInStep.yield (none,out.push x,ia + 1,ib,mg,ac,bc))
def T2 (a b out:Array Keyed) (ia ib mg ac bc:Nat):StateT SortSt Sem (ForInStep G):=do
 let x <- elem' b ib
 if (ib + 1 == b.size)=true then pure (ForInStep.done (some (out.push x ++ a.extract ia a.size ++ b.extract (ib + 1) b.size),out.push x,ia,ib + 1,mg,ac,bc))
 else
  let y <- elem' a ia
  let r <- vC true y b (ib + 1) (b.size - (ib + 1)) 0
  match r with
  | some k=>
   if k > 0 then
    if (ib + 1 + k == b.size)=true then pure (ForInStep.done (some (out.push x ++ b.extract (ib + 1) (ib + 1 + k) ++ a.extract ia a.size ++ b.extract (ib + 1 + k) b.size),out.push x ++ b.extract (ib + 1) (ib + 1 + k),ia,ib + 1 + k,mg,ac,k))
    else T3 a b (out.push x ++ b.extract (ib + 1) (ib + 1 + k)) ia (ib + 1 + k) mg ac k
   else T3 a b (out.push x) ia (ib + 1) mg ac k
  | _=>pure (ForInStep.done (some (out.push x ++ a.extract ia a.size ++ b.extract (ib + 1) b.size),out.push x,ia,ib + 1,mg,ac,bc))
def T1 (a b out:Array Keyed) (ia ib mg ac bc:Nat):StateT SortSt Sem (ForInStep G):=do
 Jb mg
 let x <- elem' b ib
 let r <- vC false x a ia (a.size - ia) 0
 match r with
 | some k=>
  if k > 0 then
   if (ia + k + 1 == a.size)=true then pure (ForInStep.done (some (out ++ a.extract ia (ia + k) ++ b.extract ib b.size ++ a.extract (ia + k) a.size),out ++ a.extract ia (ia + k),ia + k,ib,mg,k,bc))
   else if (ia + k == a.size)=true then pure (ForInStep.done (some (out ++ a.extract ia (ia + k) ++ a.extract (ia + k) a.size ++ b.extract ib b.size),out ++ a.extract ia (ia + k),ia + k,ib,mg,k,bc))
   else T2 a b (out ++ a.extract ia (ia + k)) (ia + k) ib mg k bc
  else T2 a b out ia ib mg k bc
 | _=>pure (ForInStep.done (some (out ++ a.extract ia a.size ++ b.extract ib b.size),out,ia,ib,mg,ac,bc))
section
variable {prog:Program} {w:World} {A:Around} {E:Value -> Shared -> Prop} {s:Shared} {o:Ord} {N:Nat} {f:Nat -> Keyed} {kd:SortKind} {st st0:SortSt} {X Y hs:List Nat} {ia ib:Nat}
end
end Sx
namespace Sx
open PySem PyProof.Rows
section
variable {o:Ord} {N:Nat} {f:Nat -> Keyed} {A B ts:List Nat} {na nb:Nat}
structure Mh (o:Ord) (A B ts:List Nat) (na nb:Nat):Prop where
 la:na <= A.length
 lb:nb <= B.length
 len:ts.length + na + nb=A.length + B.length
 so:ts.Pairwise (P o)
 mem:∀ x ∈ ts,x ∈ A \/ x ∈ B
 ua:∀ y ∈ A.take na,∀ x ∈ ts,P o y x
 ub:∀ y ∈ B.take nb,∀ x ∈ ts,P o y x
end
abbrev H:=Option (Array Keyed) × Nat × Nat × Array Keyed × Nat × Nat × Nat
section
variable {prog:Program} {w:World} {A:Around} {E:Value -> Shared -> Prop} {s:Shared} {o:Ord} {N:Nat} {f:Nat -> Keyed} {kd:SortKind} {st st0:SortSt} {X Y ts:List Nat} {na nb:Nat}
def Oh (o:Ord) (X Y:List Nat) (n:Nat) (ts:List Nat) (na nb:Nat):Prop:=Mh o X Y ts na nb /\ 1 <= na /\ 2 <= nb /\ na + nb + n <= X.length + Y.length
def H2 (o:Ord) (f:Nat -> Keyed) (X Y:List Nat) (n:Nat) (st0:SortSt):ForInStep H -> SortSt -> Prop:=fun r st'=>Sm st0 st' /\ match r with
 | .done c=>(∃ r z,c=(some r,z) /\ Res o f X Y r) \/ ∃ ts na nb mg ac bc,c=(none,na,nb,fa f ts.reverse,mg,ac,bc) /\ Oh o X Y n ts na nb
 | .yield c=>∃ ts na nb mg ac bc,c=(none,na,nb,fa f ts.reverse,mg,ac,bc) /\ Oh o X Y n ts na nb
end
end Sx
namespace Sx
open PySem PyProof.Rows
section
variable {o:Ord} {N:Nat} {f:Nat -> Keyed} {g:Nat -> Nat}
end
section
variable {prog:Program} {w:World} {A:Around} {E:Value -> Shared -> Prop} {s:Shared} {o:Ord} {N:Nat} {f:Nat -> Keyed} {kd:SortKind} {g:Nat -> Nat} {st:SortSt}
end
end Sx
namespace Sx
open PySem PyProof.Rows
abbrev pr (x:Nat × Nat × Nat):Nat × Nat:=(x.1,x.2.1)
def Jw (o:Ord) (g:Nat -> Nat):List (Nat × Nat) -> Nat -> Nat -> Prop
 | [],a,b=>a=b
 | x :: l,a,b=>x.1=a /\ 1 <= x.2 /\ Cl g a (a + x.2) /\ So o g a (a + x.2) /\ Jw o g l (a + x.2) b
def PA (o:Ord) (g:Nat -> Nat) (p:Array (Nat × Nat × Nat)) (b:Nat):Prop:=Jw o g (p.toList.map pr) 0 b
section
variable {o:Ord} {g:Nat -> Nat}
theorem Ai {p:Array (Nat × Nat × Nat)} {i:Nat} (h:i + 1 < p.size):∃ l1 x y l2,p=(l1 ++ x :: y :: l2).toArray /\ l1.length=i:=by
 have h':i + 1 < p.toList.length:=h
 refine ⟨p.toList.take i,p.toList[i],p.toList[i + 1],p.toList.drop (i + 2),?_,by rw [List.length_take];omega⟩
 apply Array.toList_inj.mp
 show p.toList=_
 conv=>lhs;rw [<- List.take_append_drop i p.toList,List.drop_eq_getElem_cons (show i < p.toList.length by omega),List.drop_eq_getElem_cons h']
end
section
variable {prog:Program} {w:World} {A:Around} {E:Value -> Shared -> Prop} {s:Shared} {o:Ord} {N:Nat} {f:Nat -> Keyed} {kd:SortKind} {g:Nat -> Nat} {p:Array (Nat × Nat × Nat)} {st:SortSt}
end
end Sx
namespace Sx
open PySem PyProof.Rows
abbrev vv (vs:List Value) (i:Nat):Keyed:=(vs.getD i .none,vs.getD i .none)
section
variable {prog:Program} {w:World} {A:Around} {E:Value -> Shared -> Prop} {s:Shared} {o:Ord} {kd:SortKind}
end
section
variable {prog:Program} {w:World} {A:Around} {E:Value -> Shared -> Prop} {s:Shared}
end
end Sx
namespace Sx
open PySem PyProof.Rows
theorem Ew:∀ a:List Int,HT.lexLt a a=false
 | []=>HT.jB
 | x :: a=>by rw [HT.jR,if_pos rfl];exact Ew a
section
variable {prog:Program} {w:World} {A:Around} {E:Value -> Shared -> Prop} {s:Shared}
end
end Sx
namespace L2
open PySem PySem.Spec PyProof.Rows
section
variable {X:Cx}
end
end L2
namespace Sx
open PySem PyProof.Rows
open PySem.AutoSeq1 (wpAny_loadPart')
open PySem.MeetsSeq PySem.MeetsSeq2 PySem.MeetsSeq3
section
variable {prog:Program} {w:World} {A:Around} {E:Value -> Shared -> Prop} {s:Shared}
end
end Sx
namespace L2
open PySem PySem.Spec PyProof.Rows
section
variable {X:Cx}
end
end L2
namespace Am
open PySem
inductive A where
 | dY | non | bl (b:Bool) | int (i:Int) | str (x:Str) | tup (xs:List A) | frz (xs:List A) | rng (lo hi:Int) | ref (n:Nat) | exn (c:Str) | ty (n:String)
inductive O where
 | lst (xs:List A) | dct (kvs:List (List Int × A)) | dki (kvs:List (Int × A)) | ins (c:Str) (fs:List (Str × A))
abbrev aA:=List O
inductive R (α:Type) where
 | ok (a:α) (S:aA) | ex (c:Str) (S:aA) | no
def R.bind {α β:Type} (r:R α) (f:α -> aA -> R β):R β:=match r with
 | .ok a S=>f a S
 | .ex c S=>.ex c S
 | .no=>.no
def R.post {α:Type} (r:R α) (P:α -> aA -> Prop) (E:Str -> aA -> Prop):Prop:=match r with
 | .ok a S=>P a S
 | .ex c S=>E c S
 | .no=>False
theorem aH {α β:Type} {r:R α} {f:α -> aA -> R β} {P:β -> aA -> Prop} {E:Str -> aA -> Prop} (h:(r.bind f).post P E):r.post (fun a S=>(f a S).post P E) E:=by
 cases r <;> exact h
theorem gM {α:Type} {r:R α} {P P':α -> aA -> Prop} {E E':Str -> aA -> Prop} (h:r.post P E) (hp:∀ a S,P a S -> P' a S) (he:∀ c S,E c S -> E' c S):r.post P' E':=by
 cases r with
 | ok a S=>exact hp _ _ h
 | ex c S=>exact he _ _ h
 | no=>exact h.elim
def gd {α:Type} (c:Prop) [Decidable c] (r:R α):R α:=if c then r else .no
def opt {α β:Type} (o:Option β) (f:β -> R α):R α:=match o with
 | some b=>f b
 | none=>.no
theorem bg {α:Type} {c:Prop} [Decidable c] {r:R α} {P:α -> aA -> Prop} {E:Str -> aA -> Prop} (h:(gd c r).post P E):c /\ r.post P E:=by
 unfold gd at h
 by_cases hc:c
 ·rw [if_pos hc] at h;exact ⟨hc,h⟩
 ·rw [if_neg hc] at h;exact h.elim
theorem aK {α β:Type} {o:Option β} {f:β -> R α} {P:α -> aA -> Prop} {E:Str -> aA -> Prop} (h:(opt o f).post P E):∃ b,o=some b /\ (f b).post P E:=by
 cases o with
 | none=>exact h.elim
 | some b=>exact ⟨b,rfl,h⟩
theorem AJ {α:Type} {c:Prop} [Decidable c] {r:R α} (h:c):gd c r=r:=if_pos h
def ak (S:aA) (n:Nat):Option (List A):=match S[n]? with
 | some (.lst xs)=>some xs
 | _=>none
theorem aQ {S:aA} {n:Nat} {xs:List A} (h:ak S n=some xs):S[n]?=some (.lst xs):=by
 unfold ak at h
 split at h
 ·rename_i e;cases h;exact e
 ·cases h
theorem m8 {S:aA} {n:Nat} {xs:List A} (h:S[n]?=some (.lst xs)):ak S n=some xs:=by
 unfold ak;rw [h]
inductive RS where
 | nx (τ:List A) (S:aA) | rt (a:A) (S:aA) | bk (τ:List A) (S:aA) | ct (τ:List A) (S:aA) | ex (c:Str) (S:aA) | no
abbrev Ex:=List A -> aA -> R A
abbrev gP:=List A -> aA -> R (List A)
abbrev Te:=List A -> aA -> R Bool
abbrev Sm:=List A -> aA -> RS
abbrev Tg:=A -> List A -> aA -> R (List A)
end Am
namespace Am
open PySem L2
section
variable (K:PySem.W.Frag) (ρ:List Addr) (H:Hp)
def sZ (K:PySem.W.Frag) (c:Str) (C:Addr):Prop:=PySem.W.nsIn K mainGlobals c=some (some (.ref C))
def Fz (K:PySem.W.Frag) (H:Hp) (a:Addr) (vs:List V):Prop:=
 (∃ o,H a=some (.frz o (.lst vs))) \/ ∃ (o:Obj) (its:Array Value) (n:Nat),K.lookup a=some o /\ o.cls=.type "list" /\ o.dict=none /\ o.data=.seq its n /\ its.size <= sizeLine /\ Vals vs its.toList
mutual
inductive AV:A -> V -> Prop
 | non:AV .non .non
 | bl (b:Bool):AV (.bl b) (.bl b)
 | int (i:Int):AV (.int i) (.int i)
 | str (x:Str):AV (.str x) (.str x)
 | ty (n:String):AV (.ty n) (.ty n)
 | tup {a:Addr} {xs:List A} {vs:List V} (h:H a=some (.tup vs)) (r:AVs xs vs):AV (.tup xs) (.ref a)
 | frz {a:Addr} {xs:List A} {vs:List V} (h:Fz K H a vs) (r:AVs xs vs):AV (.frz xs) (.ref a)
 | rng {a:Addr} {lo hi:Int} (h:H a=some (.rng lo hi)):AV (.rng lo hi) (.ref a)
 | ref {a:Addr} {n:Nat} (h:ρ[n]?=some a):AV (.ref n) (.ref a)
 | exn {a C:Addr} {c:Str} {oe:Obj} (n:sZ K c C) (h:H a=some (.frz oe xu)) (x:XO C oe):AV (.exn c) (.ref a)
inductive AVs:List A -> List V -> Prop
 | nil:AVs [] []
 | cons {x:A} {v:V} {xs:List A} {vs:List V} (h:AV x v) (t:AVs xs vs):AVs (x :: xs) (v :: vs)
end
def DV:List (List Int × A) -> List (List Key × V) -> Prop
 | [],[]=>True
 | p :: r,q :: r'=>(q.1=p.1.map Sum.inl /\ AV K ρ H p.2 q.2) /\ DV r r'
 | _,_=>False
def DI:List (Int × A) -> List (Key × V) -> Prop
 | [],[]=>True
 | p :: r,q :: r'=>(q.1=Sum.inl p.1 /\ AV K ρ H p.2 q.2) /\ DI r r'
 | _,_=>False
def OR (a:Addr):O -> Prop
 | .lst xs=>∃ vs,H a=some (.lst vs) /\ AVs K ρ H xs vs
 | .dct kvs=>∃ ks,H a=some (.dT ks) /\ DV K ρ H kvs ks
 | .dki kvs=>∃ ks,H a=some (.dK ks) /\ DI K ρ H kvs ks
 | .ins _ _=>∃ o u,H a=some (.frz o u)
structure Rel (S:aA):Prop where
 len:ρ.length=S.length
 nd:ρ.Nodup
 «at»:∀ (n:Nat) (a:Addr) (o:O),ρ[n]?=some a -> S[n]?=some o -> OR K ρ H a o
end
def L5:HO -> Prop
 | .tup _=>True
 | .rng _ _=>True
 | .frz _ _=>True
 | _=>False
structure Ext0 (ρ ρ':List Addr) (H H':Hp):Prop where
 pre:ρ <+: ρ'
 im:∀ a u,L5 u -> H a=some u -> H' a=some u
structure Ext (ρ ρ':List Addr) (H H':Hp):Prop extends Ext0 ρ ρ' H H' where
 fr:∀ a u,H a=some u -> a ∉ ρ -> H' a=some u
 nw:∀ a,a ∈ ρ' -> a ∈ ρ \/ H a=none
theorem Ext.refl {ρ:List Addr} {H:Hp}:Ext ρ ρ H H:=⟨⟨List.prefix_refl _,fun _ _ _ h=>h⟩,fun _ _ h _=>h,fun _ h=>.inl h⟩
theorem Ext.trans {ρ ρ1 ρ2:List Addr} {H H1 H2:Hp} (a:Ext ρ ρ1 H H1) (b:Ext ρ1 ρ2 H1 H2):Ext ρ ρ2 H H2:=⟨⟨a.pre.trans b.pre,fun x u i h=>b.im x u i (a.im x u i h)⟩,fun x u h n=>b.fr x u (a.fr x u h n) fun z=>(a.nw x z).elim n fun z=>by (rw [z] at h;cases h),fun x h=>by
 by_cases hx:x ∈ ρ
 ·exact .inl hx
 ·right
  cases q:H x with
  | none=>rfl
  | some u=>
   rcases b.nw x h with z | z
   ·exact ((a.nw x z).elim hx fun z=>by (rw [z] at q;cases q)).elim
   ·rw [a.fr x u q hx] at z;cases z⟩
theorem Ext0.get {ρ ρ':List Addr} {H H':Hp} (e:Ext0 ρ ρ' H H') {n:Nat} {a:Addr} (h:ρ[n]?=some a):ρ'[n]?=some a:=by
 obtain ⟨t,rfl⟩:=e.pre
 rw [List.getElem?_append_left (List.getElem?_eq_some_iff.mp h).1]
 exact h
section
variable {K:PySem.W.Frag} {ρ ρ':List Addr} {H H':Hp}
theorem Ext0.LO (e:Ext0 ρ ρ' H H') {a:Addr} {vs:List V} (h:dg K H a vs):dg K H' a vs:=by
 rcases h with (h | ⟨o,h⟩) | h
 ·exact .inl (.inl (e.im _ _ trivial h))
 ·exact .inl (.inr ⟨o,e.im _ _ trivial h⟩)
 ·exact .inr h
theorem Ext0.fz (e:Ext0 ρ ρ' H H') {a:Addr} {vs:List V} (h:Fz K H a vs):Fz K H' a vs:=by
 rcases h with ⟨o,h⟩ | h
 ·exact .inl ⟨o,e.im _ _ trivial h⟩
 ·exact .inr h
theorem Fz.CK {a:Addr} {vs:List V} (h:Fz K H a vs):fF K H a vs:=by
 rcases h with ⟨o,h⟩ | h
 ·exact .inl (.inr ⟨o,h⟩)
 ·exact .inr h
mutual
theorem AV.dR (e:Ext0 ρ ρ' H H'):∀ {x:A} {v:V},AV K ρ H x v -> AV K ρ' H' x v
 | _,_,.non=>.non
 | _,_,.bl b=>.bl b
 | _,_,.int i=>.int i
 | _,_,.str x=>.str x
 | _,_,.ty x=>.ty x
 | _,_,.tup h r=>.tup (e.im _ _ trivial h) (AVs.dR e r)
 | _,_,.frz h r=>.frz (e.fz h) (AVs.dR e r)
 | _,_,.rng h=>.rng (e.im _ _ trivial h)
 | _,_,.ref h=>.ref (e.get h)
 | _,_,.exn n h x=>.exn n (e.im _ _ trivial h) x
theorem AVs.dR (e:Ext0 ρ ρ' H H'):∀ {xs:List A} {vs:List V},AVs K ρ H xs vs -> AVs K ρ' H' xs vs
 | _,_,.nil=>.nil
 | _,_,.cons h t=>.cons (AV.dR e h) (AVs.dR e t)
end
theorem DV.dR (e:Ext0 ρ ρ' H H'):∀ {xs:List (List Int × A)} {vs:List (List Key × V)},DV K ρ H xs vs -> DV K ρ' H' xs vs
 | [],[],_=>trivial
 | _ :: _,_ :: _,⟨⟨a,b⟩,r⟩=>⟨⟨a,AV.dR e b⟩,DV.dR e r⟩
theorem DV.ext {x:List (List Int × A)} {v:List (List Key × V)} (h:DV K ρ H x v) (e:Ext ρ ρ' H H'):DV K ρ' H' x v:=DV.dR e.toExt0 h
theorem DI.dR (e:Ext0 ρ ρ' H H'):∀ {xs:List (Int × A)} {vs:List (Key × V)},DI K ρ H xs vs -> DI K ρ' H' xs vs
 | [],[],_=>trivial
 | _ :: _,_ :: _,⟨⟨a,b⟩,r⟩=>⟨⟨a,AV.dR e b⟩,DI.dR e r⟩
theorem DI.ext {x:List (Int × A)} {v:List (Key × V)} (h:DI K ρ H x v) (e:Ext ρ ρ' H H'):DI K ρ' H' x v:=DI.dR e.toExt0 h
theorem AV.ext {x:A} {v:V} (h:AV K ρ H x v) (e:Ext ρ ρ' H H'):AV K ρ' H' x v:=AV.dR e.toExt0 h
theorem AVs.ext {x:List A} {v:List V} (h:AVs K ρ H x v) (e:Ext ρ ρ' H H'):AVs K ρ' H' x v:=AVs.dR e.toExt0 h
theorem AVs.length:∀ {xs:List A} {vs:List V},AVs K ρ H xs vs -> xs.length=vs.length
 | _,_,.nil=>rfl
 | _,_,.cons _ t=>congrArg (· + 1) (AVs.length t)
theorem AVs.append:∀ {xs ys:List A} {vs ws:List V},AVs K ρ H xs vs -> AVs K ρ H ys ws -> AVs K ρ H (xs ++ ys) (vs ++ ws)
 | _,_,_,_,.nil,s=>s
 | _,_,_,_,.cons h t,s=>.cons h (AVs.append t s)
theorem AVs.take:∀ {xs:List A} {vs:List V} (n:Nat),AVs K ρ H xs vs -> AVs K ρ H (xs.take n) (vs.take n)
 | _,_,0,_=>.nil
 | _,_,_ + 1,.nil=>.nil
 | _,_,n + 1,.cons h t=>.cons h (AVs.take n t)
theorem AVs.drop:∀ {xs:List A} {vs:List V} (n:Nat),AVs K ρ H xs vs -> AVs K ρ H (xs.drop n) (vs.drop n)
 | _,_,0,r=>r
 | _,_,_ + 1,.nil=>.nil
 | _,_,n + 1,.cons _ t=>AVs.drop n t
theorem AVs.reverse:∀ {xs:List A} {vs:List V},AVs K ρ H xs vs -> AVs K ρ H xs.reverse vs.reverse
 | _,_,.nil=>.nil
 | _,_,.cons h t=>by rw [List.reverse_cons,List.reverse_cons];exact (AVs.reverse t).append (.cons h .nil)
theorem AVs.get:∀ {xs:List A} {vs:List V} {i:Nat} {x:A},AVs K ρ H xs vs -> xs[i]?=some x -> ∃ v,vs[i]?=some v /\ AV K ρ H x v
 | _,_,_,_,.nil,e=>by simp at e
 | _,_,0,_,.cons h _,e=>by simp at e;subst e;exact ⟨_,rfl,h⟩
 | _,_,i + 1,x,.cons _ t,e=>by
  obtain ⟨u,h1,h2⟩:=AVs.get (i:=i) (x:=x) t (by simpa using e)
  exact ⟨u,by simpa using h1,h2⟩
theorem AVs.set {x:A} {v:V} (h:AV K ρ H x v):∀ {xs:List A} {vs:List V} (i:Nat),AVs K ρ H xs vs -> AVs K ρ H (xs.set i x) (vs.set i v)
 | _,_,_,.nil=>.nil
 | _,_,0,.cons _ t=>.cons h t
 | _,_,i + 1,.cons q t=>.cons q (AVs.set h i t)
theorem AVs.one {x:A} {v:V} (h:AV K ρ H x v):AVs K ρ H [x] [v]:=.cons h .nil
theorem j7:∀ (ns:List Int),AVs K ρ H (ns.map .int) (ns.map .int)
 | []=>.nil
 | n :: ns=>.cons (.int n) (j7 ns)
theorem Rel.lay {S:aA} {p:Addr} {xs:List A} {vs:List V} (R:Rel K ρ H S) (hp:H p=none) (r:AVs K ρ H xs vs):Ext ρ (ρ ++ [p]) H (upd H p (.lst vs)) /\ Rel K (ρ ++ [p]) (upd H p (.lst vs)) (S ++ [.lst xs]) /\ (ρ ++ [p])[S.length]?=some p:=by
 have ex:Ext ρ (ρ ++ [p]) H (upd H p (.lst vs)):=⟨⟨List.prefix_append _ _,fun a u _ h=>by rw [aM (a_ h hp)];exact h⟩,fun a u h _=>by rw [aM (a_ h hp)];exact h,fun a h=>by
  rcases List.mem_append.mp h with z | z
  ·exact .inl z
  ·have e:a=p:=by simpa using z
   rw [e];exact .inr hp⟩
 have np:∀ (n:Nat) (a:Addr),ρ[n]?=some a -> a ≠ p:=by
  intro n a e z
  subst z
  have hn:n < S.length:=by rw [<- R.len];exact (List.getElem?_eq_some_iff.mp e).1
  have:=R.at n a S[n] e (List.getElem?_eq_getElem hn)
  cases ho:S[n] with
  | lst xs=>rw [ho] at this;obtain ⟨vs,h,_⟩:=this;rw [hp] at h;cases h
  | dct _ | dki _=>rw [ho] at this;obtain ⟨vs,h,_⟩:=this;rw [hp] at h;cases h
  | ins _ _=>rw [ho] at this;obtain ⟨_,_,h⟩:=this;rw [hp] at h;cases h
 have last:(ρ ++ [p])[S.length]?=some p:=by rw [<- R.len];simp
 refine ⟨ex,⟨by simp [R.len],?_,?_⟩,last⟩
 ·rw [List.nodup_append]
  refine ⟨R.nd,by simp,fun a ha b hb e=>?_⟩
  have:b=p:=by simpa using hb
  obtain ⟨n,hn,e'⟩:=List.mem_iff_getElem.mp ha
  exact np n a (by rw [List.getElem?_eq_getElem hn,e']) (e.trans this)
 ·intro n a o h1 h2
  by_cases hn:n < S.length
  ·rw [List.getElem?_append_left (by rw [R.len];exact hn)] at h1
   rw [List.getElem?_append_left hn] at h2
   have:=R.at n a o h1 h2
   cases o with
   | lst ys=>obtain ⟨ws,e,q⟩:=this;exact ⟨ws,by rw [aM (np n a h1)];exact e,q.ext ex⟩
   | dct _ | dki _=>obtain ⟨ws,e,q⟩:=this;exact ⟨ws,by rw [aM (np n a h1)];exact e,q.ext ex⟩
   | ins _ _=>obtain ⟨oo,uu,e⟩:=this;exact ⟨oo,uu,by rw [aM (np n a h1)];exact e⟩
  ·have e:n=S.length:=by
    have:=(List.getElem?_eq_some_iff.mp h2).1
    simp at this
    omega
   subst e
   rw [last] at h1
   cases h1
   simp at h2
   subst h2
   exact ⟨vs,bx,r.ext ex⟩
theorem Rel.im {S:aA} {p:Addr} {u:HO} (R:Rel K ρ H S) (hp:H p=none):Ext ρ ρ H (upd H p u) /\ Rel K ρ (upd H p u) S:=by
 have ex:Ext ρ ρ H (upd H p u):=⟨⟨List.prefix_refl _,fun a u _ h=>by rw [aM (a_ h hp)];exact h⟩,fun a u h _=>by rw [aM (a_ h hp)];exact h,fun _ h=>.inl h⟩
 refine ⟨ex,R.len,R.nd,fun n a o h1 h2=>?_⟩
 have:=R.at n a o h1 h2
 cases o with
 | lst ys=>obtain ⟨ws,e,q⟩:=this;exact ⟨ws,by rw [aM (a_ e hp)];exact e,q.ext ex⟩
 | dct _ | dki _=>obtain ⟨ws,e,q⟩:=this;exact ⟨ws,by rw [aM (a_ e hp)];exact e,q.ext ex⟩
 | ins _ _=>obtain ⟨oo,uu,e⟩:=this;exact ⟨oo,uu,by rw [aM (a_ e hp)];exact e⟩
theorem Rel.put {S:aA} {n:Nat} {a:Addr} {xs ys:List A} {ws:List V} (R:Rel K ρ H S) (ha:ρ[n]?=some a) (hS:S[n]?=some (.lst xs)) (r:AVs K ρ H ys ws):Ext ρ ρ H (upd H a (.lst ws)) /\ Rel K ρ (upd H a (.lst ws)) (S.set n (.lst ys)):=by
 obtain ⟨vs,e,_⟩:=R.at n a _ ha hS
 have ex:Ext ρ ρ H (upd H a (.lst ws)):=⟨⟨List.prefix_refl _,fun b u i h=>by
  have:b ≠ a:=by
   intro z;subst z;rw [e] at h;cases h;exact i
  rw [aM this];exact h⟩,fun b u h n=>by
  rw [aM (fun z=>n (by rw [z];exact List.mem_of_getElem? ha))];exact h,fun _ h=>.inl h⟩
 refine ⟨ex,by rw [List.length_set];exact R.len,R.nd,fun m b o h1 h2=>?_⟩
 by_cases hm:m=n
 ·subst hm
  rw [ha] at h1;cases h1
  rw [List.getElem?_set_self (List.getElem?_eq_some_iff.mp hS).1] at h2
  cases h2
  exact ⟨ws,bx,r.ext ex⟩
 ·rw [List.getElem?_set_ne (Ne.symm hm)] at h2
  have nb:b ≠ a:=fun z=>by
   subst z
   obtain ⟨l1,e1⟩:=List.getElem?_eq_some_iff.mp ha
   obtain ⟨l2,e2⟩:=List.getElem?_eq_some_iff.mp h1
   exact hm ((List.getElem_inj R.nd).mp (e2.trans e1.symm))
  have:=R.at m b o h1 h2
  cases o with
  | lst ys=>obtain ⟨ws',e',q⟩:=this;exact ⟨ws',by rw [aM nb];exact e',q.ext ex⟩
  | dct _ | dki _=>obtain ⟨ws',e',q⟩:=this;exact ⟨ws',by rw [aM nb];exact e',q.ext ex⟩
  | ins _ _=>obtain ⟨oo,uu,e'⟩:=this;exact ⟨oo,uu,by rw [aM nb];exact e'⟩
theorem Rel.lst {S:aA} {n:Nat} {a:Addr} {xs:List A} (R:Rel K ρ H S) (ha:ρ[n]?=some a) (hS:S[n]?=some (.lst xs)):∃ vs,H a=some (.lst vs) /\ AVs K ρ H xs vs:=R.at n a _ ha hS
structure SR (K:PySem.W.Frag) (ρ:List Addr) (H:Hp) (τ:List A) (σ:St):Prop where
 len:τ.length=σ.length
 «at»:∀ (i:Nat) (a:A),τ[i]?=some a -> a=.dY \/ ∃ v,σ[i]?=some (some v) /\ AV K ρ H a v
theorem SR.dR {τ:List A} {σ:St} (s:SR K ρ H τ σ) (e:Ext0 ρ ρ' H H'):SR K ρ' H' τ σ:=⟨s.len,fun i a h=>by
 rcases s.at i a h with z | ⟨v,h1,h2⟩
 ·exact .inl z
 ·exact .inr ⟨v,h1,AV.dR e h2⟩⟩
theorem SR.ext {τ:List A} {σ:St} (s:SR K ρ H τ σ) (e:Ext ρ ρ' H H'):SR K ρ' H' τ σ:=s.dR e.toExt0
theorem Rel.out {S:aA} {D:Addr} {vs ws:List V} (R:Rel K ρ H S) (hD:H D=some (.lst vs)) (hn:D ∉ ρ):Ext0 ρ ρ H (upd H D (.lst ws)) /\ Rel K ρ (upd H D (.lst ws)) S:=by
 have ex:Ext0 ρ ρ H (upd H D (.lst ws)):=⟨List.prefix_refl _,fun b u i h=>by
  have:b ≠ D:=by
   intro z;subst z;rw [hD] at h;cases h;exact i
  rw [aM this];exact h⟩
 refine ⟨ex,R.len,R.nd,fun n a o h1 h2=>?_⟩
 have na:a ≠ D:=fun z=>hn (by rw [<- z];exact List.mem_of_getElem? h1)
 have:=R.at n a o h1 h2
 cases o with
 | lst ys=>obtain ⟨ws',e,q⟩:=this;exact ⟨ws',by rw [aM na];exact e,AVs.dR ex q⟩
 | dct _ | dki _=>obtain ⟨ws',e,q⟩:=this;exact ⟨ws',by rw [aM na];exact e,q.dR ex⟩
 | ins _ _=>obtain ⟨oo,uu,e⟩:=this;exact ⟨oo,uu,by rw [aM na];exact e⟩
theorem Rel.take {S:aA} {D:Addr} {xs:List A} {vs:List V} (R:Rel K ρ H S) (hD:H D=some (.lst vs)) (hn:D ∉ ρ) (r:AVs K ρ H xs vs):Rel K (ρ ++ [D]) H (S ++ [.lst xs]) /\ (ρ ++ [D])[S.length]?=some D:=by
 have ex:Ext0 ρ (ρ ++ [D]) H H:=⟨List.prefix_append _ _,fun _ _ _ h=>h⟩
 have last:(ρ ++ [D])[S.length]?=some D:=by rw [<- R.len];simp
 refine ⟨⟨by simp [R.len],?_,fun n a o h1 h2=>?_⟩,last⟩
 ·rw [List.nodup_append]
  refine ⟨R.nd,by simp,fun a ha b hb e=>?_⟩
  have:b=D:=by simpa using hb
  exact hn (by rw [<- this,<- e];exact ha)
 ·by_cases hs:n < S.length
  ·rw [List.getElem?_append_left (by rw [R.len];exact hs)] at h1
   rw [List.getElem?_append_left hs] at h2
   have:=R.at n a o h1 h2
   cases o with
   | lst ys=>obtain ⟨ws,e,q⟩:=this;exact ⟨ws,e,AVs.dR ex q⟩
   | dct _ | dki _=>obtain ⟨ws,e,q⟩:=this;exact ⟨ws,e,q.dR ex⟩
   | ins _ _=>obtain ⟨oo,uu,e⟩:=this;exact ⟨oo,uu,e⟩
  ·have e:n=S.length:=by
    have:=(List.getElem?_eq_some_iff.mp h2).1
    simp at this
    omega
   subst e
   rw [last] at h1
   cases h1
   simp at h2
   subst h2
   exact ⟨vs,hD,AVs.dR ex r⟩
theorem SR.set {τ:List A} {σ:St} {i:Nat} {a:A} {v:V} (s:SR K ρ H τ σ) (h:AV K ρ H a v):SR K ρ H (τ.set i a) (σ.set i (some v)):=by
 refine ⟨by simp [s.len],fun j b e=>?_⟩
 by_cases hj:j=i
 ·subst hj
  have hl:j < τ.length:=by
   have:=(List.getElem?_eq_some_iff.mp e).1
   simpa using this
  rw [List.getElem?_set_self hl] at e
  cases e
  exact .inr ⟨v,List.getElem?_set_self (by rw [<- s.len];exact hl),h⟩
 ·rw [List.getElem?_set_ne (Ne.symm hj)] at e
  rw [List.getElem?_set_ne (Ne.symm hj)]
  exact s.at j b e
end
end Am
namespace Am
open PySem PySem.Spec PyProof.Rows L2
def XE (X:Cx) (ρ:List Addr) (H:Hp):Str -> aA -> Prop:=fun c S'=>∀ (C:Addr) (ρ':List Addr) (H':Hp),sZ X.K c C -> Ext ρ ρ' H H' -> Rel X.K ρ' H' S' -> EX X (.ref C) none H'
theorem XE.ext {X:Cx} {ρ ρ':List Addr} {H H':Hp} {c:Str} {S:aA} (h:XE X ρ H c S) (e:Ext ρ ρ' H H'):XE X ρ' H' c S:=fun C ρ2 H2 n e2=>h C ρ2 H2 n (e.trans e2)
def kJ (X:Cx) (ρ:List Addr) (H:Hp) (Q:VK):A -> aA -> Prop:=fun a S'=>∀ ρ' H' v,Ext ρ ρ' H H' -> Rel X.K ρ' H' S' -> AV X.K ρ' H' a v -> Q v H'
def Kc (X:Cx) (ρ:List Addr) (H:Hp) (Q:Bool -> Hp -> Prop):Bool -> aA -> Prop:=fun b S'=>∀ ρ' H',Ext ρ ρ' H H' -> Rel X.K ρ' H' S' -> Q b H'
def L_ (X:Cx) (ρ:List Addr) (H:Hp) (Q:List V -> Hp -> Prop):List A -> aA -> Prop:=fun as S'=>∀ ρ' H' vs,Ext ρ ρ' H H' -> Rel X.K ρ' H' S' -> AVs X.K ρ' H' as vs -> Q vs H'
theorem kJ.ext {X:Cx} {ρ ρ':List Addr} {H H':Hp} {Q:VK} {a:A} {S:aA} (h:kJ X ρ H Q a S) (e:Ext ρ ρ' H H'):kJ X ρ' H' Q a S:=fun ρ2 H2 v e2=>h ρ2 H2 v (e.trans e2)
theorem Kc.ext {X:Cx} {ρ ρ':List Addr} {H H':Hp} {Q:Bool -> Hp -> Prop} {a:Bool} {S:aA} (h:Kc X ρ H Q a S) (e:Ext ρ ρ' H H'):Kc X ρ' H' Q a S:=fun ρ2 H2 e2=>h ρ2 H2 (e.trans e2)
theorem aF {α:Type} {X:Cx} {ρ ρ':List Addr} {H H':Hp} {r:R α} {P P':α -> aA -> Prop} (h:r.post P (XE X ρ H)) (e:Ext ρ ρ' H H') (hp:∀ a S,P a S -> P' a S):r.post P' (XE X ρ' H'):=gM h hp fun _ _ z=>z.ext e
def tE (X:Cx) (c:Ex):TE:=fun σ H Q=>∃ ρ S τ,Rel X.K ρ H S /\ SR X.K ρ H τ σ /\ (c τ S).post (kJ X ρ H Q) (XE X ρ H)
def tT (X:Cx) (c:Te):TT:=fun σ H Q=>∃ ρ S τ,Rel X.K ρ H S /\ SR X.K ρ H τ σ /\ (c τ S).post (Kc X ρ H Q) (XE X ρ H)
def tL (X:Cx) (c:gP):TA:=fun σ H Q=>∃ ρ S τ,Rel X.K ρ H S /\ SR X.K ρ H τ σ /\ (c τ S).post (L_ X ρ H Q) (XE X ρ H)
def AE (X:Cx) (e:Expr) (c:Ex):Prop:=PE X e (tE X c)
def AT (X:Cx) (e:Expr) (c:Te):Prop:=PT X e (tT X c)
def AW (X:Cx) (e:Expr) (c:Te):Prop:=PW X e (tT X c)
def AL (X:Cx) (es:List Expr) (c:gP):Prop:=PA X es (tL X c)
theorem PE.imp {X:Cx} {e:Expr} {t t':TE} (h:PE X e t) (i:∀ σ H Q,t' σ H Q -> t σ H Q):PE X e t':=fun pins s σ H Q I q=>h pins s σ H Q I (i σ H Q q)
theorem PT.imp {X:Cx} {e:Expr} {t t':TT} (h:PT X e t) (i:∀ σ H Q,t' σ H Q -> t σ H Q):PT X e t':=fun pins s σ H Q I q=>h pins s σ H Q I (i σ H Q q)
theorem PW.imp {X:Cx} {e:Expr} {t t':TT} (h:PW X e t) (i:∀ σ H Q,t' σ H Q -> t σ H Q):PW X e t':=fun w pins s σ H Q I q=>h w pins s σ H Q I (i σ H Q q)
theorem PA.imp {X:Cx} {e:List Expr} {t t':TA} (h:PA X e t) (i:∀ σ H Q,t' σ H Q -> t σ H Q):PA X e t':=fun p pins s σ H Q I q=>h p pins s σ H Q I (i σ H Q q)
theorem AW.at {X:Cx} {e:Expr} {c:Te} (h:AW X e c):AT X e c:=h _
def A.di:A -> Bool
 | .dY=>true
 | _=>false
def ah (i:Nat):Ex:=fun τ S=>if (τ.getD i .dY).di then .no else .ok (τ.getD i .dY) S
def eC (a:A):Ex:=fun _ S=>.ok a S
section
variable {X:Cx} {pos:Pos} {a b:Expr}
theorem aa (i:Nat) {x:Str} (hN:X.N[i]?=some x:=by rfl) (hv:I0 X.env.scope x:=by first | exact Or.inl rfl | exact Or.inr (Or.inl rfl) | exact Or.inr (Or.inr rfl)) (hd:(x == ("__debug__" : Str))=false:=by decide)
  (hcd:(x == ("__classdict__" : Str))=false:=by decide):AE X (.Name x pos) (ah i):=PE.imp (Hj hN hv hd hcd) fun σ H Q ⟨ρ,S,τ,R,r,h⟩=>by
 unfold ah at h
 cases hi:τ[i]? with
 | none=>
  rw [List.getD_eq_getElem?_getD,hi] at h
  exact h.elim
 | some x=>
  rw [List.getD_eq_getElem?_getD,hi] at h
  rcases r.at i x hi with z | ⟨v,e,q⟩
  ·subst z;exact h.elim
  ·refine ⟨v,e,?_⟩
   cases x <;> first | (exact h ρ H v .refl R q) | exact h.elim
theorem aG {i:Int} {j pos}:AE X (.Constant (.int i) j pos) (eC (.int i)):=PE.imp uG fun σ H Q ⟨ρ,S,τ,R,r,h⟩=>h ρ H _ .refl R (.int i)
theorem nW {i:Bool} {j pos}:AE X (.Constant (.bool i) j pos) (eC (.bl i)):=PE.imp Jt fun σ H Q ⟨ρ,S,τ,R,r,h⟩=>h ρ H _ .refl R (.bl i)
theorem kO {j pos}:AE X (.Constant .none j pos) (eC .non):=PE.imp GG fun σ H Q ⟨ρ,S,τ,R,r,h⟩=>h ρ H _ .refl R .non
theorem iu {x:Str} {j pos}:AE X (.Constant (.str x) j pos) (eC (.str x)):=PE.imp zY fun σ H Q ⟨ρ,S,τ,R,r,h⟩=>h ρ H _ .refl R (.str x)
theorem nT {x:Str} {i:Int} {t:Tok} (hm:X.mg x=some (.int i t)) (hg:Gl X x:=by rfl) (hd:(x == ("__debug__" : Str))=false:=by decide):AE X (.Name x pos) (eC (.int i)):=
 PE.imp (xR (v:=.int i) hg hm ⟨t,rfl⟩ hd) fun σ H Q ⟨ρ,S,τ,R,r,h⟩=>h ρ H _ .refl R (.int i)
def az (f:A -> A -> aA -> R A) (ca cb:Ex):Ex:=fun τ S=>(ca τ S).bind fun a S1=>(cb τ S1).bind fun b S2=>f a b S2
def r2 (X:Cx) (f:A -> A -> aA -> R A):R2:=fun x y H Q=>∃ ρ S a b,Rel X.K ρ H S /\ AV X.K ρ H a x /\ AV X.K ρ H b y /\ (f a b S).post (kJ X ρ H Q) (XE X ρ H)
def r1 (X:Cx) (f:A -> aA -> R A):V -> Hp -> VK -> Prop:=fun x H Q=>∃ ρ S a,Rel X.K ρ H S /\ AV X.K ρ H a x /\ (f a S).post (kJ X ρ H Q) (XE X ρ H)
def rN (X:Cx) (f:List A -> aA -> R A):List V -> Hp -> VK -> Prop:=fun xs H Q=>∃ ρ S as,Rel X.K ρ H S /\ AVs X.K ρ H as xs /\ (f as S).post (kJ X ρ H Q) (XE X ρ H)
theorem eW.imp {f:Value -> Value -> Sem Value} {r r':R2} (h:eW X f r) (i:∀ x y H Q,r' x y H Q -> r x y H Q):eW X f r':=fun pins s σ H x y v u Q I rx ry q=>h pins s σ H x y v u Q I rx ry (i _ _ _ _ q)
theorem bD.imp {f:Value} {r r':List V -> Hp -> VK -> Prop} (h:bD X f r) (i:∀ x H Q,r' x H Q -> r x H Q):bD X f r':=fun pins s σ H x v Q I rx q=>h pins s σ H x v Q I rx (i _ _ _ q)
theorem ku {f:A -> A -> aA -> R A} {ca cb:Ex} {σ:L2.St} {H:Hp} {Q:VK} (h:tE X (az f ca cb) σ H Q):JN (r2 X f) (tE X ca) (tE X cb) σ H Q:=by
 obtain ⟨ρ,S,τ,R,r,h⟩:=h
 refine ⟨ρ,S,τ,R,r,aF (aH h) .refl fun a S1 h1 ρ1 H1 x e1 R1 v1=>⟨ρ1,S1,τ,R1,r.ext e1,aF (aH h1) e1 fun b S2 h2 ρ2 H2 y e2 R2 v2=>?_⟩⟩
 exact ⟨ρ2,S2,a,b,R2,v1.ext e2,v2,aF h2 (e1.trans e2) fun c S3 h3=>h3.ext (e1.trans e2)⟩
theorem aJ {op:Operator} {f:A -> A -> aA -> R A} {ca cb:Ex} (ho:eW X (binaryOp op) (r2 X f)) (ha:AE X a ca) (hb:AE X b cb):AE X (.BinOp a op b pos) (az f ca cb):=
 PE.imp (JC ho ha hb) fun σ H Q h=>ku h
theorem nF {op:CmpOp} {f:A -> A -> aA -> R A} {ca cb:Ex} (ho:eW X (compareOp op) (r2 X f)) (ha:AE X a ca) (hb:AE X b cb) (hm:behindInMarks op b=false:=by first | exact zj _ | with_unfolding_all rfl):AE X (.Compare a [op] [b] pos) (az f ca cb):=
 PE.imp (C5 ho ha hb hm) fun σ H Q h=>ku h
def A.Jf:A -> aA -> Option Bool
 | .non,_=>some false
 | .bl b,_=>some b
 | .int i,_=>some (i != 0)
 | .str x,_=>if x.length <= sizeLine then some ((x.length:Int) != 0) else none
 | .tup xs,_=>some (!xs.isEmpty)
 | .frz xs,_=>some (!xs.isEmpty)
 | .ref n,S=>(ak S n).map fun xs=>!xs.isEmpty
 | _,_=>none
def pG (c:Ex):Te:=fun τ S=>(c τ S).bind fun a S1=>opt (a.Jf S1) fun b=>.ok b S1
def iD (c:Ex):Te:=fun τ S=>(c τ S).bind fun a S1=>match a with
 | .bl b=>.ok b S1
 | _=>.no
theorem qb {K:PySem.W.Frag} {ρ:List Addr} {H:Hp} {b:Bool} {v:V} (h:AV K ρ H (.bl b) v):v=.bl b:=by cases h;rfl
theorem bB {op:CmpOp} {f:A -> A -> aA -> R A} {ca cb:Ex} (ho:eW X (compareOp op) (r2 X f)) (ha:AE X a ca) (hb:AE X b cb) (hm:behindInMarks op b=false:=by first | exact zj _ | with_unfolding_all rfl):AT X (.Compare a [op] [b] pos) (iD (az f ca cb)):=
 PT.imp (Ej ho ha hb hm) fun σ H Q ⟨ρ,S,τ,R,r,h⟩=>by
  refine ku ⟨ρ,S,τ,R,r,aF (aH h) .refl fun c S1 h1 ρ1 H1 x e1 R1 v1=>?_⟩
  cases c with
  | bl k=>cases qb v1;exact ⟨k,rfl,h1 ρ1 H1 e1 R1⟩
  | _=>exact h1.elim
theorem Ib {K:PySem.W.Frag} {ρ:List Addr} {H:Hp} {S:aA} {x:A} {v:V} {b:Bool} (R:Rel K ρ H S) (h:AV K ρ H x v) (e:x.Jf S=some b):Hs K v H b:=by
 have emp:∀ {xs:List A} {vs:List V},AVs K ρ H xs vs -> (!xs.isEmpty)=!vs.isEmpty:=fun r=>by cases r <;> rfl
 cases h with
 | non=>exact (Option.some.inj e).symm
 | bl b=>exact (Option.some.inj e).symm
 | int i=>exact (Option.some.inj e).symm
 | str x=>
  by_cases hx:x.length <= sizeLine
  ·exact ⟨hx,by have:=(if_pos hx).symm.trans e;exact (Option.some.inj this).symm⟩
  ·have:=(if_neg hx).symm.trans e;cases this
 | tup h r=>exact .inr (.inl ⟨_,dg.of h,by rw [<- emp r];exact (Option.some.inj e).symm⟩)
 | frz h r=>exact .inl ⟨_,h.CK,by rw [<- emp r];exact (Option.some.inj e).symm⟩
 | rng h=>cases e
 | ty n=>cases e
 | exn n h x=>cases e
 | @ref a n h=>
  have e:(ak S n).map (fun xs=>!xs.isEmpty)=some b:=e
  obtain ⟨xs,hn,e⟩:=Option.map_eq_some_iff.mp e
  obtain ⟨vs,h1,h2⟩:=R.lst h (aQ hn)
  exact .inl ⟨vs,fF.of h1,by rw [<- emp h2];exact e.symm⟩
theorem iN {ca:Ex} (ha:AE X a ca) (he:∀ whole,isTrue a X.env whole=(do let v <- whole;standAt a.pos;holding [v] (truthy v)):=by intro _;rfl):AT X a (pG ca):=
 PT.imp (AK ha he) fun σ H Q ⟨ρ,S,τ,R,r,h⟩=>⟨ρ,S,τ,R,r,aF (aH h) .refl fun c S1 h1 ρ1 H1 x e1 R1 v1=>by
  obtain ⟨b,hb,h1⟩:=aK h1
  exact ⟨b,Ib R1 v1 hb,h1 ρ1 H1 e1 R1⟩⟩
def qA (c:Te):Te:=fun τ S=>(c τ S).bind fun b S1=>.ok (!b) S1
def Bq (c d:Te):Te:=fun τ S=>(c τ S).bind fun b S1=>match b with | true=>d τ S1 | false=>.ok false S1
def ze (c d:Te):Te:=fun τ S=>(c τ S).bind fun b S1=>match b with | true=>.ok true S1 | false=>d τ S1
theorem jT {c:Te} (h:AT X a c):AT X (.UnaryOp .Not a pos) (qA c):=PT.imp (Gz h) fun σ H Q ⟨ρ,S,τ,R,r,h⟩=>⟨ρ,S,τ,R,r,aF (aH h) .refl fun b S1 h1=>h1⟩
theorem and_imp {c d:Te} {σ:L2.St} {H:Hp} {Q:Bool -> Hp -> Prop} (h:tT X (Bq c d) σ H Q):Jl (tT X c) (tT X d) σ H Q:=by
 obtain ⟨ρ,S,τ,R,r,h⟩:=h
 refine ⟨ρ,S,τ,R,r,aF (aH h) .refl fun b S1 h1 ρ1 H1 e1 R1=>?_⟩
 cases b with
 | true=>
  rw [if_pos rfl]
  exact ⟨ρ1,S1,τ,R1,r.ext e1,aF h1 e1 fun _ _ z=>z.ext e1⟩
 | false=>
  rw [if_neg Bool.false_ne_true]
  exact h1 ρ1 H1 e1 R1
theorem or_imp {c d:Te} {σ:L2.St} {H:Hp} {Q:Bool -> Hp -> Prop} (h:tT X (ze c d) σ H Q):LM (tT X c) (tT X d) σ H Q:=by
 obtain ⟨ρ,S,τ,R,r,h⟩:=h
 refine ⟨ρ,S,τ,R,r,aF (aH h) .refl fun b S1 h1 ρ1 H1 e1 R1=>?_⟩
 cases b with
 | false=>
  rw [if_neg Bool.false_ne_true]
  exact ⟨ρ1,S1,τ,R1,r.ext e1,aF h1 e1 fun _ _ z=>z.ext e1⟩
 | true=>
  rw [if_pos rfl]
  exact h1 ρ1 H1 e1 R1
variable {rest:List Expr}
theorem Eh {c:Te} (h:AT X a c):AW X (.BoolOp .And [a] pos) c:=EA h
theorem k_ {c:Te} (h:AT X a c):AW X (.BoolOp .Or [a] pos) c:=FY h
theorem GZ {c d:Te} (h:AT X a c) (h2:AW X (.BoolOp .And (b :: rest) pos) d):AW X (.BoolOp .And (a :: b :: rest) pos) (Bq c d):=PW.imp (Hw h h2) fun _ _ _ q=>and_imp q
theorem ko {c d:Te} (h:AT X a c) (h2:AW X (.BoolOp .Or (b :: rest) pos) d):AW X (.BoolOp .Or (a :: b :: rest) pos) (ze c d):=PW.imp (J7 h h2) fun _ _ _ q=>or_imp q
def m7 (c d:Ex):Ex:=fun τ S=>(c τ S).bind fun a S1=>match a with | .bl true=>d τ S1 | .bl false=>.ok (.bl false) S1 | _=>.no
def IX (c d:Ex):Ex:=fun τ S=>(c τ S).bind fun a S1=>match a with | .bl true=>.ok (.bl true) S1 | .bl false=>d τ S1 | _=>.no
def yW (c:Ex):Ex:=fun τ S=>(c τ S).bind fun a S1=>match a with | .bl b=>.ok (.bl !b) S1 | _=>.no
theorem nX {op} {c:Ex} (h:AE X a c):AE X (.BoolOp op [a] pos) c:=Gr h
theorem qF {c d:Ex} (h:AE X a c) (h2:AE X (.BoolOp .And (b :: rest) pos) d):AE X (.BoolOp .And (a :: b :: rest) pos) (m7 c d):=PE.imp (GB h h2) fun σ H Q ⟨ρ,S,τ,R,r,h⟩=>by
 refine ⟨ρ,S,τ,R,r,aF (aH h) .refl fun b S1 h1 ρ1 H1 x e1 R1 v1=>?_⟩
 cases b with
 | bl k=>
  cases qb v1
  refine ⟨k,rfl,?_⟩
  cases k with
  | true=>
   rw [if_pos rfl]
   exact ⟨ρ1,S1,τ,R1,r.ext e1,aF h1 e1 fun _ _ z=>z.ext e1⟩
  | false=>
   rw [if_neg Bool.false_ne_true]
   exact h1 ρ1 H1 _ e1 R1 (.bl false)
 | _=>exact h1.elim
theorem EU {c d:Ex} (h:AE X a c) (h2:AE X (.BoolOp .Or (b :: rest) pos) d):AE X (.BoolOp .Or (a :: b :: rest) pos) (IX c d):=PE.imp (JA h h2) fun σ H Q ⟨ρ,S,τ,R,r,h⟩=>by
 refine ⟨ρ,S,τ,R,r,aF (aH h) .refl fun b S1 h1 ρ1 H1 x e1 R1 v1=>?_⟩
 cases b with
 | bl k=>
  cases qb v1
  refine ⟨k,rfl,?_⟩
  cases k with
  | false=>
   rw [if_neg Bool.false_ne_true]
   exact ⟨ρ1,S1,τ,R1,r.ext e1,aF h1 e1 fun _ _ z=>z.ext e1⟩
  | true=>
   rw [if_pos rfl]
   exact h1 ρ1 H1 _ e1 R1 (.bl true)
 | _=>exact h1.elim
theorem BX {c:Ex} (h:AE X a c):AE X (.UnaryOp .Not a pos) (yW c):=PE.imp (F_ h) fun σ H Q ⟨ρ,S,τ,R,r,h⟩=>by
 refine ⟨ρ,S,τ,R,r,aF (aH h) .refl fun b S1 h1 ρ1 H1 x e1 R1 v1=>?_⟩
 cases b with
 | bl k=>
  cases qb v1
  exact ⟨k,rfl,h1 ρ1 H1 _ e1 R1 (.bl _)⟩
 | _=>exact h1.elim
def Mc (t:Te) (c d:Ex):Ex:=fun τ S=>(t τ S).bind fun b S1=>match b with | true=>c τ S1 | false=>d τ S1
def aI:gP:=fun _ S=>.ok [] S
def aj (c:Ex) (d:gP):gP:=fun τ S=>(c τ S).bind fun a S1=>(d τ S1).bind fun as S2=>.ok (a :: as) S2
theorem aq:AL X [] aI:=PA.imp lF fun σ H Q ⟨ρ,S,τ,R,r,h⟩=>h ρ H _ .refl R .nil
theorem af {e:Expr} {es:List Expr} {c:Ex} {d:gP} (ha:AE X e c) (hr:AL X es d) (hs:starEach (e :: es) X.env=(false,eval e X.env) :: starEach es X.env:=by rfl):AL X (e :: es) (aj c d):=
 PA.imp (gu ha hr hs) fun σ H Q ⟨ρ,S,τ,R,r,h⟩=>by
  refine ⟨ρ,S,τ,R,r,aF (aH h) .refl fun a S1 h1 ρ1 H1 x e1 R1 v1=>⟨ρ1,S1,τ,R1,r.ext e1,aF (aH h1) e1 fun as S2 h2 ρ2 H2 xs e2 R2 v2=>?_⟩⟩
  exact h2 ρ2 H2 _ (e1.trans e2) R2 (.cons (v1.ext e2) v2)
def gh (d:gP):Ex:=fun τ S=>(d τ S).bind fun as S1=>gd (as.length <= sizeLine) (.ok (.tup as) S1)
def newL (as:List A) (S:aA):R A:=gd (as.length <= sizeLine) (.ok (.ref S.length) (S ++ [.lst as]))
def fM (d:gP):Ex:=fun τ S=>(d τ S).bind fun as S1=>newL as S1
theorem ig {ρ ρ0:List Addr} {H H0:Hp} {S:aA} {as:List A} {vs:List V} {Q:VK} (R:Rel X.K ρ H S) (r:AVs X.K ρ H as vs) (e:Ext ρ0 ρ H0 H) (h:kJ X ρ0 H0 Q (.tup as) S):∀ p,H p=none -> Q (.ref p) (upd H p (.tup vs)):=fun p hp=>by
 obtain ⟨ex,R'⟩:=R.im (u:=.tup vs) hp
 exact h ρ _ _ (e.trans ex) R' (.tup bx (r.ext ex))
theorem fB {ρ ρ0:List Addr} {H H0:Hp} {S:aA} {as:List A} {vs:List V} {Q:VK} (R:Rel X.K ρ H S) (r:AVs X.K ρ H as vs) (e:Ext ρ0 ρ H0 H) (h:kJ X ρ0 H0 Q (.ref S.length) (S ++ [.lst as])):∀ p,H p=none -> Q (.ref p) (upd H p (.lst vs)):=fun p hp=>by
 obtain ⟨ex,R',g⟩:=R.lay hp r
 exact h _ _ _ (e.trans ex) R' (.ref g)
theorem D_ {ρ ρ0:List Addr} {H H0:Hp} {S:aA} {as:List A} {vs:List V} {Q:VK} (R:Rel X.K ρ H S) (r:AVs X.K ρ H as vs) (e:Ext ρ0 ρ H0 H) (h:(newL as S).post (kJ X ρ0 H0 Q) (XE X ρ0 H0)):vs.length <= sizeLine /\ ∀ p,H p=none -> Q (.ref p) (upd H p (.lst vs)):=by
 obtain ⟨hl,h⟩:=bg h
 exact ⟨by rw [<- r.length];exact hl,fB R r e h⟩
theorem ff {es:List Expr} {d:gP} {x1} (h:AL X es d):AE X (.Tuple es x1 pos) (gh d):=PE.imp (HE h) fun σ H Q ⟨ρ,S,τ,R,r,h⟩=>by
 refine ⟨ρ,S,τ,R,r,aF (aH h) .refl fun as S1 h1 ρ1 H1 xs e1 R1 v1=>?_⟩
 obtain ⟨hl,h1⟩:=bg h1
 exact ⟨by rw [<- v1.length];exact hl,ig R1 v1 e1 h1⟩
theorem cE {es:List Expr} {d:gP} (h:AL X es d):AE X (.List es pos) (fM d):=PE.imp (FU h) fun σ H Q ⟨ρ,S,τ,R,r,h⟩=>
 ⟨ρ,S,τ,R,r,aF (aH h) .refl fun as S1 h1 ρ1 H1 xs e1 R1 v1=>D_ R1 v1 e1 h1⟩
end
end Am
namespace Am
open PySem PySem.Spec PyProof.Rows L2
section
variable {X:Cx} {pos:Pos} {a b:Expr}
def aSub (a b:A) (S:aA):R A:=match a,b with
 | .int i,.int j=>.ok (.int (i - j)) S
 | _,_=>.no
theorem eK:eW X (binaryOp .Sub) (r2 X aSub):=eW.imp GQ fun x y H Q ⟨ρ,S,a,b,R,va,vb,h⟩=>by
 cases va <;> first | exact h.elim | (cases vb <;> first | exact h.elim | exact ⟨_,_,rfl,rfl,h _ _ _ .refl R (.int _)⟩)
def sq (i j:Int):Bool:=(decide (-(2 ^ 64) < i) && decide (i < 2 ^ 64)) || (decide (-(2 ^ 64) < j) && decide (j < 2 ^ 64))
theorem mulOk_of {i j:Int} (h:sq i j=true):DG i j:=by
 unfold sq at h
 simp only [Bool.or_eq_true,Bool.and_eq_true,decide_eq_true_eq] at h
 exact h
def iO (a b:A) (S:aA):R A:=match a,b with
 | .int i,.int j=>gd (sq i j) (.ok (.int (i * j)) S)
 | .ref n,.int k=>opt (ak S n) fun xs=>gd (-(2 ^ 63) <= k /\ k < 2 ^ 63 /\ xs.length * k.toNat <= sizeLine) (.ok (.ref S.length) (S ++ [.lst (List.replicate k.toNat xs).flatten]))
 | _,_=>.no
theorem AVs.rep {K:PySem.W.Frag} {ρ:List Addr} {H:Hp} {xs:List A} {vs:List V} (r:AVs K ρ H xs vs):∀ k:Nat,AVs K ρ H (List.replicate k xs).flatten (List.replicate k vs).flatten
 | 0=>.nil
 | k + 1=>by rw [List.replicate_succ,List.replicate_succ,List.flatten_cons,List.flatten_cons];exact r.append (AVs.rep r k)
theorem pQ:eW X (binaryOp .Mult) (r2 X iO):=fun pins s σ H x y v u Q I rx ry ⟨ρ,S,a,b,R,va,vb,h⟩=>by
 cases va with
 | int i=>
  cases vb with
  | int j=>
   obtain ⟨hm,h⟩:=bg h
   exact GA pins s σ H _ _ v u Q I rx ry ⟨i,j,rfl,rfl,mulOk_of hm,h _ _ _ .refl R (.int _)⟩
  | _=>exact h.elim
 | @ref p n hp=>
  cases vb with
  | int k=>
   obtain ⟨xs,hn,h⟩:=aK h
   obtain ⟨hc,h⟩:=bg h
   obtain ⟨vs,h1,h2⟩:=R.lst hp (aQ hn)
   exact HM pins s σ H _ _ v u Q I rx ry ⟨p,k,vs,rfl,rfl,h1,hc.1,hc.2.1,by rw [<- h2.length];exact hc.2.2,fB R (h2.rep _) .refl h⟩
  | _=>exact h.elim
 | _=>exact h.elim
def tF (a b:A) (S:aA):R A:=match a,b with
 | .int i,.int j=>gd (0 < j /\ j < 18446744073709551616) (.ok (.int (i / j)) S)
 | _,_=>.no
theorem u9:eW X (binaryOp .FloorDiv) (r2 X tF):=eW.imp zZ fun x y H Q ⟨ρ,S,a,b,R,va,vb,h⟩=>by
 cases va <;> first | exact h.elim | (cases vb <;> first | exact h.elim | exact ⟨_,_,rfl,rfl,(bg h).1,(bg h).2 _ _ _ .refl R (.int _)⟩)
def mK (a b:A) (S:aA):R A:=match a,b with
 | .int i,.int j=>gd (0 < j) (.ok (.int (i % j)) S)
 | _,_=>.no
theorem qg:eW X (binaryOp .Mod) (r2 X mK):=eW.imp FT fun x y H Q ⟨ρ,S,a,b,R,va,vb,h⟩=>by
 cases va <;> first | exact h.elim | (cases vb <;> first | exact h.elim | exact ⟨_,_,rfl,rfl,(bg h).1,(bg h).2 _ _ _ .refl R (.int _)⟩)
def Dm (a b:A) (S:aA):R A:=match a,b with
 | .int i,.int j=>gd (0 <= j /\ j <= 1000000 /\ i.natAbs < 2 ^ 64) (.ok (.int (i ^ j.toNat)) S)
 | _,_=>.no
theorem IY:eW X (binaryOp .Pow) (r2 X Dm):=eW.imp FQ fun x y H Q ⟨ρ,S,a,b,R,va,vb,h⟩=>by
 cases va <;> first | exact h.elim | (cases vb <;> first | exact h.elim | exact ⟨_,_,rfl,rfl,(bg h).1,(bg h).2 _ _ _ .refl R (.int _)⟩)
def aZ (a b:A) (S:aA):R A:=match a,b with
 | .int i,.int j=>.ok (.int (i + j)) S
 | .tup xs,.tup ys=>gd (xs.length + ys.length <= sizeLine) (.ok (.tup (xs ++ ys)) S)
 | .str x,.str y=>gd (x.length + y.length <= sizeLine) (.ok (.str (x ++ y)) S)
 | .ref n,.ref m=>opt (ak S n) fun xs=>opt (ak S m) fun ys=>gd (xs.length + ys.length <= sizeLine) (.ok (.ref S.length) (S ++ [.lst (xs ++ ys)]))
 | _,_=>.no
theorem AVs.nil_inv {K:PySem.W.Frag} {ρ:List Addr} {H:Hp} {xs:List A} {vs:List V} (r:AVs K ρ H xs vs):xs=[] ↔ vs=[]:=by cases r <;> simp
theorem bu:eW X (binaryOp .Add) (r2 X aZ):=fun pins s σ H x y v u Q I rx ry ⟨ρ,S,a,b,R,va,vb,h⟩=>by
 cases va with
 | int i=>
  cases vb with
  | int j=>exact Gf pins s σ H _ _ v u Q I rx ry ⟨i,j,rfl,rfl,h _ _ _ .refl R (.int _)⟩
  | _=>exact h.elim
 | str x=>
  cases vb with
  | str y=>
   obtain ⟨hc,h⟩:=bg h
   exact uB pins s σ H _ _ v u Q I rx ry ⟨x,y,rfl,rfl,hc,h _ _ _ .refl R (.str _)⟩
  | _=>exact h.elim
 | @tup p xs vs h1 r1=>
  cases vb with
  | @tup q ys ws h2 r2=>
   obtain ⟨hc,h⟩:=bg h
   by_cases hv:vs=[]
   ·have hx:=r1.nil_inv.mpr hv
    subst hv hx
    exact Ah pins s σ H _ _ v u Q I rx ry ⟨p,q,ws,rfl,rfl,dg.of h1,dg.of h2,h _ _ _ .refl R (.tup h2 r2)⟩
   ·refine El pins s σ H _ _ v u Q I rx ry ⟨p,q,vs,ws,rfl,rfl,dg.of h1,dg.of h2,hv,by rw [<- r1.length,<- r2.length];exact hc,fun e=>?_,fun _=>ig R (r1.append r2) .refl h⟩
    have hy:=r2.nil_inv.mpr e
    subst hy
    rw [List.append_nil] at h
    exact h _ _ _ .refl R (.tup h1 r1)
  | _=>exact h.elim
 | @ref p n hp=>
  cases vb with
  | @ref q m hq=>
   obtain ⟨xs,hn,h⟩:=aK h
   obtain ⟨ys,hm,h⟩:=aK h
   obtain ⟨hc,h⟩:=bg h
   obtain ⟨vs,h1,h2⟩:=R.lst hp (aQ hn)
   obtain ⟨ws,h3,h4⟩:=R.lst hq (aQ hm)
   exact Ih pins s σ H _ _ v u Q I rx ry ⟨p,q,vs,ws,rfl,rfl,h1,h3,by rw [<- h2.length,<- h4.length];exact hc,fB R (h2.append h4) .refl h⟩
  | _=>exact h.elim
 | _=>exact h.elim
def A.ints:List A -> Option (List Int)
 | []=>some []
 | .int i :: xs=>(A.ints xs).map (i :: ·)
 | _=>none
theorem g7 {K:PySem.W.Frag} {ρ:List Addr} {H:Hp}:∀ {xs:List A} {vs:List V} {bs:List Int},AVs K ρ H xs vs -> A.ints xs=some bs -> vs=bs.map V.int
 | _,_,_,.nil,e=>by cases e;rfl
 | _,_,_,.cons (x:=.int b) h t,e=>by
  obtain ⟨cs,e1,rfl⟩:=Option.map_eq_some_iff.mp e
  cases h
  rw [g7 t e1];rfl
 | _,_,_,.cons (x:=.dY) h t,e=>nomatch e
 | _,_,_,.cons (x:=.non) h t,e=>nomatch e
 | _,_,_,.cons (x:=.bl _) h t,e=>nomatch e
 | _,_,_,.cons (x:=.str _) h t,e=>nomatch e
 | _,_,_,.cons (x:=.tup _) h t,e=>nomatch e
 | _,_,_,.cons (x:=.frz _) h t,e=>nomatch e
 | _,_,_,.cons (x:=.rng _ _) h t,e=>nomatch e
 | _,_,_,.cons (x:=.ref _) h t,e=>nomatch e
 | _,_,_,.cons (x:=.exn _) h t,e=>nomatch e
 | _,_,_,.cons (x:=.ty _) h t,e=>nomatch e
def sD (a b:A) (S:aA):R A:=match a,b with
 | .int i,.int j=>.ok (.bl (decide (i < j))) S
 | .tup xs,.tup ys=>opt (A.ints xs) fun ns=>opt (A.ints ys) fun ms=>.ok (.bl (HT.lexLt ns ms)) S
 | _,_=>.no
theorem yi (hu:X.A.units + 64 < cLine):eW X (compareOp .Lt) (r2 X sD):=fun pins s σ H x y v u Q I rx ry ⟨ρ,S,a,b,R,va,vb,h⟩=>by
 cases va with
 | int i=>
  cases vb with
  | int j=>exact Jx pins s σ H _ _ v u Q I rx ry ⟨i,j,rfl,rfl,h _ _ _ .refl R (.bl _)⟩
  | _=>exact h.elim
 | tup hx rx'=>
  cases vb with
  | tup hy ry'=>
   obtain ⟨ns,e1,h⟩:=aK h
   obtain ⟨ms,e2,h⟩:=aK h
   have z1:=g7 rx' e1
   have z2:=g7 ry' e2
   subst z1 z2
   exact Gs (by omega) pins s σ H _ _ v u Q I rx ry ⟨_,_,ns,ms,rfl,rfl,dg.of hx,dg.of hy,h _ _ _ .refl R (.bl _)⟩
  | _=>exact h.elim
 | _=>exact h.elim
def JS (a b:A) (S:aA):R A:=match a,b with
 | .int i,.int j=>.ok (.bl (decide (i <= j))) S
 | _,_=>.no
theorem KY:eW X (compareOp .LtE) (r2 X JS):=eW.imp Jq fun x y H Q ⟨ρ,S,a,b,R,va,vb,h⟩=>by
 cases va <;> first | exact h.elim | (cases vb <;> first | exact h.elim | exact ⟨_,_,rfl,rfl,h _ _ _ .refl R (.bl _)⟩)
def rG (a b:A) (S:aA):R A:=match a,b with
 | .int i,.int j=>.ok (.bl (decide (j < i))) S
 | .ref n,.ref m=>opt (ak S n) fun xs=>opt (ak S m) fun ys=>opt (A.ints xs) fun ns=>opt (A.ints ys) fun ms=>.ok (.bl (HT.lexLt ms ns)) S
 | _,_=>.no
theorem ni (hu:X.A.units + 64 < cLine):eW X (compareOp .Gt) (r2 X rG):=fun pins s σ H x y v u Q I rx ry ⟨ρ,S,a,b,R,va,vb,h⟩=>by
 cases va with
 | int i=>
  cases vb with
  | int j=>exact JJ pins s σ H _ _ v u Q I rx ry ⟨i,j,rfl,rfl,h _ _ _ .refl R (.bl _)⟩
  | _=>exact h.elim
 | @ref p n hp=>
  cases vb with
  | @ref q m hq=>
   obtain ⟨xs,hn,h⟩:=aK h
   obtain ⟨ys,hm,h⟩:=aK h
   obtain ⟨ns,e1,h⟩:=aK h
   obtain ⟨ms,e2,h⟩:=aK h
   obtain ⟨vs,h1,h2⟩:=R.lst hp (aQ hn)
   obtain ⟨ws,h3,h4⟩:=R.lst hq (aQ hm)
   have z1:=g7 h2 e1
   have z2:=g7 h4 e2
   subst z1 z2
   exact HJ (by omega) pins s σ H _ _ v u Q I rx ry ⟨p,q,ns,ms,rfl,rfl,fF.of h1,fF.of h3,h _ _ _ .refl R (.bl _)⟩
  | _=>exact h.elim
 | _=>exact h.elim
def J9 (a b:A) (S:aA):R A:=match a,b with
 | .int i,.int j=>.ok (.bl (decide (j <= i))) S
 | _,_=>.no
theorem KS:eW X (compareOp .GtE) (r2 X J9):=eW.imp JU fun x y H Q ⟨ρ,S,a,b,R,va,vb,h⟩=>by
 cases va <;> first | exact h.elim | (cases vb <;> first | exact h.elim | exact ⟨_,_,rfl,rfl,h _ _ _ .refl R (.bl _)⟩)
def AH (neg:Bool) (a b:A) (S:aA):R A:=match a,b with
 | .bl i,.bl j=>.ok (.bl (if neg then i != j else i == j)) S
 | .non,.non=>.ok (.bl (!neg)) S
 | .dY,.non=>.no
 | .exn _,.non=>.no
 | _,.non=>.ok (.bl neg) S
 | _,_=>.no
theorem DR:eW X (compareOp .IsNot) (r2 X (AH true)):=fun pins s σ H x y v u Q I rx ry ⟨ρ,S,a,b,R,va,vb,h⟩=>by
 cases vb with
 | non=>
  refine DM pins s σ H _ _ v u Q I rx ry ⟨rfl,?_⟩
  cases va <;> first | exact h _ _ _ .refl R (.bl _) | exact h.elim
 | bl j=>
  cases va with
  | bl i=>exact yl pins s σ H _ _ v u Q I rx ry ⟨i,j,rfl,rfl,h _ _ _ .refl R (.bl _)⟩
  | _=>exact h.elim
 | _=>cases va <;> exact h.elim
def F0 (f:A -> aA -> R A) (c:Ex):Ex:=fun τ S=>(c τ S).bind fun a S1=>f a S1
def DJ (a:A) (S:aA):R A:=match a with
 | .int i=>.ok (.int (-i)) S
 | _=>.no
theorem IG:Km X (unaryOp .USub) (r1 X DJ):=fun pins s σ H x v Q I rx ⟨ρ,S,a,R,va,h⟩=>by
 cases va with
 | int i=>exact uQ pins s σ H _ v Q I rx ⟨i,rfl,h _ _ _ .refl R (.int _)⟩
 | _=>exact h.elim
theorem Hu {f:A -> aA -> R A} {c:Ex} {σ:L2.St} {H:Hp} {Q:VK} (h:tE X (F0 f c) σ H Q):LK (r1 X f) (tE X c) σ H Q:=by
 obtain ⟨ρ,S,τ,R,r,h⟩:=h
 exact ⟨ρ,S,τ,R,r,aF (aH h) .refl fun a S1 h1 ρ1 H1 x e1 R1 v1=>⟨ρ1,S1,a,R1,v1,aF h1 e1 fun c S3 h3=>h3.ext e1⟩⟩
theorem Ge {c:Ex} (h:AE X a c):AE X (.UnaryOp .USub a pos) (F0 DJ c):=PE.imp (B5 IG h) fun _ _ _ q=>Hu q
def dP (a b:A) (S:aA):R A:=match a,b with
 | .tup xs,.int i=>opt (eV xs i) fun x=>.ok x S
 | .frz xs,.int i=>opt (eV xs i) fun x=>.ok x S
 | .ref n,.int i=>opt (ak S n) fun xs=>opt (eV xs i) fun x=>.ok x S
 | .str z,.int i=>gd (z.length <= sizeLine) (opt (eV z.cps.toList i) fun c=>.ok (.str ⟨#[c]⟩) S)
 | _,_=>.no
theorem AVs.eV {K:PySem.W.Frag} {ρ:List Addr} {H:Hp} {xs:List A} {vs:List V} {i:Int} {x:A} (r:AVs K ρ H xs vs) (h:L2.eV xs i=some x):∃ v,L2.eV vs i=some v /\ AV K ρ H x v:=by
 unfold L2.eV at h ⊢
 rw [<- r.length]
 cases hj:o4 xs.length i with
 | none=>rw [hj] at h;cases h
 | some j=>
  rw [hj] at h
  exact r.get h
theorem IM:Gv X (r2 X dP):=fun value slice pins s σ H x y v u Q I rx ry ⟨ρ,S,a,b,R,va,vb,h⟩ hs=>by
 cases va with
 | @tup p xs vs h1 r1=>
  cases vb with
  | int i=>
   obtain ⟨x,hx,h⟩:=aK h
   obtain ⟨z,e,q⟩:=r1.eV hx
   exact HV value slice pins s σ H _ _ v u Q I rx ry ⟨p,vs,i,z,rfl,rfl,dg.of h1,e,h _ _ _ .refl R q⟩ hs
  | _=>exact h.elim
 | @frz p xs vs h1 r1=>
  cases vb with
  | int i=>
   obtain ⟨x,hx,h⟩:=aK h
   obtain ⟨z,e,q⟩:=r1.eV hx
   exact v9 value slice pins s σ H _ _ v u Q I rx ry ⟨p,vs,i,z,rfl,rfl,h1.CK,e,h _ _ _ .refl R q⟩ hs
  | _=>exact h.elim
 | @ref p n hp=>
  cases vb with
  | int i=>
   obtain ⟨xs,hn,h⟩:=aK h
   obtain ⟨x,hx,h⟩:=aK h
   obtain ⟨vs,h1,r1⟩:=R.lst hp (aQ hn)
   obtain ⟨z,e,q⟩:=r1.eV hx
   exact v9 value slice pins s σ H _ _ v u Q I rx ry ⟨p,vs,i,z,rfl,rfl,fF.of h1,e,h _ _ _ .refl R q⟩ hs
  | _=>exact h.elim
 | str z=>
  cases vb with
  | int i=>
   obtain ⟨hz,h⟩:=bg h
   obtain ⟨c,hc,h⟩:=aK h
   exact HS value slice pins s σ H _ _ v u Q I rx ry ⟨z,i,c,rfl,rfl,hz,hc,h _ _ _ .refl R (.str _)⟩ hs
  | _=>exact h.elim
 | _=>exact h.elim
theorem bz {ca cb:Ex} (ha:AE X a ca) (hb:AE X b cb) (hs:rD b:=by exact fun _ _=>rfl):AE X (.Subscript a b pos) (az dP ca cb):=PE.imp (Ff IM ha hb hs) fun σ H Q h=>ku h
end
end Am
namespace Am
open PySem PySem.Spec PyProof.Rows L2
def h_ (f:A -> A -> Option Bool):List A -> List A -> Option Bool
 | [],[]=>some true
 | x :: xs,y :: ys=>(f x y).bind fun p=>(h_ f xs ys).map fun q=>p && q
 | _,_=>some false
def lZ (S:aA):Nat -> A -> A -> Option Bool
 | 0,_,_=>none
 | n + 1,a,b=>match a,b with
  | .non,.non=>some true
  | .bl x,.bl y=>some (x == y)
  | .bl x,.int y=>some ((if x then 1 else 0) == y)
  | .int x,.bl y=>some (x == (if y then 1 else 0))
  | .int x,.int y=>some (x == y)
  | .str x,.str y=>some (x == y)
  | .non,.bl _=>some false
  | .non,.int _=>some false
  | .non,.str _=>some false
  | .bl _,.non=>some false
  | .bl _,.str _=>some false
  | .int _,.non=>some false
  | .int _,.str _=>some false
  | .str _,.non=>some false
  | .str _,.bl _=>some false
  | .str _,.int _=>some false
  | .tup xs,.tup ys=>h_ (lZ S n) xs ys
  | .ref i,.ref j=>(ak S i).bind fun xs=>(ak S j).bind fun ys=>h_ (lZ S n) xs ys
  | .ref i,.tup _=>(ak S i).map fun _=>false
  | .tup _,.ref j=>(ak S j).map fun _=>false
  | .ref i,.non=>(ak S i).map fun _=>false
  | .ref i,.int _=>(ak S i).map fun _=>false
  | .ref i,.bl _=>(ak S i).map fun _=>false
  | .ref i,.str _=>(ak S i).map fun _=>false
  | .non,.ref i=>(ak S i).map fun _=>false
  | .int _,.ref i=>(ak S i).map fun _=>false
  | .bl _,.ref i=>(ak S i).map fun _=>false
  | .str _,.ref i=>(ak S i).map fun _=>false
  | .tup _,.non=>some false
  | .tup _,.int _=>some false
  | .tup _,.bl _=>some false
  | .tup _,.str _=>some false
  | .non,.tup _=>some false
  | .int _,.tup _=>some false
  | .bl _,.tup _=>some false
  | .str _,.tup _=>some false
  | _,_=>none
section
variable {X:Cx} {pins:List (Addr × Obj)} {σ:L2.St} {H:Hp} {s:Shared} {ρ:List Addr} {S:aA}
theorem vP {a:Addr} {vs ws:List V} (I:Inv X pins σ H s) (h:dg X.K H a vs) (h':H a=some (.lst ws)):False:=by
 rcases h with (h | ⟨o,h⟩) | ⟨o,its,n,hk,_⟩
 ·rw [h] at h';cases h'
 ·rw [h] at h';cases h'
 ·rw [(I.bs a o (I.mod.kin a o hk)).2] at h';cases h'
theorem oQ {f:A -> A -> Option Bool} (hf:∀ a b x k,AV X.K ρ H a x -> AV X.K ρ H b x -> f a b=some k -> k=true):∀ {xs ys:List A} {vs:List V} {k:Bool},AVs X.K ρ H xs vs -> AVs X.K ρ H ys vs -> h_ f xs ys=some k -> k=true
 | _,_,_,_,.nil,.nil,h=>(Option.some.inj h).symm
 | _,_,_,_,.cons (x:=x) h t,.cons (x:=y) h' t',e=>by
  unfold h_ at e
  cases e1:f x y with
  | none=>rw [e1] at e;cases e
  | some p=>
   rw [e1] at e
   obtain ⟨q,e2,e3⟩:=Option.map_eq_some_iff.mp e
   rw [<- e3,hf _ _ _ p h h' e1,oQ hf t t' e2];rfl
theorem qH (I:Inv X pins σ H s) (R:Rel X.K ρ H S):∀ (n:Nat) (a b:A) (x:V) (k:Bool),AV X.K ρ H a x -> AV X.K ρ H b x -> lZ S n a b=some k -> k=true
 | 0,_,_,_,_,_,_,e=>nomatch e
 | n + 1,a,b,x,k,ha,hb,e=>by
  cases ha with
  | non=>cases hb;exact (Option.some.inj e).symm
  | bl i=>cases hb;exact (Option.some.inj e).symm.trans (beq_self_eq_true i)
  | int i=>cases hb;exact (Option.some.inj e).symm.trans (beq_self_eq_true i)
  | str i=>cases hb;exact (Option.some.inj e).symm.trans (beq_self_eq_true i)
  | ty i=>cases hb;cases e
  | @tup p xs vs h1 r1=>
   cases hb with
   | @tup _ ys ws h2 r2=>
    have:=I.pV (dg.of h1) (dg.of h2)
    subst this
    exact oQ (qH I R n) r1 r2 e
   | frz _ _=>cases e
   | rng _=>cases e
   | exn _ _ _=>cases e
   | @ref _ m h2=>
    obtain ⟨ys,e1,_⟩:=Option.map_eq_some_iff.mp e
    obtain ⟨vs',h3,_⟩:=R.lst h2 (aQ e1)
    exact (vP I (dg.of h1) h3).elim
  | frz h1 r1=>cases hb <;> cases e
  | rng h1=>cases hb <;> cases e
  | exn n1 h1 x1=>cases hb <;> cases e
  | @ref p i h1=>
   cases hb with
   | @tup _ ys ws h2 r2=>
    obtain ⟨ys,e1,_⟩:=Option.map_eq_some_iff.mp e
    obtain ⟨vs',h3,_⟩:=R.lst h1 (aQ e1)
    exact (vP I (dg.of h2) h3).elim
   | frz _ _=>cases e
   | rng _=>cases e
   | exn _ _ _=>cases e
   | @ref _ m h2=>
    obtain ⟨xs,e1,e⟩:=Option.bind_eq_some_iff.mp e
    obtain ⟨ys,e2,e⟩:=Option.bind_eq_some_iff.mp e
    obtain ⟨vs,h3,r1⟩:=R.lst h1 (aQ e1)
    obtain ⟨ws,h4,r2⟩:=R.lst h2 (aQ e2)
    rw [h3] at h4
    cases h4
    exact oQ (qH I R n) r1 r2 e
def pB (f:A -> A -> Option Bool) (xs ys:List A) (j:Nat):Bool:=match xs[j]?,ys[j]? with
 | some x,some y=>(f x y).getD true
 | _,_=>true
theorem jf {f:A -> A -> Option Bool}:∀ {xs ys:List A} {k:Bool},h_ f xs ys=some k -> k=((List.range (min xs.length ys.length)).all (pB f xs ys) && xs.length == ys.length) /\ ∀ j x y,xs[j]?=some x -> ys[j]?=some y -> f x y=some (pB f xs ys j)
 | [],[],k,e=>⟨(Option.some.inj e).symm,fun j x y h=>by simp at h⟩
 | [],_ :: _,k,e=>⟨(Option.some.inj e).symm,fun j x y h=>by simp at h⟩
 | _ :: _,[],k,e=>⟨(Option.some.inj e).symm,fun j x y _ h=>by simp at h⟩
 | x :: xs,y :: ys,k,e=>by
  unfold h_ at e
  cases e1:f x y with
  | none=>rw [e1] at e;cases e
  | some p=>
   rw [e1] at e
   obtain ⟨q,e2,e3⟩:=Option.map_eq_some_iff.mp e
   obtain ⟨h1,h2⟩:=jf e2
   have p0:pB f (x :: xs) (y :: ys) 0=p:=by simp [pB,e1]
   have ps:∀ j,pB f (x :: xs) (y :: ys) (j + 1)=pB f xs ys j:=fun j=>by simp [pB]
   refine ⟨?_,fun j a b ha hb=>?_⟩
   ·rw [<- e3,h1,List.length_cons,List.length_cons,Nat.succ_min_succ,List.range_succ_eq_map,List.all_cons,List.all_map,p0]
    have:(pB f (x :: xs) (y :: ys) ∘ Nat.succ)=pB f xs ys:=funext ps
    rw [this,Bool.and_assoc]
    simp
   ·cases j with
    | zero=>
     simp at ha hb
     subst ha hb
     rw [p0];exact e1
    | succ j=>rw [ps];exact h2 j a b (by simpa using ha) (by simpa using hb)
theorem mL {f:A -> A -> Option Bool} {B:Around} (hf:∀ a b x y u v k,AV X.K ρ H a x -> AV X.K ρ H b y -> RelV x u -> RelV y v -> f a b=some k -> SeqAt.EqAt B s u v k) {xs ys:List A} {vs ws:List V} {us ts:List Value} {k:Bool}
  (r1:AVs X.K ρ H xs vs) (r2:AVs X.K ρ H ys ws) (q1:Vals vs us) (q2:Vals ws ts) (e:h_ f xs ys=some k):∀ j (h1:j < us.toArray.size) (h2:j < ts.toArray.size),SeqAt.EqAt B s us.toArray[j] ts.toArray[j] (pB f xs ys j):=by
 intro j h1 h2
 have l1:=r1.length
 have l2:=r2.length
 have l3:=q1.length
 have l4:=q2.length
 have hx:j < xs.length:=by simp at h1;omega
 have hy:j < ys.length:=by simp at h2;omega
 have e1:xs[j]?=some xs[j]:=List.getElem?_eq_getElem hx
 have e2:ys[j]?=some ys[j]:=List.getElem?_eq_getElem hy
 obtain ⟨x,ex,ax⟩:=r1.get e1
 obtain ⟨y,ey,ay⟩:=r2.get e2
 obtain ⟨u,eu,ru⟩:=q1.get ex
 obtain ⟨t,et,rt⟩:=q2.get ey
 have a1:us.toArray[j]=u:=by
  have:us[j]?=some us.toArray[j]:=by simp at h1;simp [h1]
  rw [eu] at this;exact (Option.some.inj this).symm
 have a2:ts.toArray[j]=t:=by
  have:ts[j]?=some ts.toArray[j]:=by simp at h2;simp [h2]
  rw [et] at this;exact (Option.some.inj this).symm
 rw [a1,a2]
 exact hf _ _ x y u t _ ax ay ru rt ((jf e).2 j _ _ e1 e2)
theorem in1_units (B:Around):B.in1.units=B.units + 1:=rfl
theorem tQ (I:Inv X pins σ H s) (R:Rel X.K ρ H S):∀ (n:Nat) (B:Around) (a b:A) (x y:V) (u v:Value) (k:Bool),B.units + n < cLine -> AV X.K ρ H a x -> AV X.K ρ H b y -> RelV x u -> RelV y v -> lZ S n a b=some k -> SeqAt.RcAt B s u v k /\ SeqAt.EqAt B s u v k
 | 0,_,_,_,_,_,_,_,_,_,_,_,_,_,e=>nomatch e
 | n + 1,B,a,b,x,y,u,v,k,hu,ha,hb,rx,ry,e=>by
  have hu0:B.units < cLine:=by omega
  have items:∀ a b x y u v k,AV X.K ρ H a x -> AV X.K ρ H b y -> RelV x u -> RelV y v -> lZ S n a b=some k -> SeqAt.EqAt B.in1 s u v k:=fun a b x y u v k h1 h2 h3 h4 h5=>(tQ I R n B.in1 a b x y u v k (by rw [in1_units];omega) h1 h2 h3 h4 h5).2
  have refs:∀ {p q:Addr} {k:Bool},AV X.K ρ H a (.ref p) -> AV X.K ρ H b (.ref q) -> lZ S (n + 1) a b=some k -> SeqAt.RcAt B s (.ref p) (.ref q) k -> SeqAt.RcAt B s (.ref p) (.ref q) k /\ SeqAt.EqAt B s (.ref p) (.ref q) k:=by
   intro p q k h1 h2 e h
   refine ⟨h,?_⟩
   by_cases hp:p=q
   ·subst hp
    have:=qH I R (n + 1) a b _ k h1 h2 e
    subst this
    exact .same _
   ·exact .of_refs hp h
  have tl:∀ {p:Addr} {xs:List A} {vs:List V},dg X.K H p vs -> AVs X.K ρ H xs vs -> ∃ us:List Value,Vals vs us /\ s.heap.IsTuple p us.toArray:=fun h1 r1=>by
   obtain ⟨us,q,p,_⟩:=I.tuple h1
   exact ⟨us,q,p⟩
  have ll:∀ {p:Addr} {i:Nat} {xs:List A},ρ[i]?=some p -> ak S i=some xs -> ∃ (vs:List V) (us:List Value),AVs X.K ρ H xs vs /\ Vals vs us /\ s.heap.IsList p us.toArray:=fun h1 e1=>by
   obtain ⟨vs,h3,r1⟩:=R.lst h1 (aQ e1)
   obtain ⟨us,q,p,_⟩:=I.list (fF.of h3)
   exact ⟨vs,us,r1,q,p.isList⟩
  cases ha with
  | non=>
   obtain rfl:u=Value.none:=rx
   cases hb with
   | non=>obtain rfl:v=Value.none:=ry;cases Option.some.inj e;exact ⟨.none_none,.same _⟩
   | bl j=>obtain rfl:v=Value.bool j:=ry;cases Option.some.inj e;exact ⟨.none_bool _,.none_bool _⟩
   | int j=>obtain ⟨t,rfl⟩:∃ t,v=Value.int j t:=ry;cases Option.some.inj e;exact ⟨.none_int _ _,.none_int _ _⟩
   | str j=>obtain ⟨t,rfl⟩:∃ t,v=Value.str j t:=ry;cases Option.some.inj e;exact ⟨.none_str _ _,.none_str _ _⟩
   | tup h2 r2=>obtain ⟨us,_,p⟩:=tl (dg.of h2) r2;cases (show v=Value.ref _ from ry);cases Option.some.inj e;exact ⟨.none_tuple p hu0,.none_tuple p hu0⟩
   | ref h2=>obtain ⟨xs,e1,e2⟩:=Option.map_eq_some_iff.mp e;obtain ⟨_,us,_,_,p⟩:=ll h2 e1;cases (show v=Value.ref _ from ry);cases e2;exact ⟨.none_list p hu0,.none_list p hu0⟩
   | _=>cases e
  | bl i=>
   obtain rfl:u=Value.bool i:=rx
   cases hb with
   | non=>obtain rfl:v=Value.none:=ry;cases Option.some.inj e;exact ⟨.bool_none _,.bool_none _⟩
   | bl j=>obtain rfl:v=Value.bool j:=ry;cases Option.some.inj e;exact ⟨.bool_bool _ _,.bool_bool _ _⟩
   | int j=>obtain ⟨t,rfl⟩:∃ t,v=Value.int j t:=ry;cases Option.some.inj e;exact ⟨.bool_int _ _ _,.bool_int _ _ _⟩
   | str j=>obtain ⟨t,rfl⟩:∃ t,v=Value.str j t:=ry;cases Option.some.inj e;exact ⟨.bool_str _ _ _,.bool_str _ _ _⟩
   | tup h2 r2=>obtain ⟨us,_,p⟩:=tl (dg.of h2) r2;cases (show v=Value.ref _ from ry);cases Option.some.inj e;exact ⟨.bool_tuple _ p hu0,.bool_tuple _ p hu0⟩
   | ref h2=>obtain ⟨xs,e1,e2⟩:=Option.map_eq_some_iff.mp e;obtain ⟨_,us,_,_,p⟩:=ll h2 e1;cases (show v=Value.ref _ from ry);cases e2;exact ⟨.bool_list _ p hu0,.bool_list _ p hu0⟩
   | _=>cases e
  | int i=>
   obtain ⟨t0,rfl⟩:∃ t,u=Value.int i t:=rx
   cases hb with
   | non=>obtain rfl:v=Value.none:=ry;cases Option.some.inj e;exact ⟨.int_none _ _,.int_none _ _⟩
   | bl j=>obtain rfl:v=Value.bool j:=ry;cases Option.some.inj e;exact ⟨.int_bool _ _ _,.int_bool _ _ _⟩
   | int j=>obtain ⟨t,rfl⟩:∃ t,v=Value.int j t:=ry;cases Option.some.inj e;exact ⟨.int_int _ _ _ _,.int_int _ _ _ _⟩
   | str j=>obtain ⟨t,rfl⟩:∃ t,v=Value.str j t:=ry;cases Option.some.inj e;exact ⟨.int_str _ _ _ _,.int_str _ _ _ _⟩
   | tup h2 r2=>obtain ⟨us,_,p⟩:=tl (dg.of h2) r2;cases (show v=Value.ref _ from ry);cases Option.some.inj e;exact ⟨.int_tuple _ _ p hu0,.int_tuple _ _ p hu0⟩
   | ref h2=>obtain ⟨xs,e1,e2⟩:=Option.map_eq_some_iff.mp e;obtain ⟨_,us,_,_,p⟩:=ll h2 e1;cases (show v=Value.ref _ from ry);cases e2;exact ⟨.int_list _ _ p hu0,.int_list _ _ p hu0⟩
   | _=>cases e
  | str i=>
   obtain ⟨t0,rfl⟩:∃ t,u=Value.str i t:=rx
   cases hb with
   | non=>obtain rfl:v=Value.none:=ry;cases Option.some.inj e;exact ⟨.str_none _ _,.str_none _ _⟩
   | bl j=>obtain rfl:v=Value.bool j:=ry;cases Option.some.inj e;exact ⟨.str_bool _ _ _,.str_bool _ _ _⟩
   | int j=>obtain ⟨t,rfl⟩:∃ t,v=Value.int j t:=ry;cases Option.some.inj e;exact ⟨.str_int _ _ _ _,.str_int _ _ _ _⟩
   | str j=>obtain ⟨t,rfl⟩:∃ t,v=Value.str j t:=ry;cases Option.some.inj e;exact ⟨.str_str _ _ _ _,.str_str _ _ _ _⟩
   | tup h2 r2=>obtain ⟨us,_,p⟩:=tl (dg.of h2) r2;cases (show v=Value.ref _ from ry);cases Option.some.inj e;exact ⟨.str_tuple _ _ p hu0,.str_tuple _ _ p hu0⟩
   | ref h2=>obtain ⟨xs,e1,e2⟩:=Option.map_eq_some_iff.mp e;obtain ⟨_,us,_,_,p⟩:=ll h2 e1;cases (show v=Value.ref _ from ry);cases e2;exact ⟨.str_list _ _ p hu0,.str_list _ _ p hu0⟩
   | _=>cases e
  | @tup p xs vs h1 r1=>
   obtain rfl:u=Value.ref p:=rx
   obtain ⟨us,q1,p1⟩:=tl (dg.of h1) r1
   cases hb with
   | non=>obtain rfl:v=Value.none:=ry;cases Option.some.inj e;exact ⟨.tuple_none p1 hu0,.tuple_none p1 hu0⟩
   | bl j=>obtain rfl:v=Value.bool j:=ry;cases Option.some.inj e;exact ⟨.tuple_bool _ p1 hu0,.tuple_bool _ p1 hu0⟩
   | int j=>obtain ⟨t,rfl⟩:∃ t,v=Value.int j t:=ry;cases Option.some.inj e;exact ⟨.tuple_int _ _ p1 hu0,.tuple_int _ _ p1 hu0⟩
   | str j=>obtain ⟨t,rfl⟩:∃ t,v=Value.str j t:=ry;cases Option.some.inj e;exact ⟨.tuple_str _ _ p1 hu0,.tuple_str _ _ p1 hu0⟩
   | @tup q ys ws h2 r2=>
    obtain rfl:v=Value.ref q:=ry
    obtain ⟨ts,q2,p2⟩:=tl (dg.of h2) r2
    have e':h_ (lZ S n) xs ys=some k:=e
    refine refs (.tup h1 r1) (.tup h2 r2) e ?_
    rw [(jf e').1]
    have:=SeqAt.RcAt.tuples p1 p2 hu0 (mL items r1 r2 q1 q2 e')
    rw [List.size_toArray,List.size_toArray,<- q1.length,<- q2.length,<- r1.length,<- r2.length] at this
    exact this
   | @ref q j h2=>
    obtain rfl:v=Value.ref q:=ry
    obtain ⟨ys,e1,e2⟩:=Option.map_eq_some_iff.mp e
    obtain ⟨_,ts,_,_,p2⟩:=ll h2 e1
    refine refs (.tup h1 r1) (.ref h2) e ?_
    rw [<- e2]
    exact .tuple_list p1 p2 hu0
   | _=>cases e
  | @ref p i h1=>
   obtain rfl:u=Value.ref p:=rx
   cases hb with
   | non=>obtain ⟨xs,e1,e2⟩:=Option.map_eq_some_iff.mp e;obtain ⟨_,us,_,_,p1⟩:=ll h1 e1;obtain rfl:v=Value.none:=ry;cases e2;exact ⟨.list_none p1 hu0,.list_none p1 hu0⟩
   | bl j=>obtain ⟨xs,e1,e2⟩:=Option.map_eq_some_iff.mp e;obtain ⟨_,us,_,_,p1⟩:=ll h1 e1;obtain rfl:v=Value.bool j:=ry;cases e2;exact ⟨.list_bool _ p1 hu0,.list_bool _ p1 hu0⟩
   | int j=>obtain ⟨xs,e1,e2⟩:=Option.map_eq_some_iff.mp e;obtain ⟨_,us,_,_,p1⟩:=ll h1 e1;obtain ⟨t,rfl⟩:∃ t,v=Value.int j t:=ry;cases e2;exact ⟨.list_int _ _ p1 hu0,.list_int _ _ p1 hu0⟩
   | str j=>obtain ⟨xs,e1,e2⟩:=Option.map_eq_some_iff.mp e;obtain ⟨_,us,_,_,p1⟩:=ll h1 e1;obtain ⟨t,rfl⟩:∃ t,v=Value.str j t:=ry;cases e2;exact ⟨.list_str _ _ p1 hu0,.list_str _ _ p1 hu0⟩
   | @tup q ys ws h2 r2=>
    obtain rfl:v=Value.ref q:=ry
    obtain ⟨ts,q2,p2⟩:=tl (dg.of h2) r2
    obtain ⟨xs,e1,e2⟩:=Option.map_eq_some_iff.mp e
    obtain ⟨_,us,_,_,p1⟩:=ll h1 e1
    refine refs (.ref h1) (.tup h2 r2) e ?_
    rw [<- e2]
    exact .list_tuple p1 p2 hu0
   | @ref q j h2=>
    obtain rfl:v=Value.ref q:=ry
    have e0:=e
    obtain ⟨xs,e1,e⟩:=Option.bind_eq_some_iff.mp e
    obtain ⟨ys,e2,e'⟩:=Option.bind_eq_some_iff.mp e
    obtain ⟨vs,us,r1,q1,p1⟩:=ll h1 e1
    obtain ⟨ws,ts,r2,q2,p2⟩:=ll h2 e2
    refine refs (.ref h1) (.ref h2) e0 ?_
    have l1:=r1.length
    have l2:=r2.length
    have l3:=q1.length
    have l4:=q2.length
    rw [(jf e').1]
    by_cases hl:xs.length=ys.length
    ·have:=SeqAt.RcAt.lists p1 p2 (by simp;omega) hu0 (mL items r1 r2 q1 q2 e')
     rw [List.size_toArray,<- l3,<- l1] at this
     rw [<- hl,Nat.min_self,beq_self_eq_true,Bool.and_true]
     exact this
    ·have:(xs.length == ys.length)=false:=by simpa using hl
     rw [this,Bool.and_false]
     exact .lists_lengths p1 p2 (by simp;omega) hu0
   | _=>cases e
  | _=>cases hb <;> cases e
theorem H_ (I:Inv X pins σ H s) (R:Rel X.K ρ H S):∀ (n:Nat) (B:Around) (a b:A) (x y:V) (u v:Value) (k:Bool),B.units + n < cLine -> AV X.K ρ H a x -> AV X.K ρ H b y -> RelV x u -> RelV y v -> lZ S n a b=some k -> SeqAt.RcNeAt B s u v (!k)
 | 0,_,_,_,_,_,_,_,_,_,_,_,_,_,e=>nomatch e
 | n + 1,B,a,b,x,y,u,v,k,hu,ha,hb,rx,ry,e=>by
  have hu0:B.units < cLine:=by omega
  have items:∀ a b x y u v k,AV X.K ρ H a x -> AV X.K ρ H b y -> RelV x u -> RelV y v -> lZ S n a b=some k -> SeqAt.EqAt B.in1 s u v k:=fun a b x y u v k h1 h2 h3 h4 h5=>(tQ I R n B.in1 a b x y u v k (by rw [in1_units];omega) h1 h2 h3 h4 h5).2
  have tl:∀ {p:Addr} {xs:List A} {vs:List V},dg X.K H p vs -> AVs X.K ρ H xs vs -> ∃ us:List Value,Vals vs us /\ s.heap.IsTuple p us.toArray:=fun h1 r1=>by
   obtain ⟨us,q,p,_⟩:=I.tuple h1
   exact ⟨us,q,p⟩
  have ll:∀ {p:Addr} {i:Nat} {xs:List A},ρ[i]?=some p -> ak S i=some xs -> ∃ (vs:List V) (us:List Value),AVs X.K ρ H xs vs /\ Vals vs us /\ s.heap.IsList p us.toArray:=fun h1 e1=>by
   obtain ⟨vs,h3,r1⟩:=R.lst h1 (aQ e1)
   obtain ⟨us,q,p,_⟩:=I.list (fF.of h3)
   exact ⟨vs,us,r1,q,p.isList⟩
  cases ha with
  | non=>
   obtain rfl:u=Value.none:=rx
   cases hb with
   | non=>obtain rfl:v=Value.none:=ry;cases Option.some.inj e;exact SeqAt.RcNeAt.none_none
   | bl j=>obtain rfl:v=Value.bool j:=ry;cases Option.some.inj e;exact SeqAt.RcNeAt.none_bool _
   | int j=>obtain ⟨t,rfl⟩:∃ t,v=Value.int j t:=ry;cases Option.some.inj e;exact SeqAt.RcNeAt.none_int _ _
   | str j=>obtain ⟨t,rfl⟩:∃ t,v=Value.str j t:=ry;cases Option.some.inj e;exact SeqAt.RcNeAt.none_str _ _
   | tup h2 r2=>obtain ⟨us,_,p⟩:=tl (dg.of h2) r2;cases (show v=Value.ref _ from ry);cases Option.some.inj e;exact SeqAt.RcNeAt.none_tuple p hu0
   | ref h2=>obtain ⟨xs,e1,e2⟩:=Option.map_eq_some_iff.mp e;obtain ⟨_,us,_,_,p⟩:=ll h2 e1;cases (show v=Value.ref _ from ry);cases e2;exact SeqAt.RcNeAt.none_list p hu0
   | _=>cases e
  | bl i=>
   obtain rfl:u=Value.bool i:=rx
   cases hb with
   | non=>obtain rfl:v=Value.none:=ry;cases Option.some.inj e;exact SeqAt.RcNeAt.bool_none _
   | bl j=>obtain rfl:v=Value.bool j:=ry;cases Option.some.inj e;exact SeqAt.RcNeAt.bool_bool _ _
   | int j=>obtain ⟨t,rfl⟩:∃ t,v=Value.int j t:=ry;cases Option.some.inj e;exact SeqAt.RcNeAt.bool_int _ _ _
   | str j=>obtain ⟨t,rfl⟩:∃ t,v=Value.str j t:=ry;cases Option.some.inj e;exact SeqAt.RcNeAt.bool_str _ _ _
   | tup h2 r2=>obtain ⟨us,_,p⟩:=tl (dg.of h2) r2;cases (show v=Value.ref _ from ry);cases Option.some.inj e;exact SeqAt.RcNeAt.bool_tuple _ p hu0
   | ref h2=>obtain ⟨xs,e1,e2⟩:=Option.map_eq_some_iff.mp e;obtain ⟨_,us,_,_,p⟩:=ll h2 e1;cases (show v=Value.ref _ from ry);cases e2;exact SeqAt.RcNeAt.bool_list _ p hu0
   | _=>cases e
  | int i=>
   obtain ⟨t0,rfl⟩:∃ t,u=Value.int i t:=rx
   cases hb with
   | non=>obtain rfl:v=Value.none:=ry;cases Option.some.inj e;exact SeqAt.RcNeAt.int_none _ _
   | bl j=>obtain rfl:v=Value.bool j:=ry;cases Option.some.inj e;exact SeqAt.RcNeAt.int_bool _ _ _
   | int j=>obtain ⟨t,rfl⟩:∃ t,v=Value.int j t:=ry;cases Option.some.inj e;exact SeqAt.RcNeAt.int_int _ _ _ _
   | str j=>obtain ⟨t,rfl⟩:∃ t,v=Value.str j t:=ry;cases Option.some.inj e;exact SeqAt.RcNeAt.int_str _ _ _ _
   | tup h2 r2=>obtain ⟨us,_,p⟩:=tl (dg.of h2) r2;cases (show v=Value.ref _ from ry);cases Option.some.inj e;exact SeqAt.RcNeAt.int_tuple _ _ p hu0
   | ref h2=>obtain ⟨xs,e1,e2⟩:=Option.map_eq_some_iff.mp e;obtain ⟨_,us,_,_,p⟩:=ll h2 e1;cases (show v=Value.ref _ from ry);cases e2;exact SeqAt.RcNeAt.int_list _ _ p hu0
   | _=>cases e
  | str i=>
   obtain ⟨t0,rfl⟩:∃ t,u=Value.str i t:=rx
   cases hb with
   | non=>obtain rfl:v=Value.none:=ry;cases Option.some.inj e;exact SeqAt.RcNeAt.str_none _ _
   | bl j=>obtain rfl:v=Value.bool j:=ry;cases Option.some.inj e;exact SeqAt.RcNeAt.str_bool _ _ _
   | int j=>obtain ⟨t,rfl⟩:∃ t,v=Value.int j t:=ry;cases Option.some.inj e;exact SeqAt.RcNeAt.str_int _ _ _ _
   | str j=>obtain ⟨t,rfl⟩:∃ t,v=Value.str j t:=ry;cases Option.some.inj e;exact SeqAt.RcNeAt.str_str _ _ _ _
   | tup h2 r2=>obtain ⟨us,_,p⟩:=tl (dg.of h2) r2;cases (show v=Value.ref _ from ry);cases Option.some.inj e;exact SeqAt.RcNeAt.str_tuple _ _ p hu0
   | ref h2=>obtain ⟨xs,e1,e2⟩:=Option.map_eq_some_iff.mp e;obtain ⟨_,us,_,_,p⟩:=ll h2 e1;cases (show v=Value.ref _ from ry);cases e2;exact SeqAt.RcNeAt.str_list _ _ p hu0
   | _=>cases e
  | @tup p xs vs h1 r1=>
   obtain rfl:u=Value.ref p:=rx
   obtain ⟨us,q1,p1⟩:=tl (dg.of h1) r1
   cases hb with
   | non=>obtain rfl:v=Value.none:=ry;cases Option.some.inj e;exact SeqAt.RcNeAt.tuple_none p1 hu0
   | bl j=>obtain rfl:v=Value.bool j:=ry;cases Option.some.inj e;exact SeqAt.RcNeAt.tuple_bool _ p1 hu0
   | int j=>obtain ⟨t,rfl⟩:∃ t,v=Value.int j t:=ry;cases Option.some.inj e;exact SeqAt.RcNeAt.tuple_int _ _ p1 hu0
   | str j=>obtain ⟨t,rfl⟩:∃ t,v=Value.str j t:=ry;cases Option.some.inj e;exact SeqAt.RcNeAt.tuple_str _ _ p1 hu0
   | @tup q ys ws h2 r2=>
    obtain rfl:v=Value.ref q:=ry
    obtain ⟨ts,q2,p2⟩:=tl (dg.of h2) r2
    have e':h_ (lZ S n) xs ys=some k:=e
    rw [(jf e').1]
    have:=SeqAt.RcNeAt.tuples p1 p2 hu0 (mL items r1 r2 q1 q2 e')
    rw [List.size_toArray,List.size_toArray,<- q1.length,<- q2.length,<- r1.length,<- r2.length] at this
    exact this
   | @ref q j h2=>
    obtain rfl:v=Value.ref q:=ry
    obtain ⟨ys,e1,e2⟩:=Option.map_eq_some_iff.mp e
    obtain ⟨_,ts,_,_,p2⟩:=ll h2 e1
    rw [<- e2]
    exact SeqAt.RcNeAt.tuple_list p1 p2 hu0
   | _=>cases e
  | @ref p i h1=>
   obtain rfl:u=Value.ref p:=rx
   cases hb with
   | non=>obtain ⟨xs,e1,e2⟩:=Option.map_eq_some_iff.mp e;obtain ⟨_,us,_,_,p1⟩:=ll h1 e1;obtain rfl:v=Value.none:=ry;cases e2;exact SeqAt.RcNeAt.list_none p1 hu0
   | bl j=>obtain ⟨xs,e1,e2⟩:=Option.map_eq_some_iff.mp e;obtain ⟨_,us,_,_,p1⟩:=ll h1 e1;obtain rfl:v=Value.bool j:=ry;cases e2;exact SeqAt.RcNeAt.list_bool _ p1 hu0
   | int j=>obtain ⟨xs,e1,e2⟩:=Option.map_eq_some_iff.mp e;obtain ⟨_,us,_,_,p1⟩:=ll h1 e1;obtain ⟨t,rfl⟩:∃ t,v=Value.int j t:=ry;cases e2;exact SeqAt.RcNeAt.list_int _ _ p1 hu0
   | str j=>obtain ⟨xs,e1,e2⟩:=Option.map_eq_some_iff.mp e;obtain ⟨_,us,_,_,p1⟩:=ll h1 e1;obtain ⟨t,rfl⟩:∃ t,v=Value.str j t:=ry;cases e2;exact SeqAt.RcNeAt.list_str _ _ p1 hu0
   | @tup q ys ws h2 r2=>
    obtain rfl:v=Value.ref q:=ry
    obtain ⟨ts,q2,p2⟩:=tl (dg.of h2) r2
    obtain ⟨xs,e1,e2⟩:=Option.map_eq_some_iff.mp e
    obtain ⟨_,us,_,_,p1⟩:=ll h1 e1
    rw [<- e2]
    exact SeqAt.RcNeAt.list_tuple p1 p2 hu0
   | @ref q j h2=>
    obtain rfl:v=Value.ref q:=ry
    have e0:=e
    obtain ⟨xs,e1,e⟩:=Option.bind_eq_some_iff.mp e
    obtain ⟨ys,e2,e'⟩:=Option.bind_eq_some_iff.mp e
    obtain ⟨vs,us,r1,q1,p1⟩:=ll h1 e1
    obtain ⟨ws,ts,r2,q2,p2⟩:=ll h2 e2
    have l1:=r1.length
    have l2:=r2.length
    have l3:=q1.length
    have l4:=q2.length
    rw [(jf e').1]
    by_cases hl:xs.length=ys.length
    ·have:=SeqAt.RcNeAt.lists p1 p2 (by simp;omega) hu0 (mL items r1 r2 q1 q2 e')
     rw [List.size_toArray,<- l3,<- l1] at this
     rw [<- hl,Nat.min_self,beq_self_eq_true,Bool.and_true]
     exact this
    ·have:(xs.length == ys.length)=false:=by simpa using hl
     rw [this,Bool.and_false]
     exact SeqAt.RcNeAt.lists_lengths p1 p2 (by simp;omega) hu0
   | _=>cases e
  | _=>cases hb <;> cases e
end
section
variable {X:Cx}
def kI (neg:Bool) (a b:A) (S:aA):R A:=opt (lZ S 12 a b) fun k=>.ok (.bl (if neg then !k else k)) S
theorem EC (hu:X.A.units + 64 < cLine):eW X (compareOp .Eq) (r2 X (kI false)):=fun pins s σ H x y v u Q I rx ry ⟨ρ,S,a,b,R,va,vb,h⟩=>by
 obtain ⟨k,e,h⟩:=aK h
 exact (tQ I R 12 X.A a b x y v u k (by omega) va vb rx ry e).1 _ _ _ _ ⟨.bl _,H,I,rfl,h _ _ _ .refl R (.bl _)⟩
theorem pH (hu:X.A.units + 64 < cLine):eW X (compareOp .NotEq) (r2 X (kI true)):=fun pins s σ H x y v u Q I rx ry ⟨ρ,S,a,b,R,va,vb,h⟩=>by
 obtain ⟨k,e,h⟩:=aK h
 exact H_ I R 12 X.A a b x y v u k (by omega) va vb rx ry e _ _ _ _ ⟨.bl _,H,I,rfl,h _ _ _ .refl R (.bl _)⟩
end
end Am
namespace Am
open PySem PySem.Spec PyProof.Rows L2
section
variable {X:Cx} {pos:Pos} {a b:Expr}
abbrev Pt:=List A -> aA -> R (Option Int)
def eL:Pt:=fun _ S=>.ok none S
def eO (c:Ex):Pt:=fun τ S=>(c τ S).bind fun a S1=>match a with
 | .int i=>.ok (some i) S1
 | _=>.no
def tO (X:Cx) (c:Pt):TO:=fun σ H Q=>∃ ρ S τ,Rel X.K ρ H S /\ SR X.K ρ H τ σ /\ (c τ S).post (fun o S'=>∀ ρ' H',Ext ρ ρ' H H' -> Rel X.K ρ' H' S' -> Q o H') (XE X ρ H)
def AO (X:Cx) (e:Option Expr) (c:Pt):Prop:=PO X e (tO X c)
theorem dG:AO X none eL:=fun pins s σ H Q I ⟨ρ,S,τ,R,r,h⟩=>Es pins s σ H Q I (h ρ H .refl R)
theorem dM {c:Ex} (ha:AE X a c):AO X (some a) (eO c):=fun pins s σ H Q I ⟨ρ,S,τ,R,r,h⟩=>Et ha pins s σ H Q I ⟨ρ,S,τ,R,r,aF (aH h) .refl fun x S1 h1 ρ1 H1 v e1 R1 v1=>by
 cases v1 <;> first | exact h1.elim | exact ⟨_,rfl,h1 ρ1 H1 e1 R1⟩⟩
def gx (xs:List A) (lo hi:Option Int):List A:=(xs.drop (HT.er xs.length 0 lo)).take (HT.er xs.length xs.length hi - HT.er xs.length 0 lo)
theorem AVs.cut {K:PySem.W.Frag} {ρ:List Addr} {H:Hp} {xs:List A} {vs:List V} (r:AVs K ρ H xs vs) (lo hi:Option Int):AVs K ρ H (gx xs lo hi) (sH vs lo hi):=by
 unfold gx sH
 rw [r.length]
 exact (r.drop _).take _
def yq (a:A) (lo hi:Option Int) (S:aA):R A:=match a with
 | .ref n=>opt (ak S n) fun xs=>.ok (.ref S.length) (S ++ [.lst (gx xs lo hi)])
 | .frz xs=>.ok (.ref S.length) (S ++ [.lst (gx xs lo hi)])
 | .tup xs=>gd (¬ (HT.er xs.length 0 lo=0 /\ HT.er xs.length xs.length hi=xs.length)) (.ok (.tup (gx xs lo hi)) S)
 | _=>.no
def qS (c:Ex) (lo hi:Pt):Ex:=fun τ S=>(c τ S).bind fun a S1=>(lo τ S1).bind fun l S2=>(hi τ S2).bind fun u S3=>yq a l u S3
def rS (X:Cx):V -> Option Int -> Option Int -> Hp -> VK -> Prop:=fun x lo hi H Q=>∃ ρ S a,Rel X.K ρ H S /\ AV X.K ρ H a x /\ (yq a lo hi S).post (kJ X ρ H Q) (XE X ρ H)
theorem GK:Ke X (rS X):=fun pins s σ H x v vl vu lo hi sl Q I rx hs pl pu ⟨ρ,S,a,R,va,h⟩=>by
 cases va with
 | @tup p xs vs h1 r1=>
  obtain ⟨hc,h⟩:=bg h
  exact Ii pins s σ H _ v vl vu lo hi sl Q I rx hs pl pu ⟨p,vs,rfl,(dg.of h1),by rw [<- r1.length];exact hc,ig R (r1.cut lo hi) .refl h⟩
 | @frz p xs vs h1 r1=>exact wW pins s σ H _ v vl vu lo hi sl Q I rx hs pl pu ⟨p,vs,rfl,h1.CK,fB R (r1.cut lo hi) .refl h⟩
 | @ref p n hp=>
  obtain ⟨xs,hn,h⟩:=aK h
  obtain ⟨vs,h1,r1⟩:=R.lst hp (aQ hn)
  exact wW pins s σ H _ v vl vu lo hi sl Q I rx hs pl pu ⟨p,vs,rfl,fF.of h1,fB R (r1.cut lo hi) .refl h⟩
 | _=>exact h.elim
theorem gS {e:Expr} {lo hi:Option Expr} {p2:Pos} {c:Ex} {cl ch:Pt} (he:AE X e c) (hl:AO X lo cl) (hh:AO X hi ch):AE X (.Subscript e (.Slice lo hi none p2) pos) (qS c cl ch):=PE.imp (Bt GK he hl hh) fun σ H Q ⟨ρ,S,τ,R,r,h⟩=>by
 refine ⟨ρ,S,τ,R,r,aF (aH h) .refl fun a S1 h1 ρ1 H1 x e1 R1 v1=>⟨ρ1,S1,τ,R1,r.ext e1,aF (aH h1) e1 fun l S2 h2 ρ2 H2 e2 R2=>⟨ρ2,S2,τ,R2,r.ext (e1.trans e2),aF (aH h2) (e1.trans e2) fun u S3 h3 ρ3 H3 e3 R3=>?_⟩⟩⟩
 exact ⟨ρ3,S3,a,R3,v1.ext (e2.trans e3),aF h3 (e1.trans (e2.trans e3)) fun _ _ z=>z.ext (e1.trans (e2.trans e3))⟩
def yV (a:A) (S:aA):R A:=match a with
 | .ref n=>opt (ak S n) fun xs=>.ok (.ref S.length) (S ++ [.lst xs.reverse])
 | .tup xs=>.ok (.tup xs.reverse) S
 | _=>.no
theorem G1 {e:Expr} {p2 up cp:Pos} {kk:Nat} {c:Ex} (he:AE X e c):AE X (.Subscript e (.Slice none none (some (.UnaryOp .USub (.Constant (.int 1) kk cp) up)) p2) pos) (F0 yV c):=fun pins s σ H Q I ⟨ρ,S,τ,R,r,h⟩=>by
 have hb:=aH h
 cases hc:c τ S with
 | no=>rw [hc] at hb;exact hb.elim
 | ex x S1=>
  rw [hc] at hb
  exact xW he pins s σ H Q I ⟨ρ,S,τ,R,r,by rw [hc];exact hb⟩
 | ok a S1=>
  rw [hc] at hb
  have hb:(yV a S1).post (kJ X ρ H Q) (XE X ρ H):=hb
  cases a with
  | tup xs=>
   refine xW he pins s σ H Q I ⟨ρ,S,τ,R,r,?_⟩
   rw [hc]
   intro ρ1 H1 x e1 R1 v1
   cases v1 with
   | tup h1 r1=>exact ⟨_,_,rfl,(dg.of h1),ig R1 r1.reverse e1 hb⟩
  | ref n=>
   refine DU he pins s σ H Q I ⟨ρ,S,τ,R,r,?_⟩
   rw [hc]
   intro ρ1 H1 x e1 R1 v1
   obtain ⟨xs,hn,h⟩:=aK hb
   cases v1 with
   | ref hp=>
    obtain ⟨vs,h1,r1⟩:=R1.lst hp (aQ hn)
    exact ⟨_,_,rfl,fF.of h1,fB R1 r1.reverse e1 h⟩
  | _=>exact hb.elim
def aT (f:List A -> aA -> R A) (d:gP):Ex:=fun τ S=>(d τ S).bind fun as S1=>f as S1
theorem sS {f:List A -> aA -> R A} {d:gP} {σ:L2.St} {H:Hp} {Q:VK} (h:tE X (aT f d) σ H Q):Lo (rN X f) (tL X d) σ H Q:=by
 obtain ⟨ρ,S,τ,R,r,h⟩:=h
 exact ⟨ρ,S,τ,R,r,aF (aH h) .refl fun as S1 h1 ρ1 H1 vs e1 R1 v1=>⟨ρ1,S1,as,R1,v1,aF h1 e1 fun _ _ z=>z.ext e1⟩⟩
variable {x:Str} {p:Pos} {e:Expr} {es:List Expr} {id T:String} {f:List A -> aA -> R A} {d:gP}
theorem aR (hc:bD X (.builtin id) (rN X f)) (hm:X.mg x=none) (hv:bootBuiltins x=some (.builtin id)) (ha:AL X (e :: es) d) (hg:Gl X x:=by rfl) (hn:x ≠ "__name__" := by decide) (hdb:(x == ("__debug__" : Str))=false:=by decide)
  (he:starEach (e :: es) X.env=(false,eval e X.env) :: starEach es X.env:=by rfl) (hpl:(backTo pos (starEach es X.env)).any (·.1)=false:=by rfl):AE X (.Call (.Name x p) (e :: es) [] pos) (aT f d):=
 PE.imp (sR hc hg hm hv ha hn hdb he hpl) fun _ _ _ h=>sS h
theorem bK (hc:bD X (.type T) (rN X f)) (hm:X.mg x=none) (hv:bootBuiltins x=some (.type T)) (ha:AL X (e :: es) d) (hg:Gl X x:=by rfl) (hn:x ≠ "__name__" := by decide) (hdb:(x == ("__debug__" : Str))=false:=by decide)
  (he:starEach (e :: es) X.env=(false,eval e X.env) :: starEach es X.env:=by rfl) (hpl:(backTo pos (starEach es X.env)).any (·.1)=false:=by rfl):AE X (.Call (.Name x p) (e :: es) [] pos) (aT f d):=
 PE.imp (yv hc hg hm hv ha hn hdb he hpl) fun _ _ _ h=>sS h
theorem pY (hm:X.mg x=none) (hv:bootBuiltins x=some (.type T)) (hg:Gl X x:=by rfl) (hn:x ≠ "__name__" := by decide) (hdb:(x == ("__debug__" : Str))=false:=by decide):AE X (.Name x pos) (eC (.ty T)):=
 PE.imp (xG (v:=.ty T) hg hm hv rfl hn hdb) fun σ H Q ⟨ρ,S,τ,R,r,h⟩=>h ρ H _ .refl R (.ty T)
def A.seq (S:aA):A -> Option (List A)
 | .tup xs=>some xs
 | .frz xs=>some xs
 | .ref n=>ak S n
 | _=>none
theorem G9 {K:PySem.W.Frag} {ρ:List Addr} {H:Hp} {S:aA} {x:A} {v:V} {xs:List A} (R:Rel K ρ H S) (h:AV K ρ H x v) (e:x.seq S=some xs):∃ p vs,v=.ref p /\ (fF K H p vs \/ dg K H p vs) /\ AVs K ρ H xs vs:=by
 cases h with
 | tup h r=>cases Option.some.inj e;exact ⟨_,_,rfl,.inr (dg.of h),r⟩
 | frz h r=>cases Option.some.inj e;exact ⟨_,_,rfl,.inl h.CK,r⟩
 | ref h=>
  obtain ⟨vs,h1,r1⟩:=R.lst h (aQ e)
  exact ⟨_,vs,rfl,.inl (fF.of h1),r1⟩
 | _=>cases e
theorem yR {K:PySem.W.Frag} {ρ:List Addr} {H:Hp} {x:A} {vs:List V} (h:AVs K ρ H [x] vs):∃ v,vs=[v] /\ AV K ρ H x v:=by
 cases h with
 | cons h t=>cases t;exact ⟨_,rfl,h⟩
theorem K_ {K:PySem.W.Frag} {ρ:List Addr} {H:Hp} {x y:A} {vs:List V} (h:AVs K ρ H [x,y] vs):∃ v w,vs=[v,w] /\ AV K ρ H x v /\ AV K ρ H y w:=by
 cases h with
 | cons h t=>obtain ⟨w,rfl,h'⟩:=yR t;exact ⟨_,_,rfl,h,h'⟩
def f1 (g:A -> aA -> R A):List A -> aA -> R A:=fun as S=>match as with
 | [x]=>g x S
 | _=>.no
def f2 (g:A -> A -> aA -> R A):List A -> aA -> R A:=fun as S=>match as with
 | [x,y]=>g x y S
 | _=>.no
theorem C_ {g:A -> aA -> R A} {as:List A} {S:aA} {P:A -> aA -> Prop} {E:Str -> aA -> Prop} (h:(f1 g as S).post P E):∃ x,as=[x] /\ (g x S).post P E:=by
 match as,h with
 | [],h=>exact h.elim
 | [x],h=>exact ⟨x,rfl,h⟩
 | _ :: _ :: _,h=>exact h.elim
theorem Ef {g:A -> A -> aA -> R A} {as:List A} {S:aA} {P:A -> aA -> Prop} {E:Str -> aA -> Prop} (h:(f2 g as S).post P E):∃ x y,as=[x,y] /\ (g x y S).post P E:=by
 match as,h with
 | [],h=>exact h.elim
 | [_],h=>exact h.elim
 | [x,y],h=>exact ⟨x,y,rfl,h⟩
 | _ :: _ :: _ :: _,h=>exact h.elim
theorem Io {g:A -> aA -> R A} {vs:List V} {H:Hp} {Q:VK} (h:rN X (f1 g) vs H Q):∃ v,vs=[v] /\ ∃ ρ S x,Rel X.K ρ H S /\ AV X.K ρ H x v /\ (g x S).post (kJ X ρ H Q) (XE X ρ H):=by
 obtain ⟨ρ,S,as,R,v,h⟩:=h
 obtain ⟨x,rfl,h⟩:=C_ h
 obtain ⟨w,rfl,hv⟩:=yR v
 exact ⟨w,rfl,ρ,S,x,R,hv,h⟩
theorem Ka {g:A -> A -> aA -> R A} {vs:List V} {H:Hp} {Q:VK} (h:rN X (f2 g) vs H Q):∃ v w,vs=[v,w] /\ ∃ ρ S x y,Rel X.K ρ H S /\ AV X.K ρ H x v /\ AV X.K ρ H y w /\ (g x y S).post (kJ X ρ H Q) (XE X ρ H):=by
 obtain ⟨ρ,S,as,R,v,h⟩:=h
 obtain ⟨x,y,rfl,h⟩:=Ef h
 obtain ⟨w,w',rfl,hv,hv'⟩:=K_ v
 exact ⟨w,w',rfl,ρ,S,x,y,R,hv,hv',h⟩
def dX (x:A) (S:aA):R A:=match x with
 | .str x=>gd (x.length <= sizeLine) (.ok (.int x.length) S)
 | .tup xs=>.ok (.int xs.length) S
 | .frz xs=>.ok (.int xs.length) S
 | .ref n=>opt (ak S n) fun xs=>.ok (.int xs.length) S
 | _=>.no
theorem dw:bD X (.builtin "len") (rN X (f1 dX)):=bD.imp zg fun vs H Q h0=>by
 obtain ⟨w,rfl,ρ,S,x,R,hv,h⟩:=Io h0
 clear h0
 cases hv with
 | str z=>
  obtain ⟨hz,h⟩:=bg h
  exact ⟨_,_,rfl,⟨hz,rfl⟩,h _ _ _ .refl R (.int _)⟩
 | @tup p xs us h1 r=>exact ⟨_,us.length,rfl,.inr ⟨us,(dg.of h1),rfl⟩,by rw [<- r.length];exact h _ _ _ .refl R (.int _)⟩
 | @frz p xs us h1 r=>exact ⟨_,us.length,rfl,.inl ⟨us,h1.CK,rfl⟩,by rw [<- r.length];exact h _ _ _ .refl R (.int _)⟩
 | ref hp=>
  obtain ⟨xs,hn,h⟩:=aK h
  obtain ⟨us,h1,r⟩:=R.lst hp (aQ hn)
  exact ⟨_,us.length,rfl,.inl ⟨us,fF.of h1,rfl⟩,by rw [<- r.length];exact h _ _ _ .refl R (.int _)⟩
 | _=>exact h.elim
def uM (x:A) (S:aA):R A:=match x with
 | .int i=>.ok (.int (if i < 0 then -i else i)) S
 | _=>.no
theorem Be:bD X (.builtin "abs") (rN X (f1 uM)):=bD.imp Aw fun vs H Q h0=>by
 obtain ⟨w,rfl,ρ,S,x,R,hv,h⟩:=Io h0
 clear h0
 cases hv <;> first | exact h.elim | exact ⟨_,rfl,h _ _ _ .refl R (.int _)⟩
def Bk (x y:A) (S:aA):R A:=match x,y with
 | .int i,.int j=>.ok (.int (if j > i then j else i)) S
 | _,_=>.no
theorem GN (hc:X.calm=true):bD X (.builtin "max") (rN X (f2 Bk)):=bD.imp (yG hc) fun vs H Q h0=>by
 obtain ⟨w,w',rfl,ρ,S,x,y,R,hv,hv',h⟩:=Ka h0
 clear h0
 cases hv <;> first | exact h.elim | (cases hv' <;> first | exact h.elim | exact ⟨_,_,rfl,h _ _ _ .refl R (.int _)⟩)
def Bj (x y:A) (S:aA):R A:=match x,y with
 | .int i,.int j=>.ok (.int (if j < i then j else i)) S
 | _,_=>.no
theorem GP (hc:X.calm=true):bD X (.builtin "min") (rN X (f2 Bj)):=bD.imp (yX hc) fun vs H Q h0=>by
 obtain ⟨w,w',rfl,ρ,S,x,y,R,hv,hv',h⟩:=Ka h0
 clear h0
 cases hv <;> first | exact h.elim | (cases hv' <;> first | exact h.elim | exact ⟨_,_,rfl,h _ _ _ .refl R (.int _)⟩)
def pX (x:A) (S:aA):R A:=match x with
 | .int i=>.ok (.int i) S
 | .bl k=>.ok (.int (if k then 1 else 0)) S
 | .str y=>opt (PySem.intText? y) fun n=>gd (y.length <= 640) (.ok (.int n) S)
 | _=>.no
theorem Bs:bD X (.type "int") (rN X (f1 pX)):=fun pins s σ H xs us Q I rv h0=>by
 obtain ⟨w,rfl,ρ,S,x,R,hv,h⟩:=Io h0
 clear h0
 cases hv with
 | int i=>exact qh pins s σ H _ us Q I rv (.inl ⟨i,rfl,h _ _ _ .refl R (.int _)⟩)
 | bl k=>exact qh pins s σ H _ us Q I rv (.inr ⟨k,rfl,h _ _ _ .refl R (.int _)⟩)
 | str y=>
  obtain ⟨n,hn,h⟩:=aK h
  obtain ⟨hl,h⟩:=bg h
  exact yk pins s σ H _ us Q I rv ⟨y,n,rfl,hl,hn,h _ _ _ .refl R (.int _)⟩
 | _=>exact h.elim
def kH (x y:A) (S:aA):R A:=match x,y with
 | .int i,.int j=>.ok (.rng i j) S
 | _,_=>.no
theorem m9:bD X (.type "range") (rN X (f2 kH)):=bD.imp rf fun vs H Q h0=>by
 obtain ⟨w,w',rfl,ρ,S,x,y,R,hv,hv',h⟩:=Ka h0
 clear h0
 cases hv with
 | int i=>
  cases hv' with
  | int j=>
   refine ⟨i,j,rfl,fun p hp=>?_⟩
   obtain ⟨ex,R'⟩:=R.im (u:=.rng i j) hp
   exact h ρ _ _ ex R' (.rng bx)
  | _=>exact h.elim
 | _=>exact h.elim
def lT (i j:Int):Prop:=(-(2 ^ 62) <= i /\ i < 2 ^ 62 /\ -(2 ^ 62) <= j /\ j < 2 ^ 62) /\ (j - i).toNat <= 1000
instance (i j:Int):Decidable (lT i j):=by unfold lT;infer_instance
def iB (x:A) (S:aA):R A:=match x with
 | .rng i j=>gd (lT i j) (.ok (.ref S.length) (S ++ [.lst ((aP i j).map .int)]))
 | .tup xs=>.ok (.ref S.length) (S ++ [.lst xs])
 | .frz xs=>.ok (.ref S.length) (S ++ [.lst xs])
 | .ref n=>opt (ak S n) fun xs=>.ok (.ref S.length) (S ++ [.lst xs])
 | _=>.no
theorem jJ (hc:X.calm=true):bD X (.type "list") (rN X (f1 iB)):=fun pins s σ H vs us Q I rx h0=>by
 obtain ⟨w,rfl,ρ,S,x,R,hv,h⟩:=Io h0
 clear h0
 cases hv with
 | @rng p i j hp=>
  obtain ⟨hc',h⟩:=bg h
  exact pD hc pins s σ H _ us Q I rx ⟨p,i,j,rfl,hp,hc'.1,hc'.2,fB R (j7 _) .refl h⟩
 | @tup p xs vs h1 r=>exact g6 pins s σ H _ us Q I rx ⟨p,vs,rfl,.inr (dg.of h1),fB R r .refl h⟩
 | @frz p xs vs h1 r=>exact g6 pins s σ H _ us Q I rx ⟨p,vs,rfl,.inl h1.CK,fB R r .refl h⟩
 | @ref p n hp=>
  obtain ⟨xs,hn,h⟩:=aK h
  obtain ⟨vs,h1,r⟩:=R.lst hp (aQ hn)
  exact g6 pins s σ H _ us Q I rx ⟨p,vs,rfl,.inl (fF.of h1),fB R r .refl h⟩
 | _=>exact h.elim
def g8 (x:A) (S:aA):R A:=match x with
 | .rng i j=>gd (lT i j) (.ok (.tup ((aP i j).map .int)) S)
 | .tup xs=>.ok (.tup xs) S
 | .frz xs=>.ok (.tup xs) S
 | .ref n=>opt (ak S n) fun xs=>.ok (.tup xs) S
 | _=>.no
theorem kE (hc:X.calm=true):bD X (.type "tuple") (rN X (f1 g8)):=fun pins s σ H vs us Q I rx h0=>by
 obtain ⟨w,rfl,ρ,S,x,R,hv,h⟩:=Io h0
 clear h0
 cases hv with
 | @rng p i j hp=>
  obtain ⟨hc',h⟩:=bg h
  exact oR hc pins s σ H _ us Q I rx ⟨p,i,j,rfl,hp,hc'.1,hc'.2,ig R (j7 _) .refl h⟩
 | @tup p xs vs h1 r=>exact gz pins s σ H _ us Q I rx ⟨p,vs,rfl,.inr ⟨(dg.of h1),h _ _ _ .refl R (.tup h1 r)⟩⟩
 | @frz p xs vs h1 r=>exact gz pins s σ H _ us Q I rx ⟨p,vs,rfl,.inl ⟨h1.CK,ig R r .refl h⟩⟩
 | @ref p n hp=>
  obtain ⟨xs,hn,h⟩:=aK h
  obtain ⟨vs,h1,r⟩:=R.lst hp (aQ hn)
  exact gz pins s σ H _ us Q I rx ⟨p,vs,rfl,.inl ⟨fF.of h1,ig R r .refl h⟩⟩
 | _=>exact h.elim
def A.zf:List A -> Option (List Bool)
 | []=>some []
 | .bl b :: xs=>(A.zf xs).map (b :: ·)
 | _=>none
theorem zA {K:PySem.W.Frag} {ρ:List Addr} {H:Hp}:∀ {xs:List A} {vs:List V} {bs:List Bool},AVs K ρ H xs vs -> A.zf xs=some bs -> vs=bs.map V.bl
 | _,_,_,.nil,e=>by cases e;rfl
 | _,_,_,.cons (x:=.bl b) h t,e=>by
  obtain ⟨cs,e1,rfl⟩:=Option.map_eq_some_iff.mp e
  cases h
  rw [zA t e1];rfl
 | _,_,_,.cons (x:=.dY) h t,e=>nomatch e
 | _,_,_,.cons (x:=.non) h t,e=>nomatch e
 | _,_,_,.cons (x:=.int _) h t,e=>nomatch e
 | _,_,_,.cons (x:=.str _) h t,e=>nomatch e
 | _,_,_,.cons (x:=.tup _) h t,e=>nomatch e
 | _,_,_,.cons (x:=.frz _) h t,e=>nomatch e
 | _,_,_,.cons (x:=.rng _ _) h t,e=>nomatch e
 | _,_,_,.cons (x:=.ref _) h t,e=>nomatch e
 | _,_,_,.cons (x:=.exn _) h t,e=>nomatch e
 | _,_,_,.cons (x:=.ty _) h t,e=>nomatch e
def Dj (x:A) (S:aA):R A:=match x with
 | .ref n=>opt (ak S n) fun xs=>opt (A.zf xs) fun bs=>.ok (.bl (bs.all fun b=>b)) S
 | _=>.no
theorem EK (hc:X.calm=true):bD X (.builtin "all") (rN X (f1 Dj)):=bD.imp (yh hc) fun vs H Q h0=>by
 obtain ⟨w,rfl,ρ,S,x,R,hv,h⟩:=Io h0
 clear h0
 cases hv with
 | @ref p n hp=>
  obtain ⟨xs,hn,h⟩:=aK h
  obtain ⟨bs,hb,h⟩:=aK h
  obtain ⟨vs,h1,r⟩:=R.lst hp (aQ hn)
  rw [zA r hb] at h1
  exact ⟨p,bs,rfl,fF.of h1,h _ _ _ .refl R (.bl _)⟩
 | _=>exact h.elim
def insI (x:Int):List Int -> List Int
 | []=>[x]
 | y :: ys=>if x <= y then x :: y :: ys else y :: insI x ys
def sortI:List Int -> List Int
 | []=>[]
 | x :: xs=>insI x (sortI xs)
def Gq (x:A) (S:aA):R A:=opt (x.seq S) fun xs=>opt (A.ints xs) fun ns=>gd (ns.length < 64) (.ok (.ref S.length) (S ++ [.lst ((sortI ns).map .int)]))
def A.kd:A -> aA -> Option Kd
 | .non,_=>some .non
 | .bl _,_=>some .bl
 | .int _,_=>some .int
 | .str _,_=>some .str
 | .tup _,_=>some .tup
 | .ref n,S=>(ak S n).map fun _=>.lst
 | _,_=>none
theorem Di {K:PySem.W.Frag} (k:Kd):PySem.W.kitOne K k.ty (.type "str")=some (decide (k=.str)):=by cases k <;> rfl
def iw (k:Kd) (c:String):Option Bool:=if c = "int" then some (decide (k=.int \/ k=.bl)) else if c = "bool" then some (decide (k=.bl)) else if c = "tuple" then some (decide (k=.tup)) else if c = "list" then some (decide (k=.lst)) else if c = "str" then some (decide (k=.str)) else none
theorem vE {K:PySem.W.Frag} {k:Kd} {c:String} {b:Bool} (h:iw k c=some b):PySem.W.kitOne K k.ty (.type c)=some b:=by
 unfold iw at h
 split at h
 ·rename_i e;subst e;rw [<- h];exact DZ k
 ·split at h
  ·rename_i e;subst e;rw [<- h];exact A1 k
  ·split at h
   ·rename_i e;subst e;rw [<- h];exact kit_tuple k
   ·split at h
    ·rename_i e;subst e;rw [<- h];exact AA k
    ·split at h
     ·rename_i e;subst e;rw [<- h];exact Di k
     ·cases h
def mG (x y:A) (S:aA):R A:=match y with
 | .ty c=>opt (x.kd S) fun k=>opt (iw k c) fun b=>.ok (.bl b) S
 | _=>.no
theorem IQ {K:PySem.W.Frag} {ρ:List Addr} {H:Hp} {S:aA} {x:A} {v:V} {k:Kd} (R:Rel K ρ H S) (h:AV K ρ H x v) (e:x.kd S=some k):(∃ p vs,v=.ref p /\ dg K H p vs /\ k=.tup) \/ HG H v k:=by
 cases h with
 | non=>cases e;exact .inr rfl
 | bl b=>cases e;exact .inr ⟨b,rfl⟩
 | int i=>cases e;exact .inr ⟨i,rfl⟩
 | str i=>cases e;exact .inr ⟨i,rfl⟩
 | tup h r=>cases e;exact .inl ⟨_,_,rfl,(dg.of h),rfl⟩
 | ref h=>
  obtain ⟨xs,e1,e2⟩:=Option.map_eq_some_iff.mp e
  obtain ⟨vs,h1,_⟩:=R.lst h (aQ e1)
  cases e2
  exact .inr ⟨_,vs,rfl,h1⟩
 | _=>cases e
theorem pM:bD X (.builtin "isinstance") (rN X (f2 mG)):=fun pins s σ H vs us Q I rx h0=>by
 obtain ⟨w,w',rfl,ρ,S,x,y,R,hv,hv',h⟩:=Ka h0
 clear h0
 cases hv' with
 | ty c=>
  obtain ⟨k,hk,h⟩:=aK h
  obtain ⟨b,hb,hq⟩:=aK h
  have hq:kJ X ρ H Q (.bl b) S:=hq
  clear h
  rcases IQ R hv hk with ⟨p,vs,rfl,ht,rfl⟩ | hd
  ·match us,rx with
   | [_,_],.cons r1 (.cons r2 .nil)=>
    obtain ⟨its,q,⟨o,h1,h2,_⟩,_⟩:=I.tuple ht
    cases (show _=Value.ref p from r1)
    cases (show _=Value.type c from r2)
    exact PySem.W.kia_one PySem.W.kitx_tuple I.mO ⟨o,h1,h2⟩ (vE hb) (fun z=>nomatch z) fun tk=>⟨.bl b,H,I.tok _,rfl,hq _ _ _ .refl R (.bl _)⟩
  ·exact tX (c:=c) pins s σ H _ us Q I rx ⟨w,_,b,rfl,hd.Lg,vE hb,hq _ _ _ .refl R (.bl _)⟩
 | _=>exact h.elim
end
end Am
namespace Am
open PySem PySem.Spec PyProof.Rows L2
def IC (x:List Int):List (List Int) -> List (List Int)
 | []=>[x]
 | y :: ys=>if HT.lexLt y x=true then y :: IC x ys else x :: y :: ys
def Fe:List (List Int) -> List (List Int)
 | []=>[]
 | x :: xs=>IC x (Fe xs)
def LU:List A -> Option (List (List Int))
 | []=>some []
 | .tup xs :: r=>match A.ints xs with
  | some (k :: ks)=>(LU r).map fun rs=>(k :: ks) :: rs
  | _=>none
 | _=>none
section
variable {X:Cx}
def FW (n:Nat) (S:aA):R A:=opt (ak S n) fun xs=>opt (LU xs) fun kss=>.ok (.ref S.length) (S ++ [.lst ((Fe kss).map fun ks=>.tup (ks.map .int))])
def Mf (x:A) (S:aA):Bool:=match x with
 | .ref n=>match ak S n with
  | some (.tup _ :: _)=>true
  | _=>false
 | _=>false
def LN (x:A) (S:aA):R A:=match Mf x S with
 | false=>Gq x S
 | true=>match x with
  | .ref n=>FW n S
  | _=>.no
end
end Am
namespace Am
open PySem PySem.Spec PyProof.Rows L2
def K5 (k:Nat -> List Int) (i:Nat):List Nat -> List Nat
 | []=>[i]
 | j :: js=>if HT.lexLt (k j) (k i)=true then j :: K5 k i js else i :: j :: js
section
variable {X:Cx}
end
end Am
namespace Am
open PySem PySem.Spec PyProof.Rows L2
def RS.post (r:RS) (N:List A -> aA -> Prop) (T:A -> aA -> Prop) (B C:List A -> aA -> Prop) (E:Str -> aA -> Prop):Prop:=match r with
 | .nx τ S=>N τ S
 | .rt a S=>T a S
 | .bk τ S=>B τ S
 | .ct τ S=>C τ S
 | .ex c S=>E c S
 | .no=>False
def RS.of {α:Type} (r:R α) (f:α -> aA -> RS):RS:=match r with
 | .ok a S=>f a S
 | .ex c S=>.ex c S
 | .no=>.no
theorem of_post {α:Type} {r:R α} {f:α -> aA -> RS} {N B C:List A -> aA -> Prop} {T:A -> aA -> Prop} {E:Str -> aA -> Prop} (h:(RS.of r f).post N T B C E):r.post (fun a S=>(f a S).post N T B C E) E:=by
 cases r <;> exact h
theorem RS.mono {r:RS} {N B C N' B' C':List A -> aA -> Prop} {T T':A -> aA -> Prop} {E E':Str -> aA -> Prop} (h:r.post N T B C E) (hn:∀ τ S,N τ S -> N' τ S) (ht:∀ a S,T a S -> T' a S) (hb:∀ τ S,B τ S -> B' τ S) (hc:∀ τ S,C τ S -> C' τ S) (he:∀ c S,E c S -> E' c S):r.post N' T' B' C' E':=by
 cases r with
 | nx τ S=>exact hn _ _ h
 | rt a S=>exact ht _ _ h
 | bk τ S=>exact hb _ _ h
 | ct τ S=>exact hc _ _ h
 | ex c S=>exact he _ _ h
 | no=>exact h.elim
def qi (X:Cx) (ρ:List Addr) (H:Hp) (N:L2.St -> Hp -> Prop):List A -> aA -> Prop:=fun τ' S'=>∀ ρ' H' σ',Ext ρ ρ' H H' -> Rel X.K ρ' H' S' -> SR X.K ρ' H' τ' σ' -> N σ' H'
theorem qi.ext {X:Cx} {ρ ρ':List Addr} {H H':Hp} {N:L2.St -> Hp -> Prop} {τ:List A} {S:aA} (h:qi X ρ H N τ S) (e:Ext ρ ρ' H H'):qi X ρ' H' N τ S:=fun ρ2 H2 σ2 e2=>h ρ2 H2 σ2 (e.trans e2)
def o7 (X:Cx) (ρ:List Addr) (H:Hp) (D:Ends) (r:RS):Prop:=r.post (qi X ρ H D.nx) (kJ X ρ H D.rt) (qi X ρ H D.bk) (qi X ρ H D.ct) (XE X ρ H)
theorem o7.ext {X:Cx} {ρ ρ':List Addr} {H H':Hp} {D:Ends} {r:RS} (h:o7 X ρ H D r) (e:Ext ρ ρ' H H'):o7 X ρ' H' D r:=RS.mono h (fun _ _ z=>z.ext e) (fun _ _ z=>z.ext e) (fun _ _ z=>z.ext e) (fun _ _ z=>z.ext e) fun _ _ z=>z.ext e
def tS (X:Cx) (c:Sm):TS:=fun D σ H=>∃ ρ S τ,Rel X.K ρ H S /\ SR X.K ρ H τ σ /\ o7 X ρ H D (c τ S)
def AS (X:Cx) (st:Stmt) (c:Sm):Prop:=PS X st (tS X c)
def A9 (X:Cx) (sts:List Stmt) (c:Sm):Prop:=qd X sts (tS X c)
def tG (X:Cx) (g:Tg):TG:=fun v σ H Q=>∃ ρ S τ a,Rel X.K ρ H S /\ SR X.K ρ H τ σ /\ AV X.K ρ H a v /\ (g a τ S).post (qi X ρ H Q) (XE X ρ H)
def AG (X:Cx) (e:Expr) (g:Tg):Prop:=PG X e (tG X g)
abbrev C4:=List A -> List A -> aA -> R (List A)
def L6 (X:Cx) (g:C4):Ft:=fun vs σ H Q=>∃ ρ S τ as,Rel X.K ρ H S /\ SR X.K ρ H τ σ /\ AVs X.K ρ H as vs /\ (g as τ S).post (qi X ρ H Q) (XE X ρ H)
def J8 (X:Cx) (es:List Expr) (g:C4):Prop:=Jz X es (L6 X g)
section
variable {X:Cx} {pos:Pos} {a b e:Expr} {st:Stmt} {rest:List Stmt} {c d:Sm}
theorem PS.imp {t t':TS} (h:PS X st t) (i:∀ D σ H,t' D σ H -> t D σ H):PS X st t':=fun pins s σ H D I q=>h pins s σ H D I (i D σ H q)
theorem qd.imp {t t':TS} (h:qd X rest t) (i:∀ D σ H,t' D σ H -> t D σ H):qd X rest t':=fun pins s σ H D I q=>h pins s σ H D I (i D σ H q)
theorem PG.imp {t t':TG} (h:PG X e t) (i:∀ v σ H Q,t' v σ H Q -> t v σ H Q):PG X e t':=fun pins s σ H v u Q I r q=>h pins s σ H v u Q I r (i _ _ _ _ q)
def cK (i:Nat):Tg:=fun a τ S=>.ok (τ.set i a) S
theorem bN {i:Nat} {x:Str} (hN:X.N.Nodup) (hi:X.N[i]?=some x:=by rfl) (hx:Loc X.env.scope x:=by first | exact Or.inl rfl | exact Or.inr rfl) (hf:X.fn x=true \/ X.env.scope.names.lookup x=some .local:=by first | exact .inl rfl | exact .inr rfl | assumption):AG X (.Name x pos) (cK i):=
 PG.imp (vp hN hi hx hf) fun v σ H Q ⟨ρ,S,τ,a,R,r,va,h⟩=>h ρ H _ .refl R (r.set va)
def C3:C4:=fun as τ S=>match as with
 | []=>.ok τ S
 | _=>.no
def rH (g:Tg) (gs:C4):C4:=fun as τ S=>match as with
 | a :: as=>(g a τ S).bind fun τ1 S1=>gs as τ1 S1
 | []=>.no
theorem ji:J8 X [] C3:=fun pins s σ H vs us Q I r ⟨ρ,S,τ,as,R,sr,va,h⟩=>Ek pins s σ H vs us Q I r (by
 cases va with
 | nil=>exact ⟨rfl,h ρ H σ .refl R sr⟩
 | cons _ _=>exact h.elim)
theorem cP {es:List Expr} {g:Tg} {gs:C4} (h1:AG X e g) (h2:J8 X es gs) (hs:(assignEach (e :: es) X.env).map (·.2)=assign e X.env :: (assignEach es X.env).map (·.2):=by rfl):J8 X (e :: es) (rH g gs):=
 fun pins s σ H vs us Q I r ⟨ρ,S,τ,as,R,sr,va,h⟩=>AB h1 h2 hs pins s σ H vs us Q I r (by
  cases va with
  | nil=>exact h.elim
  | cons ha hr=>exact ⟨_,_,rfl,ρ,S,τ,_,R,sr,ha,aF (aH h) .refl fun τ1 S1 h1 ρ1 H1 σ1 e1 R1 sr1=>⟨ρ1,S1,τ1,_,R1,sr1,hr.ext e1,aF h1 e1 fun _ _ z=>z.ext e1⟩⟩)
def C2 (n:Nat) (gs:C4):Tg:=fun a τ S=>match a with
 | .tup xs=>gd (xs.length=n) (gs xs τ S)
 | _=>.no
theorem lz {es:List Expr} {k n:Nat} {gs:C4} (hc:X.calm=true) (h:J8 X es gs) (hn:(assignEach es X.env).length=n:=by rfl) (hst:(assignEach es X.env).findIdx? (·.1)=none:=by rfl):AG X (.Tuple es k pos) (C2 n gs):=
 PG.imp (GJ hc h hn hst) fun v σ H Q ⟨ρ,S,τ,a,R,r,va,h⟩=>by
  cases va with
  | tup h1 r1=>
   obtain ⟨hl,h⟩:=bg h
   exact ⟨_,_,rfl,dg.of h1,by rw [<- r1.length];exact hl,ρ,S,τ,_,R,r,r1,h⟩
  | _=>exact h.elim
def su (o i v:A) (S:aA):R Unit:=match o,i with
 | .ref n,.int k=>opt (ak S n) fun xs=>opt (o4 xs.length k) fun j=>.ok () (S.set n (.lst (xs.set j v)))
 | _,_=>.no
def Mj (X:Cx):CY:=fun o i v H Q=>∃ ρ S ao ai av,Rel X.K ρ H S /\ AV X.K ρ H ao o /\ AV X.K ρ H ai i /\ AV X.K ρ H av v /\ (su ao ai av S).post (fun _ S'=>∀ ρ' H',Ext ρ ρ' H H' -> Rel X.K ρ' H' S' -> Q H') (XE X ρ H)
theorem Ey:AQ X (Mj X):=fun pins s σ H o i v ov iv u Q I ro ri rv ⟨ρ,S,ao,ai,av,R,h1,h2,h3,h⟩=>by
 cases h1 with
 | @ref p n hp=>
  cases h2 with
  | int k=>
   obtain ⟨xs,hn,h⟩:=aK h
   obtain ⟨j,hj,h⟩:=aK h
   obtain ⟨vs,e,r⟩:=R.lst hp (aQ hn)
   obtain ⟨ex,R'⟩:=R.put hp (aQ hn) (r.set h3 j)
   exact set_list pins s σ H _ _ v ov iv u Q I ro ri rv ⟨p,vs,k,j,rfl,rfl,e,by rw [<- r.length];exact hj,h _ _ ex R'⟩
  | _=>exact h.elim
 | _=>exact h.elim
def zc (co ci:Ex):Tg:=fun a τ S=>(co τ S).bind fun o S1=>(ci τ S1).bind fun i S2=>(su o i a S2).bind fun _ S3=>.ok τ S3
theorem gy {o i:Expr} {co ci:Ex} (ho:AE X o co) (hi:AE X i ci)
  (ha:∀ v,assign (.Subscript o i pos) X.env v=(do
   let ov <- holding [v] (eval o X.env)
   let iv <- holding [v,ov] (eval i X.env)
   standAt pos
   holding [v,ov,iv] (setItem ov iv v)
   release [v,ov,iv] []):=by intro _;rfl):AG X (.Subscript o i pos) (zc co ci):=PG.imp (CF ho hi Ey ha) fun v σ H Q ⟨ρ,S,τ,a,R,r,va,h⟩=>by
 refine ⟨ρ,S,τ,R,r,aF (aH h) .refl fun o S1 h1 ρ1 H1 x e1 R1 v1=>⟨ρ1,S1,τ,R1,r.ext e1,aF (aH h1) e1 fun i S2 h2 ρ2 H2 y e2 R2 v2=>?_⟩⟩
 refine ⟨ρ2,S2,o,i,a,R2,v1.ext e2,v2,va.ext (e1.trans e2),aF (aH h2) (e1.trans e2) fun _ S3 h3 ρ3 H3 e3 R3=>?_⟩
 exact h3 ρ3 H3 σ ((e1.trans e2).trans e3) R3 (r.ext ((e1.trans e2).trans e3))
def gU:Sm:=fun τ S=>.nx τ S
def bq (c d:Sm):Sm:=fun τ S=>match c τ S with
 | .nx τ' S'=>d τ' S'
 | r=>r
theorem bZ:A9 X [] gU:=qd.imp Dg fun D σ H ⟨ρ,S,τ,R,r,h⟩=>h ρ H σ .refl R r
theorem DE {D:Ends} {σ:L2.St} {H:Hp} (h:tS X (bq c d) D σ H):Jg (tS X c) (tS X d) D σ H:=by
 obtain ⟨ρ,S,τ,R,r,h⟩:=h
 refine ⟨ρ,S,τ,R,r,?_⟩
 unfold bq at h
 cases hc:c τ S with
 | nx τ1 S1=>
  rw [hc] at h
  exact fun ρ1 H1 σ1 e1 R1 r1=>⟨ρ1,S1,τ1,R1,r1,o7.ext h e1⟩
 | rt a S1=>rw [hc] at h;exact h
 | bk τ1 S1=>rw [hc] at h;exact h
 | ct τ1 S1=>rw [hc] at h;exact h
 | ex x S1=>rw [hc] at h;exact h
 | no=>rw [hc] at h;exact h
theorem aE (h1:AS X st c) (h2:A9 X rest d):A9 X (st :: rest) (bq c d):=qd.imp (Ak h1 h2) fun D σ H h=>DE h
theorem aL (h1:AS X st c):A9 X [st] c:=xZ h1
def HD:Sm:=fun τ S=>.bk τ S
def IV:Sm:=fun τ S=>.ct τ S
def qt (e:Ex):Sm:=fun τ S=>.of (e τ S) fun _ S1=>.nx τ S1
theorem mP {f:Ex} (he:AE X e f) (hs:swapsWith e none pos.line X.env=pure false:=by rfl):AS X (.Expr e pos) (qt f):=PS.imp (Er he hs) fun D σ H ⟨ρ,S,τ,R,r,h⟩=>
 ⟨ρ,S,τ,R,r,aF (of_post h) .refl fun a S1 h1 ρ1 H1 x e1 R1 v1=>h1 ρ1 H1 σ e1 R1 (r.ext e1)⟩
def cz (e:Ex):Sm:=fun τ S=>.of (e τ S) fun a S1=>.rt a S1
theorem bf {f:Ex} (he:AE X e f):AS X (.Return (some e) pos) (cz f):=PS.imp (G0 he) fun D σ H ⟨ρ,S,τ,R,r,h⟩=>⟨ρ,S,τ,R,r,aF (of_post h) .refl fun a S1 h1=>h1⟩
def I_:Sm:=fun τ S=>.rt .non S
def pJ (t:Te) (c d:Sm):Sm:=fun τ S=>.of (t τ S) fun b S1=>match b with | true=>c τ S1 | false=>d τ S1
theorem eX {t:Te} {ca cb:List Stmt} (ht:AT X e t) (ha:A9 X ca c) (hb:A9 X cb d):AS X (.If e ca cb pos) (pJ t c d):=PS.imp (IZ ht ha hb) fun D σ H ⟨ρ,S,τ,R,r,h⟩=>by
 refine ⟨ρ,S,τ,R,r,aF (of_post h) .refl fun b S1 h1 ρ1 H1 e1 R1=>?_⟩
 cases b with
 | true=>rw [if_pos rfl];exact ⟨ρ1,S1,τ,R1,r.ext e1,o7.ext h1 e1⟩
 | false=>rw [if_neg Bool.false_ne_true];exact ⟨ρ1,S1,τ,R1,r.ext e1,o7.ext h1 e1⟩
def bC (e:Ex) (g:Tg):Sm:=fun τ S=>.of (e τ S) fun a S1=>.of (g a τ S1) fun τ' S2=>.nx τ' S2
theorem Dl {f:Ex} {g:Tg} {D:Ends} {σ:L2.St} {H:Hp} (h:tS X (bC f g) D σ H):D9 (tE X f) (tG X g) D σ H:=by
 obtain ⟨ρ,S,τ,R,r,h⟩:=h
 exact ⟨ρ,S,τ,R,r,aF (of_post h) .refl fun a S1 h1 ρ1 H1 x e1 R1 v1=>⟨ρ1,S1,τ,a,R1,r.ext e1,v1,aF (of_post h1) e1 fun τ2 S2 h2=>qi.ext h2 e1⟩⟩
theorem jV {tg:Expr} {f:Ex} {g:Tg} (he:AE X e f) (hg:AG X tg g) (hs:swapsWithSole [tg] e pos.line X.env=pure false:=by rfl) (hw:swappedStores [tg] e X.env=pure none:=by rfl)
  (h1:(assignEach [tg] X.env).map (·.2)=[assign tg X.env]:=by rfl):AS X (.Assign [tg] e pos) (bC f g):=PS.imp (FN he hg hs hw h1) fun D σ H h=>Dl h
theorem aX {i:Nat} {x:Str} {f:Ex} {pos':Pos} (hN:X.N.Nodup) (he:AE X e f) (hi:X.N[i]?=some x:=by rfl) (hx:Loc X.env.scope x:=by first | exact Or.inl rfl | exact Or.inr rfl) (hs:swapsWith e (some (.Name x pos')) pos.line X.env=pure false:=by rfl) (hf:X.fn x=true \/ X.env.scope.names.lookup x=some .local:=by first | exact .inl rfl | exact .inr rfl | assumption) :
  AS X (.Assign [.Name x pos'] e pos) (bC f (cK i)):=PS.imp (Cm hN hi hx he hs hf) fun D σ H ⟨ρ,S,τ,R,r,h⟩=>
 ⟨ρ,S,τ,R,r,aF (of_post h) .refl fun a S1 h1 ρ1 H1 x e1 R1 v1=>h1 ρ1 H1 _ e1 R1 ((r.ext e1).set v1)⟩
def K7 (i j:Nat) (c:gP):Sm:=fun τ S=>.of (c τ S) fun as S1=>match as with
 | [a,b]=>.nx ((τ.set i a).set j b) S1
 | _=>.no
def ip (X:Cx) (f:A -> A -> aA -> R A):IJ:=fun x y H Q=>∃ ρ S a b,Rel X.K ρ H S /\ AV X.K ρ H a x /\ AV X.K ρ H b y /\ (f a b S).post (kJ X ρ H Q) (XE X ρ H)
def Gj (a b:A) (S:aA):R A:=match a,b with
 | .int i,.int j=>.ok (.int (i + j)) S
 | _,_=>.no
theorem C8:Kf X .Add (ip X Gj):=fun pins s σ H x y v u Q I r1 r2 ⟨ρ,S,a,b,R,va,vb,h⟩=>by
 cases va with
 | int i=>
  cases vb with
  | int j=>exact HC pins s σ H _ _ v u Q I r1 r2 ⟨i,j,rfl,rfl,h _ _ _ .refl R (.int _)⟩
  | _=>exact h.elim
 | _=>exact h.elim
def z_ (i:Nat) (f:A -> A -> aA -> R A) (e:Ex):Sm:=fun τ S=>if (τ.getD i .dY).di then .no else .of (e τ S) fun b S1=>.of (f (τ.getD i .dY) b S1) fun c S2=>.nx (τ.set i c) S2
theorem G2 {i:Nat} {x:Str} {c:Ex} {op:Operator} {f:A -> A -> aA -> R A} {pos':Pos} (hN:X.N.Nodup) (he:AE X e c) (ho:Kf X op (ip X f)) (hi:X.N[i]?=some x:=by rfl) (hx:Loc X.env.scope x:=by first | exact Or.inl rfl | exact Or.inr rfl) (hf:X.fn x=true \/ X.env.scope.names.lookup x=some .local:=by first | exact .inl rfl | exact .inr rfl | assumption) :
  AS X (.AugAssign (.Name x pos') op e pos) (z_ i f c):=PS.imp (Hi hN hi hx he ho hf) fun D σ H ⟨ρ,S,τ,R,r,h⟩=>by
 have key:∀ x,τ[i]?=some x -> x.di=false -> (RS.of (c τ S) fun b S1=>.of (f x b S1) fun c S2=>.nx (τ.set i c) S2).post (qi X ρ H D.nx) (kJ X ρ H D.rt) (qi X ρ H D.bk) (qi X ρ H D.ct) (XE X ρ H) ->
   ∃ x,σ[i]?=some (some x) /\ tE X c σ H fun y H1=>ip X f x y H1 fun z H2=>D.nx (σ.set i (some z)) H2:=by
  intro x hi hx h
  rcases r.at i x hi with z | ⟨v,e,q⟩
  ·subst z;cases hx
  ·refine ⟨v,e,ρ,S,τ,R,r,aF (of_post h) .refl fun b S1 h1 ρ1 H1 y e1 R1 v1=>⟨ρ1,S1,x,b,R1,q.ext e1,v1,aF (of_post h1) e1 fun w S2 h2 ρ2 H2 z e2 R2 v2=>?_⟩⟩
   exact h2 ρ2 H2 _ (e1.trans e2) R2 ((r.ext (e1.trans e2)).set v2)
 unfold z_ o7 at h
 rw [List.getD_eq_getElem?_getD] at h
 cases hi:τ[i]? with
 | none=>rw [hi] at h;exact h.elim
 | some x=>
  rw [hi] at h
  cases hx:x.di with
  | true=>rw [show (some x).getD .dY=x from rfl,hx] at h;exact h.elim
  | false=>rw [show (some x).getD .dY=x from rfl,hx] at h;exact key x hi hx h
def DX (a b:A) (S:aA):R A:=match a,b with
 | .ref n,.int i=>opt (ak S n) fun xs=>gd (0 <= i) (opt (xs[i.toNat]?) fun x=>.ok x S)
 | _,_=>.no
def Jh (co ci ce:Ex) (f:A -> A -> aA -> R A):Sm:=fun τ S=>.of (co τ S) fun o S1=>.of (ci τ S1) fun i S2=>.of (DX o i S2) fun x S3=>.of (ce τ S3) fun y S4=>.of (f x y S4) fun z S5=>.of (su o i z S5) fun _ S6=>.nx τ S6
def dU (t:Te) (c:Sm):Nat -> Sm
 | 0=>fun _ _=>.no
 | n + 1=>fun τ S=>.of (t τ S) fun b S1=>match b with
  | false=>.nx τ S1
  | true=>match c τ S1 with
   | .nx τ' S'=>dU t c n τ' S'
   | .ct τ' S'=>dU t c n τ' S'
   | .bk τ' S'=>.nx τ' S'
   | r=>r
theorem rX (n:Nat) {t:Te} {body:List Stmt} (hp:PassesOwn (model X.prog X.w) X.A X.env X.xe) (ht:AT X e t) (hb:A9 X body c):AS X (.While e body [] pos) (dU t c n):=PS.imp (A7 hp ht hb) fun D σ H ⟨ρ,S,τ,R,r,h⟩=>by
 refine ⟨fun m σ' H'=>∃ ρ' S' τ',Ext ρ ρ' H H' /\ Rel X.K ρ' H' S' /\ SR X.K ρ' H' τ' σ' /\ o7 X ρ' H' D (dU t c m τ' S'),⟨n,ρ,S,τ,.refl,R,r,h⟩,?_⟩
 rintro m σ1 H1 ⟨ρ1,S1,τ1,e1,R1,r1,h1⟩
 cases m with
 | zero=>exact h1.elim
 | succ m=>
  refine ⟨ρ1,S1,τ1,R1,r1,aF (of_post h1) .refl fun b S2 h2 ρ2 H2 e2 R2=>?_⟩
  cases b with
  | false=>rw [if_neg Bool.false_ne_true];exact h2 ρ2 H2 σ1 e2 R2 (r1.ext e2)
  | true=>
   rw [if_pos rfl]
   refine ⟨fun σ' H'=>∃ ρ' S' τ',Ext ρ ρ' H H' /\ Rel X.K ρ' H' S' /\ SR X.K ρ' H' τ' σ' /\ o7 X ρ' H' D (dU t c m τ' S'),fun σ' H' z=>⟨m,Nat.lt_succ_self _,z⟩,ρ2,S2,τ1,R2,r1.ext e2,?_⟩
   have h2:o7 X ρ1 H1 D (match c τ1 S2 with
    | .nx τ' S'=>dU t c m τ' S'
    | .ct τ' S'=>dU t c m τ' S'
    | .bk τ' S'=>.nx τ' S'
    | r=>r):=h2
   cases hc:c τ1 S2 with
   | nx τ3 S3=>rw [hc] at h2;exact fun ρ3 H3 σ3 e3 R3 r3=>⟨ρ3,S3,τ3,(e1.trans e2).trans e3,R3,r3,o7.ext h2 (e2.trans e3)⟩
   | ct τ3 S3=>rw [hc] at h2;exact fun ρ3 H3 σ3 e3 R3 r3=>⟨ρ3,S3,τ3,(e1.trans e2).trans e3,R3,r3,o7.ext h2 (e2.trans e3)⟩
   | bk τ3 S3=>rw [hc] at h2;exact qi.ext h2 e2
   | rt a S3=>rw [hc] at h2;exact kJ.ext h2 e2
   | ex x S3=>rw [hc] at h2;exact XE.ext h2 e2
   | no=>rw [hc] at h2;exact h2
end
end Am
namespace L2
open PySem PySem.Spec PyProof.Rows
section
variable {X:Cx}
end
end L2
namespace Am
open PySem PySem.Spec PyProof.Rows L2
section
variable {X:Cx}
end
end Am
namespace Am
open PySem PySem.Spec PyProof.Rows L2
section
variable {X:Cx} {o e:Expr} {p2 spos pos:Pos} {co ci:Ex}
end
end Am
namespace Am
open PySem PySem.Spec PyProof.Rows L2
structure Src where
 k:Nat
 get:Nat -> aA -> Option A
 fin:aA -> Bool
structure JR (K:PySem.W.Frag) (s:Src) (J:It) (ρ0:List Addr) (H0:Hp):Prop where
 go:∀ (i:Nat) (S:aA) (H:Hp) (ρ:List Addr) (x:A),Ext0 ρ0 ρ H0 H -> Rel K ρ H S -> s.get i S=some x -> J.go i H /\ ∀ v H',J.yld i H v H' -> Ext ρ ρ H H' /\ Rel K ρ H' S /\ AV K ρ H' x v
 stop:∀ (S:aA) (H:Hp) (ρ:List Addr),Ext0 ρ0 ρ H0 H -> Rel K ρ H S -> s.fin S=true -> J.stop s.k H
abbrev Ic:=List A -> aA -> R Src
def tI (X:Cx) (c:Ic):TI:=fun σ H Q=>∃ ρ S τ,Rel X.K ρ H S /\ SR X.K ρ H τ σ /\ (c τ S).post (fun s S'=>∀ ρ' H' J,Ext ρ ρ' H H' -> Rel X.K ρ' H' S' -> JR X.K s J ρ' H' -> Q J H') (XE X ρ H)
def AI (X:Cx) (tg iter:Expr) (c:Ic):Prop:=PI X tg iter (tI X c)
def kM (xs:List A):Src:=⟨xs.length,fun i _=>xs[i]?,fun _=>true⟩
def gH (n k:Nat):Src:=⟨k,fun i S=>(ak S n).bind (·[i]?),fun S=>match ak S n with
 | some ys=>decide (ys.length <= k)
 | none=>false⟩
def cZ (lo hi:Int):Src:=⟨(hi - lo).toNat,fun i _=>if i < (hi - lo).toNat then some (.int (lo + i)) else none,fun _=>true⟩
def kP (c:Ex):Ic:=fun τ S=>(c τ S).bind fun a S1=>match a with
 | .tup xs=>.ok (kM xs) S1
 | .frz xs=>.ok (kM xs) S1
 | .ref n=>opt (ak S1 n) fun xs=>.ok (gH n xs.length) S1
 | .str x=>gd (x.cps.all (· < 128)=true) (.ok (kM (x.cps.toList.map fun c=>.str ⟨#[c]⟩)) S1)
 | _=>.no
section
variable {X:Cx} {pos:Pos} {tg e a b:Expr}
theorem Ik {K:PySem.W.Frag} {ρ0:List Addr} {H0:Hp} {p:Addr} {xs:List A} {vs:List V} (h:dg K H0 p vs) (r:AVs K ρ0 H0 xs vs):JR K (kM xs) (Lu K p) ρ0 H0 where
 go:=fun i S H ρ x e R g=>by
  obtain ⟨v,ev,av⟩:=(AVs.dR e r).get g
  have hs:=e.LO h
  refine ⟨⟨vs,v,hs,ev⟩,fun w H' ⟨e1,y⟩=>?_⟩
  subst e1
  have:=y vs hs
  rw [ev] at this
  cases this
  exact ⟨.refl,R,av⟩
 stop:=fun S H ρ e R _=>⟨vs,e.LO h,by rw [<- r.length];exact Nat.le_refl _⟩
theorem Ij {K:PySem.W.Frag} {ρ0:List Addr} {H0:Hp} {p:Addr} {xs:List A} {vs:List V} (h:Fz K H0 p vs) (r:AVs K ρ0 H0 xs vs):JR K (kM xs) (Kh K p) ρ0 H0 where
 go:=fun i S H ρ x e R g=>by
  obtain ⟨v,ev,av⟩:=(AVs.dR e r).get g
  have hs:=(e.fz h).CK
  refine ⟨⟨vs,v,hs,ev⟩,fun w H' ⟨e1,y⟩=>?_⟩
  subst e1
  have:=y vs hs
  rw [ev] at this
  cases this
  exact ⟨.refl,R,av⟩
 stop:=fun S H ρ e R _=>⟨vs,(e.fz h).CK,by rw [<- r.length];exact Nat.le_refl _⟩
theorem Gk {K:PySem.W.Frag} {ρ0:List Addr} {H0:Hp} {p:Addr} {n k:Nat} (h:ρ0[n]?=some p):JR K (gH n k) (Kh K p) ρ0 H0 where
 go:=fun i S H ρ x e R g=>by
  obtain ⟨ys,hn,hx⟩:=Option.bind_eq_some_iff.mp (show (ak S n).bind (·[i]?)=some x from g)
  obtain ⟨vs,h1,r⟩:=R.lst (e.get h) (aQ hn)
  obtain ⟨v,ev,av⟩:=r.get hx
  refine ⟨⟨vs,v,fF.of h1,ev⟩,fun w H' ⟨e1,y⟩=>?_⟩
  subst e1
  have:=y vs (fF.of h1)
  rw [ev] at this
  cases this
  exact ⟨.refl,R,av⟩
 stop:=fun S H ρ e R g=>by
  have g:(match ak S n with
   | some ys=>decide (ys.length <= k)
   | none=>false)=true:=g
  cases hn:ak S n with
  | none=>rw [hn] at g;cases g
  | some ys=>
   rw [hn] at g
   obtain ⟨vs,h1,r⟩:=R.lst (e.get h) (aQ hn)
   exact ⟨vs,fF.of h1,by rw [<- r.length];exact of_decide_eq_true g⟩
theorem CH {K:PySem.W.Frag} {ρ0:List Addr} {H0:Hp} {lo hi:Int}:JR K (cZ lo hi) (IS lo (hi - lo).toNat) ρ0 H0 where
 go:=fun i S H ρ x e R g=>by
  have g:(if i < (hi - lo).toNat then some (A.int (lo + i)) else none)=some x:=g
  by_cases hi':i < (hi - lo).toNat
  ·rw [if_pos hi'] at g
   cases g
   refine ⟨hi',fun w H' ⟨e1,y⟩=>?_⟩
   subst e1 y
   exact ⟨.refl,R,.int _⟩
  ·rw [if_neg hi'] at g;cases g
 stop:=fun S H ρ e R _=>Nat.le_refl _
theorem Gp {K:PySem.W.Frag} {ρ0:List Addr} {H0:Hp} {x:Str}:JR K (kM (x.cps.toList.map fun c=>A.str ⟨#[c]⟩)) (K8 x) ρ0 H0 where
 go:=fun i S H ρ y e R g=>by
  have g:(x.cps.toList.map fun c=>A.str ⟨#[c]⟩)[i]?=some y:=g
  rw [List.getElem?_map] at g
  obtain ⟨c,hc,rfl⟩:=Option.map_eq_some_iff.mp g
  rw [Array.getElem?_toList] at hc
  refine ⟨(Array.getElem?_eq_some_iff.mp hc).1,fun w H' ⟨e1,c',hc',y'⟩=>?_⟩
  rw [hc] at hc'
  cases hc'
  subst e1 y'
  exact ⟨.refl,R,.str _⟩
 stop:=fun S H ρ e R _=>by
  show (x.cps.toList.map fun c=>A.str ⟨#[c]⟩).length=x.cps.size
  rw [List.length_map,Array.length_toList]
theorem jU {c:Ex} (he:AE X e c):AI X tg e (kP c):=fun pins s σ H Q I ⟨ρ,S,τ,R,r,h⟩=>by
 have hb:=aH h
 cases hc:c τ S with
 | no=>rw [hc] at hb;exact hb.elim
 | ex x S1=>
  rw [hc] at hb
  exact By he pins s σ H Q I ⟨ρ,S,τ,R,r,by rw [hc];exact hb⟩
 | ok a S1=>
  rw [hc] at hb
  cases a with
  | tup xs=>
   refine By he pins s σ H Q I ⟨ρ,S,τ,R,r,?_⟩
   rw [hc]
   intro ρ1 H1 x e1 R1 v1
   cases v1 with
   | tup h1 r1=>exact ⟨_,rfl,⟨_,(dg.of h1)⟩,hb ρ1 H1 _ e1 R1 (Ik (dg.of h1) r1)⟩
  | frz xs=>
   refine vn he pins s σ H Q I ⟨ρ,S,τ,R,r,?_⟩
   rw [hc]
   intro ρ1 H1 x e1 R1 v1
   cases v1 with
   | frz h1 r1=>exact ⟨_,rfl,⟨_,h1.CK⟩,hb ρ1 H1 _ e1 R1 (Ij h1 r1)⟩
  | ref n=>
   obtain ⟨xs,hn,hb⟩:=aK hb
   refine vn he pins s σ H Q I ⟨ρ,S,τ,R,r,?_⟩
   rw [hc]
   intro ρ1 H1 x e1 R1 v1
   cases v1 with
   | ref hp=>
    obtain ⟨vs,h1,r1⟩:=R1.lst hp (aQ hn)
    exact ⟨_,rfl,⟨_,fF.of h1⟩,hb ρ1 H1 _ e1 R1 (Gk hp)⟩
  | str x=>
   obtain ⟨ha,hb⟩:=bg hb
   refine HL he pins s σ H Q I ⟨ρ,S,τ,R,r,?_⟩
   rw [hc]
   intro ρ1 H1 v e1 R1 v1
   cases v1 with
   | str=>exact ⟨x,rfl,ha,hb ρ1 H1 _ e1 R1 Gp⟩
  | _=>exact hb.elim
def bnd (i:Int):Prop:=-(2 ^ 62) <= i /\ i < 2 ^ 62
instance (i:Int):Decidable (bnd i):=by unfold bnd;infer_instance
def gZ (c:Ex):Ic:=fun τ S=>(c τ S).bind fun a S1=>match a with
 | .int j=>gd (bnd j) (.ok (cZ 0 j) S1)
 | _=>.no
def fJ (c d:Ex):Ic:=fun τ S=>(c τ S).bind fun a S1=>(d τ S1).bind fun b S2=>match a,b with
 | .int i,.int j=>gd (bnd i /\ bnd j) (.ok (cZ i j) S2)
 | _,_=>.no
theorem fU {p:Pos} {c:Ex} (hm:X.mg "range" = none) (ha:AE X a c) (hg:Gl X "range" := by rfl) (hs:starEach [a] X.env=[(false,eval a X.env)]:=by rfl):AI X tg (.Call (.Name "range" p) [a] [] pos) (gZ c):=fun pins s σ H Q I ⟨ρ,S,τ,R,r,h⟩=>by
 refine yF hg hm (gu ha lF hs) hs pins s σ H Q I ⟨ρ,S,τ,R,r,aF (aH h) .refl fun x S1 h1 ρ1 H1 v e1 R1 v1=>?_⟩
 cases v1 with
 | int j=>
  obtain ⟨hb,h1⟩:=bg h1
  exact ⟨_,rfl,hb.1,hb.2,by have:=h1 ρ1 H1 _ e1 R1 CH;rwa [Int.sub_zero] at this⟩
 | _=>exact h1.elim
theorem gO {p:Pos} {c d:Ex} (hm:X.mg "range" = none) (ha:AE X a c) (hb:AE X b d) (hg:Gl X "range" := by rfl) (hs:starEach [a,b] X.env=[(false,eval a X.env),(false,eval b X.env)]:=by rfl) (hs2:starEach [b] X.env=[(false,eval b X.env)]:=by rfl):AI X tg (.Call (.Name "range" p) [a,b] [] pos) (fJ c d):=fun pins s σ H Q I ⟨ρ,S,τ,R,r,h⟩=>by
 refine yz hg hm (gu ha (gu hb lF hs2) (by rw [hs,hs2])) hs hs2 pins s σ H Q I ⟨ρ,S,τ,R,r,aF (aH h) .refl fun x S1 h1 ρ1 H1 v e1 R1 v1=>⟨ρ1,S1,τ,R1,r.ext e1,aF (aH h1) e1 fun y S2 h2 ρ2 H2 w e2 R2 v2=>?_⟩⟩
 cases v1 with
 | int i=>
  cases v2 with
  | int j=>
   obtain ⟨hb,h2⟩:=bg h2
   exact ⟨_,_,rfl,⟨hb.1.1,hb.1.2,hb.2.1,hb.2.2⟩,h2 ρ2 H2 _ (e1.trans e2) R2 CH⟩
  | _=>exact h2.elim
 | _=>exact h2.elim
def gq (s:Src) (g:Tg) (c:Sm):Nat -> Nat -> Sm
 | 0,_=>fun τ S=>if s.fin S then .nx τ S else .no
 | k + 1,i=>fun τ S=>match s.get i S with
  | none=>.no
  | some x=>.of (g x τ S) fun τ1 S1=>match c τ1 S1 with
   | .nx τ' S'=>gq s g c k (i + 1) τ' S'
   | .ct τ' S'=>gq s g c k (i + 1) τ' S'
   | .bk τ' S'=>.nx τ' S'
   | r=>r
def kD (src:Ic) (g:Tg) (c:Sm):Sm:=fun τ S=>.of (src τ S) fun s S1=>gq s g c s.k 0 τ S1
theorem iM {iter:Expr} {body:List Stmt} {src:Ic} {g:Tg} {c:Sm} (hp:PassesOwn (model X.prog X.w) X.A X.env X.xe) (hc:X.calm=true) (hi:AI X tg iter src) (hg:AG X tg g) (hb:A9 X body c)
  (hs:∀ x,foldedSetIterable iter X.env x=pure x:=by intro _;rfl):AS X (.For tg iter body [] pos) (kD src g c):=PS.imp (HB hp hc hi hg hb hs) fun D σ H ⟨ρ,S,τ,R,r,h⟩=>by
 refine ⟨ρ,S,τ,R,r,aF (of_post h) .refl fun s S1 h1 ρ1 H1 J e1 R1 jr=>?_⟩
 refine ⟨fun i m σ' H'=>m + i=s.k /\ ∃ ρ' S' τ',Ext ρ1 ρ' H1 H' /\ Rel X.K ρ' H' S' /\ SR X.K ρ' H' τ' σ' /\ o7 X ρ' H' D (gq s g c m i τ' S'),⟨s.k,rfl,ρ1,S1,τ,.refl,R1,r.ext e1,o7.ext h1 e1⟩,?_⟩
 rintro i m σ2 H2 ⟨hm,ρ2,S2,τ2,e2,R2,r2,h2⟩
 cases m with
 | zero=>
  left
  have h2:o7 X ρ2 H2 D (if s.fin S2 then .nx τ2 S2 else .no):=h2
  cases hf:s.fin S2 with
  | false=>rw [hf] at h2;exact h2.elim
  | true=>
   rw [hf] at h2
   refine ⟨by rw [show i=s.k by omega];exact jr.stop S2 H2 ρ2 e2.toExt0 R2 hf,h2 ρ2 H2 σ2 .refl R2 r2⟩
 | succ m=>
  right
  have h2:o7 X ρ2 H2 D (match s.get i S2 with
   | none=>.no
   | some x=>.of (g x τ2 S2) fun τ1 S1=>match c τ1 S1 with
    | .nx τ' S'=>gq s g c m (i + 1) τ' S'
    | .ct τ' S'=>gq s g c m (i + 1) τ' S'
    | .bk τ' S'=>.nx τ' S'
    | r=>r):=h2
  cases hx:s.get i S2 with
  | none=>rw [hx] at h2;exact h2.elim
  | some x=>
   rw [hx] at h2
   obtain ⟨hgo,hy⟩:=jr.go i S2 H2 ρ2 x e2.toExt0 R2 hx
   refine ⟨hgo,fun σ' H'=>m + (i + 1)=s.k /\ ∃ ρ' S' τ',Ext ρ1 ρ' H1 H' /\ Rel X.K ρ' H' S' /\ SR X.K ρ' H' τ' σ' /\ o7 X ρ' H' D (gq s g c m (i + 1) τ' S'),fun σ' H' z=>⟨m,Nat.lt_succ_self _,z⟩,fun v H3 y=>?_⟩
   obtain ⟨e3,R3,v3⟩:=hy v H3 y
   refine ⟨ρ2,S2,τ2,x,R3,r2.ext e3,v3,aF (of_post h2) e3 fun τ4 S4 h4 ρ4 H4 σ4 e4 R4 r4=>⟨ρ4,S4,τ4,R4,r4,?_⟩⟩
   have e24:=e3.trans e4
   cases hcc:c τ4 S4 with
   | nx τ5 S5=>rw [hcc] at h4;exact fun ρ5 H5 σ5 e5 R5 r5=>⟨by omega,ρ5,S5,τ5,(e2.trans e24).trans e5,R5,r5,o7.ext h4 (e24.trans e5)⟩
   | ct τ5 S5=>rw [hcc] at h4;exact fun ρ5 H5 σ5 e5 R5 r5=>⟨by omega,ρ5,S5,τ5,(e2.trans e24).trans e5,R5,r5,o7.ext h4 (e24.trans e5)⟩
   | bk τ5 S5=>rw [hcc] at h4;exact qi.ext h4 e24
   | rt x5 S5=>rw [hcc] at h4;exact kJ.ext h4 e24
   | ex x5 S5=>rw [hcc] at h4;exact XE.ext h4 e24
   | no=>rw [hcc] at h4;exact h4
end
end Am
namespace Am
open PySem PySem.Spec PyProof.Rows L2
section
variable {X:Cx} {tg a b c0:Expr} {pos:Pos}
end
end Am
namespace Am
open PySem PySem.Spec PyProof.Rows L2
def R.ee {α β:Type} (r:R α) (f:α -> aA -> R β):R β:=match r with
 | .ok a S=>f a S
 | _=>.no
theorem cH {α β:Type} {r:R α} {f:α -> aA -> R β} {b:β} {S2:aA} (h:r.ee f=.ok b S2):∃ a S,r=.ok a S /\ f a S=.ok b S2:=by
 cases r with
 | ok a S=>exact ⟨a,S,rfl,h⟩
 | ex _ _=>cases h
 | no=>cases h
theorem oF {α β:Type} {r:R α} {f:α -> aA -> R β} {P:β -> aA -> Prop} {E:Str -> aA -> Prop} (h:(r.ee f).post P E):∃ a S,r=.ok a S /\ (f a S).post P E:=by
 cases r with
 | ok a S=>exact ⟨a,S,rfl,h⟩
 | ex _ _=>exact h.elim
 | no=>exact h.elim
theorem uX {α β:Type} {o:Option β} {f:β -> R α} {a:α} {S:aA} (h:opt o f=.ok a S):∃ b,o=some b /\ f b=.ok a S:=by
 cases o with
 | none=>cases h
 | some b=>exact ⟨b,rfl,h⟩
def gf (s:Src) (g:Tg) (t:Te) (e:Ex):Nat -> Nat -> List A -> aA -> R (List A)
 | 0,_=>fun _ S=>if s.fin S then .ok [] S else .no
 | k + 1,i=>fun τ S=>opt (s.get i S) fun x=>(g x τ S).ee fun τ1 S1=>(t τ1 S1).ee fun b S2=>match b with
  | true=>(e τ1 S2).ee fun y S3=>(gf s g t e k (i + 1) τ1 S3).ee fun ys S4=>.ok (y :: ys) S4
  | false=>gf s g t e k (i + 1) τ1 S2
def gk (cap:List (Option Nat)) (τ:List A):List A:=cap.map fun o=>match o with
 | some j=>τ.getD j .dY
 | none=>.dY
def fC (cap:List (Option Nat)) (src:Ic) (g:Tg) (t:Te) (e:Ex):Ex:=fun τ S=>(src τ S).bind fun s S1=>(gf s g t e s.k 0 (gk cap τ) S1).ee fun ys S2=>newL ys S2
def oK:Te:=fun _ S=>.ok true S
theorem sE {s:Src} {g:Tg} {t:Te} {e:Ex} {k i:Nat} {τ:List A} {S S':aA} {zs:List A} (h:gf s g t e (k + 1) i τ S=.ok zs S') :
  ∃ x τ1 S1 b S2,s.get i S=some x /\ g x τ S=.ok τ1 S1 /\ t τ1 S1=.ok b S2 /\ (b=true -> ∃ y S3 ws,e τ1 S2=.ok y S3 /\ gf s g t e k (i + 1) τ1 S3=.ok ws S' /\ zs=y :: ws) /\ (b=false -> gf s g t e k (i + 1) τ1 S2=.ok zs S'):=by
 obtain ⟨x,hx,h⟩:=uX h
 obtain ⟨τ1,S1,h1,h⟩:=cH h
 obtain ⟨b,S2,h2,h⟩:=cH h
 refine ⟨x,τ1,S1,b,S2,hx,h1,h2,fun hb=>?_,fun hb=>?_⟩
 ·subst hb
  obtain ⟨y,S3,h3,h⟩:=cH h
  obtain ⟨ws,S4,h4,h⟩:=cH h
  cases h
  exact ⟨y,S3,ws,h3,h4,rfl⟩
 ·subst hb;exact h
def JO (K:PySem.W.Frag) (c:Ex):TE:=fun σ H Q=>∃ ρ S τ a S',Rel K ρ H S /\ SR K ρ H τ σ /\ c τ S=.ok a S' /\ ∀ ρ' H' v,Ext ρ ρ' H H' -> Rel K ρ' H' S' -> AV K ρ' H' a v -> Q v H'
def HU (K:PySem.W.Frag) (c:Te):TT:=fun σ H Q=>∃ ρ S τ a S',Rel K ρ H S /\ SR K ρ H τ σ /\ c τ S=.ok a S' /\ ∀ ρ' H',Ext ρ ρ' H H' -> Rel K ρ' H' S' -> Q a H'
def Im (K:PySem.W.Frag) (g:Tg):TG:=fun v σ H Q=>∃ ρ S τ a τ' S',Rel K ρ H S /\ SR K ρ H τ σ /\ AV K ρ H a v /\ g a τ S=.ok τ' S' /\ ∀ ρ' H' σ',Ext ρ ρ' H H' -> Rel K ρ' H' S' -> SR K ρ' H' τ' σ' -> Q σ' H'
section
variable {X:Cx} {pos:Pos} {tg iter elt e:Expr} {ifs:List Expr} {scope:Scope} {N:List Str} {cap:List (Option Nat)} {src:Ic} {g:Tg} {t:Te} {c:Ex}
theorem AE.e0 {K:PySem.W.Frag} (hK:X.K=K) (h:AE X e c):PE X e (JO K c):=PE.imp h fun σ H Q ⟨ρ,S,τ,a,S',R,r,hc,q⟩=>⟨ρ,S,τ,by rw [hK];exact R,by rw [hK];exact r,by rw [hc];exact fun ρ' H' v e R' v'=>q ρ' H' v e (by rw [<- hK];exact R') (by rw [<- hK];exact v')⟩
theorem AT.t0 {K:PySem.W.Frag} (hK:X.K=K) (h:AT X e t):PT X e (HU K t):=PT.imp h fun σ H Q ⟨ρ,S,τ,a,S',R,r,hc,q⟩=>⟨ρ,S,τ,by rw [hK];exact R,by rw [hK];exact r,by rw [hc];exact fun ρ' H' e R'=>q ρ' H' e (by rw [<- hK];exact R')⟩
theorem AG.g0 {K:PySem.W.Frag} (hK:X.K=K) (h:AG X e g):PG X e (Im K g):=PG.imp h fun v σ H Q ⟨ρ,S,τ,a,τ',S',R,r,va,hc,q⟩=>⟨ρ,S,τ,a,by rw [hK];exact R,by rw [hK];exact r,by rw [hK];exact va,by rw [hc];exact fun ρ' H' v e R' v'=>q ρ' H' v e (by rw [<- hK];exact R') (by rw [<- hK];exact v')⟩
def Ir (X:Cx) (ifs:List Expr) (t:Te):Prop:=C1 X ifs (HU X.K t)
theorem mW:Ir X [] oK:=fun pins s σ H Q I ⟨ρ,S,τ,a,S',R,r,hc,q⟩=>Eu pins s σ H Q I (by cases hc;exact q ρ H .refl R)
theorem jj (h:AT X e t):Ir X [e] t:=DQ (h.t0 rfl)
theorem EZ {K:PySem.W.Frag} {ρ:List Addr} {H:Hp} {τ:List A} {σ:L2.St} (r:SR K ρ H τ σ) (cap:List (Option Nat)):SR K ρ H (gk cap τ) (cap.map (DH σ)):=by
 refine ⟨by simp [gk],fun i a h=>?_⟩
 unfold gk at h
 rw [List.getElem?_map] at h
 obtain ⟨o,ho,e⟩:=Option.map_eq_some_iff.mp h
 cases o with
 | none=>exact .inl e.symm
 | some j=>
  have e:τ.getD j .dY=a:=e
  cases hj:τ[j]? with
  | none=>rw [List.getD_eq_getElem?_getD,hj] at e;exact .inl e.symm
  | some b=>
   rw [List.getD_eq_getElem?_getD,hj] at e
   have e:b=a:=e
   subst e
   rcases r.at j b hj with z | ⟨v,h1,h2⟩
   ·exact .inl z
   ·exact .inr ⟨v,by rw [List.getElem?_map,ho];show some ((σ[j]?).getD none)=_;rw [h1];rfl,h2⟩
theorem Rel.zC {K:PySem.W.Frag} {ρ:List Addr} {H:Hp} {S:aA} {p:Addr} (R:Rel K ρ H S) (hp:H p=none):p ∉ ρ:=fun hm=>by
 obtain ⟨n,hn,e⟩:=List.mem_iff_getElem.mp hm
 have hl:n < S.length:=by rw [<- R.len];exact hn
 have:=R.at n p S[n] (by rw [List.getElem?_eq_getElem hn,e]) (List.getElem?_eq_getElem hl)
 cases ho:S[n] with
 | lst xs=>rw [ho] at this;obtain ⟨vs,h,_⟩:=this;rw [hp] at h;cases h
 | dct _ | dki _=>rw [ho] at this;obtain ⟨vs,h,_⟩:=this;rw [hp] at h;cases h
 | ins _ _=>rw [ho] at this;obtain ⟨_,_,h⟩:=this;rw [hp] at h;cases h
theorem rL (σ:L2.St) (H:Hp) (Q:VK) (h:tE X (fC cap src g t c) σ H Q):JV cap (tI X src) (Im X.K g) (HU X.K t) (JO X.K c) σ H Q:=by
 obtain ⟨ρ,S,τ,R,r,h⟩:=h
 refine ⟨ρ,S,τ,R,r,aF (aH h) .refl fun s S1 h1 ρ1 H1 J e1 R1 jr D hD=>?_⟩
 obtain ⟨ys,S2,hcg,h1⟩:=oF h1
 obtain ⟨hlen,h1⟩:=bg h1
 have h1:kJ X ρ H Q (.ref S2.length) (S2 ++ [.lst ys]):=h1
 obtain ⟨eD,RD⟩:=R1.im (u:=.lst []) hD
 have nD:=R1.zC hD
 refine ⟨fun i m σ' H'=>m + i=s.k /\ ∃ ρ' S' τ' acc zs accV,Ext0 ρ1 ρ' H1 H' /\ (∀ a u,a ≠ D -> H1 a=some u -> a ∉ ρ1 -> H' a=some u) /\ (∀ a ∈ ρ',a ∈ ρ1 \/ H1 a=none) /\ D ∉ ρ' /\ H' D=some (.lst accV) /\ Rel X.K ρ' H' S' /\ SR X.K ρ' H' τ' σ' /\ AVs X.K ρ' H' acc accV /\ gf s g t c m i τ' S'=.ok zs S2 /\ acc ++ zs=ys,
  ⟨s.k,rfl,ρ1,S1,gk cap τ,[],ys,[],eD.toExt0,fun a u na hu _=>by rw [aM na];exact hu,fun a ha=>.inl ha,nD,bx,RD,(EZ ((r.ext e1).ext eD) cap),.nil,hcg,rfl⟩,?_⟩
 rintro i m σ3 H3 ⟨hm,ρ3,S3,τ3,acc,zs,accV,e3,fr3,nw3,nD3,hD3,R3,r3,ac3,cg3,eys⟩
 cases m with
 | zero=>
  left
  have cg3:(if s.fin S3 then Am.R.ok [] S3 else .no)=.ok zs S2:=cg3
  cases hf:s.fin S3 with
  | false=>rw [hf] at cg3;cases cg3
  | true=>
   rw [hf] at cg3
   cases cg3
   rw [List.append_nil] at eys
   subst eys
   refine ⟨by rw [show i=s.k by omega];exact jr.stop _ H3 ρ3 e3 R3 hf,?_⟩
   obtain ⟨RT,gt⟩:=R3.take hD3 nD3 ac3
   refine h1 (ρ3 ++ [D]) H3 _ (e1.trans ⟨⟨e3.pre.trans (List.prefix_append _ _),e3.im⟩,fun a u hu na=>fr3 a u (a_ hu hD) hu na,fun a ha=>?_⟩) RT (.ref gt)
   rcases List.mem_append.mp ha with z | z
   ·exact nw3 a z
   ·have:a=D:=by simpa using z
    rw [this];exact .inr hD
 | succ m=>
  right
  obtain ⟨x,τ4,S4,b,S5,hx,hg4,ht5,hT,hF⟩:=sE cg3
  obtain ⟨hgo,hy⟩:=jr.go i S3 H3 ρ3 x e3 R3 hx
  refine ⟨hgo,fun v H4 y=>?_⟩
  obtain ⟨e4,R4,v4⟩:=hy v H4 y
  refine ⟨ρ3,S3,τ3,x,τ4,S4,R4,r3.ext e4,v4,hg4,fun ρ5 H5 σ5 e5 R5 r5=>?_⟩
  refine ⟨ρ5,S4,τ4,b,S5,R5,r5,ht5,fun ρ6 H6 e6 R6=>?_⟩
  have e36:=(e4.trans e5).trans e6
  have stay:∀ {ρ7:List Addr} {H7:Hp},Ext ρ3 ρ7 H3 H7 -> Ext0 ρ1 ρ7 H1 H7 /\ (∀ a u,a ≠ D -> H1 a=some u -> a ∉ ρ1 -> H7 a=some u) /\ (∀ a ∈ ρ7,a ∈ ρ1 \/ H1 a=none) /\ D ∉ ρ7 /\ H7 D=some (.lst accV):=fun {ρ7 H7} e7=>by
   refine ⟨⟨e3.pre.trans e7.pre,fun a u i h=>e7.im a u i (e3.im a u i h)⟩,fun a u na hu nr=>e7.fr a u (fr3 a u na hu nr) fun z=>(nw3 a z).elim nr fun z=>by (rw [z] at hu;cases hu),fun a ha=>?_,fun z=>(e7.nw D z).elim nD3 fun z=>by (rw [hD3] at z;cases z),e7.fr D _ hD3 nD3⟩
   by_cases hr:a ∈ ρ1
   ·exact .inl hr
   ·right
    cases q:H1 a with
    | none=>rfl
    | some u=>
     have aD:a ≠ D:=a_ q hD
     rcases e7.nw a ha with z | z
     ·exact ((nw3 a z).elim hr fun z=>by (rw [z] at q;cases q)).elim
     ·rw [fr3 a u aD q hr] at z;cases z
  cases b with
  | false=>
   dsimp only
   rw [if_neg Bool.false_ne_true]
   obtain ⟨g1,g2,g3,g4,g5⟩:=stay e36
   exact ⟨m,Nat.lt_succ_self _,by omega,ρ6,S5,τ4,acc,zs,accV,g1,g2,g3,g4,g5,R6,r5.ext e6,ac3.ext e36,hF rfl,eys⟩
  | true=>
   dsimp only
   rw [if_pos rfl]
   obtain ⟨y,S6,ws,he6,cg6,ezs⟩:=hT rfl
   refine ⟨ρ6,S5,τ4,y,S6,R6,r5.ext e6,he6,fun ρ7 H7 w e7 R7 v7=>?_⟩
   obtain ⟨g1,g2,g3,g4,g5⟩:=stay (e36.trans e7)
   obtain ⟨ex8,R8⟩:=R7.out (ws:=accV ++ [w]) g5 g4
   have l1:=ac3.length
   refine ⟨accV,g5,?_,m,Nat.lt_succ_self _,by omega,ρ7,S6,τ4,acc ++ [y],ws,accV ++ [w],?_,fun a u na hu nr=>by rw [aM na];exact g2 a u na hu nr,g3,g4,bx,R8,(r5.ext (e6.trans e7)).dR ex8,(AVs.dR ex8 ((ac3.ext (e36.trans e7)).append (.one v7))),cg6,?_⟩
   ·have:(acc ++ zs).length <= sizeLine:=by rw [eys];exact hlen
    rw [ezs,List.length_append,List.length_cons] at this
    omega
   ·exact ⟨g1.pre,fun a u i h=>ex8.im a u i (g1.im a u i h)⟩
   ·rw [List.append_assoc,<- eys,ezs];rfl
theorem i_ (hc:X.calm=true) (Sc:CpScope X scope N cap) (hi:AI X tg iter src) (hg:∀ C s₀ H₀ ex,AG (bL X scope N C s₀ H₀ ex) tg g) (ht:∀ C s₀ H₀ ex,Ir (bL X scope N C s₀ H₀ ex) ifs t) (he:∀ C s₀ H₀ ex,AE (bL X scope N C s₀ H₀ ex) elt c)
  (hs:∀ x,foldedSetIterable iter X.env x=pure x:=by intro _;rfl):AE X (.ListComp elt [⟨tg,iter,ifs,0⟩] scope pos) (fC cap src g t c):=
 PE.imp (Jd hc Sc hi (g:=Im X.K g) (tc:=HU X.K t) (te:=JO X.K c) (fun C s₀ H₀ ex=>(hg C s₀ H₀ ex).g0 rfl) (fun C s₀ H₀ ex=>ht C s₀ H₀ ex) (fun C s₀ H₀ ex=>(he C s₀ H₀ ex).e0 rfl) hs) rL
theorem vf {i:Nat} {x:Str} {pos' spos:Pos} (hN:X.N.Nodup) (hc:X.calm=true) (Sc:CpScope X scope N cap) (hi:AI X tg iter src) (hg:∀ C s₀ H₀ ex,AG (bL X scope N C s₀ H₀ ex) tg g) (ht:∀ C s₀ H₀ ex,Ir (bL X scope N C s₀ H₀ ex) ifs t) (he:∀ C s₀ H₀ ex,AE (bL X scope N C s₀ H₀ ex) elt c)
  (hi':X.N[i]?=some x:=by rfl) (hx:Loc X.env.scope x:=by first | exact Or.inl rfl | exact Or.inr rfl)
  (hsw:swapsWith (.ListComp elt [⟨tg,iter,ifs,0⟩] scope pos) (some (.Name x pos')) spos.line X.env=pure true:=by rfl) (hf:X.fn x=true \/ X.env.scope.names.lookup x=some .local:=by first | exact .inl rfl | exact .inr rfl | assumption)
  (hs:∀ x,foldedSetIterable iter X.env x=pure x:=by intro _;rfl):AS X (.Assign [.Name x pos'] (.ListComp elt [⟨tg,iter,ifs,0⟩] scope pos) spos) (bC (fC cap src g t c) (cK i)):=
 PS.imp (Bb hN hi' hx hc Sc hi (g:=Im X.K g) (tc:=HU X.K t) (te:=JO X.K c) (fun C s₀ H₀ ex=>(hg C s₀ H₀ ex).g0 rfl) (fun C s₀ H₀ ex=>ht C s₀ H₀ ex) (fun C s₀ H₀ ex=>(he C s₀ H₀ ex).e0 rfl) hsw hf hs) fun D σ H ⟨ρ,S,τ,R,r,h⟩=>
  rL σ H _ ⟨ρ,S,τ,R,r,aF (of_post h) .refl fun a S1 h1 ρ1 H1 x e1 R1 v1=>h1 ρ1 H1 _ e1 R1 ((r.ext e1).set v1)⟩
end
end Am
namespace Am
open PySem PySem.Spec PyProof.Rows L2
def A.lst? (S:aA):A -> Option (List A)
 | .ref n=>ak S n
 | _=>none
def Gw (f:A -> List A -> aA -> R A) (co:Ex) (d:gP):Ex:=fun τ S=>(co τ S).bind fun o S1=>opt (o.lst? S1) fun _=>(d τ S1).bind fun as S2=>f o as S2
def KJ (f:A -> List A -> aA -> R A) (co:Ex):Ex:=fun τ S=>(co τ S).bind fun o S1=>opt (o.lst? S1) fun _=>f o [] S1
def rM (X:Cx) (f:A -> List A -> aA -> R A):V -> List V -> Hp -> VK -> Prop:=fun x vs H Q=>∃ ρ S o as,Rel X.K ρ H S /\ AV X.K ρ H o x /\ AVs X.K ρ H as vs /\ (f o as S).post (kJ X ρ H Q) (XE X ρ H)
section
variable {X:Cx} {pos apos cpos:Pos} {o e:Expr} {es:List Expr} {name:Str} {id:String} {f:A -> List A -> aA -> R A} {co:Ex} {d:gP}
theorem lst?_ty {K:PySem.W.Frag} {ρ:List Addr} {H:Hp} {S:aA} {x:A} {v:V} {xs:List A} (R:Rel K ρ H S) (h:AV K ρ H x v) (e:x.lst? S=some xs):KN K "list" v H:=by
 cases h with
 | ref h=>
  obtain ⟨vs,h1,_⟩:=R.lst h (aQ e)
  exact .inl ⟨rfl,vs,fF.of h1⟩
 | _=>cases e
theorem sC (slot:Slot "list" name id) (hty:typeOf (.builtin id)=pure (.type "method_descriptor")) (hm:Gm X id (rM X f)) (ho:AE X o co) (ha:AL X (e :: es) d)
  (hbase:attributeBase o name X.env (eval o X.env)=eval o X.env:=by rfl)
  (hfew:((backTo cpos (starEach (e :: es) X.env)).all (fun x=>!x.1) && (backToKw cpos (keywordEach [] X.env)).all (fun x=>x.1.isSome)
   && decide ((e :: es).length + ([]:List Keyword).length + (if ([]:List Keyword).isEmpty then 0 else 1) < 30))=true:=by rfl)
  (hline:(apos.endLine == cpos.line)=true:=by rfl) (hs:starEach (e :: es) X.env=(false,eval e X.env) :: starEach es X.env:=by rfl) (hplain:(backTo cpos (starEach es X.env)).any (·.1)=false:=by rfl) :
  AE X (.Call (.Attribute o name apos) (e :: es) [] cpos) (Gw f co d):=PE.imp (JD PySem.F.plainAttrs_list slot hty hm ho ha hbase hfew hline hs hplain) fun σ H Q ⟨ρ,S,τ,R,r,h⟩=>by
 refine ⟨ρ,S,τ,R,r,aF (aH h) .refl fun x S1 h1 ρ1 H1 v e1 R1 v1=>?_⟩
 obtain ⟨xs,hx,h1⟩:=aK h1
 refine ⟨lst?_ty R1 v1 hx,ρ1,S1,τ,R1,r.ext e1,aF (aH h1) e1 fun as S2 h2 ρ2 H2 vs e2 R2 v2=>?_⟩
 exact ⟨ρ2,S2,x,as,R2,v1.ext e2,v2,aF h2 (e1.trans e2) fun _ _ z=>z.ext (e1.trans e2)⟩
def jm (o:A) (as:List A) (S:aA):R A:=match o,as with
 | .ref n,[x]=>opt (ak S n) fun xs=>gd (xs.length < sizeLine) (.ok .non (S.set n (.lst (xs ++ [x]))))
 | _,_=>.no
theorem oA:Gm X "list.append" (rM X jm):=fun pins s σ H x vs v us Q I rx rv ⟨ρ,S,o,as,R,vo,va,h⟩=>by
 cases vo with
 | @ref p n hp=>
  match as,va,h with
  | [],_,h=>exact h.elim
  | _ :: _ :: _,_,h=>exact h.elim
  | [y],va,h=>
   obtain ⟨w,rfl,hw⟩:=yR va
   obtain ⟨xs,hn,h⟩:=aK h
   obtain ⟨hl,h⟩:=bg h
   obtain ⟨ws,h1,r⟩:=R.lst hp (aQ hn)
   obtain ⟨ex,R'⟩:=R.put hp (aQ hn) (r.append (.one hw))
   exact jb pins s σ H _ _ v us Q I rx rv ⟨p,ws,w,rfl,rfl,h1,by rw [<- r.length];exact hl,h _ _ _ ex R' .non⟩
 | _=>exact h.elim
end
def dO (N:List Str) (m:Sm) (as:List A) (S:aA):R A:=match m (as ++ List.replicate (N.length - as.length) .dY) S with
 | .rt a S'=>.ok a S'
 | .nx _ S'=>.ok .non S'
 | .ex c S'=>.ex c S'
 | _=>.no
def jY (K:PySem.W.Frag) (n:Nat) (F:List A -> aA -> R A):Sp:=fun vs H Q _=>vs.length=n /\ ∃ ρ S as a S',Rel K ρ H S /\ AVs K ρ H as vs /\ F as S=.ok a S' /\ ∀ ρ' H' v,Ext ρ ρ' H H' -> Rel K ρ' H' S' -> AV K ρ' H' a v -> Q v H'
theorem xV {K:PySem.W.Frag} {ρ:List Addr} {H:Hp} {as:List A} {vs:List V} (r:AVs K ρ H as vs) (N:List Str):SR K ρ H (as ++ List.replicate (N.length - as.length) .dY) (L2.start N vs):=by
 have hl:=r.length
 refine ⟨by unfold L2.start;simp [hl],fun i a h=>?_⟩
 by_cases hi:i < as.length
 ·rw [List.getElem?_append_left hi] at h
  obtain ⟨v,hv,av⟩:=r.get h
  exact .inr ⟨v,by unfold L2.start;rw [List.getElem?_append_left (by simp;omega),List.getElem?_map,hv];rfl,av⟩
 ·rw [List.getElem?_append_right (by omega),List.getElem?_replicate] at h
  split at h
  ·exact .inl (Option.some.inj h).symm
  ·cases h
section
variable {P:Program} {w:World} {K:PySem.W.Frag} {mg:Str -> Option Value} {base:Heap}
theorem mX {x qual:Str} {st:Stmt} {f:Addr} {fd:FuncData} {N ps:List Str} {k:Nat} {m:Sm} (F:Fun K x qual st f fd) (Sc:FnScope N ps (aC st))
  (body:∀ (cdv:Value) (A:Around) (outer:List Env) (s:Shared) (H:Hp) (E:XK),Room k (A.deeper (envOfC qual (aC st) s.heap.objs.size f cdv)) -> A9 (mF jh P w K mg base N qual (aC st) f cdv A outer s H E).JZ (aV st) m) :
  FnOk P w K mg base jh (k + 1) f fd ps (jY K ps.length (dO N m)):=by
 refine F.ok Sc (fun vs H Q E h=>h.1) fun cdv B outer s H vs Q E hr ⟨hl,ρ,S,as,a,S',R,va,hF,q⟩=>⟨_,body cdv B outer s H E hr,ρ,S,_,R,xV va N,?_⟩
 unfold dO at hF
 cases hm:m (as ++ List.replicate (N.length - as.length) .dY) S with
 | rt b S2=>rw [hm] at hF;cases hF;exact q
 | nx τ S2=>rw [hm] at hF;cases hF;exact fun ρ' H' σ' e R' _=>q ρ' H' _ e R' .non
 | bk τ S2=>rw [hm] at hF;cases hF
 | ct τ S2=>rw [hm] at hF;cases hF
 | ex c S2=>rw [hm] at hF;cases hF
 | no=>rw [hm] at hF;cases hF
end
abbrev fE (P:Program) (w:World) (K:PySem.W.Frag) (mg:Str -> Option Value) (base:Heap) (k:Nat) (x:Str) (ps:List Str) (F:List A -> aA -> R A):Prop:=Kn P w K mg base k x ps (jY K ps.length F)
def eFn (F:List A -> aA -> R A) (d:gP):Ex:=fun τ S=>(d τ S).bind fun as S1=>match F as S1 with
 | .ok a S2=>.ok a S2
 | _=>.no
section
variable {X:Cx} {pos p:Pos} {e:Expr} {es:List Expr} {x:Str} {ps:List Str} {k:Nat} {F:List A -> aA -> R A} {d:gP}
theorem bE (G:fE X.prog X.w X.K X.mg X.base k x ps F) (hr:Room k X.A) (ha:AL X (e :: es) d) (hl:∀ τ S as S',d τ S=.ok as S' -> as.length=ps.length) (hg:Gl X x:=by rfl) (hdb:(x == ("__debug__" : Str))=false:=by decide)
  (hs:starEach (e :: es) X.env=(false,eval e X.env) :: starEach es X.env:=by rfl) (hplain:(backTo pos (starEach es X.env)).any (·.1)=false:=by rfl):AE X (.Call (.Name x p) (e :: es) [] pos) (eFn F d):=
 PE.imp (JQ G hr ha hg hdb hs hplain) fun σ H Q ⟨ρ,S,τ,R,r,h⟩=>by
  refine ⟨ρ,S,τ,R,r,?_⟩
  have hb:=aH h
  cases hd:d τ S with
  | no=>rw [hd] at hb;exact hb
  | ex c S1=>rw [hd] at hb;exact hb
  | ok as S1=>
   rw [hd] at hb
   intro ρ1 H1 vs e1 R1 v1
   rw [List.append_nil]
   refine ⟨by rw [<- v1.length];exact hl τ S as S1 hd,ρ1,S1,as,?_⟩
   have hb:Am.R.post (match F as S1 with
    | .ok a S2=>.ok a S2
    | _=>.no) (kJ X ρ H Q) (XE X ρ H):=hb
   cases hF:F as S1 with
   | ok a S2=>rw [hF] at hb;exact ⟨a,S2,R1,v1,rfl,fun ρ2 H2 v e2=>hb ρ2 H2 v (e1.trans e2)⟩
   | ex c S2=>rw [hF] at hb;exact hb.elim
   | no=>rw [hF] at hb;exact hb.elim
theorem aS:∀ τ S as S',aI τ S=.ok as S' -> as.length=0:=fun τ S as S' h=>by cases h;rfl
theorem au {c:Ex} {d:gP} {n:Nat} (h:∀ τ S as S',d τ S=.ok as S' -> as.length=n):∀ τ S as S',aj c d τ S=.ok as S' -> as.length=n + 1:=fun τ S as S' e=>by
 unfold aj at e
 cases hc:c τ S with
 | ok a S1=>
  rw [hc] at e
  cases hd:d τ S1 with
  | ok bs S2=>
   have e:R.bind (d τ S1) (fun as S2=>.ok (a :: as) S2)=.ok as S':=e
   rw [hd] at e;cases e;rw [List.length_cons,h τ S1 bs _ hd]
  | ex _ _=>
   have e:R.bind (d τ S1) (fun as S2=>.ok (a :: as) S2)=.ok as S':=e
   rw [hd] at e;cases e
  | no=>
   have e:R.bind (d τ S1) (fun as S2=>.ok (a :: as) S2)=.ok as S':=e
   rw [hd] at e;cases e
 | ex _ _=>rw [hc] at e;cases e
 | no=>rw [hc] at e;cases e
end
end Am
namespace Am
open PySem PySem.Spec PyProof.Rows L2
section
variable {X:Cx} {pos:Pos} {a b c d:Expr}
def LH (f':A -> A -> aA -> R A) (cc:Ex) (τ:List A) (b k:A) (S:aA):R A:=match k with
 | .bl true=>(cc τ S).bind fun c S4=>f' b c S4
 | .bl false=>.ok (.bl false) S
 | _=>.no
def yE (f f':A -> A -> aA -> R A) (ca cb cc:Ex):Ex:=fun τ S=>(ca τ S).bind fun a S1=>(cb τ S1).bind fun b S2=>(f a b S2).bind fun k S3=>LH f' cc τ b k S3
theorem FL {f f':A -> A -> aA -> R A} {ca cb cc:Ex} {σ:L2.St} {H:Hp} {Q:VK} (h:tE X (yE f f' ca cb cc) σ H Q):zu (r2 X f) (r2 X f') (tE X ca) (tE X cb) (tE X cc) σ H Q:=by
 obtain ⟨ρ,S,τ,R,r,h⟩:=h
 refine ⟨ρ,S,τ,R,r,aF (aH h) .refl fun a S1 h1 ρ1 H1 x e1 R1 v1=>⟨ρ1,S1,τ,R1,r.ext e1,aF (aH h1) e1 fun b S2 h2 ρ2 H2 y e2 R2 v2=>?_⟩⟩
 have e12:=e1.trans e2
 refine ⟨ρ2,S2,a,b,R2,v1.ext e2,v2,aF (aH h2) e12 fun k S3 h3 ρ3 H3 z e3 R3 v3=>?_⟩
 have e13:=e12.trans e3
 cases k with
 | bl k=>
  cases qb v3
  refine ⟨k,rfl,?_⟩
  cases k with
  | true=>
   rw [if_pos rfl]
   exact ⟨ρ3,S3,τ,R3,r.ext e13,aF (aH h3) e13 fun c S4 h4 ρ4 H4 w e4 R4 v4=>⟨ρ4,S4,b,c,R4,v2.ext (e3.trans e4),v4,aF h4 (e13.trans e4) fun _ _ q=>q.ext (e13.trans e4)⟩⟩
  | false=>
   rw [if_neg Bool.false_ne_true]
   exact h3 ρ3 H3 _ e13 R3 (.bl false)
 | _=>exact h3.elim
theorem ER {op op':CmpOp} {f f':A -> A -> aA -> R A} {ca cb cc:Ex} (ho:eW X (compareOp op) (r2 X f)) (ho':eW X (compareOp op') (r2 X f')) (ha:AE X a ca) (hb:AE X b cb) (hc:AE X c cc) (hm:lastMarks [op,op'] [b,c]=false:=by with_unfolding_all rfl) :
  AE X (.Compare a [op,op'] [b,c] pos) (yE f f' ca cb cc):=PE.imp (BE ho ho' ha hb hc hm) fun _ _ _ h=>FL h
def A.flat:A -> Bool
 | .non=>true
 | .bl _=>true
 | .int _=>true
 | .str _=>true
 | _=>false
def Kl:A -> A -> Bool
 | .non,.non=>true
 | .bl a,.bl b=>a == b
 | .bl a,.int b=>(if a then 1 else 0) == b
 | .int a,.bl b=>a == (if b then 1 else 0)
 | .int a,.int b=>a == b
 | .str a,.str b=>a == b
 | _,_=>false
theorem ya {K:PySem.W.Frag} {ρ:List Addr} {H:Hp} {x:A} {v:V} (h:AV K ρ H x v) (f:x.flat=true):iA v=true:=by cases h <;> first | rfl | cases f
theorem uF {K:PySem.W.Frag} {ρ:List Addr} {H:Hp} {x y:A} {v u:V} (h:AV K ρ H x v) (h':AV K ρ H y u) (f:x.flat=true) (f':y.flat=true):um v u=Kl x y:=by
 cases h <;> cases h' <;> first | rfl | (cases f;done) | (cases f';done)
theorem Cr {K:PySem.W.Frag} {ρ:List Addr} {H:Hp} {x:A} {v:V} (h:AV K ρ H x v) (f:x.flat=true):∀ {ys:List A} {us:List V},AVs K ρ H ys us -> ys.all A.flat=true -> LW v us=(ys.any fun z=>Kl z x) /\ us.all iA=true
 | _,_,.nil,_=>⟨rfl,rfl⟩
 | y :: ys,u :: us,.cons hy t,fs=>by
  rw [List.all_cons,Bool.and_eq_true] at fs
  obtain ⟨h1,h2⟩:=Cr h f t fs.2
  refine ⟨?_,by rw [List.all_cons,ya hy fs.1,h2];rfl⟩
  show (um u v || LW v us)=_
  rw [h1,uF hy h fs.1 f];rfl
def Lc (S:aA) (x:A):List A -> Option Bool
 | []=>some false
 | z :: zs=>(lZ S 12 z x).bind fun p=>(Lc S x zs).map fun q=>p || q
def IE (neg:Bool) (x y:A) (S:aA):R A:=opt (y.seq S) fun ys=>opt (Lc S x ys) fun b=>.ok (.bl (if neg then !b else b)) S
theorem qQ {pins:List (Addr × Obj)} {σ:L2.St} {H:Hp} {s:Shared} {ρ:List Addr} {S:aA} {x:A} {vx:V} {v:Value} (I:Inv X pins σ H s) (R:Rel X.K ρ H S) (hu:X.A.units + 64 < cLine) (hx:AV X.K ρ H x vx) (rx:RelV vx v) :
  ∀ {ys:List A} {us:List V} {its:List Value} {b:Bool},AVs X.K ρ H ys us -> Vals us its -> Lc S x ys=some b -> ∃ e:Value -> Bool,(∀ w ∈ its,SeqAt.EqAt X.A.in1 s w v (e w)) /\ its.any e=b
 | _,_,_,b,.nil,.nil,h=>⟨fun _=>false,(fun w hw=>by cases hw),Option.some.inj h⟩
 | z :: zs,u :: us,w0 :: its,b,.cons hz hzs,.cons r rs,h=>by
  classical
  obtain ⟨p,hp,h⟩:=Option.bind_eq_some_iff.mp h
  obtain ⟨q,hq,h⟩:=Option.map_eq_some_iff.mp h
  obtain ⟨e,he,ha⟩:=qQ I R hu hx rx hzs rs hq
  have h0:=(tQ I R 12 X.A.in1 z x u vx w0 v p (by rw [in1_units];omega) hz hx r rx hp).2
  subst h
  cases p with
  | true=>
   refine ⟨fun w=>if w=w0 then true else e w,fun w hw=>?_,?_⟩
   ·by_cases hww:w=w0
    ·simp only [hww,if_true];exact h0
    ·simp only [hww,if_false]
     rcases List.mem_cons.mp hw with z | z
     ·exact absurd z hww
     ·exact he w z
   ·simp
  | false=>
   by_cases hm:w0 ∈ its
   ·refine ⟨e,fun w hw=>?_,?_⟩
    ·rcases List.mem_cons.mp hw with z | z
     ·rw [z];exact he w0 hm
     ·exact he w z
    ·rw [List.any_cons,ha,Bool.false_or]
     cases q with
     | true=>simp
     | false=>
      have:=List.any_eq_false.mp ha w0 hm
      simpa using this
   ·refine ⟨fun w=>if w=w0 then false else e w,fun w hw=>?_,?_⟩
    ·by_cases hww:w=w0
     ·simp only [hww,if_true];exact h0
     ·simp only [hww,if_false]
      rcases List.mem_cons.mp hw with z | z
      ·exact absurd z hww
      ·exact he w z
    ·rw [List.any_cons,<- ha]
     simp only [if_true,Bool.false_or]
     have:∀ l:List Value,(∀ w ∈ l,w ≠ w0) -> l.any (fun w=>if w=w0 then false else e w)=l.any e:=fun l hl=>by
      induction l with
      | nil=>rfl
      | cons c l ih=>rw [List.any_cons,List.any_cons,ih fun w hw=>hl w (List.mem_cons_of_mem _ hw),if_neg (hl c (List.mem_cons_self ..))]
     exact this its fun w hw z=>hm (z ▸ hw)
theorem DP (hu:X.A.units + 64 < cLine):eW X (compareOp .NotIn) (r2 X (IE true)):=fun pins s σ H x y v u Q I rx ry ⟨ρ,S,a,b,R,va,vb,h⟩=>by
 obtain ⟨ys,hy,h⟩:=aK h
 obtain ⟨k,hk,h⟩:=aK h
 obtain ⟨p,us,rfl,hs,r⟩:=G9 R vb hy
 cases ry
 rcases hs with hs | hs
 ·obtain ⟨its,rv,pl,hz⟩:=I.list hs
  obtain ⟨e,he,ha⟩:=qQ I R hu va rx r rv hk
  refine SeqAt.notIn_listAt e pl.isList (fun w hw=>he w (by simpa using hw)) ⟨.bl _,H,I,rfl,?_⟩
  rw [show its.toArray.any e=its.any e by simp,ha]
  exact h _ _ _ .refl R (.bl _)
 ·obtain ⟨its,rv,pl,hz⟩:=I.tuple hs
  obtain ⟨e,he,ha⟩:=qQ I R hu va rx r rv hk
  refine SeqAt.notIn_tupleAt e pl (fun w hw=>he w (by simpa using hw)) ⟨.bl _,H,I,rfl,?_⟩
  rw [show its.toArray.any e=its.any e by simp,ha]
  exact h _ _ _ .refl R (.bl _)
def Gd (o:A) (as:List A) (S:aA):R A:=match as with
 | [x]=>opt (o.seq S) fun ys=>gd (x.flat=true /\ ys.all A.flat=true) (opt (ys.findIdx? fun z=>Kl z x) fun k=>.ok (.int (k:Nat)) S)
 | _=>.no
def Dv (co:Ex) (d:gP):Ex:=fun τ S=>(co τ S).bind fun o S1=>opt (o.seq S1) fun _=>(d τ S1).bind fun as S2=>Gd o as S2
def A.isTup:A -> Bool
 | .tup _=>true
 | _=>false
theorem tK {K:PySem.W.Frag} {ρ:List Addr} {H:Hp} {S:aA} {x:A} {v:V} {xs:List A} (R:Rel K ρ H S) (h:AV K ρ H x v) (e:x.seq S=some xs):∃ p vs,v=.ref p /\ (if x.isTup=true then dg K H p vs else fF K H p vs) /\ AVs K ρ H xs vs:=by
 cases h with
 | tup h r=>cases Option.some.inj e;exact ⟨_,_,rfl,(dg.of h),r⟩
 | frz h r=>cases Option.some.inj e;exact ⟨_,_,rfl,h.CK,r⟩
 | ref h=>
  obtain ⟨vs,h1,r1⟩:=R.lst h (aQ e)
  exact ⟨_,vs,rfl,fF.of h1,r1⟩
 | _=>cases e
theorem Hf {K:PySem.W.Frag} {ρ:List Addr} {H:Hp} {x:A} {v:V} {ys:List A} {us:List V} {k:Nat} (h:AV K ρ H x v) (f:x.flat=true) (r:AVs K ρ H ys us) (fs:ys.all A.flat=true) (e:(ys.findIdx? fun z=>Kl z x)=some k) :
  us.all iA=true /\ ∃ z,us[k]?=some z /\ um z v=true /\ ∀ (m:Nat) (z':V),m < k -> us[m]?=some z' -> um z' v=false:=by
 rw [List.findIdx?_eq_some_iff_getElem] at e
 obtain ⟨hk,h1,h2⟩:=e
 have fl:∀ m (hm:m < ys.length),ys[m].flat=true:=fun m hm=>List.all_eq_true.mp fs _ (List.getElem_mem hm)
 refine ⟨(Cr h f r fs).2,?_⟩
 obtain ⟨z,hz,vz⟩:=r.get (List.getElem?_eq_getElem hk)
 refine ⟨z,hz,by rw [uF vz h (fl k hk) f];exact h1,fun m z' hm hz'=>?_⟩
 have hm':m < ys.length:=by omega
 obtain ⟨z2,hz2,vz2⟩:=r.get (List.getElem?_eq_getElem hm')
 rw [hz'] at hz2;cases hz2
 rw [uF vz2 h (fl m hm') f]
 have:=h2 m hm
 simpa using this
theorem GI {o e:Expr} {es:List Expr} {apos cpos:Pos} {co:Ex} {d:gP} (ho:AE X o co) (ha:AL X (e :: es) d)
  (hbase:attributeBase o "index" X.env (eval o X.env)=eval o X.env:=by rfl)
  (hfew:((backTo cpos (starEach (e :: es) X.env)).all (fun x=>!x.1) && (backToKw cpos (keywordEach [] X.env)).all (fun x=>x.1.isSome)
   && decide ((e :: es).length + ([]:List Keyword).length + (if ([]:List Keyword).isEmpty then 0 else 1) < 30))=true:=by rfl)
  (hline:(apos.endLine == cpos.line)=true:=by rfl) (hs:starEach (e :: es) X.env=(false,eval e X.env) :: starEach es X.env:=by rfl) (hplain:(backTo cpos (starEach es X.env)).any (·.1)=false:=by rfl) :
  AE X (.Call (.Attribute o "index" apos) (e :: es) [] cpos) (Dv co d):=PE.imp (Gn ho ha hbase hfew hline hs hplain) fun σ H Q ⟨ρ,S,τ,R,r,h⟩=>by
 refine ⟨ρ,S,τ,R,r,aF (aH h) .refl fun x S1 h1 ρ1 H1 v e1 R1 v1=>?_⟩
 obtain ⟨xs,hx,h1⟩:=aK h1
 obtain ⟨p,vs,hv,hq,_⟩:=tK R1 v1 hx
 refine ⟨x.isTup,p,vs,hv,hq,ρ1,S1,τ,R1,r.ext e1,aF (aH h1) e1 fun as S2 h2 ρ2 H2 ws e2 R2 v2=>?_⟩
 unfold Gd at h2
 match as,v2,h2 with
 | [],_,h2=>exact h2.elim
 | _ :: _ :: _,_,h2=>exact h2.elim
 | [y],v2,h2=>
  obtain ⟨w,rfl,hw⟩:=yR v2
  obtain ⟨ys,hy,h2⟩:=aK h2
  obtain ⟨⟨f1,f2⟩,h2⟩:=bg h2
  obtain ⟨k,hk,h2⟩:=aK h2
  obtain ⟨p',us,hv',hq',rr⟩:=tK R2 (v1.ext e2) hy
  obtain ⟨g1,z,g2,g3,g4⟩:=Hf hw f1 rr f2 hk
  exact ⟨p',w,us,k,z,hv',rfl,hq',ya hw f1,g1,g2,g3,g4,h2 _ _ _ (e1.trans e2) R2 (.int _)⟩
def rq (o:A) (as:List A) (S:aA):R A:=match o,as with
 | .ref n,[.ref m]=>opt (ak S n) fun xs=>opt (ak S m) fun ys=>gd (xs.length + ys.length <= sizeLine) (.ok .non (S.set n (.lst (xs ++ ys))))
 | _,_=>.no
theorem Bd:Gm X "list.extend" (rM X rq):=fun pins s σ H x vs v us Q I rx rv ⟨ρ,S,o,as,R,vo,va,h⟩=>by
 cases vo with
 | @ref p n hp=>
  match as,va,h with
  | [],_,h=>exact h.elim
  | y :: _ :: _,_,h=>exact (by cases y <;> exact h.elim)
  | [y],va,h=>
   obtain ⟨w,rfl,hw⟩:=yR va
   cases hw with
   | @ref q m hq=>
    obtain ⟨xs,hn,h⟩:=aK h
    obtain ⟨ys,hm,h⟩:=aK h
    obtain ⟨hl,h⟩:=bg h
    obtain ⟨ws,h1,r⟩:=R.lst hp (aQ hn)
    obtain ⟨zs,h2,r'⟩:=R.lst hq (aQ hm)
    obtain ⟨ex,R'⟩:=R.put hp (aQ hn) (r.append r')
    exact yo pins s σ H _ _ v us Q I rx rv ⟨p,q,ws,zs,rfl,rfl,h1,h2,by rw [<- r.length,<- r'.length];exact hl,h _ _ _ ex R' .non⟩
   | _=>exact h.elim
 | _=>exact h.elim
end
end Am
namespace Am
open PySem PySem.Spec PyProof.Rows L2
section
variable {X:Cx}
end
end Am
namespace Am
open PySem PySem.Spec PyProof.Rows L2
def nu (o:A) (as:List A) (S:aA):R A:=match o,as with
 | .ref n,[x]=>(match x with
  | .bl b=>opt (ak S n) fun xs=>opt (A.zf xs) fun bs=>.ok (.int (bs.countP (· == b):Nat)) S
  | _=>.no)
 | _,_=>.no
theorem rO {K:PySem.W.Frag} {ρ:List Addr} {H:Hp}:∀ {xs:List A} {bs:List Bool} {us:List V} {its:List Value},A.zf xs=some bs -> AVs K ρ H xs us -> Vals us its -> xs=bs.map A.bl /\ its=bs.map Value.bool
 | [],bs,_,_,h,.nil,.nil=>by cases Option.some.inj h;exact ⟨rfl,rfl⟩
 | x :: xs,bs,_,_,h,.cons hx hxs,.cons r rs=>by
  cases x with
  | bl b=>
   have h:(A.zf xs).map (b :: ·)=some bs:=h
   obtain ⟨bs',h1,rfl⟩:=Option.map_eq_some_iff.mp h
   obtain ⟨e1,e2⟩:=rO h1 hxs rs
   cases hx
   cases r
   exact ⟨by rw [e1];rfl,by rw [e2];rfl⟩
  | _=>cases h
def JG (b:Bool):Value -> Bool
 | .bool c=>c == b
 | _=>false
theorem Cc (b:Bool):∀ (bs:List Bool),(bs.map Value.bool).countP (JG b)=bs.countP (· == b)
 | []=>rfl
 | c :: bs=>by rw [List.map_cons,List.countP_cons,List.countP_cons,Cc b bs];rfl
section
variable {X:Cx}
theorem C9 (hu:X.A.units + 64 < cLine):Gm X "list.count" (rM X nu):=fun pins s σ H x vs v us Q I rx rv ⟨ρ,S,o,as,R,vo,va,h⟩=>by
 cases vo with
 | @ref p n hp=>
  match as,va,h with
  | [],_,h=>exact h.elim
  | _ :: _ :: _,_,h=>exact h.elim
  | [y],va,h=>
   cases y with
   | bl b=>
    obtain ⟨w,rfl,hw⟩:=yR va
    obtain ⟨xs,hn,h⟩:=aK h
    obtain ⟨bs,hbs,h⟩:=aK h
    obtain ⟨ws,h1,r⟩:=R.lst hp (aQ hn)
    cases rx
    obtain ⟨u,rfl,ru⟩:=rv.one
    obtain ⟨its,rv,pl,hsz⟩:=I.list (fF.of h1)
    obtain ⟨⟨cls,dd,data,sl⟩,ho,hc,nn,hd⟩:=id pl.isList
    simp only at hc hd
    subst hc hd
    obtain ⟨ex,ei⟩:=rO hbs r rv
    subst ei
    refine call_meets F.slot_list_count ⟨_,ho,rfl⟩ F.entry_list_count (F.args_list_count_2 _ _) (SeqAt.list_countAt p (bs.map Value.bool).toArray nn dd sl u (JG b)) ⟨ho,fun z hz=>?_,.int (bs.countP (· == b):Nat),H,I.tok _,⟨s.toks,by rw [List.toList_toArray,Cc]⟩,h _ _ _ .refl R (.int _)⟩
    ·obtain ⟨c,_,rfl⟩:=List.mem_map.mp (List.mem_toArray.mp hz)
     exact (tQ I R 12 X.A.in1 (.bl c) (.bl b) (.bl c) w (.bool c) u (c == b) (by rw [in1_units];omega) (.bl c) hw rfl ru rfl).2
   | _=>exact h.elim
 | _=>exact h.elim
end
end Am
namespace Am
open PySem PySem.Spec PyProof.Rows L2
section
variable {X:Cx} {pos apos cpos:Pos} {a b o e:Expr} {es:List Expr}
end
end Am
namespace Am
open PySem PySem.Spec PyProof.Rows L2
def cu (S:aA) (n:Nat):Option (List (List Int × A)):=match S[n]? with
 | some (.dct xs)=>some xs
 | _=>none
theorem iS {S:aA} {n:Nat} {xs:List (List Int × A)} (h:cu S n=some xs):S[n]?=some (.dct xs):=by
 unfold cu at h
 split at h
 ·rename_i e;cases h;exact e
 ·cases h
theorem oZ {S:aA} {n:Nat} {xs:List (List Int × A)} (h:S[n]?=some (.dct xs)):cu S n=some xs:=by
 unfold cu;rw [h]
def fK (kvs:List (List Int × A)) (k:List Int):Option A:=(kvs.find? fun kv=>decide (kv.1=k)).map (·.2)
def putD (kvs:List (List Int × A)) (k:List Int) (v:A):List (List Int × A):=
 if (fK kvs k).isSome=true then kvs.map (fun kv=>if kv.1=k then (kv.1,v) else kv) else kvs ++ [(k,v)]
theorem qG:∀ {a b:List Int},a.map (Sum.inl:Int -> Key)=b.map Sum.inl -> a=b
 | [],[],_=>rfl
 | [],_ :: _,e=>by simp at e
 | _ :: _,[],e=>by simp at e
 | x :: xs,y :: ys,e=>by
  rw [List.map_cons,List.map_cons] at e
  injection e with e1 e2
  injection e1 with e1
  rw [e1,qG e2]
theorem wD (ns:List Int):(ns.map (Sum.inl:Int -> Key)).map kV=ns.map V.int:=by rw [List.map_map];rfl
section
variable {K:PySem.W.Frag} {ρ ρ':List Addr} {H H':Hp}
theorem lq {p:List Int × A} {r:List (List Int × A)} {k:List Int} (e:p.1=k):fK (p :: r) k=some p.2:=by simp [fK,List.find?_cons,e]
theorem lu {p:List Int × A} {r:List (List Int × A)} {k:List Int} (e:¬ p.1=k):fK (p :: r) k=fK r k:=by simp [fK,List.find?_cons,e]
theorem DV.look:∀ {kvs:List (List Int × A)} {ks:List (List Key × V)} (k:List Int),DV K ρ H kvs ks -> (fK kvs k).isSome=(kg ks (k.map Sum.inl)).isSome /\ ∀ x,fK kvs k=some x -> ∃ v,kg ks (k.map Sum.inl)=some v /\ AV K ρ H x v
 | [],[],k,_=>⟨rfl,fun x h=>nomatch h⟩
 | p :: r,q :: r',k,⟨⟨e,a⟩,t⟩=>by
  by_cases c:p.1=k
  ·have c':q.1=k.map Sum.inl:=by rw [e,c]
   rw [lq c,kG c']
   exact ⟨rfl,fun x h=>by cases h;exact ⟨_,rfl,a⟩⟩
  ·have c':¬ q.1=k.map Sum.inl:=fun z=>c (qG (e.symm.trans z))
   rw [lu c,kF c']
   exact DV.look k t
theorem DV.repl {x:A} {v:V} (h:AV K ρ H x v) (k:List Int):∀ {kvs:List (List Int × A)} {ks:List (List Key × V)},DV K ρ H kvs ks -> DV K ρ H (kvs.map fun kv=>if kv.1=k then (kv.1,x) else kv) (ks.map fun kv=>if kv.1=k.map Sum.inl then (kv.1,v) else kv)
 | [],[],_=>trivial
 | p :: r,q :: r',⟨⟨e,a⟩,t⟩=>by
  refine ⟨?_,DV.repl h k t⟩
  dsimp only
  by_cases c:p.1=k
  ·rw [if_pos c,if_pos (by rw [e,c])];exact ⟨e,h⟩
  ·rw [if_neg c,if_neg (fun z=>c (qG (e.symm.trans z)))];exact ⟨e,a⟩
theorem DV.snoc {x:A} {v:V} (h:AV K ρ H x v) (k:List Int):∀ {kvs:List (List Int × A)} {ks:List (List Key × V)},DV K ρ H kvs ks -> DV K ρ H (kvs ++ [(k,x)]) (ks ++ [(k.map Sum.inl,v)])
 | [],[],_=>⟨⟨rfl,h⟩,trivial⟩
 | p :: r,q :: r',⟨a,t⟩=>⟨a,DV.snoc h k t⟩
theorem DV.put {x:A} {v:V} (h:AV K ρ H x v) (k:List Int) {kvs:List (List Int × A)} {ks:List (List Key × V)} (d:DV K ρ H kvs ks):DV K ρ H (putD kvs k x) (putK ks (k.map Sum.inl) v):=by
 unfold putD putK
 rw [oS,<- (d.look k).1]
 by_cases c:(fK kvs k).isSome=true
 ·rw [if_pos c,if_pos c];exact DV.repl h k d
 ·rw [if_neg c,if_neg c];exact DV.snoc h k d
theorem DV.length:∀ {kvs:List (List Int × A)} {ks:List (List Key × V)},DV K ρ H kvs ks -> kvs.length=ks.length
 | [],[],_=>rfl
 | _ :: _,_ :: _,⟨_,t⟩=>congrArg (· + 1) t.length
theorem Rel.dct {S:aA} {n:Nat} {a:Addr} {xs:List (List Int × A)} (R:Rel K ρ H S) (ha:ρ[n]?=some a) (hS:S[n]?=some (.dct xs)):∃ vs,H a=some (.dT vs) /\ DV K ρ H xs vs:=R.at n a _ ha hS
theorem Rel.putD {S:aA} {n:Nat} {a:Addr} {xs ys:List (List Int × A)} {ws:List (List Key × V)} (R:Rel K ρ H S) (ha:ρ[n]?=some a) (hS:S[n]?=some (.dct xs)) (r:DV K ρ H ys ws):Ext ρ ρ H (upd H a (.dT ws)) /\ Rel K ρ (upd H a (.dT ws)) (S.set n (.dct ys)):=by
 obtain ⟨vs,e,_⟩:=R.at n a _ ha hS
 have ex:Ext ρ ρ H (upd H a (.dT ws)):=⟨⟨List.prefix_refl _,fun b u i h=>by
  have:b ≠ a:=by
   intro z;subst z;rw [e] at h;cases h;exact i
  rw [aM this];exact h⟩,fun b u h n=>by
  rw [aM (fun z=>n (by rw [z];exact List.mem_of_getElem? ha))];exact h,fun _ h=>.inl h⟩
 refine ⟨ex,by rw [List.length_set];exact R.len,R.nd,fun m b o h1 h2=>?_⟩
 by_cases hm:m=n
 ·subst hm
  rw [ha] at h1;cases h1
  rw [List.getElem?_set_self (List.getElem?_eq_some_iff.mp hS).1] at h2
  cases h2
  exact ⟨ws,bx,r.ext ex⟩
 ·rw [List.getElem?_set_ne (Ne.symm hm)] at h2
  have nb:b ≠ a:=fun z=>by
   subst z
   obtain ⟨l1,e1⟩:=List.getElem?_eq_some_iff.mp ha
   obtain ⟨l2,e2⟩:=List.getElem?_eq_some_iff.mp h1
   exact hm ((List.getElem_inj R.nd).mp (e2.trans e1.symm))
  have:=R.at m b o h1 h2
  cases o with
  | lst ys=>obtain ⟨ws',e',q⟩:=this;exact ⟨ws',by rw [aM nb];exact e',q.ext ex⟩
  | dct _ | dki _=>obtain ⟨ws',e',q⟩:=this;exact ⟨ws',by rw [aM nb];exact e',q.ext ex⟩
  | ins _ _=>obtain ⟨oo,uu,e'⟩:=this;exact ⟨oo,uu,by rw [aM nb];exact e'⟩
end
section
variable {X:Cx} {pos:Pos} {a b:Expr}
theorem qw {ρ:List Addr} {H:Hp} {S:aA} {p q:Addr} {n:Nat} {xs:List A} {vs:List V} {kvs:List (List Int × A)} {ns:List Int} (R:Rel X.K ρ H S) (hp:ρ[n]?=some p) (hn:cu S n=some kvs) (hq:H q=some (.tup vs)) (r:AVs X.K ρ H xs vs) (hi:A.ints xs=some ns) :
  ∃ ks,H p=some (.dT ks) /\ DV X.K ρ H kvs ks /\ H q=some (.tup ((ns.map (Sum.inl:Int -> Key)).map kV)) /\ qO H p (.ref q) (kg ks (ns.map Sum.inl)):=by
 obtain ⟨ks,e,d⟩:=R.dct hp (iS hn)
 have z:=g7 r hi
 subst z
 rw [<- wD] at hq
 exact ⟨ks,e,d,hq,qO.t e hq⟩
def Eo (x y:A) (S:aA):R A:=match x,y with
 | .ref n,.tup xs=>opt (cu S n) fun kvs=>opt (A.ints xs) fun ns=>opt (fK kvs ns) fun v=>.ok v S
 | _,_=>.no
theorem IB (hu:X.A.units + 64 < cLine):Gv X (r2 X Eo):=fun value slice pins s σ H x y v u Q I rx ry ⟨ρ,S,a,b,R,va,vb,h⟩ hs=>by
 cases va with
 | @ref p n hp=>
  cases vb with
  | @tup q xs vs hq r=>
   obtain ⟨kvs,hn,h⟩:=aK h
   obtain ⟨ns,hi,h⟩:=aK h
   obtain ⟨z,hz,h⟩:=aK h
   obtain ⟨ks,e,d,hq',g⟩:=qw R hp hn hq r hi
   obtain ⟨w,hw,aw⟩:=(d.look ns).2 z hz
   rw [hw] at g
   exact Eb (by omega) value slice pins s σ H _ _ v u Q I rx ry ⟨p,w,rfl,g,h _ _ _ .refl R aw⟩ hs
  | _=>exact h.elim
 | _=>exact h.elim
theorem G3 (hu:X.A.units + 64 < cLine) {ca cb:Ex} (ha:AE X a ca) (hb:AE X b cb) (hs:rD b:=by exact fun _ _=>rfl):AE X (.Subscript a b pos) (az Eo ca cb):=PE.imp (Ff (IB hu) ha hb hs) fun σ H Q h=>ku h
def C7 (neg:Bool) (x y:A) (S:aA):R A:=match x,y with
 | .tup xs,.ref n=>opt (cu S n) fun kvs=>opt (A.ints xs) fun ns=>.ok (.bl (if neg then !(fK kvs ns).isSome else (fK kvs ns).isSome)) S
 | _,_=>.no
theorem sQ (hu:X.A.units + 64 < cLine):eW X (compareOp .NotIn) (r2 X (C7 true)):=fun pins s σ H x y v u Q I rx ry ⟨ρ,S,a,b,R,va,vb,h⟩=>by
 cases va with
 | @tup q xs vs hq r=>
  cases vb with
  | @ref p n hp=>
   obtain ⟨kvs,hn,h⟩:=aK h
   obtain ⟨ns,hi,h⟩:=aK h
   obtain ⟨ks,e,d,hq',g⟩:=qw R hp hn hq r hi
   exact yO (by omega) pins s σ H _ _ v u Q I rx ry ⟨p,_,rfl,g,by rw [<- (d.look ns).1];exact h _ _ _ .refl R (.bl _)⟩
  | _=>exact h.elim
 | _=>exact h.elim
def xm (o i v:A) (S:aA):R Unit:=match o,i with
 | .ref n,.tup xs=>opt (cu S n) fun kvs=>opt (A.ints xs) fun ns=>gd (kvs.length < sizeLine) (.ok () (S.set n (.dct (putD kvs ns v))))
 | _,_=>.no
def Ll (X:Cx):CY:=fun o i v H Q=>∃ ρ S ao ai av,Rel X.K ρ H S /\ AV X.K ρ H ao o /\ AV X.K ρ H ai i /\ AV X.K ρ H av v /\ (xm ao ai av S).post (fun _ S'=>∀ ρ' H',Ext ρ ρ' H H' -> Rel X.K ρ' H' S' -> Q H') (XE X ρ H)
theorem ED (hu:X.A.units + 64 < cLine):AQ X (Ll X):=fun pins s σ H o i v ov iv u Q I ro ri rv ⟨ρ,S,ao,ai,av,R,h1,h2,h3,h⟩=>by
 cases h1 with
 | @ref p n hp=>
  cases h2 with
  | @tup q xs vs hq r=>
   obtain ⟨kvs,hn,h⟩:=aK h
   obtain ⟨ns,hi,h⟩:=aK h
   obtain ⟨hl,h⟩:=bg h
   obtain ⟨ks,e,d,hq',g⟩:=qw R hp hn hq r hi
   obtain ⟨ex,R'⟩:=R.putD hp (iS hn) (d.put h3 ns)
   exact set_dict (by omega) pins s σ H _ _ v ov iv u Q I ro ri rv ⟨p,_,rfl,B3.t e hq' (by rw [<- d.length];exact hl),h _ _ ex R'⟩
  | _=>exact h.elim
 | _=>exact h.elim
def GO (co ci:Ex):Tg:=fun a τ S=>(co τ S).bind fun o S1=>(ci τ S1).bind fun i S2=>(xm o i a S2).bind fun _ S3=>.ok τ S3
theorem DS (hu:X.A.units + 64 < cLine) {o i:Expr} {co ci:Ex} (ho:AE X o co) (hi:AE X i ci)
  (ha:∀ v,assign (.Subscript o i pos) X.env v=(do
   let ov <- holding [v] (eval o X.env)
   let iv <- holding [v,ov] (eval i X.env)
   standAt pos
   holding [v,ov,iv] (setItem ov iv v)
   release [v,ov,iv] []):=by intro _;rfl):AG X (.Subscript o i pos) (GO co ci):=PG.imp (CF ho hi (ED hu) ha) fun v σ H Q ⟨ρ,S,τ,a,R,r,va,h⟩=>by
 refine ⟨ρ,S,τ,R,r,aF (aH h) .refl fun o S1 h1 ρ1 H1 x e1 R1 v1=>⟨ρ1,S1,τ,R1,r.ext e1,aF (aH h1) e1 fun i S2 h2 ρ2 H2 y e2 R2 v2=>?_⟩⟩
 refine ⟨ρ2,S2,o,i,a,R2,v1.ext e2,v2,va.ext (e1.trans e2),aF (aH h2) (e1.trans e2) fun _ S3 h3 ρ3 H3 e3 R3=>?_⟩
 exact h3 ρ3 H3 σ ((e1.trans e2).trans e3) R3 (r.ext ((e1.trans e2).trans e3))
def CA (ck cv:Ex):Ex:=fun τ S=>(ck τ S).bind fun k S1=>(cv τ S1).bind fun v S2=>match k with
 | .tup xs=>opt (A.ints xs) fun ns=>.ok (.ref S2.length) (S2 ++ [.dct [(ns,v)]])
 | _=>.no
theorem Rel.Je {K:PySem.W.Frag} {ρ:List Addr} {H:Hp} {S:aA} {D:Addr} {xs:List (List Int × A)} {us vs:List (List Key × V)} (R:Rel K ρ H S) (hD:H D=some (.dT us)) (hn:D ∉ ρ) (r:DV K ρ H xs vs):Ext0 ρ (ρ ++ [D]) H (upd H D (.dT vs)) /\ Rel K (ρ ++ [D]) (upd H D (.dT vs)) (S ++ [.dct xs]) /\ (ρ ++ [D])[S.length]?=some D:=by
 have ex:Ext0 ρ (ρ ++ [D]) H (upd H D (.dT vs)):=⟨List.prefix_append _ _,fun b u i h=>by
  have:b ≠ D:=by
   intro z;subst z;rw [hD] at h;cases h;exact i
  rw [aM this];exact h⟩
 have last:(ρ ++ [D])[S.length]?=some D:=by rw [<- R.len];simp
 refine ⟨ex,⟨by simp [R.len],?_,fun n a o h1 h2=>?_⟩,last⟩
 ·rw [List.nodup_append]
  refine ⟨R.nd,by simp,fun a ha b hb e=>?_⟩
  have:b=D:=by simpa using hb
  exact hn (by rw [<- this,<- e];exact ha)
 ·by_cases hs:n < S.length
  ·rw [List.getElem?_append_left (by rw [R.len];exact hs)] at h1
   rw [List.getElem?_append_left hs] at h2
   have na:a ≠ D:=fun z=>hn (by rw [<- z];exact List.mem_of_getElem? h1)
   have:=R.at n a o h1 h2
   cases o with
   | lst ys=>obtain ⟨ws,e,q⟩:=this;exact ⟨ws,by rw [aM na];exact e,AVs.dR ex q⟩
   | dct _ | dki _=>obtain ⟨ws,e,q⟩:=this;exact ⟨ws,by rw [aM na];exact e,q.dR ex⟩
   | ins _ _=>obtain ⟨oo,uu,e⟩:=this;exact ⟨oo,uu,by rw [aM na];exact e⟩
  ·have e:n=S.length:=by
    have:=(List.getElem?_eq_some_iff.mp h2).1
    simp at this
    omega
   subst e
   rw [last] at h1
   cases h1
   simp at h2
   subst h2
   exact ⟨vs,bx,r.dR ex⟩
theorem Du (hu:X.A.units + 64 < cLine) {k v:Expr} {ck cv:Ex} (hk:AE X k ck) (hv:AE X v cv):AE X (.Dict [some k] [v] pos) (CA ck cv):=PE.imp (CM (by omega) hk hv) fun σ H Q ⟨ρ,S,τ,R,r,h⟩ p hp=>by
 obtain ⟨e0,R0⟩:=R.im (u:=.dT []) hp
 have np:p ∉ ρ:=R.zC hp
 refine ⟨ρ,S,τ,R0,r.ext e0,aF (aH h) e0 fun a S1 h1 ρ1 H1 x e1 R1 v1=>⟨ρ1,S1,τ,R1,(r.ext e0).ext e1,aF (aH h1) (e0.trans e1) fun b S2 h2 ρ2 H2 y e2 R2 v2=>?_⟩⟩
 have e12:=e1.trans e2
 have hp2:H2 p=some (.dT []):=e12.fr p _ bx np
 have np2:p ∉ ρ2:=fun hm=>(e12.nw p hm).elim np fun z=>by rw [bx] at z;cases z
 cases v1.ext e2 with
 | @tup q xs vs hq rr=>
  obtain ⟨ns,hi,h2⟩:=aK h2
  have z:=g7 rr hi
  subst z
  refine ⟨hp2,q,ns.map Sum.inl,rfl,by rw [wD];exact hq,?_⟩
  obtain ⟨e3,R3,hl⟩:=R2.Je (xs:=[(ns,b)]) (vs:=[(ns.map Sum.inl,y)]) hp2 np2 ⟨⟨rfl,v2⟩,trivial⟩
  refine h2 _ _ _ ⟨⟨(e0.trans e12).pre.trans e3.pre,fun c u i hc=>e3.im c u i ((e0.trans e12).im c u i hc)⟩,fun c u hc nc=>?_,fun c hc=>?_⟩ R3 (.ref hl)
  ·rw [aM (a_ hc hp)]
   exact (e0.trans e12).fr c u hc nc
  ·rcases List.mem_append.mp hc with z | z
   ·exact (e0.trans e12).nw c z
   ·have:c=p:=by simpa using z
    rw [this];exact .inr hp
 | _=>exact h2.elim
end
end Am
namespace Am
open PySem PySem.Spec PyProof.Rows L2
section
variable {X:Cx} {pos:Pos} {a b:Expr}
end
end Am
namespace Am
open PySem PySem.Spec PyProof.Rows L2
section
variable {X:Cx} {pos:Pos} {a b tg:Expr}
end
end Am
namespace Am
open PySem PySem.Spec PyProof.Rows L2
def gD (s:Src) (g:Tg) (t:Te) (e:Ex):Nat -> Nat -> List A -> aA -> R (List A × List A)
 | 0,_=>fun τ S=>if s.fin S then .ok ([],τ) S else .no
 | k + 1,i=>fun τ S=>opt (s.get i S) fun x=>(g x τ S).ee fun τ1 S1=>(t τ1 S1).ee fun b S2=>match b with
  | true=>(e τ1 S2).ee fun y S3=>(gD s g t e k (i + 1) τ1 S3).ee fun p S4=>.ok (y :: p.1,p.2) S4
  | false=>gD s g t e k (i + 1) τ1 S2
def fO (s:Src) (g:Tg) (t:Te) (src2:Ic) (g2:Tg) (t2:Te) (e:Ex):Nat -> Nat -> List A -> aA -> R (List A)
 | 0,_=>fun _ S=>if s.fin S then .ok [] S else .no
 | k + 1,i=>fun τ S=>opt (s.get i S) fun x=>(g x τ S).ee fun τ1 S1=>(t τ1 S1).ee fun b S2=>match b with
  | true=>(src2 τ1 S2).ee fun s2 S3=>(gD s2 g2 t2 e s2.k 0 τ1 S3).ee fun p S4=>(fO s g t src2 g2 t2 e k (i + 1) p.2 S4).ee fun ys S5=>.ok (p.1 ++ ys) S5
  | false=>fO s g t src2 g2 t2 e k (i + 1) τ1 S2
def uA (cap:List (Option Nat)) (src:Ic) (g:Tg) (t:Te) (src2:Ic) (g2:Tg) (t2:Te) (e:Ex):Ex:=fun τ S=>(src τ S).bind fun s S1=>(fO s g t src2 g2 t2 e s.k 0 (gk cap τ) S1).ee fun ys S2=>newL ys S2
theorem sP {s:Src} {g:Tg} {t:Te} {e:Ex} {k i:Nat} {τ τ':List A} {S S':aA} {zs:List A} (h:gD s g t e (k + 1) i τ S=.ok (zs,τ') S') :
  ∃ x τ1 S1 b S2,s.get i S=some x /\ g x τ S=.ok τ1 S1 /\ t τ1 S1=.ok b S2 /\ (b=true -> ∃ y S3 ws,e τ1 S2=.ok y S3 /\ gD s g t e k (i + 1) τ1 S3=.ok (ws,τ') S' /\ zs=y :: ws) /\ (b=false -> gD s g t e k (i + 1) τ1 S2=.ok (zs,τ') S'):=by
 obtain ⟨x,hx,h⟩:=uX h
 obtain ⟨τ1,S1,h1,h⟩:=cH h
 obtain ⟨b,S2,h2,h⟩:=cH h
 refine ⟨x,τ1,S1,b,S2,hx,h1,h2,fun hb=>?_,fun hb=>?_⟩
 ·subst hb
  obtain ⟨y,S3,h3,h⟩:=cH h
  obtain ⟨⟨ws,τ2⟩,S4,h4,h⟩:=cH h
  cases h
  exact ⟨y,S3,ws,h3,h4,rfl⟩
 ·subst hb;exact h
theorem qW {s:Src} {g:Tg} {t:Te} {src2:Ic} {g2:Tg} {t2:Te} {e:Ex} {k i:Nat} {τ:List A} {S S':aA} {zs:List A} (h:fO s g t src2 g2 t2 e (k + 1) i τ S=.ok zs S') :
  ∃ x τ1 S1 b S2,s.get i S=some x /\ g x τ S=.ok τ1 S1 /\ t τ1 S1=.ok b S2 /\ (b=true -> ∃ s2 S3 ps τ2 S4 ws,src2 τ1 S2=.ok s2 S3 /\ gD s2 g2 t2 e s2.k 0 τ1 S3=.ok (ps,τ2) S4 /\ fO s g t src2 g2 t2 e k (i + 1) τ2 S4=.ok ws S' /\ zs=ps ++ ws) /\ (b=false -> fO s g t src2 g2 t2 e k (i + 1) τ1 S2=.ok zs S'):=by
 obtain ⟨x,hx,h⟩:=uX h
 obtain ⟨τ1,S1,h1,h⟩:=cH h
 obtain ⟨b,S2,h2,h⟩:=cH h
 refine ⟨x,τ1,S1,b,S2,hx,h1,h2,fun hb=>?_,fun hb=>?_⟩
 ·subst hb
  obtain ⟨s2,S3,h3,h⟩:=cH h
  obtain ⟨⟨ps,τ2⟩,S4,h4,h⟩:=cH h
  obtain ⟨ws,S5,h5,h⟩:=cH h
  cases h
  exact ⟨s2,S3,ps,τ2,S4,ws,h3,h4,h5,rfl⟩
 ·subst hb;exact h
def LD (K:PySem.W.Frag) (c:Ic):TI:=fun σ H Q=>∃ ρ S τ s S',Rel K ρ H S /\ SR K ρ H τ σ /\ c τ S=.ok s S' /\ ∀ ρ' H' J,Ext ρ ρ' H H' -> Rel K ρ' H' S' -> JR K s J ρ' H' -> Q J H'
structure Out (ρ1:List Addr) (H1:Hp) (D:Addr) (accV:List V) (ρ:List Addr) (H:Hp):Prop where
 e0:Ext0 ρ1 ρ H1 H
 fr:∀ a u,a ≠ D -> H1 a=some u -> a ∉ ρ1 -> H a=some u
 nw:∀ a ∈ ρ,a ∈ ρ1 \/ H1 a=none
 nD:D ∉ ρ
 hD:H D=some (.lst accV)
theorem Out.stay {ρ1 ρ3 ρ7:List Addr} {H1 H3 H7:Hp} {D:Addr} {accV:List V} (o:Out ρ1 H1 D accV ρ3 H3) (hD1:H1 D=none) (e7:Ext ρ3 ρ7 H3 H7):Out ρ1 H1 D accV ρ7 H7:=by
 refine ⟨⟨o.e0.pre.trans e7.pre,fun a u i h=>e7.im a u i (o.e0.im a u i h)⟩,fun a u na hu nr=>e7.fr a u (o.fr a u na hu nr) fun z=>(o.nw a z).elim nr fun z=>by (rw [z] at hu;cases hu),fun a ha=>?_,fun z=>(e7.nw D z).elim o.nD fun z=>by (rw [o.hD] at z;cases z),e7.fr D _ o.hD o.nD⟩
 by_cases hr:a ∈ ρ1
 ·exact .inl hr
 ·right
  cases q:H1 a with
  | none=>rfl
  | some u=>
   have aD:a ≠ D:=a_ q hD1
   rcases e7.nw a ha with z | z
   ·exact ((o.nw a z).elim hr fun z=>by (rw [z] at q;cases q)).elim
   ·rw [o.fr a u aD q hr] at z;cases z
section
variable {X:Cx} {pos:Pos} {tg iter tg2 iter2 elt e:Expr} {ifs ifs2:List Expr} {scope:Scope} {N:List Str} {cap:List (Option Nat)} {src src2:Ic} {g g2:Tg} {t t2:Te} {c:Ex}
theorem AI.i0 {K:PySem.W.Frag} (hK:X.K=K) (h:AI X tg e src):PI X tg e (LD K src):=fun pins s σ H Q I ⟨ρ,S,τ,a,S',R,r,hc,q⟩=>h pins s σ H Q I ⟨ρ,S,τ,by rw [hK];exact R,by rw [hK];exact r,by rw [hc];exact fun ρ' H' J e R' v'=>q ρ' H' J e (by rw [<- hK];exact R') (by rw [<- hK];exact v')⟩
theorem zo (hc:X.calm=true) (Sc:CpScope X scope N cap) (hi:AI X tg iter src) (hg:∀ C s₀ H₀ ex,AG (bL X scope N C s₀ H₀ ex) tg g) (ht:∀ C s₀ H₀ ex,Ir (bL X scope N C s₀ H₀ ex) ifs t) (hi2:∀ C s₀ H₀ ex,AI (bL X scope N C s₀ H₀ ex) tg2 iter2 src2)
  (hg2:∀ C s₀ H₀ ex,AG (bL X scope N C s₀ H₀ ex) tg2 g2) (ht2:∀ C s₀ H₀ ex,Ir (bL X scope N C s₀ H₀ ex) ifs2 t2) (he:∀ C s₀ H₀ ex,AE (bL X scope N C s₀ H₀ ex) elt c)
  (hs:∀ x,foldedSetIterable iter X.env x=pure x:=by intro _;rfl) (hs2:∀ env x,foldedSetIterable iter2 env x=pure x:=by intro _ _;rfl):AE X (.ListComp elt [⟨tg,iter,ifs,0⟩,⟨tg2,iter2,ifs2,0⟩] scope pos) (uA cap src g t src2 g2 t2 c):=by
 refine PE.imp (GR hc Sc hi (g:=Im X.K g) (tc:=HU X.K t) (wi2:=LD X.K src2) (g2:=Im X.K g2) (tc2:=HU X.K t2) (te:=JO X.K c) (fun C s₀ H₀ ex=>(hg C s₀ H₀ ex).g0 rfl) (fun C s₀ H₀ ex=>ht C s₀ H₀ ex) (fun C s₀ H₀ ex=>(hi2 C s₀ H₀ ex).i0 rfl) (fun C s₀ H₀ ex=>(hg2 C s₀ H₀ ex).g0 rfl) (fun C s₀ H₀ ex=>ht2 C s₀ H₀ ex) (fun C s₀ H₀ ex=>(he C s₀ H₀ ex).e0 rfl) hs hs2) fun σ H Q ⟨ρ,S,τ,R,r,h⟩=>?_
 refine ⟨ρ,S,τ,R,r,aF (aH h) .refl fun s S1 h1 ρ1 H1 J e1 R1 jr D hD=>?_⟩
 obtain ⟨ys,S2,hcg,h1⟩:=oF h1
 obtain ⟨hlen,h1⟩:=bg h1
 have h1:kJ X ρ H Q (.ref S2.length) (S2 ++ [.lst ys]):=h1
 obtain ⟨eD,RD⟩:=R1.im (u:=.lst []) hD
 have nD:=R1.zC hD
 refine ⟨fun i m σ' H'=>m + i=s.k /\ ∃ ρ' S' τ' acc zs accV,Out ρ1 H1 D accV ρ' H' /\ Rel X.K ρ' H' S' /\ SR X.K ρ' H' τ' σ' /\ AVs X.K ρ' H' acc accV /\ fO s g t src2 g2 t2 c m i τ' S'=.ok zs S2 /\ acc ++ zs=ys,
  ⟨s.k,rfl,ρ1,S1,gk cap τ,[],ys,[],⟨eD.toExt0,fun a u na hu _=>by rw [aM na];exact hu,fun a ha=>.inl ha,nD,bx⟩,RD,(EZ ((r.ext e1).ext eD) cap),.nil,hcg,rfl⟩,?_⟩
 rintro i m σ3 H3 ⟨hm,ρ3,S3,τ3,acc,zs,accV,o3,R3,r3,ac3,cg3,eys⟩
 cases m with
 | zero=>
  left
  have cg3:(if s.fin S3 then Am.R.ok [] S3 else .no)=.ok zs S2:=cg3
  cases hf:s.fin S3 with
  | false=>rw [hf] at cg3;cases cg3
  | true=>
   rw [hf] at cg3
   cases cg3
   rw [List.append_nil] at eys
   subst eys
   refine ⟨by rw [show i=s.k by omega];exact jr.stop _ H3 ρ3 o3.e0 R3 hf,?_⟩
   obtain ⟨RT,gt⟩:=R3.take o3.hD o3.nD ac3
   refine h1 (ρ3 ++ [D]) H3 _ (e1.trans ⟨⟨o3.e0.pre.trans (List.prefix_append _ _),o3.e0.im⟩,fun a u hu na=>o3.fr a u (a_ hu hD) hu na,fun a ha=>?_⟩) RT (.ref gt)
   rcases List.mem_append.mp ha with z | z
   ·exact o3.nw a z
   ·have:a=D:=by simpa using z
    rw [this];exact .inr hD
 | succ m=>
  right
  obtain ⟨x,τ4,S4,b,S5,hx,hg4,ht5,hT,hF⟩:=qW cg3
  obtain ⟨hgo,hy⟩:=jr.go i S3 H3 ρ3 x o3.e0 R3 hx
  refine ⟨hgo,fun v H4 y=>?_⟩
  obtain ⟨e4,R4,v4⟩:=hy v H4 y
  refine ⟨ρ3,S3,τ3,x,τ4,S4,R4,r3.ext e4,v4,hg4,fun ρ5 H5 σ5 e5 R5 r5=>?_⟩
  refine ⟨ρ5,S4,τ4,b,S5,R5,r5,ht5,fun ρ6 H6 e6 R6=>?_⟩
  have e36:=(e4.trans e5).trans e6
  cases b with
  | false=>
   dsimp only
   rw [if_neg Bool.false_ne_true]
   exact ⟨m,Nat.lt_succ_self _,by omega,ρ6,S5,τ4,acc,zs,accV,o3.stay hD e36,R6,r5.ext e6,ac3.ext e36,hF rfl,eys⟩
  | true=>
   dsimp only
   rw [if_pos rfl]
   obtain ⟨s2,S6,ps,τ7,S7,ws,hs6,ci7,co7,ezs⟩:=hT rfl
   refine ⟨ρ6,S5,τ4,s2,S6,R6,r5.ext e6,hs6,fun ρ8 H8 J2 e8 R8 jr2=>?_⟩
   have e38:=e36.trans e8
   have o8:=o3.stay hD e38
   refine ⟨fun i2 m2 σ' H'=>m2 + i2=s2.k /\ ∃ ρ' S' τ' acc2 qs accV2,Out ρ1 H1 D accV2 ρ' H' /\ Ext0 ρ8 ρ' H8 H' /\ Rel X.K ρ' H' S' /\ SR X.K ρ' H' τ' σ' /\ AVs X.K ρ' H' acc2 accV2 /\ gD s2 g2 t2 c m2 i2 τ' S'=.ok (qs,τ7) S7 /\ acc2 ++ qs=acc ++ ps,
    ⟨s2.k,rfl,ρ8,S6,τ4,acc,ps,accV,o8,⟨List.prefix_refl _,fun _ _ _ h=>h⟩,R8,r5.ext (e6.trans e8),ac3.ext e38,ci7,rfl⟩,?_⟩
   rintro i2 m2 σ9 H9 ⟨hm2,ρ9,S9,τ9,acc9,qs,accV9,o9,e89,R9,r9,ac9,ci9,eqs⟩
   cases m2 with
   | zero=>
    left
    have ci9:(if s2.fin S9 then Am.R.ok ([],τ9) S9 else .no)=.ok (qs,τ7) S7:=ci9
    cases hf:s2.fin S9 with
    | false=>rw [hf] at ci9;cases ci9
    | true=>
     rw [hf] at ci9
     cases ci9
     rw [List.append_nil] at eqs
     subst eqs
     refine ⟨by rw [show i2=s2.k by omega];exact jr2.stop _ H9 ρ9 e89 R9 hf,m,Nat.lt_succ_self _,by omega,ρ9,_,_,_,ws,accV9,o9,R9,r9,ac9,co7,?_⟩
     rw [List.append_assoc,<- ezs,eys]
   | succ m2=>
    right
    obtain ⟨x9,τ10,S10,b10,S11,hx9,hg10,ht11,hT9,hF9⟩:=sP ci9
    obtain ⟨hgo2,hy2⟩:=jr2.go i2 S9 H9 ρ9 x9 e89 R9 hx9
    refine ⟨hgo2,fun v10 H10 y10=>?_⟩
    obtain ⟨e10,R10,v10'⟩:=hy2 v10 H10 y10
    refine ⟨ρ9,S9,τ9,x9,τ10,S10,R10,r9.ext e10,v10',hg10,fun ρ11 H11 σ11 e11 R11 r11=>?_⟩
    refine ⟨ρ11,S10,τ10,b10,S11,R11,r11,ht11,fun ρ12 H12 e12 R12=>?_⟩
    have e912:=(e10.trans e11).trans e12
    have o12:=o9.stay hD e912
    have e812:Ext0 ρ8 ρ12 H8 H12:=⟨e89.pre.trans e912.pre,fun a u i h=>e912.im a u i (e89.im a u i h)⟩
    cases b10 with
    | false=>
     dsimp only
     rw [if_neg Bool.false_ne_true]
     exact ⟨m2,Nat.lt_succ_self _,by omega,ρ12,S11,τ10,acc9,qs,accV9,o12,e812,R12,r11.ext e12,ac9.ext e912,hF9 rfl,eqs⟩
    | true=>
     dsimp only
     rw [if_pos rfl]
     obtain ⟨y,S13,us,he13,ci13,eus⟩:=hT9 rfl
     refine ⟨ρ12,S11,τ10,y,S13,R12,r11.ext e12,he13,fun ρ14 H14 w e14 R14 v14=>?_⟩
     have o14:=o12.stay hD e14
     obtain ⟨ex15,R15⟩:=R14.out (ws:=accV9 ++ [w]) o14.hD o14.nD
     have l1:=ac9.length
     refine ⟨accV9,o14.hD,?_,m2,Nat.lt_succ_self _,by omega,ρ14,S13,τ10,acc9 ++ [y],us,accV9 ++ [w],⟨⟨o14.e0.pre,fun a u i h=>ex15.im a u i (o14.e0.im a u i h)⟩,fun a u na hu nr=>by rw [aM na];exact o14.fr a u na hu nr,o14.nw,o14.nD,bx⟩,⟨e812.pre.trans e14.pre,fun a u i h=>ex15.im a u i (e14.im a u i (e812.im a u i h))⟩,R15,(r11.ext (e12.trans e14)).dR ex15,(AVs.dR ex15 ((ac9.ext (e912.trans e14)).append (.one v14))),ci13,?_⟩
     ·have:((acc ++ ps) ++ ws).length <= sizeLine:=by rw [List.append_assoc,<- ezs,eys];exact hlen
      rw [<- eqs,eus,List.length_append,List.length_append,List.length_cons] at this
      omega
     ·rw [List.append_assoc,<- eqs,eus];rfl
end
end Am
namespace Am
open PySem PySem.Spec PyProof.Rows L2
def Iu (K:PySem.W.Frag) (n:Nat) (F:List A -> aA -> R A):Sp:=fun vs H Q E=>vs.length=n /\ ∃ ρ S as,Rel K ρ H S /\ AVs K ρ H as vs /\ (F as S).post (fun a S'=>∀ ρ' H' v,Ext ρ ρ' H H' -> Rel K ρ' H' S' -> AV K ρ' H' a v -> Q v H') (fun c S'=>∀ C ρ' H',sZ K c C -> Ext ρ ρ' H H' -> Rel K ρ' H' S' -> E (.ref C) none H')
section
variable {P:Program} {w:World} {K:PySem.W.Frag} {mg:Str -> Option Value} {base:Heap}
theorem Fun.Me {x qual:Str} {st:Stmt} {f:Addr} {fd:FuncData} {N ps:List Str} {k:Nat} {sp:Sp} (F:Fun K x qual st f fd) (S:FnScope N ps (aC st)) (len:∀ vs H Q E,sp vs H Q E -> vs.length=ps.length)
  (hb:∀ (cdv:Value) (A:Around) (outer:List Env) (s:Shared) (H:Hp) (vs:List V) (Q:VK) (E:XK),Room k (A.deeper (envOfC qual (aC st) s.heap.objs.size f cdv)) -> sp vs H Q E -> ∃ t,qd (mF (yu P w) P w K mg base N qual (aC st) f cdv A outer s H E) (aV st) t /\ t { nx:=fun _ H'=>Q .non H',rt:=Q } (L2.start N vs) H):FnOk P w K mg base (yu P w) (k + 1) f fd ps sp:=by
 obtain ⟨oc,od,kV,doc,pm,an,cdv,ct,osl,rfl,lk,hcd⟩:=F.ex
 exact Fi lk hcd S len fun A outer s H vs Q E hr hsp=>hb cdv A outer s H vs Q E hr hsp
theorem fnX {x qual:Str} {st:Stmt} {f:Addr} {fd:FuncData} {N ps:List Str} {k:Nat} {m:Sm} (F:Fun K x qual st f fd) (Sc:FnScope N ps (aC st))
  (body:∀ (cdv:Value) (A:Around) (outer:List Env) (s:Shared) (H:Hp) (E:XK),Room k (A.deeper (envOfC qual (aC st) s.heap.objs.size f cdv)) -> A9 (mF (yu P w) P w K mg base N qual (aC st) f cdv A outer s H E) (aV st) m) :
  FnOk P w K mg base (yu P w) (k + 1) f fd ps (Iu K ps.length (dO N m)):=by
 refine Fun.Me F Sc (fun vs H Q E h=>h.1) fun cdv B outer s H vs Q E hr ⟨hl,ρ,S,as,R,va,q⟩=>⟨_,body cdv B outer s H E hr,ρ,S,_,R,xV va N,?_⟩
 unfold dO at q
 cases hm:m (as ++ List.replicate (N.length - as.length) .dY) S with
 | rt b S2=>rw [hm] at q;exact q
 | nx τ S2=>rw [hm] at q;exact fun ρ' H' σ' e R' _=>q ρ' H' _ e R' .non
 | bk τ S2=>rw [hm] at q;exact q.elim
 | ct τ S2=>rw [hm] at q;exact q.elim
 | no=>rw [hm] at q;exact q.elim
 | ex c S2=>
  rw [hm] at q
  intro C ρ' H' n e R'
  exact ⟨rfl,fun pins σ' s' ea I Ra=>za I rfl Ra (q C ρ' H' n e R')⟩
end
def E5 (P:Program) (w:World) (K:PySem.W.Frag) (mg:Str -> Option Value) (base:Heap) (k:Nat) (x:Str) (ps:List Str) (F:List A -> aA -> R A):Prop:=
 ∃ (f:Addr) (fd:FuncData),FnOk P w K mg base (yu P w) k f fd ps (Iu K ps.length F) /\ mg x=some (.ref f) /\ PySem.W.keepIn K (.ref f)=true /\ Binds K fd ps []
def As (F:List A -> aA -> R A) (d:gP):Ex:=fun τ S=>(d τ S).bind fun as S1=>F as S1
section
variable {X:Cx} {pos p:Pos} {e:Expr} {es:List Expr} {x:Str} {ps:List Str} {k:Nat} {F:List A -> aA -> R A} {d:gP}
theorem uL (G:E5 X.prog X.w X.K X.mg X.base k x ps F) (hr:Room k X.A) (ha:AL X (e :: es) d) (hl:∀ τ S as S',d τ S=.ok as S' -> as.length=ps.length) (hg:Gl X x:=by rfl) (hdb:(x == ("__debug__" : Str))=false:=by decide)
  (hs:starEach (e :: es) X.env=(false,eval e X.env) :: starEach es X.env:=by rfl) (hplain:(backTo pos (starEach es X.env)).any (·.1)=false:=by rfl):AE X (.Call (.Name x p) (e :: es) [] pos) (As F d):=by
 obtain ⟨f,fd,Fo,hm,hk,hb⟩:=G
 refine PE.imp (xO Fo hr hg hm hk hb .nil (AU (X:=X) rfl rfl) ha hdb hs hplain) fun σ H Q ⟨ρ,S,τ,R,r,h⟩=>?_
 refine ⟨ρ,S,τ,R,r,?_⟩
 have hq:=aH h
 cases hd:d τ S with
 | no=>rw [hd] at hq;exact hq
 | ex c S1=>rw [hd] at hq;exact hq
 | ok as S1=>
  rw [hd] at hq
  intro ρ1 H1 vs e1 R1 v1
  rw [List.append_nil]
  refine ⟨by rw [<- v1.length];exact hl τ S as S1 hd,ρ1,S1,as,R1,v1,gM hq (fun a S2 q ρ2 H2 v e2=>q ρ2 H2 v (e1.trans e2)) fun c S2 q C ρ2 H2 n e2=>q C ρ2 H2 n (e1.trans e2)⟩
end
def vA:List Value:=[.type "ValueError",.type "Exception",.type "BaseException",.type "object"]
theorem Fj {K:PySem.W.Frag} {mg:Str -> Option Value} {base:Heap} {x:Str} {C:Addr} {bmB:List Value} {newId:String} (M:Mod K mg base) (e:sZ K x C) (q:PySem.W.excIn K C bmB newId=true):OwnCls x C bmB newId mg base:=by
 refine ⟨PySem.W.mg_of M.kin M.glob e,?_⟩
 unfold PySem.W.excIn at q
 split at q
 ·rename_i dd cd sl ho
  split at q
  ·rename_i C' bm k0 k1 k2 k3 nw k5 hm hs
   rw [Bool.and_eq_true,Bool.and_eq_true,Bool.and_eq_true,Bool.and_eq_true,Bool.and_eq_true] at q
   obtain ⟨⟨⟨⟨⟨q1,q2⟩,q3⟩,q4⟩,q5⟩,q6⟩:=q
   have q1:=beq_iff_eq.mp q1
   have q2:=beq_iff_eq.mp q2
   have q3:cd.hasDel=false:=by simpa using q3
   have q6:=beq_iff_eq.mp q6
   subst q1 q2
   obtain ⟨nm,bs,mro,ns,qn,hd,sn,sub,ab,col,del⟩:=cd
   have hm:mro=_:=hm
   have q3:del=false:=q3
   subst hm q3
   obtain ⟨sl⟩:=sl
   have hs:sl=_:=hs
   subst hs
   exact ⟨bm,ns,nm,qn,bs,hd,sn,sub,ab,col,dd,k0,k1,k2,k3,k5,_,M.kin _ _ ho,.of_isNs (PySem.W.isNs_of_in M.kin q5),PySem.W.nsMap_none_of_in M.kin q5 q6,PySem.W.tail_of_in M.kin q4⟩
  ·cases q
 ·cases q
def zL:List (Str ⊕ Ex) -> List A -> aA -> R Unit
 | [],_,S=>.ok () S
 | .inl _ :: ps,τ,S=>zL ps τ S
 | .inr e :: ps,τ,S=>(e τ S).bind fun v S1=>match v with
  | .int i=>gd (i.natAbs.log2 < 64) (zL ps τ S1)
  | _=>.no
def D4:List (Str ⊕ Ex) -> Bool
 | []=>true
 | .inl x :: ps=>decide (x.length <= 1000) && D4 ps
 | .inr _ :: ps=>D4 ps
def jW (c:Str) (ps:List (Str ⊕ Ex)):Sm:=fun τ S=>.of (zL ps τ S) fun _ S1=>.ex c S1
def J_ (X:Cx):List (Str ⊕ Ex) -> List (Str ⊕ TE)
 | []=>[]
 | .inl x :: ps=>.inl x :: J_ X ps
 | .inr e :: ps=>.inr (tE X e) :: J_ X ps
section
variable {X:Cx} {pos np cpos fp:Pos} {x:Str} {C:Addr} {e1 e2:Expr} {es:List Expr} {ps:List (Str ⊕ Ex)}
theorem lH {ρ0:List Addr} {H0:Hp} {σ:L2.St} {τ:List A} {k:Hp -> Prop} (c:Str) (hk:∀ ρ H S,Ext ρ0 ρ H0 H -> Rel X.K ρ H S -> XE X ρ0 H0 c S -> k H):∀ (ps:List (Str ⊕ Ex)) (ρ:List Addr) (H:Hp) (S:aA),D4 ps=true -> Ext ρ0 ρ H0 H -> Rel X.K ρ H S -> SR X.K ρ H τ σ ->
  (zL ps τ S).post (fun _ S'=>XE X ρ0 H0 c S') (XE X ρ0 H0) -> nB (J_ X ps) σ H k
 | [],ρ,H,S,_,e,R,r,h=>hk ρ H S e R h
 | .inl x :: ps,ρ,H,S,ok,e,R,r,h=>by
  obtain ⟨hx,ok⟩:=Bool.and_eq_true_iff.mp ok
  exact ⟨of_decide_eq_true hx,lH c hk ps ρ H S ok e R r h⟩
 | .inr a :: ps,ρ,H,S,ok,e,R,r,h=>by
  refine ⟨ρ,S,τ,R,r,?_⟩
  have h:=aH h
  refine gM h (fun v S1 h1 ρ1 H1 u e1 R1 v1=>?_) fun c' S' z=>z.ext e
  cases v with
  | int i=>
   obtain ⟨hi,h1⟩:=bg h1
   cases v1
   exact ⟨i,rfl,hi,lH c hk ps ρ1 H1 S1 ok (e.trans e1) R1 (r.ext e1) h1⟩
  | _=>exact h1.elim
theorem qo (hn:sZ X.K x C) (hq:PySem.W.excIn X.K C vA "ValueError.__new__" = true) (hh:X.A.handled=none) (hp:FParts X (e1 :: e2 :: es) (J_ X ps)) (hfs:D4 ps=true:=by rfl) (hg:Gl X x:=by rfl) (hl:2000 * (e1 :: e2 :: es).length <= sizeLine:=by decide)
  (hs:starEach [.JoinedStr (e1 :: e2 :: es) fp] X.env=(false,eval (.JoinedStr (e1 :: e2 :: es) fp) X.env) :: starEach [] X.env:=by rfl) (hpl:(backTo cpos (starEach [] X.env)).any (·.1)=false:=by rfl) (hd:(x == ("__debug__" : Str))=false:=by decide) :
  AS X (.Raise (some (.Call (.Name x np) [.JoinedStr (e1 :: e2 :: es) fp] [] cpos)) none pos) (jW x ps):=by
 intro pins s σ H D I ⟨ρ,S,τ,R,r,h⟩
 refine tD (Fj I.mod hn hq) PySem.F.excBase_ValueError hh (gu (Jp hp hl) lF hs) hg hs hpl hd pins s σ H D I ?_
 refine lH (X:=X) (ρ0:=ρ) (H0:=H) x (fun ρ1 H1 S1 e1 R1 z y hy=>?_) ps ρ H S hfs .refl R r (of_post h)
 exact ⟨(show 1 <= sizeLine by decide),z C ρ1 H1 hn e1 R1⟩
theorem qa {t:Str} {j tp} (hn:sZ X.K x C) (hq:PySem.W.excIn X.K C vA "ValueError.__new__" = true) (hh:X.A.handled=none) (hg:Gl X x:=by rfl)
  (hs:starEach [.Constant (.str t) j tp] X.env=(false,eval (.Constant (.str t) j tp) X.env) :: starEach [] X.env:=by rfl) (hpl:(backTo cpos (starEach [] X.env)).any (·.1)=false:=by rfl) (hd:(x == ("__debug__" : Str))=false:=by decide) :
  AS X (.Raise (some (.Call (.Name x np) [.Constant (.str t) j tp] [] cpos)) none pos) (jW x []):=by
 intro pins s σ H D I ⟨ρ,S,τ,R,r,h⟩
 refine tD (Fj I.mod hn hq) PySem.F.excBase_ValueError hh (gu zY lF hs) hg hs hpl hd pins s σ H D I ?_
 exact ⟨(show 1 <= sizeLine by decide),h C ρ H hn .refl R⟩
end
def An (i:Nat):RS -> RS
 | .nx τ S=>.nx (τ.set i .dY) S
 | .bk τ S=>.bk (τ.set i .dY) S
 | .ct τ S=>.ct (τ.set i .dY) S
 | .rt a S=>.rt a S
 | _=>.no
def ID (i n:Nat) (cs:List Str) (c d:Sm):Sm:=fun τ S=>match c τ S with
 | .ex x S1=>if x ∈ cs then An i (d ((List.replicate n .dY).set i (.exn x)) S1) else .no
 | r=>r
theorem SR.unset {K:PySem.W.Frag} {ρ:List Addr} {H:Hp} {τ:List A} {σ:L2.St} {i:Nat} (s:SR K ρ H τ σ):SR K ρ H (τ.set i .dY) (σ.set i none):=by
 refine ⟨by simp [s.len],fun j b e=>?_⟩
 by_cases hj:j=i
 ·subst hj
  have hl:j < τ.length:=by
   have:=(List.getElem?_eq_some_iff.mp e).1
   simpa using this
  rw [List.getElem?_set_self hl] at e
  cases e
  exact .inl rfl
 ·rw [List.getElem?_set_ne (Ne.symm hj)] at e
  rw [List.getElem?_set_ne (Ne.symm hj)]
  exact s.at j b e
section
variable {X:Cx} {pos np hp:Pos} {y n:Str} {Dc:Addr} {i:Nat} {body suite:List Stmt} {b0:Stmt} {c d:Sm} {cs:List Str}
end
def lO (f:Str -> Option Bool) (c:Ex):Ex:=fun τ S=>(c τ S).bind fun v S1=>match v with
 | .exn x=>opt (f x) fun b=>.ok (.bl b) S1
 | _=>.no
section
variable {X:Cx} {pos p py:Pos} {a:Expr} {y:Str} {vy:V} {cy:Value} {f:Str -> Option Bool} {c:Ex}
theorem Ca (ry:∀ u,RelV vy u -> u=cy) (hf:∀ x b C,f x=some b -> sZ X.K x C -> XCls X.K C /\ (PySem.W.clsIn X.K C).isSome=true /\ PySem.W.kitOne X.K (.ref C) cy=some b) :
  bD X (.builtin "isinstance") (fun xs H Q=>∃ ρ S x v b,Rel X.K ρ H S /\ xs=[v,vy] /\ AV X.K ρ H (.exn x) v /\ f x=some b /\ Q (.bl b) H):=by
 intro pins s σ H xs us Q I r ⟨ρ,S,x,v,b,R,exs,va,hb,q⟩
 subst exs
 obtain ⟨u,w',rfl,r1,r2⟩:=vals2 r
 have:=ry _ r2
 subst this
 cases va with
 | exn n h xo=>
  obtain ⟨g1,g2,g3⟩:=hf _ _ _ hb n
  cases (show u=Value.ref _ from r1)
  exact ux g1 g2 I h xo g3 fun tk=>⟨.bl b,H,I.tok tk,rfl,q⟩
theorem Bo (hy:PE X (.Name y py) (tC vy)) (ry:∀ u,RelV vy u -> u=cy) (hf:∀ x b C,f x=some b -> sZ X.K x C -> XCls X.K C /\ (PySem.W.clsIn X.K C).isSome=true /\ PySem.W.kitOne X.K (.ref C) cy=some b) (ha:AE X a c) (hm:X.mg "isinstance" = none) (hg:Gl X "isinstance" := by rfl)
  (he:starEach [a,.Name y py] X.env=(false,eval a X.env) :: starEach [.Name y py] X.env:=by rfl) (he2:starEach [.Name y py] X.env=(false,eval (.Name y py) X.env) :: starEach [] X.env:=by rfl) (hpl:(backTo pos (starEach [.Name y py] X.env)).any (·.1)=false:=by rfl) :
  AE X (.Call (.Name "isinstance" p) [a,.Name y py] [] pos) (lO f c):=
 PE.imp (sR (Ca ry hf) hg hm cF (gu ha (gu hy lF he2) he) (by decide) (by decide) he hpl) fun σ H Q ⟨ρ,S,τ,R,r,h⟩=>by
  refine ⟨ρ,S,τ,R,r,aF (aH h) .refl fun v S1 h1 ρ1 H1 x e1 R1 v1=>?_⟩
  cases v with
  | exn n=>
   obtain ⟨b,hb,h1⟩:=aK h1
   exact ⟨ρ1,S1,n,x,b,R1,rfl,v1,hb,h1 ρ1 H1 _ e1 R1 (.bl b)⟩
  | _=>exact h1.elim
end
structure ExcK (K:PySem.W.Frag) (U:Addr) (c:Str) (C:Addr):Prop where
 n:sZ K c C
 q:PySem.W.excIn K C vA "ValueError.__new__" = true
 r:L2.mroIn K C=some (.ref U :: vA)
 x:XCls K C
 cl:(PySem.W.clsIn K C).isSome=true
 v:PySem.W.kitOne K (.ref C) (.type "ValueError")=some true
theorem pe:bootBuiltins "ValueError" = some (.type "ValueError"):=by decide +kernel
def se (tb:List (Str × Bool)):Str -> Option Bool:=fun x=>tb.lookup x
theorem ET {K:PySem.W.Frag} {cy:Value} {tb:List (Str × Bool)} (h:∀ p ∈ tb,∃ C,sZ K p.1 C /\ XCls K C /\ (PySem.W.clsIn K C).isSome=true /\ PySem.W.kitOne K (.ref C) cy=some p.2):∀ x b C,se tb x=some b -> sZ K x C -> XCls K C /\ (PySem.W.clsIn K C).isSome=true /\ PySem.W.kitOne K (.ref C) cy=some b:=fun x b C e n=>by
 obtain ⟨C',n',g⟩:=h (x,b) (PySem.mem_of_lookup e)
 have:C'=C:=by
  have z:=n'.symm.trans n
  injection z with z
  injection z with z
  injection z
 subst this
 exact g
section
variable {X:Cx} {pos p py:Pos} {a:Expr} {y:Str} {Cy:Addr} {tb:List (Str × Bool)} {c:Ex}
theorem iG (hm:X.mg y=some (.ref Cy)) (h:∀ p ∈ tb,∃ C,sZ X.K p.1 C /\ XCls X.K C /\ (PySem.W.clsIn X.K C).isSome=true /\ PySem.W.kitOne X.K (.ref C) (.ref Cy)=some p.2) (ha:AE X a c) (hi:X.mg "isinstance" = none) (hg:Gl X "isinstance" := by rfl) (hgy:Gl X y:=by rfl) (hdb:(y == ("__debug__" : Str))=false:=by decide)
  (he:starEach [a,.Name y py] X.env=(false,eval a X.env) :: starEach [.Name y py] X.env:=by rfl) (he2:starEach [.Name y py] X.env=(false,eval (.Name y py) X.env) :: starEach [] X.env:=by rfl) (hpl:(backTo pos (starEach [.Name y py] X.env)).any (·.1)=false:=by rfl) :
  AE X (.Call (.Name "isinstance" p) [a,.Name y py] [] pos) (lO (se tb) c):=Bo (vy:=.ref Cy) (cy:=.ref Cy) (xR hgy hm rfl hdb) (fun u r=>r) (ET h) ha hi hg he he2 hpl
theorem HQ (hm:X.mg "ValueError" = none) (h:∀ p ∈ tb,∃ C,sZ X.K p.1 C /\ XCls X.K C /\ (PySem.W.clsIn X.K C).isSome=true /\ PySem.W.kitOne X.K (.ref C) (.type "ValueError")=some p.2) (ha:AE X a c) (hi:X.mg "isinstance" = none) (hg:Gl X "isinstance" := by rfl) (hgy:Gl X "ValueError" := by rfl)
  (he:starEach [a,.Name "ValueError" py] X.env=(false,eval a X.env) :: starEach [.Name "ValueError" py] X.env:=by rfl) (he2:starEach [.Name "ValueError" py] X.env=(false,eval (.Name "ValueError" py) X.env) :: starEach [] X.env:=by rfl) (hpl:(backTo pos (starEach [.Name "ValueError" py] X.env)).any (·.1)=false:=by rfl) :
  AE X (.Call (.Name "isinstance" p) [a,.Name "ValueError" py] [] pos) (lO (se tb) c):=Bo (vy:=.ty "ValueError") (cy:=.type "ValueError") (xG hgy hm pe rfl (by decide) (by decide)) (fun u r=>r) (ET h) ha hi hg he he2 hpl
end
section
variable {P:Program} {w:World} {K:PySem.W.Frag} {mg:Str -> Option Value} {base:Heap}
end
def KQ (X:Cx) (σ:L2.St) (cls:Value) (H':Hp):Prop:=X.ex=[] /\ ∀ pins s' e,Inv X pins σ H' s' -> lg X H' e cls s' -> X.xe (.ref e) s'
def IF (X:Cx) (σ:L2.St) (ρ:List Addr) (H:Hp):Str -> aA -> Prop:=fun c S'=>∀ (C:Addr) (ρ':List Addr) (H':Hp),sZ X.K c C -> Ext ρ ρ' H H' -> Rel X.K ρ' H' S' -> KQ X σ (.ref C) H'
def Ma (X:Cx) (c:Ex):TE:=fun σ H Q=>∃ ρ S τ,Rel X.K ρ H S /\ SR X.K ρ H τ σ /\ (c τ S).post (kJ X ρ H Q) (IF X σ ρ H)
def LR (X:Cx) (e:Expr) (c:Ex):Prop:=PE X e (Ma X c)
def L3 (X:Cx) (c:Sm):TS:=fun D σ H=>∃ ρ S τ,Rel X.K ρ H S /\ SR X.K ρ H τ σ /\ (c τ S).post (qi X ρ H D.nx) (kJ X ρ H D.rt) (qi X ρ H D.bk) (qi X ρ H D.ct) (IF X σ ρ H)
def LP (X:Cx) (st:Stmt) (c:Sm):Prop:=PS X st (L3 X c)
def Cp (F:List A -> aA -> R A) (d:gP):Ex:=fun τ S=>match d τ S with
 | .ok as S1=>F as S1
 | _=>.no
section
variable {X:Cx} {pos p:Pos} {e:Expr} {es:List Expr} {x:Str} {ps:List Str} {k:Nat} {F:List A -> aA -> R A} {d:gP}
theorem Gb (G:E5 X.prog X.w X.K X.mg X.base k x ps F) (hr:Room k X.A) (ha:AL X (e :: es) d) (hl:∀ τ S as S',d τ S=.ok as S' -> as.length=ps.length) (hg:Gl X x:=by rfl) (hdb:(x == ("__debug__" : Str))=false:=by decide)
  (hs:starEach (e :: es) X.env=(false,eval e X.env) :: starEach es X.env:=by rfl) (hplain:(backTo pos (starEach es X.env)).any (·.1)=false:=by rfl):LR X (.Call (.Name x p) (e :: es) [] pos) (Cp F d):=by
 obtain ⟨f,fd,Fo,hm,hk,hb⟩:=G
 intro pins s σ H Q I ⟨ρ,S,τ,R,r,h⟩
 unfold Cp at h
 cases hd:d τ S with
 | no=>rw [hd] at h;exact h.elim
 | ex c S1=>rw [hd] at h;exact h.elim
 | ok as S1=>
  rw [hd] at h
  have h:(F as S1).post (kJ X ρ H Q) (IF X σ ρ H):=h
  refine wpAny_Call_Name_kw (kB I hg hm ?_ hdb)
  refine PySem.W.callWith_K (h₀:=X.base) I.ok.mod.kin hk (b9 (ha pos pins s σ H (fun vs H1=>Iu X.K ps.length F vs H1 Q fun cls _ H'=>KQ X σ cls H') I ⟨ρ,S,τ,R,r,?_⟩) fun us s1 ⟨vs,H1,I1,rv,q⟩=>⟨I1.mO,?_⟩) hs hplain
  ·rw [hd]
   intro ρ1 H1 vs e1 R1 v1
   exact ⟨by rw [<- v1.length];exact hl τ S as S1 hd,ρ1,S1,as,R1,v1,gM h (fun a S2 q ρ2 H2 v e2=>q ρ2 H2 v (e1.trans e2)) fun c S2 q C ρ2 H2 n e2=>q C ρ2 H2 n (e1.trans e2)⟩
  ·have hl2:us.length=ps.length:=by rw [<- rv.length];exact q.1
   refine wpAny_call (codeAny_mono (Fo.run X.A X.stack s1 H1 ⟨us,[]⟩ us vs Q (fun cls _ H'=>KQ X σ cls H') hr I1.JW (by have:=hb s1 us I1.mO (by rw [List.append_nil];exact hl2);rwa [List.append_nil] at this) rv q) fun r s' hq=>?_)
   cases r with
   | error ev=>
    obtain ⟨ea,cls,H',he,os,bare,un,hok,⟨B,a0,Fl,c1,c2,_,k0⟩,hE⟩:=hq
    subst he
    obtain ⟨hh,g,dd,t,os'⟩:=s'
    obtain rfl:os'=s1.os:=os
    refine hE.2 pins _ ea (I1.call (h':=hh) (g':=g) (d':=dd) (t':=t) (ch:=[]) un hok bare (fun b z=>absurd z (by simp))) (.inr ⟨B,a0,Fl,c1,fun b o q hb=>?_,fun p hp=>?_,k0⟩)
    ·obtain ⟨o',q'⟩:=I1.base.there b o q (by rw [hE.1];simp)
     exact c2 b o' q' hb
    ·obtain ⟨q,_,n1,n2,_⟩:=I1.pin p (List.mem_append_left _ hp)
     exact c2 p.1 _ q fun z=>(List.mem_cons.mp (I1.kW _ z)).elim n1 n2
   | ok fl=>
    cases fl with
    | ret u=>exact I1.after hq
    | next=>exact hq.elim
    | brk=>exact hq.elim
    | cont=>exact hq.elim
def JM (t:Te) (c d:Sm):Sm:=fun τ S=>match t τ S with
 | .ok true S1=>c τ S1
 | .ok false S1=>d τ S1
 | _=>.no
theorem C6 {i:Nat} {y:Str} {f:Ex} {pos':Pos} (hN:X.N.Nodup) (he:LR X e f) (hi:X.N[i]?=some y:=by rfl) (hx:Loc X.env.scope y:=by first | exact Or.inl rfl | exact Or.inr rfl) (hs:swapsWith e (some (.Name y pos')) pos.line X.env=pure false:=by rfl) (hf:X.fn y=true \/ X.env.scope.names.lookup y=some .local:=by first | exact .inl rfl | exact .inr rfl | assumption) :
  LP X (.Assign [.Name y pos'] e pos) (bC f (cK i)):=PS.imp (Cm hN hi hx he hs hf) fun D σ H ⟨ρ,S,τ,R,r,h⟩=>
 ⟨ρ,S,τ,R,r,gM (of_post h) (fun a S1 h1 ρ1 H1 x e1 R1 v1=>h1 ρ1 H1 _ e1 R1 ((r.ext e1).set v1)) fun _ _ z=>z⟩
end
def pZ (i:Nat) (cs:List Str) (c d:Sm):Sm:=fun τ S=>match c τ S with
 | .ex x S1=>if x ∈ cs then An i (d (τ.set i (.exn x)) S1) else .no
 | r=>r
section
variable {X:Cx} {pos np hp:Pos} {y n:Str} {Dc:Addr} {i:Nat} {suite:List Stmt} {b b0:Stmt} {c d:Sm} {cs:List Str}
theorem DL (hb:∀ pn' xe',LP (X.j5 pn' xe') b c) (hh:∀ pn' e oe C,XO C oe -> A9 (X.hand pn' e oe) (b0 :: suite) d) (hN:X.N.Nodup) (hD:sZ X.K y Dc) (mD:L2.mroIn X.K Dc=some vA) (hcs:∀ x ∈ cs,∃ C,sZ X.K x C /\ L2.mroIn X.K C=some (.ref Dc :: vA))
  (hi:X.N[i]?=some n:=by rfl) (hlo:X.env.scope.names.lookup n=some .local:=by rfl) (hst:X.stack=X.env :: X.outer:=by rfl) (hf:X.env.frame=some X.env.locals:=by rfl) (hex:X.ex=[]:=by rfl) (hg:Gl X y:=by rfl) (hdb:(y == ("__debug__" : Str))=false:=by decide) :
  AS X (.Try [b] [.ExceptHandler (some (.Name y np)) (some n) (b0 :: suite) hp] [] [] pos) (pZ i cs c d):=by
 intro pins s σ H D I ⟨ρ,S,τ,R,r,h⟩
 refine wpAny_Try_except ?_
 have h:o7 X ρ H D (pZ i cs c d τ S):=h
 unfold pZ at h
 have hgo:∀ xe',(∀ x S1,c τ S=.ex x S1 -> IF (X.j5 (X.pn ++ pins) xe') σ ρ H x S1) -> (c τ S).post (qi (X.j5 (X.pn ++ pins) xe') ρ H D.nx) (kJ (X.j5 (X.pn ++ pins) xe') ρ H D.rt) (qi (X.j5 (X.pn ++ pins) xe') ρ H D.bk) (qi (X.j5 (X.pn ++ pins) xe') ρ H D.ct) (IF (X.j5 (X.pn ++ pins) xe') σ ρ H):=fun xe' hx=>by
  cases hc:c τ S with
  | nx τ' S'=>rw [hc] at h;exact h
  | rt a S'=>rw [hc] at h;exact h
  | bk τ' S'=>rw [hc] at h;exact h
  | ct τ' S'=>rw [hc] at h;exact h
  | no=>rw [hc] at h;exact h
  | ex x S1=>exact hx x S1 hc
 refine wpAny_mono (xZ (hb (X.pn ++ pins) _) [] s σ H D (I.j5 _) ⟨ρ,S,τ,R,r,hgo _ fun x S1 hc C ρ1 H1 hn e1 R1=>?_⟩) (fun f s1 hs=>?_) fun e s1 z=>z
 ·refine ⟨hex,fun pins' s' e I' R'=>?_⟩
  rw [hc] at h
  have h:o7 X ρ H D (if x ∈ cs then An i (d (τ.set i (.exn x)) S1) else .no):=h
  by_cases hx:x ∈ cs
  ·rw [if_pos hx] at h
   obtain ⟨C',hn',mC⟩:=hcs x hx
   have:C'=C:=by
    have z:=hn'.symm.trans hn
    injection z with z
    injection z with z
    injection z
   subst this
   have hm:X.mg y=some (.ref Dc):=PySem.W.mg_of I.mod.kin I.mod.glob hD
   refine zK hst hf hex hN hi hlo hg hm mD (by decide) I' R' mC (by simp) (fun oe s6 xo hn0 I6=>?_) I.ok hdb
   obtain ⟨ex,Rn⟩:=R1.im (u:=.frz oe xu) hn0
   have e2:=e1.trans ex
   refine hh (X.pn ++ pins) e oe C' xo [] s6 _ _ (KC i D) I6 ⟨ρ1,S1,τ.set i (.exn x),Rn,SR.set (r.ext e2) (.exn hn' bx xo),?_⟩
   cases hd:d (τ.set i (.exn x)) S1 with
   | nx τ' S'=>rw [hd] at h;exact fun ρ' H' σ' e' R' r'=>h ρ' H' _ (e2.trans e') R' r'.unset
   | bk τ' S'=>rw [hd] at h;exact fun ρ' H' σ' e' R' r'=>h ρ' H' _ (e2.trans e') R' r'.unset
   | ct τ' S'=>rw [hd] at h;exact fun ρ' H' σ' e' R' r'=>h ρ' H' _ (e2.trans e') R' r'.unset
   | rt a S'=>rw [hd] at h;exact fun ρ' H' v e' R' r'=>h ρ' H' v (e2.trans e') R' r'
   | ex _ _=>rw [hd] at h;exact h.elim
   | no=>rw [hd] at h;exact h.elim
  ·rw [if_neg hx] at h;exact h.elim
 ·cases f with
  | next=>obtain ⟨σ',H',J,q⟩:=hs;exact wpAny_execs_nil ⟨σ',H',J.vW,q⟩
  | brk=>obtain ⟨σ',H',J,q⟩:=hs;exact ⟨σ',H',J.vW,q⟩
  | cont=>obtain ⟨σ',H',J,q⟩:=hs;exact ⟨σ',H',J.vW,q⟩
  | ret u=>obtain ⟨v,σ',H',J,rv,q⟩:=hs;exact ⟨v,σ',H',J.vW,rv,q⟩
end
end Am
namespace L2
open PySem PySem.Spec PyProof.Rows
end L2
namespace Am
open PySem PySem.Spec PyProof.Rows L2
end Am
namespace Am
open PySem PySem.Spec PyProof.Rows L2
theorem yI {K:PySem.W.Frag} {H:Hp} {a:Addr} {ns:List Int} {F:List A -> aA -> R A} (hO:Dz H) (hS:fF K H a (ns.map V.int)) (h:∃ S',F [.frz (ns.map .int)] []=.ok (.bl true) S'):jY K 1 F [.ref a] H (fun v _=>v=.bl true) fun _ _ _=>False:=by
 obtain ⟨S',h⟩:=h
 have fz:Fz K H a (ns.map V.int):=by
  rcases hS with (h | ⟨o,h⟩) | h
  ·rcases hO a with z | ⟨ob,xs,z⟩
   ·rw [h] at z;cases z
   ·rw [h] at z;cases z
  ·exact .inl ⟨o,h⟩
  ·exact .inr h
 exact ⟨rfl,[],[],_,_,S',⟨rfl,List.nodup_nil,fun n a o h=>by simp at h⟩,.cons (.frz fz (j7 ns)) .nil,h,fun ρ' H' v _ _ hv=>qb hv⟩
section
variable {P:Program} {w:World} {K:PySem.W.Frag} {mg:Str -> Option Value} {base:Heap} {f:Addr} {fd:FuncData} {ps:List Str} {k n:Nat}
end
theorem Df {P:List Value -> Prop} (h:∀ a0,P [a0]):∀ us:List Value,us.length=1 -> P us
 | [_],_=>h _
theorem Af {P:List Value -> Prop} (h:∀ a0 a1,P [a0,a1]):∀ us:List Value,us.length=2 -> P us
 | [_,_],_=>h _ _
theorem G5 {P:List Value -> Prop} (h:∀ a0 a1 a2,P [a0,a1,a2]):∀ us:List Value,us.length=3 -> P us
 | [_,_,_],_=>h _ _ _
end Am
namespace Am
open PySem L2
section
variable {α β:Type} {a b:A} {S S1 S2:aA} {τ:List A} {x:α}
@[simp] theorem R.dS {f:α -> aA -> R β}:(R.ok x S).bind f=f x S:=rfl
@[simp] theorem R.wM {f:α -> aA -> R β} {c:Str}:(R.ex c S:R α).bind f=.ex c S:=rfl
@[simp] theorem R.e9 {f:α -> aA -> R β}:(R.ok x S).ee f=f x S:=rfl
@[simp] theorem RS.of_ok {f:α -> aA -> RS}:RS.of (R.ok x S) f=f x S:=rfl
@[simp] theorem RS.EL {f:α -> aA -> RS} {c:Str}:RS.of (R.ex c S:R α) f=.ex c S:=rfl
@[simp] theorem bw {f:β -> R α} {y:β}:opt (some y) f=f y:=rfl
@[simp] theorem xF {r:R α}:gd True r=r:=if_pos trivial
theorem cO {c:Prop} [Decidable c] {r:R α} (h:c):gd c r=r:=if_pos h
@[simp] theorem x_ {i:Nat}:ah i τ S=bif (τ.getD i .dY).di then .no else .ok (τ.getD i .dY) S:=by unfold ah;cases (τ.getD i .dY).di <;> rfl
@[simp] theorem ve {xs:List A}:A.di (.tup xs)=false:=rfl
@[simp] theorem yd {xs:List A}:A.di (.frz xs)=false:=rfl
@[simp] theorem wQ {i:Int}:A.di (.int i)=false:=rfl
@[simp] theorem BR {i:Bool}:A.di (.bl i)=false:=rfl
@[simp] theorem xK {i:Str}:A.di (.str i)=false:=rfl
@[simp] theorem vD {i:Nat}:A.di (.ref i)=false:=rfl
@[simp] theorem vL:A.di .non=false:=rfl
@[simp] theorem wI {i j:Int}:A.di (.rng i j)=false:=rfl
@[simp] theorem wG {c:Str}:A.di (.exn c)=false:=rfl
@[simp] theorem EW:eC a τ S=.ok a S:=rfl
def Jm (f:A -> A -> aA -> R A) (cb:Ex) (τ:List A) (a:A) (S:aA):R A:=(cb τ S).bind (f a)
@[simp] theorem xB {f:A -> A -> aA -> R A} {cb:Ex}:Jm f cb τ a S=(cb τ S).bind (f a):=rfl
@[simp] theorem wc {f:A -> A -> aA -> R A} {ca cb:Ex}:az f ca cb τ S=(ca τ S).bind (Jm f cb τ):=rfl
@[simp] theorem BZ {f:A -> aA -> R A} {ca:Ex}:F0 f ca τ S=(ca τ S).bind f:=rfl
@[simp] theorem vO {c:Ex}:pG c τ S=(c τ S).bind fun a S1=>opt (a.Jf S1) fun b=>.ok b S1:=rfl
def aB (a:A) (S:aA):R Bool:=match a with
 | .bl b=>.ok b S
 | _=>.no
@[simp] theorem FE {b:Bool}:aB (.bl b) S=.ok b S:=rfl
@[simp] theorem AD {c:Ex}:iD c τ S=(c τ S).bind aB:=rfl
@[simp] theorem wJ {c:Te}:qA c τ S=(c τ S).bind fun b S1=>.ok (!b) S1:=rfl
def G4 (d:Te) (τ:List A) (b:Bool) (S:aA):R Bool:=match b with | true=>d τ S | false=>.ok false S
def Ks (d:Te) (τ:List A) (b:Bool) (S:aA):R Bool:=match b with | true=>.ok true S | false=>d τ S
@[simp] theorem BF {d:Te}:G4 d τ true S=d τ S:=rfl
@[simp] theorem Au {d:Te}:G4 d τ false S=.ok false S:=rfl
@[simp] theorem Fg {d:Te}:Ks d τ true S=.ok true S:=rfl
@[simp] theorem Fx {d:Te}:Ks d τ false S=d τ S:=rfl
@[simp] theorem xj {c d:Te}:Bq c d τ S=(c τ S).bind (G4 d τ):=rfl
@[simp] theorem Ae {c d:Te}:ze c d τ S=(c τ S).bind (Ks d τ):=rfl
@[simp] theorem vq:oK τ S=.ok true S:=rfl
def zD (d:Ex) (τ:List A) (a:A) (S:aA):R A:=match a with | .bl true=>d τ S | .bl false=>.ok (.bl false) S | _=>.no
def HY (d:Ex) (τ:List A) (a:A) (S:aA):R A:=match a with | .bl true=>.ok (.bl true) S | .bl false=>d τ S | _=>.no
@[simp] theorem vt {d:Ex}:zD d τ (.bl true) S=d τ S:=rfl
@[simp] theorem vF {d:Ex}:zD d τ (.bl false) S=.ok (.bl false) S:=rfl
@[simp] theorem B9 {d:Ex}:HY d τ (.bl true) S=.ok (.bl true) S:=rfl
@[simp] theorem Cf {d:Ex}:HY d τ (.bl false) S=d τ S:=rfl
@[simp] theorem wu {c d:Ex}:m7 c d τ S=(c τ S).bind (zD d τ):=by
 unfold m7
 cases c τ S with
 | ok a S1=>cases a <;> first | rfl | (rename_i b;cases b <;> rfl)
 | _=>rfl
@[simp] theorem BK {c d:Ex}:IX c d τ S=(c τ S).bind (HY d τ):=by
 unfold IX
 cases c τ S with
 | ok a S1=>cases a <;> first | rfl | (rename_i b;cases b <;> rfl)
 | _=>rfl
def Fq (a:A) (S:aA):R A:=match a with | .bl b=>.ok (.bl !b) S | _=>.no
@[simp] theorem tN {b:Bool}:Fq (.bl b) S=.ok (.bl !b) S:=rfl
@[simp] theorem xJ {c:Ex}:yW c τ S=(c τ S).bind Fq:=rfl
def Hz (c d:Ex) (τ:List A) (b:Bool) (S:aA):R A:=match b with | true=>c τ S | false=>d τ S
@[simp] theorem A4 {c d:Ex}:Hz c d τ true S=c τ S:=rfl
@[simp] theorem Br {c d:Ex}:Hz c d τ false S=d τ S:=rfl
@[simp] theorem Bc {t:Te} {c d:Ex}:Mc t c d τ S=(t τ S).bind (Hz c d τ):=rfl
@[simp] theorem vX:aI τ S=.ok [] S:=rfl
def uv (a:A) (as:List A) (S:aA):R (List A):=.ok (a :: as) S
def E9 (d:gP) (τ:List A) (a:A) (S:aA):R (List A):=(d τ S).bind (uv a)
@[simp] theorem p7 {as:List A}:uv a as S=.ok (a :: as) S:=rfl
@[simp] theorem rK {d:gP}:E9 d τ a S=(d τ S).bind (uv a):=rfl
@[simp] theorem rZ {c:Ex} {d:gP}:aj c d τ S=(c τ S).bind (E9 d τ):=rfl
@[simp] theorem xY {d:gP}:gh d τ S=(d τ S).bind fun as S1=>gd (as.length <= sizeLine) (.ok (.tup as) S1):=rfl
@[simp] theorem wF {d:gP}:fM d τ S=(d τ S).bind newL:=rfl
theorem bP {as:List A} (h:as.length <= 16777216):newL as S=.ok (.ref S.length) (S ++ [.lst as]):=cO (by rw [sizeLine_eq];exact h)
@[simp] theorem sj {f:List A -> aA -> R A} {d:gP}:aT f d τ S=(d τ S).bind f:=rfl
def K9 (r:R A):R A:=match r with
 | .ok a S=>.ok a S
 | _=>.no
@[simp] theorem A2:K9 (.ok a S)=.ok a S:=rfl
def LS (f:List A -> aA -> R A) (as:List A) (S:aA):R A:=K9 (f as S)
@[simp] theorem BU {f:List A -> aA -> R A} {as:List A}:LS f as S=K9 (f as S):=rfl
@[simp] theorem Ci {f:List A -> aA -> R A} {d:gP}:eFn f d τ S=(d τ S).bind (LS f):=rfl
@[simp] theorem EV {g:A -> aA -> R A}:f1 g [a] S=g a S:=rfl
@[simp] theorem FH {g:A -> A -> aA -> R A}:f2 g [a,b] S=g a b S:=rfl
def HH (h:Pt) (τ:List A) (a:A) (l:Option Int) (S:aA):R A:=(h τ S).bind (yq a l)
def LX (l h:Pt) (τ:List A) (a:A) (S:aA):R A:=(l τ S).bind (HH h τ a)
@[simp] theorem wC {h:Pt} {l:Option Int}:HH h τ a l S=(h τ S).bind (yq a l):=rfl
@[simp] theorem Cq {l h:Pt}:LX l h τ a S=(l τ S).bind (HH h τ a):=rfl
@[simp] theorem zh {c:Ex} {l h:Pt}:qS c l h τ S=(c τ S).bind (LX l h τ):=rfl
@[simp] theorem t7:eL τ S=.ok none S:=rfl
def LJ (a:A) (S:aA):R (Option Int):=match a with
 | .int i=>.ok (some i) S
 | _=>.no
@[simp] theorem vh {i:Int}:LJ (.int i) S=.ok (some i) S:=rfl
@[simp] theorem sJ {c:Ex}:eO c τ S=(c τ S).bind LJ:=rfl
def Hx (f:A -> List A -> aA -> R A) (d:gP) (τ:List A) (o:A) (S:aA) (_:List A):R A:=(d τ S).bind (f o)
def Lx (f:A -> List A -> aA -> R A) (d:gP) (τ:List A) (o:A) (S:aA):R A:=opt (o.lst? S) (Hx f d τ o S)
@[simp] theorem yf {f:A -> List A -> aA -> R A} {d:gP} {xs:List A}:Hx f d τ a S xs=(d τ S).bind (f a):=rfl
@[simp] theorem BY {f:A -> List A -> aA -> R A} {d:gP}:Lx f d τ a S=opt (a.lst? S) (Hx f d τ a S):=rfl
@[simp] theorem CD {f:A -> List A -> aA -> R A} {c:Ex} {d:gP}:Gw f c d τ S=(c τ S).bind (Lx f d τ):=rfl
@[simp] theorem vS {f:A -> List A -> aA -> R A} {c:Ex}:KJ f c τ S=(c τ S).bind fun o S1=>opt (o.lst? S1) fun _=>f o [] S1:=rfl
@[simp] theorem lst?_ref {n:Nat}:A.lst? S (.ref n)=ak S n:=rfl
def RS.seq (r:RS) (d:Sm):RS:=match r with
 | .nx τ S=>d τ S
 | r=>r
@[simp] theorem RS.B0 {d:Sm}:RS.seq (.nx τ S) d=d τ S:=rfl
@[simp] theorem RS.Cu {d:Sm}:RS.seq (.rt a S) d=.rt a S:=rfl
@[simp] theorem RS.zH {d:Sm} {c:Str}:RS.seq (.ex c S) d=.ex c S:=rfl
@[simp] theorem RS.AZ {d:Sm}:RS.seq (.bk τ S) d=.bk τ S:=rfl
@[simp] theorem RS.Cb {d:Sm}:RS.seq (.ct τ S) d=.ct τ S:=rfl
@[simp] theorem vQ {c d:Sm}:bq c d τ S=RS.seq (c τ S) d:=by unfold bq RS.seq;cases c τ S <;> rfl
@[simp] theorem wm:gU τ S=.nx τ S:=rfl
@[simp] theorem p_:HD τ S=.bk τ S:=rfl
@[simp] theorem r8:IV τ S=.ct τ S:=rfl
@[simp] theorem t8 {e:Ex}:qt e τ S=RS.of (e τ S) fun _ S1=>.nx τ S1:=rfl
@[simp] theorem vJ {e:Ex}:cz e τ S=RS.of (e τ S) .rt:=rfl
@[simp] theorem tR:I_ τ S=.rt .non S:=rfl
def Kg (c d:Sm) (τ:List A) (b:Bool) (S:aA):RS:=match b with | true=>c τ S | false=>d τ S
@[simp] theorem Fy {c d:Sm}:Kg c d τ true S=c τ S:=rfl
@[simp] theorem E3 {c d:Sm}:Kg c d τ false S=d τ S:=rfl
@[simp] theorem BG {t:Te} {c d:Sm}:pJ t c d τ S=RS.of (t τ S) (Kg c d τ):=rfl
def JH (g:Tg) (τ:List A) (a:A) (S:aA):RS:=RS.of (g a τ S) .nx
@[simp] theorem xy {g:Tg}:JH g τ a S=RS.of (g a τ S) .nx:=rfl
@[simp] theorem xh {e:Ex} {g:Tg}:bC e g τ S=RS.of (e τ S) (JH g τ):=rfl
@[simp] theorem BH {i:Nat}:cK i a τ S=.ok (τ.set i a) S:=rfl
def Gi (a o:A) (τ:List A) (i:A) (S:aA):R (List A):=(su o i a S).bind fun _ S3=>.ok τ S3
def LF (ci:Ex) (τ:List A) (a o:A) (S:aA):R (List A):=(ci τ S).bind (Gi a o τ)
@[simp] theorem ye {o i:A}:Gi a o τ i S=(su o i a S).bind fun _ S3=>.ok τ S3:=rfl
@[simp] theorem Ao {ci:Ex} {o:A}:LF ci τ a o S=(ci τ S).bind (Gi a o τ):=rfl
@[simp] theorem BI {co ci:Ex}:zc co ci a τ S=(co τ S).bind (LF ci τ a):=rfl
@[simp] theorem z9 {n:Nat} {gs:C4} {xs:List A}:C2 n gs (.tup xs) τ S=gd (xs.length=n) (gs xs τ S):=rfl
@[simp] theorem zE:C3 [] τ S=.ok τ S:=rfl
@[simp] theorem CQ {g:Tg} {gs:C4} {as:List A}:rH g gs (a :: as) τ S=(g a τ S).bind (gs as):=rfl
def Ly (i j:Nat) (τ:List A) (as:List A) (S:aA):RS:=match as with
 | [a,b]=>.nx ((τ.set i a).set j b) S
 | _=>.no
@[simp] theorem CO {i j:Nat}:Ly i j τ [a,b] S=.nx ((τ.set i a).set j b) S:=rfl
@[simp] theorem xw {i j:Nat} {c:gP}:K7 i j c τ S=RS.of (c τ S) (Ly i j τ):=rfl
def BJ (i:Nat) (τ:List A) (c:A) (S:aA):RS:=.nx (τ.set i c) S
def II (i:Nat) (f:A -> A -> aA -> R A) (τ:List A) (b:A) (S:aA):RS:=.of (f (τ.getD i .dY) b S) (BJ i τ)
@[simp] theorem uh {i:Nat}:BJ i τ a S=.nx (τ.set i a) S:=rfl
@[simp] theorem wk {i:Nat} {f:A -> A -> aA -> R A}:II i f τ a S=.of (f (τ.getD i .dY) a S) (BJ i τ):=rfl
@[simp] theorem wV {i:Nat} {f:A -> A -> aA -> R A} {e:Ex}:z_ i f e τ S=bif (τ.getD i .dY).di then .no else .of (e τ S) (II i f τ):=by
 unfold z_;cases (τ.getD i .dY).di <;> rfl
def KG (o i:A) (τ:List A) (z:A) (S:aA):RS:=.of (su o i z S) fun _ S6=>.nx τ S6
def La (f:A -> A -> aA -> R A) (o i x:A) (τ:List A) (y:A) (S:aA):RS:=.of (f x y S) (KG o i τ)
def Lf (ce:Ex) (f:A -> A -> aA -> R A) (o i:A) (τ:List A) (x:A) (S:aA):RS:=.of (ce τ S) (La f o i x τ)
def Li (ce:Ex) (f:A -> A -> aA -> R A) (o:A) (τ:List A) (i:A) (S:aA):RS:=.of (DX o i S) (Lf ce f o i τ)
def LY (ci ce:Ex) (f:A -> A -> aA -> R A) (τ:List A) (o:A) (S:aA):RS:=.of (ci τ S) (Li ce f o τ)
@[simp] theorem BA {o i:A}:KG o i τ a S=.of (su o i a S) fun _ S6=>.nx τ S6:=rfl
@[simp] theorem BC {f:A -> A -> aA -> R A} {o i x:A}:La f o i x τ a S=.of (f x a S) (KG o i τ):=rfl
@[simp] theorem CC {ce:Ex} {f:A -> A -> aA -> R A} {o i:A}:Lf ce f o i τ a S=.of (ce τ S) (La f o i a τ):=rfl
@[simp] theorem BV {ce:Ex} {f:A -> A -> aA -> R A} {o:A}:Li ce f o τ a S=.of (DX o a S) (Lf ce f o a τ):=rfl
@[simp] theorem CN {ci ce:Ex} {f:A -> A -> aA -> R A}:LY ci ce f τ a S=.of (ci τ S) (Li ce f a τ):=rfl
@[simp] theorem sf {co ci ce:Ex} {f:A -> A -> aA -> R A}:Jh co ci ce f τ S=RS.of (co τ S) (LY ci ce f τ):=rfl
def RS.end (r:RS):R A:=match r with
 | .rt a S'=>.ok a S'
 | .nx _ S'=>.ok .non S'
 | .ex c S'=>.ex c S'
 | _=>.no
@[simp] theorem RS.zO:RS.end (.rt a S)=.ok a S:=rfl
@[simp] theorem RS.zy:RS.end (.nx τ S)=.ok .non S:=rfl
@[simp] theorem RS.zw {c:Str}:RS.end (.ex c S)=.ex c S:=rfl
theorem mY {N:List Str} {m:Sm} {as:List A}:dO N m as S=RS.end (m (as ++ List.replicate (N.length - as.length) .dY) S):=by
 unfold dO RS.end;cases m (as ++ List.replicate (N.length - as.length) .dY) S <;> rfl
@[simp] theorem Ar {i j:Int}:aZ (.int i) (.int j) S=.ok (.int (i + j)) S:=rfl
@[simp] theorem zM {i j:Int}:aSub (.int i) (.int j) S=.ok (.int (i - j)) S:=rfl
@[simp] theorem Bv {i j:Int}:Gj (.int i) (.int j) S=.ok (.int (i + j)) S:=rfl
theorem wj {i j:Int} (h:-18446744073709551616 < i) (h':i < 18446744073709551616):iO (.int i) (.int j) S=.ok (.int (i * j)) S:=cO (by unfold sq;simp;left;exact ⟨by omega,by omega⟩)
theorem mul_r {i j:Int} (h:-18446744073709551616 < j) (h':j < 18446744073709551616):iO (.int i) (.int j) S=.ok (.int (i * j)) S:=cO (by unfold sq;simp;right;exact ⟨by omega,by omega⟩)
theorem uD {i j:Int} (h:0 < j) (h':j < 1073741824):tF (.int i) (.int j) S=.ok (.int (i / j)) S:=cO ⟨h,by omega⟩
theorem qv {i j:Int} (h:0 < j):mK (.int i) (.int j) S=.ok (.int (i % j)) S:=cO h
@[simp] theorem EO {i j:Int}:sD (.int i) (.int j) S=.ok (.bl (decide (i < j))) S:=rfl
@[simp] theorem E2 {i j:Int}:JS (.int i) (.int j) S=.ok (.bl (decide (i <= j))) S:=rfl
@[simp] theorem E_ {i j:Int}:rG (.int i) (.int j) S=.ok (.bl (decide (j < i))) S:=rfl
@[simp] theorem EN {i j:Int}:J9 (.int i) (.int j) S=.ok (.bl (decide (j <= i))) S:=rfl
@[simp] theorem EY {i j:Bool}:AH false (.bl i) (.bl j) S=.ok (.bl (i == j)) S:=rfl
@[simp] theorem Aa {i j:Bool}:AH true (.bl i) (.bl j) S=.ok (.bl (i != j)) S:=rfl
@[simp] theorem Cz {i:Int}:DJ (.int i) S=.ok (.int (-i)) S:=rfl
@[simp] theorem zz {xs:List A}:dX (.tup xs) S=.ok (.int xs.length) S:=rfl
@[simp] theorem zq {xs:List A}:dX (.frz xs) S=.ok (.int xs.length) S:=rfl
@[simp] theorem Ax {n:Nat}:dX (.ref n) S=opt (ak S n) fun xs=>.ok (.int xs.length) S:=rfl
@[simp] theorem zk {i:Int}:uM (.int i) S=.ok (.int (if i < 0 then -i else i)) S:=rfl
@[simp] theorem wX {i j:Int}:Bk (.int i) (.int j) S=.ok (.int (if j > i then j else i)) S:=rfl
@[simp] theorem wR {i j:Int}:Bj (.int i) (.int j) S=.ok (.int (if j < i then j else i)) S:=rfl
@[simp] theorem wK {i:Int}:pX (.int i) S=.ok (.int i) S:=rfl
@[simp] theorem vI {i:Bool}:pX (.bl i) S=.ok (.int (if i then 1 else 0)) S:=rfl
@[simp] theorem qp {i j:Int}:kH (.int i) (.int j) S=.ok (.rng i j) S:=rfl
@[simp] theorem E8 {xs:List A} {i:Int}:dP (.tup xs) (.int i) S=opt (eV xs i) fun x=>.ok x S:=rfl
@[simp] theorem E6 {xs:List A} {i:Int}:dP (.frz xs) (.int i) S=opt (eV xs i) fun x=>.ok x S:=rfl
@[simp] theorem E7 {n:Nat} {i:Int}:dP (.ref n) (.int i) S=opt (ak S n) fun xs=>opt (eV xs i) fun x=>.ok x S:=rfl
@[simp] theorem Cg {n:Nat} {k:Int}:su (.ref n) (.int k) a S=opt (ak S n) fun xs=>opt (o4 xs.length k) fun j=>.ok () (S.set n (.lst (xs.set j a))):=rfl
@[simp] theorem z8 {n:Nat} {i:Int}:DX (.ref n) (.int i) S=opt (ak S n) fun xs=>gd (0 <= i) (opt (xs[i.toNat]?) fun x=>.ok x S):=rfl
theorem pT {i j:Int} (h:lT i j):iB (.rng i j) S=.ok (.ref S.length) (S ++ [.lst ((aP i j).map .int)]):=cO h
theorem uo {i j:Int} (h:lT i j):g8 (.rng i j) S=.ok (.tup ((aP i j).map .int)) S:=cO h
@[simp] theorem vZ {xs:List A}:iB (.tup xs) S=.ok (.ref S.length) (S ++ [.lst xs]):=rfl
@[simp] theorem xQ {xs:List A}:iB (.frz xs) S=.ok (.ref S.length) (S ++ [.lst xs]):=rfl
@[simp] theorem vK {n:Nat}:iB (.ref n) S=opt (ak S n) fun xs=>.ok (.ref S.length) (S ++ [.lst xs]):=rfl
@[simp] theorem rV {xs:List A}:g8 (.tup xs) S=.ok (.tup xs) S:=rfl
@[simp] theorem sG {n:Nat}:g8 (.ref n) S=opt (ak S n) fun xs=>.ok (.tup xs) S:=rfl
@[simp] theorem Bw {xs:List A}:yV (.tup xs) S=.ok (.tup xs.reverse) S:=rfl
@[simp] theorem CS {n:Nat}:yV (.ref n) S=opt (ak S n) fun xs=>.ok (.ref S.length) (S ++ [.lst xs.reverse]):=rfl
@[simp] theorem EF {n:Nat} {l u:Option Int}:yq (.ref n) l u S=opt (ak S n) fun xs=>.ok (.ref S.length) (S ++ [.lst (gx xs l u)]):=rfl
@[simp] theorem jS {n:Nat}:jm (.ref n) [a] S=opt (ak S n) fun xs=>gd (xs.length < sizeLine) (.ok .non (S.set n (.lst (xs ++ [a])))):=rfl
@[simp] theorem Bm {b:Bool}:A.Jf (.bl b) S=some b:=rfl
@[simp] theorem vG {i:Int}:A.Jf (.int i) S=some (i != 0):=rfl
theorem Ie {o:O}:(S ++ [o])[S.length]?=some o:=by simp
@[simp] theorem aN {xs:List A}:ak (S ++ [.lst xs]) S.length=some xs:=m8 Ie
theorem aO {o:O} {n:Nat} {xs:List A} (h:ak S n=some xs):ak (S ++ [o]) n=some xs:=by
 have h':=aQ h
 exact m8 (by rw [List.getElem?_append_left (List.getElem?_eq_some_iff.mp h').1];exact h')
theorem bI {n:Nat} {xs:List A} (h:ak S n=some xs):n < S.length:=(List.getElem?_eq_some_iff.mp (aQ h)).1
theorem dc {n:Nat} {ys:List A} (h:n < S.length):ak (S.set n (.lst ys)) n=some ys:=m8 (List.getElem?_set_self h)
theorem bA {n m:Nat} {ys:List A} (h:n ≠ m):ak (S.set n (.lst ys)) m=ak S m:=by unfold ak;rw [List.getElem?_set_ne h]
theorem lK {xs:List A} {i:Int} {k:Nat} {x:A} (h:i=k) (hx:xs[k]?=some x):eV xs i=some x:=by rw [h];exact Ep hx
theorem gE {n:Nat} {i:Int} {k:Nat} (h:i=k) (hk:k < n):o4 n i=some k:=by
 subst h
 unfold o4
 rw [if_pos (by omega),if_pos (by omega)]
 simp
end
end Am
namespace Am
open PySem L2
structure Kp (b:Nat -> Prop) (S S':aA):Prop where
 len:S.length <= S'.length
 lst:∀ n xs,¬ b n -> ak S n=some xs -> ak S' n=some xs
abbrev dD:=Kp fun _=>False
theorem Kp.refl {b:Nat -> Prop} {S:aA}:Kp b S S:=⟨Nat.le_refl _,fun _ _ _ h=>h⟩
theorem Kp.trans {b:Nat -> Prop} {S S1 S2:aA} (h:Kp b S S1) (h':Kp b S1 S2):Kp b S S2:=⟨Nat.le_trans h.len h'.len,fun n xs hb e=>h'.lst n xs hb (h.lst n xs hb e)⟩
theorem Kp.lay {b:Nat -> Prop} {S S1:aA} {o:O} (h:Kp b S S1):Kp b S (S1 ++ [o]):=⟨Nat.le_trans h.len (by simp),fun n xs hb e=>aO (h.lst n xs hb e)⟩
theorem Kp.set {b:Nat -> Prop} {S S1:aA} {m:Nat} {ys:List A} (h:Kp b S S1) (hm:b m \/ S.length <= m):Kp b S (S1.set m (.lst ys)):=⟨by rw [List.length_set];exact h.len,fun n xs hb e=>by
 have:m ≠ n:=fun z=>by
  subst z
  rcases hm with z | z
  ·exact hb z
  ·exact absurd (bI e) (by omega)
 rw [bA this]
 exact h.lst n xs hb e⟩
theorem Kp.mono {b c:Nat -> Prop} {S S1:aA} (h:Kp b S S1) (hb:∀ n,n < S.length -> b n -> c n):Kp c S S1:=⟨h.len,fun n xs hc e=>h.lst n xs (fun z=>hc (hb n (bI e) z)) e⟩
theorem Kp.of0 {b:Nat -> Prop} {S S1:aA} (h:dD S S1):Kp b S S1:=h.mono fun _ _ z=>z.elim
theorem kC {t:Te} {c:Sm} (Inv:List A -> aA -> Prop) (μ:List A -> aA -> Nat) (Post:RS -> Prop)
  (h:∀ τ S,Inv τ S -> (∃ S1,t τ S=.ok false S1 /\ Post (.nx τ S1)) \/ (∃ S1,t τ S=.ok true S1 /\ ((∃ τ' S',c τ S1=.nx τ' S' /\ Inv τ' S' /\ μ τ' S' < μ τ S) \/ (∃ a S',c τ S1=.rt a S' /\ Post (.rt a S'))))) :
  ∀ n τ S,Inv τ S -> μ τ S < n -> Post (dU t c n τ S)
 | 0,_,_,_,hn=>absurd hn (Nat.not_lt_zero _)
 | n + 1,τ,S,hi,hn=>by
  unfold dU
  rcases h τ S hi with ⟨S1,e,q⟩ | ⟨S1,e,⟨τ',S',e2,hi',hm⟩ | ⟨a,S',e2,q⟩⟩
  ·rw [e];exact q
  ·rw [e]
   show Post (match c τ S1 with
    | .nx τ' S'=>dU t c n τ' S'
    | .ct τ' S'=>dU t c n τ' S'
    | .bk τ' S'=>.nx τ' S'
    | r=>r)
   rw [e2]
   exact kC Inv μ Post h n τ' S' hi' (by omega)
  ·rw [e]
   show Post (match c τ S1 with
    | .nx τ' S'=>dU t c n τ' S'
    | .ct τ' S'=>dU t c n τ' S'
    | .bk τ' S'=>.nx τ' S'
    | r=>r)
   rw [e2]
   exact q
theorem uN {s:Src} {g:Tg} {c:Sm} (Inv:Nat -> List A -> aA -> Prop) (Post:RS -> Prop)
  (step:∀ i τ S,i < s.k -> Inv i τ S -> ∃ x τ1 S1,s.get i S=some x /\ g x τ S=.ok τ1 S1 /\ ((∃ τ' S',c τ1 S1=.nx τ' S' /\ Inv (i + 1) τ' S') \/ (∃ a S',c τ1 S1=.rt a S' /\ Post (.rt a S'))))
  (fin:∀ τ S,Inv s.k τ S -> s.fin S=true /\ Post (.nx τ S)):∀ k i τ S,k + i=s.k -> Inv i τ S -> Post (gq s g c k i τ S)
 | 0,i,τ,S,hk,hi=>by
  have:i=s.k:=by omega
  subst this
  obtain ⟨hf,q⟩:=fin τ S hi
  unfold gq
  rw [if_pos hf]
  exact q
 | k + 1,i,τ,S,hk,hi=>by
  obtain ⟨x,τ1,S1,hx,hg,h⟩:=step i τ S (by omega) hi
  unfold gq
  rw [hx]
  show Post (RS.of (g x τ S) fun τ1 S1=>match c τ1 S1 with
   | .nx τ' S'=>gq s g c k (i + 1) τ' S'
   | .ct τ' S'=>gq s g c k (i + 1) τ' S'
   | .bk τ' S'=>.nx τ' S'
   | r=>r)
  rw [hg]
  show Post (match c τ1 S1 with
   | .nx τ' S'=>gq s g c k (i + 1) τ' S'
   | .ct τ' S'=>gq s g c k (i + 1) τ' S'
   | .bk τ' S'=>.nx τ' S'
   | r=>r)
  rcases h with ⟨τ',S',e,hi'⟩ | ⟨a,S',e,q⟩
  ·rw [e];exact uN Inv Post step fin k (i + 1) τ' S' (by omega) hi'
  ·rw [e];exact q
theorem mT {lo hi:Int} {j:Nat} {c:Sm} {src:Ic} {τ:List A} {S S1:aA} (hs:src τ S=.ok (cZ lo hi) S1) (Inv:Nat -> List A -> aA -> Prop) (Post:RS -> Prop) (h0:Inv 0 τ S1)
  (step:∀ (i:Nat) τ S,(i:Int) < hi - lo -> Inv i τ S -> (∃ τ' S',c (τ.set j (.int (lo + i))) S=.nx τ' S' /\ Inv (i + 1) τ' S') \/ (∃ a S',c (τ.set j (.int (lo + i))) S=.rt a S' /\ Post (.rt a S')))
  (fin:∀ τ S,Inv (hi - lo).toNat τ S -> Post (.nx τ S)):Post (kD src (cK j) c τ S):=by
 unfold kD
 rw [hs]
 refine uN (s:=cZ lo hi) Inv Post (fun i τ S hi' h=>?_) (fun τ S h=>⟨rfl,fin τ S h⟩) _ 0 τ S1 rfl h0
 have hi':i < (hi - lo).toNat:=hi'
 exact ⟨.int (lo + i),_,S,if_pos hi',rfl,step i τ S (by omega) h⟩
theorem mS {n:Nat} {xs:List A} {g:Tg} {c:Sm} {src:Ic} {τ:List A} {S S1:aA} (hs:src τ S=.ok (gH n xs.length) S1) (Inv:Nat -> List A -> aA -> Prop) (Post:RS -> Prop) (h0:Inv 0 τ S1) (hl:∀ i τ S,Inv i τ S -> ak S n=some xs)
  (step:∀ (i:Nat) x τ S,xs[i]?=some x -> Inv i τ S -> ∃ τ1 S1,g x τ S=.ok τ1 S1 /\ ((∃ τ' S',c τ1 S1=.nx τ' S' /\ Inv (i + 1) τ' S') \/ (∃ a S',c τ1 S1=.rt a S' /\ Post (.rt a S'))))
  (fin:∀ τ S,Inv xs.length τ S -> Post (.nx τ S)):Post (kD src g c τ S):=by
 unfold kD
 rw [hs]
 refine uN (s:=gH n xs.length) Inv Post (fun i τ S hi' h=>?_) (fun τ S h=>⟨?_,fin τ S h⟩) _ 0 τ S1 rfl h0
 ·have hi':i < xs.length:=hi'
  obtain ⟨τ1,S1,e,q⟩:=step i xs[i] τ S (List.getElem?_eq_getElem hi') h
  exact ⟨xs[i],τ1,S1,by show (ak S n).bind _=_;rw [hl i τ S h];exact List.getElem?_eq_getElem hi',e,q⟩
 ·show (match ak S n with
   | some ys=>decide (ys.length <= xs.length)
   | none=>false)=true
  rw [hl _ τ S h]
  exact decide_eq_true (Nat.le_refl _)
@[simp] theorem gJ {c:Ex} {τ:List A} {S S1:aA} {j:Int} (h:c τ S=.ok (.int j) S1) (hb:bnd j):gZ c τ S=.ok (cZ 0 j) S1:=by
 unfold gZ;rw [h];exact cO hb
theorem iK {c d:Ex} {τ:List A} {S S1 S2:aA} {i j:Int} (h:c τ S=.ok (.int i) S1) (h':d τ S1=.ok (.int j) S2) (hb:bnd i) (hb':bnd j):fJ c d τ S=.ok (cZ i j) S2:=by
 unfold fJ;rw [h];show (d τ S1).bind _=_;rw [h'];exact cO ⟨hb,hb'⟩
theorem jQ {c:Ex} {τ:List A} {S S1:aA} {n:Nat} {xs:List A} (h:c τ S=.ok (.ref n) S1) (hl:ak S1 n=some xs):kP c τ S=.ok (gH n xs.length) S1:=by
 unfold kP;rw [h];show opt (ak S1 n) _=_;rw [hl];rfl
theorem mR {s:Src} {g:Tg} {t:Te} {e:Ex} {P:aA -> Prop} {T:List A -> Prop} (it:Nat -> A) (p:Nat -> Bool) (f:Nat -> A)
  (hget:∀ i S,i < s.k -> P S -> s.get i S=some (it i)) (hfin:∀ S,P S -> s.fin S=true)
  (step:∀ i τ S,i < s.k -> T τ -> P S -> ∃ τ1 S1 S2,g (it i) τ S=.ok τ1 S1 /\ t τ1 S1=.ok (p i) S2 /\ T τ1 /\ (p i=false -> P S2) /\ (p i=true -> ∃ S3,e τ1 S2=.ok (f i) S3 /\ P S3)) :
  ∀ k i τ S,k + i=s.k -> T τ -> P S -> ∃ S',gf s g t e k i τ S=.ok (((List.range' i k).filter p).map f) S' /\ P S'
 | 0,i,τ,S,hk,hT,hP=>⟨S,by unfold gf;rw [if_pos (hfin S hP)];rfl,hP⟩
 | k + 1,i,τ,S,hk,hT,hP=>by
  obtain ⟨τ1,S1,S2,hg,ht,hT1,hF,hTr⟩:=step i τ S (by omega) hT hP
  unfold gf
  rw [hget i S (by omega) hP,bw,hg,R.e9,ht,R.e9,List.range'_succ,List.filter_cons]
  cases hp:p i with
  | false=>
   obtain ⟨S',h1,h2⟩:=mR it p f hget hfin step k (i + 1) τ1 S2 (by omega) hT1 (hF hp)
   exact ⟨S',by simpa using h1,h2⟩
  | true=>
   obtain ⟨S3,he,hP3⟩:=hTr hp
   obtain ⟨S',h1,h2⟩:=mR it p f hget hfin step k (i + 1) τ1 S3 (by omega) hT1 hP3
   refine ⟨S',?_,h2⟩
   show (e τ1 S2).ee _=_
   rw [he,R.e9,h1]
   rfl
theorem p6 {s:Src} {cap:List (Option Nat)} {src:Ic} {t:Te} {e:Ex} {τ:List A} {S S1:aA} (hs:src τ S=.ok s S1) (it:Nat -> A) (p:Nat -> Bool) (f:Nat -> A) (hget:∀ i,i < s.k -> s.get i S1=some (it i)) (hfin:s.fin S1=true)
  (ht:∀ i,i < s.k -> t (it i :: gk cap τ) S1=.ok (p i) S1) (he:∀ i,i < s.k -> p i=true -> e (it i :: gk cap τ) S1=.ok (f i) S1) (hl:s.k <= 16777216) :
  fC (none :: cap) src (cK 0) t e τ S=.ok (.ref S1.length) (S1 ++ [.lst (((List.range s.k).filter p).map f)]):=by
 unfold fC
 rw [hs,R.dS]
 obtain ⟨S',h1,h2⟩:=mR (s:=s) (g:=cK 0) (t:=t) (e:=e) (P:=fun S=>S=S1) (T:=fun τ'=>∃ y,τ'=y :: gk cap τ) it p f (fun i S hi h=>by subst h;exact hget i hi) (fun S h=>by subst h;exact hfin)
  (fun i τ' S hi ⟨y,hy⟩ h=>by
   subst h hy
   exact ⟨it i :: gk cap τ,S,S,rfl,ht i hi,⟨_,rfl⟩,fun _=>rfl,fun hp=>⟨S,he i hi hp,rfl⟩⟩) s.k 0 (gk (none :: cap) τ) S1 rfl ⟨_,rfl⟩ rfl
 subst h2
 rw [h1,R.e9,List.range_eq_range']
 refine bP ?_
 rw [List.length_map]
 refine Nat.le_trans (List.length_filter_le _ _) ?_
 rw [List.length_range']
 exact hl
theorem gY {α β:Type} (xs:List α) (p:α -> Bool) (f:α -> β):∀ (d:α) ,(((List.range xs.length).filter fun i=>p (xs.getD i d)).map fun i=>f (xs.getD i d))=(xs.filter p).map f:=by
 intro d
 induction xs with
 | nil=>rfl
 | cons x xs ih=>
  rw [List.length_cons,List.range_succ_eq_map,List.filter_cons,List.filter_cons]
  have e:((List.filter (fun i=>p ((x :: xs).getD i d)) (List.map Nat.succ (List.range xs.length))).map fun i=>f ((x :: xs).getD i d))=(xs.filter p).map f:=by
   rw [List.filter_map,List.map_map]
   rw [<- ih]
   rfl
  show List.map _ (if p x=true then _ else _)=List.map f (if p x=true then _ else _)
  by_cases hp:p x=true
  ·rw [if_pos hp,if_pos hp,List.map_cons,List.map_cons,e];rfl
  ·rw [if_neg hp,if_neg hp,e]
theorem iT {lo hi:Int} {cap:List (Option Nat)} {src:Ic} {t:Te} {e:Ex} {τ:List A} {S S1:aA} (hs:src τ S=.ok (cZ lo hi) S1) (p:Int -> Bool) (f:Int -> A)
  (ht:∀ k,lo <= k -> k < hi -> t (.int k :: gk cap τ) S1=.ok (p k) S1) (he:∀ k,lo <= k -> k < hi -> p k=true -> e (.int k :: gk cap τ) S1=.ok (f k) S1) (hl:(hi - lo).toNat <= 16777216) :
  fC (none :: cap) src (cK 0) t e τ S=.ok (.ref S1.length) (S1 ++ [.lst (((aP lo hi).filter p).map f)]):=by
 rw [p6 hs (fun i=>.int (lo + i)) (fun i=>p (lo + i)) (fun i=>f (lo + i)) (fun i hi'=>if_pos hi') rfl (fun i hi'=>ht _ (by omega) (by have:i < (hi - lo).toNat:=hi';omega)) (fun i hi'=>he _ (by omega) (by have:i < (hi - lo).toNat:=hi';omega)) hl]
 unfold aP
 rw [List.filter_map,List.map_map]
 rfl
@[simp] theorem AF {cap:List (Option Nat)} {τ:List A}:gk (none :: cap) τ=.dY :: gk cap τ:=rfl
@[simp] theorem BB {cap:List (Option Nat)} {τ:List A} {j:Nat}:gk (some j :: cap) τ=τ.getD j .dY :: gk cap τ:=rfl
@[simp] theorem tY {τ:List A}:gk [] τ=[]:=rfl
theorem sO {x:A} {xs:List A}:eV (x :: xs) 0=some x:=lK (k:=0) rfl rfl
theorem p8 {x y:A} {xs:List A}:eV (x :: y :: xs) 1=some y:=lK (k:=1) rfl rfl
theorem qx {ns:List Int} {i:Int} {k:Nat} {x:Int} (h:i=k) (hx:ns[k]?=some x):eV (ns.map A.int) i=some (.int x):=lK h (by rw [List.getElem?_map,hx];rfl)
theorem dN {j:Int} (h:-4611686018427387904 <= j) (h':j < 4611686018427387904):bnd j:=⟨by omega,by omega⟩
theorem nE {i j:Int} (h1:-1000000 <= i) (h2:i <= 1000000) (h3:-1000000 <= j) (h4:j <= 1000000) (h5:j - i <= 1000):lT i j:=⟨⟨by omega,by omega,by omega,by omega⟩,by omega⟩
theorem ints_map:∀ (ns:List Int),A.ints (ns.map .int)=some ns
 | []=>rfl
 | n :: ns=>by show (A.ints (ns.map .int)).map (n :: ·)=_;rw [ints_map ns];rfl
theorem jn {S:aA} {n:Nat}:∀ (xs ys:List Int),h_ (lZ S (n + 1)) (xs.map .int) (ys.map .int)=some (decide (xs=ys))
 | [],[]=>rfl
 | [],_ :: _=>rfl
 | _ :: _,[]=>rfl
 | x :: xs,y :: ys=>by
  show (lZ S (n + 1) (.int x) (.int y)).bind _=_
  show Option.bind (some (x == y)) _=_
  show Option.map _ (h_ (lZ S (n + 1)) (xs.map .int) (ys.map .int))=_
  rw [jn xs ys]
  show some (x == y && decide (xs=ys))=_
  by_cases h1:x=y <;> by_cases h2:xs=ys <;> simp [h1,h2]
theorem dB {S:aA} {xs ys:List Int}:kI true (.tup (xs.map .int)) (.tup (ys.map .int)) S=.ok (.bl (!decide (xs=ys))) S:=by
 unfold kI
 show opt (h_ (lZ S 11) _ _) _=_
 rw [jn];rfl
@[simp] theorem EM {S:aA} {x y:Bool}:kI false (.bl x) (.bl y) S=.ok (.bl (x == y)) S:=rfl
@[simp] theorem FJ {S:aA} {x y:Bool}:kI true (.bl x) (.bl y) S=.ok (.bl (!(x == y))) S:=rfl
@[simp] theorem FD {S:aA} {x y:Int}:kI false (.int x) (.int y) S=.ok (.bl (x == y)) S:=rfl
@[simp] theorem FA {S:aA} {x y:Int}:kI true (.int x) (.int y) S=.ok (.bl (!(x == y))) S:=rfl
@[simp] theorem xC {S:aA}:AH false .non .non S=.ok (.bl true) S:=rfl
@[simp] theorem wH {S:aA} {xs:List A}:AH false (.tup xs) .non S=.ok (.bl false) S:=rfl
@[simp] theorem xA {S:aA} {n:Nat}:AH false (.ref n) .non S=.ok (.bl false) S:=rfl
@[simp] theorem tV {S:aA}:AH true .non .non S=.ok (.bl false) S:=rfl
@[simp] theorem ud {S:aA} {xs:List A}:AH true (.tup xs) .non S=.ok (.bl true) S:=rfl
@[simp] theorem tB {S:aA} {n:Nat}:AH true (.ref n) .non S=.ok (.bl true) S:=rfl
@[simp] theorem wY {S:aA} {x:A} {c:String}:mG x (.ty c) S=opt (x.kd S) fun k=>opt (iw k c) fun b=>.ok (.bl b) S:=rfl
@[simp] theorem Fb {S:aA} {b:Bool}:A.kd (.bl b) S=some .bl:=rfl
@[simp] theorem CG {S:aA} {b:Int}:A.kd (.int b) S=some .int:=rfl
@[simp] theorem zl {S:aA} {b:List A}:A.kd (.tup b) S=some .tup:=rfl
@[simp] theorem Cj {S:aA}:A.kd .non S=some .non:=rfl
@[simp] theorem Bp {S:aA} {b:Str}:A.kd (.str b) S=some .str:=rfl
@[simp] theorem AM {S:aA} {n:Nat}:A.kd (.ref n) S=(ak S n).map fun _=>.lst:=rfl
@[simp] theorem Bg {S:aA}:newL [] S=.ok (.ref S.length) (S ++ [.lst []]):=bP (by simp)
@[simp] theorem BD {S:aA} {x0:A}:newL [x0] S=.ok (.ref S.length) (S ++ [.lst [x0]]):=bP (by simp)
@[simp] theorem Bu {S:aA} {x0 x1:A}:newL [x0,x1] S=.ok (.ref S.length) (S ++ [.lst [x0,x1]]):=bP (by simp)
@[simp] theorem AN {S:aA} {x0 x1 x2:A}:newL [x0,x1,x2] S=.ok (.ref S.length) (S ++ [.lst [x0,x1,x2]]):=bP (by simp)
@[simp] theorem Ce {S:aA} {x0 x1 x2 x3:A}:newL [x0,x1,x2,x3] S=.ok (.ref S.length) (S ++ [.lst [x0,x1,x2,x3]]):=bP (by simp)
@[simp] theorem zN {S:aA} {x0 x1 x2 x3 x4:A}:newL [x0,x1,x2,x3,x4] S=.ok (.ref S.length) (S ++ [.lst [x0,x1,x2,x3,x4]]):=bP (by simp)
@[simp] theorem B6 {S:aA} {x0 x1 x2 x3 x4 x5:A}:newL [x0,x1,x2,x3,x4,x5] S=.ok (.ref S.length) (S ++ [.lst [x0,x1,x2,x3,x4,x5]]):=bP (by simp)
@[simp] theorem Ac {S:aA} {x0 x1 x2 x3 x4 x5 x6:A}:newL [x0,x1,x2,x3,x4,x5,x6] S=.ok (.ref S.length) (S ++ [.lst [x0,x1,x2,x3,x4,x5,x6]]):=bP (by simp)
@[simp] theorem CB {S:aA} {x0 x1 x2 x3 x4 x5 x6 x7:A}:newL [x0,x1,x2,x3,x4,x5,x6,x7] S=.ok (.ref S.length) (S ++ [.lst [x0,x1,x2,x3,x4,x5,x6,x7]]):=bP (by simp)
@[simp] theorem zV {S:aA} {x0 x1 x2 x3 x4 x5 x6 x7 x8:A}:newL [x0,x1,x2,x3,x4,x5,x6,x7,x8] S=.ok (.ref S.length) (S ++ [.lst [x0,x1,x2,x3,x4,x5,x6,x7,x8]]):=bP (by simp)
@[simp] theorem w9 {S:aA} {x0 x1 x2 x3 x4 x5 x6 x7 x8 x9:A}:newL [x0,x1,x2,x3,x4,x5,x6,x7,x8,x9] S=.ok (.ref S.length) (S ++ [.lst [x0,x1,x2,x3,x4,x5,x6,x7,x8,x9]]):=bP (by simp)
theorem ir {α:Type} {n:Nat} {r:R α} (h:n <= 16777216):gd (n <= sizeLine) r=r:=cO (by rw [sizeLine_eq];exact h)
theorem E4 {α:Type} {n:Nat} {r:R α} (h:n < 16777216):gd (n < sizeLine) r=r:=cO (by rw [sizeLine_eq];exact h)
end Am
namespace Am
open PySem L2
theorem FG {x:A} {xs:List A}:(x :: xs).getD 0 .dY=x:=rfl
theorem Fv {x:A} {xs:List A} {n:Nat}:(x :: xs).getD (n + 1) .dY=xs.getD n .dY:=rfl
theorem Js {x y:A} {xs:List A}:(x :: xs).set 0 y=y :: xs:=rfl
theorem sets {x y:A} {xs:List A} {n:Nat}:(x :: xs).set (n + 1) y=x :: xs.set n y:=rfl
theorem rep0 {x:A}:List.replicate 0 x=[]:=rfl
theorem reps {x:A} {n:Nat}:List.replicate (n + 1) x=x :: List.replicate n x:=rfl
theorem JE {x:A} {xs ys:List A}:(x :: xs) ++ ys=x :: (xs ++ ys):=rfl
theorem JF {ys:List A}:[] ++ ys=ys:=rfl
theorem qj {S:aA} {n m:Nat} {xs ys:List A} (h:ak S n=some xs) (h':ak S m=some ys) (hl:xs.length + ys.length <= 16777216):aZ (.ref n) (.ref m) S=.ok (.ref S.length) (S ++ [.lst (xs ++ ys)]):=by
 show opt (ak S n) _=_
 rw [h,bw,h',bw]
 exact cO (by rw [sizeLine_eq];exact hl)
theorem br:type_of% (And.intro @R.dS (And.intro @R.wM (And.intro @R.e9 (And.intro @RS.of_ok (And.intro @RS.EL (And.intro @bw (And.intro @xF (And.intro @x_ (And.intro @ve (And.intro @yd (And.intro @wQ (And.intro @BR (And.intro @xK (And.intro @vD (And.intro @vL (And.intro @wI (And.intro @wG (And.intro @EW (And.intro @wc (And.intro @BZ (And.intro @vO (And.intro @FE (And.intro @AD (And.intro @wJ (And.intro @xj (And.intro @Ae (And.intro @vq (And.intro @vt (And.intro @vF (And.intro @B9 (And.intro @Cf (And.intro @wu (And.intro @BK (And.intro @tN (And.intro @xJ (And.intro @Bc (And.intro @vX (And.intro @rZ (And.intro @xY (And.intro @wF (And.intro @sj (And.intro @A2 (And.intro @Ci (And.intro @EV (And.intro @FH (And.intro @zh (And.intro @t7 (And.intro @vh (And.intro @sJ (And.intro @CD (And.intro @vS (And.intro @lst?_ref (And.intro @RS.B0 (And.intro @RS.Cu (And.intro @RS.zH (And.intro @RS.AZ (And.intro @RS.Cb (And.intro @vQ (And.intro @wm (And.intro @p_ (And.intro @r8 (And.intro @t8 (And.intro @vJ (And.intro @tR (And.intro @BG (And.intro @xh (And.intro @BH (And.intro @BI (And.intro @z9 (And.intro @zE (And.intro @CQ (And.intro @CO (And.intro @xw (And.intro @wV (And.intro @sf (And.intro @RS.zO (And.intro @RS.zy (And.intro @RS.zw (And.intro @Ar (And.intro @zM (And.intro @Bv (And.intro @EO (And.intro @E2 (And.intro @E_ (And.intro @EN (And.intro @EY (And.intro @Aa (And.intro @Cz (And.intro @zz (And.intro @zq (And.intro @Ax (And.intro @zk (And.intro @wX (And.intro @wR (And.intro @wK (And.intro @vI (And.intro @qp (And.intro @E8 (And.intro @E6 (And.intro @E7 (And.intro @Cg (And.intro @z8 (And.intro @vZ (And.intro @xQ (And.intro @vK (And.intro @rV (And.intro @sG (And.intro @Bw (And.intro @CS (And.intro @EF (And.intro @jS (And.intro @Bm (And.intro @vG (And.intro @aN (And.intro @AF (And.intro @BB (And.intro @tY (And.intro @EM (And.intro @FJ (And.intro @FD (And.intro @FA (And.intro @xC (And.intro @wH (And.intro @xA (And.intro @tV (And.intro @ud (And.intro @tB (And.intro @wY (And.intro @Fb (And.intro @CG (And.intro @zl (And.intro @Cj (And.intro @Bp (And.intro @AM (And.intro @Bg (And.intro @BD (And.intro @Bu (And.intro @AN (And.intro @Ce (And.intro @zN (And.intro @B6 (And.intro @Ac (And.intro @CB (And.intro @zV (And.intro @w9 (And.intro @FG (And.intro @Fv (And.intro @Js (And.intro @sets (And.intro @rep0 (And.intro @reps (And.intro @JE (And.intro @JF (And.intro @mY (And.intro @xB (And.intro @BF (And.intro @Au (And.intro @Fg (And.intro @Fx (And.intro @A4 (And.intro @Br (And.intro @p7 (And.intro @rK (And.intro @BU (And.intro @wC (And.intro @Cq (And.intro @yf (And.intro @BY (And.intro @Fy (And.intro @E3 (And.intro @xy (And.intro @ye (And.intro @Ao (And.intro @uh (And.intro @wk (And.intro @CN (And.intro @BV (And.intro @CC (And.intro @BC (@BA)))))))))))))))))))))))))))))))))))))))))))))))))))))))))))))))))))))))))))))))))))))))))))))))))))))))))))))))))))))))))))))))))))))))))))))))))))))))))))))))))))))))))))))))))))):=And.intro @R.dS (And.intro @R.wM (And.intro @R.e9 (And.intro @RS.of_ok (And.intro @RS.EL (And.intro @bw (And.intro @xF (And.intro @x_ (And.intro @ve (And.intro @yd (And.intro @wQ (And.intro @BR (And.intro @xK (And.intro @vD (And.intro @vL (And.intro @wI (And.intro @wG (And.intro @EW (And.intro @wc (And.intro @BZ (And.intro @vO (And.intro @FE (And.intro @AD (And.intro @wJ (And.intro @xj (And.intro @Ae (And.intro @vq (And.intro @vt (And.intro @vF (And.intro @B9 (And.intro @Cf (And.intro @wu (And.intro @BK (And.intro @tN (And.intro @xJ (And.intro @Bc (And.intro @vX (And.intro @rZ (And.intro @xY (And.intro @wF (And.intro @sj (And.intro @A2 (And.intro @Ci (And.intro @EV (And.intro @FH (And.intro @zh (And.intro @t7 (And.intro @vh (And.intro @sJ (And.intro @CD (And.intro @vS (And.intro @lst?_ref (And.intro @RS.B0 (And.intro @RS.Cu (And.intro @RS.zH (And.intro @RS.AZ (And.intro @RS.Cb (And.intro @vQ (And.intro @wm (And.intro @p_ (And.intro @r8 (And.intro @t8 (And.intro @vJ (And.intro @tR (And.intro @BG (And.intro @xh (And.intro @BH (And.intro @BI (And.intro @z9 (And.intro @zE (And.intro @CQ (And.intro @CO (And.intro @xw (And.intro @wV (And.intro @sf (And.intro @RS.zO (And.intro @RS.zy (And.intro @RS.zw (And.intro @Ar (And.intro @zM (And.intro @Bv (And.intro @EO (And.intro @E2 (And.intro @E_ (And.intro @EN (And.intro @EY (And.intro @Aa (And.intro @Cz (And.intro @zz (And.intro @zq (And.intro @Ax (And.intro @zk (And.intro @wX (And.intro @wR (And.intro @wK (And.intro @vI (And.intro @qp (And.intro @E8 (And.intro @E6 (And.intro @E7 (And.intro @Cg (And.intro @z8 (And.intro @vZ (And.intro @xQ (And.intro @vK (And.intro @rV (And.intro @sG (And.intro @Bw (And.intro @CS (And.intro @EF (And.intro @jS (And.intro @Bm (And.intro @vG (And.intro @aN (And.intro @AF (And.intro @BB (And.intro @tY (And.intro @EM (And.intro @FJ (And.intro @FD (And.intro @FA (And.intro @xC (And.intro @wH (And.intro @xA (And.intro @tV (And.intro @ud (And.intro @tB (And.intro @wY (And.intro @Fb (And.intro @CG (And.intro @zl (And.intro @Cj (And.intro @Bp (And.intro @AM (And.intro @Bg (And.intro @BD (And.intro @Bu (And.intro @AN (And.intro @Ce (And.intro @zN (And.intro @B6 (And.intro @Ac (And.intro @CB (And.intro @zV (And.intro @w9 (And.intro @FG (And.intro @Fv (And.intro @Js (And.intro @sets (And.intro @rep0 (And.intro @reps (And.intro @JE (And.intro @JF (And.intro @mY (And.intro @xB (And.intro @BF (And.intro @Au (And.intro @Fg (And.intro @Fx (And.intro @A4 (And.intro @Br (And.intro @p7 (And.intro @rK (And.intro @BU (And.intro @wC (And.intro @Cq (And.intro @yf (And.intro @BY (And.intro @Fy (And.intro @E3 (And.intro @xy (And.intro @ye (And.intro @Ao (And.intro @uh (And.intro @wk (And.intro @CN (And.intro @BV (And.intro @CC (And.intro @BC (@BA)))))))))))))))))))))))))))))))))))))))))))))))))))))))))))))))))))))))))))))))))))))))))))))))))))))))))))))))))))))))))))))))))))))))))))))))))))))))))))))))))))))))))))))))))))
theorem bools:(∀ b:Bool,cond false b b=b) /\ (∀ (α:Type) (x y:α),cond false x y=y) /\ (∀ (α:Type) (x y:α),cond true x y=x):=⟨fun _=>rfl,fun _ _ _=>rfl,fun _ _ _=>rfl⟩
theorem bM:(∀ (x:Str) (xs:List Str),(x :: xs).length=xs.length + 1) /\ ([]:List Str).length=0 /\ (∀ (x:A) (xs:List A),(x :: xs).length=xs.length + 1) /\ ([]:List A).length=0:=⟨fun _ _=>rfl,rfl,fun _ _=>rfl,rfl⟩
end Am
namespace Am
open PySem L2
section
variable {τ:List A} {S:aA}
theorem xT {f:List A -> aA -> R A} {d:gP}:As f d τ S=(d τ S).bind f:=rfl
def LC (c:Str):Unit -> aA -> RS:=fun _ S1=>.ex c S1
theorem zU {c:Str} {u:Unit}:LC c u S=.ex c S:=rfl
theorem p5 {c:Str} {ps:List (Str ⊕ Ex)}:jW c ps τ S=RS.of (zL ps τ S) (LC c):=rfl
theorem wz:zL [] τ S=.ok () S:=rfl
theorem xP {x:Str} {ps:List (Str ⊕ Ex)}:zL (.inl x :: ps) τ S=zL ps τ S:=rfl
def Lz (ps:List (Str ⊕ Ex)) (τ:List A):A -> aA -> R Unit:=fun v S1=>match v with
 | .int i=>gd (i.natAbs.log2 < 64) (zL ps τ S1)
 | _=>.no
theorem xx {e:Ex} {ps:List (Str ⊕ Ex)}:zL (.inr e :: ps) τ S=(e τ S).bind (Lz ps τ):=rfl
theorem JL {n:Nat} {ps:List (Str ⊕ Ex)} (h:n < 18446744073709551616):Lz ps τ (.int (n:Int)) S=zL ps τ S:=by
 show gd ((n:Int).natAbs.log2 < 64) _=_
 refine AJ ?_
 rw [Int.natAbs_natCast]
 by_cases z:n=0
 ·subst z;decide
 ·exact (Nat.log2_lt z).mpr h
def RS.try (i n:Nat) (cs:List Str) (d:Sm):RS -> RS
 | .ex x S1=>if x ∈ cs then An i (d ((List.replicate n .dY).set i (.exn x)) S1) else .no
 | r=>r
theorem xM {i n:Nat} {cs:List Str} {c d:Sm}:ID i n cs c d τ S=RS.try i n cs d (c τ S):=by
 unfold ID RS.try;cases c τ S <;> rfl
theorem BL {i n:Nat} {cs:List Str} {d:Sm}:RS.try i n cs d (.nx τ S)=.nx τ S:=rfl
theorem zp {i n:Nat} {cs:List Str} {d:Sm} {a:A}:RS.try i n cs d (.rt a S)=.rt a S:=rfl
theorem A6 {i n:Nat} {x:Str} {cs:List Str} {d:Sm}:RS.try i n (x :: cs) d (.ex x S)=An i (d ((List.replicate n .dY).set i (.exn x)) S):=if_pos (.head _)
theorem AR {i:Nat} {a:A}:An i (.rt a S)=.rt a S:=rfl
theorem Aj {i:Nat}:An i (.nx τ S)=.nx (τ.set i .dY) S:=rfl
def yP (f:Str -> Option Bool):A -> aA -> R A:=fun v S1=>match v with
 | .exn x=>opt (f x) fun b=>.ok (.bl b) S1
 | _=>.no
theorem v_ {f:Str -> Option Bool} {c:Ex}:lO f c τ S=(c τ S).bind (yP f):=rfl
theorem uR {x:Str} {b:Bool} {tb:List (Str × Bool)}:yP (se ((x,b) :: tb)) (.exn x) S=.ok (.bl b) S:=by
 show opt (List.lookup x ((x,b) :: tb)) _=_
 rw [List.lookup_cons,beq_self_eq_true];rfl
def R.zG {α β:Type} (r:R α) (f:α -> aA -> R β):R β:=match r with
 | .ok a S=>f a S
 | _=>.no
theorem sU {α β:Type} {a:α} {f:α -> aA -> R β}:R.zG (.ok a S) f=f a S:=rfl
theorem xN {f:List A -> aA -> R A} {d:gP}:Cp f d τ S=R.zG (d τ S) f:=by unfold Cp R.zG;cases d τ S <;> rfl
def RS.KD {α:Type} (r:R α) (f:α -> aA -> RS):RS:=match r with
 | .ok a S=>f a S
 | _=>.no
theorem BN {α:Type} {a:α} {f:α -> aA -> RS}:RS.KD (.ok a S) f=f a S:=rfl
theorem wO {t:Te} {c d:Sm}:JM t c d τ S=RS.KD (t τ S) (Kg c d τ):=by
 unfold JM RS.KD
 cases t τ S with
 | ok b S1=>cases b <;> rfl
 | ex _ _=>rfl
 | no=>rfl
def RS.uH (i:Nat) (cs:List Str) (d:Sm) (τ:List A):RS -> RS
 | .ex x S1=>if x ∈ cs then An i (d (τ.set i (.exn x)) S1) else .no
 | r=>r
theorem ue {i:Nat} {cs:List Str} {c d:Sm}:pZ i cs c d τ S=RS.uH i cs d τ (c τ S):=by
 unfold pZ RS.uH;cases c τ S <;> rfl
theorem vm {i:Nat} {cs:List Str} {d:Sm} {τ':List A}:RS.uH i cs d τ (.nx τ' S)=.nx τ' S:=rfl
theorem vM {i:Nat} {cs:List Str} {d:Sm} {a:A}:RS.uH i cs d τ (.rt a S)=.rt a S:=rfl
theorem qL {i:Nat} {x:Str} {cs:List Str} {d:Sm}:RS.uH i (x :: cs) d τ (.ex x S)=An i (d (τ.set i (.exn x)) S):=if_pos (.head _)
theorem rT:A.zf []=some []:=rfl
theorem lE {b:Bool} {xs:List A}:A.zf (.bl b :: xs)=(A.zf xs).map (b :: ·):=rfl
end
theorem iz:type_of% (And.intro @xT (And.intro @p5 (And.intro @zU (And.intro @wz (And.intro @xP (And.intro @xx (And.intro @xM (And.intro @BL (And.intro @zp (And.intro @A6 (And.intro @AR (And.intro @Aj (And.intro @v_ (And.intro @uR (And.intro @rT (And.intro @lE (And.intro @sU (And.intro @xN (And.intro @BN (And.intro @wO (And.intro @ue (And.intro @vm (And.intro @vM (And.intro @qL (trivial))))))))))))))))))))))))):=And.intro @xT (And.intro @p5 (And.intro @zU (And.intro @wz (And.intro @xP (And.intro @xx (And.intro @xM (And.intro @BL (And.intro @zp (And.intro @A6 (And.intro @AR (And.intro @Aj (And.intro @v_ (And.intro @uR (And.intro @rT (And.intro @lE (And.intro @sU (And.intro @xN (And.intro @BN (And.intro @wO (And.intro @ue (And.intro @vm (And.intro @vM (And.intro @qL (trivial))))))))))))))))))))))))
end Am
namespace Bl
open L2
def cnt:List Int -> Int -> Int
 | [],_=>0
 | x :: l,j=>(if j <= x then 1 else 0) + cnt l j
def Below (xs ys:List Int):Prop:=∀ (i:Nat) (j:Int),cnt (xs.take i) j <= cnt (ys.take i) j
theorem cnt_append (a b:List Int) (j:Int):cnt (a ++ b) j=cnt a j + cnt b j:=by
 induction a with
 | nil=>simp [cnt]
 | cons x a ih=>rw [List.cons_append,cnt,cnt,ih];omega
theorem vR {l:List Int} {p:Nat} (h:p < l.length) (v:Int) (i:Nat) (j:Int) :
  cnt ((l.set p v).take i) j=cnt (l.take i) j + (if p < i then (if j <= v then 1 else 0) - (if j <= l[p] then 1 else 0) else 0):=by
 induction l generalizing p i with
 | nil=>cases h
 | cons x l ih=>
  cases i with
  | zero=>simp [cnt]
  | succ i=>
   cases p with
   | zero=>
    show (if j <= v then 1 else 0) + cnt (l.take i) j=(if j <= x then 1 else 0) + cnt (l.take i) j + _
    rw [if_pos (Nat.succ_pos _)]
    show _=(if j <= x then 1 else 0) + cnt (l.take i) j + ((if j <= v then 1 else 0) - (if j <= x then 1 else 0))
    omega
   | succ p=>
    show (if j <= x then 1 else 0) + cnt ((l.set p v).take i) j=(if j <= x then 1 else 0) + cnt (l.take i) j + _
    have hp:p < l.length:=Nat.lt_of_succ_lt_succ h
    rw [ih hp]
    by_cases z:p < i
    ·rw [if_pos z,if_pos (Nat.succ_lt_succ z)]
     show _=(if j <= x then 1 else 0) + cnt (l.take i) j + ((if j <= v then 1 else 0) - (if j <= l[p] then 1 else 0))
     omega
    ·rw [if_neg z,if_neg (fun y=>z (Nat.lt_of_succ_lt_succ y))]
     omega
theorem tZ {l:List Int} {p q:Nat} (hp:p < l.length) (hq:q < l.length) (hpq:p < q) (h:l[p] < l[q]):Below l ((l.set p l[q]).set q l[p]):=by
 intro i j
 have hq':q < (l.set p l[q]).length:=by rw [List.length_set];exact hq
 rw [vR hq',vR hp]
 have e:(l.set p l[q])[q]=l[q]:=by rw [List.getElem_set_ne (Nat.ne_of_lt hpq)]
 rw [e]
 (repeat' split) <;> omega
def GF (a b:List Int):Prop:=a.length=b.length /\ ∀ (p:Nat) (h:p < a.length),b[(a[p] - 1).toNat]?=some ((p:Int) + 1)
end Bl
namespace Am
open PySem L2 Bl
theorem zS {xs:List Int} {n:Int} (h:xs.Perm (aP 1 (n + 1))) (hn:0 <= n):(xs.length:Int)=n:=by
 rw [h.length_eq,cJ];omega
end Am
namespace Tb
def fg (r:List Int) (x:Int):Nat:=r.findIdx fun y=>decide (x < y)
def put:List (List Int) -> Int -> List (List Int)
 | [],x=>[[x]]
 | r :: rs,x=>if fg r x=r.length then (r ++ [x]) :: rs else r.set (fg r x) x :: put rs (r.getD (fg r x) 0)
def row:List (List Int) -> Int -> Nat
 | [],_=>0
 | r :: rs,x=>if fg r x=r.length then 0 else row rs (r.getD (fg r x) 0) + 1
def gs (r:List Int) (x:Int):List Nat:=(List.range r.length).filter fun k=>decide (x < r.getD k 0)
end Tb
namespace Am
open PySem L2
def Rows (S:aA):List Nat -> List (List Int) -> Prop
 | [],[]=>True
 | r :: rs,x :: T=>ak S r=some (x.map .int) /\ Rows S rs T
 | _,_=>False
theorem Rows.len {S:aA}:∀ {rs:List Nat} {T:List (List Int)},Rows S rs T -> rs.length=T.length
 | [],[],_=>rfl
 | _ :: _,_ :: _,h=>congrArg (· + 1) (Rows.len h.2)
 | [],_ :: _,h=>h.elim
 | _ :: _,[],h=>h.elim
theorem Rows.get {S:aA}:∀ {rs:List Nat} {T:List (List Int)} {i:Nat} {r:Nat},Rows S rs T -> rs[i]?=some r -> i < T.length /\ ak S r=some ((T.getD i []).map .int)
 | [],[],_,_,_,e=>by simp at e
 | r :: rs,x :: T,0,_,h,e=>by simp at e;subst e;exact ⟨Nat.zero_lt_succ _,h.1⟩
 | r :: rs,x :: T,i + 1,q,h,e=>by
  obtain ⟨h1,h2⟩:=Rows.get (i:=i) (r:=q) h.2 (by simpa using e)
  exact ⟨Nat.succ_lt_succ h1,by simpa using h2⟩
 | [],_ :: _,_,_,h,_=>h.elim
 | _ :: _,[],_,_,h,_=>h.elim
theorem Rows.mono {S S':aA}:∀ {rs:List Nat} {T:List (List Int)},Rows S rs T -> (∀ r ∈ rs,∀ xs,ak S r=some xs -> ak S' r=some xs) -> Rows S' rs T
 | [],[],_,_=>trivial
 | r :: rs,x :: T,h,k=>⟨k r (List.mem_cons_self ..) _ h.1,Rows.mono h.2 fun q hq=>k q (List.mem_cons_of_mem _ hq)⟩
 | [],_ :: _,h,_=>h.elim
 | _ :: _,[],h,_=>h.elim
theorem Rows.app {S:aA}:∀ {rs rs':List Nat} {T T':List (List Int)},Rows S rs T -> Rows S rs' T' -> Rows S (rs ++ rs') (T ++ T')
 | [],_,[],_,_,h=>h
 | r :: rs,_,x :: T,_,h,h'=>⟨h.1,Rows.app h.2 h'⟩
 | [],_,_ :: _,_,h,_=>h.elim
 | _ :: _,_,[],_,h,_=>h.elim
structure Tab (S:aA) (n:Nat) (rs:List Nat) (T:List (List Int)):Prop where
 top:ak S n=some (rs.map .ref)
 rows:Rows S rs T
 nd:(n :: rs).Nodup
theorem Tab.len {S:aA} {n:Nat} {rs:List Nat} {T:List (List Int)} (h:Tab S n rs T):rs.length=T.length:=h.rows.len
theorem Rows.lt {S:aA} {rs:List Nat} {T:List (List Int)} (h:Rows S rs T):∀ r ∈ rs,r < S.length:=fun r hr=>by
 obtain ⟨i,hi,e⟩:=List.mem_iff_getElem.mp hr
 exact bI (h.get (by rw [List.getElem?_eq_getElem hi,e])).2
theorem Tab.lt {S:aA} {n:Nat} {rs:List Nat} {T:List (List Int)} (h:Tab S n rs T):∀ r ∈ n :: rs,r < S.length:=fun r hr=>by
 rcases List.mem_cons.mp hr with z | z
 ·rw [z];exact bI h.top
 ·exact h.rows.lt r z
theorem Tab.push {S:aA} {n:Nat} {rs:List Nat} {T:List (List Int)} {ys:List Int} (h:Tab S n rs T):Tab ((S ++ [O.lst (ys.map .int)]).set n (.lst ((rs ++ [S.length]).map .ref))) n (rs ++ [S.length]) (T ++ [ys]):=by
 have hn:n < S.length:=h.lt n (List.mem_cons_self ..)
 have nn:∀ r ∈ rs,n ≠ r:=fun r hr z=>(List.nodup_cons.mp h.nd).1 (z ▸ hr)
 refine ⟨dc (by rw [List.length_append];simp;omega),Rows.app (h.rows.mono fun r hr xs e=>?_) ⟨?_,trivial⟩,?_⟩
 ·rw [bA (nn r hr)];exact aO e
 ·rw [bA (by omega)];exact aN
 ·rw [List.nodup_cons,List.nodup_append]
  refine ⟨fun z=>?_,(List.nodup_cons.mp h.nd).2,by simp,fun a ha b hb z=>?_⟩
  ·rcases List.mem_append.mp z with z | z
   ·exact nn n z rfl
   ·have:n=S.length:=by simpa using z
    omega
  ·have hb':b=S.length:=by simpa using hb
   have:=h.rows.lt a ha
   omega
theorem Tab.nil {S:aA} {n:Nat} (h:ak S n=some []):Tab S n [] []:=⟨h,trivial,by simp⟩
theorem CU {S:aA} {a b:A} {k:Bool} (h:lZ S 12 a b=some k):kI true a b S=.ok (.bl (!k)) S:=by unfold kI;rw [h];rfl
theorem tH {xs:List A} {n:Nat} {cap:List (Option Nat)} {src:Ic} {t:Te} {e:Ex} {τ:List A} {S:aA} (hs:src τ S=.ok (gH n xs.length) S) (hx:ak S n=some xs) (p:A -> Bool) (f:A -> A)
  (ht:∀ x ∈ xs,t (x :: gk cap τ) S=.ok (p x) S) (he:∀ x ∈ xs,p x=true -> e (x :: gk cap τ) S=.ok (f x) S) (hl:xs.length <= 16777216) :
  fC (none :: cap) src (cK 0) t e τ S=.ok (.ref S.length) (S ++ [.lst ((xs.filter p).map f)]):=by
 have hm:∀ i,i < xs.length -> xs.getD i .dY ∈ xs:=fun i hi=>by
  rw [List.getD_eq_getElem?_getD,List.getElem?_eq_getElem hi];exact List.getElem_mem hi
 rw [p6 hs (fun i=>xs.getD i .dY) (fun i=>p (xs.getD i .dY)) (fun i=>f (xs.getD i .dY)) (fun i hi=>by
  have hi:i < xs.length:=hi
  show (ak S n).bind _=_
  rw [hx,Option.bind_some,List.getD_eq_getElem?_getD,List.getElem?_eq_getElem hi];rfl) (by
   show (match ak S n with
    | some ys=>decide (ys.length <= xs.length)
    | none=>false)=true
   rw [hx]
   simp) (fun i hi=>ht _ (hm i hi)) (fun i hi=>he _ (hm i hi)) hl]
 have:=gY xs p f .dY
 show R.ok _ (S ++ [O.lst (((List.range xs.length).filter _).map _)])=_
 rw [this]
end Am
namespace Wd
open Bl L2
def ex (l:List Int) (k:Nat):List Int:=(l.set (k - 1) (l.getD k 0)).set k (l.getD (k - 1) 0)
def led (l:List Int) (w:List Nat):List Int:=w.foldl ex l
theorem jc {l:List Int} {k:Nat} (h:k < l.length):l.getD k 0=l[k]:=by rw [List.getD_eq_getElem?_getD,List.getElem?_eq_getElem h];rfl
theorem zT {l:List Int} {k:Nat} (h0:1 <= k) (h:k < l.length):ex l k=(l.set (k - 1) l[k]).set k (l[k - 1]'(by omega)):=by
 unfold ex
 rw [jc h,jc (show k - 1 < l.length by omega)]
theorem b_ (l:List Int) (k:Nat):(ex l k).length=l.length:=by unfold ex;rw [List.length_set,List.length_set]
theorem gn:∀ (w:List Nat) (l:List Int),(led l w).length=l.length
 | [],_=>rfl
 | k :: w,l=>by show (led (ex l k) w).length=_;rw [gn w,b_]
theorem q_ {l:List Int} {k:Nat} (h0:1 <= k) (h:k < l.length):(ex l k).Perm l:=by
 rw [zT h0 h]
 exact List.set_set_perm (by omega) h
theorem m_:∀ {w:List Nat} {l:List Int},(∀ k ∈ w,1 <= k /\ k < l.length) -> (led l w).Perm l
 | [],_,_=>List.Perm.refl _
 | k :: w,l,h=>by
  have hk:=h k (List.mem_cons_self ..)
  show (led (ex l k) w).Perm l
  exact (m_ fun m hm=>by rw [b_];exact h m (List.mem_cons_of_mem _ hm)).trans (q_ hk.1 hk.2)
theorem jl (a b:List Nat) (l:List Int):led l (a ++ b)=led (led l a) b:=List.foldl_append
theorem up {l:List Int} {k:Nat} (h0:1 <= k) (h:k < l.length) (hr:l[k - 1]'(by omega) < l[k]):Below l (ex l k):=by
 rw [zT h0 h]
 exact tZ (by omega) h (by omega) hr
def eT:List Int -> List Nat -> Prop
 | _,[]=>True
 | l,k :: w=>1 <= k /\ k < l.length /\ l.getD (k - 1) 0 < l.getD k 0 /\ eT (ex l k) w
theorem eT.snoc:∀ {w:List Nat} {l:List Int} {k:Nat},eT l w -> 1 <= k -> k < l.length -> (led l w).getD (k - 1) 0 < (led l w).getD k 0 -> eT l (w ++ [k])
 | [],l,k,_,h0,h1,h2=>⟨h0,h1,h2,trivial⟩
 | m :: w,l,k,h,h0,h1,h2=>⟨h.1,h.2.1,h.2.2.1,eT.snoc h.2.2.2 h0 (by rw [b_];exact h1) h2⟩
theorem eT.valid:∀ {w:List Nat} {l:List Int},eT l w -> ∀ k ∈ w,1 <= k /\ k < l.length
 | [],_,_,k,hk=>by cases hk
 | m :: w,l,h,k,hk=>by
  rcases List.mem_cons.mp hk with z | z
  ·rw [z];exact ⟨h.1,h.2.1⟩
  ·have:=eT.valid h.2.2.2 k z
   rw [b_] at this;exact this
def sw (k:Nat) (x:Int):Int:=if x=k then (k:Int) + 1 else if x=(k:Int) + 1 then k else x
theorem dI (n:Nat):(aP 1 ((n:Int) + 1)).length=n:=by rw [cJ];omega
theorem dm {l:List Int} {k:Nat} (h0:1 <= k) (h:k < l.length) (p:Nat):(ex l k)[p]?=if p=k then l[k - 1]? else if p=k - 1 then l[k]? else l[p]?:=by
 rw [zT h0 h,List.getElem?_set]
 by_cases h1:k=p
 ·rw [if_pos h1,if_pos h1.symm,if_pos (by rw [List.length_set];omega),List.getElem?_eq_getElem]
 ·rw [if_neg h1,if_neg (fun z=>h1 z.symm),List.getElem?_set]
  by_cases h2:k - 1=p
  ·rw [if_pos h2,if_pos h2.symm,if_pos (by omega),List.getElem?_eq_getElem]
  ·rw [if_neg h2,if_neg (fun z=>h2 z.symm)]
end Wd
namespace Iv
open L2 Bl
def inv:List Int -> Nat
 | []=>0
 | x :: l=>l.countP (fun y=>decide (y < x)) + inv l
def eN (a b:List Int):Nat:=(a.map fun x=>b.countP fun y=>decide (y < x)).sum
theorem jL (x:Int) (a b:List Int):eN (x :: a) b=b.countP (fun y=>decide (y < x)) + eN a b:=rfl
theorem cN:∀ (a b:List Int),inv (a ++ b)=inv a + inv b + eN a b
 | [],b=>by show inv b=0 + inv b + 0;omega
 | x :: a,b=>by
  show (a ++ b).countP _ + inv (a ++ b)=(a.countP _ + inv a) + inv b + eN (x :: a) b
  rw [List.countP_append,cN a b,jL];omega
theorem j_:∀ {a b:List Nat},a.Perm b -> a.sum=b.sum
 | _,_,.nil=>rfl
 | _,_,.cons x h=>by rw [List.sum_cons,List.sum_cons,j_ h]
 | _,_,.swap x y l=>by rw [List.sum_cons,List.sum_cons,List.sum_cons,List.sum_cons];omega
 | _,_,.trans h k=>(j_ h).trans (j_ k)
theorem D8 {a a':List Int} (b:List Int) (h:a.Perm a'):eN a b=eN a' b:=j_ (h.map _)
theorem Dp (a:List Int) {b b':List Int} (h:b.Perm b'):eN a b=eN a b':=by
 unfold eN
 congr 1
 refine List.map_congr_left fun x _=>h.countP_eq _
theorem qC {M:List Int} {x y:Int} (h:∀ m ∈ M,m < x \/ y < m) (hxy:x < y):M.countP (fun m=>decide (m < x))=M.countP (fun m=>decide (m < y)):=by
 refine List.countP_congr fun m hm=>?_
 rw [decide_eq_true_iff,decide_eq_true_iff]
 rcases h m hm with z | z <;> omega
theorem lY:∀ {M:List Int} {x y:Int},(∀ m ∈ M,m < x \/ y < m) -> x < y -> eN M [x]=eN M [y]
 | [],_,_,_,_=>rfl
 | m :: M,x,y,h,hxy=>by
  rw [jL,jL,lY (fun m' hm=>h m' (List.mem_cons_of_mem _ hm)) hxy]
  congr 1
  have:=h m (List.mem_cons_self ..)
  simp only [List.countP_cons,List.countP_nil]
  by_cases c:x < m
  ·rw [decide_eq_true c,decide_eq_true (show y < m by omega)]
  ·rw [decide_eq_false c,decide_eq_false (show ¬ y < m by omega)]
theorem mid {M:List Int} {x y:Int} (h:∀ m ∈ M,m < x \/ y < m) (hxy:x < y):inv ([y] ++ M ++ [x])=inv ([x] ++ M ++ [y]) + 1:=by
 rw [cN,cN,cN ([x] ++ M),cN [x]]
 have e1:eN [y] M=eN [x] M:=by
  show M.countP _ + 0=M.countP _ + 0
  rw [qC h hxy]
 have e2:eN ([y] ++ M) [x]=1 + eN M [x]:=by
  show [x].countP _ + eN M [x]=_
  rw [List.countP_cons,decide_eq_true hxy];rfl
 have e3:eN ([x] ++ M) [y]=eN M [y]:=by
  show [y].countP _ + eN M [y]=_
  rw [List.countP_cons,decide_eq_false (by omega:¬ y < x)];simp
 rw [e1,e2,e3,lY h hxy]
 show 0 + inv M + _ + 0 + _=0 + inv M + _ + 0 + _ + 1
 omega
theorem BP (M:List Int) (x y:Int):([y] ++ M ++ [x]).Perm ([x] ++ M ++ [y]):=by
 refine (List.perm_append_comm (l₁:=[y] ++ M) (l₂:=[x])).trans ?_
 show (x :: (y :: M)).Perm (x :: (M ++ [y]))
 exact .cons x (List.perm_append_comm (l₁:=[y]) (l₂:=M))
theorem step {P M R:List Int} {x y:Int} (h:∀ m ∈ M,m < x \/ y < m) (hxy:x < y):inv (P ++ ([y] ++ M ++ [x]) ++ R)=inv (P ++ ([x] ++ M ++ [y]) ++ R) + 1:=by
 have p:=BP M x y
 rw [cN,cN P,cN (P ++ ([x] ++ M ++ [y])),cN P,mid h hxy,Dp P p,D8 R (p.append_left P)]
 omega
theorem vB (x v:Int):cnt [x] v=if v <= x then 1 else 0:=by show (if v <= x then 1 else 0) + 0=_;omega
def sw (a:List Int) (i j:Nat):List Int:=(a.set i (a.getD j 0)).set j (a.getD i 0)
theorem split {a:List Int} {i j:Nat} (hij:i < j) (hj:j < a.length):∃ P M R:List Int,a=P ++ ([a.getD i 0] ++ M ++ [a.getD j 0]) ++ R /\ P=a.take i /\ (∀ m ∈ M,∃ k,i < k /\ k < j /\ a[k]?=some m) /\ sw a i j=P ++ ([a.getD j 0] ++ M ++ [a.getD i 0]) ++ R:=by
 have gi:a.getD i 0=a[i]:=by rw [List.getD_eq_getElem?_getD,List.getElem?_eq_getElem (by omega)];rfl
 have gj:a.getD j 0=a[j]:=by rw [List.getD_eq_getElem?_getD,List.getElem?_eq_getElem hj];rfl
 obtain ⟨M,hM⟩:∃ M,M=(a.drop (i + 1)).take (j - i - 1):=⟨_,rfl⟩
 have lM:M.length=j - i - 1:=by rw [hM,List.length_take,List.length_drop];omega
 have ea:a=a.take i ++ ([a.getD i 0] ++ M ++ [a.getD j 0]) ++ a.drop (j + 1):=by
  have h1:a.drop i=a[i] :: a.drop (i + 1):=List.drop_eq_getElem_cons (by omega)
  have h2:a.drop (i + 1)=M ++ a.drop j:=by
   rw [hM]
   have:=List.take_append_drop (j - i - 1) (a.drop (i + 1))
   rw [List.drop_drop,show i + 1 + (j - i - 1)=j by omega] at this
   exact this.symm
  have h3:a.drop j=a[j] :: a.drop (j + 1):=List.drop_eq_getElem_cons hj
  conv=>lhs;rw [<- List.take_append_drop i a,h1,h2,h3]
  rw [gi,gj];simp
 refine ⟨a.take i,M,a.drop (j + 1),ea,rfl,fun m hm=>?_,?_⟩
 ·rw [hM] at hm
  obtain ⟨k,hk⟩:=List.getElem?_of_mem hm
  have hlt:k < j - i - 1:=by
   have:=(List.getElem?_eq_some_iff.mp hk).1
   rw [List.length_take] at this;omega
  rw [List.getElem?_take_of_lt hlt,List.getElem?_drop] at hk
  exact ⟨i + 1 + k,by omega,by omega,hk⟩
 ·have key:∀ (P R:List Int) (x y x' y':Int),P.length=i -> ((P ++ ([x] ++ M ++ [y]) ++ R).set i y').set j x'=P ++ ([y'] ++ M ++ [x']) ++ R:=fun P R x y x' y' lP=>by
   rw [List.append_assoc,List.set_append_right _ _ (by omega),lP,Nat.sub_self]
   show (P ++ (y' :: ((M ++ [y]) ++ R))).set j x'=_
   rw [List.set_append_right _ _ (by omega),lP,show j - i=(j - i - 1) + 1 by omega,List.set_cons_succ,List.append_assoc,List.set_append_right _ _ (by omega),lM,Nat.sub_self]
   simp
  have:=key (a.take i) (a.drop (j + 1)) (a.getD i 0) (a.getD j 0) (a.getD i 0) (a.getD j 0) (by rw [List.length_take];omega)
  rw [<- ea] at this
  exact this
theorem jg {a:List Int} {i:Nat} (h:i < a.length):a[i]?=some (a.getD i 0):=by rw [List.getD_eq_getElem?_getD,List.getElem?_eq_getElem h];rfl
theorem part {a b:List Int} {n i:Nat} (pa:a.Perm (aP 1 ((n:Int) + 1))) (pb:b.Perm (aP 1 ((n:Int) + 1))) (la:a.length=n) (lb:b.length=n) (hb:Below a b) (hi:a.take i=b.take i) (hin:i < n) (hne:a.getD i 0 ≠ b.getD i 0) :
  a.getD i 0 < b.getD i 0 /\ ∃ j,i < j /\ j < n /\ a.getD j 0=b.getD i 0:=by
 have hx:=jg (a:=a) (i:=i) (by omega)
 have hy:=jg (a:=b) (i:=i) (by omega)
 have ta:a.take (i + 1)=a.take i ++ [a.getD i 0]:=by rw [List.take_succ,hx];rfl
 have tb:b.take (i + 1)=b.take i ++ [b.getD i 0]:=by rw [List.take_succ,hy];rfl
 have h:=hb (i + 1) (a.getD i 0)
 rw [ta,tb,hi,cnt_append,cnt_append,vB,vB,if_pos (Int.le_refl _)] at h
 have hle:a.getD i 0 <= b.getD i 0:=by
  by_cases c:a.getD i 0 <= b.getD i 0
  ·exact c
  ·rw [if_neg c] at h;omega
 refine ⟨by omega,?_⟩
 have hm:b.getD i 0 ∈ a:=(pa.trans pb.symm).mem_iff.mpr (List.mem_of_getElem? hy)
 obtain ⟨j,hj⟩:=List.getElem?_of_mem hm
 have hjn:j < n:=by have:=(List.getElem?_eq_some_iff.mp hj).1;omega
 have nb:b.Nodup:=pb.nodup_iff.mpr (nG _ _)
 refine ⟨j,?_,hjn,?_⟩
 ·rcases Nat.lt_trichotomy j i with c | c | c
  ·have e:(a.take i)[j]?=some (b.getD i 0):=by rw [List.getElem?_take_of_lt c];exact hj
   rw [hi,List.getElem?_take_of_lt c] at e
   obtain ⟨h1,g1⟩:=List.getElem?_eq_some_iff.mp e
   obtain ⟨h2,g2⟩:=List.getElem?_eq_some_iff.mp hy
   exact absurd ((List.getElem_inj nb).mp (g1.trans g2.symm)) (by omega)
  ·subst c
   rw [hx] at hj
   exact absurd (Option.some.inj hj) hne
  ·exact c
 ·rw [List.getD_eq_getElem?_getD,hj];rfl
end Iv
namespace Nu
open PySem L2
end Nu
namespace Fw
open PySem L2 Bl
open Wd (ex led)
abbrev rg (n:Nat):List Int:=aP 1 ((n:Int) + 1)
theorem t9 {l:List Int} {k:Nat} (h0:1 <= k) (h:k < l.length):ex (ex l k) k=l:=by
 apply List.ext_getElem?
 intro p
 have h':k < (ex l k).length:=by rw [Wd.b_];exact h
 rw [Wd.dm h0 h',Wd.dm h0 h,Wd.dm h0 h,Wd.dm h0 h]
 by_cases c3:p=k
 ·rw [if_pos c3,if_neg (by omega),if_pos rfl,c3]
 ·rw [if_neg c3]
  by_cases c2:p=k - 1
  ·rw [if_pos c2,if_pos rfl,c2]
  ·rw [if_neg c2,if_neg c3,if_neg c2]
theorem rP {l:List Int} {k:Nat} (h0:1 <= k) (h:k < l.length):(ex l k).getD k 0=l.getD (k - 1) 0:=by
 rw [List.getD_eq_getElem?_getD,Wd.dm h0 h,if_pos rfl,List.getD_eq_getElem?_getD]
theorem rQ {l:List Int} {k:Nat} (h0:1 <= k) (h:k < l.length):(ex l k).getD (k - 1) 0=l.getD k 0:=by
 rw [List.getD_eq_getElem?_getD,Wd.dm h0 h,if_neg (by omega),if_pos rfl,List.getD_eq_getElem?_getD]
theorem uI {l:List Int} {k:Nat} (h0:1 <= k) (h:k < l.length) (hr:l.getD (k - 1) 0 < l.getD k 0):Iv.inv (ex l k)=Iv.inv l + 1:=by
 obtain ⟨P,M,R,e,_,hM,es⟩:=Iv.split (a:=l) (i:=k - 1) (j:=k) (by omega) h
 have:=Iv.step (P:=P) (M:=M) (R:=R) (x:=l.getD (k - 1) 0) (y:=l.getD k 0) (fun m hm=>by obtain ⟨_,_,_,_⟩:=hM m hm;omega) hr
 rw [<- es,<- e] at this
 exact this
theorem iV {l:List Int} {k:Nat} (h0:1 <= k) (h:k < l.length) (hr:l.getD k 0 < l.getD (k - 1) 0):Iv.inv l=Iv.inv (ex l k) + 1:=by
 have:=uI (l:=ex l k) h0 (by rw [Wd.b_];exact h) (by rw [rP h0 h,rQ h0 h];exact hr)
 rw [t9 h0 h] at this
 exact this
theorem yc {l:List Int} {k:Nat} (h0:1 <= k) (h:k < l.length):Iv.inv (ex l k) <= Iv.inv l + 1:=by
 rcases Int.lt_trichotomy (l.getD (k - 1) 0) (l.getD k 0) with c | c | c
 ·exact Nat.le_of_eq (uI h0 h c)
 ·have:ex l k=l:=by
   apply List.ext_getElem?
   intro p
   have e1:l[k]?=some (l.getD k 0):=Iv.jg h
   have e2:l[k - 1]?=some (l.getD (k - 1) 0):=Iv.jg (by omega)
   rw [Wd.dm h0 h]
   by_cases c3:p=k
   ·rw [if_pos c3,c3,e1,e2,c]
   ·rw [if_neg c3]
    by_cases c2:p=k - 1
    ·rw [if_pos c2,c2,e1,e2,c]
    ·rw [if_neg c2]
  rw [this];omega
 ·have:=iV h0 h c;omega
def Va (n:Nat) (w:List Nat):Prop:=∀ k ∈ w,1 <= k /\ k < n
theorem Va.tail {n k:Nat} {w:List Nat} (h:Va n (k :: w)):Va n w:=fun j hj=>h j (List.mem_cons_of_mem _ hj)
theorem Va.head {n k:Nat} {w:List Nat} (h:Va n (k :: w)):1 <= k /\ k < n:=h k (List.mem_cons_self ..)
theorem Va.rev {n:Nat} {w:List Nat} (h:Va n w):Va n w.reverse:=fun k hk=>h k (List.mem_reverse.mp hk)
theorem xH:∀ {w:List Nat} {l:List Int},Va l.length w -> Iv.inv (led l w) <= Iv.inv l + w.length
 | [],l,_=>Nat.le_refl _
 | k :: w,l,h=>by
  have h1:=xH (w:=w) (l:=ex l k) (by rw [Wd.b_];exact h.tail)
  have h2:=yc h.head.1 h.head.2
  show Iv.inv (led (ex l k) w) <= Iv.inv l + (w.length + 1)
  omega
theorem tu:∀ {w:List Nat} {l:List Int},Va l.length w -> led (led l w) w.reverse=l
 | [],l,_=>rfl
 | k :: w,l,h=>by
  rw [List.reverse_cons,Wd.jl]
  show led (led (led (ex l k) w) w.reverse) [k]=l
  rw [tu (w:=w) (l:=ex l k) (by rw [Wd.b_];exact h.tail)]
  exact t9 h.head.1 h.head.2
theorem qD:∀ {l:List Int},l.Pairwise (· <= ·) -> Iv.inv l=0
 | [],_=>rfl
 | x :: l,h=>by
  show l.countP (fun y=>decide (y < x)) + Iv.inv l=0
  rw [qD (List.pairwise_cons.mp h).2,List.countP_eq_zero.mpr fun a ha z=>by have:=of_decide_eq_true z;have:=(List.pairwise_cons.mp h).1 a ha;omega]
theorem Az (n:Nat):Iv.inv (rg n)=0:=qD (wN _ _)
def j0 (l:List Int) (k:Nat):Prop:=1 <= k /\ k < l.length /\ l.getD k 0 < l.getD (k - 1) 0
theorem zm {l:List Int} (h:∀ k,¬ j0 l k):l.Pairwise (· <= ·):=by
 have key:∀ d i,i + d < l.length -> l.getD i 0 <= l.getD (i + d) 0:=by
  intro d
  induction d with
  | zero=>intro i _;exact Int.le_refl _
  | succ d ih=>
   intro i hi
   have h1:=ih i (by omega)
   have h2:¬ l.getD (i + d + 1) 0 < l.getD (i + d) 0:=fun z=>h (i + d + 1) ⟨by omega,hi,z⟩
   rw [<- Nat.add_assoc];omega
 rw [List.pairwise_iff_getElem]
 intro i j hi hj hij
 have:=key (j - i) i (by omega)
 rw [show i + (j - i)=j by omega,Wd.jc hi,Wd.jc hj] at this
 exact this
theorem EH {l:List Int} {n:Nat} (p:l.Perm (rg n)) (h:∀ k,¬ j0 l k):l=rg n:=
 List.Perm.eq_of_pairwise (fun x y _ _ h1 h2=>Int.le_antisymm h1 h2) (zm h) (wN _ _) p
theorem Eg {l:List Int} (h:0 < Iv.inv l):∃ k,j0 l k:=by
 refine Classical.byContradiction fun z=>?_
 rw [qD (zm fun k hk=>z ⟨k,hk⟩)] at h
 exact absurd h (Nat.lt_irrefl _)
def Dn:List Int -> List Nat -> Prop
 | l,[]=>∀ k,¬ j0 l k
 | l,k :: ks=>(j0 l k /\ ∀ j,j0 l j -> k <= j) /\ Dn (ex l k) ks
theorem l_ {l:List Int} {n k:Nat} (p:l.Perm (rg n)) (h0:1 <= k) (h:k < l.length):(ex l k).Perm (rg n):=(Wd.q_ h0 h).trans p
theorem Dn.len:∀ {ks:List Nat} {l:List Int},Dn l ks -> ks.length=Iv.inv l
 | [],l,h=>(qD (zm h)).symm
 | k :: ks,l,h=>by
  have:=h.2.len
  rw [iV h.1.1.1 h.1.1.2.1 h.1.1.2.2,List.length_cons];omega
theorem Dn.va:∀ {ks:List Nat} {l:List Int},Dn l ks -> Va l.length ks
 | [],l,_=>fun k hk=>absurd hk (by simp)
 | k :: ks,l,h=>fun j hj=>by
  rcases List.mem_cons.mp hj with rfl | z
  ·exact ⟨h.1.1.1,h.1.1.2.1⟩
  ·have:=h.2.va j z
   rwa [Wd.b_] at this
theorem Dn.led:∀ {ks:List Nat} {l:List Int} {n:Nat},Dn l ks -> l.Perm (rg n) -> led l ks=rg n
 | [],l,n,h,p=>EH p h
 | k :: ks,l,n,h,p=>Dn.led (ks:=ks) h.2 (l_ p h.1.1.1 h.1.1.2.1)
theorem FI:∀ (m:Nat) (l:List Int),Iv.inv l <= m -> ∃ ks,Dn l ks
 | 0,l,h=>⟨[],fun k hk=>by have:=iV hk.1 hk.2.1 hk.2.2;omega⟩
 | m + 1,l,h=>by
  by_cases c:∃ k,j0 l k
  ·obtain ⟨k,hk,hmin⟩:∃ k,j0 l k /\ ∀ j,j0 l j -> k <= j:=by
    obtain ⟨k,hk⟩:=c
    induction k using Nat.strongRecOn with
    | ind k ih=>
     by_cases z:∃ j,j0 l j /\ j < k
     ·obtain ⟨j,hj,hlt⟩:=z
      exact ih j hlt hj
     ·exact ⟨k,hk,fun j hj=>Nat.le_of_not_lt fun y=>z ⟨j,hj,y⟩⟩
   have:=iV hk.1 hk.2.1 hk.2.2
   obtain ⟨ks,hks⟩:=FI m (ex l k) (by omega)
   exact ⟨k :: ks,⟨hk,hmin⟩,hks⟩
  ·exact ⟨[],fun k hk=>c ⟨k,hk⟩⟩
theorem DB {l:List Int} {n k:Nat} (p:l.Perm (rg n)) (h0:1 <= k) (h:k < l.length):l.getD (k - 1) 0 ≠ l.getD k 0:=fun z=>by
 have nd:l.Nodup:=p.nodup_iff.mpr (nG _ _)
 rw [Wd.jc h,Wd.jc (show k - 1 < l.length by omega)] at z
 have:=(List.getElem_inj nd).mp z
 omega
structure Two (n:Nat) (o u:List Int):Prop where
 po:o.Perm (rg n)
 pu:u.Perm (rg n)
 ou:GF o u
end Fw
namespace Ti
open PySem L2 Bl
open Wd (ex led)
open Fw (rg Va j0)
inductive Mv:List Nat -> List Nat -> Prop
 | comm (P R:List Nat) (a b:Nat) (h:a + 2 <= b \/ b + 2 <= a):Mv (P ++ a :: b :: R) (P ++ b :: a :: R)
 | braid (P R:List Nat) (a b:Nat) (h:a + 1=b \/ b + 1=a):Mv (P ++ a :: b :: a :: R) (P ++ b :: a :: b :: R)
inductive Con:List Nat -> List Nat -> Prop
 | refl (u:List Nat):Con u u
 | step {u v w:List Nat} (h:Con u v) (m:Mv v w):Con u w
theorem Mv.symm {u v:List Nat}:Mv u v -> Mv v u
 | .comm P R a b h=>.comm P R b a h.symm
 | .braid P R a b h=>.braid P R b a h.symm
theorem Mv.snoc {u v:List Nat} (x:List Nat):Mv u v -> Mv (u ++ x) (v ++ x)
 | .comm P R a b h=>by
  have:=Mv.comm P (R ++ x) a b h
  rw [List.append_assoc,List.append_assoc];exact this
 | .braid P R a b h=>by
  have:=Mv.braid P (R ++ x) a b h
  rw [List.append_assoc,List.append_assoc];exact this
theorem Con.trans {u v w:List Nat} (h:Con u v) (k:Con v w):Con u w:=by
 induction k with
 | refl=>exact h
 | step _ m ih=>exact .step ih m
theorem Con.one {u v:List Nat} (m:Mv u v):Con u v:=.step (.refl _) m
theorem Con.symm {u v:List Nat} (h:Con u v):Con v u:=by
 induction h with
 | refl=>exact .refl _
 | step _ m ih=>exact (Con.one m.symm).trans ih
theorem Con.snoc {u v:List Nat} (x:List Nat) (h:Con u v):Con (u ++ x) (v ++ x):=by
 induction h with
 | refl=>exact .refl _
 | step _ m ih=>exact .step ih (m.snoc x)
theorem Ea {l:List Int} {a b:Nat} (ha:1 <= a) (hb:1 <= b) (ha':a < l.length) (hb':b < l.length) (h:a + 2 <= b \/ b + 2 <= a):ex (ex l a) b=ex (ex l b) a:=by
 apply List.ext_getElem?
 intro p
 have la:a < (ex l b).length:=by rw [Wd.b_];exact ha'
 have lb:b < (ex l a).length:=by rw [Wd.b_];exact hb'
 rw [Wd.dm hb lb,Wd.dm ha la,Wd.dm ha ha',Wd.dm ha ha',Wd.dm ha ha',Wd.dm hb hb',Wd.dm hb hb',Wd.dm hb hb']
 by_cases c1:p=b
 ·subst c1
  rw [if_pos rfl,if_neg (by omega),if_neg (by omega),if_neg (by omega),if_neg (by omega),if_pos rfl]
 ·by_cases c2:p=b - 1
  ·subst c2
   rw [if_neg c1,if_pos rfl,if_neg (by omega),if_neg (by omega),if_neg (by omega),if_neg (by omega),if_neg c1,if_pos rfl]
  ·rw [if_neg c1,if_neg c2,if_neg c1,if_neg c2,if_neg (show ¬ a - 1=b by omega),if_neg (show ¬ a - 1=b - 1 by omega),if_neg (show ¬ a=b by omega),if_neg (show ¬ a=b - 1 by omega)]
theorem Av {l:List Int} {a:Nat} (ha:1 <= a) (hb:a + 1 < l.length):ex (ex (ex l a) (a + 1)) a=ex (ex (ex l (a + 1)) a) (a + 1):=by
 apply List.ext_getElem?
 intro p
 have l1:∀ (x:List Int) (k:Nat),x.length=l.length -> (ex x k).length=l.length:=fun x k h=>by rw [Wd.b_];exact h
 have g:∀ (x:List Int) (k p:Nat),x.length=l.length -> 1 <= k -> k <= a + 1 -> (ex x k)[p]?=if p=k then x[k - 1]? else if p=k - 1 then x[k]? else x[p]?:=fun x k p h h1 h2=>Wd.dm h1 (by omega) p
 have e1:∀ p,(ex l a)[p]?=if p=a then l[a - 1]? else if p=a - 1 then l[a]? else l[p]?:=fun p=>g l a p rfl ha (by omega)
 have e2:∀ p,(ex (ex l a) (a + 1))[p]?=if p=a + 1 then (ex l a)[a]? else if p=a then (ex l a)[a + 1]? else (ex l a)[p]?:=fun p=>g _ (a + 1) p (l1 _ _ rfl) (by omega) (by omega)
 have e3:∀ p,(ex (ex (ex l a) (a + 1)) a)[p]?=if p=a then (ex (ex l a) (a + 1))[a - 1]? else if p=a - 1 then (ex (ex l a) (a + 1))[a]? else (ex (ex l a) (a + 1))[p]?:=fun p=>g _ a p (l1 _ _ (l1 _ _ rfl)) ha (by omega)
 have f1:∀ p,(ex l (a + 1))[p]?=if p=a + 1 then l[a]? else if p=a then l[a + 1]? else l[p]?:=fun p=>g l (a + 1) p rfl (by omega) (by omega)
 have f2:∀ p,(ex (ex l (a + 1)) a)[p]?=if p=a then (ex l (a + 1))[a - 1]? else if p=a - 1 then (ex l (a + 1))[a]? else (ex l (a + 1))[p]?:=fun p=>g _ a p (l1 _ _ rfl) ha (by omega)
 have f3:∀ p,(ex (ex (ex l (a + 1)) a) (a + 1))[p]?=if p=a + 1 then (ex (ex l (a + 1)) a)[a]? else if p=a then (ex (ex l (a + 1)) a)[a + 1]? else (ex (ex l (a + 1)) a)[p]?:=fun p=>g _ (a + 1) p (l1 _ _ (l1 _ _ rfl)) (by omega) (by omega)
 simp only [e3,f3,e2,f2,e1,f1]
 have n1:¬ a - 1=a:=by omega
 have n2:¬ a - 1=a + 1:=by omega
 have n3:¬ a=a - 1:=by omega
 have n4:¬ a=a + 1:=by omega
 have n5:¬ a + 1=a:=by omega
 have n6:¬ a + 1=a - 1:=by omega
 by_cases c1:p=a
 ·subst c1;simp only [n1,n2,n3,n4,n5,n6,if_true,if_false]
 ·by_cases c2:p=a - 1
  ·subst c2;simp only [n1,n2,n3,n4,n5,n6,if_true,if_false]
  ·by_cases c3:p=a + 1
   ·subst c3;simp only [n1,n2,n3,n4,n5,n6,if_true,if_false]
   ·simp only [c1,c2,c3,if_false]
theorem vg {l:List Int} {n:Nat} (p:l.Perm (rg n)):∃ x,Va n x /\ led (rg n) x=l /\ x.length=Iv.inv l:=by
 obtain ⟨ks,h⟩:=Fw.FI _ l (Nat.le_refl _)
 have ll:l.length=n:=by rw [p.length_eq,Wd.dI]
 have v:Va n ks:=by have:=h.va;rwa [ll] at this
 refine ⟨ks.reverse,v.rev,?_,by rw [List.length_reverse];exact h.len⟩
 rw [<- h.led p]
 exact Fw.tu (by rw [ll];exact v)
def Red (n:Nat) (w:List Nat):Prop:=Va n w /\ w.length=Iv.inv (led (rg n) w)
theorem pm {n:Nat} {w:List Nat} (h:Va n w):(led (rg n) w).Perm (rg n):=Wd.m_ (by rw [Wd.dI];exact h)
theorem ln {n:Nat} {w:List Nat}:(led (rg n) w).length=n:=by rw [Wd.gn,Wd.dI]
theorem ug {n i:Nat} {u:List Nat} (h:Red n (u ++ [i])):Red n u /\ j0 (led (rg n) (u ++ [i])) i /\ ex (led (rg n) (u ++ [i])) i=led (rg n) u:=by
 obtain ⟨hv,hl⟩:=h
 have hi:=hv i (by simp)
 have vu:Va n u:=fun k hk=>hv k (List.mem_append_left _ hk)
 have e:led (rg n) (u ++ [i])=ex (led (rg n) u) i:=by rw [Wd.jl];rfl
 have l1:i < (led (rg n) u).length:=by rw [ln];exact hi.2
 rw [e] at hl ⊢
 have h1:=Fw.xH (w:=u) (l:=rg n) (by rw [Wd.dI];exact vu)
 rw [Fw.Az] at h1
 rw [List.length_append] at hl
 have hl:u.length + 1=Iv.inv (ex (led (rg n) u) i):=hl
 have h2:=Fw.yc hi.1 l1
 refine ⟨⟨vu,by omega⟩,⟨hi.1,by rw [Wd.b_];exact l1,?_⟩,Fw.t9 hi.1 l1⟩
 rw [Fw.rP hi.1 l1,Fw.rQ hi.1 l1]
 refine Classical.byContradiction fun z=>?_
 have ne:=Fw.DB (pm vu) hi.1 l1
 have:=Fw.iV hi.1 l1 (by omega)
 omega
theorem kQ {n i:Nat} {x:List Nat} {l:List Int} (hx:Red n x) (e:led (rg n) x=ex l i) (hl:l.length=n) (hf:j0 l i):Red n (x ++ [i]) /\ led (rg n) (x ++ [i])=l:=by
 have e2:led (rg n) (x ++ [i])=l:=by
  rw [Wd.jl,e]
  exact Fw.t9 hf.1 hf.2.1
 refine ⟨⟨fun k hk=>?_,?_⟩,e2⟩
 ·rcases List.mem_append.mp hk with z | z
  ·exact hx.1 k z
  ·have:k=i:=by simpa using z
   rw [this];exact ⟨hf.1,by have:=hf.2.1;omega⟩
 ·rw [e2,List.length_append,hx.2,e,Fw.iV hf.1 hf.2.1 hf.2.2];rfl
theorem gr {l:List Int} {k p:Nat} (h0:1 <= k) (h:k < l.length) (h1:p ≠ k) (h2:p ≠ k - 1):(ex l k).getD p 0=l.getD p 0:=by
 rw [List.getD_eq_getElem?_getD,Wd.dm h0 h,if_neg h1,if_neg h2,List.getD_eq_getElem?_getD]
theorem y9:∀ (m n:Nat) (u v:List Nat),u.length=m -> Red n u -> Red n v -> led (rg n) u=led (rg n) v -> Con u v
 | 0,n,u,v,hm,hu,hv,he=>by
  have e1:u=[]:=List.eq_nil_of_length_eq_zero hm
  subst e1
  have:v.length=0:=by rw [hv.2,<- he,<- hu.2];rfl
  rw [List.eq_nil_of_length_eq_zero this]
  exact .refl _
 | m + 1,n,u,v,hm,hu,hv,he=>by
  have lv:v.length=m + 1:=by rw [hv.2,<- he,<- hu.2,hm]
  obtain ⟨u',i,rfl⟩:∃ u' i,u=u' ++ [i]:=by
   rcases List.eq_nil_or_concat u with z | ⟨a,b,z⟩
   ·rw [z] at hm;cases hm
   ·exact ⟨a,b,by rw [z,List.concat_eq_append]⟩
  obtain ⟨v',j,rfl⟩:∃ v' j,v=v' ++ [j]:=by
   rcases List.eq_nil_or_concat v with z | ⟨a,b,z⟩
   ·rw [z] at lv;cases lv
   ·exact ⟨a,b,by rw [z,List.concat_eq_append]⟩
  obtain ⟨ru,fi,eu⟩:=ug hu
  obtain ⟨rv,fj,ev⟩:=ug hv
  have mu:u'.length=m:=by rw [List.length_append] at hm;exact Nat.succ.inj hm
  have mv:v'.length=m:=by rw [List.length_append] at lv;exact Nat.succ.inj lv
  rw [<- he] at fj ev
  have po:=pm hu.1
  have lo:(led (rg n) (u' ++ [i])).length=n:=ln
  generalize led (rg n) (u' ++ [i])=o at fi fj eu ev po lo
  by_cases c:i=j
  ·subst c
   exact (y9 m n u' v' mu ru rv (by rw [<- eu,<- ev])).snoc [i]
  ·by_cases c2:i + 2 <= j \/ j + 2 <= i
   ·have lj:j < (ex o i).length:=by rw [Wd.b_];exact fj.2.1
    have li:i < (ex o j).length:=by rw [Wd.b_];exact fi.2.1
    have f1:j0 (ex o i) j:=⟨fj.1,lj,by
     rw [gr fi.1 fi.2.1 (by omega) (by have:=fi.1;have:=fj.1;omega),gr fi.1 fi.2.1 (by have:=fj.1;omega) (by have:=fi.1;have:=fj.1;omega)];exact fj.2.2⟩
    have f2:j0 (ex o j) i:=⟨fi.1,li,by
     rw [gr fj.1 fj.2.1 (by omega) (by have:=fi.1;have:=fj.1;omega),gr fj.1 fj.2.1 (by have:=fi.1;omega) (by have:=fi.1;have:=fj.1;omega)];exact fi.2.2⟩
    have p1:=Fw.l_ po fi.1 fi.2.1
    have p2:=Fw.l_ po fj.1 fj.2.1
    have p12:=Fw.l_ p1 f1.1 f1.2.1
    obtain ⟨x,xv,xe,xl⟩:=vg p12
    have rx:Red n x:=⟨xv,by rw [xe];exact xl⟩
    obtain ⟨r1,e1⟩:=kQ (l:=ex o i) rx xe (by rw [Wd.b_];exact lo) f1
    obtain ⟨r2,e2⟩:=kQ (l:=ex o j) rx (by rw [xe,Ea fi.1 fj.1 fi.2.1 fj.2.1 c2]) (by rw [Wd.b_];exact lo) f2
    have k1:=(y9 m n u' (x ++ [j]) mu ru r1 (by rw [e1,eu])).snoc [i]
    have k2:=(y9 m n v' (x ++ [i]) mv rv r2 (by rw [e2,ev])).snoc [j]
    rw [List.append_assoc] at k1 k2
    exact (k1.step (Mv.comm x [] j i c2.symm)).trans k2.symm
   ·have key:∀ (u' v':List Nat) (i:Nat),u'.length=m -> v'.length=m -> Red n u' -> Red n v' -> j0 o i -> j0 o (i + 1) -> ex o i=led (rg n) u' -> ex o (i + 1)=led (rg n) v' -> Con (u' ++ [i]) (v' ++ [i + 1]):=by
     intro u' v' i mu mv ru rv fi fj eu ev
     have h1:=fi.1
     have h2:=fj.2.1
     have l1:(ex o i).length=n:=by rw [Wd.b_];exact lo
     have l2:(ex (ex o i) (i + 1)).length=n:=by rw [Wd.b_];exact l1
     have m1:(ex o (i + 1)).length=n:=by rw [Wd.b_];exact lo
     have m2:(ex (ex o (i + 1)) i).length=n:=by rw [Wd.b_];exact m1
     have d0:o.getD (i + 1) 0 < o.getD i 0:=fj.2.2
     have d1:o.getD i 0 < o.getD (i - 1) 0:=fi.2.2
     have a1:(ex o i).getD i 0=o.getD (i - 1) 0:=Fw.rP h1 fi.2.1
     have a2:(ex o i).getD (i - 1) 0=o.getD i 0:=Fw.rQ h1 fi.2.1
     have a3:(ex o i).getD (i + 1) 0=o.getD (i + 1) 0:=gr h1 fi.2.1 (by omega) (by omega)
     have f1:j0 (ex o i) (i + 1):=⟨by omega,by omega,by
      show (ex o i).getD (i + 1) 0 < (ex o i).getD i 0
      rw [a1,a3];omega⟩
     have b1:(ex (ex o i) (i + 1)).getD i 0=o.getD (i + 1) 0:=(Fw.rQ (k:=i + 1) (by omega) (by omega)).trans a3
     have b2:(ex (ex o i) (i + 1)).getD (i - 1) 0=o.getD i 0:=(gr (by omega) (by omega) (by omega) (by omega)).trans a2
     have f2:j0 (ex (ex o i) (i + 1)) i:=⟨h1,by omega,by rw [b1,b2];exact d0⟩
     have c1:(ex o (i + 1)).getD i 0=o.getD (i + 1) 0:=Fw.rQ (k:=i + 1) (by omega) h2
     have c2:(ex o (i + 1)).getD (i + 1) 0=o.getD i 0:=Fw.rP (k:=i + 1) (by omega) h2
     have c3:(ex o (i + 1)).getD (i - 1) 0=o.getD (i - 1) 0:=gr (by omega) h2 (by omega) (by omega)
     have g1:j0 (ex o (i + 1)) i:=⟨h1,by omega,by rw [c1,c3];omega⟩
     have e1':(ex (ex o (i + 1)) i).getD i 0=o.getD (i - 1) 0:=(Fw.rP h1 (by omega)).trans c3
     have e2':(ex (ex o (i + 1)) i).getD (i + 1) 0=o.getD i 0:=(gr h1 (by omega) (by omega) (by omega)).trans c2
     have g2:j0 (ex (ex o (i + 1)) i) (i + 1):=⟨by omega,by omega,by
      show (ex (ex o (i + 1)) i).getD (i + 1) 0 < (ex (ex o (i + 1)) i).getD i 0
      rw [e1',e2'];exact d1⟩
     have p3:=Fw.l_ (Fw.l_ (Fw.l_ po h1 fi.2.1) f1.1 f1.2.1) f2.1 f2.2.1
     obtain ⟨x,xv,xe,xl⟩:=vg p3
     have rx:Red n x:=⟨xv,by rw [xe];exact xl⟩
     obtain ⟨r1,q1⟩:=kQ (l:=ex (ex o i) (i + 1)) rx xe l2 f2
     obtain ⟨r2,q2⟩:=kQ (l:=ex o i) r1 q1 l1 f1
     obtain ⟨s1,t1⟩:=kQ (l:=ex (ex o (i + 1)) i) rx (by rw [xe];exact Av h1 (by omega)) m2 g2
     obtain ⟨s2,t2⟩:=kQ (l:=ex o (i + 1)) s1 t1 m1 g1
     have k1:=(y9 m n u' _ mu ru r2 (by rw [q2,eu])).snoc [i]
     have k2:=(y9 m n v' _ mv rv s2 (by rw [t2,ev])).snoc [i + 1]
     simp only [List.append_assoc] at k1 k2
     exact (k1.step (Mv.braid x [] i (i + 1) (.inl rfl))).trans k2.symm
    by_cases c3:j=i + 1
    ·subst c3
     exact key u' v' i mu mv ru rv fi fj eu ev
    ·have c4:i=j + 1:=by omega
     subst c4
     exact (key v' u' j mv mu rv ru fj fi ev eu).symm
end Ti
namespace Rd
open PySem L2
open Ti (Mv Con)
abbrev up (v:List Nat):List Int:=v.map fun k:Nat=>(k:Int)
theorem qZ:∀ {a b:List Nat},up a=up b -> a=b
 | [],[],_=>rfl
 | [],_ :: _,e=>by simp at e
 | _ :: _,[],e=>by simp at e
 | x :: xs,y :: ys,e=>by
  have e1:=List.cons.inj e
  rw [qZ e1.2,show x=y from Int.ofNat_inj.mp e1.1]
theorem nA (v:List Nat):(up v).length=v.length:=List.length_map ..
theorem fu (v:List Nat) (p:Nat):(up v).getD p 0=(v.getD p 0:Int):=by
 rw [List.getD_eq_getElem?_getD,List.getElem?_map,List.getD_eq_getElem?_getD]
 cases v[p]? <;> rfl
def xD (w:List Int) (p:Nat):List Int:=w.take p ++ [w.getD (p + 1) 0,w.getD p 0] ++ w.drop (p + 2)
def w_ (w:List Int) (p:Nat):List Int:=w.take p ++ [w.getD (p + 1) 0,w.getD p 0,w.getD (p + 1) 0] ++ w.drop (p + 3)
def uZ (w:List Int) (p:Nat):Int:=if w.getD p 0 - w.getD (p + 1) 0 < 0 then -(w.getD p 0 - w.getD (p + 1) 0) else w.getD p 0 - w.getD (p + 1) 0
def chg (w:List Int):List (List Int):=((aP 0 ((w.length:Int) - 1)).filter fun k=>decide (1 < uZ w k.toNat)).map fun k=>xD w k.toNat
def qc (w:List Int):List (List Int):=((aP 0 ((w.length:Int) - 2)).filter fun k=>(w.getD k.toNat 0 == w.getD (k.toNat + 2) 0) && (uZ w k.toNat == 1)).map fun k=>w_ w k.toNat
def mH (w:List Int):List (List Int):=chg w ++ qc w
theorem Ai {v:List Nat} {p:Nat} (h:p + 1 < v.length):v=v.take p ++ v.getD p 0 :: v.getD (p + 1) 0 :: v.drop (p + 2):=by
 have g:∀ q,q < v.length -> v.getD q 0=v[q]!:=fun q hq=>by simp [List.getD_eq_getElem?_getD,hq]
 rw [show v.getD p 0=v[p] by rw [List.getD_eq_getElem?_getD,List.getElem?_eq_getElem (by omega)];rfl,show v.getD (p + 1) 0=v[p + 1] by rw [List.getD_eq_getElem?_getD,List.getElem?_eq_getElem h];rfl,
  List.getElem_cons_drop,List.getElem_cons_drop,List.take_append_drop]
theorem Hg {v:List Nat} {p:Nat} (h:p + 2 < v.length):v=v.take p ++ v.getD p 0 :: v.getD (p + 1) 0 :: v.getD (p + 2) 0 :: v.drop (p + 3):=by
 rw [show v.getD p 0=v[p] by rw [List.getD_eq_getElem?_getD,List.getElem?_eq_getElem (by omega)];rfl,show v.getD (p + 1) 0=v[p + 1] by rw [List.getD_eq_getElem?_getD,List.getElem?_eq_getElem (by omega)];rfl,
  show v.getD (p + 2) 0=v[p + 2] by rw [List.getD_eq_getElem?_getD,List.getElem?_eq_getElem h];rfl,List.getElem_cons_drop,List.getElem_cons_drop,List.getElem_cons_drop,List.take_append_drop]
theorem Bh (v:List Nat) (p:Nat):xD (up v) p=up (v.take p ++ v.getD (p + 1) 0 :: v.getD p 0 :: v.drop (p + 2)):=by
 unfold xD
 rw [fu,fu,<- List.map_take,<- List.map_drop,List.append_assoc,up,List.map_append];rfl
theorem Co (v:List Nat) (p:Nat):w_ (up v) p=up (v.take p ++ v.getD (p + 1) 0 :: v.getD p 0 :: v.getD (p + 1) 0 :: v.drop (p + 3)):=by
 unfold w_
 rw [fu,fu,<- List.map_take,<- List.map_drop,List.append_assoc,up,List.map_append];rfl
theorem qT (v:List Nat) (p:Nat):uZ (up v) p=if (v.getD p 0:Int) - v.getD (p + 1) 0 < 0 then -((v.getD p 0:Int) - v.getD (p + 1) 0) else (v.getD p 0:Int) - v.getD (p + 1) 0:=by
 unfold uZ;rw [fu,fu]
theorem EB {v:List Nat} {x:List Int} (h:x ∈ mH (up v)):∃ v',x=up v' /\ Mv v v':=by
 unfold mH chg qc at h
 rcases List.mem_append.mp h with h | h
 ·obtain ⟨k,hk,rfl⟩:=List.mem_map.mp h
  obtain ⟨h1,h2⟩:=List.mem_filter.mp hk
  have h1:=dj.mp h1
  rw [nA] at h1
  have h2:=of_decide_eq_true h2
  rw [qT] at h2
  have hp:k.toNat + 1 < v.length:=by omega
  refine ⟨_,Bh v k.toNat,?_⟩
  have e:=Ai hp
  have:=Mv.comm (v.take k.toNat) (v.drop (k.toNat + 2)) (v.getD k.toNat 0) (v.getD (k.toNat + 1) 0) (by split at h2 <;> omega)
  rw [<- e] at this
  exact this
 ·obtain ⟨k,hk,rfl⟩:=List.mem_map.mp h
  obtain ⟨h1,h2⟩:=List.mem_filter.mp hk
  have h1:=dj.mp h1
  rw [nA] at h1
  rw [Bool.and_eq_true,beq_iff_eq,beq_iff_eq,qT,fu,fu] at h2
  have hp:k.toNat + 2 < v.length:=by omega
  refine ⟨_,Co v k.toNat,?_⟩
  have e:=Hg hp
  have e2:v.getD (k.toNat + 2) 0=v.getD k.toNat 0:=by have:=h2.1;omega
  rw [e2] at e
  have:=Mv.braid (v.take k.toNat) (v.drop (k.toNat + 3)) (v.getD k.toNat 0) (v.getD (k.toNat + 1) 0) (by have:=h2.2;split at this <;> omega)
  rw [<- e] at this
  exact this
theorem GU {v v':List Nat} (h:Mv v v'):up v' ∈ mH (up v):=by
 unfold mH chg qc
 cases h with
 | comm P R a b h=>
  have g0:(P ++ a :: b :: R).getD P.length 0=a:=by simp [List.getD_eq_getElem?_getD]
  have g1:(P ++ a :: b :: R).getD (P.length + 1) 0=b:=by simp [List.getD_eq_getElem?_getD]
  refine List.mem_append_left _ (List.mem_map.mpr ⟨(P.length:Int),List.mem_filter.mpr ⟨dj.mpr ⟨by omega,by rw [nA];simp;omega⟩,?_⟩,?_⟩)
  ·rw [Int.toNat_natCast,qT,g0,g1]
   refine decide_eq_true ?_
   split <;> omega
  ·rw [Int.toNat_natCast,Bh,g0,g1]
   congr 1
   simp
 | braid P R a b h=>
  have g0:(P ++ a :: b :: a :: R).getD P.length 0=a:=by simp [List.getD_eq_getElem?_getD]
  have g1:(P ++ a :: b :: a :: R).getD (P.length + 1) 0=b:=by simp [List.getD_eq_getElem?_getD]
  have g2:(P ++ a :: b :: a :: R).getD (P.length + 2) 0=a:=by simp [List.getD_eq_getElem?_getD]
  refine List.mem_append_right _ (List.mem_map.mpr ⟨(P.length:Int),List.mem_filter.mpr ⟨dj.mpr ⟨by omega,by rw [nA];simp;omega⟩,?_⟩,?_⟩)
  ·rw [Int.toNat_natCast,qT,fu,fu,g0,g1,g2,beq_self_eq_true,Bool.true_and,beq_iff_eq]
   split <;> omega
  ·rw [Int.toNat_natCast,Co,g0,g1]
   congr 1
   simp
theorem DK {v v':List Nat} (h:Mv v v'):v'.length=v.length /\ ∀ k ∈ v',k ∈ v:=by
 cases h with
 | comm P R a b h=>exact ⟨by simp,fun k hk=>by
   simp only [List.mem_append,List.mem_cons] at hk ⊢
   rcases hk with z | z | z | z
   ·exact .inl z
   ·exact .inr (.inr (.inl z))
   ·exact .inr (.inl z)
   ·exact .inr (.inr (.inr z))⟩
 | braid P R a b h=>exact ⟨by simp,fun k hk=>by
   simp only [List.mem_append,List.mem_cons] at hk ⊢
   rcases hk with z | z | z | z | z
   ·exact .inl z
   ·exact .inr (.inr (.inl z))
   ·exact .inr (.inl z)
   ·exact .inr (.inr (.inl z))
   ·exact .inr (.inr (.inr (.inr z)))⟩
theorem oi:∀ (N:Nat) (l:List Nat),l.Nodup -> (∀ x ∈ l,x < N) -> l.length <= N
 | 0,l,_,h=>by
  cases l with
  | nil=>exact Nat.le_refl _
  | cons x l=>exact absurd (h x (List.mem_cons_self ..)) (Nat.not_lt_zero _)
 | N + 1,l,hn,h=>by
  by_cases c:N ∈ l
  ·have h1:=oi N (l.erase N) (hn.erase N) fun x hx=>by
    have h1:=(List.Nodup.mem_erase_iff hn).mp hx
    have:=h x h1.2
    have:=h1.1
    omega
   have:=List.length_erase_of_mem c
   have:=List.length_pos_of_mem c
   omega
  ·have:=oi N l hn fun x hx=>by
    have:=h x hx
    have:x ≠ N:=fun z=>c (z ▸ hx)
    omega
   omega
def code:List Nat -> Nat
 | []=>0
 | a :: r=>(a - 1) + 8 * code r
def eY (L:Nat) (w:List Nat):Prop:=w.length=L /\ ∀ k ∈ w,1 <= k /\ k <= 8
theorem xX:∀ {L:Nat} {w:List Nat},eY L w -> code w < 8 ^ L
 | 0,[],_=>by show 0 < 8 ^ 0;decide
 | L + 1,a :: r,h=>by
  have h1:=xX (L:=L) (w:=r) ⟨Nat.succ.inj h.1,fun k hk=>h.2 k (List.mem_cons_of_mem _ hk)⟩
  have h2:=h.2 a (List.mem_cons_self ..)
  show (a - 1) + 8 * code r < 8 ^ (L + 1)
  rw [Nat.pow_succ]
  omega
 | 0,_ :: _,h=>by cases h.1
 | _ + 1,[],h=>by cases h.1
theorem code_inj:∀ {L:Nat} {w v:List Nat},eY L w -> eY L v -> code w=code v -> w=v
 | 0,[],[],_,_,_=>rfl
 | L + 1,a :: r,b :: t,h,h',e=>by
  have h2:=h.2 a (List.mem_cons_self ..)
  have h3:=h'.2 b (List.mem_cons_self ..)
  have e:(a - 1) + 8 * code r=(b - 1) + 8 * code t:=e
  have e1:a=b:=by omega
  have e2:code r=code t:=by omega
  rw [e1,code_inj (L:=L) ⟨Nat.succ.inj h.1,fun k hk=>h.2 k (List.mem_cons_of_mem _ hk)⟩ ⟨Nat.succ.inj h'.1,fun k hk=>h'.2 k (List.mem_cons_of_mem _ hk)⟩ e2]
 | 0,_ :: _,_,h,_,_=>by cases h.1
 | 0,[],_ :: _,_,h,_=>by cases h.1
 | _ + 1,[],_,h,_,_=>by cases h.1
 | _ + 1,_ :: _,[],_,h,_=>by cases h.1
theorem few {L:Nat} {ws:List (List Nat)} (hL:L <= 8) (hn:ws.Nodup) (h:∀ w ∈ ws,eY L w):ws.length <= 16777216:=by
 have h1:=oi (8 ^ L) (ws.map code) (by
  unfold List.Nodup
  rw [List.pairwise_map]
  exact List.Pairwise.imp_of_mem (fun ha hb hne z=>hne (code_inj (h _ ha) (h _ hb) z)) hn) fun x hx=>by
  obtain ⟨w,hw,rfl⟩:=List.mem_map.mp hx
  exact xX (h w hw)
 rw [List.length_map] at h1
 exact Nat.le_trans h1 (Nat.le_trans (Nat.pow_le_pow_right (by decide) hL) (by decide))
abbrev En:=List Nat × Option (List Nat)
structure Bf (s:List Nat) (es:List En) (done:Nat):Prop where
 nd:(es.map (·.1)).Nodup
 hd:es[0]?=some (s,none)
 pr:∀ i w q,es[i]?=some (w,q) -> (i=0 /\ q=none) \/ ∃ j r u,j < i /\ es[j]?=some (u,r) /\ q=some u /\ Mv u w
 co:∀ w ∈ es.map (·.1),Con s w
 cl:∀ i w q,i < done -> es[i]?=some (w,q) -> ∀ w',Mv w w' -> w' ∈ es.map (·.1)
 le:done <= es.length
theorem Bf.start (s:List Nat):Bf s [(s,none)] 0 where
 nd:=by simp
 hd:=rfl
 pr:=fun i w q h=>by
  cases i with
  | zero=>cases h;exact .inl ⟨rfl,rfl⟩
  | succ i=>simp at h
 co:=fun w hw=>by
  have:w=s:=by simpa using hw
  rw [this];exact .refl _
 cl:=fun i w q h=>absurd h (Nat.not_lt_zero _)
 le:=Nat.zero_le _
theorem Bf.more {s:List Nat} {es:List En} {done i:Nat} {u w:List Nat} {r:Option (List Nat)} (b:Bf s es done) (hi:es[i]?=some (u,r)) (hm:Mv u w) (hn:w ∉ es.map (·.1)):Bf s (es ++ [(w,some u)]) done where
 nd:=by
  rw [List.map_append,List.nodup_append]
  refine ⟨b.nd,by simp,fun a ha c hc z=>?_⟩
  have:c=w:=by simpa using hc
  exact hn (by rw [<- this,<- z];exact ha)
 hd:=by rw [List.getElem?_append_left (List.getElem?_eq_some_iff.mp b.hd).1];exact b.hd
 pr:=fun j v q h=>by
  have li:=(List.getElem?_eq_some_iff.mp hi).1
  by_cases c:j < es.length
  ·rw [List.getElem?_append_left c] at h
   rcases b.pr j v q h with z | ⟨k,r',u',hk,e1,e2,e3⟩
   ·exact .inl z
   ·exact .inr ⟨k,r',u',hk,by rw [List.getElem?_append_left (by omega)];exact e1,e2,e3⟩
  ·rw [List.getElem?_append_right (by omega)] at h
   cases hj:j - es.length with
   | zero=>
    rw [hj] at h
    cases h
    exact .inr ⟨i,r,u,by omega,by rw [List.getElem?_append_left li];exact hi,rfl,hm⟩
   | succ k=>rw [hj] at h;simp at h
 co:=fun v hv=>by
  rw [List.map_append] at hv
  rcases List.mem_append.mp hv with z | z
  ·exact b.co v z
  ·have:v=w:=by simpa using z
   rw [this]
   exact (b.co u (List.mem_map.mpr ⟨_,List.mem_of_getElem? hi,rfl⟩)).step hm
 cl:=fun j v q h e v' hv=>by
  have lj:j < es.length:=Nat.lt_of_lt_of_le h b.le
  rw [List.getElem?_append_left lj] at e
  rw [List.map_append]
  exact List.mem_append_left _ (b.cl j v q h e v' hv)
 le:=by rw [List.length_append];exact Nat.le_trans b.le (Nat.le_add_right _ _)
theorem Bf.next {s:List Nat} {es:List En} {done:Nat} {u:List Nat} {r:Option (List Nat)} (b:Bf s es done) (hi:es[done]?=some (u,r)) (h:∀ w',Mv u w' -> w' ∈ es.map (·.1)):Bf s es (done + 1) where
 nd:=b.nd
 hd:=b.hd
 pr:=b.pr
 co:=b.co
 cl:=fun i w q hlt e w' hw=>by
  by_cases c:i < done
  ·exact b.cl i w q c e w' hw
  ·have:i=done:=by omega
   subst this
   rw [hi] at e
   cases e
   exact h w' hw
 le:=(List.getElem?_eq_some_iff.mp hi).1
theorem Bf.goes {s t:List Nat} {es:List En} {done:Nat} (b:Bf s es done) (hc:Con s t) (hn:t ∉ es.map (·.1)):done < es.length:=by
 refine Classical.byContradiction fun z=>hn ?_
 have e:done=es.length:=Nat.le_antisymm b.le (by omega)
 have all:∀ {w},Con s w -> w ∈ es.map (·.1):=by
  intro w h
  induction h with
  | refl=>exact List.mem_map.mpr ⟨_,List.mem_of_getElem? b.hd,rfl⟩
  | step _ m ih=>
   obtain ⟨⟨v,q⟩,hv,rfl⟩:=List.mem_map.mp ih
   obtain ⟨i,hi,ei⟩:=List.getElem_of_mem hv
   exact b.cl i v q (by omega) (by rw [List.getElem?_eq_getElem hi,ei]) _ m
 exact all hc
theorem jo {L:Nat} {s w:List Nat} (hs:eY L s) (h:Con s w):eY L w:=by
 induction h with
 | refl=>exact hs
 | step _ m ih=>
  obtain ⟨h1,h2⟩:=DK m
  exact ⟨h1.trans ih.1,fun k hk=>ih.2 k (h2 k hk)⟩
theorem Bf.few {s:List Nat} {es:List En} {done L:Nat} (b:Bf s es done) (hs:eY L s) (hL:L <= 8):es.length <= 16777216:=by
 have:=Rd.few hL b.nd fun w hw=>jo hs (b.co w hw)
 rwa [List.length_map] at this
theorem Bf.room {s t:List Nat} {es:List En} {done L:Nat} (b:Bf s es done) (hs:eY L s) (hL:L <= 8) (ht:Con s t) (hn:t ∉ es.map (·.1)):es.length < 16777216:=by
 have:=Rd.few (ws:=es.map (·.1) ++ [t]) hL (by
  rw [List.nodup_append]
  refine ⟨b.nd,by simp,fun a ha c hc z=>?_⟩
  have:c=t:=by simpa using hc
  exact hn (by rw [<- this,<- z];exact ha)) fun w hw=>by
  rcases List.mem_append.mp hw with z | z
  ·exact jo hs (b.co w z)
  ·have:w=t:=by simpa using z
   rw [this];exact jo hs ht
 rw [List.length_append,List.length_map] at this
 have:es.length + 1 <= 16777216:=this
 omega
end Rd
namespace K09
open PySem L2 Am
def top (i:Nat):Stmt:=PySem.Challenge.pw_undercells_k09_roads_refused.main.body.getD i (.Pass ⟨0,0,0,0⟩)
abbrev fh:Stmt:=top 11
def iy:List Str:=["thing"]
def gc:Sm:=
 cz (m7 (aT (f2 mG) (aj (ah 0) (aj (eC (.ty "int")) (aI)))) (yW (aT (f2 mG) (aj (ah 0) (aj (eC (.ty "bool")) (aI))))))
def bY:List A -> aA -> R A:=dO iy gc
abbrev cV:Stmt:=top 12
def jF:List Str:=["n"]
def gG:Sm:=
 cz (aT (f1 g8) (aj (aT (f2 kH) (aj (eC (.int 1)) (aj (az aZ (ah 0) (eC (.int 1))) (aI)))) (aI)))
def cX:List A -> aA -> R A:=dO jF gG
abbrev cS:Stmt:=top 13
def fq:List Str:=["n", "thing"]
def dQ:Sm:=
 cz (m7 (eFn bY (aj (ah 1) (aI))) (yE JS sD (eC (.int 1)) (ah 1) (ah 0)))
def bh:List A -> aA -> R A:=dO fq dQ
abbrev bF:Stmt:=top 14
def fW:List Str:=["order", "i", "j", "things"]
def dZ:Sm:=
 bq (bC (aT (f1 iB) (aj (ah 0) (aI))) (cK 3))
 (bq (bC (gh (aj (az dP (ah 3) (az aSub (ah 2) (eC (.int 1)))) (aj (az dP (ah 3) (az aSub (ah 1) (eC (.int 1)))) (aI)))) (C2 2 (rH (zc (ah 3) (az aSub (ah 1) (eC (.int 1)))) (rH (zc (ah 3) (az aSub (ah 2) (eC (.int 1)))) (C3)))))
 (cz (aT (f1 g8) (aj (ah 3) (aI)))))
def bH:List A -> aA -> R A:=dO fW dZ
abbrev eB:Stmt:=top 15
def mj:List Str:=["order", "k"]
def iH:Sm:=
 bq (pJ (qA (pG (eFn bh (aj (aT (f1 dX) (aj (ah 0) (aI))) (aj (ah 1) (aI))))))
 (jW "NoWord" [.inl "no exchange of ",.inr (aT (f1 dX) (aj (ah 0) (aI))),.inl " things"])
 (gU))
 (cz (eFn bH (aj (ah 0) (aj (ah 1) (aj (az aZ (ah 1) (eC (.int 1))) (aI))))))
def eE:List A -> aA -> R A:=dO mj iH
abbrev cU:Stmt:=top 16
def jv:List Str:=["n"]
def gF:Sm:=
 cz (uA [none,none,some 0] (fJ (eC (.int 1)) (ah 0)) (cK 0) (oK) (fJ (az aZ (ah 0) (eC (.int 1))) (az aZ (ah 2) (eC (.int 1)))) (cK 1) (oK) (gh (aj (ah 0) (aj (ah 1) (aI)))))
def cC:List A -> aA -> R A:=dO jv gF
abbrev cT:Stmt:=top 17
def jw:List Str:=["order"]
def gC:Sm:=
 cz (fC [none,none,some 0] (kP (eFn cC (aj (aT (f1 dX) (aj (ah 0) (aI))) (aI)))) (C2 2 (rH (cK 0) (rH (cK 1) (C3)))) (iD (az rG (az dP (ah 2) (az aSub (ah 0) (eC (.int 1)))) (az dP (ah 2) (az aSub (ah 1) (eC (.int 1)))))) (gh (aj (ah 0) (aj (ah 1) (aI)))))
def cY:List A -> aA -> R A:=dO jw gC
abbrev gW:Stmt:=top 18
def tM:List Str:=["order"]
def oE:Sm:=
 cz (aT (f1 dX) (aj (eFn cY (aj (ah 0) (aI))) (aI)))
def fY:List A -> aA -> R A:=dO tM oE
abbrev fQ:Stmt:=top 21
def qe:List Str:=["n", "thing"]
def lA:Sm:=
 bq (pJ (ze (qA (pG (aT (f2 mG) (aj (ah 1) (aj (eC (.ty "list")) (aI)))))) (iD (az rG (aT (f1 dX) (aj (ah 1) (aI))) (eC (.int 200)))))
 (cz (eC (.bl false)))
 (gU))
 (cz (aT (f1 Dj) (aj (fC [none,some 0] (kP (ah 1)) (cK 0) (oK) (eFn bh (aj (ah 1) (aj (ah 0) (aI))))) (aI))))
def fS:List A -> aA -> R A:=dO qe lA
abbrev gR:Stmt:=top 22
def oq:List Str:=["n", "word", "order", "k"]
def nK:Ic:=
 kP (ah 1)
def oV:Sm:=
 bC (As eE (aj (ah 2) (aj (ah 3) (aI)))) (cK 2)
def j8:Sm:=
 bq (pJ (qA (pG (eFn fS (aj (ah 0) (aj (ah 1) (aI))))))
 (jW "NoWord" [.inl "no word of ",.inr (ah 0)])
 (gU))
 (bq (bC (eFn cX (aj (ah 0) (aI))) (cK 2))
 (bq (kD (nK) (cK 3)
 (oV))
 (cz (ah 2))))
def eG:List A -> aA -> R A:=dO oq j8
abbrev eF:Stmt:=top 26
def iX:List Str:=["n", "word"]
def gp:Sm:=
 cz (IX (az rG (ah 0) (eC (.int 9))) (az rG (aT (f1 dX) (aj (ah 1) (aI))) (eC (.int 8))))
def cL:List A -> aA -> R A:=dO iX gp
abbrev bS:Stmt:=top 27
def gK:List Str:=["word"]
def e_:Sm:=
 cz (fC [none,some 0] (gZ (az aSub (aT (f1 dX) (aj (ah 0) (aI))) (eC (.int 1)))) (cK 0) (iD (az rG (aT (f1 uM) (aj (az aSub (az dP (ah 1) (ah 0)) (az dP (ah 1) (az aZ (ah 0) (eC (.int 1))))) (aI))) (eC (.int 1)))) (az aZ (az aZ (qS (ah 1) eL (eO (ah 0))) (gh (aj (az dP (ah 1) (az aZ (ah 0) (eC (.int 1)))) (aj (az dP (ah 1) (ah 0)) (aI))))) (qS (ah 1) (eO (az aZ (ah 0) (eC (.int 2)))) eL)))
def bR:List A -> aA -> R A:=dO gK e_
abbrev cg:Stmt:=top 28
def iC:List Str:=["word"]
def fG:Sm:=
 cz (fC [none,some 0] (gZ (az aSub (aT (f1 dX) (aj (ah 0) (aI))) (eC (.int 2)))) (cK 0) (Bq (iD (az (kI false) (az dP (ah 1) (ah 0)) (az dP (ah 1) (az aZ (ah 0) (eC (.int 2)))))) (iD (az (kI false) (aT (f1 uM) (aj (az aSub (az dP (ah 1) (ah 0)) (az dP (ah 1) (az aZ (ah 0) (eC (.int 1))))) (aI))) (eC (.int 1))))) (az aZ (az aZ (qS (ah 1) eL (eO (ah 0))) (gh (aj (az dP (ah 1) (az aZ (ah 0) (eC (.int 1)))) (aj (az dP (ah 1) (ah 0)) (aj (az dP (ah 1) (az aZ (ah 0) (eC (.int 1)))) (aI)))))) (qS (ah 1) (eO (az aZ (ah 0) (eC (.int 3)))) eL)))
def cj:List A -> aA -> R A:=dO iC fG
abbrev gT:Stmt:=top 29
def r_:List Str:=["ahead", "last", "told"]
def jI:Te:=
 iD (az (AH true) (ah 1) (eC .non))
def jM:Sm:=
 bq (qt (Gw jm (ah 2) (aj (aT (f1 iB) (aj (ah 1) (aI))) (aI))))
 (bC (az Eo (ah 0) (ah 1)) (cK 1))
def nP:Sm:=
 bq (bC (fM (aI)) (cK 2))
 (bq (dU (jI)
 (jM) 100000000)
 (cz (F0 yV (ah 2))))
def gb:List A -> aA -> R A:=dO r_ nP
abbrev dJ:Stmt:=top 30
def j6:List Str:=["one", "other", "start", "end", "ahead", "waiting", "at", "here", "word"]
def eU:Ic:=
 kP (az aZ (eFn bR (aj (ah 7) (aI))) (eFn cj (aj (ah 7) (aI))))
def fZ:Sm:=
 pJ (iD (az (C7 true) (ah 8) (ah 4)))
 (bq (bC (ah 7) (GO (ah 4) (ah 8)))
 (qt (Gw jm (ah 5) (aj (ah 8) (aI)))))
 (gU)
def fX:Te:=
 iD (az (C7 true) (ah 3) (ah 4))
def f_:Sm:=
 bq (bC (az dP (ah 5) (ah 6)) (cK 7))
 (bq (kD (eU) (cK 8)
 (fZ))
 (z_ 6 Gj (eC (.int 1))))
def g_:Sm:=
 bq (bC (aT (f1 g8) (aj (ah 0) (aI))) (cK 2))
 (bq (bC (aT (f1 g8) (aj (ah 1) (aI))) (cK 3))
 (bq (bC (CA (ah 2) (eC .non)) (cK 4))
 (bq (bC (fM (aj (ah 2) (aI))) (cK 5))
 (bq (bC (eC (.int 0)) (cK 6))
 (bq (dU (fX)
 (f_) 100000000)
 (cz (eFn gb (aj (ah 4) (aj (ah 3) (aI))))))))))
def dF:List A -> aA -> R A:=dO j6 g_
abbrev kL:Stmt:=top 31
def lG:List Str:=["n", "one", "other", "order"]
def jO:Sm:=
 bq (bC (As eG (aj (ah 0) (aj (ah 1) (aI)))) (cK 3))
 (bq (pJ (ze (iD (az (kI true) (As eG (aj (ah 0) (aj (ah 2) (aI)))) (ah 3))) (ze (iD (az (kI true) (aT (f1 dX) (aj (ah 1) (aI))) (eFn fY (aj (ah 3) (aI))))) (iD (az (kI true) (aT (f1 dX) (aj (ah 2) (aI))) (eFn fY (aj (ah 3) (aI)))))))
 (jW "NoPair" [])
 (gU))
 (bq (pJ (pG (eFn cL (aj (ah 0) (aj (ah 1) (aI)))))
 (jW "TooMany" [])
 (gU))
 (cz (eFn dF (aj (ah 1) (aj (ah 2) (aI)))))))
def c_:List A -> aA -> R A:=dO lG jO
abbrev fV:Stmt:=top 33
def pR:List Str:=["_law_script", "_law_k", "_law_cell", "_law_state"]
def lJ:Sm:=
 bq (bC (eC (.int 0)) (cK 2))
 (bq (pJ (iD (az sD (ah 1) (aT (f1 dX) (aj (ah 0) (aI)))))
 (bC (aT (f1 uM) (aj (az dP (ah 0) (ah 1)) (aI))) (cK 2))
 (gU))
 (bq (bC (az aZ (eC (.int 1)) (az mK (az aZ (az aZ (az aZ (az mK (ah 2) (eC (.int 2147483647))) (az iO (az iO (eC (.int 7919)) (ah 1)) (ah 1))) (az iO (eC (.int 17)) (ah 1))) (eC (.int 3))) (eC (.int 2147483646)))) (cK 3))
 (cz (fM (aj (az iO (ah 2) (aT (f1 pX) (aj (az J9 (ah 2) (az Dm (eC (.int 10)) (eC (.int 18)))) (aI)))) (aj (ah 3) (aI)))))))
def fR:List A -> aA -> R A:=dO pR lJ
abbrev d9:Stmt:=top 34
def iW:List Str:=["_law_bag_here", "_law_many", "_law_found"]
def gm:Sm:=
 bq (pJ (iD (az rG (az dP (ah 0) (eC (.int 0))) (eC (.int 0))))
 (bq (bC (az mK (az dP (ah 0) (eC (.int 0))) (ah 1)) (cK 2))
 (bq (bC (az tF (az dP (ah 0) (eC (.int 0))) (ah 1)) (zc (ah 0) (eC (.int 0))))
 (cz (ah 2))))
 (gU))
 (bq (bC (az mK (az iO (az dP (ah 0) (eC (.int 1))) (eC (.int 48271))) (eC (.int 2147483647))) (zc (ah 0) (eC (.int 1))))
 (cz (az mK (az tF (az mK (az iO (az dP (ah 0) (eC (.int 1))) (az aZ (az tF (az dP (ah 0) (eC (.int 1))) (eC (.int 65536))) (eC (.int 9)))) (eC (.int 2147483629))) (eC (.int 32))) (ah 1))))
def aU:List A -> aA -> R A:=dO iW gm
abbrev fT:Stmt:=top 35
def qk:List Str:=["_law_n", "_law_word", "_law_found", "_law_k"]
def lV:Ic:=
 kP (ah 1)
def mw:Sm:=
 bC (gh (aj (az dP (ah 2) (ah 3)) (aj (az dP (ah 2) (az aSub (ah 3) (eC (.int 1)))) (aI)))) (C2 2 (rH (zc (ah 2) (az aSub (ah 3) (eC (.int 1)))) (rH (zc (ah 2) (ah 3)) (C3))))
def ly:Sm:=
 bq (bC (aT (f1 iB) (aj (aT (f2 kH) (aj (eC (.int 1)) (aj (az aZ (ah 0) (eC (.int 1))) (aI)))) (aI))) (cK 2))
 (bq (kD (lV) (cK 3)
 (mw))
 (cz (aT (f1 g8) (aj (ah 2) (aI)))))
def cR:List A -> aA -> R A:=dO qk ly
abbrev eo:Stmt:=top 36
def lR:List Str:=["_law_bag_here", "_law_n", "_law_most", "_law_left", "_law_word", "_law_turn", "_law_some", "_law_k"]
def jC:Ic:=
 gZ (eFn aU (aj (ah 0) (aj (az aZ (ah 2) (eC (.int 1))) (aI))))
def jz:Sm:=
 bq (bC (fC [none,some 3] (fJ (eC (.int 1)) (ah 1)) (cK 0) (iD (az sD (az dP (ah 1) (az aSub (ah 0) (eC (.int 1)))) (az dP (ah 1) (ah 0)))) (ah 0)) (cK 6))
 (pJ (iD (az rG (aT (f1 dX) (aj (ah 6) (aI))) (eC (.int 0))))
 (bq (bC (az dP (ah 6) (eFn aU (aj (ah 0) (aj (aT (f1 dX) (aj (ah 6) (aI))) (aI))))) (cK 7))
 (bq (bC (gh (aj (az dP (ah 3) (ah 7)) (aj (az dP (ah 3) (az aSub (ah 7) (eC (.int 1)))) (aI)))) (C2 2 (rH (zc (ah 3) (az aSub (ah 7) (eC (.int 1)))) (rH (zc (ah 3) (ah 7)) (C3)))))
 (qt (Gw jm (ah 4) (aj (ah 7) (aI))))))
 (gU))
def iJ:Sm:=
 bq (bC (aT (f1 iB) (aj (aT (f2 kH) (aj (eC (.int 1)) (aj (az aZ (ah 1) (eC (.int 1))) (aI)))) (aI))) (cK 3))
 (bq (bC (fM (aI)) (cK 4))
 (bq (kD (jC) (cK 5)
 (jz))
 (cz (ah 4))))
def ez:List A -> aA -> R A:=dO lR iJ
abbrev d7:Stmt:=top 37
def mh:List Str:=["_law_bag_here", "_law_n", "_law_word", "_law_left", "_law_found", "_law_turn", "_law_some", "_law_k"]
def jA:Ic:=
 gZ (aT (f1 dX) (aj (ah 2) (aI)))
def jG:Sm:=
 bq (bC (fC [none,some 3] (fJ (eC (.int 1)) (ah 1)) (cK 0) (iD (az rG (az dP (ah 1) (az aSub (ah 0) (eC (.int 1)))) (az dP (ah 1) (ah 0)))) (ah 0)) (cK 6))
 (bq (bC (az dP (ah 6) (eFn aU (aj (ah 0) (aj (aT (f1 dX) (aj (ah 6) (aI))) (aI))))) (cK 7))
 (bq (bC (gh (aj (az dP (ah 3) (ah 7)) (aj (az dP (ah 3) (az aSub (ah 7) (eC (.int 1)))) (aI)))) (C2 2 (rH (zc (ah 3) (az aSub (ah 7) (eC (.int 1)))) (rH (zc (ah 3) (ah 7)) (C3)))))
 (bC (az aZ (fM (aj (ah 7) (aI))) (ah 4)) (cK 4))))
def iY:Sm:=
 bq (bC (aT (f1 iB) (aj (eFn cR (aj (ah 1) (aj (ah 2) (aI)))) (aI))) (cK 3))
 (bq (bC (fM (aI)) (cK 4))
 (bq (kD (jA) (cK 5)
 (jG))
 (cz (ah 4))))
def d8:List A -> aA -> R A:=dO mh iY
abbrev eg:Stmt:=top 38
def mz:List Str:=["_law_order", "_law_n", "_law_found", "_law_i"]
def jx:Ic:=
 gZ (ah 1)
def jy:Sm:=
 qt (Gw rq (ah 2) (aj (fC [none,some 3,some 0] (fJ (az aZ (ah 3) (eC (.int 1))) (ah 1)) (cK 0) (iD (az rG (az dP (ah 2) (ah 1)) (az dP (ah 2) (ah 0)))) (gh (aj (az aZ (ah 1) (eC (.int 1))) (aj (az aZ (ah 0) (eC (.int 1))) (aI))))) (aI)))
def iU:Sm:=
 bq (bC (aT (f1 dX) (aj (ah 0) (aI))) (cK 1))
 (bq (bC (fM (aI)) (cK 2))
 (bq (kD (jx) (cK 3)
 (jy))
 (cz (ah 2))))
def d_:List A -> aA -> R A:=dO mz iU
abbrev fm:Stmt:=top 39
def nR:List Str:=["_law_n", "_law_one", "_law_other_here", "_law_here", "_law_there", "_law_found", "e", "_law_some"]
def jH:Sm:=
 bq (bC (aT (f1 iB) (aj (ah 1) (aI))) (cK 3))
 (bq (bC (aT (f1 iB) (aj (ah 2) (aI))) (cK 4))
 (bq (pZ 6 ["NoWord", "NoPair", "TooMany"] (bC (Cp c_ (aj (ah 0) (aj (ah 3) (aj (ah 4) (aI))))) (cK 5))
 (bq (bC (fM (aj (lO (se [("NoWord",true),("NoPair",false),("TooMany",false)]) (ah 6)) (aj (lO (se [("NoWord",false),("NoPair",true),("TooMany",false)]) (ah 6)) (aj (lO (se [("NoWord",false),("NoPair",false),("TooMany",true)]) (ah 6)) (aj (lO (se [("NoWord",false),("NoPair",false),("TooMany",false)]) (ah 6)) (aI)))))) (cK 7))
 (bq (bC (az aZ (ah 7) (fM (aj (lO (se [("NoWord",false),("NoPair",false),("TooMany",false)]) (ah 6)) (aj (lO (se [("NoWord",false),("NoPair",false),("TooMany",false)]) (ah 6)) (aj (lO (se [("NoWord",false),("NoPair",false),("TooMany",false)]) (ah 6)) (aj (lO (se [("NoWord",false),("NoPair",false),("TooMany",false)]) (ah 6)) (aI))))))) (cK 7))
 (bq (pJ (ze (qA (pG (lO (se [("NoWord",true),("NoPair",true),("TooMany",true)]) (ah 6)))) (ze (iD (az (kI true) (Gw nu (ah 7) (aj (eC (.bl true)) (aI))) (eC (.int 1)))) (iD (az (IE true) (eC (.bl true)) (qS (ah 7) eL (eO (eC (.int 3))))))))
 (cz (eC .non))
 (gU))
 (bq (pJ (iD (az (kI true) (fM (aj (ah 3) (aj (ah 4) (aI)))) (fM (aj (ah 1) (aj (ah 2) (aI))))))
 (cz (eC .non))
 (gU))
 (cz (az dP (fM (aj (eC (.str (PySem.Str.ofString "word"))) (aj (eC (.str (PySem.Str.ofString "pair"))) (aj (eC (.str (PySem.Str.ofString "many"))) (aI))))) (Dv (ah 7) (aj (eC (.bl true)) (aI))))))))))
 (bq (pJ (ze (qA (pG (aT (f2 mG) (aj (ah 5) (aj (eC (.ty "list")) (aI)))))) (iD (az (kI true) (fM (aj (ah 3) (aj (ah 4) (aI)))) (fM (aj (ah 1) (aj (ah 2) (aI)))))))
 (cz (eC .non))
 (gU))
 (cz (eC (.str (PySem.Str.ofString "")))))))
def bO:List A -> aA -> R A:=dO nR jH
abbrev cQ:Stmt:=top 40
def jD:List Str:=["_law_n", "_law_word"]
def gA:Sm:=
 cz (aT (f1 Dj) (aj (fC [none,some 0] (kP (ah 1)) (cK 0) (oK) (m7 (aT (f2 mG) (aj (ah 0) (aj (eC (.ty "int")) (aI)))) (m7 (yW (aT (f2 mG) (aj (ah 0) (aj (eC (.ty "bool")) (aI))))) (yE sD sD (eC (.int 0)) (ah 0) (ah 1))))) (aI)))
def cG:List A -> aA -> R A:=dO jD gA
abbrev fP:Stmt:=top 41
def je:List Str:=["_law_n", "_law_one", "_law_other_here", "_law_order"]
def gI:Sm:=
 bq (pJ (ze (qA (pG (eFn cG (aj (ah 0) (aj (ah 1) (aI)))))) (qA (pG (eFn cG (aj (ah 0) (aj (ah 2) (aI)))))))
 (cz (eC (.str (PySem.Str.ofString "word"))))
 (gU))
 (bq (bC (eFn cR (aj (ah 0) (aj (ah 1) (aI)))) (cK 3))
 (bq (pJ (ze (iD (az (kI true) (ah 3) (eFn cR (aj (ah 0) (aj (ah 2) (aI)))))) (ze (iD (az (kI true) (aT (f1 dX) (aj (ah 1) (aI))) (aT (f1 dX) (aj (ah 2) (aI))))) (iD (az (kI true) (aT (f1 dX) (aj (eFn d_ (aj (ah 3) (aI))) (aI))) (aT (f1 dX) (aj (ah 1) (aI)))))))
 (cz (eC (.str (PySem.Str.ofString "pair"))))
 (gU))
 (cz (az dP (fM (aj (eC (.str (PySem.Str.ofString ""))) (aj (eC (.str (PySem.Str.ofString "many"))) (aI)))) (aT (f1 pX) (aj (IX (az rG (aT (f1 dX) (aj (ah 1) (aI))) (eC (.int 8))) (az rG (ah 0) (eC (.int 9)))) (aI)))))))
def bQ:List A -> aA -> R A:=dO je gI
abbrev cW:Stmt:=top 42
def jE:List Str:=["_law_bag_here", "_law_n", "_law_word", "_law_at", "_law_k", "_law_way"]
def gB:Sm:=
 bq (bC (eFn aU (aj (ah 0) (aj (az aZ (aT (f1 dX) (aj (ah 2) (aI))) (eC (.int 1))) (aI)))) (cK 3))
 (bq (bC (az aZ (eC (.int 1)) (eFn aU (aj (ah 0) (aj (az aSub (ah 1) (eC (.int 1))) (aI))))) (cK 4))
 (bq (bC (eFn aU (aj (ah 0) (aj (eC (.int 5)) (aI)))) (cK 5))
 (bq (pJ (iD (az sD (ah 5) (eC (.int 2))))
 (cz (az aZ (az aZ (qS (ah 2) eL (eO (ah 3))) (fM (aj (ah 4) (aj (ah 4) (aI))))) (qS (ah 2) (eO (ah 3)) eL)))
 (gU))
 (bq (pJ (iD (az (kI false) (ah 5) (eC (.int 2))))
 (cz (az aZ (az aZ (qS (ah 2) eL (eO (ah 3))) (fM (aj (ah 4) (aI)))) (qS (ah 2) (eO (ah 3)) eL)))
 (gU))
 (bq (pJ (iD (az (kI false) (ah 5) (eC (.int 3))))
 (cz (az aZ (qS (ah 2) eL (eO (ah 3))) (qS (ah 2) (eO (az aZ (ah 3) (eC (.int 1)))) eL)))
 (gU))
 (cz (az aZ (az aZ (qS (ah 2) eL (eO (ah 3))) (fM (aj (az dP (fM (aj (eC (.int 0)) (aj (ah 1) (aj (eC (.bl true)) (aj (eC .non) (aj (eC (.str (PySem.Str.ofString "1"))) (aj (F0 DJ (eC (.int 1))) (aj (az aZ (ah 1) (eC (.int 1))) (aI))))))))) (eFn aU (aj (ah 0) (aj (eC (.int 7)) (aI))))) (aI)))) (qS (ah 2) (eO (ah 3)) eL))))))))
def cD:List A -> aA -> R A:=dO jE gB
abbrev kc:Stmt:=top 43
def Fp:List Str:=["_law_script", "_law_k", "_law_bag_here", "_law_n", "_law_one", "_law_other_here", "_law_third", "_law_fourth", "_law_first", "_law_second"]
def wB:Ic:=
 kP (fM (aj (gh (aj (ah 4) (aj (ah 5) (aI)))) (aj (gh (aj (ah 4) (aj (ah 6) (aI)))) (aj (gh (aj (ah 7) (aj (ah 5) (aI)))) (aj (gh (aj (ah 6) (aj (ah 7) (aI)))) (aI))))))
def xr:Sm:=
 pJ (iD (az (kI true) (eFn bO (aj (ah 3) (aj (ah 8) (aj (ah 9) (aI))))) (eFn bQ (aj (ah 3) (aj (ah 8) (aj (ah 9) (aI)))))))
 (cz (eC (.bl false)))
 (gU)
def xE:Ic:=
 gZ (aT (f2 Bk) (aj (eC (.int 1)) (aj (aT (f2 Bj) (aj (eC (.int 4)) (aj (aT (f1 dX) (aj (ah 0) (aI))) (aI)))) (aI))))
def vY:Sm:=
 bq (bC (eFn fR (aj (ah 0) (aj (ah 1) (aI)))) (cK 2))
 (bq (bC (az aZ (eC (.int 2)) (eFn aU (aj (ah 2) (aj (az dP (fM (aj (eC (.int 4)) (aj (eC (.int 19)) (aI)))) (eFn aU (aj (ah 2) (aj (eC (.int 2)) (aI))))) (aI))))) (cK 3))
 (bq (bC (eFn ez (aj (ah 2) (aj (ah 3) (aj (eC (.int 10)) (aI))))) (cK 4))
 (bq (bC (eFn d8 (aj (ah 2) (aj (ah 3) (aj (ah 4) (aI))))) (cK 5))
 (bq (bC (eFn cD (aj (ah 2) (aj (ah 3) (aj (ah 4) (aI))))) (cK 6))
 (bq (bC (eFn cD (aj (ah 2) (aj (ah 3) (aj (ah 5) (aI))))) (cK 7))
 (kD (wB) (C2 2 (rH (cK 8) (rH (cK 9) (C3))))
 (xr)))))))
def Ba:Sm:=
 bq (kD (xE) (cK 1)
 (vY))
 (cz (eC (.bl true)))
def pL:List A -> aA -> R A:=dO Fp Ba
section
variable {P:Program} {w:World} {K:PySem.W.Frag} {mg:Str -> Option Value} {base:Heap}
theorem t6:FnScope ["thing"] ["thing"] (aC fh):=⟨rfl,rfl,rfl,by decide +kernel,rfl,by decide +kernel,by decide +kernel⟩
theorem rW {f:Addr} {fd:FuncData} (F:Fun K "is_whole" "is_whole" fh f fd) (b_isinstance:mg "isinstance" = none) (b_bool:mg "bool" = none) (b_int:mg "int" = none):FnOk P w K mg base jh 1 f fd ["thing"] (jY K 1 bY):=mX (m:=gc) F t6 fun cdv B outer s H E hr=>
 aL (bf (qF (aR pM b_isinstance cF (af (aa 0) (af (pY b_int qK) (aq)))) (nX (BX (aR pM b_isinstance cF (af (aa 0) (af (pY b_bool wo) (aq))))))))
theorem oJ:FnScope ["n"] ["n"] (aC cV):=⟨rfl,rfl,rfl,by decide +kernel,rfl,by decide +kernel,by decide +kernel⟩
theorem n_ {f:Addr} {fd:FuncData} (F:Fun K "plain_order" "plain_order" cV f fd) (b_tuple:mg "tuple" = none) (b_range:mg "range" = none):FnOk P w K mg base jh 1 f fd ["n"] (jY K 1 cX):=mX (m:=gG) F oJ fun cdv B outer s H E hr=>
 aL (bf (bK (kE rfl) b_tuple iI (af (bK m9 b_range ow (af (aG) (af (aJ bu (aa 0) (aG)) (aq)))) (aq))))
theorem nY:FnScope ["n", "thing"] ["n", "thing"] (aC cS):=⟨rfl,rfl,rfl,by decide +kernel,rfl,by decide +kernel,by decide +kernel⟩
theorem oO {f:Addr} {fd:FuncData} (F:Fun K "is_exchange" "is_exchange" cS f fd) (G_is_whole:fE P w K mg base 1 "is_whole" ["thing"] bY):FnOk P w K mg base jh 2 f fd ["n", "thing"] (jY K 2 bh):=mX (m:=dQ) F nY fun cdv B outer s H E hr=>
 aL (bf (qF (bE G_is_whole (hr.mono (by decide)) (af (aa 1) (aq)) (au aS)) (nX (ER KY (yi hr.units) (aG) (aa 1) (aa 0)))))
theorem fH:FnScope ["order", "i", "j", "things"] ["order", "i", "j"] (aC bF):=⟨rfl,rfl,rfl,by decide +kernel,rfl,by decide +kernel,by decide +kernel⟩
theorem ju {f:Addr} {fd:FuncData} (F:Fun K "exchanged_places" "exchanged_places" bF f fd) (b_list:mg "list" = none) (b_tuple:mg "tuple" = none):FnOk P w K mg base jh 1 f fd ["order", "i", "j"] (jY K 3 bH):=mX (m:=dZ) F fH fun cdv B outer s H E hr=>
 aE (aX (i:=3) fH.nd (bK (jJ rfl) b_list fN (af (aa 0) (aq))))
 (aE (jV (ff (af (bz (aa 3) (aJ eK (aa 2) (aG))) (af (bz (aa 3) (aJ eK (aa 1) (aG))) (aq)))) (lz rfl (cP (gy (aa 3) (aJ eK (aa 1) (aG))) (cP (gy (aa 3) (aJ eK (aa 2) (aG))) (ji)))))
 (aL (bf (bK (kE rfl) b_tuple iI (af (aa 3) (aq))))))
theorem qM:FnScope ["order", "k"] ["order", "k"] (aC eB):=⟨rfl,rfl,rfl,by decide +kernel,rfl,by decide +kernel,by decide +kernel⟩
theorem rj {f:Addr} {fd:FuncData} (F:Fun K "exchanged" "exchanged" eB f fd) {U:Addr} {C_NoWord:Addr} (e_NoWord:ExcK K U "NoWord" C_NoWord) (b_len:mg "len" = none) (G_is_exchange:fE P w K mg base 2 "is_exchange" ["n", "thing"] bh) (G_exchanged_places:fE P w K mg base 1 "exchanged_places" ["order", "i", "j"] bH):FnOk P w K mg base (yu P w) 3 f fd ["order", "k"] (Iu K 2 eE):=fnX (m:=iH) F qM fun cdv B outer s H E hr=>
 aE (eX (jT (iN (bE G_is_exchange (hr.mono (by decide)) (af (aR dw b_len bV (af (aa 0) (aq))) (af (aa 1) (aq))) (au (au aS)))))
 (aL (qo (ps:=[.inl "no exchange of ",.inr (aT (f1 dX) (aj (ah 0) (aI))),.inl " things"]) e_NoWord.n e_NoWord.q hr.hd (.txt (.val (aR dw b_len bV (af (aa 0) (aq))) (.txt .nil)))))
 (bZ))
 (aL (bf (bE G_exchanged_places (hr.mono (by decide)) (af (aa 0) (af (aa 1) (af (aJ bu (aa 1) (aG)) (aq)))) (au (au (au aS))))))
theorem om:FnScope ["n"] ["n"] (aC cU):=⟨rfl,rfl,rfl,by decide +kernel,rfl,by decide +kernel,by decide +kernel⟩
theorem nH {f:Addr} {fd:FuncData} (F:Fun K "place_pairs" "place_pairs" cU f fd) (b_range:mg "range" = none):FnOk P w K mg base jh 1 f fd ["n"] (jY K 1 cC):=mX (m:=gF) F om fun cdv B outer s H E hr=>
 aL (bf (zo (N:=["i", "j", "n"]) (cap:=[none,none,some 0]) rfl (kh ["n"] rfl (by decide +kernel) (by decide +kernel) (by decide +kernel) (by decide +kernel) (by decide +kernel) (List.forall_mem_cons.mpr ⟨by first | exact Or.inl rfl | exact Or.inr rfl,(fun _ h=>nomatch h)⟩) ⟨rfl,by decide +kernel,trivial⟩) (gO b_range (aG) (aa 0)) (fun _ _ _ _=>bN (i:=0) (show (["i", "j", "n"]:List Str).Nodup by decide +kernel) rfl (Or.inl rfl) (.inr rfl)) (fun _ _ _ _=>mW) (fun _ _ _ _=>gO b_range (aJ bu (aa 0) (aG)) (aJ bu (aa 2) (aG))) (fun _ _ _ _=>bN (i:=1) (show (["i", "j", "n"]:List Str).Nodup by decide +kernel) rfl (Or.inl rfl) (.inr rfl)) (fun _ _ _ _=>mW) (fun _ _ _ _=>ff (af (aa 0) (af (aa 1) (aq))))))
theorem oU:FnScope ["order"] ["order"] (aC cT):=⟨rfl,rfl,rfl,by decide +kernel,rfl,by decide +kernel,by decide +kernel⟩
theorem nZ {f:Addr} {fd:FuncData} (F:Fun K "wrong_pairs" "wrong_pairs" cT f fd) (b_len:mg "len" = none) (G_place_pairs:fE P w K mg base 1 "place_pairs" ["n"] cC):FnOk P w K mg base jh 2 f fd ["order"] (jY K 1 cY):=mX (m:=gC) F oU fun cdv B outer s H E hr=>
 aL (bf (i_ (N:=["i", "j", "order"]) (cap:=[none,none,some 0]) rfl (kh ["order"] rfl (by decide +kernel) (by decide +kernel) (by decide +kernel) (by decide +kernel) (by decide +kernel) (List.forall_mem_cons.mpr ⟨by first | exact Or.inl rfl | exact Or.inr rfl,(fun _ h=>nomatch h)⟩) ⟨rfl,by decide +kernel,trivial⟩) (jU (bE G_place_pairs (hr.mono (by decide)) (af (aR dw b_len bV (af (aa 0) (aq))) (aq)) (au aS))) (fun _ _ _ _=>lz rfl (cP (bN (i:=0) (show (["i", "j", "order"]:List Str).Nodup by decide +kernel) rfl (Or.inl rfl) (.inr rfl)) (cP (bN (i:=1) (show (["i", "j", "order"]:List Str).Nodup by decide +kernel) rfl (Or.inl rfl) (.inr rfl)) (ji)))) (fun _ _ _ _=>jj (bB (ni hr.units) (bz (aa 2) (aJ eK (aa 0) (aG))) (bz (aa 2) (aJ eK (aa 1) (aG))))) (fun _ _ _ _=>ff (af (aa 0) (af (aa 1) (aq))))))
theorem yN:FnScope ["order"] ["order"] (aC gW):=⟨rfl,rfl,rfl,by decide +kernel,rfl,by decide +kernel,by decide +kernel⟩
theorem yy {f:Addr} {fd:FuncData} (F:Fun K "length" "length" gW f fd) (b_len:mg "len" = none) (G_wrong_pairs:fE P w K mg base 2 "wrong_pairs" ["order"] cY):FnOk P w K mg base jh 3 f fd ["order"] (jY K 1 fY):=mX (m:=oE) F yN fun cdv B outer s H E hr=>
 aL (bf (aR dw b_len bV (af (bE G_wrong_pairs (hr.mono (by decide)) (af (aa 0) (aq)) (au aS)) (aq))))
theorem uY:FnScope ["n", "thing"] ["n", "thing"] (aC fQ):=⟨rfl,rfl,rfl,by decide +kernel,rfl,by decide +kernel,by decide +kernel⟩
theorem uK {f:Addr} {fd:FuncData} (F:Fun K "is_word" "is_word" fQ f fd) (b_len:mg "len" = none) (b_isinstance:mg "isinstance" = none) (b_list:mg "list" = none) (b_all:mg "all" = none) (g_MOST_NUMBERS_words:∃ t,mg "MOST_NUMBERS_words" = some (.int 200 t)) (G_is_exchange:fE P w K mg base 2 "is_exchange" ["n", "thing"] bh):FnOk P w K mg base jh 3 f fd ["n", "thing"] (jY K 2 fS):=mX (m:=lA) F uY fun cdv B outer s H E hr=>
 aE (eX (AW.at (ko (jT (iN (aR pM b_isinstance cF (af (aa 1) (af (pY b_list fN) (aq)))))) (k_ (bB (ni hr.units) (aR dw b_len bV (af (aa 1) (aq))) (nT g_MOST_NUMBERS_words.choose_spec)))))
 (aL (bf (nW)))
 (bZ))
 (aL (bf (aR (EK rfl) b_all zF (af (i_ (N:=["part", "n"]) (cap:=[none,some 0]) rfl (kh ["n"] rfl (by decide +kernel) (by decide +kernel) (by decide +kernel) (by decide +kernel) (by decide +kernel) (List.forall_mem_cons.mpr ⟨by first | exact Or.inl rfl | exact Or.inr rfl,(fun _ h=>nomatch h)⟩) ⟨rfl,by decide +kernel,trivial⟩) (jU (aa 1)) (fun _ _ _ _=>bN (i:=0) (show (["part", "n"]:List Str).Nodup by decide +kernel) rfl (Or.inl rfl) (.inr rfl)) (fun _ _ _ _=>mW) (fun _ _ _ _=>bE G_is_exchange (hr.mono (by decide)) (af (aa 1) (af (aa 0) (aq))) (au (au aS)))) (aq)))))
theorem jd:FnScope ["n", "word", "order", "k"] ["n", "word"] (aC gR):=⟨rfl,rfl,rfl,by decide +kernel,rfl,by decide +kernel,by decide +kernel⟩
theorem yS {f:Addr} {fd:FuncData} (F:Fun K "led_by" "led_by" gR f fd) {U:Addr} {C_NoWord:Addr} (e_NoWord:ExcK K U "NoWord" C_NoWord) (G_is_word:fE P w K mg base 3 "is_word" ["n", "thing"] fS) (G_plain_order:fE P w K mg base 1 "plain_order" ["n"] cX) (G_exchanged:E5 P w K mg base 3 "exchanged" ["order", "k"] eE):FnOk P w K mg base (yu P w) 4 f fd ["n", "word"] (Iu K 2 eG):=fnX (m:=j8) F jd fun cdv B outer s H E hr=>
 aE (eX (jT (iN (bE G_is_word (hr.mono (by decide)) (af (aa 0) (af (aa 1) (aq))) (au (au aS)))))
 (aL (qo (ps:=[.inl "no word of ",.inr (ah 0)]) e_NoWord.n e_NoWord.q hr.hd (.txt (.val (aa 0) .nil))))
 (bZ))
 (aE (aX (i:=2) jd.nd (bE G_plain_order (hr.mono (by decide)) (af (aa 0) (aq)) (au aS)))
 (aE (iM PassesOwn.leaving rfl (jU (aa 1)) (bN (i:=3) jd.nd)
 (aL (aX (i:=2) jd.nd (uL G_exchanged (hr.mono (by decide)) (af (aa 2) (af (aa 3) (aq))) (au (au aS))))))
 (aL (bf (aa 2)))))
theorem qI:FnScope ["n", "word"] ["n", "word"] (aC eF):=⟨rfl,rfl,rfl,by decide +kernel,rfl,by decide +kernel,by decide +kernel⟩
theorem qy {f:Addr} {fd:FuncData} (F:Fun K "is_beyond" "is_beyond" eF f fd) (b_len:mg "len" = none) (g_MOST_NUMBERS_roads:∃ t,mg "MOST_NUMBERS_roads" = some (.int 8 t)) (g_MOST_THINGS:∃ t,mg "MOST_THINGS" = some (.int 9 t)):FnOk P w K mg base jh 1 f fd ["n", "word"] (jY K 2 cL):=mX (m:=gp) F qI fun cdv B outer s H E hr=>
 aL (bf (EU (nF (ni hr.units) (aa 0) (nT g_MOST_THINGS.choose_spec)) (nX (nF (ni hr.units) (aR dw b_len bV (af (aa 1) (aq))) (nT g_MOST_NUMBERS_roads.choose_spec)))))
theorem kr:FnScope ["word"] ["word"] (aC bS):=⟨rfl,rfl,rfl,by decide +kernel,rfl,by decide +kernel,by decide +kernel⟩
theorem kj {f:Addr} {fd:FuncData} (F:Fun K "changed_places" "changed_places" bS f fd) (b_range:mg "range" = none) (b_len:mg "len" = none) (b_abs:mg "abs" = none):FnOk P w K mg base jh 1 f fd ["word"] (jY K 1 bR):=mX (m:=e_) F kr fun cdv B outer s H E hr=>
 aL (bf (i_ (N:=["at", "word"]) (cap:=[none,some 0]) rfl (kh ["word"] rfl (by decide +kernel) (by decide +kernel) (by decide +kernel) (by decide +kernel) (by decide +kernel) (List.forall_mem_cons.mpr ⟨by first | exact Or.inl rfl | exact Or.inr rfl,(fun _ h=>nomatch h)⟩) ⟨rfl,by decide +kernel,trivial⟩) (fU b_range (aJ eK (aR dw b_len bV (af (aa 0) (aq))) (aG))) (fun _ _ _ _=>bN (i:=0) (show (["at", "word"]:List Str).Nodup by decide +kernel) rfl (Or.inl rfl) (.inr rfl)) (fun _ _ _ _=>jj (bB (ni hr.units) (aR Be b_abs uz (af (aJ eK (bz (aa 1) (aa 0)) (bz (aa 1) (aJ bu (aa 0) (aG)))) (aq))) (aG))) (fun _ _ _ _=>aJ bu (aJ bu (gS (aa 1) dG (dM (aa 0))) (ff (af (bz (aa 1) (aJ bu (aa 0) (aG))) (af (bz (aa 1) (aa 0)) (aq))))) (gS (aa 1) (dM (aJ bu (aa 0) (aG))) dG))))
theorem kN:FnScope ["word"] ["word"] (aC cg):=⟨rfl,rfl,rfl,by decide +kernel,rfl,by decide +kernel,by decide +kernel⟩
theorem lN {f:Addr} {fd:FuncData} (F:Fun K "turned_threes" "turned_threes" cg f fd) (b_range:mg "range" = none) (b_len:mg "len" = none) (b_abs:mg "abs" = none):FnOk P w K mg base jh 1 f fd ["word"] (jY K 1 cj):=mX (m:=fG) F kN fun cdv B outer s H E hr=>
 aL (bf (i_ (N:=["at", "word"]) (cap:=[none,some 0]) rfl (kh ["word"] rfl (by decide +kernel) (by decide +kernel) (by decide +kernel) (by decide +kernel) (by decide +kernel) (List.forall_mem_cons.mpr ⟨by first | exact Or.inl rfl | exact Or.inr rfl,(fun _ h=>nomatch h)⟩) ⟨rfl,by decide +kernel,trivial⟩) (fU b_range (aJ eK (aR dw b_len bV (af (aa 0) (aq))) (aG))) (fun _ _ _ _=>bN (i:=0) (show (["at", "word"]:List Str).Nodup by decide +kernel) rfl (Or.inl rfl) (.inr rfl)) (fun _ _ _ _=>jj (AW.at (GZ (bB (EC hr.units) (bz (aa 1) (aa 0)) (bz (aa 1) (aJ bu (aa 0) (aG)))) (Eh (bB (EC hr.units) (aR Be b_abs uz (af (aJ eK (bz (aa 1) (aa 0)) (bz (aa 1) (aJ bu (aa 0) (aG)))) (aq))) (aG)))))) (fun _ _ _ _=>aJ bu (aJ bu (gS (aa 1) dG (dM (aa 0))) (ff (af (bz (aa 1) (aJ bu (aa 0) (aG))) (af (bz (aa 1) (aa 0)) (af (bz (aa 1) (aJ bu (aa 0) (aG))) (aq)))))) (gS (aa 1) (dM (aJ bu (aa 0) (aG))) dG))))
theorem kY:FnScope ["ahead", "last", "told"] ["ahead", "last"] (aC gT):=⟨rfl,rfl,rfl,by decide +kernel,rfl,by decide +kernel,by decide +kernel⟩
theorem yj {f:Addr} {fd:FuncData} (F:Fun K "traced" "traced" gT f fd) (b_list:mg "list" = none):FnOk P w K mg base jh 1 f fd ["ahead", "last"] (jY K 2 gb):=mX (m:=nP) F kY fun cdv B outer s H E hr=>
 aE (aX (i:=2) kY.nd (cE (aq)))
 (aE (rX 100000000 PassesOwn.never (bB DR (aa 1) (kO))
 (aE (mP (sC PySem.F.slot_list_append PySem.F.type_list_append oA (aa 2) (af (bK (jJ rfl) b_list fN (af (aa 1) (aq))) (aq))))
 (aL (aX (i:=1) kY.nd (G3 hr.units (aa 0) (aa 1))))))
 (aL (bf (G1 (aa 2)))))
theorem bJ:FnScope ["one", "other", "start", "end", "ahead", "waiting", "at", "here", "word"] ["one", "other"] (aC dJ):=⟨rfl,rfl,rfl,by decide +kernel,rfl,by decide +kernel,by decide +kernel⟩
theorem pA {f:Addr} {fd:FuncData} (F:Fun K "found_road" "found_road" dJ f fd) (b_tuple:mg "tuple" = none) (G_changed_places:fE P w K mg base 1 "changed_places" ["word"] bR) (G_turned_threes:fE P w K mg base 1 "turned_threes" ["word"] cj) (G_traced:fE P w K mg base 1 "traced" ["ahead", "last"] gb):FnOk P w K mg base jh 2 f fd ["one", "other"] (jY K 2 dF):=mX (m:=g_) F bJ fun cdv B outer s H E hr=>
 aE (aX (i:=2) bJ.nd (bK (kE rfl) b_tuple iI (af (aa 0) (aq))))
 (aE (aX (i:=3) bJ.nd (bK (kE rfl) b_tuple iI (af (aa 1) (aq))))
 (aE (aX (i:=4) bJ.nd (Du hr.units (aa 2) (kO)))
 (aE (aX (i:=5) bJ.nd (cE (af (aa 2) (aq))))
 (aE (aX (i:=6) bJ.nd (aG))
 (aE (rX 100000000 PassesOwn.never (bB (sQ hr.units) (aa 3) (aa 4))
 (aE (aX (i:=7) bJ.nd (bz (aa 5) (aa 6)))
 (aE (iM PassesOwn.never rfl (jU (aJ bu (bE G_changed_places (hr.mono (by decide)) (af (aa 7) (aq)) (au aS)) (bE G_turned_threes (hr.mono (by decide)) (af (aa 7) (aq)) (au aS)))) (bN (i:=8) bJ.nd)
 (aL (eX (bB (sQ hr.units) (aa 8) (aa 4))
 (aE (jV (aa 7) (DS hr.units (aa 4) (aa 8)))
 (aL (mP (sC PySem.F.slot_list_append PySem.F.type_list_append oA (aa 5) (af (aa 8) (aq))))))
 (bZ))))
 (aL (G2 (i:=6) bJ.nd (aG) C8)))))
 (aL (bf (bE G_traced (hr.mono (by decide)) (af (aa 4) (af (aa 3) (aq))) (au (au aS))))))))))
theorem v8:FnScope ["n", "one", "other", "order"] ["n", "one", "other"] (aC kL):=⟨rfl,rfl,rfl,by decide +kernel,rfl,by decide +kernel,by decide +kernel⟩
theorem D3 {f:Addr} {fd:FuncData} (F:Fun K "road" "road" kL f fd) {U:Addr} {C_NoPair:Addr} {C_TooMany:Addr} (e_NoPair:ExcK K U "NoPair" C_NoPair) (e_TooMany:ExcK K U "TooMany" C_TooMany) (b_len:mg "len" = none) (G_led_by:E5 P w K mg base 4 "led_by" ["n", "word"] eG) (G_length:fE P w K mg base 3 "length" ["order"] fY) (G_is_beyond:fE P w K mg base 1 "is_beyond" ["n", "word"] cL) (G_found_road:fE P w K mg base 2 "found_road" ["one", "other"] dF):FnOk P w K mg base (yu P w) 5 f fd ["n", "one", "other"] (Iu K 3 c_):=fnX (m:=jO) F v8 fun cdv B outer s H E hr=>
 aE (aX (i:=3) v8.nd (uL G_led_by (hr.mono (by decide)) (af (aa 0) (af (aa 1) (aq))) (au (au aS))))
 (aE (eX (AW.at (ko (bB (pH hr.units) (uL G_led_by (hr.mono (by decide)) (af (aa 0) (af (aa 2) (aq))) (au (au aS))) (aa 3)) (ko (bB (pH hr.units) (aR dw b_len bV (af (aa 1) (aq))) (bE G_length (hr.mono (by decide)) (af (aa 3) (aq)) (au aS))) (k_ (bB (pH hr.units) (aR dw b_len bV (af (aa 2) (aq))) (bE G_length (hr.mono (by decide)) (af (aa 3) (aq)) (au aS)))))))
 (aL (qa e_NoPair.n e_NoPair.q hr.hd))
 (bZ))
 (aE (eX (iN (bE G_is_beyond (hr.mono (by decide)) (af (aa 0) (af (aa 1) (aq))) (au (au aS))))
 (aL (qa e_TooMany.n e_TooMany.q hr.hd))
 (bZ))
 (aL (bf (bE G_found_road (hr.mono (by decide)) (af (aa 1) (af (aa 2) (aq))) (au (au aS)))))))
theorem ie:FnScope ["_law_script", "_law_k", "_law_cell", "_law_state"] ["_law_script", "_law_k"] (aC fV):=⟨rfl,rfl,rfl,by decide +kernel,rfl,by decide +kernel,by decide +kernel⟩
theorem uU {f:Addr} {fd:FuncData} (F:Fun K "_law_bag" "_law_bag" fV f fd) (b_len:mg "len" = none) (b_abs:mg "abs" = none) (b_int:mg "int" = none):FnOk P w K mg base jh 1 f fd ["_law_script", "_law_k"] (jY K 2 fR):=mX (m:=lJ) F ie fun cdv B outer s H E hr=>
 aE (aX (i:=2) ie.nd (aG))
 (aE (eX (bB (yi hr.units) (aa 1) (aR dw b_len bV (af (aa 0) (aq))))
 (aL (aX (i:=2) ie.nd (aR Be b_abs uz (af (bz (aa 0) (aa 1)) (aq)))))
 (bZ))
 (aE (aX (i:=3) ie.nd (aJ bu (aG) (aJ qg (aJ bu (aJ bu (aJ bu (aJ qg (aa 2) (aG)) (aJ pQ (aJ pQ (aG) (aa 1)) (aa 1))) (aJ pQ (aG) (aa 1))) (aG)) (aG))))
 (aL (bf (cE (af (aJ pQ (aa 2) (bK Bs b_int qK (af (nF KS (aa 2) (aJ IY (aG) (aG))) (aq)))) (af (aa 3) (aq))))))))
theorem jZ:FnScope ["_law_bag_here", "_law_many", "_law_found"] ["_law_bag_here", "_law_many"] (aC d9):=⟨rfl,rfl,rfl,by decide +kernel,rfl,by decide +kernel,by decide +kernel⟩
theorem rz {f:Addr} {fd:FuncData} (F:Fun K "_law_digit" "_law_digit" d9 f fd):FnOk P w K mg base jh 1 f fd ["_law_bag_here", "_law_many"] (jY K 2 aU):=mX (m:=gm) F jZ fun cdv B outer s H E hr=>
 aE (eX (bB (ni hr.units) (bz (aa 0) (aG)) (aG))
 (aE (aX (i:=2) jZ.nd (aJ qg (bz (aa 0) (aG)) (aa 1)))
 (aE (jV (aJ u9 (bz (aa 0) (aG)) (aa 1)) (gy (aa 0) (aG)))
 (aL (bf (aa 2)))))
 (bZ))
 (aE (jV (aJ qg (aJ pQ (bz (aa 0) (aG)) (aG)) (aG)) (gy (aa 0) (aG)))
 (aL (bf (aJ qg (aJ u9 (aJ qg (aJ pQ (bz (aa 0) (aG)) (aJ bu (aJ u9 (bz (aa 0) (aG)) (aG)) (aG))) (aG)) (aG)) (aa 1)))))
theorem jN:FnScope ["_law_n", "_law_word", "_law_found", "_law_k"] ["_law_n", "_law_word"] (aC fT):=⟨rfl,rfl,rfl,by decide +kernel,rfl,by decide +kernel,by decide +kernel⟩
theorem ur {f:Addr} {fd:FuncData} (F:Fun K "_law_led" "_law_led" fT f fd) (b_list:mg "list" = none) (b_range:mg "range" = none) (b_tuple:mg "tuple" = none):FnOk P w K mg base jh 1 f fd ["_law_n", "_law_word"] (jY K 2 cR):=mX (m:=ly) F jN fun cdv B outer s H E hr=>
 aE (aX (i:=2) jN.nd (bK (jJ rfl) b_list fN (af (bK m9 b_range ow (af (aG) (af (aJ bu (aa 0) (aG)) (aq)))) (aq))))
 (aE (iM PassesOwn.never rfl (jU (aa 1)) (bN (i:=3) jN.nd)
 (aL (jV (ff (af (bz (aa 2) (aa 3)) (af (bz (aa 2) (aJ eK (aa 3) (aG))) (aq)))) (lz rfl (cP (gy (aa 2) (aJ eK (aa 3) (aG))) (cP (gy (aa 2) (aa 3)) (ji)))))))
 (aL (bf (bK (kE rfl) b_tuple iI (af (aa 2) (aq))))))
theorem dH:FnScope ["_law_bag_here", "_law_n", "_law_most", "_law_left", "_law_word", "_law_turn", "_law_some", "_law_k"] ["_law_bag_here", "_law_n", "_law_most"] (aC eo):=⟨rfl,rfl,rfl,by decide +kernel,rfl,by decide +kernel,by decide +kernel⟩
theorem qU {f:Addr} {fd:FuncData} (F:Fun K "_law_grown" "_law_grown" eo f fd) (b_list:mg "list" = none) (b_range:mg "range" = none) (b_len:mg "len" = none) (G_law_digit:fE P w K mg base 1 "_law_digit" ["_law_bag_here", "_law_many"] aU):FnOk P w K mg base jh 2 f fd ["_law_bag_here", "_law_n", "_law_most"] (jY K 3 ez):=mX (m:=iJ) F dH fun cdv B outer s H E hr=>
 aE (aX (i:=3) dH.nd (bK (jJ rfl) b_list fN (af (bK m9 b_range ow (af (aG) (af (aJ bu (aa 1) (aG)) (aq)))) (aq))))
 (aE (aX (i:=4) dH.nd (cE (aq)))
 (aE (iM PassesOwn.never rfl (fU b_range (bE G_law_digit (hr.mono (by decide)) (af (aa 0) (af (aJ bu (aa 2) (aG)) (aq))) (au (au aS)))) (bN (i:=5) dH.nd)
 (aE (vf (i:=6) (N:=["_law_k", "_law_left"]) (cap:=[none,some 3]) dH.nd rfl (kh ["_law_left"] rfl (by decide +kernel) (by decide +kernel) (by decide +kernel) (by decide +kernel) (by decide +kernel) (List.forall_mem_cons.mpr ⟨by first | exact Or.inl rfl | exact Or.inr rfl,(fun _ h=>nomatch h)⟩) ⟨rfl,by decide +kernel,trivial⟩) (gO b_range (aG) (aa 1)) (fun _ _ _ _=>bN (i:=0) (show (["_law_k", "_law_left"]:List Str).Nodup by decide +kernel) rfl (Or.inl rfl) (.inr rfl)) (fun _ _ _ _=>jj (bB (yi hr.units) (bz (aa 1) (aJ eK (aa 0) (aG))) (bz (aa 1) (aa 0)))) (fun _ _ _ _=>aa 0) )
 (aL (eX (bB (ni hr.units) (aR dw b_len bV (af (aa 6) (aq))) (aG))
 (aE (aX (i:=7) dH.nd (bz (aa 6) (bE G_law_digit (hr.mono (by decide)) (af (aa 0) (af (aR dw b_len bV (af (aa 6) (aq))) (aq))) (au (au aS)))))
 (aE (jV (ff (af (bz (aa 3) (aa 7)) (af (bz (aa 3) (aJ eK (aa 7) (aG))) (aq)))) (lz rfl (cP (gy (aa 3) (aJ eK (aa 7) (aG))) (cP (gy (aa 3) (aa 7)) (ji)))))
 (aL (mP (sC PySem.F.slot_list_append PySem.F.type_list_append oA (aa 4) (af (aa 7) (aq)))))))
 (bZ)))))
 (aL (bf (aa 4)))))
theorem cM:FnScope ["_law_bag_here", "_law_n", "_law_word", "_law_left", "_law_found", "_law_turn", "_law_some", "_law_k"] ["_law_bag_here", "_law_n", "_law_word"] (aC d7):=⟨rfl,rfl,rfl,by decide +kernel,rfl,by decide +kernel,by decide +kernel⟩
theorem qz {f:Addr} {fd:FuncData} (F:Fun K "_law_other" "_law_other" d7 f fd) (b_list:mg "list" = none) (b_range:mg "range" = none) (b_len:mg "len" = none) (G_law_led:fE P w K mg base 1 "_law_led" ["_law_n", "_law_word"] cR) (G_law_digit:fE P w K mg base 1 "_law_digit" ["_law_bag_here", "_law_many"] aU):FnOk P w K mg base jh 2 f fd ["_law_bag_here", "_law_n", "_law_word"] (jY K 3 d8):=mX (m:=iY) F cM fun cdv B outer s H E hr=>
 aE (aX (i:=3) cM.nd (bK (jJ rfl) b_list fN (af (bE G_law_led (hr.mono (by decide)) (af (aa 1) (af (aa 2) (aq))) (au (au aS))) (aq))))
 (aE (aX (i:=4) cM.nd (cE (aq)))
 (aE (iM PassesOwn.never rfl (fU b_range (aR dw b_len bV (af (aa 2) (aq)))) (bN (i:=5) cM.nd)
 (aE (vf (i:=6) (N:=["_law_k", "_law_left"]) (cap:=[none,some 3]) cM.nd rfl (kh ["_law_left"] rfl (by decide +kernel) (by decide +kernel) (by decide +kernel) (by decide +kernel) (by decide +kernel) (List.forall_mem_cons.mpr ⟨by first | exact Or.inl rfl | exact Or.inr rfl,(fun _ h=>nomatch h)⟩) ⟨rfl,by decide +kernel,trivial⟩) (gO b_range (aG) (aa 1)) (fun _ _ _ _=>bN (i:=0) (show (["_law_k", "_law_left"]:List Str).Nodup by decide +kernel) rfl (Or.inl rfl) (.inr rfl)) (fun _ _ _ _=>jj (bB (ni hr.units) (bz (aa 1) (aJ eK (aa 0) (aG))) (bz (aa 1) (aa 0)))) (fun _ _ _ _=>aa 0) )
 (aE (aX (i:=7) cM.nd (bz (aa 6) (bE G_law_digit (hr.mono (by decide)) (af (aa 0) (af (aR dw b_len bV (af (aa 6) (aq))) (aq))) (au (au aS)))))
 (aE (jV (ff (af (bz (aa 3) (aa 7)) (af (bz (aa 3) (aJ eK (aa 7) (aG))) (aq)))) (lz rfl (cP (gy (aa 3) (aJ eK (aa 7) (aG))) (cP (gy (aa 3) (aa 7)) (ji)))))
 (aL (aX (i:=4) cM.nd (aJ bu (cE (af (aa 7) (aq))) (aa 4))))))))
 (aL (bf (aa 4)))))
theorem fL:FnScope ["_law_order", "_law_n", "_law_found", "_law_i"] ["_law_order"] (aC eg):=⟨rfl,rfl,rfl,by decide +kernel,rfl,by decide +kernel,by decide +kernel⟩
theorem qP {f:Addr} {fd:FuncData} (F:Fun K "_law_wrong" "_law_wrong" eg f fd) (b_len:mg "len" = none) (b_range:mg "range" = none):FnOk P w K mg base jh 1 f fd ["_law_order"] (jY K 1 d_):=mX (m:=iU) F fL fun cdv B outer s H E hr=>
 aE (aX (i:=1) fL.nd (aR dw b_len bV (af (aa 0) (aq))))
 (aE (aX (i:=2) fL.nd (cE (aq)))
 (aE (iM PassesOwn.never rfl (fU b_range (aa 1)) (bN (i:=3) fL.nd)
 (aL (mP (sC PySem.F.slot_list_extend PySem.F.type_list_extend Bd (aa 2) (af (i_ (N:=["_law_j", "_law_i", "_law_order"]) (cap:=[none,some 3,some 0]) rfl (kh ["_law_i", "_law_order"] rfl (by decide +kernel) (by decide +kernel) (by decide +kernel) (by decide +kernel) (by decide +kernel) (List.forall_mem_cons.mpr ⟨by first | exact Or.inl rfl | exact Or.inr rfl,(List.forall_mem_cons.mpr ⟨by first | exact Or.inl rfl | exact Or.inr rfl,(fun _ h=>nomatch h)⟩)⟩) ⟨rfl,by decide +kernel,⟨rfl,by decide +kernel,trivial⟩⟩) (gO b_range (aJ bu (aa 3) (aG)) (aa 1)) (fun _ _ _ _=>bN (i:=0) (show (["_law_j", "_law_i", "_law_order"]:List Str).Nodup by decide +kernel) rfl (Or.inl rfl) (.inr rfl)) (fun _ _ _ _=>jj (bB (ni hr.units) (bz (aa 2) (aa 1)) (bz (aa 2) (aa 0)))) (fun _ _ _ _=>ff (af (aJ bu (aa 1) (aG)) (af (aJ bu (aa 0) (aG)) (aq))))) (aq))))))
 (aL (bf (aa 2)))))
theorem dz:FnScope ["_law_n", "_law_one", "_law_other_here", "_law_here", "_law_there", "_law_found", "e", "_law_some"] ["_law_n", "_law_one", "_law_other_here"] (aC fm):=⟨rfl,rfl,rfl,by decide +kernel,rfl,by decide +kernel,by decide +kernel⟩
theorem tW {f:Addr} {fd:FuncData} (F:Fun K "_law_kind" "_law_kind" fm f fd) {U:Addr} {C_TooMany:Addr} {C_NoPair:Addr} {C_NoWord:Addr} {C_NoName:Addr} {C_NoText:Addr} {C_NoTables:Addr} {C_NoRow:Addr} {C_NoNumber:Addr} (hU:sZ K "UnderError" U) (mU:L2.mroIn K U=some vA) (e_TooMany:ExcK K U "TooMany" C_TooMany) (e_NoPair:ExcK K U "NoPair" C_NoPair) (e_NoWord:ExcK K U "NoWord" C_NoWord) (m_NoName:mg "NoName" = some (.ref C_NoName)) (m_TooMany:mg "TooMany" = some (.ref C_TooMany)) (m_NoPair:mg "NoPair" = some (.ref C_NoPair)) (m_NoWord:mg "NoWord" = some (.ref C_NoWord)) (m_NoText:mg "NoText" = some (.ref C_NoText)) (m_NoTables:mg "NoTables" = some (.ref C_NoTables)) (m_NoRow:mg "NoRow" = some (.ref C_NoRow)) (m_NoNumber:mg "NoNumber" = some (.ref C_NoNumber)) (k_TooMany_NoName:PySem.W.kitOne K (.ref C_TooMany) (.ref C_NoName)=some false) (k_NoPair_NoName:PySem.W.kitOne K (.ref C_NoPair) (.ref C_NoName)=some false) (k_NoWord_NoName:PySem.W.kitOne K (.ref C_NoWord) (.ref C_NoName)=some false) (k_TooMany_TooMany:PySem.W.kitOne K (.ref C_TooMany) (.ref C_TooMany)=some true) (k_NoPair_TooMany:PySem.W.kitOne K (.ref C_NoPair) (.ref C_TooMany)=some false) (k_NoWord_TooMany:PySem.W.kitOne K (.ref C_NoWord) (.ref C_TooMany)=some false) (k_TooMany_NoPair:PySem.W.kitOne K (.ref C_TooMany) (.ref C_NoPair)=some false) (k_NoPair_NoPair:PySem.W.kitOne K (.ref C_NoPair) (.ref C_NoPair)=some true) (k_NoWord_NoPair:PySem.W.kitOne K (.ref C_NoWord) (.ref C_NoPair)=some false) (k_TooMany_NoWord:PySem.W.kitOne K (.ref C_TooMany) (.ref C_NoWord)=some false) (k_NoPair_NoWord:PySem.W.kitOne K (.ref C_NoPair) (.ref C_NoWord)=some false) (k_NoWord_NoWord:PySem.W.kitOne K (.ref C_NoWord) (.ref C_NoWord)=some true) (k_TooMany_NoText:PySem.W.kitOne K (.ref C_TooMany) (.ref C_NoText)=some false) (k_NoPair_NoText:PySem.W.kitOne K (.ref C_NoPair) (.ref C_NoText)=some false) (k_NoWord_NoText:PySem.W.kitOne K (.ref C_NoWord) (.ref C_NoText)=some false) (k_TooMany_NoTables:PySem.W.kitOne K (.ref C_TooMany) (.ref C_NoTables)=some false) (k_NoPair_NoTables:PySem.W.kitOne K (.ref C_NoPair) (.ref C_NoTables)=some false) (k_NoWord_NoTables:PySem.W.kitOne K (.ref C_NoWord) (.ref C_NoTables)=some false) (k_TooMany_NoRow:PySem.W.kitOne K (.ref C_TooMany) (.ref C_NoRow)=some false) (k_NoPair_NoRow:PySem.W.kitOne K (.ref C_NoPair) (.ref C_NoRow)=some false) (k_NoWord_NoRow:PySem.W.kitOne K (.ref C_NoWord) (.ref C_NoRow)=some false) (k_TooMany_NoNumber:PySem.W.kitOne K (.ref C_TooMany) (.ref C_NoNumber)=some false) (k_NoPair_NoNumber:PySem.W.kitOne K (.ref C_NoPair) (.ref C_NoNumber)=some false) (k_NoWord_NoNumber:PySem.W.kitOne K (.ref C_NoWord) (.ref C_NoNumber)=some false) (b_list:mg "list" = none) (b_isinstance:mg "isinstance" = none) (b_ValueError:mg "ValueError" = none) (G_road:E5 P w K mg base 5 "road" ["n", "one", "other"] c_):FnOk P w K mg base jh 6 f fd ["_law_n", "_law_one", "_law_other_here"] (jY K 3 bO):=mX (m:=jH) F dz fun cdv B outer s H E hr=>
 aE (aX (i:=3) dz.nd (bK (jJ rfl) b_list fN (af (aa 1) (aq))))
 (aE (aX (i:=4) dz.nd (bK (jJ rfl) b_list fN (af (aa 2) (aq))))
 (aE (by (refine DL (i:=6) (cs:=["NoWord", "NoPair", "TooMany"]) ?hb ?hh dz.nd hU mU (List.forall_mem_cons.mpr ⟨⟨_,e_NoWord.n,e_NoWord.r⟩,(List.forall_mem_cons.mpr ⟨⟨_,e_NoPair.n,e_NoPair.r⟩,(List.forall_mem_cons.mpr ⟨⟨_,e_TooMany.n,e_TooMany.r⟩,(fun _ h=>nomatch h)⟩)⟩)⟩);(case hb=>exact (fun _ _=>C6 (i:=5) dz.nd (Gb G_road (hr.mono (by decide)) (af (aa 0) (af (aa 3) (af (aa 4) (aq)))) (au (au (au aS))))));(case hh=>exact (fun _ _ _ _ xo=>aE (aX (i:=7) dz.nd (cE (af (iG m_NoWord (tb:=[("NoWord",true),("NoPair",false),("TooMany",false)]) (List.forall_mem_cons.mpr ⟨⟨_,e_NoWord.n,e_NoWord.x,e_NoWord.cl,k_NoWord_NoWord⟩,(List.forall_mem_cons.mpr ⟨⟨_,e_NoPair.n,e_NoPair.x,e_NoPair.cl,k_NoPair_NoWord⟩,(List.forall_mem_cons.mpr ⟨⟨_,e_TooMany.n,e_TooMany.x,e_TooMany.cl,k_TooMany_NoWord⟩,(fun _ h=>nomatch h)⟩)⟩)⟩) (aa 6) b_isinstance) (af (iG m_NoPair (tb:=[("NoWord",false),("NoPair",true),("TooMany",false)]) (List.forall_mem_cons.mpr ⟨⟨_,e_NoWord.n,e_NoWord.x,e_NoWord.cl,k_NoWord_NoPair⟩,(List.forall_mem_cons.mpr ⟨⟨_,e_NoPair.n,e_NoPair.x,e_NoPair.cl,k_NoPair_NoPair⟩,(List.forall_mem_cons.mpr ⟨⟨_,e_TooMany.n,e_TooMany.x,e_TooMany.cl,k_TooMany_NoPair⟩,(fun _ h=>nomatch h)⟩)⟩)⟩) (aa 6) b_isinstance) (af (iG m_TooMany (tb:=[("NoWord",false),("NoPair",false),("TooMany",true)]) (List.forall_mem_cons.mpr ⟨⟨_,e_NoWord.n,e_NoWord.x,e_NoWord.cl,k_NoWord_TooMany⟩,(List.forall_mem_cons.mpr ⟨⟨_,e_NoPair.n,e_NoPair.x,e_NoPair.cl,k_NoPair_TooMany⟩,(List.forall_mem_cons.mpr ⟨⟨_,e_TooMany.n,e_TooMany.x,e_TooMany.cl,k_TooMany_TooMany⟩,(fun _ h=>nomatch h)⟩)⟩)⟩) (aa 6) b_isinstance) (af (iG m_NoName (tb:=[("NoWord",false),("NoPair",false),("TooMany",false)]) (List.forall_mem_cons.mpr ⟨⟨_,e_NoWord.n,e_NoWord.x,e_NoWord.cl,k_NoWord_NoName⟩,(List.forall_mem_cons.mpr ⟨⟨_,e_NoPair.n,e_NoPair.x,e_NoPair.cl,k_NoPair_NoName⟩,(List.forall_mem_cons.mpr ⟨⟨_,e_TooMany.n,e_TooMany.x,e_TooMany.cl,k_TooMany_NoName⟩,(fun _ h=>nomatch h)⟩)⟩)⟩) (aa 6) b_isinstance) (aq)))))))
 (aE (aX (i:=7) dz.nd (aJ bu (aa 7) (cE (af (iG m_NoNumber (tb:=[("NoWord",false),("NoPair",false),("TooMany",false)]) (List.forall_mem_cons.mpr ⟨⟨_,e_NoWord.n,e_NoWord.x,e_NoWord.cl,k_NoWord_NoNumber⟩,(List.forall_mem_cons.mpr ⟨⟨_,e_NoPair.n,e_NoPair.x,e_NoPair.cl,k_NoPair_NoNumber⟩,(List.forall_mem_cons.mpr ⟨⟨_,e_TooMany.n,e_TooMany.x,e_TooMany.cl,k_TooMany_NoNumber⟩,(fun _ h=>nomatch h)⟩)⟩)⟩) (aa 6) b_isinstance) (af (iG m_NoRow (tb:=[("NoWord",false),("NoPair",false),("TooMany",false)]) (List.forall_mem_cons.mpr ⟨⟨_,e_NoWord.n,e_NoWord.x,e_NoWord.cl,k_NoWord_NoRow⟩,(List.forall_mem_cons.mpr ⟨⟨_,e_NoPair.n,e_NoPair.x,e_NoPair.cl,k_NoPair_NoRow⟩,(List.forall_mem_cons.mpr ⟨⟨_,e_TooMany.n,e_TooMany.x,e_TooMany.cl,k_TooMany_NoRow⟩,(fun _ h=>nomatch h)⟩)⟩)⟩) (aa 6) b_isinstance) (af (iG m_NoTables (tb:=[("NoWord",false),("NoPair",false),("TooMany",false)]) (List.forall_mem_cons.mpr ⟨⟨_,e_NoWord.n,e_NoWord.x,e_NoWord.cl,k_NoWord_NoTables⟩,(List.forall_mem_cons.mpr ⟨⟨_,e_NoPair.n,e_NoPair.x,e_NoPair.cl,k_NoPair_NoTables⟩,(List.forall_mem_cons.mpr ⟨⟨_,e_TooMany.n,e_TooMany.x,e_TooMany.cl,k_TooMany_NoTables⟩,(fun _ h=>nomatch h)⟩)⟩)⟩) (aa 6) b_isinstance) (af (iG m_NoText (tb:=[("NoWord",false),("NoPair",false),("TooMany",false)]) (List.forall_mem_cons.mpr ⟨⟨_,e_NoWord.n,e_NoWord.x,e_NoWord.cl,k_NoWord_NoText⟩,(List.forall_mem_cons.mpr ⟨⟨_,e_NoPair.n,e_NoPair.x,e_NoPair.cl,k_NoPair_NoText⟩,(List.forall_mem_cons.mpr ⟨⟨_,e_TooMany.n,e_TooMany.x,e_TooMany.cl,k_TooMany_NoText⟩,(fun _ h=>nomatch h)⟩)⟩)⟩) (aa 6) b_isinstance) (aq))))))))
 (aE (eX (AW.at (ko (jT (iN (HQ b_ValueError (tb:=[("NoWord",true),("NoPair",true),("TooMany",true)]) (List.forall_mem_cons.mpr ⟨⟨_,e_NoWord.n,e_NoWord.x,e_NoWord.cl,e_NoWord.v⟩,(List.forall_mem_cons.mpr ⟨⟨_,e_NoPair.n,e_NoPair.x,e_NoPair.cl,e_NoPair.v⟩,(List.forall_mem_cons.mpr ⟨⟨_,e_TooMany.n,e_TooMany.x,e_TooMany.cl,e_TooMany.v⟩,(fun _ h=>nomatch h)⟩)⟩)⟩) (aa 6) b_isinstance))) (ko (bB (pH hr.units) (sC PySem.F.slot_list_count PySem.F.type_list_count (C9 hr.units) (aa 7) (af (nW) (aq))) (aG)) (k_ (bB (DP hr.units) (nW) (gS (aa 7) dG (dM (aG))))))))
 (aL (bf (kO)))
 (bZ))
 (aE (eX (bB (pH hr.units) (cE (af (aa 3) (af (aa 4) (aq)))) (cE (af (aa 1) (af (aa 2) (aq)))))
 (aL (bf (kO)))
 (bZ))
 (aL (bf (bz (cE (af (iu) (af (iu) (af (iu) (aq))))) (GI (aa 7) (af (nW) (aq)))))))))))))
 (aE (eX (AW.at (ko (jT (iN (aR pM b_isinstance cF (af (aa 5) (af (pY b_list fN) (aq)))))) (k_ (bB (pH hr.units) (cE (af (aa 3) (af (aa 4) (aq)))) (cE (af (aa 1) (af (aa 2) (aq))))))))
 (aL (bf (kO)))
 (bZ))
 (aL (bf (iu))))))
theorem oG:FnScope ["_law_n", "_law_word"] ["_law_n", "_law_word"] (aC cQ):=⟨rfl,rfl,rfl,by decide +kernel,rfl,by decide +kernel,by decide +kernel⟩
theorem nh {f:Addr} {fd:FuncData} (F:Fun K "_law_is_word" "_law_is_word" cQ f fd) (b_all:mg "all" = none) (b_isinstance:mg "isinstance" = none) (b_bool:mg "bool" = none) (b_int:mg "int" = none):FnOk P w K mg base jh 1 f fd ["_law_n", "_law_word"] (jY K 2 cG):=mX (m:=gA) F oG fun cdv B outer s H E hr=>
 aL (bf (aR (EK rfl) b_all zF (af (i_ (N:=["_law_k", "_law_n"]) (cap:=[none,some 0]) rfl (kh ["_law_n"] rfl (by decide +kernel) (by decide +kernel) (by decide +kernel) (by decide +kernel) (by decide +kernel) (List.forall_mem_cons.mpr ⟨by first | exact Or.inl rfl | exact Or.inr rfl,(fun _ h=>nomatch h)⟩) ⟨rfl,by decide +kernel,trivial⟩) (jU (aa 1)) (fun _ _ _ _=>bN (i:=0) (show (["_law_k", "_law_n"]:List Str).Nodup by decide +kernel) rfl (Or.inl rfl) (.inr rfl)) (fun _ _ _ _=>mW) (fun _ _ _ _=>qF (aR pM b_isinstance cF (af (aa 0) (af (pY b_int qK) (aq)))) (qF (BX (aR pM b_isinstance cF (af (aa 0) (af (pY b_bool wo) (aq))))) (nX (ER (yi hr.units) (yi hr.units) (aG) (aa 0) (aa 1)))))) (aq))))
theorem nq:FnScope ["_law_n", "_law_one", "_law_other_here", "_law_order"] ["_law_n", "_law_one", "_law_other_here"] (aC fP):=⟨rfl,rfl,rfl,by decide +kernel,rfl,by decide +kernel,by decide +kernel⟩
theorem uJ {f:Addr} {fd:FuncData} (F:Fun K "_law_due" "_law_due" fP f fd) (b_len:mg "len" = none) (b_int:mg "int" = none) (G_law_is_word:fE P w K mg base 1 "_law_is_word" ["_law_n", "_law_word"] cG) (G_law_led:fE P w K mg base 1 "_law_led" ["_law_n", "_law_word"] cR) (G_law_wrong:fE P w K mg base 1 "_law_wrong" ["_law_order"] d_):FnOk P w K mg base jh 2 f fd ["_law_n", "_law_one", "_law_other_here"] (jY K 3 bQ):=mX (m:=gI) F nq fun cdv B outer s H E hr=>
 aE (eX (AW.at (ko (jT (iN (bE G_law_is_word (hr.mono (by decide)) (af (aa 0) (af (aa 1) (aq))) (au (au aS))))) (k_ (jT (iN (bE G_law_is_word (hr.mono (by decide)) (af (aa 0) (af (aa 2) (aq))) (au (au aS))))))))
 (aL (bf (iu)))
 (bZ))
 (aE (aX (i:=3) nq.nd (bE G_law_led (hr.mono (by decide)) (af (aa 0) (af (aa 1) (aq))) (au (au aS))))
 (aE (eX (AW.at (ko (bB (pH hr.units) (aa 3) (bE G_law_led (hr.mono (by decide)) (af (aa 0) (af (aa 2) (aq))) (au (au aS)))) (ko (bB (pH hr.units) (aR dw b_len bV (af (aa 1) (aq))) (aR dw b_len bV (af (aa 2) (aq)))) (k_ (bB (pH hr.units) (aR dw b_len bV (af (bE G_law_wrong (hr.mono (by decide)) (af (aa 3) (aq)) (au aS)) (aq))) (aR dw b_len bV (af (aa 1) (aq))))))))
 (aL (bf (iu)))
 (bZ))
 (aL (bf (bz (cE (af (iu) (af (iu) (aq)))) (bK Bs b_int qK (af (EU (nF (ni hr.units) (aR dw b_len bV (af (aa 1) (aq))) (aG)) (nX (nF (ni hr.units) (aa 0) (aG)))) (aq))))))))
theorem eS:FnScope ["_law_bag_here", "_law_n", "_law_word", "_law_at", "_law_k", "_law_way"] ["_law_bag_here", "_law_n", "_law_word"] (aC cW):=⟨rfl,rfl,rfl,by decide +kernel,rfl,by decide +kernel,by decide +kernel⟩
theorem nS {f:Addr} {fd:FuncData} (F:Fun K "_law_spoiled" "_law_spoiled" cW f fd) (b_len:mg "len" = none) (G_law_digit:fE P w K mg base 1 "_law_digit" ["_law_bag_here", "_law_many"] aU):FnOk P w K mg base jh 2 f fd ["_law_bag_here", "_law_n", "_law_word"] (jY K 3 cD):=mX (m:=gB) F eS fun cdv B outer s H E hr=>
 aE (aX (i:=3) eS.nd (bE G_law_digit (hr.mono (by decide)) (af (aa 0) (af (aJ bu (aR dw b_len bV (af (aa 2) (aq))) (aG)) (aq))) (au (au aS))))
 (aE (aX (i:=4) eS.nd (aJ bu (aG) (bE G_law_digit (hr.mono (by decide)) (af (aa 0) (af (aJ eK (aa 1) (aG)) (aq))) (au (au aS)))))
 (aE (aX (i:=5) eS.nd (bE G_law_digit (hr.mono (by decide)) (af (aa 0) (af (aG) (aq))) (au (au aS))))
 (aE (eX (bB (yi hr.units) (aa 5) (aG))
 (aL (bf (aJ bu (aJ bu (gS (aa 2) dG (dM (aa 3))) (cE (af (aa 4) (af (aa 4) (aq))))) (gS (aa 2) (dM (aa 3)) dG))))
 (bZ))
 (aE (eX (bB (EC hr.units) (aa 5) (aG))
 (aL (bf (aJ bu (aJ bu (gS (aa 2) dG (dM (aa 3))) (cE (af (aa 4) (aq)))) (gS (aa 2) (dM (aa 3)) dG))))
 (bZ))
 (aE (eX (bB (EC hr.units) (aa 5) (aG))
 (aL (bf (aJ bu (gS (aa 2) dG (dM (aa 3))) (gS (aa 2) (dM (aJ bu (aa 3) (aG))) dG))))
 (bZ))
 (aL (bf (aJ bu (aJ bu (gS (aa 2) dG (dM (aa 3))) (cE (af (bz (cE (af (aG) (af (aa 1) (af (nW) (af (kO) (af (iu) (af (Ge (aG)) (af (aJ bu (aa 1) (aG)) (aq))))))))) (bE G_law_digit (hr.mono (by decide)) (af (aa 0) (af (aG) (aq))) (au (au aS)))) (aq)))) (gS (aa 2) (dM (aa 3)) dG)))))))))
theorem gv:FnScope ["_law_script", "_law_k", "_law_bag_here", "_law_n", "_law_one", "_law_other_here", "_law_third", "_law_fourth", "_law_first", "_law_second"] ["_law_script"] (aC kc):=⟨rfl,rfl,rfl,by decide +kernel,rfl,by decide +kernel,by decide +kernel⟩
theorem Ho {f:Addr} {fd:FuncData} (F:Fun K "law" "law" kc f fd) (b_range:mg "range" = none) (b_max:mg "max" = none) (b_min:mg "min" = none) (b_len:mg "len" = none) (G_law_bag:fE P w K mg base 1 "_law_bag" ["_law_script", "_law_k"] fR) (G_law_digit:fE P w K mg base 1 "_law_digit" ["_law_bag_here", "_law_many"] aU) (G_law_grown:fE P w K mg base 2 "_law_grown" ["_law_bag_here", "_law_n", "_law_most"] ez) (G_law_other:fE P w K mg base 2 "_law_other" ["_law_bag_here", "_law_n", "_law_word"] d8) (G_law_spoiled:fE P w K mg base 2 "_law_spoiled" ["_law_bag_here", "_law_n", "_law_word"] cD) (G_law_kind:fE P w K mg base 6 "_law_kind" ["_law_n", "_law_one", "_law_other_here"] bO) (G_law_due:fE P w K mg base 2 "_law_due" ["_law_n", "_law_one", "_law_other_here"] bQ):FnOk P w K mg base jh 7 f fd ["_law_script"] (jY K 1 pL):=mX (m:=Ba) F gv fun cdv B outer s H E hr=>
 aE (iM PassesOwn.never rfl (fU b_range (aR (GN rfl) b_max Gx (af (aG) (af (aR (GP rfl) b_min Hl (af (aG) (af (aR dw b_len bV (af (aa 0) (aq))) (aq)))) (aq))))) (bN (i:=1) gv.nd)
 (aE (aX (i:=2) gv.nd (bE G_law_bag (hr.mono (by decide)) (af (aa 0) (af (aa 1) (aq))) (au (au aS))))
 (aE (aX (i:=3) gv.nd (aJ bu (aG) (bE G_law_digit (hr.mono (by decide)) (af (aa 2) (af (bz (cE (af (aG) (af (aG) (aq)))) (bE G_law_digit (hr.mono (by decide)) (af (aa 2) (af (aG) (aq))) (au (au aS)))) (aq))) (au (au aS)))))
 (aE (aX (i:=4) gv.nd (bE G_law_grown (hr.mono (by decide)) (af (aa 2) (af (aa 3) (af (aG) (aq)))) (au (au (au aS)))))
 (aE (aX (i:=5) gv.nd (bE G_law_other (hr.mono (by decide)) (af (aa 2) (af (aa 3) (af (aa 4) (aq)))) (au (au (au aS)))))
 (aE (aX (i:=6) gv.nd (bE G_law_spoiled (hr.mono (by decide)) (af (aa 2) (af (aa 3) (af (aa 4) (aq)))) (au (au (au aS)))))
 (aE (aX (i:=7) gv.nd (bE G_law_spoiled (hr.mono (by decide)) (af (aa 2) (af (aa 3) (af (aa 5) (aq)))) (au (au (au aS)))))
 (aL (iM PassesOwn.never rfl (jU (cE (af (ff (af (aa 4) (af (aa 5) (aq)))) (af (ff (af (aa 4) (af (aa 6) (aq)))) (af (ff (af (aa 7) (af (aa 5) (aq)))) (af (ff (af (aa 6) (af (aa 7) (aq)))) (aq))))))) (lz rfl (cP (bN (i:=8) gv.nd) (cP (bN (i:=9) gv.nd) (ji))))
 (aL (eX (bB (pH hr.units) (bE G_law_kind (hr.mono (by decide)) (af (aa 3) (af (aa 8) (af (aa 9) (aq)))) (au (au (au aS)))) (bE G_law_due (hr.mono (by decide)) (af (aa 3) (af (aa 8) (af (aa 9) (aq)))) (au (au (au aS)))))
 (aL (bf (nW)))
 (bZ))))))))))))
 (aL (bf (nW)))
end
end K09
namespace K09
open PySem L2 Am
def rm (S:aA) (b:Nat):Prop:=∃ g st:Int,ak S b=some [.int g,.int st] /\ 0 <= g /\ 0 <= st /\ st < 4294967296
theorem rm.kp {S S':aA} {b:Nat} {c:Nat -> Prop} (h:rm S b) (k:Kp c S S') (hb:¬ c b):rm S' b:=by
 obtain ⟨g,st,e,q⟩:=h
 exact ⟨g,st,k.lst b _ hb e,q⟩
theorem DA {S:aA} {ns:List Int} {k:Int} (h0:0 <= k) (h1:k <= 100):∃ S',fR [.frz (ns.map .int),.int k] S=.ok (.ref S.length) S' /\ rm S' S.length /\ dD S S':=by
 have e3:Dm (.int 10) (.int 18)=fun S=>R.ok (.int 1000000000000000000) S:=by
  funext S;exact cO ⟨by decide,by decide,by decide⟩
 have go:∀ cell:Int,0 <= cell -> ∃ S',((RS.seq (.nx [A.frz (ns.map .int),.int k,.int cell,.dY] S) (bq (bC (az aZ (eC (.int 1)) (az mK (az aZ (az aZ (az aZ (az mK (ah 2) (eC (.int 2147483647))) (az iO (az iO (eC (.int 7919)) (ah 1)) (ah 1))) (az iO (eC (.int 17)) (ah 1))) (eC (.int 3))) (eC (.int 2147483646)))) (cK 3))
   (cz (fM (aj (az iO (ah 2) (aT (f1 pX) (aj (az J9 (ah 2) (az Dm (eC (.int 10)) (eC (.int 18)))) (aI)))) (aj (ah 3) (aI))))))).end=.ok (.ref S.length) S') /\ rm S' S.length /\ dD S S':=by
  intro cell hc
  have m1:mK (.int cell) (.int 2147483647)=fun S=>R.ok (.int (cell % 2147483647)) S:=by funext S;exact qv (by decide)
  have m2:∀ x:Int,mK (.int x) (.int 2147483646)=fun S=>R.ok (.int (x % 2147483646)) S:=fun x=>by funext S;exact qv (by decide)
  have m3:∀ x:Int,iO (.int 7919) (.int x)=fun S=>R.ok (.int (7919 * x)) S:=fun x=>by funext S;exact wj (by decide) (by decide)
  have m4:iO (.int (7919 * k)) (.int k)=fun S=>R.ok (.int (7919 * k * k)) S:=by funext S;exact mul_r (by omega) (by omega)
  have m5:∀ x:Int,iO (.int 17) (.int x)=fun S=>R.ok (.int (17 * x)) S:=fun x=>by funext S;exact wj (by decide) (by decide)
  have m6:∀ b:Bool,iO (.int cell) (.int (if b=true then 1 else 0))=fun S=>R.ok (.int (cell * (if b=true then 1 else 0))) S:=fun b=>by
   funext S
   refine mul_r ?_ ?_ <;> cases b <;> decide
  have s0:0 <= 1 + (cell % 2147483647 + 7919 * k * k + 17 * k + 3) % 2147483646:=by
   have:=Int.emod_nonneg (cell % 2147483647 + 7919 * k * k + 17 * k + 3) (show (2147483646:Int) ≠ 0 by decide)
   omega
  have s1:1 + (cell % 2147483647 + 7919 * k * k + 17 * k + 3) % 2147483646 < 4294967296:=by
   have:=Int.emod_lt_of_pos (cell % 2147483647 + 7919 * k * k + 17 * k + 3) (show (0:Int) < 2147483646 by decide)
   omega
  refine ⟨S ++ [.lst [.int (cell * (if decide (1000000000000000000 <= cell)=true then 1 else 0)),.int (1 + (cell % 2147483647 + 7919 * k * k + 17 * k + 3) % 2147483646)]],?_,⟨_,_,aN,?_,s0,s1⟩,Kp.refl.lay⟩
  ·simp only [br,bools,m1,m2,m3,m4,m5,e3,m6]
  ·refine Int.mul_nonneg hc ?_
   split <;> decide
 have hA:∀ x:Int,0 <= (if x < 0 then -x else x):=by intro x;split <;> omega
 unfold fR lJ pR
 simp only [br,bools,bM,Nat.reduceAdd,Nat.reduceSub,List.length_map]
 by_cases hk:k < (ns.length:Int)
 ·have hn:k.toNat < ns.length:=by omega
  have ha:eV (ns.map A.int) k=some (.int ns[k.toNat]):=qx (k:=k.toNat) (by omega) (List.getElem?_eq_getElem hn)
  rw [decide_eq_true hk]
  simp only [br,bools,ha]
  exact go _ (hA _)
 ·rw [decide_eq_false hk]
  simp only [br,bools]
  exact go 0 (Int.le_refl 0)
theorem digit {S:aA} {b:Nat} {m:Int} (h:rm S b) (h1:1 <= m) (h2:m < 1073741824):∃ d S',aU [.ref b,.int m] S=.ok (.int d) S' /\ 0 <= d /\ d < m /\ rm S' b /\ Kp (·=b) S S':=by
 obtain ⟨g,st,hl,hg,hs,hs2⟩:=h
 have hb:=bI hl
 have i0:o4 2 0=some 0:=gE rfl (by decide)
 have i1:o4 2 1=some 1:=gE rfl (by decide)
 have fin:∀ d g' st':Int,0 <= d -> d < m -> 0 <= g' -> 0 <= st' -> st' < 4294967296 -> aU [.ref b,.int m] S=.ok (.int d) (S.set b (.lst [.int g',.int st'])) -> ∃ d S',aU [.ref b,.int m] S=.ok (.int d) S' /\ 0 <= d /\ d < m /\ rm S' b /\ Kp (·=b) S S':=
  fun d g' st' a1 a2 a3 a4 a5 e=>⟨d,_,e,a1,a2,⟨g',st',dc hb,a3,a4,a5⟩,Kp.refl.set (.inl rfl)⟩
 by_cases hg0:0 < g
 ·refine fin (g % m) (g / m) st (Int.emod_nonneg _ (by omega)) (Int.emod_lt_of_pos _ (by omega)) (Int.ediv_nonneg hg (by omega)) hs hs2 ?_
  unfold aU gm iW
  rw [mY]
  simp [hl,sO,p8,hg0,qv (show 0 < m by omega),uD (show 0 < m by omega) h2,i0]
 ·have:g=0:=by omega
  subst this
  have e1:0 <= st * 48271 % 2147483647:=Int.emod_nonneg _ (by decide)
  have e2:st * 48271 % 2147483647 < 2147483647:=Int.emod_lt_of_pos _ (by decide)
  refine fin ((st * 48271 % 2147483647) * ((st * 48271 % 2147483647) / 65536 + 9) % 2147483629 / 32 % m) 0 (st * 48271 % 2147483647) (Int.emod_nonneg _ (by omega)) (Int.emod_lt_of_pos _ (by omega)) (by decide) e1 (by omega) ?_
  unfold aU gm iW
  rw [mY]
  simp [hl,sO,p8,qv (show 0 < m by omega),i0,i1,wj (show -18446744073709551616 < st by omega) (by omega),qv (show (0:Int) < 2147483647 by decide),dc hb,uD (show (0:Int) < 65536 by decide) (by decide),wj (show -18446744073709551616 < st * 48271 % 2147483647 by omega) (by omega),qv (show (0:Int) < 2147483629 by decide),uD (show (0:Int) < 32 by decide) (by decide)]
theorem t_ {xs:List Int} {n:Nat} (px:xs.Perm (aP 1 ((n:Int) + 1))):xs.length=n:=by have:=zS px (by omega);omega
abbrev wd (w:List Nat):List A:=w.map fun k:Nat=>A.int (k:Int)
theorem qu {l:List Int} {k:Nat} {i:Int} (h:i=k) (hk:k < l.length):eV (l.map A.int) i=some (.int (l.getD k 0)):=qx h (by rw [List.getD_eq_getElem?_getD,List.getElem?_eq_getElem hk];rfl)
theorem mV {l:List Int} {k:Nat}:((l.map A.int).set (k - 1) (.int (l.getD k 0))).set k (.int (l.getD (k - 1) 0))=(Wd.ex l k).map A.int:=by
 unfold Wd.ex
 rw [List.map_set,List.map_set]
theorem G8 {f g:A -> A -> aA -> R A} {ca cb cc:Ex} {τ:List A} {S:aA} {a b c:A} (h1:ca τ S=.ok a S) (h2:cb τ S=.ok b S) (h3:f a b S=.ok (.bl true) S) (h4:cc τ S=.ok c S):yE f g ca cb cc τ S=g b c S:=by
 unfold yE;rw [h1,R.dS,h2,R.dS,h3,R.dS];unfold LH;show (cc τ S).bind _=_;rw [h4];rfl
theorem IP {f g:A -> A -> aA -> R A} {ca cb cc:Ex} {τ:List A} {S:aA} {a b:A} (h1:ca τ S=.ok a S) (h2:cb τ S=.ok b S) (h3:f a b S=.ok (.bl false) S):yE f g ca cb cc τ S=.ok (.bl false) S:=by
 unfold yE;rw [h1,R.dS,h2,R.dS,h3,R.dS];rfl
theorem Cn {S:aA} {i:Int}:bY [.int i] S=.ok (.bl true) S:=by
 unfold bY gc iy
 simp only [br,bools,bM,Nat.reduceAdd,Nat.reduceSub,show iw .int "int" = some true from rfl,show iw .int "bool" = some false from rfl,Bool.not_false]
theorem IW {S:aA} {b:Bool}:bY [.bl b] S=.ok (.bl false) S:=by
 unfold bY gc iy
 simp only [br,bools,bM,Nat.reduceAdd,Nat.reduceSub,show iw .bl "int" = some true from rfl,show iw .bl "bool" = some true from rfl,Bool.not_true]
theorem mQ {S:aA} {v:A} {k:Kd} (hv:v.di=false) (h:v.kd S=some k) (h1:iw k "int" = some false):bY [v] S=.ok (.bl false) S:=by
 unfold bY gc iy
 simp only [br,bools,bM,Nat.reduceAdd,Nat.reduceSub,hv,h,h1]
def HX (S:aA) (n:Int) (v:A):Prop:=v.di=false /\ bh [.int n,v] S=.ok (.bl false) S
theorem A8 {S:aA} {n i:Int} (h:i < 1 \/ n <= i):HX S n (.int i):=by
 refine ⟨rfl,?_⟩
 unfold bh dQ fq
 have c:yE JS sD (eC (.int 1)) (ah 1) (ah 0) [.int n,.int i] S=.ok (.bl false) S:=by
  by_cases h1:(1:Int) <= i
  ·rw [G8 (a:=.int 1) (b:=.int i) (c:=.int n) rfl rfl (by simp only [br,decide_eq_true h1]) rfl]
   simp only [br,decide_eq_false (show ¬ i < n by omega)]
  ·exact IP (a:=.int 1) (b:=.int i) rfl rfl (by simp only [br,decide_eq_false h1])
 simp only [br,bools,bM,Nat.reduceAdd,Nat.reduceSub,Cn,c]
theorem gQ {S:aA} {n:Int} {v:A} (hv:v.di=false) (h:bY [v] S=.ok (.bl false) S):HX S n v:=by
 refine ⟨hv,?_⟩
 unfold bh dQ fq
 simp only [br,bools,bM,Nat.reduceAdd,Nat.reduceSub,hv,h]
theorem JI {S:aA} {n k:Int} (h1:1 <= k) (h2:k < n):bh [.int n,.int k] S=.ok (.bl true) S:=by
 unfold bh dQ fq
 have c:yE JS sD (eC (.int 1)) (ah 1) (ah 0) [.int n,.int k] S=.ok (.bl true) S:=by
  rw [G8 (a:=.int 1) (b:=.int k) (c:=.int n) rfl rfl (by simp only [br,decide_eq_true h1]) rfl]
  simp only [br,decide_eq_true h2]
 simp only [br,bools,bM,Nat.reduceAdd,Nat.reduceSub,Cn,c]
theorem Dt {S:aA} {xs:List Int} {k:Nat} (h1:1 <= k) (h2:k < xs.length) (hl:xs.length <= 1000):∃ S',eE [.tup (xs.map .int),.int k] S=.ok (.tup ((Wd.ex xs k).map .int)) S' /\ dD S S':=by
 have e1:=JI (S:=S) (n:=(xs.length:Int)) (k:=(k:Int)) (by omega) (by omega)
 have a1:eV (xs.map A.int) (k:Int)=some (.int (xs.getD k 0)):=qu rfl (by omega)
 have a2:eV (xs.map A.int) ((k:Int) - 1)=some (.int (xs.getD (k - 1) 0)):=qu (k:=k - 1) (by omega) (by omega)
 have x1:o4 xs.length ((k:Int) - 1)=some (k - 1):=gE (by omega) (by omega)
 have x2:o4 xs.length (k:Int)=some k:=gE rfl (by omega)
 have hL:ak (S ++ [O.lst (xs.map .int)]) S.length=some (xs.map .int):=aN
 have lS:∀ ys,ak ((S ++ [O.lst (xs.map .int)]).set S.length (.lst ys)) S.length=some ys:=fun ys=>dc (by simp)
 have e2:bH [.tup (xs.map .int),.int k,.int ((k:Int) + 1)] S=.ok (.tup ((Wd.ex xs k).map .int)) (((S ++ [O.lst (xs.map .int)]).set S.length (.lst ((xs.map A.int).set (k - 1) (.int (xs.getD k 0))))).set S.length (.lst ((Wd.ex xs k).map .int))):=by
  unfold bH dZ fW
  simp only [br,bools,bM,Nat.reduceAdd,Nat.reduceSub,hL,show (k:Int) + 1 - 1=k by omega,a1,a2,cO (show 2 <= sizeLine by decide),cO (show 2=2 from rfl),List.length_map,x1,lS,List.length_set,x2,mV]
  rw [dc (by simp)]
  simp only [br,bools]
 unfold eE iH mj
 simp only [br,iz,bools,bM,Nat.reduceAdd,Nat.reduceSub,List.length_map,e1,Bool.not_true,e2]
 exact ⟨_,rfl,((Kp.refl.lay).set (.inr (Nat.le_refl _))).set (.inr (Nat.le_refl _))⟩
theorem uq {S:aA} {n W:Nat} {w:List Nat} (h:ak S W=some (wd w)) (hv:∀ k ∈ w,1 <= k /\ k < n) (h1:1 <= n) (h2:n <= 20) :
  ∃ S',cR [.int n,.ref W] S=.ok (.tup ((Wd.led (aP 1 ((n:Int) + 1)) w).map .int)) S' /\ dD S S':=by
 have lw:=bI h
 unfold cR ly qk
 simp only [br,bools,bM,Nat.reduceAdd,Nat.reduceSub,pT (nE (show (-1000000:Int) <= 1 by decide) (by decide) (show -1000000 <= (n:Int) + 1 by omega) (by omega) (by omega))]
 refine mS (n:=W) (xs:=wd w) (S1:=S ++ [.lst ((aP 1 ((n:Int) + 1)).map .int)]) (show lV _ _=_ from jQ (by simp only [br,bools]) (aO h))
  (fun i τ S1=>(∃ a3,τ=[.int n,.ref W,.ref S.length,a3]) /\ ak S1 S.length=some ((Wd.led (aP 1 ((n:Int) + 1)) (w.take i)).map .int) /\ dD S S1)
  (fun r=>∃ S',RS.end (RS.seq r _)=.ok (.tup ((Wd.led (aP 1 ((n:Int) + 1)) w).map .int)) S' /\ dD S S') ⟨⟨_,rfl⟩,aN,Kp.refl.lay⟩ (fun i τ S1 hh=>hh.2.2.lst _ _ (fun z=>z) h) ?_ ?_
 ·rintro i z τ S1 hz ⟨⟨a3,rfl⟩,hL,kp⟩
  rw [List.getElem?_map] at hz
  obtain ⟨k,hk,rfl⟩:=Option.map_eq_some_iff.mp hz
  obtain ⟨hi,ek⟩:=List.getElem?_eq_some_iff.mp hk
  have hkv:=hv k (List.mem_of_getElem? hk)
  refine ⟨[.int n,.ref W,.ref S.length,.int k],S1,rfl,.inl ?_⟩
  have e1:Wd.led (aP 1 ((n:Int) + 1)) (w.take (i + 1))=Wd.ex (Wd.led (aP 1 ((n:Int) + 1)) (w.take i)) k:=by
   rw [List.take_succ_eq_append_getElem hi,Wd.jl,ek];rfl
  have ll:(Wd.led (aP 1 ((n:Int) + 1)) (w.take i)).length=n:=by rw [Wd.gn,Wd.dI]
  rw [e1]
  generalize Wd.led (aP 1 ((n:Int) + 1)) (w.take i)=l at hL ll
  have lL:=bI hL
  have a1:eV (l.map A.int) (k:Int)=some (.int (l.getD k 0)):=qu rfl (by omega)
  have a2:eV (l.map A.int) ((k:Int) - 1)=some (.int (l.getD (k - 1) 0)):=qu (k:=k - 1) (by omega) (by omega)
  have x1:o4 l.length ((k:Int) - 1)=some (k - 1):=gE (by omega) (by omega)
  have x2:o4 l.length (k:Int)=some k:=gE rfl (by omega)
  have lS:∀ ys,ak (S1.set S.length (.lst ys)) S.length=some ys:=fun ys=>dc lL
  unfold mw
  simp only [br,bools,hL,a1,a2,ir (show ([_,_]:List A).length <= 16777216 by simp),cO (show ([_,_]:List A).length=2 from rfl),List.length_map,x1,lS,List.length_set,x2]
  refine ⟨_,_,rfl,⟨_,rfl⟩,?_,(kp.set (.inr (Nat.le_refl _))).set (.inr (Nat.le_refl _))⟩
  rw [dc (by rw [List.length_set];exact lL),mV]
 ·rintro τ S1 ⟨⟨a3,rfl⟩,hL,kp⟩
  rw [List.length_map,List.take_length] at hL
  simp only [br,bools,hL]
  exact ⟨_,rfl,kp⟩
def prs (n:Int):List A:=(aP 1 n).flatMap fun i=>(aP (i + 1) (n + 1)).map fun j=>.tup [.int i,.int j]
theorem Dq {n:Int} {x:A}:x ∈ prs n ↔ ∃ i j:Int,1 <= i /\ i < j /\ j <= n /\ x=.tup [.int i,.int j]:=by
 unfold prs
 rw [List.mem_flatMap]
 constructor
 ·rintro ⟨i,hi,hx⟩
  obtain ⟨j,hj,rfl⟩:=List.mem_map.mp hx
  rw [dj] at hi hj
  exact ⟨i,j,by omega,by omega,by omega,rfl⟩
 ·rintro ⟨i,j,h1,h2,h3,rfl⟩
  exact ⟨i,dj.mpr ⟨h1,by omega⟩,List.mem_map.mpr ⟨j,dj.mpr ⟨by omega,by omega⟩,rfl⟩⟩
theorem oY {α β:Type} {f:α -> List β} {B:Nat}:∀ (l:List α),(∀ x ∈ l,(f x).length <= B) -> (l.flatMap f).length <= l.length * B
 | [],_=>Nat.zero_le _
 | x :: l,h=>by
  rw [List.flatMap_cons,List.length_append,List.length_cons,Nat.add_mul,Nat.one_mul]
  have:=oY l fun y hy=>h y (List.mem_cons_of_mem _ hy)
  have:=h x (List.mem_cons_self ..)
  omega
theorem wA {n:Int} (h0:0 <= n) (h1:n <= 1000):(prs n).length <= 16777216:=by
 have:=oY (B:=1000) (f:=fun i=>(aP (i + 1) (n + 1)).map fun j=>A.tup [.int i,.int j]) (aP 1 n) fun x hx=>by
  rw [dj] at hx
  rw [List.length_map,cJ];omega
 rw [cJ] at this
 have h2:(n - 1).toNat * 1000 <= 1000 * 1000:=Nat.mul_le_mul_right _ (by omega)
 unfold prs
 omega
theorem Fc {S:aA} {i n lo hi:Int}:∀ (k t:Nat) (x1:A),k + t=(hi - lo).toNat -> ∃ x1',gD (cZ lo hi) (cK 1) oK (gh (aj (ah 0) (aj (ah 1) (aI)))) k t [.int i,x1,.int n] S=.ok ((List.range' t k).map fun q:Nat=>A.tup [.int i,.int (lo + q)],[.int i,x1',.int n]) S
 | 0,t,x1,_=>⟨x1,rfl⟩
 | k + 1,t,x1,h=>by
  obtain ⟨x1',e⟩:=Fc (S:=S) (i:=i) (n:=n) (lo:=lo) (hi:=hi) k (t + 1) (.int (lo + t)) (by omega)
  refine ⟨x1',?_⟩
  unfold gD
  have hg:(cZ lo hi).get t S=some (.int (lo + t)):=if_pos (by omega)
  simp only [br,bools,hg,ir (show ([_,_]:List A).length <= 16777216 by simp),e,List.range'_succ,List.map_cons]
theorem zW {S:aA} {n:Int} (h0:0 <= n) (h1:n <= 1000):∀ (k t:Nat) (x0 x1:A),k + t=(n - 1).toNat -> fO (cZ 1 n) (cK 0) oK (fJ (az aZ (ah 0) (eC (.int 1))) (az aZ (ah 2) (eC (.int 1)))) (cK 1) oK (gh (aj (ah 0) (aj (ah 1) (aI)))) k t [x0,x1,.int n] S=.ok ((List.range' t k).flatMap fun q:Nat=>(aP (1 + q + 1) (n + 1)).map fun j=>A.tup [.int (1 + q),.int j]) S
 | 0,t,x0,x1,_=>rfl
 | k + 1,t,x0,x1,h=>by
  have hg:(cZ 1 n).get t S=some (.int (1 + t)):=if_pos (by omega)
  obtain ⟨x1',e⟩:=Fc (S:=S) (i:=1 + t) (n:=n) (lo:=1 + t + 1) (hi:=n + 1) (cZ (1 + t + 1) (n + 1)).k 0 x1 rfl
  have hr:((List.range' 0 (cZ (1 + (t:Int) + 1) (n + 1)).k).map fun q:Nat=>A.tup [.int (1 + t),.int (1 + t + 1 + q)])=(aP (1 + t + 1) (n + 1)).map fun j=>A.tup [.int (1 + t),.int j]:=by
   unfold aP
   rw [List.map_map,List.range_eq_range']
   rfl
  rw [hr] at e
  have e2:=zW (S:=S) h0 h1 k (t + 1) (.int (1 + t)) x1' (by omega)
  have hs:fJ (az aZ (ah 0) (eC (.int 1))) (az aZ (ah 2) (eC (.int 1))) [.int (1 + t),x1,.int n] S=.ok (cZ (1 + t + 1) (n + 1)) S:=
   iK (S1:=S) (by simp only [br,bools]) (by simp only [br,bools]) (dN (by omega) (by omega)) (dN (by omega) (by omega))
  unfold fO
  simp only [br,bools,hg,hs,e,e2,List.range'_succ,List.flatMap_cons]
theorem B7 {S:aA} {n:Int} (h0:0 <= n) (h1:n <= 1000):cC [.int n] S=.ok (.ref S.length) (S ++ [.lst (prs n)]):=by
 have hs:fJ (eC (.int 1)) (ah 0) [.int n] S=.ok (cZ 1 n) S:=iK (S1:=S) (by simp only [br,bools]) (by simp only [br,bools]) (dN (by omega) (by omega)) (dN (by omega) (by omega))
 have e:=zW (S:=S) h0 h1 (cZ 1 n).k 0 .dY .dY rfl
 have hp:((List.range' 0 (cZ 1 n).k).flatMap fun q:Nat=>(aP (1 + q + 1) (n + 1)).map fun j=>A.tup [.int (1 + q),.int j])=prs n:=by
  unfold prs aP
  rw [List.flatMap_map,<- List.range_eq_range']
  rfl
 rw [hp] at e
 unfold cC gF jv uA
 simp only [br,bools,bM,Nat.reduceAdd,Nat.reduceSub,hs,e,bP (wA h0 h1)]
def wg (xs:List Int) (q:A):Bool:=match q with
 | .tup [.int i,.int j]=>decide (xs.getD (i - 1).toNat 0 > xs.getD (j - 1).toNat 0)
 | _=>false
theorem Iq {xs:List Int} {i:Int} (h1:0 <= i) (h2:i < xs.length):eV (xs.map A.int) i=some (.int (xs.getD i.toNat 0)):=qu (k:=i.toNat) (by omega) (by omega)
theorem Jy {S:aA} {n:Nat} {xs:List Int} (hlen:xs.length=n) (h2:n <= 20) :
  ∃ (P:Nat) (S':aA),cY [.tup (xs.map .int)] S=.ok (.ref P) S' /\ ak S' P=some ((prs n).filter (wg xs)) /\ dD S S' /\ S.length <= P:=by
 have eq:=B7 (S:=S) (n:=(n:Int)) (by omega) (by omega)
 have hL:ak (S ++ [O.lst (prs n)]) S.length=some (prs n):=aN
 obtain ⟨S',g1,g2⟩:=mR (s:=gH S.length (prs n).length) (g:=C2 2 (rH (cK 0) (rH (cK 1) (C3)))) (t:=iD (az rG (az dP (ah 2) (az aSub (ah 0) (eC (.int 1)))) (az dP (ah 2) (az aSub (ah 1) (eC (.int 1)))))) (e:=gh (aj (ah 0) (aj (ah 1) (aI))))
  (P:=fun S1=>S1=S ++ [O.lst (prs n)]) (T:=fun τ'=>∃ y z,τ'=[y,z,.tup (xs.map .int)])
  (fun i=>(prs n).getD i .dY) (fun i=>wg xs ((prs n).getD i .dY)) (fun i=>(prs n).getD i .dY)
  (fun i S1 hi k=>by
   have hi:i < (prs n).length:=hi
   show (ak S1 S.length).bind _=_
   rw [k,hL,Option.bind_some,List.getD_eq_getElem?_getD,List.getElem?_eq_getElem hi];rfl)
  (fun S1 k=>by
   show (match ak S1 S.length with
    | some ys=>decide (ys.length <= (prs n).length)
    | none=>false)=true
   rw [k,hL]
   simp)
  (fun i τ' S1 hi ⟨y,z,hy⟩ k=>by
   have hi:i < (prs n).length:=hi
   subst hy k
   have hm:(prs n).getD i .dY ∈ prs n:=by rw [List.getD_eq_getElem?_getD,List.getElem?_eq_getElem hi];exact List.getElem_mem hi
   obtain ⟨a,c,q1,q2,q3,eac⟩:=Dq.mp hm
   rw [eac]
   have x1:eV (xs.map A.int) (a - 1)=some (.int (xs.getD (a - 1).toNat 0)):=Iq (by omega) (by omega)
   have x2:eV (xs.map A.int) (c - 1)=some (.int (xs.getD (c - 1).toNat 0)):=Iq (by omega) (by omega)
   refine ⟨[.int a,.int c,.tup (xs.map .int)],S ++ [O.lst (prs n)],S ++ [O.lst (prs n)],by simp only [br,bools,cO (show ([_,_]:List A).length=2 from rfl)],by simp only [br,bools,x1,x2];rfl,⟨_,_,rfl⟩,fun _=>rfl,fun _=>⟨_,by simp only [br,bools,ir (show ([_,_]:List A).length <= 16777216 by simp)],rfl⟩⟩)
  (prs n).length 0 (gk [none,none,some 0] [.tup (xs.map .int)]) (S ++ [O.lst (prs n)]) rfl ⟨_,_,rfl⟩ rfl
 subst g2
 have ef:=gY (prs n) (wg xs) (fun q=>q) .dY
 rw [List.range_eq_range',List.map_id'] at ef
 rw [ef] at g1
 have ll:=wA (n:=(n:Int)) (by omega) (by omega)
 refine ⟨_,(S ++ [O.lst (prs n)]) ++ [.lst ((prs n).filter (wg xs))],?_,aN,Kp.refl.lay.lay,by rw [List.length_append];omega⟩
 have ec:fC [none,none,some 0] (kP (eFn cC (aj (aT (f1 dX) (aj (ah 0) (aI))) (aI)))) (C2 2 (rH (cK 0) (rH (cK 1) (C3)))) (iD (az rG (az dP (ah 2) (az aSub (ah 0) (eC (.int 1)))) (az dP (ah 2) (az aSub (ah 1) (eC (.int 1)))))) (gh (aj (ah 0) (aj (ah 1) (aI)))) [.tup (xs.map .int)] S=.ok (.ref (S ++ [O.lst (prs n)]).length) ((S ++ [O.lst (prs n)]) ++ [.lst ((prs n).filter (wg xs))]):=by
  unfold fC
  rw [jQ (S1:=S ++ [O.lst (prs n)]) (by simp only [br,bools,List.length_map,hlen,eq]) hL,R.dS]
  show R.ee (gf (gH S.length (prs n).length) _ _ _ (prs n).length 0 _ _) _=_
  rw [g1,R.e9,bP (Nat.le_trans (List.length_filter_le _ _) ll)]
 unfold cY gC jw
 simp only [br,bools,bM,Nat.reduceAdd,Nat.reduceSub,ec]
theorem rB {S:aA} {n:Nat} {xs:List Int} (hlen:xs.length=n) (h2:n <= 20):∃ S',fY [.tup (xs.map .int)] S=.ok (.int (((prs n).filter (wg xs)).length:Int)) S' /\ dD S S':=by
 obtain ⟨P,S1,e1,g1,k1,_⟩:=Jy (S:=S) hlen h2
 unfold fY oE tM
 simp only [br,bools,bM,Nat.reduceAdd,Nat.reduceSub,e1,g1]
 exact ⟨_,rfl,k1⟩
def gX (i hi:Int):List A:=(aP (i + 1) hi).map fun j=>.tup [.int i,.int j]
theorem s_ (a:Int) (u:Nat):aP a (a + ((u + 1:Nat):Int))=aP a (a + (u:Int)) ++ [a + (u:Int)]:=by
 unfold aP
 rw [show (a + ((u + 1:Nat):Int) - a).toNat=u + 1 by omega,show (a + (u:Int) - a).toNat=u by omega,List.range_succ,List.map_append];rfl
theorem sA (n:Nat):prs n=(aP 1 (n:Int)).flatMap fun i=>gX i ((n:Int) + 1):=rfl
open Bl
theorem CI {xs:List Int} {i:Nat} (h:i <= xs.length):(aP ((i:Int) + 1) ((xs.length:Int) + 1)).map (fun j=>xs.getD (j - 1).toNat 0)=xs.drop i:=by
 apply List.ext_getElem?
 intro p
 rw [List.getElem?_map,List.getElem?_drop]
 by_cases c:i + p < xs.length
 ·have:(aP ((i:Int) + 1) ((xs.length:Int) + 1))[p]?=some ((i:Int) + 1 + p):=by
   unfold aP
   rw [List.getElem?_map,List.getElem?_range (by omega)];rfl
  rw [this]
  show some (xs.getD ((i:Int) + 1 + p - 1).toNat 0)=_
  rw [show ((i:Int) + 1 + p - 1).toNat=i + p by omega,<- Iv.jg c]
 ·rw [List.getElem?_eq_none (by rw [cJ];omega),List.getElem?_eq_none (by omega)];rfl
theorem DO {xs:List Int} {i:Nat} (h:i < xs.length):((gX ((i:Int) + 1) ((xs.length:Int) + 1)).filter (wg xs)).length=(xs.drop (i + 1)).countP fun y=>decide (y < xs.getD i 0):=by
 rw [<- CI (xs:=xs) (i:=i + 1) (by omega),List.countP_map,<- List.countP_eq_length_filter]
 unfold gX
 rw [List.countP_map,show (((i + 1:Nat):Int))=(i:Int) + 1 by omega]
 refine List.countP_congr fun j _=>?_
 show wg xs (.tup [.int ((i:Int) + 1),.int j])=true ↔ decide (xs.getD (j - 1).toNat 0 < xs.getD i 0)=true
 show decide (xs.getD ((i:Int) + 1 - 1).toNat 0 > xs.getD (j - 1).toNat 0)=true ↔ _
 rw [show ((i:Int) + 1 - 1).toNat=i by omega]
theorem rJ {xs:List Int}:∀ (k i:Nat),i + k=xs.length -> (((List.range' i k).flatMap fun q:Nat=>gX ((q:Int) + 1) ((xs.length:Int) + 1)).filter (wg xs)).length=Iv.inv (xs.drop i)
 | 0,i,h=>by rw [List.drop_of_length_le (by omega)];rfl
 | k + 1,i,h=>by
  have hi:i < xs.length:=by omega
  rw [List.range'_succ,List.flatMap_cons,List.filter_append,List.length_append,DO hi,rJ k (i + 1) (by omega)]
  have:xs.drop i=xs.getD i 0 :: xs.drop (i + 1):=by
   rw [List.drop_eq_getElem_cons hi]
   congr 1
   have:=Iv.jg hi
   rw [List.getElem?_eq_getElem hi] at this
   exact Option.some.inj this
  rw [this];rfl
theorem uW {xs:List Int} {n:Nat} (hl:xs.length=n) (h1:1 <= n):((prs n).filter (wg xs)).length=Iv.inv xs:=by
 have h:=rJ (xs:=xs) n 0 (by omega)
 rw [List.drop_zero] at h
 rw [<- h,sA,hl]
 have e:(aP 1 (n:Int)).flatMap (fun i=>gX i ((n:Int) + 1))=(List.range' 0 n).flatMap fun q:Nat=>gX ((q:Int) + 1) ((n:Int) + 1):=by
  obtain ⟨m,rfl⟩:∃ m,n=m + 1:=⟨n - 1,by omega⟩
  rw [List.range'_concat,List.flatMap_append]
  have z:gX (((0 + 1 * m:Nat):Int) + 1) (((m + 1:Nat):Int) + 1)=[]:=by
   unfold gX aP
   rw [show (((m + 1:Nat):Int) + 1 - ((((0 + 1 * m:Nat):Int) + 1) + 1)).toNat=0 by omega];rfl
  rw [List.flatMap_cons,z]
  unfold aP
  rw [show (((m + 1:Nat):Int) - 1).toNat=m by omega,List.flatMap_map,List.range_eq_range']
  simp only [List.flatMap_nil,List.append_nil]
  congr 1
  funext q
  rw [Int.add_comm]
 rw [e]
def ev (n:Int):A -> Bool
 | .int i=>decide (1 <= i /\ i < n)
 | _=>false
def Ask (S:aA) (n:Int) (x:A):Prop:=x.di=false /\ bh [.int n,x] S=.ok (.bl (ev n x)) S
theorem xU {S:aA} {n i:Int}:Ask S n (.int i):=by
 by_cases h:1 <= i /\ i < n
 ·exact ⟨rfl,by rw [JI h.1 h.2];show _=R.ok (A.bl (decide (1 <= i /\ i < n))) S;rw [decide_eq_true h]⟩
 ·have:=(A8 (S:=S) (n:=n) (i:=i) (by omega)).2
  exact ⟨rfl,by rw [this];show _=R.ok (A.bl (decide (1 <= i /\ i < n))) S;rw [decide_eq_false h]⟩
theorem nM {S:aA} {n:Int} {v:A} (h:HX S n v) (hv:ev n v=false):Ask S n v:=⟨h.1,by rw [h.2,hv]⟩
theorem BO {S:aA} {n:Nat} {xs:List A} {bs:List Bool} (h:ak S n=some xs) (hb:A.zf xs=some bs):Dj (.ref n) S=.ok (.bl (bs.all fun b=>b)) S:=by
 show opt (ak S n) _=_
 rw [h]
 show opt (A.zf xs) _=_
 rw [hb];rfl
theorem Bx (g:A -> Bool):∀ (xs:List A),A.zf (xs.map fun x=>A.bl (g x))=some (xs.map g)
 | []=>rfl
 | x :: xs=>by rw [List.map_cons,lE,Bx g xs];rfl
theorem LL {S:aA} {n W:Nat} {L:List A} (hW:ak S W=some L) (ha:∀ x ∈ L,Ask S n x) (hl:L.length <= 1000):∃ S',fS [.int n,.ref W] S=.ok (.bl (decide (L.length <= 200) && L.all (ev n))) S' /\ dD S S':=by
 unfold fS lA qe
 simp only [br,bools,bM,Nat.reduceAdd,Nat.reduceSub,hW,Option.map_some,show iw .lst "list" = some true from rfl,Bool.not_true]
 by_cases c:L.length <= 200
 ·rw [decide_eq_false (show ¬ ((L.length:Int) > 200) by omega),decide_eq_true c]
  have cc:=tH (cap:=[some 0]) (src:=kP (ah 1)) (t:=oK) (e:=eFn bh (aj (ah 1) (aj (ah 0) (aI)))) (τ:=[.int n,.ref W]) (S:=S) (jQ (by simp only [br,bools]) hW) hW (fun _=>true) (fun x=>.bl (ev n x)) (fun _ _=>rfl) (fun x hx _=>by
   have:=ha x hx
   simp only [br,bools,this.1,this.2]) (by omega)
  rw [List.filter_eq_self.mpr (fun _ _=>rfl)] at cc
  simp only [br,bools,cc]
  rw [BO aN (Bx _ _),List.all_map]
  exact ⟨_,rfl,Kp.refl.lay⟩
 ·rw [decide_eq_true (show (L.length:Int) > 200 by omega),decide_eq_false c]
  simp only [br,bools,Bool.false_and]
  exact ⟨_,rfl,Kp.refl⟩
theorem Hh {S:aA} {n:Nat} {w:List Nat}:∀ x ∈ wd w,Ask S n x:=fun x hx=>by
 obtain ⟨k,_,rfl⟩:=List.mem_map.mp hx
 exact xU
theorem zR {n:Nat} {w:List Nat} (hv:∀ k ∈ w,1 <= k /\ k < n):(wd w).all (ev n)=true:=by
 rw [List.all_eq_true]
 intro x hx
 obtain ⟨k,hk,rfl⟩:=List.mem_map.mp hx
 have:=hv k hk
 exact decide_eq_true ⟨by omega,by omega⟩
theorem m_ {n:Nat} {w:List Nat} (hv:∀ k ∈ w,1 <= k /\ k < n):(Wd.led (aP 1 ((n:Int) + 1)) w).Perm (aP 1 ((n:Int) + 1)):=by
 have:∀ (w:List Nat) (l:List Int),l.length=n -> (∀ k ∈ w,1 <= k /\ k < n) -> (Wd.led l w).Perm l:=by
  intro w
  induction w with
  | nil=>intro l _ _;exact .refl _
  | cons k w ih=>
   intro l hl hv
   have hk:=hv k (List.mem_cons_self ..)
   show (Wd.led (Wd.ex l k) w).Perm l
   exact (ih _ (by rw [Wd.b_];exact hl) fun j hj=>hv j (List.mem_cons_of_mem _ hj)).trans (Wd.q_ hk.1 (by omega))
 exact this w _ (Wd.dI n) hv
theorem sM {S:aA} {n W:Nat} {w:List Nat} (hW:ak S W=some (wd w)) (hv:∀ k ∈ w,1 <= k /\ k < n) (hl:w.length <= 200) (h1:1 <= n) (h2:n <= 20):∃ S',eG [.int n,.ref W] S=.ok (.tup ((Wd.led (aP 1 ((n:Int) + 1)) w).map .int)) S' /\ dD S S':=by
 obtain ⟨S1,e1,k1⟩:=LL (S:=S) (n:=n) hW Hh (by rw [List.length_map];omega)
 rw [zR hv,List.length_map,decide_eq_true hl] at e1
 have hr:lT 1 ((n:Int) + 1):=nE (by decide) (by decide) (by omega) (by omega) (by omega)
 have ep:cX [.int n] S1=.ok (.tup ((aP 1 ((n:Int) + 1)).map .int)) S1:=by
  unfold cX gG jF
  simp only [br,bools,bM,Nat.reduceAdd,Nat.reduceSub,uo hr]
 have hW1:ak S1 W=some (wd w):=k1.lst _ _ (fun z=>z) hW
 unfold eG j8 oq
 simp only [br,iz,bools,bM,Nat.reduceAdd,Nat.reduceSub,e1,Bool.and_true,Bool.not_true,ep]
 refine mS (n:=W) (xs:=wd w) (S1:=S1) (show nK _ _=_ from jQ (by simp only [br,bools]) hW1)
  (fun i τ S2=>(∃ a3,τ=[.int n,.ref W,.tup ((Wd.led (aP 1 ((n:Int) + 1)) (w.take i)).map .int),a3]) /\ dD S1 S2)
  (fun r=>∃ S',RS.end (RS.seq r _)=.ok (.tup ((Wd.led (aP 1 ((n:Int) + 1)) w).map .int)) S' /\ dD S S') ⟨⟨_,rfl⟩,Kp.refl⟩ (fun i τ S2 hh=>hh.2.lst _ _ (fun z=>z) hW1) ?_ ?_
 ·rintro i z τ S2 hz ⟨⟨a3,rfl⟩,kp⟩
  rw [List.getElem?_map] at hz
  obtain ⟨k,hk,rfl⟩:=Option.map_eq_some_iff.mp hz
  obtain ⟨hi,ek⟩:=List.getElem?_eq_some_iff.mp hk
  have hkv:=hv k (List.mem_of_getElem? hk)
  refine ⟨[.int n,.ref W,.tup ((Wd.led (aP 1 ((n:Int) + 1)) (w.take i)).map .int),.int k],S2,rfl,.inl ?_⟩
  have e1:Wd.led (aP 1 ((n:Int) + 1)) (w.take (i + 1))=Wd.ex (Wd.led (aP 1 ((n:Int) + 1)) (w.take i)) k:=by
   rw [List.take_succ_eq_append_getElem hi,Wd.jl,ek];rfl
  have ll:(Wd.led (aP 1 ((n:Int) + 1)) (w.take i)).length=n:=by rw [Wd.gn,Wd.dI]
  obtain ⟨S3,e3,k3⟩:=Dt (S:=S2) (xs:=Wd.led (aP 1 ((n:Int) + 1)) (w.take i)) (k:=k) hkv.1 (by omega) (by omega)
  unfold oV
  simp only [br,iz,bools,e3]
  rw [e1]
  exact ⟨_,_,rfl,⟨_,rfl⟩,kp.trans k3⟩
 ·rintro τ S2 ⟨⟨a3,rfl⟩,kp⟩
  rw [List.length_map,List.take_length]
  simp only [br,bools]
  exact ⟨_,rfl,k1.trans kp⟩
theorem E1 {S:aA} {n W:Nat} {L:List A} (hW:ak S W=some L) (ha:∀ x ∈ L,Ask S n x) (hl:L.length <= 1000) (hb:200 < L.length \/ ∃ v ∈ L,ev n v=false) (h2:n <= 20):∃ S',eG [.int n,.ref W] S=.ex "NoWord" S' /\ dD S S':=by
 obtain ⟨S1,e1,k1⟩:=LL (S:=S) (n:=n) hW ha hl
 have:(decide (L.length <= 200) && L.all (ev n))=false:=by
  rw [Bool.and_eq_false_iff]
  rcases hb with z | ⟨v,hv,z⟩
  ·exact .inl (decide_eq_false (by omega))
  ·exact .inr (by rw [List.all_eq_false];exact ⟨v,hv,by rw [z];exact Bool.false_ne_true⟩)
 rw [this] at e1
 unfold eG j8 oq
 simp only [br,iz,bools,bM,Nat.reduceAdd,Nat.reduceSub,e1,Bool.not_false,JL (show n < 18446744073709551616 by omega)]
 exact ⟨_,rfl,k1⟩
theorem Lh (xs:List A) (j:Nat) (h:j <= xs.length):gx xs none (some (j:Int))=xs.take j:=by
 unfold gx
 rw [HT.iZ,HT.kq,List.drop_zero,Nat.min_eq_left (by omega),Nat.sub_zero]
theorem LA {S:aA} {us:List Int} {t:Nat} (h:t < us.length):yq (.tup (us.map .int)) none (some (t:Int)) S=.ok (.tup ((us.take t).map .int)) S:=by
 have hg:¬ (HT.er (us.map A.int).length 0 none=0 /\ HT.er (us.map A.int).length (us.map A.int).length (some (t:Int))=(us.map A.int).length):=by
  rw [HT.iZ,List.length_map]
  omega
 have hs:yq (.tup (us.map .int)) none (some (t:Int)) S=.ok (.tup (gx (us.map .int) none (some (t:Int)))) S:=cO hg
 rw [hs,Lh _ t (by rw [List.length_map];omega),List.map_take]
theorem LQ {S:aA} {us:List Int} {t:Nat} (h0:1 <= t) (h:t <= us.length):yq (.tup (us.map .int)) (some (t:Int)) none S=.ok (.tup ((us.drop t).map .int)) S:=by
 have hg:¬ (HT.er (us.map A.int).length 0 (some (t:Int))=0 /\ HT.er (us.map A.int).length (us.map A.int).length none=(us.map A.int).length):=by
  rw [HT.iZ,List.length_map]
  omega
 have hs:yq (.tup (us.map .int)) (some (t:Int)) none S=.ok (.tup (gx (us.map .int) (some (t:Int)) none)) S:=cO hg
 rw [hs]
 congr 2
 unfold gx
 rw [HT.iZ,HT.kq,List.length_map,Nat.min_eq_left (by omega),List.take_of_length_le (by simp),List.map_drop]
end K09
namespace K09
open PySem L2 Am
open Rd (up xD w_ uZ chg qc mH)
abbrev dW (w:List Int):A:=.tup (w.map .int)
theorem rE {S:aA} {xs ys:List Int} (h:xs.length + ys.length <= 16777216):aZ (.tup (xs.map .int)) (.tup (ys.map .int)) S=.ok (.tup ((xs ++ ys).map .int)) S:=by
 show gd ((xs.map A.int).length + (ys.map A.int).length <= sizeLine) _=_
 rw [List.map_append]
 exact AJ (by rw [List.length_map,List.length_map];exact h)
theorem HR {S:aA} {w:List Int} (hl:w.length <= 100):bR [dW w] S=.ok (.ref S.length) (S ++ [.lst ((chg w).map dW)]):=by
 have cr:=iT (lo:=0) (hi:=(w.length:Int) - 1) (cap:=[some 0]) (src:=gZ (az aSub (aT (f1 dX) (aj (ah 0) (aI))) (eC (.int 1)))) (t:=iD (az rG (aT (f1 uM) (aj (az aSub (az dP (ah 1) (ah 0)) (az dP (ah 1) (az aZ (ah 0) (eC (.int 1))))) (aI))) (eC (.int 1))))
  (e:=az aZ (az aZ (qS (ah 1) eL (eO (ah 0))) (gh (aj (az dP (ah 1) (az aZ (ah 0) (eC (.int 1)))) (aj (az dP (ah 1) (ah 0)) (aI))))) (qS (ah 1) (eO (az aZ (ah 0) (eC (.int 2)))) eL)) (τ:=[dW w]) (S:=S) (S1:=S)
  (gJ (by simp only [br,iz,bools,List.length_map]) (dN (by omega) (by omega)))
  (fun k=>decide (1 < uZ w k.toNat)) (fun k=>dW (xD w k.toNat)) (fun k h1 h2=>by
   have x1:eV (w.map A.int) k=some (.int (w.getD k.toNat 0)):=qu (k:=k.toNat) (by omega) (by omega)
   have x2:eV (w.map A.int) (k + 1)=some (.int (w.getD (k.toNat + 1) 0)):=qu (k:=k.toNat + 1) (by omega) (by omega)
   simp only [br,iz,bools,x1,x2];rfl) (fun k h1 h2 _=>by
   have x1:eV (w.map A.int) k=some (.int (w.getD k.toNat 0)):=qu (k:=k.toNat) (by omega) (by omega)
   have x2:eV (w.map A.int) (k + 1)=some (.int (w.getD (k.toNat + 1) 0)):=qu (k:=k.toNat + 1) (by omega) (by omega)
   have s1:yq (.tup (w.map .int)) none (some k) S=.ok (.tup ((w.take k.toNat).map .int)) S:=by
    have:=LA (S:=S) (us:=w) (t:=k.toNat) (by omega)
    rw [show ((k.toNat:Nat):Int)=k by omega] at this;exact this
   have s2:yq (.tup (w.map .int)) (some (k + 2)) none S=.ok (.tup ((w.drop (k.toNat + 2)).map .int)) S:=by
    have:=LQ (S:=S) (us:=w) (t:=k.toNat + 2) (by omega) (by omega)
    rw [show ((k.toNat + 2:Nat):Int)=k + 2 by omega] at this;exact this
   have d1:aZ (.tup ((w.take k.toNat).map .int)) (.tup [.int (w.getD (k.toNat + 1) 0),.int (w.getD k.toNat 0)]) S=.ok (.tup ((w.take k.toNat ++ [w.getD (k.toNat + 1) 0,w.getD k.toNat 0]).map .int)) S:=
    rE (ys:=[w.getD (k.toNat + 1) 0,w.getD k.toNat 0]) (by rw [List.length_take];show _ + 2 <= _;omega)
   have d2:aZ (.tup ((w.take k.toNat ++ [w.getD (k.toNat + 1) 0,w.getD k.toNat 0]).map .int)) (.tup ((w.drop (k.toNat + 2)).map .int)) S=.ok (dW (xD w k.toNat)) S:=
    rE (by rw [List.length_append,List.length_take,List.length_drop];show _ + 2 + _ <= _;omega)
   simp only [br,iz,bools,x1,x2,s1,s2,ir (show ([_,_]:List A).length <= 16777216 by simp),d1,d2]) (by omega)
 unfold bR e_ gK
 simp only [br,iz,bools,bM,Nat.reduceAdd,Nat.reduceSub,cr]
 unfold chg
 rw [List.map_map];rfl
theorem GC {S:aA} {w:List Int} (hl:w.length <= 100):cj [dW w] S=.ok (.ref S.length) (S ++ [.lst ((qc w).map dW)]):=by
 have cr:=iT (lo:=0) (hi:=(w.length:Int) - 2) (cap:=[some 0]) (src:=gZ (az aSub (aT (f1 dX) (aj (ah 0) (aI))) (eC (.int 2)))) (t:=Bq (iD (az (kI false) (az dP (ah 1) (ah 0)) (az dP (ah 1) (az aZ (ah 0) (eC (.int 2)))))) (iD (az (kI false) (aT (f1 uM) (aj (az aSub (az dP (ah 1) (ah 0)) (az dP (ah 1) (az aZ (ah 0) (eC (.int 1))))) (aI))) (eC (.int 1)))))
  (e:=az aZ (az aZ (qS (ah 1) eL (eO (ah 0))) (gh (aj (az dP (ah 1) (az aZ (ah 0) (eC (.int 1)))) (aj (az dP (ah 1) (ah 0)) (aj (az dP (ah 1) (az aZ (ah 0) (eC (.int 1)))) (aI)))))) (qS (ah 1) (eO (az aZ (ah 0) (eC (.int 3)))) eL)) (τ:=[dW w]) (S:=S) (S1:=S)
  (gJ (by simp only [br,iz,bools,List.length_map]) (dN (by omega) (by omega)))
  (fun k=>(w.getD k.toNat 0 == w.getD (k.toNat + 2) 0) && (uZ w k.toNat == 1)) (fun k=>dW (w_ w k.toNat)) (fun k h1 h2=>by
   have x1:eV (w.map A.int) k=some (.int (w.getD k.toNat 0)):=qu (k:=k.toNat) (by omega) (by omega)
   have x2:eV (w.map A.int) (k + 1)=some (.int (w.getD (k.toNat + 1) 0)):=qu (k:=k.toNat + 1) (by omega) (by omega)
   have x3:eV (w.map A.int) (k + 2)=some (.int (w.getD (k.toNat + 2) 0)):=qu (k:=k.toNat + 2) (by omega) (by omega)
   cases hq:(w.getD k.toNat 0 == w.getD (k.toNat + 2) 0) with
   | false=>simp only [br,iz,bools,x1,x3,hq,Bool.false_and]
   | true=>simp only [br,iz,bools,x1,x2,x3,hq,Bool.true_and];rfl) (fun k h1 h2 _=>by
   have x1:eV (w.map A.int) k=some (.int (w.getD k.toNat 0)):=qu (k:=k.toNat) (by omega) (by omega)
   have x2:eV (w.map A.int) (k + 1)=some (.int (w.getD (k.toNat + 1) 0)):=qu (k:=k.toNat + 1) (by omega) (by omega)
   have s1:yq (.tup (w.map .int)) none (some k) S=.ok (.tup ((w.take k.toNat).map .int)) S:=by
    have:=LA (S:=S) (us:=w) (t:=k.toNat) (by omega)
    rw [show ((k.toNat:Nat):Int)=k by omega] at this;exact this
   have s2:yq (.tup (w.map .int)) (some (k + 3)) none S=.ok (.tup ((w.drop (k.toNat + 3)).map .int)) S:=by
    have:=LQ (S:=S) (us:=w) (t:=k.toNat + 3) (by omega) (by omega)
    rw [show ((k.toNat + 3:Nat):Int)=k + 3 by omega] at this;exact this
   have d1:aZ (.tup ((w.take k.toNat).map .int)) (.tup [.int (w.getD (k.toNat + 1) 0),.int (w.getD k.toNat 0),.int (w.getD (k.toNat + 1) 0)]) S=.ok (.tup ((w.take k.toNat ++ [w.getD (k.toNat + 1) 0,w.getD k.toNat 0,w.getD (k.toNat + 1) 0]).map .int)) S:=
    rE (ys:=[w.getD (k.toNat + 1) 0,w.getD k.toNat 0,w.getD (k.toNat + 1) 0]) (by rw [List.length_take];show _ + 3 <= _;omega)
   have d2:aZ (.tup ((w.take k.toNat ++ [w.getD (k.toNat + 1) 0,w.getD k.toNat 0,w.getD (k.toNat + 1) 0]).map .int)) (.tup ((w.drop (k.toNat + 3)).map .int)) S=.ok (dW (w_ w k.toNat)) S:=
    rE (by rw [List.length_append,List.length_take,List.length_drop];show _ + 3 + _ <= _;omega)
   simp only [br,iz,bools,x1,x2,s1,s2,ir (show ([_,_,_]:List A).length <= 16777216 by simp),d1,d2]) (by omega)
 unfold cj fG iC
 simp only [br,iz,bools,bM,Nat.reduceAdd,Nat.reduceSub,cr]
 unfold qc
 rw [List.map_map];rfl
open Ti (Mv Con)
open Rd (Bf En eY up xD w_ uZ chg qc mH)
section
variable {S:aA}
theorem Dh {xs:List (List Int × A)}:cu (S ++ [.dct xs]) S.length=some xs:=oZ (by simp)
theorem ja {o:O} {n:Nat} {xs:List (List Int × A)} (h:cu S n=some xs):cu (S ++ [o]) n=some xs:=by
 have h':=iS h
 exact oZ (by rw [List.getElem?_append_left (List.getElem?_eq_some_iff.mp h').1];exact h')
theorem BW {n:Nat} {xs:List (List Int × A)} (h:cu S n=some xs):n < S.length:=(List.getElem?_eq_some_iff.mp (iS h)).1
theorem D0 {n:Nat} {ys:List (List Int × A)} (h:n < S.length):cu (S.set n (.dct ys)) n=some ys:=oZ (List.getElem?_set_self h)
theorem nt {n m:Nat} {o:O} (h:n ≠ m):cu (S.set n o) m=cu S m:=by unfold cu;rw [List.getElem?_set_ne h]
theorem nU {n m:Nat} {o:O} (h:n ≠ m):ak (S.set n o) m=ak S m:=by unfold ak;rw [List.getElem?_set_ne h]
end
theorem Ed {b:Nat -> Prop} {S S1:aA} {m:Nat} {ys:List (List Int × A)} (h:Kp b S S1) (hm:b m \/ S.length <= m):Kp b S (S1.set m (.dct ys)):=⟨by rw [List.length_set];exact h.len,fun n xs hb e=>by
 have:m ≠ n:=fun z=>by
  subst z
  rcases hm with z | z
  ·exact hb z
  ·exact absurd (bI e) (by omega)
 rw [nU this]
 exact h.lst n xs hb e⟩
def vl:Option (List Nat) -> A
 | none=>.non
 | some u=>dW (up u)
def kvs (es:List En):List (List Int × A):=es.map fun e=>(up e.1,vl e.2)
def wZ (es:List En):List A:=es.map fun e=>dW (up e.1)
theorem qR:∀ {es:List En} {w:List Nat},(fK (kvs es) (up w)).isSome=decide (w ∈ es.map (·.1))
 | [],w=>rfl
 | e :: es,w=>by
  show (fK ((up e.1,vl e.2) :: kvs es) (up w)).isSome=_
  by_cases c:e.1=w
  ·rw [lq (by rw [c]),decide_eq_true (by rw [<- c];simp)];rfl
  ·rw [lu (fun z=>c (Rd.qZ z)),qR,decide_eq_decide]
   constructor
   ·exact fun z=>List.mem_cons_of_mem _ z
   ·intro z
    rcases List.mem_cons.mp z with z | z
    ·exact absurd z.symm c
    ·exact z
theorem wU:∀ {es:List En} {i:Nat} {w:List Nat} {q:Option (List Nat)},(es.map (·.1)).Nodup -> es[i]?=some (w,q) -> fK (kvs es) (up w)=some (vl q)
 | e :: es,0,w,q,_,h=>by
  cases h
  exact lq rfl
 | e :: es,i + 1,w,q,nd,h=>by
  have h':es[i]?=some (w,q):=by simpa using h
  have hn:=List.nodup_cons.mp nd
  show fK ((up e.1,vl e.2) :: kvs es) (up w)=_
  rw [lu fun z=>hn.1 (by show e.1 ∈ es.map (·.1);rw [Rd.qZ z];exact List.mem_map.mpr ⟨_,List.mem_of_getElem? h',rfl⟩)]
  exact wU hn.2 h'
theorem DY {es:List En} {w u:List Nat} (h:w ∉ es.map (·.1)):putD (kvs es) (up w) (dW (up u))=kvs (es ++ [(w,some u)]):=by
 unfold putD
 rw [qR,decide_eq_false h,if_neg Bool.false_ne_true]
 unfold kvs
 rw [List.map_append];rfl
theorem j9 (w:List Int):A.ints (w.map .int)=some w:=ints_map w
theorem Dw {S:aA} {D:Nat} {es:List En} {w:List Nat} (h:cu S D=some (kvs es)):C7 true (dW (up w)) (.ref D) S=.ok (.bl (!decide (w ∈ es.map (·.1)))) S:=by
 show opt (cu S D) _=_
 rw [h,bw]
 show opt (A.ints ((up w).map .int)) _=_
 rw [j9,bw,<- qR];rfl
theorem inner {S0 S T:aA} {D W M L n:Nat} {s u:List Nat} {r:Option (List Nat)} {es:List En} (hs:eY L s) (hL:L <= 8) (hD:cu S D=some (kvs es)) (hW:ak S W=some (wZ es)) (hM:ak S M=some ((mH (up u)).map dW)) (b:Bf s es n) (hu:es[n]?=some (u,r))
  (h0:S0.length <= D) (h1:S0.length <= W) (hDW:D ≠ W) (hDM:D ≠ M) (hWM:W ≠ M) (kp:dD S0 S) {a0 a1 a2 a3 a8:A} (hsrc:eU [a0,a1,a2,a3,.ref D,.ref W,.int n,dW (up u),a8] T=.ok (gH M ((mH (up u)).map dW).length) S)
  (Post:RS -> Prop) (hp:∀ es' a8' S',cu S' D=some (kvs es') -> ak S' W=some (wZ es') -> Bf s es' (n + 1) -> dD S0 S' -> Post (.nx [a0,a1,a2,a3,.ref D,.ref W,.int n,dW (up u),a8'] S')) :
  Post (kD eU (cK 8) fZ [a0,a1,a2,a3,.ref D,.ref W,.int n,dW (up u),a8] T):=by
 refine mS (n:=M) (xs:=(mH (up u)).map dW) (S1:=S) hsrc
  (fun i τ S'=>∃ es' a8',τ=[a0,a1,a2,a3,.ref D,.ref W,.int n,dW (up u),a8'] /\ cu S' D=some (kvs es') /\ ak S' W=some (wZ es') /\ ak S' M=some ((mH (up u)).map dW) /\ Bf s es' n /\ es'[n]?=some (u,r) /\ (∀ x ∈ (mH (up u)).take i,∃ v,x=up v /\ v ∈ es'.map (·.1)) /\ dD S0 S')
  Post ⟨es,a8,rfl,hD,hW,hM,b,hu,fun x hx=>absurd hx (by simp),kp⟩ (fun i τ S' hh=>by obtain ⟨_,_,_,_,_,z,_⟩:=hh;exact z) ?_ ?_
 ·rintro i z τ S' hz ⟨es',a8',rfl,hD',hW',hM',b',hu',hin,kp'⟩
  rw [List.getElem?_map] at hz
  obtain ⟨x,hx,rfl⟩:=Option.map_eq_some_iff.mp hz
  obtain ⟨v,rfl,hmv⟩:=Rd.EB (List.mem_of_getElem? hx)
  refine ⟨[a0,a1,a2,a3,.ref D,.ref W,.int n,dW (up u),dW (up v)],S',rfl,.inl ?_⟩
  have ht:(mH (up u)).take (i + 1)=(mH (up u)).take i ++ [up v]:=by
   obtain ⟨hi,e⟩:=List.getElem?_eq_some_iff.mp hx
   rw [List.take_succ_eq_append_getElem hi,e]
  unfold fZ
  by_cases c:v ∈ es'.map (·.1)
  ·simp only [br,iz,bools,Dw hD',decide_eq_true c,Bool.not_true]
   refine ⟨_,_,rfl,es',_,rfl,hD',hW',hM',b',hu',fun y hy=>?_,kp'⟩
   rw [ht] at hy
   rcases List.mem_append.mp hy with z | z
   ·exact hin y z
   ·exact ⟨v,by simpa using z,c⟩
  ·have hcv:Con s v:=(b'.co u (List.mem_map.mpr ⟨_,List.mem_of_getElem? hu',rfl⟩)).step hmv
   have room:=b'.room hs hL hcv c
   have lk:(kvs es').length=es'.length:=List.length_map ..
   have lw:(wZ es').length=es'.length:=List.length_map ..
   have sd:xm (.ref D) (dW (up v)) (dW (up u)) S'=.ok () (S'.set D (.dct (kvs (es' ++ [(v,some u)])))):=by
    show opt (cu S' D) _=_
    rw [hD',bw]
    show opt (A.ints ((up v).map .int)) _=_
    rw [j9,bw,AJ (by rw [lk,sizeLine_eq];exact room),DY c]
   have lD:=BW hD'
   have hW2:ak (S'.set D (.dct (kvs (es' ++ [(v,some u)])))) W=some (wZ es'):=by rw [nU hDW];exact hW'
   have ew:wZ es' ++ [dW (up v)]=wZ (es' ++ [(v,some u)]):=by unfold wZ;rw [List.map_append];rfl
   have lW:=bI hW2
   have gw:GO (ah 4) (ah 8) (dW (up u)) [a0,a1,a2,a3,.ref D,.ref W,.int n,dW (up u),dW (up v)] S'=.ok [a0,a1,a2,a3,.ref D,.ref W,.int n,dW (up u),dW (up v)] (S'.set D (.dct (kvs (es' ++ [(v,some u)])))):=by
    show (xm (.ref D) (dW (up v)) (dW (up u)) S').bind _=_
    rw [sd];rfl
   simp only [br,iz,bools,Dw hD',decide_eq_false c,Bool.not_false,gw,hW2,E4 (show (wZ es').length < 16777216 by rw [lw];exact room),ew]
   refine ⟨_,_,rfl,es' ++ [(v,some u)],_,rfl,?_,dc lW,?_,b'.more hu' hmv c,?_,fun y hy=>?_,?_⟩
   ·rw [nt hDW.symm];exact D0 lD
   ·rw [bA hWM,nU hDM];exact hM'
   ·rw [List.getElem?_append_left (List.getElem?_eq_some_iff.mp hu').1];exact hu'
   ·rw [ht] at hy
    rw [List.map_append]
    rcases List.mem_append.mp hy with z | z
    ·obtain ⟨v',e1,e2⟩:=hin y z
     exact ⟨v',e1,List.mem_append_left _ e2⟩
    ·exact ⟨v,by simpa using z,List.mem_append_right _ (by simp)⟩
   ·exact (Ed kp' (.inr h0)).set (.inr h1)
 ·rintro τ S' ⟨es',a8',rfl,hD',hW',hM',b',hu',hin,kp'⟩
  rw [List.length_map,List.take_length] at hin
  exact hp es' a8' S' hD' hW' (b'.next hu' fun w' hw'=>by
   obtain ⟨v,e,hv⟩:=hin (up w') (Rd.GU hw')
   rw [Rd.qZ e];exact hv) kp'
end K09
namespace K09
open PySem L2 Am
open Ti (Mv Con)
open Rd (Bf En eY up xD w_ uZ chg qc mH)
def Ch:List (List Nat) -> Prop
 | []=>True
 | [_]=>True
 | a :: b :: r=>Mv a b /\ Ch (b :: r)
theorem Ch.cons {a:List Nat} {l:List (List Nat)} (h:Ch l) (hm:∀ b,l.head?=some b -> Mv a b):Ch (a :: l):=by
 cases l with
 | nil=>trivial
 | cons b r=>exact ⟨hm b rfl,h⟩
theorem Tab.rev {S:aA} {n:Nat} {rs:List Nat} {T:List (List Int)} (h:Tab S n rs T):Tab (S ++ [O.lst (rs.reverse.map .ref)]) S.length rs.reverse T.reverse:=by
 have hlt:=h.rows.lt
 have rr:∀ {rs:List Nat} {T:List (List Int)},Rows S rs T -> Rows S rs.reverse T.reverse:=by
  intro rs
  induction rs with
  | nil=>intro T h;cases T with | nil=>trivial | cons _ _=>exact h.elim
  | cons r rs ih=>
   intro T h
   cases T with
   | nil=>exact h.elim
   | cons x T=>rw [List.reverse_cons,List.reverse_cons];exact (ih h.2).app ⟨h.1,trivial⟩
 refine ⟨aN,(rr h.rows).mono fun r _ xs e=>aO e,?_⟩
 rw [List.nodup_cons]
 refine ⟨fun z=>?_,((List.reverse_perm rs).nodup_iff).mpr (List.nodup_cons.mp h.nd).2⟩
 have:=hlt _ (List.mem_reverse.mp z)
 omega
theorem yZ {S:aA} {D n:Nat} {s t:List Nat} {es:List En} (hD:cu S D=some (kvs es)) (b:Bf s es n) (ht:t ∈ es.map (·.1)) (hf:es.length <= 16777216) :
  ∃ (V:Nat) (rs:List Nat) (R:List (List Nat)) (S':aA),gb [.ref D,dW (up t)] S=.ok (.ref V) S' /\ Tab S' V rs (R.map up) /\ R.head?=some s /\ R.getLast?=some t /\ Ch R /\ R.length <= 16777216 /\ S.length <= V /\ (∀ r ∈ rs,S.length <= r) /\ dD S S':=by
 obtain ⟨⟨t',q0⟩,hm,rfl⟩:=List.mem_map.mp ht
 obtain ⟨i0,hi0,e0⟩:=List.getElem_of_mem hm
 have e0:es[i0]?=some (t',q0):=by rw [List.getElem?_eq_getElem hi0,e0]
 have key:=kC (t:=jI) (c:=jM)
  (fun τ T=>∃ (cur:Option (Nat × List Nat × Option (List Nat))) (pth:List (List Nat)) (rs:List Nat),τ=[.ref D,vl (cur.map (·.2.1)),.ref S.length] /\ Tab T S.length rs (pth.map up) /\ cu T D=some (kvs es) /\ (∀ r ∈ rs,S.length <= r) /\ dD S T /\
   (match cur with
    | none=>pth.length <= es.length /\ pth.getLast?=some s /\ Ch pth.reverse /\ pth.head?=some t'
    | some (i,w,q)=>es[i]?=some (w,q) /\ pth.length + i < es.length /\ Ch ((pth ++ [w]).reverse) /\ (pth ++ [w]).head?=some t'))
  (fun τ T=>es.length + 2 - ((ak T S.length).getD []).length + (match τ with
   | [_,.non,_]=>0
   | _=>1))
  (fun r=>∃ (V:Nat) (rs:List Nat) (R:List (List Nat)) (S':aA),RS.end (RS.seq r (cz (F0 yV (ah 2))))=.ok (.ref V) S' /\ Tab S' V rs (R.map up) /\ R.head?=some s /\ R.getLast?=some t' /\ Ch R /\ R.length <= 16777216 /\ S.length <= V /\ (∀ r ∈ rs,S.length <= r) /\ dD S S') ?_ 100000000
 ·unfold gb nP r_
  simp only [br,iz,bools,bM,Nat.reduceAdd,Nat.reduceSub]
  have dl:=BW hD
  refine key _ _ ⟨some (i0,t',q0),[],[],rfl,Tab.nil aN,ja hD,fun r hr=>absurd hr (by simp),Kp.refl.lay,e0,by simpa using hi0,trivial,rfl⟩ ?_
  show es.length + 2 - _ + 1 < _
  omega
 ·rintro τ T ⟨cur,pth,rs,rfl,tb,hD',hr,kp,h⟩
  have lt:=tb.len
  rw [List.length_map] at lt
  unfold jI
  cases cur with
  | none=>
   left
   obtain ⟨h1,h2,h3,h4⟩:=h
   have is:AH true (vl (Option.map (fun x:Nat × List Nat × Option (List Nat)=>x.2.1) none)) .non T=.ok (.bl false) T:=rfl
   refine ⟨T,by simp only [br,iz,bools];rfl,T.length,rs.reverse,pth.reverse,T ++ [O.lst (rs.reverse.map .ref)],?_,?_,?_,?_,h3,?_,kp.len,fun r hr'=>hr r (List.mem_reverse.mp hr'),kp.lay⟩
   ·simp only [br,iz,bools,tb.top,List.map_reverse]
   ·have:=Tab.rev tb;rw [<- List.map_reverse] at this;exact this
   ·rw [List.head?_reverse];exact h2
   ·rw [List.getLast?_reverse];exact h4
   ·rw [List.length_reverse];omega
  | some c=>
   obtain ⟨i,w,q⟩:=c
   right
   obtain ⟨h1,h2,h3,h4⟩:=h
   refine ⟨T,by simp only [br,iz,bools];rfl,.inl ?_⟩
   have tl:=tb.top
   have lS:=bI tl
   have push:=Tab.push (ys:=up w) tb
   have ll:=wU b.nd h1
   have hsD:S.length ≠ D:=fun z=>by
    have:=iS hD'
    have h2:=aQ tl
    rw [z] at h2
    rw [h2] at this
    cases this
   obtain ⟨T2,hT2⟩:∃ T2,T2=(T ++ [O.lst ((up w).map A.int)]).set S.length (.lst ((rs ++ [T.length]).map .ref)):=⟨_,rfl⟩
   rw [<- hT2] at push
   have hD2:cu T2 D=some (kvs es):=by rw [hT2,nt hsD];exact ja hD'
   have kp2:dD S T2:=by rw [hT2];exact kp.lay.set (.inr (Nat.le_refl _))
   have tl1:ak (T ++ [O.lst ((up w).map A.int)]) S.length=some (rs.map .ref):=aO tl
   have ap:jm (.ref S.length) [.ref T.length] (T ++ [O.lst ((up w).map A.int)])=.ok .non T2:=by
    rw [jS,tl1,bw,AJ (by rw [List.length_map,sizeLine_eq,lt];omega),hT2,List.map_append];rfl
   have ix:Eo (.ref D) (dW (up w)) T2=.ok (vl q) T2:=by
    show opt (cu T2 D) _=_
    rw [hD2,bw]
    show opt (A.ints ((up w).map .int)) _=_
    rw [j9,bw,ll,bw]
   have vu:A.di (vl q)=false:=by cases q <;> rfl
   unfold jM
   have e7:vl (Option.map (fun x:Nat × List Nat × Option (List Nat)=>x.2.1) (some (i,w,q)))=dW (up w):=rfl
   rw [e7]
   simp only [br,iz,bools,tl,ap,ix,vu]
   have len2:((ak T2 S.length).getD []).length=rs.length + 1:=by rw [push.top,Option.getD_some,List.length_map,List.length_append];rfl
   have hr2:∀ r ∈ rs ++ [T.length],S.length <= r:=fun r hr'=>by
    rcases List.mem_append.mp hr' with z | z
    ·exact hr r z
    ·have:r=T.length:=by simpa using z
     rw [this];exact kp.len
   have pm:(pth ++ [w]).map up=pth.map up ++ [up w]:=by rw [List.map_append];rfl
   rcases b.pr i w q h1 with ⟨z1,z2⟩ | ⟨j,r',u,hj,e1,e2,e3⟩
   ·subst z1 z2
    refine ⟨_,_,rfl,⟨none,pth ++ [w],rs ++ [T.length],rfl,by rw [pm];exact push,hD2,hr2,kp2,by rw [List.length_append];show _ + 1 <= _;omega,?_,h3,h4⟩,?_⟩
    ·rw [List.getLast?_append]
     have:=b.hd
     rw [h1] at this
     cases this
     rfl
    ·simp only [len2,tl,Option.getD_some,List.length_map]
     show es.length + 2 - (rs.length + 1) + 0 < es.length + 2 - rs.length + 1
     omega
   ·subst e2
    refine ⟨_,_,rfl,⟨some (j,u,r'),pth ++ [w],rs ++ [T.length],rfl,by rw [pm];exact push,hD2,hr2,kp2,e1,by rw [List.length_append];show _ + 1 + _ < _;omega,?_,?_⟩,?_⟩
    ·rw [List.reverse_append]
     refine Ch.cons h3 fun b' hb'=>?_
     rw [List.reverse_append] at hb'
     cases hb'
     exact e3
    ·rw [List.head?_append,h4];rfl
    ·simp only [len2,tl,Option.getD_some,List.length_map]
     show es.length + 2 - (rs.length + 1) + 1 < es.length + 2 - rs.length + 1
     omega
end K09
namespace K09
open PySem L2 Am
open Ti (Mv Con Red)
open Rd (Bf En eY up xD w_ uZ chg qc mH)
open Fw (j0 Va rg)
theorem Jo (w:List Nat):wd w=(up w).map A.int:=by unfold wd;rw [List.map_map];rfl
def Road (S:aA) (B V:Nat) (s t:List Nat):Prop:=∃ (rs:List Nat) (R:List (List Nat)),Tab S V rs (R.map up) /\ R.head?=some s /\ R.getLast?=some t /\ Ch R /\ R.length <= 16777216 /\ B <= V /\ ∀ r ∈ rs,B <= r
theorem zP {S:aA} {I J L:Nat} {s t:List Nat} (hI:ak S I=some (wd s)) (hJ:ak S J=some (wd t)) (hs:eY L s) (hL:L <= 8) (hc:Con s t):∃ (V:Nat) (S':aA),dF [.ref I,.ref J] S=.ok (.ref V) S' /\ Road S' S.length V s t /\ dD S S':=by
 have lI:=bI hI
 have hl:s.length <= 8:=by rw [hs.1];exact hL
 have ed:CA (ah 2) (eC .non) [.ref I,.ref J,dW (up s),dW (up t),.dY,.dY,.dY,.dY,.dY] S=.ok (.ref S.length) (S ++ [.dct (kvs [(s,none)])]):=by
  show opt (A.ints ((up s).map .int)) _=_
  rw [j9,bw];rfl
 have l1:(S ++ [O.dct (kvs [(s,none)])]).length=S.length + 1:=by simp
 have key:=kC (t:=fX) (c:=f_)
  (fun τ T=>∃ (a7 a8:A) (es:List En) (n:Nat),τ=[.ref I,.ref J,dW (up s),dW (up t),.ref S.length,.ref (S.length + 1),.int n,a7,a8] /\ cu T S.length=some (kvs es) /\ ak T (S.length + 1)=some (wZ es) /\ Bf s es n /\ dD S T)
  (fun τ T=>match τ with
   | [_,_,_,_,_,_,.int n,_,_]=>16777217 - n.toNat
   | _=>0)
  (fun r=>∃ (V:Nat) (S':aA),RS.end (RS.seq r (cz (eFn gb (aj (ah 4) (aj (ah 3) (aI))))))=.ok (.ref V) S' /\ Road S' S.length V s t /\ dD S S') ?_ 100000000
 ·unfold dF g_ j6
  simp only [br,iz,bools,bM,Nat.reduceAdd,Nat.reduceSub,hI,hJ,Jo,ed,l1]
  refine key _ _ ⟨_,_,[(s,none)],0,rfl,ja Dh,?_,Bf.start s,Kp.refl.lay.lay⟩ ?_
  ·rw [<- l1];exact aN
  ·show 16777217 - _ < _;omega
 ·rintro τ T ⟨a7,a8,es,n,rfl,hD,hW,b,kp⟩
  unfold fX
  by_cases c:t ∈ es.map (·.1)
  ·left
   refine ⟨T,by simp only [br,iz,bools,Dw hD,decide_eq_true c,Bool.not_true],?_⟩
   obtain ⟨V,rs,R,S',e,tb,r1,r2,r3,r4,r5,r6,kp2⟩:=yZ hD b c (b.few hs hL)
   have kl:=kp.len
   simp only [br,iz,bools,e]
   exact ⟨_,_,rfl,⟨rs,R,tb,r1,r2,r3,r4,by omega,fun r hr=>Nat.le_trans kl (r6 r hr)⟩,kp.trans kp2⟩
  ·right
   refine ⟨T,by simp only [br,iz,bools,Dw hD,decide_eq_false c,Bool.not_false],.inl ?_⟩
   have hn:=b.goes hc c
   have hf:=b.few hs hL
   obtain ⟨u,r,hu⟩:∃ u r,es[n]?=some (u,r):=⟨es[n].1,es[n].2,by rw [List.getElem?_eq_getElem hn]⟩
   have hlu:(up u).length <= 100:=by
    rw [Rd.nA,(Rd.jo hs (b.co u (List.mem_map.mpr ⟨_,List.mem_of_getElem? hu,rfl⟩))).1];omega
   have ia:eV (wZ es) (n:Int)=some (dW (up u)):=lK rfl (by unfold wZ;rw [List.getElem?_map,hu];rfl)
   have c1:=HR (S:=T) hlu
   have c2:=GC (S:=T ++ [.lst ((chg (up u)).map dW)]) hlu
   have lt:S.length + 1 < T.length:=bI hW
   obtain ⟨M,hM⟩:∃ M,M=(T ++ [O.lst ((chg (up u)).map dW)] ++ [O.lst ((qc (up u)).map dW)]).length:=⟨_,rfl⟩
   have hMl:M=T.length + 2:=by rw [hM];simp
   have ad:aZ (.ref T.length) (.ref (T ++ [O.lst ((chg (up u)).map dW)]).length) (T ++ [O.lst ((chg (up u)).map dW)] ++ [O.lst ((qc (up u)).map dW)])=.ok (.ref M) (T ++ [O.lst ((chg (up u)).map dW)] ++ [O.lst ((qc (up u)).map dW)] ++ [O.lst ((mH (up u)).map dW)]):=by
    rw [qj (aO aN) aN ?_,hM]
    ·unfold mH;rw [List.map_append]
    ·rw [List.length_map,List.length_map]
     have q1:(chg (up u)).length <= 100:=by
      unfold chg
      rw [List.length_map]
      exact Nat.le_trans (List.length_filter_le _ _) (by rw [cJ];omega)
     have q2:(qc (up u)).length <= 100:=by
      unfold qc
      rw [List.length_map]
      exact Nat.le_trans (List.length_filter_le _ _) (by rw [cJ];omega)
     omega
   obtain ⟨U,hU⟩:∃ U,U=T ++ [O.lst ((chg (up u)).map dW)] ++ [O.lst ((qc (up u)).map dW)] ++ [O.lst ((mH (up u)).map dW)]:=⟨_,rfl⟩
   rw [<- hU] at ad
   have hMU:ak U M=some ((mH (up u)).map dW):=by rw [hU,hM];exact aN
   have hDU:cu U S.length=some (kvs es):=by rw [hU];exact ja (ja (ja hD))
   have hWU:ak U (S.length + 1)=some (wZ es):=by rw [hU];exact aO (aO (aO hW))
   have kU:dD S U:=by rw [hU];exact kp.lay.lay.lay
   have hsrc:eU [.ref I,.ref J,dW (up s),dW (up t),.ref S.length,.ref (S.length + 1),.int n,dW (up u),a8] T=.ok (gH M ((mH (up u)).map dW).length) U:=
    jQ (by simp only [br,iz,bools,c1,c2,ad]) hMU
   unfold f_
   simp only [br,iz,bools,hW,ia]
   obtain ⟨es',a8',S',ef,h1,h2,h3,h4⟩:=inner (S0:=S) (T:=T) hs hL hDU hWU hMU b hu (Nat.le_refl _) (by omega) (by omega) (by omega) (by omega) kU hsrc
    (fun r=>∃ es' a8' S',r=.nx [.ref I,.ref J,dW (up s),dW (up t),.ref S.length,.ref (S.length + 1),.int n,dW (up u),a8'] S' /\ cu S' S.length=some (kvs es') /\ ak S' (S.length + 1)=some (wZ es') /\ Bf s es' (n + 1) /\ dD S S')
    (fun es' a8' S' h1 h2 h3 h4=>⟨es',a8',S',rfl,h1,h2,h3,h4⟩)
   rw [ef]
   simp only [br,iz,bools]
   refine ⟨_,_,rfl,⟨dW (up u),a8',es',n + 1,?_,h1,h2,h3,h4⟩,?_⟩
   ·rw [show (((n + 1:Nat)):Int)=(n:Int) + 1 by omega]
   ·show 16777217 - ((n:Int) + 1).toNat < 16777217 - (n:Int).toNat
    omega
theorem y_ {S:aA} {n W:Nat} {w:List Nat} (hW:ak S W=some (wd w)) (h1:n <= 9) (h2:w.length <= 8):cL [.int n,.ref W] S=.ok (.bl false) S:=by
 unfold cL gp iX
 simp only [br,iz,bools,bM,Nat.reduceAdd,Nat.reduceSub,hW,List.length_map,decide_eq_false (show ¬ ((9:Int) < (n:Int)) by omega),decide_eq_false (show ¬ ((8:Int) < (w.length:Int)) by omega)]
theorem DT {S:aA} {n I J:Nat} {s t:List Nat} (hI:ak S I=some (wd s)) (hJ:ak S J=some (wd t)) (h1:1 <= n) (h2:n <= 9) (rs:Red n s) (rt:Red n t) (he:Wd.led (rg n) s=Wd.led (rg n) t) (hl:s.length <= 8):∃ (V:Nat) (S':aA),c_ [.int n,.ref I,.ref J] S=.ok (.ref V) S' /\ Road S' S.length V s t /\ dD S S':=by
 have ht:t.length=s.length:=by rw [rt.2,<- he,<- rs.2]
 obtain ⟨S1,e1,k1⟩:=sM (S:=S) hI rs.1 (by omega) h1 (by omega)
 have hI1:=k1.lst _ _ (fun z=>z) hI
 have hJ1:=k1.lst _ _ (fun z=>z) hJ
 obtain ⟨S2,e2,k2⟩:=sM (S:=S1) hJ1 rt.1 (by omega) h1 (by omega)
 rw [show Wd.led (aP 1 ((n:Int) + 1)) t=Wd.led (aP 1 ((n:Int) + 1)) s from he.symm] at e2
 have hI2:=k2.lst _ _ (fun z=>z) hI1
 have hJ2:=k2.lst _ _ (fun z=>z) hJ1
 have lo:(Wd.led (aP 1 ((n:Int) + 1)) s).length=n:=by rw [Wd.gn,Wd.dI]
 have wi:=uW lo h1
 rw [show Iv.inv (Wd.led (aP 1 ((n:Int) + 1)) s)=s.length from rs.2.symm] at wi
 obtain ⟨S3,e3,k3⟩:=rB (S:=S2) (n:=n) lo (by omega)
 rw [wi] at e3
 have hI3:=k3.lst _ _ (fun z=>z) hI2
 have hJ3:=k3.lst _ _ (fun z=>z) hJ2
 obtain ⟨S4,e4,k4⟩:=rB (S:=S3) (n:=n) lo (by omega)
 rw [wi] at e4
 have hI4:=k4.lst _ _ (fun z=>z) hI3
 have hJ4:=k4.lst _ _ (fun z=>z) hJ3
 have e5:=y_ hI4 h2 hl
 have con:=Ti.y9 s.length n s t rfl rs rt he
 obtain ⟨V,S6,e6,rd,k6⟩:=zP (S:=S4) (L:=s.length) hI4 hJ4 ⟨rfl,fun k hk=>by have:=rs.1 k hk;omega⟩ hl con
 have kk:=((k1.trans k2).trans k3).trans k4
 unfold c_ jO lG
 simp only [br,iz,bools,bM,Nat.reduceAdd,Nat.reduceSub,e1,e2,dB,decide_true,Bool.not_true,hI2,hJ3,List.length_map,e3,e4,ht,beq_self_eq_true,e5,e6]
 obtain ⟨rs',R,r1,r2,r3,r4,r5,r6,r7⟩:=rd
 have:=kk.len
 exact ⟨_,_,rfl,⟨rs',R,r1,r2,r3,r4,r5,by omega,fun r hr=>Nat.le_trans this (r7 r hr)⟩,kk.trans k6⟩
end K09
namespace K09
open PySem L2 Am
open Ti (Mv Con Red)
open Rd (Bf En eY up xD w_ uZ chg qc mH)
open Fw (j0 Va rg)
theorem sL:∀ {w:List Nat} {l:List Int},Wd.eT l w -> Iv.inv (Wd.led l w)=Iv.inv l + w.length
 | [],_,_=>rfl
 | k :: w,l,h=>by
  show Iv.inv (Wd.led (Wd.ex l k) w)=_
  rw [sL h.2.2.2,Fw.uI h.1 h.2.1 h.2.2.1,List.length_cons];omega
theorem Ct {n:Nat} {w:List Nat} (h:Wd.eT (aP 1 ((n:Int) + 1)) w):Red n w:=
 ⟨fun k hk=>by have:=h.valid k hk;rwa [Wd.dI] at this,by
  have:=sL h
  rw [show Iv.inv (aP 1 ((n:Int) + 1))=0 from Fw.Az n] at this
  show _=Iv.inv (Wd.led (aP 1 ((n:Int) + 1)) w)
  omega⟩
theorem A0 {S:aA} {b n:Nat} (h:rm S b) (h1:2 <= n) (h2:n <= 20) :
  ∃ (w:List Nat) (W:Nat) (S':aA),ez [.ref b,.int n,.int 10] S=.ok (.ref W) S' /\ ak S' W=some (wd w) /\ Wd.eT (aP 1 ((n:Int) + 1)) w /\ w.length <= 10 /\ rm S' b /\ Kp (·=b) S S' /\ S.length <= W:=by
 have hbS:b < S.length:=by obtain ⟨_,_,e,_⟩:=h;exact bI e
 unfold ez iJ lR
 simp only [br,bools,bM,Nat.reduceAdd,Nat.reduceSub,pT (nE (show (-1000000:Int) <= 1 by decide) (by decide) (show -1000000 <= (n:Int) + 1 by omega) (by omega) (by omega))]
 have lW:(S ++ [O.lst ((aP 1 ((n:Int) + 1)).map .int)]).length=S.length + 1:=by rw [List.length_append];rfl
 have k0:dD S (S ++ [.lst ((aP 1 ((n:Int) + 1)).map .int)] ++ [.lst []]):=Kp.refl.lay.lay
 obtain ⟨d,S1,e1,d0,d1,hb1,k1⟩:=digit (m:=10 + 1) (h.kp k0 fun z=>z) (by decide) (by decide)
 have g1:ak S1 S.length=some ((aP 1 ((n:Int) + 1)).map .int):=k1.lst _ _ (by omega) (aO aN)
 have g2:ak S1 (S ++ [O.lst ((aP 1 ((n:Int) + 1)).map .int)]).length=some []:=k1.lst _ _ (by omega) aN
 rw [lW] at g2
 refine mT (lo:=0) (hi:=d) (S1:=S1) (show jC _ _=_ from gJ (by simp only [br,bools,e1]) (dN (by omega) (by omega)))
  (fun i τ S2=>∃ (w:List Nat) (a5 a6 a7:A),τ=[.ref b,.int n,.int 10,.ref S.length,.ref (S ++ [O.lst ((aP 1 ((n:Int) + 1)).map .int)]).length,a5,a6,a7] /\ ak S2 S.length=some ((Wd.led (aP 1 ((n:Int) + 1)) w).map .int) /\ ak S2 (S.length + 1)=some (wd w) /\ Wd.eT (aP 1 ((n:Int) + 1)) w /\ w.length <= i /\ rm S2 b /\ Kp (·=b) S S2)
  (fun r=>∃ (w:List Nat) (W:Nat) (S':aA),RS.end (RS.seq r _)=.ok (.ref W) S' /\ ak S' W=some (wd w) /\ Wd.eT (aP 1 ((n:Int) + 1)) w /\ w.length <= 10 /\ rm S' b /\ Kp (·=b) S S' /\ S.length <= W)
  ⟨[],_,_,_,rfl,g1,g2,trivial,Nat.le_refl _,hb1,k0.of0.trans k1⟩ ?_ ?_
 ·rintro i τ S2 hi ⟨w,a5,a6,a7,rfl,hL,hW,hr,hwl,hb2,k2⟩
  left
  have ll:(Wd.led (aP 1 ((n:Int) + 1)) w).length=n:=by rw [Wd.gn,Wd.dI]
  generalize hl':Wd.led (aP 1 ((n:Int) + 1)) w=l at hL ll
  rw [lW]
  have ec:=iT (cap:=[some 3]) (t:=iD (az sD (az dP (ah 1) (az aSub (ah 0) (eC (.int 1)))) (az dP (ah 1) (ah 0)))) (e:=ah 0) (τ:=[.ref b,.int n,.int 10,.ref S.length,.ref (S.length + 1),.int (0 + (i:Int)),a6,a7]) (src:=fJ (eC (.int 1)) (ah 1)) (S:=S2) (S1:=S2) (lo:=1) (hi:=(n:Int))
   (iK (S1:=S2) (by simp only [br,bools]) (by simp only [br,bools]) (dN (by omega) (by omega)) (dN (by omega) (by omega))) (fun k=>decide (l.getD (k - 1).toNat 0 < l.getD k.toNat 0)) A.int
   (fun k c0 c1=>by
    have a1:eV (l.map A.int) k=some (.int (l.getD k.toNat 0)):=qu (k:=k.toNat) (by omega) (by omega)
    have a2:eV (l.map A.int) (k - 1)=some (.int (l.getD (k - 1).toNat 0)):=qu (k:=(k - 1).toNat) (by omega) (by omega)
    simp only [br,bools,hL,a1,a2]) (fun k _ _ _=>by simp only [br,bools]) (by omega)
  generalize hks:(aP 1 (n:Int)).filter (fun k=>decide (l.getD (k - 1).toNat 0 < l.getD k.toNat 0))=ks at ec
  have hmem:∀ k ∈ ks,1 <= k /\ k < n /\ l.getD (k - 1).toNat 0 < l.getD k.toNat 0:=fun k hk=>by
   rw [<- hks] at hk
   obtain ⟨q1,q2⟩:=List.mem_filter.mp hk
   have:=dj.mp q1
   exact ⟨this.1,this.2,by simpa using q2⟩
  have hkl:ks.length <= 20:=by
   rw [<- hks]
   refine Nat.le_trans (List.length_filter_le _ _) ?_
   rw [cJ];omega
  have k3:dD S2 (S2 ++ [O.lst (ks.map A.int)]):=Kp.refl.lay
  have g3:ak (S2 ++ [O.lst (ks.map A.int)]) S2.length=some (ks.map A.int):=aN
  have l2:=k2.len
  have lL:=bI hL
  have lW2:=bI hW
  unfold jz
  simp only [br,bools,ec,g3,List.length_map]
  by_cases hz:ks=[]
  ·subst hz
   rw [show decide ((0:Int) < (([]:List Int).length:Int))=false from rfl]
   simp only [br,bools]
   exact ⟨_,_,rfl,w,_,_,_,rfl,by rw [hl'];exact aO hL,aO hW,hr,by omega,hb2.kp k3 fun z=>z,k2.trans k3.of0⟩
  ·have hpos:0 < ks.length:=List.length_pos_iff.mpr hz
   rw [decide_eq_true (show (0:Int) < (ks.length:Int) by omega)]
   obtain ⟨e,S4,e4,f0,f1',hb4,k4⟩:=digit (m:=(ks.length:Int)) (hb2.kp k3 fun z=>z) (by omega) (by omega)
   have nb:S2.length ≠ b:=by omega
   have g4:ak S4 S2.length=some (ks.map A.int):=k4.lst _ _ nb g3
   have hlt:e.toNat < ks.length:=by omega
   obtain ⟨kk,hkk⟩:∃ kk:Nat,ks[e.toNat]=(kk:Int):=⟨ks[e.toNat].toNat,by have:=hmem _ (List.getElem_mem hlt);omega⟩
   have hm:=hmem _ (List.getElem_mem hlt)
   rw [hkk] at hm
   have ek:eV (ks.map A.int) e=some (.int kk):=qx (k:=e.toNat) (by omega) (by rw [List.getElem?_eq_getElem hlt,hkk])
   have hL4:ak S4 S.length=some (l.map .int):=k4.lst _ _ (by omega) (aO hL)
   have hW4:ak S4 (S.length + 1)=some (wd w):=k4.lst _ _ (by omega) (aO hW)
   have lL4:=bI hL4
   have a1:eV (l.map A.int) (kk:Int)=some (.int (l.getD kk 0)):=qu rfl (by omega)
   have a2:eV (l.map A.int) ((kk:Int) - 1)=some (.int (l.getD (kk - 1) 0)):=qu (k:=kk - 1) (by omega) (by omega)
   have x1:o4 l.length ((kk:Int) - 1)=some (kk - 1):=gE (by omega) (by omega)
   have x2:o4 l.length (kk:Int)=some kk:=gE rfl (by omega)
   have lS:∀ ys,ak (S4.set S.length (.lst ys)) S.length=some ys:=fun ys=>dc lL4
   have lS2:∀ ys zs,ak ((S4.set S.length (.lst ys)).set S.length (.lst zs)) (S.length + 1)=some (wd w):=fun ys zs=>by rw [bA (by omega),bA (by omega)];exact hW4
   have wl:(wd w).length < 16777216:=by rw [List.length_map];omega
   simp only [br,bools,g4,List.length_map,e4,ek,hL4,a1,a2,ir (show ([_,_]:List A).length <= 16777216 by simp),cO (show ([_,_]:List A).length=2 from rfl),x1,lS,List.length_set,x2,lS2,E4 (show w.length < 16777216 by omega)]
   rw [mV]
   have hasc:(Wd.led (aP 1 ((n:Int) + 1)) w).getD (kk - 1) 0 < (Wd.led (aP 1 ((n:Int) + 1)) w).getD kk 0:=by
    rw [hl']
    have:=hm.2.2
    rw [show ((kk:Int) - 1).toNat=kk - 1 by omega,show ((kk:Int)).toNat=kk by omega] at this
    exact this
   have hr':Wd.eT (aP 1 ((n:Int) + 1)) (w ++ [kk]):=hr.snoc (by omega) (by rw [Wd.dI];omega) hasc
   have el:Wd.led (aP 1 ((n:Int) + 1)) (w ++ [kk])=Wd.ex l kk:=by rw [Wd.jl,hl'];rfl
   refine ⟨_,_,rfl,w ++ [kk],_,_,_,rfl,?_,?_,hr',by rw [List.length_append];simp;omega,?_,?_⟩
   ·rw [el,bA (by omega),dc (by rw [List.length_set];exact lL4)]
   ·rw [dc (by rw [List.length_set,List.length_set];exact bI hW4)];simp [wd]
   ·obtain ⟨g,st,eb,q⟩:=hb4
    exact ⟨g,st,by rw [bA (by omega),bA (by omega),bA (by omega)];exact eb,q⟩
   ·exact ((((k2.trans k3.of0).trans k4).set (.inr (Nat.le_refl _))).set (.inr (Nat.le_refl _))).set (.inr (by omega))
 ·rintro τ S2 ⟨w,a5,a6,a7,rfl,hL,hW,hr,hwl,hb2,k2⟩
  simp only [br,bools]
  rw [lW]
  exact ⟨w,_,_,rfl,hW,hr,by omega,hb2,k2,by omega⟩
def fl (xs:List Int) (n:Nat):List Int:=(aP 1 (n:Int)).filter fun k=>decide (xs.getD (k - 1).toNat 0 > xs.getD k.toNat 0)
theorem zI {l:List Int} {n:Nat} (hl:l.length=n) {x:Int}:x ∈ fl l n ↔ ∃ k:Nat,x=k /\ j0 l k:=by
 unfold fl
 rw [List.mem_filter,dj,decide_eq_true_eq]
 constructor
 ·rintro ⟨⟨h1,h2⟩,h3⟩
  refine ⟨x.toNat,by omega,by omega,by omega,?_⟩
  rw [show (x - 1).toNat=x.toNat - 1 by omega] at h3
  exact h3
 ·rintro ⟨k,rfl,h1,h2,h3⟩
  refine ⟨⟨by omega,by omega⟩,?_⟩
  rw [show ((k:Int) - 1).toNat=k - 1 by omega,Int.toNat_natCast]
  exact h3
theorem A_ {xs:List A} {q:Int} (h0:0 <= q) (h1:q < xs.length):∃ v,v ∈ xs /\ eV xs q=some v:=by
 have hk:q.toNat < xs.length:=by omega
 exact ⟨xs[q.toNat],List.getElem_mem hk,lK (k:=q.toNat) (by omega) (List.getElem?_eq_getElem hk)⟩
theorem BS {S:aA} {b n W:Nat} {w:List Nat} (hb:rm S b) (hW:ak S W=some (wd w)) (hw:Red n w) (h1:1 <= n) (h2:n <= 20) (hwl:w.length <= 400):∃ (V:Nat) (v:List Nat) (S':aA),d8 [.ref b,.int n,.ref W] S=.ok (.ref V) S' /\ ak S' V=some (wd v) /\ Red n v /\ Wd.led (rg n) v=Wd.led (rg n) w /\ v.length=w.length /\ rm S' b /\ Kp (·=b) S S' /\ S.length <= V:=by
 have hbl:b < S.length:=by obtain ⟨_,_,e,_⟩:=hb;exact bI e
 have po:(Wd.led (rg n) w).Perm (rg n):=Ti.pm hw.1
 have hio:=hw.2
 obtain ⟨S0,e0,k0⟩:=uq (S:=S) hW hw.1 h1 h2
 have e0:cR [.int n,.ref W] S=.ok (.tup ((Wd.led (rg n) w).map .int)) S0:=e0
 generalize ho:Wd.led (rg n) w=o at po hio e0
 have hW0:=k0.lst _ _ (fun z=>z) hW
 have b0:=hb.kp k0 fun z=>z
 have l0:=k0.len
 have l1:(S0 ++ [O.lst (o.map .int)]).length=S0.length + 1:=by simp
 have kk:dD S (S0 ++ [O.lst (o.map .int)] ++ [.lst []]):=k0.lay.lay
 unfold d8 iY mh
 simp only [br,bools,bM,Nat.reduceAdd,Nat.reduceSub,e0,l1]
 refine mT (lo:=0) (hi:=(w.length:Int)) (S1:=S0 ++ [O.lst (o.map .int)] ++ [.lst []]) (show jA _ _=_ from gJ (by simp only [br,bools,aO (aO hW0),List.length_map]) (dN (by omega) (by omega)))
  (fun i τ T=>∃ (a5 a6 a7:A) (V:Nat) (v:List Nat) (l:List Int),τ=[.ref b,.int n,.ref W,.ref S0.length,.ref V,a5,a6,a7] /\ ak T S0.length=some (l.map .int) /\ ak T V=some (wd v) /\ V ≠ S0.length /\ V ≠ b /\ S.length <= V /\ l.Perm (rg n) /\ Iv.inv l + i=Iv.inv o /\ Wd.led l v=o /\ v.length=i /\ Va n v /\ rm T b /\ Kp (·=b) S T)
  (fun r=>∃ (V:Nat) (v:List Nat) (S':aA),RS.end (RS.seq r _)=.ok (.ref V) S' /\ ak S' V=some (wd v) /\ Red n v /\ Wd.led (rg n) v=o /\ v.length=w.length /\ rm S' b /\ Kp (·=b) S S' /\ S.length <= V)
  ⟨_,_,_,S0.length + 1,[],o,rfl,aO aN,by rw [<- l1];exact aN,by omega,by omega,by omega,po,rfl,rfl,rfl,fun k hk=>absurd hk (by simp),hb.kp kk fun z=>z,kk.of0⟩ ?_ ?_
 ·rintro i τ T hi ⟨a5,a6,a7,V,v,l,rfl,hL,hV,nV,nVb,sV,pl,hinv,hled,hvl,va,bT,kp⟩
  left
  have ll:l.length=n:=t_ pl
  have cr:=iT (lo:=1) (hi:=(n:Int)) (cap:=[some 3]) (src:=fJ (eC (.int 1)) (ah 1)) (t:=iD (az rG (az dP (ah 1) (az aSub (ah 0) (eC (.int 1)))) (az dP (ah 1) (ah 0)))) (e:=ah 0) (τ:=[.ref b,.int n,.ref W,.ref S0.length,.ref V,.int (0 + (i:Int)),a6,a7]) (S:=T) (S1:=T)
   (iK (S1:=T) (by simp only [br,bools]) (by simp only [br,bools]) (dN (by omega) (by omega)) (dN (by omega) (by omega)))
   (fun k=>decide (l.getD (k - 1).toNat 0 > l.getD k.toNat 0)) (fun k=>.int k) (fun k h1 h2=>by
    have x1:eV (l.map A.int) (k - 1)=some (.int (l.getD (k - 1).toNat 0)):=Iq (by omega) (by omega)
    have x2:eV (l.map A.int) k=some (.int (l.getD k.toNat 0)):=Iq (by omega) (by omega)
    simp only [br,bools,hL,x1,x2]) (fun k _ _ _=>by simp only [br,bools]) (by omega)
  have efl:((aP 1 (n:Int)).filter (fun j=>decide (l.getD (j - 1).toNat 0 > l.getD j.toNat 0))).map (fun j=>A.int j)=(fl l n).map A.int:=rfl
  rw [efl] at cr
  obtain ⟨f,hf⟩:=Fw.Eg (l:=l) (by omega)
  have fin:(f:Int) ∈ fl l n:=(zI ll).mpr ⟨f,rfl,hf⟩
  have fpos:0 < (fl l n).length:=List.length_pos_of_mem fin
  have fle:(fl l n).length <= 20:=Nat.le_trans (List.length_filter_le _ _) (by rw [cJ];omega)
  have k0':dD T (T ++ [O.lst ((fl l n).map A.int)]):=Kp.refl.lay
  obtain ⟨q,U,e2,q0,q1,bU,kU⟩:=digit (m:=((fl l n).length:Int)) (bT.kp k0' fun z=>z) (by omega) (by omega)
  have hbT:b < T.length:=by obtain ⟨_,_,e,_⟩:=bT;exact bI e
  have hL2:ak U S0.length=some (l.map .int):=kU.lst _ _ (by omega) (k0'.lst _ _ (fun z=>z) hL)
  have hV2:ak U V=some (wd v):=kU.lst _ _ nVb (k0'.lst _ _ (fun z=>z) hV)
  have hC:ak (T ++ [O.lst ((fl l n).map A.int)]) T.length=some ((fl l n).map A.int):=aN
  have hC2:ak U T.length=some ((fl l n).map A.int):=kU.lst _ _ (by omega) hC
  obtain ⟨x,hx,ex⟩:=A_ (xs:=(fl l n).map A.int) q0 (by rw [List.length_map];exact q1)
  obtain ⟨y,hy,rfl⟩:=List.mem_map.mp hx
  obtain ⟨k,rfl,hk⟩:=(zI ll).mp hy
  have hkn:k < n:=by have:=hk.2.1;omega
  have hk1:=hk.1
  have a1:eV (l.map A.int) (k:Int)=some (.int (l.getD k 0)):=qu rfl (by omega)
  have a2:eV (l.map A.int) ((k:Int) - 1)=some (.int (l.getD (k - 1) 0)):=qu (k:=k - 1) (by omega) (by omega)
  have x1:o4 l.length ((k:Int) - 1)=some (k - 1):=gE (by omega) (by omega)
  have x2:o4 l.length (k:Int)=some k:=gE rfl (by omega)
  have lU:=bI hL2
  have lS:∀ ys,ak (U.set S0.length (.lst ys)) S0.length=some ys:=fun ys=>dc lU
  obtain ⟨X,hX⟩:∃ X,X=(U.set S0.length (.lst ((l.map A.int).set (k - 1) (.int (l.getD k 0))))).set S0.length (.lst ((Wd.ex l k).map A.int)):=⟨_,rfl⟩
  have hLX:ak X S0.length=some ((Wd.ex l k).map .int):=by rw [hX];exact dc (by rw [List.length_set];exact lU)
  have hVX:ak X V=some (wd v):=by rw [hX,bA (Ne.symm nV),bA (Ne.symm nV)];exact hV2
  have kX:Kp (·=b) S X:=by rw [hX];exact ((kp.lay.trans kU).set (.inr l0)).set (.inr l0)
  have bX:rm X b:=by
   obtain ⟨g,st,e,qq⟩:=bU
   exact ⟨g,st,by rw [hX,bA (by omega),bA (by omega)];exact e,qq⟩
  have lX:U.length=X.length:=by rw [hX,List.length_set,List.length_set]
  have n1:newL [.int (k:Int)] X=.ok (.ref X.length) (X ++ [O.lst [.int (k:Int)]]):=bP (show 1 <= 16777216 by decide)
  have ad:aZ (.ref X.length) (.ref V) (X ++ [O.lst [.int (k:Int)]])=.ok (.ref (X ++ [O.lst [.int (k:Int)]]).length) (X ++ [O.lst [.int (k:Int)]] ++ [.lst (wd (k :: v))]):=qj aN (aO hVX) (by rw [List.length_map];show 1 + _ <= _;omega)
  unfold jG
  simp only [br,bools,cr,hC,List.length_map,e2,hC2,ex,hL2,a1,a2,ir (show ([_,_]:List A).length <= 16777216 by simp),cO (show ([_,_]:List A).length=2 from rfl),x1,lS,List.length_set,x2,mV,<- hX,n1,ad]
  have kf:dD X (X ++ [O.lst [.int (k:Int)]] ++ [.lst (wd (k :: v))]):=Kp.refl.lay.lay
  have hdn:=Fw.iV hk.1 hk.2.1 hk.2.2
  have kXl:=kX.len
  refine ⟨_,_,rfl,⟨_,_,_,_,k :: v,Wd.ex l k,rfl,kf.lst _ _ (fun z=>z) hLX,aN,by simp;omega,by simp;omega,by simp;omega,Fw.l_ pl hk.1 hk.2.1,by omega,?_,by rw [List.length_cons,hvl],fun j hj=>?_,bX.kp kf fun z=>z,kX.trans kf.of0⟩⟩
  ·show Wd.led (Wd.ex (Wd.ex l k) k) v=o
   rw [Fw.t9 hk.1 hk.2.1];exact hled
  ·rcases List.mem_cons.mp hj with rfl | z
   ·exact ⟨hk.1,hkn⟩
   ·exact va j z
 ·rintro τ T ⟨a5,a6,a7,V,v,l,rfl,hL,hV,nV,nVb,sV,pl,hinv,hled,hvl,va,bT,kp⟩
  have el:l=rg n:=Fw.EH pl fun k hk=>by have:=Fw.iV hk.1 hk.2.1 hk.2.2;omega
  subst el
  simp only [br,bools]
  exact ⟨V,v,T,rfl,hV,⟨va,by rw [hled,<- hio];omega⟩,hled,by omega,bT,kp,sV⟩
end K09
namespace K09
open PySem L2 Am
open Ti (Mv Con Red)
open Rd (Bf En eY up xD w_ uZ chg qc mH)
open Fw (j0 Va rg)
theorem rA (xs:List A) (j:Nat):gx xs none (some (j:Int))=xs.take j:=by
 unfold gx
 rw [HT.iZ,HT.kq,List.drop_zero,Nat.sub_zero]
 by_cases h:j <= xs.length
 ·rw [Nat.min_eq_left h]
 ·rw [Nat.min_eq_right (by omega),List.take_of_length_le (Nat.le_refl _),List.take_of_length_le (by omega)]
theorem GD (xs:List A) (j:Nat):gx xs (some (j:Int)) none=xs.drop j:=by
 unfold gx
 rw [HT.iZ,HT.kq]
 by_cases h:j <= xs.length
 ·rw [Nat.min_eq_left h]
  exact List.take_of_length_le (by rw [List.length_drop];exact Nat.le_refl _)
 ·rw [Nat.min_eq_right (by omega),List.drop_of_length_le (Nat.le_refl _),List.drop_of_length_le (by omega)]
  exact List.take_nil
theorem xS (w:List Nat) (m:Nat):gx (wd w) none (some (m:Int))=wd (w.take m):=by rw [rA];exact List.map_take.symm
theorem we (w:List Nat) (m:Nat):gx (wd w) (some (m:Int)) none=wd (w.drop m):=by rw [GD];exact List.map_drop.symm
theorem cI (a:List Nat):(wd a).length=a.length:=List.length_map ..
theorem yH {xs:List Int} {i n:Int}:(((aP (i + 1) n).filter fun j=>decide (xs.getD i.toNat 0 > xs.getD j.toNat 0)).map fun j=>A.tup [.int (i + 1),.int (j + 1)])=(gX (i + 1) (n + 1)).filter (wg xs):=by
 unfold gX
 have e:aP (i + 1 + 1) (n + 1)=(aP (i + 1) n).map (· + 1):=by
  unfold aP
  rw [List.map_map,show n + 1 - (i + 1 + 1)=n - (i + 1) by omega]
  refine List.map_congr_left fun q _=>?_
  show i + 1 + 1 + (q:Int)=i + 1 + (q:Int) + 1
  omega
 rw [e,List.map_map,List.filter_map]
 congr 1
 refine List.filter_congr fun j _=>?_
 show _=decide (xs.getD (i + 1 - 1).toNat 0 > xs.getD (j + 1 - 1).toNat 0)
 rw [show i + 1 - 1=i by omega,show j + 1 - 1=j by omega]
theorem G_ {S:aA} {n m:Nat} {xs ys:List A} (h1:ak S n=some xs) (h2:ak S m=some ys) (h3:xs.length + ys.length <= 16777216):rq (.ref n) [.ref m] S=.ok .non (S.set n (.lst (xs ++ ys))):=by
 show opt (ak S n) _=_
 rw [h1]
 show opt (ak S m) _=_
 rw [h2]
 exact AJ h3
theorem xg {i hi:Int} (h0:0 <= i) (h:hi <= 21):(gX i hi).length <= 20:=by
 unfold gX;rw [List.length_map,cJ];omega
theorem IA {S:aA} {n:Nat} {xs:List Int} (hlen:xs.length=n) (h1:1 <= n) (h2:n <= 20):∃ (D:Nat) (S':aA),d_ [.tup (xs.map .int)] S=.ok (.ref D) S' /\ ak S' D=some ((prs n).filter (wg xs)) /\ dD S S':=by
 unfold d_ iU mz
 simp only [br,bools,bM,Nat.reduceAdd,Nat.reduceSub,List.length_map,hlen]
 refine mT (lo:=0) (hi:=(n:Int)) (S1:=S ++ [.lst []]) (show jx _ _=_ from gJ (by simp only [br,bools]) (dN (by omega) (by omega)))
  (fun t τ S1=>(∃ a3,τ=[.tup (xs.map .int),.int n,.ref S.length,a3]) /\ ak S1 S.length=some (((aP 1 (1 + (t:Int))).flatMap fun i=>gX i ((n:Int) + 1)).filter (wg xs)) /\ dD S S1)
  (fun r=>∃ (D:Nat) (S':aA),RS.end (RS.seq r _)=.ok (.ref D) S' /\ ak S' D=some ((prs n).filter (wg xs)) /\ dD S S') ⟨⟨_,rfl⟩,?_,Kp.refl.lay⟩ ?_ ?_
 ·rw [aN];rfl
 ·rintro t τ S1 ht ⟨⟨a3,rfl⟩,hL,kp⟩
  left
  have hb:(((aP 1 (1 + (t:Int))).flatMap fun i=>gX i ((n:Int) + 1)).filter (wg xs)).length <= 1000:=by
   have q1:=List.length_filter_le (wg xs) ((aP 1 (1 + (t:Int))).flatMap fun i=>gX i ((n:Int) + 1))
   have q2:=oY (B:=20) (f:=fun i=>gX i ((n:Int) + 1)) (aP 1 (1 + (t:Int))) fun x hx=>xg (by have:=dj.mp hx;omega) (by omega)
   rw [cJ] at q2
   have q3:(1 + (t:Int) - 1).toNat * 20 <= 20 * 20:=Nat.mul_le_mul_right _ (by omega)
   omega
  have x0:eV (xs.map A.int) (0 + (t:Int))=some (.int (xs.getD (0 + (t:Int)).toNat 0)):=Iq (by omega) (by omega)
  have ec:=iT (lo:=0 + (t:Int) + 1) (hi:=(n:Int)) (cap:=[some 3,some 0]) (src:=fJ (az aZ (ah 3) (eC (.int 1))) (ah 1)) (t:=iD (az rG (az dP (ah 2) (ah 1)) (az dP (ah 2) (ah 0)))) (e:=gh (aj (az aZ (ah 1) (eC (.int 1))) (aj (az aZ (ah 0) (eC (.int 1))) (aI)))) (τ:=[.tup (xs.map .int),.int n,.ref S.length,.int (0 + (t:Int))]) (S:=S1) (S1:=S1)
   (iK (S1:=S1) (by simp only [br,bools]) (by simp only [br,bools]) (dN (by omega) (by omega)) (dN (by omega) (by omega)))
   (fun j=>decide (xs.getD (0 + (t:Int)).toNat 0 > xs.getD j.toNat 0)) (fun j=>.tup [.int (0 + (t:Int) + 1),.int (j + 1)]) (fun j g1 g2=>by
    have x2:eV (xs.map A.int) j=some (.int (xs.getD j.toNat 0)):=Iq (by omega) (by omega)
    simp only [br,bools,x0,x2]) (fun j _ _ _=>by simp only [br,bools,ir (show ([_,_]:List A).length <= 16777216 by simp)]) (by omega)
  rw [yH] at ec
  have hr:((gX (0 + (t:Int) + 1) ((n:Int) + 1)).filter (wg xs)).length <= 1000:=Nat.le_trans (List.length_filter_le _ _) (Nat.le_trans (xg (by omega) (by omega)) (by decide))
  have lt:=bI hL
  have ex:=G_ (S:=S1 ++ [.lst ((gX (0 + (t:Int) + 1) ((n:Int) + 1)).filter (wg xs))]) (aO hL) aN (by omega)
  unfold jy
  simp only [br,bools,hL,ec,ex]
  refine ⟨_,_,rfl,⟨_,rfl⟩,?_,kp.lay.set (.inr (Nat.le_refl _))⟩
  rw [dc (by rw [List.length_append];exact Nat.lt_of_lt_of_le lt (Nat.le_add_right _ _)),s_,List.flatMap_append,List.filter_append,show (0:Int) + (t:Int) + 1=1 + (t:Int) by omega]
  simp
 ·rintro τ S1 ⟨⟨a3,rfl⟩,hL,kp⟩
  simp only [br,bools]
  refine ⟨_,_,rfl,?_,kp⟩
  rw [hL,show 1 + (((n:Int) - 0).toNat:Int)=1 + ((((n - 1) + 1:Nat)):Int) by omega,s_,List.flatMap_append,sA]
  have e:gX (1 + ((n - 1:Nat):Int)) ((n:Int) + 1)=[]:=by
   unfold gX aP
   rw [show ((n:Int) + 1 - (1 + ((n - 1:Nat):Int) + 1)).toNat=0 by omega];rfl
  rw [show (1:Int) + ((n - 1:Nat):Int)=n by omega] at e ⊢
  simp [e]
def Od (S:aA) (x:A):Prop:=(∃ i,x=.int i) \/ (∃ t,x=.bl t) \/ x=.non \/ (∃ t,x=.str t) \/ (∃ p,x=.ref p /\ ak S p=some [.int 1]) \/ x=.tup [.int 1]
theorem Od.kp {c:Nat -> Prop} {S S':aA} {x:A} (h:Od S x) (k:Kp c S S') (hc:∀ p,x=.ref p -> ¬ c p):Od S' x:=by
 rcases h with h | h | h | h | ⟨p,rfl,h⟩ | h
 ·exact .inl h
 ·exact .inr (.inl h)
 ·exact .inr (.inr (.inl h))
 ·exact .inr (.inr (.inr (.inl h)))
 ·exact .inr (.inr (.inr (.inr (.inl ⟨p,rfl,k.lst _ _ (hc p rfl) h⟩))))
 ·exact .inr (.inr (.inr (.inr (.inr h))))
theorem Od.ask {S:aA} {n:Int} {x:A} (h:Od S x):Ask S n x:=by
 rcases h with ⟨i,rfl⟩ | ⟨t,rfl⟩ | rfl | ⟨t,rfl⟩ | ⟨p,rfl,h⟩ | rfl
 ·exact xU
 ·exact nM (gQ rfl IW) rfl
 ·exact nM (gQ rfl (mQ (k:=.non) rfl rfl rfl)) rfl
 ·exact nM (gQ rfl (mQ (k:=.str) rfl rfl rfl)) rfl
 ·exact nM (gQ rfl (mQ (k:=.lst) rfl (by show (ak S p).map _=_;rw [h];rfl) rfl)) rfl
 ·exact nM (gQ rfl (mQ (k:=.tup) rfl rfl rfl)) rfl
theorem Od.eq {S:aA} {m:Nat} {x:A} (h:Od S x):lZ S (m + 2) x x=some true:=by
 rcases h with ⟨i,rfl⟩ | ⟨t,rfl⟩ | rfl | ⟨t,rfl⟩ | ⟨p,rfl,h⟩ | rfl
 ·show some (i == i)=_;rw [beq_self_eq_true]
 ·show some (t == t)=_;rw [beq_self_eq_true]
 ·rfl
 ·show some (t == t)=_;rw [beq_self_eq_true]
 ·show (ak S p).bind (fun xs=>(ak S p).bind fun ys=>h_ (lZ S (m + 1)) xs ys)=_
  rw [h,Option.bind_some,Option.bind_some]
  exact jn [1] [1]
 ·exact jn [1] [1]
theorem p9 {f:A -> A -> Option Bool}:∀ {L:List A},(∀ x ∈ L,f x x=some true) -> h_ f L L=some true
 | [],_=>rfl
 | x :: L,h=>by
  show (f x x).bind (fun p=>(h_ f L L).map fun q=>p && q)=_
  rw [h x (List.mem_cons_self ..),p9 fun y hy=>h y (List.mem_cons_of_mem _ hy)]
  rfl
theorem BQ {n:Nat}:∀ {L:List A},L.all (ev n)=true -> ∃ w:List Nat,L=wd w /\ Va n w
 | [],_=>⟨[],rfl,fun k hk=>absurd hk (by simp)⟩
 | x :: L,h=>by
  rw [List.all_cons,Bool.and_eq_true] at h
  obtain ⟨w,rfl,hv⟩:=BQ h.2
  cases x with
  | int i=>
   have hi:1 <= i /\ i < (n:Int):=of_decide_eq_true h.1
   refine ⟨i.toNat :: w,?_,fun k hk=>?_⟩
   ·show A.int i :: wd w=A.int ((i.toNat:Nat):Int) :: wd w
    rw [show ((i.toNat:Nat):Int)=i by omega]
   ·rcases List.mem_cons.mp hk with z | z
    ·omega
    ·exact hv k z
  | _=>cases h.1
theorem EG {n:Int}:∀ {L:List A},L.all (ev n)=false -> ∃ v ∈ L,ev n v=false:=fun {L} h=>by
 rw [List.all_eq_false] at h
 obtain ⟨v,hv,e⟩:=h
 exact ⟨v,hv,by simpa using e⟩
theorem Ga {S:aA} {n:Int} {x:A} (h:Od S x):m7 (aT (f2 mG) (aj (ah 0) (aj (eC (.ty "int")) (aI)))) (m7 (yW (aT (f2 mG) (aj (ah 0) (aj (eC (.ty "bool")) (aI))))) (yE sD sD (eC (.int 0)) (ah 0) (ah 1))) [x,.int n] S=.ok (.bl (ev n x)) S:=by
 rcases h with ⟨i,rfl⟩ | ⟨t,rfl⟩ | rfl | ⟨t,rfl⟩ | ⟨p,rfl,h⟩ | rfl
 ·have c:yE sD sD (eC (.int 0)) (ah 0) (ah 1) [.int i,.int n] S=.ok (.bl (ev n (.int i))) S:=by
   show _=R.ok (A.bl (decide (1 <= i /\ i < n))) S
   by_cases q:0 < i
   ·rw [G8 (a:=.int 0) (b:=.int i) (c:=.int n) rfl rfl (by simp only [br,decide_eq_true q]) rfl]
    simp only [br]
    by_cases q2:i < n
    ·rw [decide_eq_true q2,decide_eq_true (show 1 <= i /\ i < n by omega)]
    ·rw [decide_eq_false q2,decide_eq_false (show ¬ (1 <= i /\ i < n) by omega)]
   ·rw [IP (a:=.int 0) (b:=.int i) rfl rfl (by simp only [br,decide_eq_false q]),decide_eq_false (show ¬ (1 <= i /\ i < n) by omega)]
  simp only [br,bools,show iw .int "int" = some true from rfl,show iw .int "bool" = some false from rfl,Bool.not_false,c]
 ·simp only [br,bools,show iw .bl "int" = some true from rfl,show iw .bl "bool" = some true from rfl,Bool.not_true]
  rfl
 ·simp only [br,bools,show iw .non "int" = some false from rfl]
  rfl
 ·simp only [br,bools,show iw .str "int" = some false from rfl]
  rfl
 ·simp only [br,bools,h,Option.map_some,show iw .lst "int" = some false from rfl]
  rfl
 ·simp only [br,bools,show iw .tup "int" = some false from rfl]
  rfl
theorem Od.dY {S:aA} {x:A} (h:Od S x):x.di=false:=by
 rcases h with ⟨i,rfl⟩ | ⟨t,rfl⟩ | rfl | ⟨t,rfl⟩ | ⟨p,rfl,h⟩ | rfl <;> rfl
theorem qX {co:Ex} {d:gP} {τ:List A} {S S1:aA} {L:Nat} {xs:List A} {x v:A} (h:co τ S=.ok (.ref L) S) (hL:ak S L=some xs) (hd:d τ S=.ok [x] S) (hi:Gd (.ref L) [x] S=.ok v S):Dv co d τ S=.ok v S:=by
 unfold Dv
 rw [h,R.dS,show A.seq S (.ref L)=ak S L from rfl,hL,bw,hd,R.dS,hi]
theorem j3 {S:aA} {w:List Nat}:∀ x ∈ wd w,Od S x:=fun x hx=>by
 obtain ⟨k,_,rfl⟩:=List.mem_map.mp hx
 exact .inl ⟨_,rfl⟩
theorem ne_str {S:aA} {t:Str}:kI true (.str t) (.str t) S=.ok (.bl false) S:=CU (k:=true) (by show some (t == t)=_;rw [beq_self_eq_true])
end K09
namespace K09
open PySem L2 Am
open Ti (Mv Con Red)
open Rd (Bf En eY up xD w_ uZ chg qc mH)
open Fw (j0 Va rg)
theorem CZ {S:aA} {n W:Nat} {w:List Nat} (hW:ak S W=some (wd w)) (hb:8 < w.length \/ 9 < n):cL [.int n,.ref W] S=.ok (.bl true) S:=by
 unfold cL gp iX
 by_cases c:9 < n
 ·simp only [br,bools,bM,Nat.reduceAdd,Nat.reduceSub,hW,List.length_map,decide_eq_true (show ((9:Int) < (n:Int)) by omega)]
 ·simp only [br,bools,bM,Nat.reduceAdd,Nat.reduceSub,hW,List.length_map,decide_eq_false (show ¬ ((9:Int) < (n:Int)) by omega),decide_eq_true (show ((8:Int) < (w.length:Int)) by omega)]
section
variable {S:aA} {n I J:Nat} {L M:List A} {w v:List Nat}
theorem IL (hI:ak S I=some L) (ho:∀ x ∈ L,Od S x) (hl:L.length <= 100) (h2:n <= 20) (hb:L.all (ev n)=false):∃ S',c_ [.int n,.ref I,.ref J] S=.ex "NoWord" S' /\ dD S S':=by
 obtain ⟨S1,e1,k1⟩:=E1 (S:=S) hI (fun x hx=>(ho x hx).ask) (by omega) (.inr (EG hb)) h2
 unfold c_ jO lG
 simp only [br,iz,bools,bM,Nat.reduceAdd,Nat.reduceSub,e1]
 exact ⟨_,rfl,k1⟩
theorem JP (hI:ak S I=some (wd w)) (hv:Va n w) (hwl:w.length <= 100) (hJ:ak S J=some M) (ho:∀ x ∈ M,Od S x) (hl:M.length <= 100) (h1:1 <= n) (h2:n <= 20) (hb:M.all (ev n)=false):∃ S',c_ [.int n,.ref I,.ref J] S=.ex "NoWord" S' /\ dD S S':=by
 obtain ⟨S1,e1,k1⟩:=sM (S:=S) hI hv (by omega) h1 h2
 obtain ⟨S2,e2,k2⟩:=E1 (S:=S1) (k1.lst _ _ (fun z=>z) hJ) (fun x hx=>((ho x hx).kp k1 fun _ _ z=>z).ask) (by omega) (.inr (EG hb)) h2
 unfold c_ jO lG
 simp only [br,iz,bools,bM,Nat.reduceAdd,Nat.reduceSub,e1,e2]
 exact ⟨_,rfl,k1.trans k2⟩
def Cd (n:Nat) (w v:List Nat):Prop:=Wd.led (rg n) w=Wd.led (rg n) v /\ w.length=Iv.inv (Wd.led (rg n) w) /\ v.length=Iv.inv (Wd.led (rg n) w)
theorem JX (hI:ak S I=some (wd w)) (hw:Va n w) (hwl:w.length <= 100) (hJ:ak S J=some (wd v)) (hv:Va n v) (hvl:v.length <= 100) (h1:1 <= n) (h2:n <= 20) :
  (¬ Cd n w v -> ∃ S',c_ [.int n,.ref I,.ref J] S=.ex "NoPair" S' /\ dD S S') /\ (Cd n w v -> 8 < w.length \/ 9 < n -> ∃ S',c_ [.int n,.ref I,.ref J] S=.ex "TooMany" S' /\ dD S S'):=by
 obtain ⟨S1,e1,k1⟩:=sM (S:=S) hI hw (by omega) h1 h2
 have hI1:=k1.lst _ _ (fun z=>z) hI
 have hJ1:=k1.lst _ _ (fun z=>z) hJ
 obtain ⟨S2,e2,k2⟩:=sM (S:=S1) hJ1 hv (by omega) h1 h2
 have hI2:=k2.lst _ _ (fun z=>z) hI1
 have hJ2:=k2.lst _ _ (fun z=>z) hJ1
 have lo:(Wd.led (aP 1 ((n:Int) + 1)) w).length=n:=by rw [Wd.gn,Wd.dI]
 have wi:=uW lo h1
 obtain ⟨S3,e3,k3⟩:=rB (S:=S2) (n:=n) lo (by omega)
 rw [wi] at e3
 have hI3:=k3.lst _ _ (fun z=>z) hI2
 have hJ3:=k3.lst _ _ (fun z=>z) hJ2
 obtain ⟨S4,e4,k4⟩:=rB (S:=S3) (n:=n) lo (by omega)
 rw [wi] at e4
 have hI4:=k4.lst _ _ (fun z=>z) hI3
 have kk:=k1.trans k2
 have k34:=(kk.trans k3).trans k4
 refine ⟨fun hn=>?_,fun ⟨a1,a2,a3⟩ hb=>?_⟩
 ·unfold c_ jO lG
  by_cases c1:Wd.led (aP 1 ((n:Int) + 1)) v=Wd.led (aP 1 ((n:Int) + 1)) w
  ·cases c2:((w.length:Int) == (Iv.inv (Wd.led (aP 1 ((n:Int) + 1)) w):Int)) with
   | false=>
    simp only [br,iz,bools,bM,Nat.reduceAdd,Nat.reduceSub,e1,e2,dB,decide_eq_true c1,Bool.not_true,hI2,List.length_map,e3,c2,Bool.not_false]
    exact ⟨_,rfl,kk.trans k3⟩
   | true=>
    cases c3:((v.length:Int) == (Iv.inv (Wd.led (aP 1 ((n:Int) + 1)) w):Int)) with
    | false=>
     simp only [br,iz,bools,bM,Nat.reduceAdd,Nat.reduceSub,e1,e2,dB,decide_eq_true c1,Bool.not_true,hI2,List.length_map,e3,c2,hJ3,e4,c3,Bool.not_false]
     exact ⟨_,rfl,k34⟩
    | true=>
     rw [beq_iff_eq] at c2 c3
     exact absurd ⟨c1.symm,Int.ofNat.inj c2,Int.ofNat.inj c3⟩ hn
  ·simp only [br,iz,bools,bM,Nat.reduceAdd,Nat.reduceSub,e1,e2,dB,decide_eq_false c1,Bool.not_false]
   exact ⟨_,rfl,kk⟩
 ·have c1:Wd.led (aP 1 ((n:Int) + 1)) v=Wd.led (aP 1 ((n:Int) + 1)) w:=a1.symm
  have c2:((w.length:Int) == (Iv.inv (Wd.led (aP 1 ((n:Int) + 1)) w):Int))=true:=by rw [beq_iff_eq];exact congrArg Int.ofNat a2
  have c3:((v.length:Int) == (Iv.inv (Wd.led (aP 1 ((n:Int) + 1)) w):Int))=true:=by rw [beq_iff_eq];exact congrArg Int.ofNat a3
  unfold c_ jO lG
  simp only [br,iz,bools,bM,Nat.reduceAdd,Nat.reduceSub,e1,e2,dB,decide_eq_true c1,Bool.not_true,hI2,List.length_map,e3,c2,hJ3,e4,c3,CZ hI4 hb]
  exact ⟨_,rfl,k34⟩
theorem jk (hW:ak S I=some L) (ho:∀ x ∈ L,Od S x) (hl:L.length <= 100):∃ S',cG [.int n,.ref I] S=.ok (.bl (L.all (ev n))) S' /\ dD S S':=by
 have cc:=tH (cap:=[some 0]) (src:=kP (ah 1)) (t:=oK) (e:=m7 (aT (f2 mG) (aj (ah 0) (aj (eC (.ty "int")) (aI)))) (m7 (yW (aT (f2 mG) (aj (ah 0) (aj (eC (.ty "bool")) (aI))))) (yE sD sD (eC (.int 0)) (ah 0) (ah 1)))) (τ:=[.int n,.ref I]) (S:=S) (jQ (by simp only [br,bools]) hW) hW (fun _=>true) (fun x=>.bl (ev n x)) (fun _ _=>rfl) (fun x hx _=>by
  exact Ga (ho x hx)) (by omega)
 rw [List.filter_eq_self.mpr (fun _ _=>rfl)] at cc
 have al:=BO (S:=S ++ [O.lst (L.map fun x=>A.bl (ev n x))]) aN (Bx (ev n) L)
 rw [List.all_map,show (L.all ((fun b=>b) ∘ ev ↑n))=L.all (ev n) from rfl] at al
 unfold cG gA jD
 simp only [br,bools,bM,Nat.reduceAdd,Nat.reduceSub,cc,al]
 exact ⟨_,rfl,Kp.refl.lay⟩
theorem EE (hI:ak S I=some L) (ho:∀ x ∈ L,Od S x) (hl:L.length <= 100) (hJ:ak S J=some M) (ho':∀ x ∈ M,Od S x) (hl':M.length <= 100) (hb:L.all (ev n)=false \/ M.all (ev n)=false):∃ S',bQ [.int n,.ref I,.ref J] S=.ok (.str (PySem.Str.ofString "word")) S' /\ dD S S':=by
 obtain ⟨S1,e1,k1⟩:=jk (n:=n) hI ho hl
 obtain ⟨S2,e2,k2⟩:=jk (S:=S1) (n:=n) (k1.lst _ _ (fun z=>z) hJ) (fun x hx=>(ho' x hx).kp k1 fun _ _ z=>z) hl'
 unfold bQ gI je
 cases c:L.all (ev n) with
 | false=>
  rw [c] at e1
  simp only [br,bools,bM,Nat.reduceAdd,Nat.reduceSub,e1,Bool.not_false]
  exact ⟨_,rfl,k1⟩
 | true=>
  have c2:M.all (ev n)=false:=hb.resolve_left (by rw [c];exact fun z=>Bool.noConfusion z)
  rw [c] at e1
  rw [c2] at e2
  simp only [br,bools,bM,Nat.reduceAdd,Nat.reduceSub,e1,e2,Bool.not_true,Bool.not_false]
  exact ⟨_,rfl,k1.trans k2⟩
theorem JT (hI:ak S I=some (wd w)) (hw:Va n w) (hwl:w.length <= 100) (hJ:ak S J=some (wd v)) (hv:Va n v) (hvl:v.length <= 100) (h1:1 <= n) (h2:n <= 20) :
  (¬ Cd n w v -> ∃ S',bQ [.int n,.ref I,.ref J] S=.ok (.str (PySem.Str.ofString "pair")) S' /\ dD S S') /\ (Cd n w v -> ∃ S',bQ [.int n,.ref I,.ref J] S=.ok (.str (if 8 < w.length \/ 9 < n then PySem.Str.ofString "many" else PySem.Str.ofString "")) S' /\ dD S S'):=by
 obtain ⟨S1,e1,k1⟩:=jk (n:=n) hI j3 (by rw [cI];exact hwl)
 obtain ⟨S2,e2,k2⟩:=jk (S:=S1) (n:=n) (k1.lst _ _ (fun z=>z) hJ) j3 (by rw [cI];exact hvl)
 rw [zR hw] at e1
 rw [zR hv] at e2
 have k12:=k1.trans k2
 have hI2:=k12.lst _ _ (fun z=>z) hI
 have hJ2:=k12.lst _ _ (fun z=>z) hJ
 obtain ⟨S3,e3,k3⟩:=uq (S:=S2) hI2 hw h1 h2
 have hI3:=k3.lst _ _ (fun z=>z) hI2
 have hJ3:=k3.lst _ _ (fun z=>z) hJ2
 obtain ⟨S4,e4,k4⟩:=uq (S:=S3) hJ3 hv h1 h2
 have hI4:=k4.lst _ _ (fun z=>z) hI3
 have hJ4:=k4.lst _ _ (fun z=>z) hJ3
 have lo:(Wd.led (aP 1 ((n:Int) + 1)) w).length=n:=by rw [Wd.gn,Wd.dI]
 obtain ⟨D,S5,e5,d5,k5⟩:=IA (S:=S4) (n:=n) lo h1 h2
 have li:=uW lo h1
 have hI5:=k5.lst _ _ (fun z=>z) hI4
 have k14:=(k12.trans k3).trans k4
 have k15:=k14.trans k5
 refine ⟨fun hn=>?_,fun ⟨a1,a2,a3⟩=>?_⟩
 ·unfold bQ gI je
  by_cases c1:Wd.led (aP 1 ((n:Int) + 1)) w=Wd.led (aP 1 ((n:Int) + 1)) v
  ·cases c2:((w.length:Int) == (v.length:Int)) with
   | false=>
    simp only [br,bools,bM,Nat.reduceAdd,Nat.reduceSub,e1,e2,Bool.not_true,e3,e4,dB,decide_eq_true c1,hI4,hJ4,List.length_map,c2,Bool.not_false]
    exact ⟨_,rfl,k14⟩
   | true=>
    cases c3:((Iv.inv (Wd.led (aP 1 ((n:Int) + 1)) w):Int) == (w.length:Int)) with
    | false=>
     simp only [br,bools,bM,Nat.reduceAdd,Nat.reduceSub,e1,e2,Bool.not_true,e3,e4,dB,decide_eq_true c1,hI4,hJ4,List.length_map,c2,e5,d5,li,hI5,c3,Bool.not_false]
     exact ⟨_,rfl,k15⟩
    | true=>
     rw [beq_iff_eq] at c2 c3
     exact absurd ⟨c1,by show w.length=Iv.inv (Wd.led (aP 1 ((n:Int) + 1)) w);omega,by show v.length=Iv.inv (Wd.led (aP 1 ((n:Int) + 1)) w);omega⟩ hn
  ·simp only [br,bools,bM,Nat.reduceAdd,Nat.reduceSub,e1,e2,Bool.not_true,e3,e4,dB,decide_eq_false c1,Bool.not_false]
   exact ⟨_,rfl,k14⟩
 ·have c1:Wd.led (aP 1 ((n:Int) + 1)) w=Wd.led (aP 1 ((n:Int) + 1)) v:=a1
  have c2:((w.length:Int) == (v.length:Int))=true:=by rw [beq_iff_eq];omega
  have c3:((Iv.inv (Wd.led (aP 1 ((n:Int) + 1)) w):Int) == (w.length:Int))=true:=by rw [beq_iff_eq];exact (congrArg Int.ofNat a2).symm
  have hI6:=aO (o:=O.lst [.str (PySem.Str.ofString ""),.str (PySem.Str.ofString "many")]) hI5
  unfold bQ gI je
  by_cases d1:8 < w.length
  ·simp only [br,bools,bM,Nat.reduceAdd,Nat.reduceSub,e1,e2,Bool.not_true,e3,e4,dB,decide_eq_true c1,hI4,hJ4,List.length_map,c2,e5,d5,li,hI5,c3,hI6,decide_eq_true (show (8:Int) < (w.length:Int) by omega),if_true,p8,d1,true_or]
   exact ⟨_,rfl,k15.lay⟩
  ·by_cases d2:9 < n
   ·simp only [br,bools,bM,Nat.reduceAdd,Nat.reduceSub,e1,e2,Bool.not_true,e3,e4,dB,decide_eq_true c1,hI4,hJ4,List.length_map,c2,e5,d5,li,hI5,c3,hI6,decide_eq_false (show ¬ (8:Int) < (w.length:Int) by omega),decide_eq_true (show (9:Int) < (n:Int) by omega),if_true,p8,d1,d2,false_or]
    exact ⟨_,rfl,k15.lay⟩
   ·simp only [br,bools,bM,Nat.reduceAdd,Nat.reduceSub,e1,e2,Bool.not_true,e3,e4,dB,decide_eq_true c1,hI4,hJ4,List.length_map,c2,e5,d5,li,hI5,c3,hI6,decide_eq_false (show ¬ (8:Int) < (w.length:Int) by omega),decide_eq_false (show ¬ (9:Int) < (n:Int) by omega),if_false,sO,d1,d2,false_or,Bool.false_eq_true]
    exact ⟨_,rfl,k15.lay⟩
end
end K09
namespace K09
open PySem L2 Am
open Ti (Mv Con Red)
open Rd (Bf En eY up xD w_ uZ chg qc mH)
open Fw (j0 Va rg)
theorem zX {i:Nat} {x y:Str} {cs:List Str} {d:Sm} {τ:List A} {S:aA}:RS.uH i (y :: x :: cs) d τ (.ex x S)=An i (d (τ.set i (.exn x)) S):=if_pos (.tail _ (.head _))
theorem zB {i:Nat} {x y z:Str} {cs:List Str} {d:Sm} {τ:List A} {S:aA}:RS.uH i (y :: z :: x :: cs) d τ (.ex x S)=An i (d (τ.set i (.exn x)) S):=if_pos (.tail _ (.tail _ (.head _)))
theorem HF {a b c:Bool} {S:aA}:yP (se [("NoWord",a),("NoPair",b),("TooMany",c)]) (.exn "NoPair") S=.ok (.bl b) S:=by
 have e:se [("NoWord",a),("NoPair",b),("TooMany",c)] "NoPair" = some b:=by
  show List.lookup ("NoPair" : Str) [("NoWord",a),("NoPair",b),("TooMany",c)]=some b
  rw [List.lookup_cons,show (("NoPair" : Str) == "NoWord")=false from by decide +kernel,List.lookup_cons,beq_self_eq_true]
 unfold yP
 simp only [e,bw]
theorem HA {a b c:Bool} {S:aA}:yP (se [("NoWord",a),("NoPair",b),("TooMany",c)]) (.exn "TooMany") S=.ok (.bl c) S:=by
 have e:se [("NoWord",a),("NoPair",b),("TooMany",c)] "TooMany" = some c:=by
  show List.lookup ("TooMany" : Str) [("NoWord",a),("NoPair",b),("TooMany",c)]=some c
  rw [List.lookup_cons,show (("TooMany" : Str) == "NoWord")=false from by decide +kernel,List.lookup_cons,show (("TooMany" : Str) == "NoPair")=false from by decide +kernel,List.lookup_cons,beq_self_eq_true]
 unfold yP
 simp only [e,bw]
theorem at2 {a b c:A} {xs:List A}:eV (a :: b :: c :: xs) 2=some c:=lK (k:=2) rfl rfl
theorem Aq {S:aA} {m a b:Nat} {L:List A} (h:ak S a=some L) (h':ak S b=some L) (ho:∀ x ∈ L,Od S x):lZ S (m + 3) (.ref a) (.ref b)=some true:=by
 show (ak S a).bind (fun xs=>(ak S b).bind fun ys=>h_ (lZ S (m + 2)) xs ys)=_
 rw [h,Option.bind_some,h',Option.bind_some]
 exact p9 fun x hx=>(ho x hx).eq
theorem GS {S:aA} {X Y a b c d:Nat} {L M:List A} (hX:ak S X=some [.ref a,.ref b]) (hY:ak S Y=some [.ref c,.ref d]) (ha:ak S a=some L) (hc:ak S c=some L) (hb:ak S b=some M) (hd:ak S d=some M) (oL:∀ x ∈ L,Od S x) (oM:∀ x ∈ M,Od S x):lZ S 12 (.ref X) (.ref Y)=some true:=by
 show (ak S X).bind (fun xs=>(ak S Y).bind fun ys=>h_ (lZ S 11) xs ys)=_
 rw [hX,Option.bind_some,hY,Option.bind_some]
 show (lZ S 11 (.ref a) (.ref c)).bind (fun p=>((lZ S 11 (.ref b) (.ref d)).bind fun q=>(h_ (lZ S 11) [] []).map fun r=>q && r).map fun q=>p && q)=_
 rw [Aq (m:=8) ha hc oL,Aq (m:=8) hb hd oM];rfl
theorem kinds {S:aA} {n I J:Nat} {L M:List A} (hI:ak S I=some L) (hJ:ak S J=some M) (oL:∀ x ∈ L,Od S x) (oM:∀ x ∈ M,Od S x) :
  (∀ T,c_ [.int n,.ref S.length,.ref (S ++ [O.lst L]).length] (S ++ [O.lst L] ++ [O.lst M])=.ex "NoWord" T -> dD (S ++ [O.lst L] ++ [O.lst M]) T -> ∃ S',bO [.int n,.ref I,.ref J] S=.ok (.str (PySem.Str.ofString "word")) S' /\ dD S S') /\
  (∀ T,c_ [.int n,.ref S.length,.ref (S ++ [O.lst L]).length] (S ++ [O.lst L] ++ [O.lst M])=.ex "NoPair" T -> dD (S ++ [O.lst L] ++ [O.lst M]) T -> ∃ S',bO [.int n,.ref I,.ref J] S=.ok (.str (PySem.Str.ofString "pair")) S' /\ dD S S') /\
  (∀ T,c_ [.int n,.ref S.length,.ref (S ++ [O.lst L]).length] (S ++ [O.lst L] ++ [O.lst M])=.ex "TooMany" T -> dD (S ++ [O.lst L] ++ [O.lst M]) T -> ∃ S',bO [.int n,.ref I,.ref J] S=.ok (.str (PySem.Str.ofString "many")) S' /\ dD S S') /\
  (∀ T V xs,c_ [.int n,.ref S.length,.ref (S ++ [O.lst L]).length] (S ++ [O.lst L] ++ [O.lst M])=.ok (.ref V) T -> ak T V=some xs -> dD (S ++ [O.lst L] ++ [O.lst M]) T -> ∃ S',bO [.int n,.ref I,.ref J] S=.ok (.str (PySem.Str.ofString "")) S' /\ dD S S'):=by
 obtain ⟨S1,hS1⟩:∃ S1,S1=S ++ [O.lst L]:=⟨_,rfl⟩
 obtain ⟨S2,hS2⟩:∃ S2,S2=S1 ++ [O.lst M]:=⟨_,rfl⟩
 rw [<- hS1,<- hS2]
 have k01:dD S S1:=by rw [hS1];exact Kp.refl.lay
 have k12:dD S1 S2:=by rw [hS2];exact Kp.refl.lay
 have k02:=k01.trans k12
 have hJ1:=k01.lst _ _ (fun z=>z) hJ
 have hH:ak S2 S.length=some L:=k12.lst _ _ (fun z=>z) (by rw [hS1];exact aN)
 have hG:ak S2 S1.length=some M:=by rw [hS2];exact aN
 have same:∀ {T:aA},dD S2 T -> kI true (.ref T.length) (.ref (T ++ [O.lst [.ref S.length,.ref S1.length]]).length) (T ++ [O.lst [.ref S.length,.ref S1.length]] ++ [O.lst [.ref I,.ref J]])=.ok (.bl false) (T ++ [O.lst [.ref S.length,.ref S1.length]] ++ [O.lst [.ref I,.ref J]]):=fun {T} k=>by
  have kT:=(k.lay (o:=.lst [.ref S.length,.ref S1.length])).lay (o:=.lst [.ref I,.ref J])
  have kA:=k02.trans kT
  exact CU (GS (aO aN) aN (kT.lst _ _ (fun z=>z) hH) (kA.lst _ _ (fun z=>z) hI) (kT.lst _ _ (fun z=>z) hG) (kA.lst _ _ (fun z=>z) hJ) (fun x hx=>(oL x hx).kp kA fun _ _ z=>z) (fun x hx=>(oM x hx).kp kA fun _ _ z=>z))
 have hand:∀ (T:aA) (b1 b2 b3 b4 b5 b6 b7 b8:Bool),∃ T',T'=T ++ [O.lst [.bl b1,.bl b2,.bl b3,.bl b4]] ++ [O.lst [.bl b5,.bl b6,.bl b7,.bl b8]] ++ [O.lst [.bl b1,.bl b2,.bl b3,.bl b4,.bl b5,.bl b6,.bl b7,.bl b8]] /\ aZ (.ref T.length) (.ref (T ++ [O.lst [.bl b1,.bl b2,.bl b3,.bl b4]]).length) (T ++ [O.lst [.bl b1,.bl b2,.bl b3,.bl b4]] ++ [O.lst [.bl b5,.bl b6,.bl b7,.bl b8]])=.ok (.ref (T ++ [O.lst [.bl b1,.bl b2,.bl b3,.bl b4]] ++ [O.lst [.bl b5,.bl b6,.bl b7,.bl b8]]).length) T' /\ ak T' (T ++ [O.lst [.bl b1,.bl b2,.bl b3,.bl b4]] ++ [O.lst [.bl b5,.bl b6,.bl b7,.bl b8]]).length=some [.bl b1,.bl b2,.bl b3,.bl b4,.bl b5,.bl b6,.bl b7,.bl b8] /\ dD T T':=
  fun T b1 b2 b3 b4 b5 b6 b7 b8=>⟨_,rfl,qj (xs:=[.bl b1,.bl b2,.bl b3,.bl b4]) (ys:=[.bl b5,.bl b6,.bl b7,.bl b8]) (aO aN) aN (show 4 + 4 <= 16777216 by decide),aN,Kp.refl.lay.lay.lay⟩
 have o1:((1:Int) == 1)=true:=rfl
 obtain ⟨ws,hws⟩:∃ ws:List A,ws=[.str (PySem.Str.ofString "word"),.str (PySem.Str.ofString "pair"),.str (PySem.Str.ofString "many")]:=⟨_,rfl⟩
 unfold bO jH nR
 refine ⟨fun T e1 k1=>?_,fun T e1 k1=>?_,fun T e1 k1=>?_,fun T V xs e1 hV k1=>?_⟩
 ·obtain ⟨T',hT',e2,g2,k2⟩:=hand T true false false false false false false false
  obtain ⟨M,hM⟩:∃ M,M=(T ++ [O.lst [.bl true,.bl false,.bl false,.bl false]] ++ [O.lst [.bl false,.bl false,.bl false,.bl false]]).length:=⟨_,rfl⟩
  rw [<- hM] at e2 g2
  have e3:nu (.ref M) [.bl true] T'=.ok (.int 1) T':=by
   show opt (ak T' _) _=_
   rw [g2];rfl
  have e4:gx [.bl true,.bl false,.bl false,.bl false,.bl false,.bl false,.bl false,.bl false] none (some 3)=[.bl true,.bl false,.bl false]:=rA _ 3
  have e5:IE true (.bl true) (.ref T'.length) (T' ++ [O.lst [.bl true,.bl false,.bl false]])=.ok (.bl false) (T' ++ [O.lst [.bl true,.bl false,.bl false]]):=by
   show opt (ak _ _) _=_
   rw [aN];rfl
  have kk:dD S2 (T' ++ [O.lst [.bl true,.bl false,.bl false]]):=(k1.trans k2).lay
  have e6:=same kk
  have g3:=aO (o:=.lst ws) (aO (o:=.lst [.ref I,.ref J]) (aO (o:=.lst [.ref S.length,.ref S1.length]) (aO (o:=.lst [.bl true,.bl false,.bl false]) g2)))
  have e7:=qX (co:=ah 7) (d:=aj (eC (.bl true)) (aI)) (τ:=[.int n,.ref I,.ref J,.ref S.length,.ref S1.length,.dY,.exn (PySem.Str.ofString "NoWord"),.ref M]) (v:=.int 0) (S1:=S) (x:=.bl true) (by simp only [br,bools]) g3 (by simp only [br,bools]) (by
   show opt (ak _ _) _=_
   rw [g3,bw,cO ⟨rfl,rfl⟩];rfl)
  rw [hws] at e7
  simp only [br,iz,bools,bM,Nat.reduceAdd,Nat.reduceSub,hI,<- hS1,hJ1,<- hS2,e1,qL,uR,<- hM,e2,Bool.not_true,g2,e3,o1,e4,e5,e6,e7,sO]
  exact ⟨_,rfl,((((k02.trans (k1.trans k2)).lay).lay).lay).lay⟩
 ·obtain ⟨T',hT',e2,g2,k2⟩:=hand T false true false false false false false false
  obtain ⟨M,hM⟩:∃ M,M=(T ++ [O.lst [.bl false,.bl true,.bl false,.bl false]] ++ [O.lst [.bl false,.bl false,.bl false,.bl false]]).length:=⟨_,rfl⟩
  rw [<- hM] at e2 g2
  have e3:nu (.ref M) [.bl true] T'=.ok (.int 1) T':=by
   show opt (ak T' _) _=_
   rw [g2];rfl
  have e4:gx [.bl false,.bl true,.bl false,.bl false,.bl false,.bl false,.bl false,.bl false] none (some 3)=[.bl false,.bl true,.bl false]:=rA _ 3
  have e5:IE true (.bl true) (.ref T'.length) (T' ++ [O.lst [.bl false,.bl true,.bl false]])=.ok (.bl false) (T' ++ [O.lst [.bl false,.bl true,.bl false]]):=by
   show opt (ak _ _) _=_
   rw [aN];rfl
  have kk:dD S2 (T' ++ [O.lst [.bl false,.bl true,.bl false]]):=(k1.trans k2).lay
  have e6:=same kk
  have g3:=aO (o:=.lst ws) (aO (o:=.lst [.ref I,.ref J]) (aO (o:=.lst [.ref S.length,.ref S1.length]) (aO (o:=.lst [.bl false,.bl true,.bl false]) g2)))
  have e7:=qX (co:=ah 7) (d:=aj (eC (.bl true)) (aI)) (τ:=[.int n,.ref I,.ref J,.ref S.length,.ref S1.length,.dY,.exn (PySem.Str.ofString "NoPair"),.ref M]) (v:=.int 1) (S1:=S) (x:=.bl true) (by simp only [br,bools]) g3 (by simp only [br,bools]) (by
   show opt (ak _ _) _=_
   rw [g3,bw,cO ⟨rfl,rfl⟩];rfl)
  rw [hws] at e7
  simp only [br,iz,bools,bM,Nat.reduceAdd,Nat.reduceSub,hI,<- hS1,hJ1,<- hS2,e1,zX,HF,<- hM,e2,Bool.not_true,g2,e3,o1,e4,e5,e6,e7,p8]
  exact ⟨_,rfl,((((k02.trans (k1.trans k2)).lay).lay).lay).lay⟩
 ·obtain ⟨T',hT',e2,g2,k2⟩:=hand T false false true false false false false false
  obtain ⟨M,hM⟩:∃ M,M=(T ++ [O.lst [.bl false,.bl false,.bl true,.bl false]] ++ [O.lst [.bl false,.bl false,.bl false,.bl false]]).length:=⟨_,rfl⟩
  rw [<- hM] at e2 g2
  have e3:nu (.ref M) [.bl true] T'=.ok (.int 1) T':=by
   show opt (ak T' _) _=_
   rw [g2];rfl
  have e4:gx [.bl false,.bl false,.bl true,.bl false,.bl false,.bl false,.bl false,.bl false] none (some 3)=[.bl false,.bl false,.bl true]:=rA _ 3
  have e5:IE true (.bl true) (.ref T'.length) (T' ++ [O.lst [.bl false,.bl false,.bl true]])=.ok (.bl false) (T' ++ [O.lst [.bl false,.bl false,.bl true]]):=by
   show opt (ak _ _) _=_
   rw [aN];rfl
  have kk:dD S2 (T' ++ [O.lst [.bl false,.bl false,.bl true]]):=(k1.trans k2).lay
  have e6:=same kk
  have g3:=aO (o:=.lst ws) (aO (o:=.lst [.ref I,.ref J]) (aO (o:=.lst [.ref S.length,.ref S1.length]) (aO (o:=.lst [.bl false,.bl false,.bl true]) g2)))
  have e7:=qX (co:=ah 7) (d:=aj (eC (.bl true)) (aI)) (τ:=[.int n,.ref I,.ref J,.ref S.length,.ref S1.length,.dY,.exn (PySem.Str.ofString "TooMany"),.ref M]) (v:=.int 2) (S1:=S) (x:=.bl true) (by simp only [br,bools]) g3 (by simp only [br,bools]) (by
   show opt (ak _ _) _=_
   rw [g3,bw,cO ⟨rfl,rfl⟩];rfl)
  rw [hws] at e7
  simp only [br,iz,bools,bM,Nat.reduceAdd,Nat.reduceSub,hI,<- hS1,hJ1,<- hS2,e1,zB,HA,<- hM,e2,Bool.not_true,g2,e3,o1,e4,e5,e6,e7,at2]
  exact ⟨_,rfl,((((k02.trans (k1.trans k2)).lay).lay).lay).lay⟩
 ·have e6:=same k1
  simp only [br,iz,bools,bM,Nat.reduceAdd,Nat.reduceSub,hI,<- hS1,hJ1,<- hS2,e1,hV,Option.map_some,show iw .lst "list" = some true from rfl,Bool.not_true,e6]
  exact ⟨_,rfl,((k02.trans k1).lay).lay⟩
end K09
namespace K09
open PySem L2 Am
open Ti (Mv Con Red)
open Rd (Bf En eY up xD w_ uZ chg qc mH)
open Fw (j0 Va rg)
theorem HK {T:aA} {t p Q:Nat} {w:List Nat} {X:List A} (h4:ak T t=some (wd (w.take p))) (hQ:ak T Q=some X) (hX:X.length <= 2) (hw:w.length <= 50):aZ (.ref t) (.ref Q) T=.ok (.ref T.length) (T ++ [O.lst (wd (w.take p) ++ X)]) /\ aZ (.ref T.length) (.ref (T ++ [O.lst (wd (w.take p) ++ X)]).length) (T ++ [O.lst (wd (w.take p) ++ X)] ++ [O.lst (wd (w.drop p))])=.ok (.ref (T ++ [O.lst (wd (w.take p) ++ X)] ++ [O.lst (wd (w.drop p))]).length) (T ++ [O.lst (wd (w.take p) ++ X)] ++ [O.lst (wd (w.drop p))] ++ [O.lst (wd (w.take p) ++ X ++ wd (w.drop p))]):=
 ⟨qj h4 hQ (by rw [cI,List.length_take];omega),qj (aO aN) aN (by rw [List.length_append,cI,cI,List.length_take,List.length_drop];omega)⟩
theorem uy {S:aA} {w:List Nat} {p:Nat} {X:List A} (hX:∀ x ∈ X,Od S x):∀ x ∈ wd (w.take p) ++ X ++ wd (w.drop p),Od S x:=fun x hx=>by
 rcases List.mem_append.mp hx with z | z
 ·rcases List.mem_append.mp z with z | z
  ·exact j3 x z
  ·exact hX x z
 ·exact j3 x z
theorem qJ {w:List Nat} {p:Nat} {X:List A} (hX:X.length <= 2) (hw:w.length <= 50):(wd (w.take p) ++ X ++ wd (w.drop p)).length <= 100:=by
 rw [List.length_append,List.length_append,cI,cI,List.length_take,List.length_drop]
 omega
theorem nN {S:aA} {b n W:Nat} {w:List Nat} (h:rm S b) (hW:ak S W=some (wd w)) (hWb:W ≠ b) (hwl:w.length <= 20) (h1:2 <= n) (h2:n <= 20):∃ (V:Nat) (L:List A) (S':aA),cD [.ref b,.int n,.ref W] S=.ok (.ref V) S' /\ ak S' V=some L /\ (∀ x ∈ L,Od S' x) /\ L.length <= 100 /\ rm S' b /\ Kp (·=b) S S' /\ S.length <= V:=by
 have hb:b < S.length:=by obtain ⟨_,_,e,_⟩:=h;exact bI e
 obtain ⟨x,S1,e1,x0,x1,b1,k1⟩:=digit (m:=(w.length:Int) + 1) h (by omega) (by omega)
 obtain ⟨y,S2,e2,y0,y1,b2,k2⟩:=digit (m:=(n:Int) - 1) b1 (by omega) (by omega)
 obtain ⟨q,S3,e3,q0,q1,b3,k3⟩:=digit (m:=5) b2 (by decide) (by decide)
 have kS:Kp (·=b) S S3:=(k1.trans k2).trans k3
 have hW3:=kS.lst _ _ hWb hW
 obtain ⟨p,hp⟩:∃ p:Nat,(p:Int)=x:=⟨x.toNat,by omega⟩
 subst hp
 have l3:=kS.len
 unfold cD gB jE
 by_cases c0:q < 2
 ·have hT:ak (S3 ++ [O.lst (wd (w.take p))] ++ [O.lst [.int (1 + y),.int (1 + y)]]) S3.length=some (wd (w.take p)):=aO aN
  obtain ⟨f1,f2⟩:=HK (T:=S3 ++ [O.lst (wd (w.take p))] ++ [O.lst [.int (1 + y),.int (1 + y)]]) (X:=[.int (1 + y),.int (1 + y)]) hT aN (by simp) (by omega)
  have hW6:ak (S3 ++ [O.lst (wd (w.take p))] ++ [O.lst [.int (1 + y),.int (1 + y)]] ++ [O.lst (wd (w.take p) ++ [.int (1 + y),.int (1 + y)])]) W=some (wd w):=aO (aO (aO hW3))
  simp only [br,bools,bM,Nat.reduceAdd,Nat.reduceSub,hW,cI,e1,e2,e3,decide_eq_true c0,hW3,xS,f1,hW6,we,f2]
  refine ⟨_,_,_,rfl,aN,uy (fun x hx=>?_),qJ (by simp) (by omega),b3.kp (c:=fun _=>False) (((((Kp.refl.lay).lay).lay).lay).lay) fun z=>z,((((kS.lay).lay).lay).lay).lay,?_⟩
  ·simp only [List.mem_cons,List.not_mem_nil,or_false,or_self] at hx
   exact .inl ⟨_,hx⟩
  ·simp only [List.length_append];omega
 ·by_cases c2:q=2
  ·subst c2
   have hT:ak (S3 ++ [O.lst (wd (w.take p))] ++ [O.lst [.int (1 + y)]]) S3.length=some (wd (w.take p)):=aO aN
   obtain ⟨f1,f2⟩:=HK (T:=S3 ++ [O.lst (wd (w.take p))] ++ [O.lst [.int (1 + y)]]) (X:=[.int (1 + y)]) hT aN (by simp) (by omega)
   have hW6:ak (S3 ++ [O.lst (wd (w.take p))] ++ [O.lst [.int (1 + y)]] ++ [O.lst (wd (w.take p) ++ [.int (1 + y)])]) W=some (wd w):=aO (aO (aO hW3))
   simp only [br,bools,bM,Nat.reduceAdd,Nat.reduceSub,hW,cI,e1,e2,e3,decide_eq_false c0,beq_self_eq_true,hW3,xS,f1,hW6,we,f2]
   refine ⟨_,_,_,rfl,aN,uy (fun x hx=>?_),qJ (by simp) (by omega),b3.kp (c:=fun _=>False) (((((Kp.refl.lay).lay).lay).lay).lay) fun z=>z,((((kS.lay).lay).lay).lay).lay,?_⟩
   ·simp only [List.mem_cons,List.not_mem_nil,or_false] at hx
    exact .inl ⟨_,hx⟩
   ·simp only [List.length_append];omega
  ·have f2:(q == 2)=false:=by rw [beq_eq_false_iff_ne];exact c2
   by_cases c3:q=3
   ·subst c3
    have cd:gx (wd w) (some ((p:Int) + 1)) none=wd (w.drop (p + 1)):=by
     rw [show (p:Int) + 1=((p + 1:Nat):Int) by omega];exact we _ _
    have hW4:ak (S3 ++ [O.lst (wd (w.take p))]) W=some (wd w):=aO hW3
    have ad:aZ (.ref S3.length) (.ref (S3 ++ [O.lst (wd (w.take p))]).length) (S3 ++ [O.lst (wd (w.take p))] ++ [O.lst (wd (w.drop (p + 1)))])=.ok (.ref (S3 ++ [O.lst (wd (w.take p))] ++ [O.lst (wd (w.drop (p + 1)))]).length) (S3 ++ [O.lst (wd (w.take p))] ++ [O.lst (wd (w.drop (p + 1)))] ++ [O.lst (wd (w.take p) ++ wd (w.drop (p + 1)))]):=qj (aO aN) aN (by rw [cI,cI,List.length_take,List.length_drop];omega)
    simp only [br,bools,bM,Nat.reduceAdd,Nat.reduceSub,hW,cI,e1,e2,e3,decide_eq_false c0,f2,beq_self_eq_true,hW3,xS,hW4,cd,ad]
    refine ⟨_,_,_,rfl,aN,fun x hx=>?_,?_,b3.kp (c:=fun _=>False) (((Kp.refl.lay).lay).lay) fun z=>z,((kS.lay).lay).lay,?_⟩
    ·rcases List.mem_append.mp hx with z | z
     ·exact j3 x z
     ·exact j3 x z
    ·rw [List.length_append,cI,cI,List.length_take,List.length_drop];omega
    ·simp only [List.length_append];omega
   ·have f3:(q == 3)=false:=by rw [beq_eq_false_iff_ne];exact c3
    obtain ⟨os,hos⟩:∃ os:List A,os=[.int 0,.int n,.bl true,.non,.str (PySem.Str.ofString "1"),.int (-1),.int ((n:Int) + 1)]:=⟨_,rfl⟩
    obtain ⟨S4,hS4⟩:∃ S4,S4=S3 ++ [O.lst (wd (w.take p))]:=⟨_,rfl⟩
    obtain ⟨S5,hS5⟩:∃ S5,S5=S4 ++ [O.lst os]:=⟨_,rfl⟩
    have n5:newL [.int 0,.int n,.bl true,.non,.str (PySem.Str.ofString "1"),.int (-1),.int ((n:Int) + 1)] S4=.ok (.ref S4.length) S5:=by rw [hS5,hos];exact bP (show 7 <= 16777216 by decide)
    have k4:dD S3 S4:=by rw [hS4];exact Kp.refl.lay
    have k5:dD S4 S5:=by rw [hS5];exact Kp.refl.lay
    obtain ⟨z,S6,e6,z0,z1,b6,k6⟩:=digit (m:=7) (b3.kp (k4.trans k5) fun z=>z) (by decide) (by decide)
    have l4:=k4.len
    have l4':S4.length=S3.length + 1:=by rw [hS4];simp
    have hO:ak S6 S4.length=some os:=k6.lst _ _ (by omega) (by rw [hS5];exact aN)
    obtain ⟨v,hvm,hv⟩:=A_ (xs:=os) z0 (by rw [hos];exact z1)
    have hod:∀ T,Od T v:=fun T=>by
     rw [hos] at hvm
     simp only [List.mem_cons,List.not_mem_nil,or_false] at hvm
     rcases hvm with rfl | rfl | rfl | rfl | rfl | rfl | rfl
     ·exact .inl ⟨_,rfl⟩
     ·exact .inl ⟨_,rfl⟩
     ·exact .inr (.inl ⟨_,rfl⟩)
     ·exact .inr (.inr (.inl rfl))
     ·exact .inr (.inr (.inr (.inl ⟨_,rfl⟩)))
     ·exact .inl ⟨_,rfl⟩
     ·exact .inl ⟨_,rfl⟩
    have n7:newL [v] S6=.ok (.ref S6.length) (S6 ++ [O.lst [v]]):=bP (show 1 <= 16777216 by decide)
    have hT:ak (S6 ++ [O.lst [v]]) S3.length=some (wd (w.take p)):=aO (k6.lst _ _ (by omega) (k5.lst _ _ (fun z=>z) (by rw [hS4];exact aN)))
    obtain ⟨g1,g2⟩:=HK (T:=S6 ++ [O.lst [v]]) (X:=[v]) hT aN (by simp) (by omega)
    have hW6:ak S6 W=some (wd w):=k6.lst _ _ hWb ((k4.trans k5).lst _ _ (fun z=>z) hW3)
    have hW8:ak (S6 ++ [O.lst [v]] ++ [O.lst (wd (w.take p) ++ [v])]) W=some (wd w):=aO (aO hW6)
    have kk:Kp (·=b) S S6:=(kS.trans (k4.trans k5).of0).trans k6
    have lk:=kk.len
    have hvu:v.di=false:=(hod S6).dY
    simp only [br,bools,bM,Nat.reduceAdd,Nat.reduceSub,hW,cI,e1,e2,e3,decide_eq_false c0,f2,f3,hW3,xS,<- hS4,n5,e6,hO,hv,n7,g1,hW8,we,g2]
    refine ⟨_,_,_,rfl,aN,uy (fun x hx=>?_),qJ (by simp) (by omega),b6.kp (c:=fun _=>False) ((((Kp.refl.lay).lay).lay).lay) fun z=>z,(((kk.lay).lay).lay).lay,?_⟩
    ·have:x=v:=by simpa using hx
     rw [this];exact hod _
    ·simp only [List.length_append];omega
theorem Hy {S:aA} {n I J:Nat} {L M:List A} (hI:ak S I=some L) (oL:∀ x ∈ L,Od S x) (hl:L.length <= 100) (hJ:ak S J=some M) (oM:∀ x ∈ M,Od S x) (hl':M.length <= 100) (h1:1 <= n) (h2:n <= 20):∃ t S1 S2,bO [.int n,.ref I,.ref J] S=.ok (.str t) S1 /\ bQ [.int n,.ref I,.ref J] S1=.ok (.str t) S2 /\ dD S S2:=by
 obtain ⟨q1,q2,q3,q4⟩:=kinds (n:=n) hI hJ oL oM
 have k01:dD S (S ++ [O.lst L]):=Kp.refl.lay
 have k02:dD S (S ++ [O.lst L] ++ [O.lst M]):=Kp.refl.lay.lay
 have hH:ak (S ++ [O.lst L] ++ [O.lst M]) S.length=some L:=aO aN
 have hG:ak (S ++ [O.lst L] ++ [O.lst M]) (S ++ [O.lst L]).length=some M:=aN
 have oL2:∀ x ∈ L,Od (S ++ [O.lst L] ++ [O.lst M]) x:=fun x hx=>(oL x hx).kp k02 fun _ _ z=>z
 have oM2:∀ x ∈ M,Od (S ++ [O.lst L] ++ [O.lst M]) x:=fun x hx=>(oM x hx).kp k02 fun _ _ z=>z
 have fin:∀ (t:Str) (S1:aA),bO [.int n,.ref I,.ref J] S=.ok (.str t) S1 -> dD S S1 -> (∃ S2,bQ [.int n,.ref I,.ref J] S1=.ok (.str t) S2 /\ dD S1 S2) -> ∃ t S1 S2,bO [.int n,.ref I,.ref J] S=.ok (.str t) S1 /\ bQ [.int n,.ref I,.ref J] S1=.ok (.str t) S2 /\ dD S S2:=fun t S1 e k ⟨S2,e2,k2⟩=>⟨t,S1,S2,e,e2,k.trans k2⟩
 cases c:L.all (ev n) with
 | false=>
  obtain ⟨T,e,k⟩:=IL (J:=(S ++ [O.lst L]).length) hH oL2 hl h2 c
  obtain ⟨S1,e1,k1⟩:=q1 T e k
  exact fin _ S1 e1 k1 (EE (k1.lst _ _ (fun z=>z) hI) (fun x hx=>(oL x hx).kp k1 fun _ _ z=>z) hl (k1.lst _ _ (fun z=>z) hJ) (fun x hx=>(oM x hx).kp k1 fun _ _ z=>z) hl' (.inl c))
 | true=>
  obtain ⟨w,rfl,hw⟩:=BQ c
  rw [cI] at hl
  cases d:M.all (ev n) with
  | false=>
   obtain ⟨T,e,k⟩:=JP (S:=S ++ [O.lst (wd w)] ++ [O.lst M]) hH hw hl hG oM2 hl' h1 h2 d
   obtain ⟨S1,e1,k1⟩:=q1 T e k
   exact fin _ S1 e1 k1 (EE (k1.lst _ _ (fun z=>z) hI) j3 (by rw [cI];exact hl) (k1.lst _ _ (fun z=>z) hJ) (fun x hx=>(oM x hx).kp k1 fun _ _ z=>z) hl' (.inr d))
  | true=>
   obtain ⟨v,rfl,hv⟩:=BQ d
   rw [cI] at hl'
   obtain ⟨r1,r2⟩:=JX (S:=S ++ [O.lst (wd w)] ++ [O.lst (wd v)]) hH hw hl hG hv hl' h1 h2
   have due:∀ S1,dD S S1 -> _:=fun S1 k1=>JT (S:=S1) (k1.lst _ _ (fun z=>z) hI) hw hl (k1.lst _ _ (fun z=>z) hJ) hv hl' h1 h2
   by_cases tw:Cd n w v
   ·by_cases hb:8 < w.length \/ 9 < n
    ·obtain ⟨T,e,k⟩:=r2 tw hb
     obtain ⟨S1,e1,k1⟩:=q3 T e k
     have:=(due S1 k1).2 tw
     rw [if_pos hb] at this
     exact fin _ S1 e1 k1 this
    ·obtain ⟨V,T,e,⟨rs,R,tb,_⟩,k⟩:=DT (S:=S ++ [O.lst (wd w)] ++ [O.lst (wd v)]) hH hG h1 (by omega) ⟨hw,tw.2.1⟩ ⟨hv,by rw [<- tw.1];exact tw.2.2⟩ tw.1 (by omega)
     obtain ⟨S1,e1,k1⟩:=q4 T V _ e tb.top k
     have:=(due S1 k1).2 tw
     rw [if_neg hb] at this
     exact fin _ S1 e1 k1 this
   ·obtain ⟨T,e,k⟩:=r1 tw
    obtain ⟨S1,e1,k1⟩:=q2 T e k
    exact fin _ S1 e1 k1 ((due S1 k1).1 tw)
end K09
namespace K09
open PySem L2 Am
open Ti (Mv Con Red)
open Fw (j0 Va rg)
theorem HP (ns:List Int) (hl:ns.length <= 63):∃ S',pL [.frz (ns.map .int)] []=.ok (.bl true) S':=by
 unfold pL Ba Fp
 simp only [br,bools,bM,Nat.reduceAdd,Nat.reduceSub]
 refine mT (lo:=0) (hi:=if (if (ns.length:Int) < 4 then (ns.length:Int) else 4) > 1 then (if (ns.length:Int) < 4 then (ns.length:Int) else 4) else 1) (S1:=[]) (show xE _ _=_ from gJ (by simp only [br,bools,List.length_map]) (dN (by split <;> split <;> omega) (by split <;> split <;> omega)))
  (fun _ τ _=>∃ a1 a2 a3 a4 a5 a6 a7 a8 a9:A,τ=[.frz (ns.map .int),a1,a2,a3,a4,a5,a6,a7,a8,a9]) (fun r=>∃ S',RS.end (RS.seq r _)=.ok (.bl true) S') ⟨_,_,_,_,_,_,_,_,_,rfl⟩ ?_ ?_
 ·rintro i τ S hi ⟨a1,a2,a3,a4,a5,a6,a7,a8,a9,rfl⟩
  left
  have hi6:(i:Int) < 6:=by split at hi <;> split at hi <;> omega
  obtain ⟨S1,e1,b1,kp1⟩:=DA (S:=S) (ns:=ns) (k:=0 + (i:Int)) (by omega) (by omega)
  have b1l:S.length < S1.length:=by obtain ⟨_,_,e,_⟩:=b1;exact bI e
  have n1:newL [.int 4,.int 19] S1=.ok (.ref S1.length) (S1 ++ [O.lst [.int 4,.int 19]]):=bP (show 2 <= 16777216 by decide)
  have k1:dD S1 (S1 ++ [O.lst [.int 4,.int 19]]):=Kp.refl.lay
  obtain ⟨q,S2,e2,q0,q1,b2,kp2⟩:=digit (m:=2) (b1.kp k1 fun z=>z) (by decide) (by decide)
  have g2:ak S2 S1.length=some [.int 4,.int 19]:=kp2.lst _ _ (by omega) aN
  obtain ⟨m,em,m0,m1⟩:∃ m:Int,eV [A.int 4,.int 19] q=some (.int m) /\ 1 <= m /\ m <= 19:=by
   by_cases g0:q=0
   ·exact ⟨4,by rw [g0];exact sO,by decide,by decide⟩
   ·exact ⟨19,by rw [show q=1 by omega];exact p8,by decide,by decide⟩
  obtain ⟨d,S3,e3,d0,d1,b3,kp3⟩:=digit (m:=m) b2 m0 (by omega)
  obtain ⟨n,hn⟩:∃ n:Nat,(n:Int)=2 + d:=⟨(2 + d).toNat,by omega⟩
  have n2:2 <= n:=by omega
  have n9:n <= 20:=by omega
  obtain ⟨w,W,S4,e4,w4,rw',wl,b4,kp4,sW⟩:=A0 (n:=n) b3 n2 (by omega)
  have rd:=Ct rw'
  have hbS3:S.length < S3.length:=by obtain ⟨_,_,e,_⟩:=b3;exact bI e
  obtain ⟨V,v,S5,e5,v5,rv,hv,vl,b5,kp5,sV⟩:=BS (S:=S4) b4 w4 rd (by omega) (by omega) (by omega)
  have hS4:S.length < S4.length:=by obtain ⟨_,_,e,_⟩:=b4;exact bI e
  have hS5:S.length < S5.length:=by obtain ⟨_,_,e,_⟩:=b5;exact bI e
  have w5:=kp5.lst _ _ (by omega) w4
  obtain ⟨X,L,S6,e6,x6,oL,hL,b6,kp6,sX⟩:=nN (S:=S5) b5 w5 (by omega) (by omega) n2 n9
  have hS6:S.length < S6.length:=by obtain ⟨_,_,e,_⟩:=b6;exact bI e
  have v6:=kp6.lst _ _ (by omega) v5
  have w6:=kp6.lst _ _ (by omega) w5
  obtain ⟨Y,M,S7,e7,y7,oM,hM,b7,kp7,sY⟩:=nN (S:=S6) b6 v6 (by omega) (by omega) n2 n9
  have v7:=kp7.lst _ _ (by omega) v6
  have w7:=kp7.lst _ _ (by omega) w6
  have x7:=kp7.lst _ _ (by omega) x6
  have oL7:∀ x ∈ L,Od S7 x:=fun x hx=>(oL x hx).kp kp7 fun p hp=>by
   rintro rfl
   rcases oL x hx with ⟨i,rfl⟩ | ⟨t,rfl⟩ | rfl | ⟨t,rfl⟩ | ⟨p',rfl,h1⟩ | rfl
   ·cases hp
   ·cases hp
   ·cases hp
   ·cases hp
   ·cases hp
    obtain ⟨g,st,eb,_⟩:=b6
    rw [eb] at h1;cases h1
   ·cases hp
  unfold vY
  simp only [br,bools,e1,n1,e2,g2,em,e3,<- hn,e4,e5,e6,e7]
  obtain ⟨xs,hxs⟩:∃ xs:List A,xs=[.tup [.ref W,.ref V],.tup [.ref W,.ref X],.tup [.ref Y,.ref V],.tup [.ref X,.ref Y]]:=⟨_,rfl⟩
  have n8:newL [.tup [.ref W,.ref V],.tup [.ref W,.ref X],.tup [.ref Y,.ref V],.tup [.ref X,.ref Y]] S7=.ok (.ref S7.length) (S7 ++ [O.lst xs]):=by rw [hxs];exact bP (show 4 <= 16777216 by decide)
  have hX:ak (S7 ++ [O.lst xs]) S7.length=some xs:=aN
  refine mS (n:=S7.length) (xs:=xs) (S1:=S7 ++ [O.lst xs]) (show wB _ _=_ from jQ (by simp only [br,bools,ir (show ([_,_]:List A).length <= 16777216 by simp),n8]) hX)
   (fun _ τ T=>(∃ a8 a9,τ=[.frz (ns.map .int),.int (0 + (i:Int)),.ref S.length,.int n,.ref W,.ref V,.ref X,.ref Y,a8,a9]) /\ dD (S7 ++ [O.lst xs]) T)
   (fun r=>∃ τ' S',r=.nx τ' S' /\ ∃ a1 a2 a3 a4 a5 a6 a7 a8 a9:A,τ'=[.frz (ns.map .int),a1,a2,a3,a4,a5,a6,a7,a8,a9]) ⟨⟨_,_,rfl⟩,Kp.refl⟩ (fun j τ T ⟨_,k⟩=>k.lst _ _ (fun z=>z) hX) ?_ ?_
  ·rintro j x τ T hx ⟨⟨a8,a9,rfl⟩,k⟩
   have kT:dD S7 T:=(Kp.refl.lay).trans k
   have ok:∀ P,(P=W \/ P=V \/ P=X \/ P=Y) -> ∃ B,ak T P=some B /\ (∀ x ∈ B,Od T x) /\ B.length <= 100:=fun P hP=>by
    rcases hP with rfl | rfl | rfl | rfl
    ·exact ⟨_,kT.lst _ _ (fun z=>z) w7,j3,by rw [cI];omega⟩
    ·exact ⟨_,kT.lst _ _ (fun z=>z) v7,j3,by rw [cI];omega⟩
    ·exact ⟨_,kT.lst _ _ (fun z=>z) x7,fun x hx=>(oL7 x hx).kp kT fun _ _ z=>z,hL⟩
    ·exact ⟨_,kT.lst _ _ (fun z=>z) y7,fun x hx=>(oM x hx).kp kT fun _ _ z=>z,hM⟩
   have hxm:∃ P Q,x=.tup [.ref P,.ref Q] /\ (P=W \/ P=V \/ P=X \/ P=Y) /\ (Q=W \/ Q=V \/ Q=X \/ Q=Y):=by
    have:=List.mem_of_getElem? hx
    rw [hxs] at this
    simp only [List.mem_cons,List.not_mem_nil,or_false] at this
    rcases this with z | z | z | z
    ·exact ⟨W,V,z,.inl rfl,.inr (.inl rfl)⟩
    ·exact ⟨W,X,z,.inl rfl,.inr (.inr (.inl rfl))⟩
    ·exact ⟨Y,V,z,.inr (.inr (.inr rfl)),.inr (.inl rfl)⟩
    ·exact ⟨X,Y,z,.inr (.inr (.inl rfl)),.inr (.inr (.inr rfl))⟩
   obtain ⟨P,Q,rfl,hP,hQ⟩:=hxm
   obtain ⟨B,hB,oB,lB⟩:=ok P hP
   obtain ⟨C,hC,oC,lC⟩:=ok Q hQ
   obtain ⟨t,T1,T2,f1,f2,k2⟩:=Hy (n:=n) hB oB lB hC oC lC (by omega) n9
   refine ⟨[.frz (ns.map .int),.int (0 + (i:Int)),.ref S.length,.int n,.ref W,.ref V,.ref X,.ref Y,.ref P,.ref Q],T,by simp only [br,bools,cO (show ([_,_]:List A).length=2 from rfl)],.inl ?_⟩
   unfold xr
   simp only [br,bools,f1,f2,ne_str]
   exact ⟨_,_,rfl,⟨_,_,rfl⟩,k.trans k2⟩
  ·rintro τ T ⟨⟨a8,a9,rfl⟩,k⟩
   exact ⟨_,_,rfl,_,_,_,_,_,_,_,_,_,rfl⟩
 ·rintro τ S ⟨a1,a2,a3,a4,a5,a6,a7,a8,a9,rfl⟩
  simp only [br,bools]
  exact ⟨_,rfl⟩
end K09
namespace K09
open PySem L2 Am
theorem all_mk {l:PySem.W.OpenLaw} {w:World} {K:PySem.W.Frag} {h:Heap} {mg:Str -> Option Value} {fa f1 f2 f3 f4 f5 f6 f7 f8 f9 f10 f11 f12 f13 f14 f15 f16 f17 f18 f19 f20 f21 f22 f23 f24 f25 f26 f27:Addr} (X:K.In h) (G:h.Ns mainGlobals mg) (hfa:mg "law" = some (.ref fa))
  {od1 an1 od2 an2 od3 an3 od4 an4 od5 an5 od6 an6 od7 an7 od8 an8 od9 an9 od10 an10 od11 an11 od12 an12 od13 an13 od14 an14 od15 an15 od16 an16 od17 an17 od18 an18 od19 an19 od20 an20 od21 an21 od22 an22 od23 an23 od24 an24 od25 an25 od26 an26 od27 an27:Option Addr} {sl1 sl2 sl3 sl4 sl5 sl6 sl7 sl8 sl9 sl10 sl11 sl12 sl13 sl14 sl15 sl16 sl17 sl18 sl19 sl20 sl21 sl22 sl23 sl24 sl25 sl26 sl27:Array (Option Value)} {oc1 kV1 dc1 pm1 cd1 ct1 oc2 kV2 dc2 pm2 cd2 ct2 oc3 kV3 dc3 pm3 cd3 ct3 oc4 kV4 dc4 pm4 cd4 ct4 oc5 kV5 dc5 pm5 cd5 ct5 oc6 kV6 dc6 pm6 cd6 ct6 oc7 kV7 dc7 pm7 cd7 ct7 oc8 kV8 dc8 pm8 cd8 ct8 oc9 kV9 dc9 pm9 cd9 ct9 oc10 kV10 dc10 pm10 cd10 ct10 oc11 kV11 dc11 pm11 cd11 ct11 oc12 kV12 dc12 pm12 cd12 ct12 oc13 kV13 dc13 pm13 cd13 ct13 oc14 kV14 dc14 pm14 cd14 ct14 oc15 kV15 dc15 pm15 cd15 ct15 oc16 kV16 dc16 pm16 cd16 ct16 oc17 kV17 dc17 pm17 cd17 ct17 oc18 kV18 dc18 pm18 cd18 ct18 oc19 kV19 dc19 pm19 cd19 ct19 oc20 kV20 dc20 pm20 cd20 ct20 oc21 kV21 dc21 pm21 cd21 ct21 oc22 kV22 dc22 pm22 cd22 ct22 oc23 kV23 dc23 pm23 cd23 ct23 oc24 kV24 dc24 pm24 cd24 ct24 oc25 kV25 dc25 pm25 cd25 ct25 oc26 kV26 dc26 pm26 cd26 ct26 oc27 kV27 dc27 pm27 cd27 ct27:Value}
  (a1:PySem.W.nsIn K mainGlobals "is_whole" = some (some (.ref f1))) (l1:K.lookup f1=some ⟨oc1,od1,.func (PySem.W.fnOf "is_whole" "is_whole" (aW fh) (aV fh) (aC fh) .none kV1 dc1 pm1 an1 cd1 ct1),sl1⟩) (c1:PySem.W.codeIn K cd1 "is_whole" = true) (k1:PySem.W.keepIn K (.ref f1)=true)
  (a2:PySem.W.nsIn K mainGlobals "plain_order" = some (some (.ref f2))) (l2:K.lookup f2=some ⟨oc2,od2,.func (PySem.W.fnOf "plain_order" "plain_order" (aW cV) (aV cV) (aC cV) .none kV2 dc2 pm2 an2 cd2 ct2),sl2⟩) (c2:PySem.W.codeIn K cd2 "plain_order" = true) (k2:PySem.W.keepIn K (.ref f2)=true)
  (a3:PySem.W.nsIn K mainGlobals "is_exchange" = some (some (.ref f3))) (l3:K.lookup f3=some ⟨oc3,od3,.func (PySem.W.fnOf "is_exchange" "is_exchange" (aW cS) (aV cS) (aC cS) .none kV3 dc3 pm3 an3 cd3 ct3),sl3⟩) (c3:PySem.W.codeIn K cd3 "is_exchange" = true) (k3:PySem.W.keepIn K (.ref f3)=true)
  (a4:PySem.W.nsIn K mainGlobals "exchanged_places" = some (some (.ref f4))) (l4:K.lookup f4=some ⟨oc4,od4,.func (PySem.W.fnOf "exchanged_places" "exchanged_places" (aW bF) (aV bF) (aC bF) .none kV4 dc4 pm4 an4 cd4 ct4),sl4⟩) (c4:PySem.W.codeIn K cd4 "exchanged_places" = true) (k4:PySem.W.keepIn K (.ref f4)=true)
  (a5:PySem.W.nsIn K mainGlobals "exchanged" = some (some (.ref f5))) (l5:K.lookup f5=some ⟨oc5,od5,.func (PySem.W.fnOf "exchanged" "exchanged" (aW eB) (aV eB) (aC eB) .none kV5 dc5 pm5 an5 cd5 ct5),sl5⟩) (c5:PySem.W.codeIn K cd5 "exchanged" = true) (k5:PySem.W.keepIn K (.ref f5)=true)
  (a6:PySem.W.nsIn K mainGlobals "place_pairs" = some (some (.ref f6))) (l6:K.lookup f6=some ⟨oc6,od6,.func (PySem.W.fnOf "place_pairs" "place_pairs" (aW cU) (aV cU) (aC cU) .none kV6 dc6 pm6 an6 cd6 ct6),sl6⟩) (c6:PySem.W.codeIn K cd6 "place_pairs" = true) (k6:PySem.W.keepIn K (.ref f6)=true)
  (a7:PySem.W.nsIn K mainGlobals "wrong_pairs" = some (some (.ref f7))) (l7:K.lookup f7=some ⟨oc7,od7,.func (PySem.W.fnOf "wrong_pairs" "wrong_pairs" (aW cT) (aV cT) (aC cT) .none kV7 dc7 pm7 an7 cd7 ct7),sl7⟩) (c7:PySem.W.codeIn K cd7 "wrong_pairs" = true) (k7:PySem.W.keepIn K (.ref f7)=true)
  (a8:PySem.W.nsIn K mainGlobals "length" = some (some (.ref f8))) (l8:K.lookup f8=some ⟨oc8,od8,.func (PySem.W.fnOf "length" "length" (aW gW) (aV gW) (aC gW) .none kV8 dc8 pm8 an8 cd8 ct8),sl8⟩) (c8:PySem.W.codeIn K cd8 "length" = true) (k8:PySem.W.keepIn K (.ref f8)=true)
  (a9:PySem.W.nsIn K mainGlobals "is_word" = some (some (.ref f9))) (l9:K.lookup f9=some ⟨oc9,od9,.func (PySem.W.fnOf "is_word" "is_word" (aW fQ) (aV fQ) (aC fQ) .none kV9 dc9 pm9 an9 cd9 ct9),sl9⟩) (c9:PySem.W.codeIn K cd9 "is_word" = true) (k9:PySem.W.keepIn K (.ref f9)=true)
  (a10:PySem.W.nsIn K mainGlobals "led_by" = some (some (.ref f10))) (l10:K.lookup f10=some ⟨oc10,od10,.func (PySem.W.fnOf "led_by" "led_by" (aW gR) (aV gR) (aC gR) .none kV10 dc10 pm10 an10 cd10 ct10),sl10⟩) (c10:PySem.W.codeIn K cd10 "led_by" = true) (k10:PySem.W.keepIn K (.ref f10)=true)
  (a11:PySem.W.nsIn K mainGlobals "is_beyond" = some (some (.ref f11))) (l11:K.lookup f11=some ⟨oc11,od11,.func (PySem.W.fnOf "is_beyond" "is_beyond" (aW eF) (aV eF) (aC eF) .none kV11 dc11 pm11 an11 cd11 ct11),sl11⟩) (c11:PySem.W.codeIn K cd11 "is_beyond" = true) (k11:PySem.W.keepIn K (.ref f11)=true)
  (a12:PySem.W.nsIn K mainGlobals "changed_places" = some (some (.ref f12))) (l12:K.lookup f12=some ⟨oc12,od12,.func (PySem.W.fnOf "changed_places" "changed_places" (aW bS) (aV bS) (aC bS) .none kV12 dc12 pm12 an12 cd12 ct12),sl12⟩) (c12:PySem.W.codeIn K cd12 "changed_places" = true) (k12:PySem.W.keepIn K (.ref f12)=true)
  (a13:PySem.W.nsIn K mainGlobals "turned_threes" = some (some (.ref f13))) (l13:K.lookup f13=some ⟨oc13,od13,.func (PySem.W.fnOf "turned_threes" "turned_threes" (aW cg) (aV cg) (aC cg) .none kV13 dc13 pm13 an13 cd13 ct13),sl13⟩) (c13:PySem.W.codeIn K cd13 "turned_threes" = true) (k13:PySem.W.keepIn K (.ref f13)=true)
  (a14:PySem.W.nsIn K mainGlobals "traced" = some (some (.ref f14))) (l14:K.lookup f14=some ⟨oc14,od14,.func (PySem.W.fnOf "traced" "traced" (aW gT) (aV gT) (aC gT) .none kV14 dc14 pm14 an14 cd14 ct14),sl14⟩) (c14:PySem.W.codeIn K cd14 "traced" = true) (k14:PySem.W.keepIn K (.ref f14)=true)
  (a15:PySem.W.nsIn K mainGlobals "found_road" = some (some (.ref f15))) (l15:K.lookup f15=some ⟨oc15,od15,.func (PySem.W.fnOf "found_road" "found_road" (aW dJ) (aV dJ) (aC dJ) .none kV15 dc15 pm15 an15 cd15 ct15),sl15⟩) (c15:PySem.W.codeIn K cd15 "found_road" = true) (k15:PySem.W.keepIn K (.ref f15)=true)
  (a16:PySem.W.nsIn K mainGlobals "road" = some (some (.ref f16))) (l16:K.lookup f16=some ⟨oc16,od16,.func (PySem.W.fnOf "road" "road" (aW kL) (aV kL) (aC kL) .none kV16 dc16 pm16 an16 cd16 ct16),sl16⟩) (c16:PySem.W.codeIn K cd16 "road" = true) (k16:PySem.W.keepIn K (.ref f16)=true)
  (a17:PySem.W.nsIn K mainGlobals "_law_bag" = some (some (.ref f17))) (l17:K.lookup f17=some ⟨oc17,od17,.func (PySem.W.fnOf "_law_bag" "_law_bag" (aW fV) (aV fV) (aC fV) .none kV17 dc17 pm17 an17 cd17 ct17),sl17⟩) (c17:PySem.W.codeIn K cd17 "_law_bag" = true) (k17:PySem.W.keepIn K (.ref f17)=true)
  (a18:PySem.W.nsIn K mainGlobals "_law_digit" = some (some (.ref f18))) (l18:K.lookup f18=some ⟨oc18,od18,.func (PySem.W.fnOf "_law_digit" "_law_digit" (aW d9) (aV d9) (aC d9) .none kV18 dc18 pm18 an18 cd18 ct18),sl18⟩) (c18:PySem.W.codeIn K cd18 "_law_digit" = true) (k18:PySem.W.keepIn K (.ref f18)=true)
  (a19:PySem.W.nsIn K mainGlobals "_law_led" = some (some (.ref f19))) (l19:K.lookup f19=some ⟨oc19,od19,.func (PySem.W.fnOf "_law_led" "_law_led" (aW fT) (aV fT) (aC fT) .none kV19 dc19 pm19 an19 cd19 ct19),sl19⟩) (c19:PySem.W.codeIn K cd19 "_law_led" = true) (k19:PySem.W.keepIn K (.ref f19)=true)
  (a20:PySem.W.nsIn K mainGlobals "_law_grown" = some (some (.ref f20))) (l20:K.lookup f20=some ⟨oc20,od20,.func (PySem.W.fnOf "_law_grown" "_law_grown" (aW eo) (aV eo) (aC eo) .none kV20 dc20 pm20 an20 cd20 ct20),sl20⟩) (c20:PySem.W.codeIn K cd20 "_law_grown" = true) (k20:PySem.W.keepIn K (.ref f20)=true)
  (a21:PySem.W.nsIn K mainGlobals "_law_other" = some (some (.ref f21))) (l21:K.lookup f21=some ⟨oc21,od21,.func (PySem.W.fnOf "_law_other" "_law_other" (aW d7) (aV d7) (aC d7) .none kV21 dc21 pm21 an21 cd21 ct21),sl21⟩) (c21:PySem.W.codeIn K cd21 "_law_other" = true) (k21:PySem.W.keepIn K (.ref f21)=true)
  (a22:PySem.W.nsIn K mainGlobals "_law_wrong" = some (some (.ref f22))) (l22:K.lookup f22=some ⟨oc22,od22,.func (PySem.W.fnOf "_law_wrong" "_law_wrong" (aW eg) (aV eg) (aC eg) .none kV22 dc22 pm22 an22 cd22 ct22),sl22⟩) (c22:PySem.W.codeIn K cd22 "_law_wrong" = true) (k22:PySem.W.keepIn K (.ref f22)=true)
  (a23:PySem.W.nsIn K mainGlobals "_law_kind" = some (some (.ref f23))) (l23:K.lookup f23=some ⟨oc23,od23,.func (PySem.W.fnOf "_law_kind" "_law_kind" (aW fm) (aV fm) (aC fm) .none kV23 dc23 pm23 an23 cd23 ct23),sl23⟩) (c23:PySem.W.codeIn K cd23 "_law_kind" = true) (k23:PySem.W.keepIn K (.ref f23)=true)
  (a24:PySem.W.nsIn K mainGlobals "_law_is_word" = some (some (.ref f24))) (l24:K.lookup f24=some ⟨oc24,od24,.func (PySem.W.fnOf "_law_is_word" "_law_is_word" (aW cQ) (aV cQ) (aC cQ) .none kV24 dc24 pm24 an24 cd24 ct24),sl24⟩) (c24:PySem.W.codeIn K cd24 "_law_is_word" = true) (k24:PySem.W.keepIn K (.ref f24)=true)
  (a25:PySem.W.nsIn K mainGlobals "_law_due" = some (some (.ref f25))) (l25:K.lookup f25=some ⟨oc25,od25,.func (PySem.W.fnOf "_law_due" "_law_due" (aW fP) (aV fP) (aC fP) .none kV25 dc25 pm25 an25 cd25 ct25),sl25⟩) (c25:PySem.W.codeIn K cd25 "_law_due" = true) (k25:PySem.W.keepIn K (.ref f25)=true)
  (a26:PySem.W.nsIn K mainGlobals "_law_spoiled" = some (some (.ref f26))) (l26:K.lookup f26=some ⟨oc26,od26,.func (PySem.W.fnOf "_law_spoiled" "_law_spoiled" (aW cW) (aV cW) (aC cW) .none kV26 dc26 pm26 an26 cd26 ct26),sl26⟩) (c26:PySem.W.codeIn K cd26 "_law_spoiled" = true) (k26:PySem.W.keepIn K (.ref f26)=true)
  (a27:PySem.W.nsIn K mainGlobals "law" = some (some (.ref f27))) (l27:K.lookup f27=some ⟨oc27,od27,.func (PySem.W.fnOf "law" "law" (aW kc) (aV kc) (aC kc) .none kV27 dc27 pm27 an27 cd27 ct27),sl27⟩) (c27:PySem.W.codeIn K cd27 "law" = true) (k27:PySem.W.keepIn K (.ref f27)=true)
  (z_isinstance:PySem.W.nsIn K mainGlobals "isinstance" = some none)
  (z_bool:PySem.W.nsIn K mainGlobals "bool" = some none)
  (z_int:PySem.W.nsIn K mainGlobals "int" = some none)
  (z_tuple:PySem.W.nsIn K mainGlobals "tuple" = some none)
  (z_range:PySem.W.nsIn K mainGlobals "range" = some none)
  (z_list:PySem.W.nsIn K mainGlobals "list" = some none)
  (z_len:PySem.W.nsIn K mainGlobals "len" = some none)
  (z_all:PySem.W.nsIn K mainGlobals "all" = some none)
  (z_abs:PySem.W.nsIn K mainGlobals "abs" = some none)
  (z_ValueError:PySem.W.nsIn K mainGlobals "ValueError" = some none)
  (z_max:PySem.W.nsIn K mainGlobals "max" = some none)
  (z_min:PySem.W.nsIn K mainGlobals "min" = some none)
  {t_MOST_NUMBERS_words:Tok} (y_MOST_NUMBERS_words:PySem.W.nsIn K mainGlobals "MOST_NUMBERS_words" = some (some (.int 200 t_MOST_NUMBERS_words)))
  {t_MOST_NUMBERS_roads:Tok} (y_MOST_NUMBERS_roads:PySem.W.nsIn K mainGlobals "MOST_NUMBERS_roads" = some (some (.int 8 t_MOST_NUMBERS_roads)))
  {t_MOST_THINGS:Tok} (y_MOST_THINGS:PySem.W.nsIn K mainGlobals "MOST_THINGS" = some (some (.int 9 t_MOST_THINGS)))
  {U C_NoWord C_NoPair C_TooMany C_NoName C_NoText C_NoTables C_NoRow C_NoNumber:Addr} (u0:PySem.W.nsIn K mainGlobals "UnderError" = some (some (.ref U))) (u1:L2.mroIn K U=some vA)
  (n_NoWord:PySem.W.nsIn K mainGlobals "NoWord" = some (some (.ref C_NoWord)))
  (n_NoPair:PySem.W.nsIn K mainGlobals "NoPair" = some (some (.ref C_NoPair)))
  (n_TooMany:PySem.W.nsIn K mainGlobals "TooMany" = some (some (.ref C_TooMany)))
  (n_NoName:PySem.W.nsIn K mainGlobals "NoName" = some (some (.ref C_NoName)))
  (n_NoText:PySem.W.nsIn K mainGlobals "NoText" = some (some (.ref C_NoText)))
  (n_NoTables:PySem.W.nsIn K mainGlobals "NoTables" = some (some (.ref C_NoTables)))
  (n_NoRow:PySem.W.nsIn K mainGlobals "NoRow" = some (some (.ref C_NoRow)))
  (n_NoNumber:PySem.W.nsIn K mainGlobals "NoNumber" = some (some (.ref C_NoNumber)))
  (q_NoWord:PySem.W.excIn K C_NoWord vA "ValueError.__new__" = true)
  (r_NoWord:L2.mroIn K C_NoWord=some (.ref U :: vA))
  (xa_NoWord:PySem.W.findIn K (.ref C_NoWord) "__getattribute__" = some (some (.builtin "BaseException.__getattribute__")))
  (xb_NoWord:PySem.W.findIn K (.ref C_NoWord) "__getattr__" = some none)
  (xc_NoWord:PySem.W.findObj K C_NoWord none "__class__" = some (.bind (.builtin "getset_descriptor.__get__") (.builtin "object.__class__")))
  (xd_NoWord:PySem.W.mroIn K C_NoWord (.type "object")=some true)
  (xf_NoWord:PySem.W.subIn K (.ref C_NoWord) (.type "BaseException")=some true)
  (cl_NoWord:(PySem.W.clsIn K C_NoWord).isSome=true)
  (v_NoWord:PySem.W.kitOne K (.ref C_NoWord) (.type "ValueError")=some true)
  (q_NoPair:PySem.W.excIn K C_NoPair vA "ValueError.__new__" = true)
  (r_NoPair:L2.mroIn K C_NoPair=some (.ref U :: vA))
  (xa_NoPair:PySem.W.findIn K (.ref C_NoPair) "__getattribute__" = some (some (.builtin "BaseException.__getattribute__")))
  (xb_NoPair:PySem.W.findIn K (.ref C_NoPair) "__getattr__" = some none)
  (xc_NoPair:PySem.W.findObj K C_NoPair none "__class__" = some (.bind (.builtin "getset_descriptor.__get__") (.builtin "object.__class__")))
  (xd_NoPair:PySem.W.mroIn K C_NoPair (.type "object")=some true)
  (xf_NoPair:PySem.W.subIn K (.ref C_NoPair) (.type "BaseException")=some true)
  (cl_NoPair:(PySem.W.clsIn K C_NoPair).isSome=true)
  (v_NoPair:PySem.W.kitOne K (.ref C_NoPair) (.type "ValueError")=some true)
  (q_TooMany:PySem.W.excIn K C_TooMany vA "ValueError.__new__" = true)
  (r_TooMany:L2.mroIn K C_TooMany=some (.ref U :: vA))
  (xa_TooMany:PySem.W.findIn K (.ref C_TooMany) "__getattribute__" = some (some (.builtin "BaseException.__getattribute__")))
  (xb_TooMany:PySem.W.findIn K (.ref C_TooMany) "__getattr__" = some none)
  (xc_TooMany:PySem.W.findObj K C_TooMany none "__class__" = some (.bind (.builtin "getset_descriptor.__get__") (.builtin "object.__class__")))
  (xd_TooMany:PySem.W.mroIn K C_TooMany (.type "object")=some true)
  (xf_TooMany:PySem.W.subIn K (.ref C_TooMany) (.type "BaseException")=some true)
  (cl_TooMany:(PySem.W.clsIn K C_TooMany).isSome=true)
  (v_TooMany:PySem.W.kitOne K (.ref C_TooMany) (.type "ValueError")=some true)
  (k_TooMany_NoName:PySem.W.kitOne K (.ref C_TooMany) (.ref C_NoName)=some false)
  (k_NoPair_NoName:PySem.W.kitOne K (.ref C_NoPair) (.ref C_NoName)=some false)
  (k_NoWord_NoName:PySem.W.kitOne K (.ref C_NoWord) (.ref C_NoName)=some false)
  (k_TooMany_TooMany:PySem.W.kitOne K (.ref C_TooMany) (.ref C_TooMany)=some true)
  (k_NoPair_TooMany:PySem.W.kitOne K (.ref C_NoPair) (.ref C_TooMany)=some false)
  (k_NoWord_TooMany:PySem.W.kitOne K (.ref C_NoWord) (.ref C_TooMany)=some false)
  (k_TooMany_NoPair:PySem.W.kitOne K (.ref C_TooMany) (.ref C_NoPair)=some false)
  (k_NoPair_NoPair:PySem.W.kitOne K (.ref C_NoPair) (.ref C_NoPair)=some true)
  (k_NoWord_NoPair:PySem.W.kitOne K (.ref C_NoWord) (.ref C_NoPair)=some false)
  (k_TooMany_NoWord:PySem.W.kitOne K (.ref C_TooMany) (.ref C_NoWord)=some false)
  (k_NoPair_NoWord:PySem.W.kitOne K (.ref C_NoPair) (.ref C_NoWord)=some false)
  (k_NoWord_NoWord:PySem.W.kitOne K (.ref C_NoWord) (.ref C_NoWord)=some true)
  (k_TooMany_NoText:PySem.W.kitOne K (.ref C_TooMany) (.ref C_NoText)=some false)
  (k_NoPair_NoText:PySem.W.kitOne K (.ref C_NoPair) (.ref C_NoText)=some false)
  (k_NoWord_NoText:PySem.W.kitOne K (.ref C_NoWord) (.ref C_NoText)=some false)
  (k_TooMany_NoTables:PySem.W.kitOne K (.ref C_TooMany) (.ref C_NoTables)=some false)
  (k_NoPair_NoTables:PySem.W.kitOne K (.ref C_NoPair) (.ref C_NoTables)=some false)
  (k_NoWord_NoTables:PySem.W.kitOne K (.ref C_NoWord) (.ref C_NoTables)=some false)
  (k_TooMany_NoRow:PySem.W.kitOne K (.ref C_TooMany) (.ref C_NoRow)=some false)
  (k_NoPair_NoRow:PySem.W.kitOne K (.ref C_NoPair) (.ref C_NoRow)=some false)
  (k_NoWord_NoRow:PySem.W.kitOne K (.ref C_NoWord) (.ref C_NoRow)=some false)
  (k_TooMany_NoNumber:PySem.W.kitOne K (.ref C_TooMany) (.ref C_NoNumber)=some false)
  (k_NoPair_NoNumber:PySem.W.kitOne K (.ref C_NoPair) (.ref C_NoNumber)=some false)
  (k_NoWord_NoNumber:PySem.W.kitOne K (.ref C_NoWord) (.ref C_NoNumber)=some false)
  : ∃ fd:FuncData,(∀ (s:Shared) (v:Value),BindsTo s fd ⟨[v],[]⟩ [("_law_script",v)]) /\ ∀ base:Heap,K.In base -> base.Ns mainGlobals mg -> FnOk l.prog w K mg base jh 7 fa fd ["_law_script"] (jY K 1 pL):=by
 have e:=hfa.symm.trans (PySem.W.mg_of X G a27)
 cases e
 have e_NoWord:ExcK K U "NoWord" C_NoWord:=⟨n_NoWord,q_NoWord,r_NoWord,⟨xa_NoWord,xb_NoWord,xc_NoWord,xd_NoWord,xf_NoWord⟩,cl_NoWord,v_NoWord⟩
 have e_NoPair:ExcK K U "NoPair" C_NoPair:=⟨n_NoPair,q_NoPair,r_NoPair,⟨xa_NoPair,xb_NoPair,xc_NoPair,xd_NoPair,xf_NoPair⟩,cl_NoPair,v_NoPair⟩
 have e_TooMany:ExcK K U "TooMany" C_TooMany:=⟨n_TooMany,q_TooMany,r_TooMany,⟨xa_TooMany,xb_TooMany,xc_TooMany,xd_TooMany,xf_TooMany⟩,cl_TooMany,v_TooMany⟩
 have m_NoName:=PySem.W.mg_of X G n_NoName
 have m_TooMany:=PySem.W.mg_of X G n_TooMany
 have m_NoPair:=PySem.W.mg_of X G n_NoPair
 have m_NoWord:=PySem.W.mg_of X G n_NoWord
 have m_NoText:=PySem.W.mg_of X G n_NoText
 have m_NoTables:=PySem.W.mg_of X G n_NoTables
 have m_NoRow:=PySem.W.mg_of X G n_NoRow
 have m_NoNumber:=PySem.W.mg_of X G n_NoNumber
 have b_isinstance:=PySem.W.mg_none_of X G z_isinstance
 have b_bool:=PySem.W.mg_none_of X G z_bool
 have b_int:=PySem.W.mg_none_of X G z_int
 have b_tuple:=PySem.W.mg_none_of X G z_tuple
 have b_range:=PySem.W.mg_none_of X G z_range
 have b_list:=PySem.W.mg_none_of X G z_list
 have b_len:=PySem.W.mg_none_of X G z_len
 have b_all:=PySem.W.mg_none_of X G z_all
 have b_abs:=PySem.W.mg_none_of X G z_abs
 have b_ValueError:=PySem.W.mg_none_of X G z_ValueError
 have b_max:=PySem.W.mg_none_of X G z_max
 have b_min:=PySem.W.mg_none_of X G z_min
 have g_MOST_NUMBERS_words:∃ t,mg "MOST_NUMBERS_words" = some (.int 200 t):=⟨t_MOST_NUMBERS_words,PySem.W.mg_of X G y_MOST_NUMBERS_words⟩
 have g_MOST_NUMBERS_roads:∃ t,mg "MOST_NUMBERS_roads" = some (.int 8 t):=⟨t_MOST_NUMBERS_roads,PySem.W.mg_of X G y_MOST_NUMBERS_roads⟩
 have g_MOST_THINGS:∃ t,mg "MOST_THINGS" = some (.int 9 t):=⟨t_MOST_THINGS,PySem.W.mg_of X G y_MOST_THINGS⟩
 have F1:=bG (st:=fh) l1 c1 k1
 have i1:=F1.binds (ps:=["thing"]) fun _ _ _ _ _ _=>Df fun _=>rfl
 have F2:=bG (st:=cV) l2 c2 k2
 have i2:=F2.binds (ps:=["n"]) fun _ _ _ _ _ _=>Df fun _=>rfl
 have F3:=bG (st:=cS) l3 c3 k3
 have i3:=F3.binds (ps:=["n", "thing"]) fun _ _ _ _ _ _=>Af fun _ _=>rfl
 have F4:=bG (st:=bF) l4 c4 k4
 have i4:=F4.binds (ps:=["order", "i", "j"]) fun _ _ _ _ _ _=>G5 fun _ _ _=>rfl
 have F5:=bG (st:=eB) l5 c5 k5
 have i5:=F5.binds (ps:=["order", "k"]) fun _ _ _ _ _ _=>Af fun _ _=>rfl
 have F6:=bG (st:=cU) l6 c6 k6
 have i6:=F6.binds (ps:=["n"]) fun _ _ _ _ _ _=>Df fun _=>rfl
 have F7:=bG (st:=cT) l7 c7 k7
 have i7:=F7.binds (ps:=["order"]) fun _ _ _ _ _ _=>Df fun _=>rfl
 have F8:=bG (st:=gW) l8 c8 k8
 have i8:=F8.binds (ps:=["order"]) fun _ _ _ _ _ _=>Df fun _=>rfl
 have F9:=bG (st:=fQ) l9 c9 k9
 have i9:=F9.binds (ps:=["n", "thing"]) fun _ _ _ _ _ _=>Af fun _ _=>rfl
 have F10:=bG (st:=gR) l10 c10 k10
 have i10:=F10.binds (ps:=["n", "word"]) fun _ _ _ _ _ _=>Af fun _ _=>rfl
 have F11:=bG (st:=eF) l11 c11 k11
 have i11:=F11.binds (ps:=["n", "word"]) fun _ _ _ _ _ _=>Af fun _ _=>rfl
 have F12:=bG (st:=bS) l12 c12 k12
 have i12:=F12.binds (ps:=["word"]) fun _ _ _ _ _ _=>Df fun _=>rfl
 have F13:=bG (st:=cg) l13 c13 k13
 have i13:=F13.binds (ps:=["word"]) fun _ _ _ _ _ _=>Df fun _=>rfl
 have F14:=bG (st:=gT) l14 c14 k14
 have i14:=F14.binds (ps:=["ahead", "last"]) fun _ _ _ _ _ _=>Af fun _ _=>rfl
 have F15:=bG (st:=dJ) l15 c15 k15
 have i15:=F15.binds (ps:=["one", "other"]) fun _ _ _ _ _ _=>Af fun _ _=>rfl
 have F16:=bG (st:=kL) l16 c16 k16
 have i16:=F16.binds (ps:=["n", "one", "other"]) fun _ _ _ _ _ _=>G5 fun _ _ _=>rfl
 have F17:=bG (st:=fV) l17 c17 k17
 have i17:=F17.binds (ps:=["_law_script", "_law_k"]) fun _ _ _ _ _ _=>Af fun _ _=>rfl
 have F18:=bG (st:=d9) l18 c18 k18
 have i18:=F18.binds (ps:=["_law_bag_here", "_law_many"]) fun _ _ _ _ _ _=>Af fun _ _=>rfl
 have F19:=bG (st:=fT) l19 c19 k19
 have i19:=F19.binds (ps:=["_law_n", "_law_word"]) fun _ _ _ _ _ _=>Af fun _ _=>rfl
 have F20:=bG (st:=eo) l20 c20 k20
 have i20:=F20.binds (ps:=["_law_bag_here", "_law_n", "_law_most"]) fun _ _ _ _ _ _=>G5 fun _ _ _=>rfl
 have F21:=bG (st:=d7) l21 c21 k21
 have i21:=F21.binds (ps:=["_law_bag_here", "_law_n", "_law_word"]) fun _ _ _ _ _ _=>G5 fun _ _ _=>rfl
 have F22:=bG (st:=eg) l22 c22 k22
 have i22:=F22.binds (ps:=["_law_order"]) fun _ _ _ _ _ _=>Df fun _=>rfl
 have F23:=bG (st:=fm) l23 c23 k23
 have i23:=F23.binds (ps:=["_law_n", "_law_one", "_law_other_here"]) fun _ _ _ _ _ _=>G5 fun _ _ _=>rfl
 have F24:=bG (st:=cQ) l24 c24 k24
 have i24:=F24.binds (ps:=["_law_n", "_law_word"]) fun _ _ _ _ _ _=>Af fun _ _=>rfl
 have F25:=bG (st:=fP) l25 c25 k25
 have i25:=F25.binds (ps:=["_law_n", "_law_one", "_law_other_here"]) fun _ _ _ _ _ _=>G5 fun _ _ _=>rfl
 have F26:=bG (st:=cW) l26 c26 k26
 have i26:=F26.binds (ps:=["_law_bag_here", "_law_n", "_law_word"]) fun _ _ _ _ _ _=>G5 fun _ _ _=>rfl
 have F27:=bG (st:=kc) l27 c27 k27
 have i27:=F27.binds (ps:=["_law_script"]) fun _ _ _ _ _ _=>Df fun _=>rfl
 refine ⟨PySem.W.fnOf "law" "law" (aW kc) (aV kc) (aC kc) .none kV27 dc27 pm27 an27 cd27 ct27,fun s v=>.of_eq rfl,fun base _ _=>?_⟩
 have G_is_whole:fE l.prog w K mg base 1 "is_whole" ["thing"] bY:=⟨f1,_,rW F1 b_isinstance b_bool b_int,PySem.W.mg_of X G a1,k1,i1⟩
 have G_plain_order:fE l.prog w K mg base 1 "plain_order" ["n"] cX:=⟨f2,_,n_ F2 b_tuple b_range,PySem.W.mg_of X G a2,k2,i2⟩
 have G_is_exchange:fE l.prog w K mg base 2 "is_exchange" ["n", "thing"] bh:=⟨f3,_,oO F3 G_is_whole,PySem.W.mg_of X G a3,k3,i3⟩
 have G_exchanged_places:fE l.prog w K mg base 1 "exchanged_places" ["order", "i", "j"] bH:=⟨f4,_,ju F4 b_list b_tuple,PySem.W.mg_of X G a4,k4,i4⟩
 have G_exchanged:E5 l.prog w K mg base 3 "exchanged" ["order", "k"] eE:=⟨f5,_,rj F5 e_NoWord b_len G_is_exchange G_exchanged_places,PySem.W.mg_of X G a5,k5,i5⟩
 have G_place_pairs:fE l.prog w K mg base 1 "place_pairs" ["n"] cC:=⟨f6,_,nH F6 b_range,PySem.W.mg_of X G a6,k6,i6⟩
 have G_wrong_pairs:fE l.prog w K mg base 2 "wrong_pairs" ["order"] cY:=⟨f7,_,nZ F7 b_len G_place_pairs,PySem.W.mg_of X G a7,k7,i7⟩
 have G_length:fE l.prog w K mg base 3 "length" ["order"] fY:=⟨f8,_,yy F8 b_len G_wrong_pairs,PySem.W.mg_of X G a8,k8,i8⟩
 have G_is_word:fE l.prog w K mg base 3 "is_word" ["n", "thing"] fS:=⟨f9,_,uK F9 b_len b_isinstance b_list b_all g_MOST_NUMBERS_words G_is_exchange,PySem.W.mg_of X G a9,k9,i9⟩
 have G_led_by:E5 l.prog w K mg base 4 "led_by" ["n", "word"] eG:=⟨f10,_,yS F10 e_NoWord G_is_word G_plain_order G_exchanged,PySem.W.mg_of X G a10,k10,i10⟩
 have G_is_beyond:fE l.prog w K mg base 1 "is_beyond" ["n", "word"] cL:=⟨f11,_,qy F11 b_len g_MOST_NUMBERS_roads g_MOST_THINGS,PySem.W.mg_of X G a11,k11,i11⟩
 have G_changed_places:fE l.prog w K mg base 1 "changed_places" ["word"] bR:=⟨f12,_,kj F12 b_range b_len b_abs,PySem.W.mg_of X G a12,k12,i12⟩
 have G_turned_threes:fE l.prog w K mg base 1 "turned_threes" ["word"] cj:=⟨f13,_,lN F13 b_range b_len b_abs,PySem.W.mg_of X G a13,k13,i13⟩
 have G_traced:fE l.prog w K mg base 1 "traced" ["ahead", "last"] gb:=⟨f14,_,yj F14 b_list,PySem.W.mg_of X G a14,k14,i14⟩
 have G_found_road:fE l.prog w K mg base 2 "found_road" ["one", "other"] dF:=⟨f15,_,pA F15 b_tuple G_changed_places G_turned_threes G_traced,PySem.W.mg_of X G a15,k15,i15⟩
 have G_road:E5 l.prog w K mg base 5 "road" ["n", "one", "other"] c_:=⟨f16,_,D3 F16 e_NoPair e_TooMany b_len G_led_by G_length G_is_beyond G_found_road,PySem.W.mg_of X G a16,k16,i16⟩
 have G_law_bag:fE l.prog w K mg base 1 "_law_bag" ["_law_script", "_law_k"] fR:=⟨f17,_,uU F17 b_len b_abs b_int,PySem.W.mg_of X G a17,k17,i17⟩
 have G_law_digit:fE l.prog w K mg base 1 "_law_digit" ["_law_bag_here", "_law_many"] aU:=⟨f18,_,rz F18,PySem.W.mg_of X G a18,k18,i18⟩
 have G_law_led:fE l.prog w K mg base 1 "_law_led" ["_law_n", "_law_word"] cR:=⟨f19,_,ur F19 b_list b_range b_tuple,PySem.W.mg_of X G a19,k19,i19⟩
 have G_law_grown:fE l.prog w K mg base 2 "_law_grown" ["_law_bag_here", "_law_n", "_law_most"] ez:=⟨f20,_,qU F20 b_list b_range b_len G_law_digit,PySem.W.mg_of X G a20,k20,i20⟩
 have G_law_other:fE l.prog w K mg base 2 "_law_other" ["_law_bag_here", "_law_n", "_law_word"] d8:=⟨f21,_,qz F21 b_list b_range b_len G_law_led G_law_digit,PySem.W.mg_of X G a21,k21,i21⟩
 have G_law_wrong:fE l.prog w K mg base 1 "_law_wrong" ["_law_order"] d_:=⟨f22,_,qP F22 b_len b_range,PySem.W.mg_of X G a22,k22,i22⟩
 have G_law_kind:fE l.prog w K mg base 6 "_law_kind" ["_law_n", "_law_one", "_law_other_here"] bO:=⟨f23,_,tW F23 u0 u1 e_TooMany e_NoPair e_NoWord m_NoName m_TooMany m_NoPair m_NoWord m_NoText m_NoTables m_NoRow m_NoNumber k_TooMany_NoName k_NoPair_NoName k_NoWord_NoName k_TooMany_TooMany k_NoPair_TooMany k_NoWord_TooMany k_TooMany_NoPair k_NoPair_NoPair k_NoWord_NoPair k_TooMany_NoWord k_NoPair_NoWord k_NoWord_NoWord k_TooMany_NoText k_NoPair_NoText k_NoWord_NoText k_TooMany_NoTables k_NoPair_NoTables k_NoWord_NoTables k_TooMany_NoRow k_NoPair_NoRow k_NoWord_NoRow k_TooMany_NoNumber k_NoPair_NoNumber k_NoWord_NoNumber b_list b_isinstance b_ValueError G_road,PySem.W.mg_of X G a23,k23,i23⟩
 have G_law_is_word:fE l.prog w K mg base 1 "_law_is_word" ["_law_n", "_law_word"] cG:=⟨f24,_,nh F24 b_all b_isinstance b_bool b_int,PySem.W.mg_of X G a24,k24,i24⟩
 have G_law_due:fE l.prog w K mg base 2 "_law_due" ["_law_n", "_law_one", "_law_other_here"] bQ:=⟨f25,_,uJ F25 b_len b_int G_law_is_word G_law_led G_law_wrong,PySem.W.mg_of X G a25,k25,i25⟩
 have G_law_spoiled:fE l.prog w K mg base 2 "_law_spoiled" ["_law_bag_here", "_law_n", "_law_word"] cD:=⟨f26,_,nS F26 b_len G_law_digit,PySem.W.mg_of X G a26,k26,i26⟩
 exact Ho F27 b_range b_max b_min b_len G_law_bag G_law_digit G_law_grown G_law_other G_law_spoiled G_law_kind G_law_due
theorem walk {l:PySem.W.OpenLaw} {q:Program} {loose:List Str} {XP:(Str -> Option Value) -> Heap -> Prop} {YP:World -> Heap -> Prop} {d:DefRec} {K:Params -> PySem.W.Frag} (hn:l.most=some 63) (hdf:d.params.defaults=[])
  (hY:∀ (w:World) (h:Heap),YP w h -> (K w.params).In h)
  (F:∀ (w:World) (mg:Str -> Option Value) (fa:Addr) (h:Heap),(K w.params).In h -> h.Ns mainGlobals mg -> mg d.name=some (.ref fa) ->
   ∃ fd:FuncData,(∀ (s:Shared) (u:Value),BindsTo s fd ⟨[u],[]⟩ [("_law_script",u)]) /\ ∀ base:Heap,(K w.params).In base -> base.Ns mainGlobals mg -> FnOk l.prog w (K w.params) mg base jh 7 fa fd ["_law_script"] (jY (K w.params) 1 pL)) :
  PySem.W.WalkO q loose XP YP l.row.toRowW d [] (fun f vs=>PySem.call f vs):=
 L2.Dr (n:=63) (k:=7) (x := "_law_script") (CX:=fun _=>jh) (sp:=fun w=>jY (K w.params) 1 pL) hn (by decide) hdf ⟨rfl,by decide,by decide⟩ hY F (fun _ H a ns hl hO hS=>yI hO hS (HP ns hl)) fun _ _ _ _ _ z=>z
end K09
open PySem PySem.W PyProof.Rows
namespace PySem.W.Fast
theorem tw615230029583459831:True:=trivial
theorem tw3184341391708092960:True:=trivial
theorem tw2846014860326094486:True:=trivial
theorem tw8313703492507527313:True:=trivial
theorem tw6502005690397442875:True:=trivial
theorem tw14218103715895119289:True:=trivial
theorem tw7648239082554633046:True:=trivial
theorem tw4265909115377835443:True:=trivial
theorem tw6145782184924498924:True:=trivial
theorem tw12446151511151198753:True:=trivial
theorem tw4506176208675959224:True:=trivial
theorem tw16785354397417186664:True:=trivial
theorem tw9073865971389235073:True:=trivial
theorem tw9227861249176797226:True:=trivial
theorem tw13896236793357962585:True:=trivial
theorem tw15817969007565575778:True:=trivial
theorem tw629806381256637470:True:=trivial
theorem tw3273347351059728262:True:=trivial
theorem tw15767427093862307083:True:=trivial
theorem tw9193472129796330077:True:=trivial
theorem tw2493597169479583035:True:=trivial
theorem tw4885952258392144957:True:=trivial
theorem tw13835176951858971809:True:=trivial
theorem tw6846583493142420061:True:=trivial
theorem tw4685439855875581665:True:=trivial
theorem tw11148998062328821385:True:=trivial
theorem tw9171244738427518943:True:=trivial
theorem tw9486346215417152034:True:=trivial
theorem tw3123065262207687012:True:=trivial
theorem tw4373206521593685045:True:=trivial
theorem tw4364850815890781560:True:=trivial
theorem tw11133488019028953114:True:=trivial
theorem tw3420848027390628567:True:=trivial
theorem tw15955773709267843506:True:=trivial
theorem tw6165832897917473047:True:=trivial
theorem tw8619332722685118505:True:=trivial
theorem tw3586347281744000509:True:=trivial
theorem tw3857804308371391005:True:=trivial
theorem tw5743163690626025820:True:=trivial
theorem tw13422114649566131223:True:=trivial
theorem tw1404944417240152836:True:=trivial
theorem tw14633229152489059785:True:=trivial
theorem tw17631964854928914898:True:=trivial
theorem tw9249171342392271403:True:=trivial
theorem tw15711194439957538772:True:=trivial
theorem tw7335826279701479731:True:=trivial
theorem tw7383077972794922559:True:=trivial
theorem tw7543197189514728969:True:=trivial
theorem tw15467876312861266492:True:=trivial
theorem tw14570899850549821435:True:=trivial
theorem tw12315451017967346352:True:=trivial
theorem tw14851192072030844107:True:=trivial
theorem tw13605652883467267476:True:=trivial
theorem tw4942537269718198787:True:=trivial
theorem tw617661427100327980:True:=trivial
theorem tw11444339315820806301:True:=trivial
theorem tw1234162256184326923:True:=trivial
theorem tw5959322702854485557:True:=trivial
theorem tw16434011895035004966:True:=trivial
theorem tw3501154769756095773:True:=trivial
end PySem.W.Fast
set_option maxRecDepth 100000 in
set_option maxHeartbeats 0 in
theorem PySem.Challenge.cw_undercells_k09_roads_refused_holds : PySem.Challenge.rw_undercells_k09_roads_refused.Holds := by
 w_on;o_law;k_head;(case hw=>w_witness2)
 k_fill
 refine K09.walk (l:=PySem.Challenge.rw_undercells_k09_roads_refused) rfl rfl (fun w h Y=>PySem.W.kIn_of Y) ?F
 case F=>
  intro w mg fa h KX G hmg
  refine' K09.all_mk KX G hmg ?a1 ?l1 ?c1 ?k1 ?a2 ?l2 ?c2 ?k2 ?a3 ?l3 ?c3 ?k3 ?a4 ?l4 ?c4 ?k4 ?a5 ?l5 ?c5 ?k5 ?a6 ?l6 ?c6 ?k6 ?a7 ?l7 ?c7 ?k7 ?a8 ?l8 ?c8 ?k8 ?a9 ?l9 ?c9 ?k9 ?a10 ?l10 ?c10 ?k10 ?a11 ?l11 ?c11 ?k11 ?a12 ?l12 ?c12 ?k12 ?a13 ?l13 ?c13 ?k13 ?a14 ?l14 ?c14 ?k14 ?a15 ?l15 ?c15 ?k15 ?a16 ?l16 ?c16 ?k16 ?a17 ?l17 ?c17 ?k17 ?a18 ?l18 ?c18 ?k18 ?a19 ?l19 ?c19 ?k19 ?a20 ?l20 ?c20 ?k20 ?a21 ?l21 ?c21 ?k21 ?a22 ?l22 ?c22 ?k22 ?a23 ?l23 ?c23 ?k23 ?a24 ?l24 ?c24 ?k24 ?a25 ?l25 ?c25 ?k25 ?a26 ?l26 ?c26 ?k26 ?a27 ?l27 ?c27 ?k27 ?z_isinstance ?z_bool ?z_int ?z_tuple ?z_range ?z_list ?z_len ?z_all ?z_abs ?z_ValueError ?z_max ?z_min ?y_MOST_NUMBERS_words ?y_MOST_NUMBERS_roads ?y_MOST_THINGS ?u0 ?u1 ?n_NoWord ?n_NoPair ?n_TooMany ?n_NoName ?n_NoText ?n_NoTables ?n_NoRow ?n_NoNumber ?q_NoWord ?r_NoWord ?xa_NoWord ?xb_NoWord ?xc_NoWord ?xd_NoWord ?xf_NoWord ?cl_NoWord ?v_NoWord ?q_NoPair ?r_NoPair ?xa_NoPair ?xb_NoPair ?xc_NoPair ?xd_NoPair ?xf_NoPair ?cl_NoPair ?v_NoPair ?q_TooMany ?r_TooMany ?xa_TooMany ?xb_TooMany ?xc_TooMany ?xd_TooMany ?xf_TooMany ?cl_TooMany ?v_TooMany ?k_TooMany_NoName ?k_NoPair_NoName ?k_NoWord_NoName ?k_TooMany_TooMany ?k_NoPair_TooMany ?k_NoWord_TooMany ?k_TooMany_NoPair ?k_NoPair_NoPair ?k_NoWord_NoPair ?k_TooMany_NoWord ?k_NoPair_NoWord ?k_NoWord_NoWord ?k_TooMany_NoText ?k_NoPair_NoText ?k_NoWord_NoText ?k_TooMany_NoTables ?k_NoPair_NoTables ?k_NoWord_NoTables ?k_TooMany_NoRow ?k_NoPair_NoRow ?k_NoWord_NoRow ?k_TooMany_NoNumber ?k_NoPair_NoNumber ?k_NoWord_NoNumber
  (case a1=>k_is)
  (case l1=>k_is)
  (case c1=>k_is)
  (case k1=>k_is)
  (case a2=>k_is)
  (case l2=>k_is)
  (case c2=>k_is)
  (case k2=>k_is)
  (case a3=>k_is)
  (case l3=>k_is)
  (case c3=>k_is)
  (case k3=>k_is)
  (case a4=>k_is)
  (case l4=>k_is)
  (case c4=>k_is)
  (case k4=>k_is)
  (case a5=>k_is)
  (case l5=>k_is)
  (case c5=>k_is)
  (case k5=>k_is)
  (case a6=>k_is)
  (case l6=>k_is)
  (case c6=>k_is)
  (case k6=>k_is)
  (case a7=>k_is)
  (case l7=>k_is)
  (case c7=>k_is)
  (case k7=>k_is)
  (case a8=>k_is)
  (case l8=>k_is)
  (case c8=>k_is)
  (case k8=>k_is)
  (case a9=>k_is)
  (case l9=>k_is)
  (case c9=>k_is)
  (case k9=>k_is)
  (case a10=>k_is)
  (case l10=>k_is)
  (case c10=>k_is)
  (case k10=>k_is)
  (case a11=>k_is)
  (case l11=>k_is)
  (case c11=>k_is)
  (case k11=>k_is)
  (case a12=>k_is)
  (case l12=>k_is)
  (case c12=>k_is)
  (case k12=>k_is)
  (case a13=>k_is)
  (case l13=>k_is)
  (case c13=>k_is)
  (case k13=>k_is)
  (case a14=>k_is)
  (case l14=>k_is)
  (case c14=>k_is)
  (case k14=>k_is)
  (case a15=>k_is)
  (case l15=>k_is)
  (case c15=>k_is)
  (case k15=>k_is)
  (case a16=>k_is)
  (case l16=>k_is)
  (case c16=>k_is)
  (case k16=>k_is)
  (case a17=>k_is)
  (case l17=>k_is)
  (case c17=>k_is)
  (case k17=>k_is)
  (case a18=>k_is)
  (case l18=>k_is)
  (case c18=>k_is)
  (case k18=>k_is)
  (case a19=>k_is)
  (case l19=>k_is)
  (case c19=>k_is)
  (case k19=>k_is)
  (case a20=>k_is)
  (case l20=>k_is)
  (case c20=>k_is)
  (case k20=>k_is)
  (case a21=>k_is)
  (case l21=>k_is)
  (case c21=>k_is)
  (case k21=>k_is)
  (case a22=>k_is)
  (case l22=>k_is)
  (case c22=>k_is)
  (case k22=>k_is)
  (case a23=>k_is)
  (case l23=>k_is)
  (case c23=>k_is)
  (case k23=>k_is)
  (case a24=>k_is)
  (case l24=>k_is)
  (case c24=>k_is)
  (case k24=>k_is)
  (case a25=>k_is)
  (case l25=>k_is)
  (case c25=>k_is)
  (case k25=>k_is)
  (case a26=>k_is)
  (case l26=>k_is)
  (case c26=>k_is)
  (case k26=>k_is)
  (case a27=>k_is)
  (case l27=>k_is)
  (case c27=>k_is)
  (case k27=>k_is)
  (case z_isinstance=>k_is)
  (case z_bool=>k_is)
  (case z_int=>k_is)
  (case z_tuple=>k_is)
  (case z_range=>k_is)
  (case z_list=>k_is)
  (case z_len=>k_is)
  (case z_all=>k_is)
  (case z_abs=>k_is)
  (case z_ValueError=>k_is)
  (case z_max=>k_is)
  (case z_min=>k_is)
  (case y_MOST_NUMBERS_words=>k_is)
  (case y_MOST_NUMBERS_roads=>k_is)
  (case y_MOST_THINGS=>k_is)
  (case u0=>k_is)
  (case n_NoWord=>k_is)
  (case n_NoPair=>k_is)
  (case n_TooMany=>k_is)
  (case n_NoName=>k_is)
  (case n_NoText=>k_is)
  (case n_NoTables=>k_is)
  (case n_NoRow=>k_is)
  (case n_NoNumber=>k_is)
  (case u1=>kernel_rfl)
  (case q_NoWord=>kernel_rfl)
  (case r_NoWord=>kernel_rfl)
  (case xa_NoWord=>kernel_rfl)
  (case xb_NoWord=>kernel_rfl)
  (case xc_NoWord=>kernel_rfl)
  (case xd_NoWord=>kernel_rfl)
  (case xf_NoWord=>kernel_rfl)
  (case cl_NoWord=>kernel_rfl)
  (case v_NoWord=>kernel_rfl)
  (case q_NoPair=>kernel_rfl)
  (case r_NoPair=>kernel_rfl)
  (case xa_NoPair=>kernel_rfl)
  (case xb_NoPair=>kernel_rfl)
  (case xc_NoPair=>kernel_rfl)
  (case xd_NoPair=>kernel_rfl)
  (case xf_NoPair=>kernel_rfl)
  (case cl_NoPair=>kernel_rfl)
  (case v_NoPair=>kernel_rfl)
  (case q_TooMany=>kernel_rfl)
  (case r_TooMany=>kernel_rfl)
  (case xa_TooMany=>kernel_rfl)
  (case xb_TooMany=>kernel_rfl)
  (case xc_TooMany=>kernel_rfl)
  (case xd_TooMany=>kernel_rfl)
  (case xf_TooMany=>kernel_rfl)
  (case cl_TooMany=>kernel_rfl)
  (case v_TooMany=>kernel_rfl)
  (case k_TooMany_NoName=>kernel_rfl)
  (case k_NoPair_NoName=>kernel_rfl)
  (case k_NoWord_NoName=>kernel_rfl)
  (case k_TooMany_TooMany=>kernel_rfl)
  (case k_NoPair_TooMany=>kernel_rfl)
  (case k_NoWord_TooMany=>kernel_rfl)
  (case k_TooMany_NoPair=>kernel_rfl)
  (case k_NoPair_NoPair=>kernel_rfl)
  (case k_NoWord_NoPair=>kernel_rfl)
  (case k_TooMany_NoWord=>kernel_rfl)
  (case k_NoPair_NoWord=>kernel_rfl)
  (case k_NoWord_NoWord=>kernel_rfl)
  (case k_TooMany_NoText=>kernel_rfl)
  (case k_NoPair_NoText=>kernel_rfl)
  (case k_NoWord_NoText=>kernel_rfl)
  (case k_TooMany_NoTables=>kernel_rfl)
  (case k_NoPair_NoTables=>kernel_rfl)
  (case k_NoWord_NoTables=>kernel_rfl)
  (case k_TooMany_NoRow=>kernel_rfl)
  (case k_NoPair_NoRow=>kernel_rfl)
  (case k_NoWord_NoRow=>kernel_rfl)
  (case k_TooMany_NoNumber=>kernel_rfl)
  (case k_NoPair_NoNumber=>kernel_rfl)
  (case k_NoWord_NoNumber=>kernel_rfl)
