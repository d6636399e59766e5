import PyProof.Rows.All
import Wide.All
import OpenK.AllK
import Wide.FinOn
import Lean
import PyProof.EqAt
import PyProof.EqKinds
import PyProof.TupleCall
import PySem.Challenge.RW_undercells_k50_as_many_as_wrong_pairs
set_option autoImplicit true
set_option relaxedAutoImplicit true
set_option Elab.async false
set_option linter.all false
set_option maxRecDepth 100000
set_option compiler.extract_closed false
set_option maxHeartbeats 4000000
local macro_rules|`(command|abbrev $n:declId $s:optDeclSig $v:declVal)=>`(command|noncomputable def $n:declId $s:optDeclSig $v:declVal)|`(command|meta abbrev $n:declId $s:optDeclSig $v:declVal)=>`(command|@[reducible]noncomputable def $n:declId $s:optDeclSig $v:declVal)
local macro_rules|`(∅)=>`(by decide +kernel)
local macro_rules|`(⋯)=>`(by decide)
local macro_rules|`(tactic|dsimp[$l,*])=>`(tactic|simp only[$l,*])|`(tactic|dsimp[$l,*]$o:location)=>`(tactic|simp only[$l,*]$o:location)
local macro_rules(kind:=Lean.Parser.Term.structInst)|`({})=>`({cls:=.type "list",data:=.seq ([]:List PySem.Value).toArray})
set_option hygiene false
local macro_rules|`(tactic|room)=>`(tactic|obtain⟨ρ,S,a,b,R,va,vb,h⟩:=h9)
local macro_rules|`(tactic|z_go)=>`(tactic|obtain⟨ρ,S,τ,R,r,h⟩:=h9)
local macro_rules|`(tactic|x_go)=>`(tactic|intro pins s σ H x y v u Q I rx ry h)
local macro_rules|`(tactic|w_up)=>`(tactic|intro X hP hw hK hc i pins s σ H E I hf st hg)
local macro_rules|`(tactic|fin2)=>`(tactic|obtain⟨f0,f1,f2,f3,f4,f5⟩:=hf it (by simp))
local macro_rules|`(tactic|k_ne)=>`(tactic|intro pins s σ H xs us Q I r h)
local macro_rules|`(tactic|kt_k)=>`(tactic|intro pins s σ H Q I h)
local macro_rules|`(tactic|kd_p)=>`(tactic|obtain⟨xs,hn,h⟩:=fB h)
local macro_rules|`(tactic|gn_on)=>`(tactic|obtain⟨a1,a2,a3⟩:=h.a)
local macro_rules|`(tactic|gp_on)=>`(tactic|have hfree:∀y∈scope.names,y.2=.free->∃c,X.env.cells.lookup y.1=some c:=λy hy e=>I.ok.has _ (S.fr y hy e))
local macro_rules|`(tactic|kj_on)=>`(tactic|intro pins s σ H D I h)
local macro_rules|`(tactic|kcf_m)=>`(tactic|obtain⟨w,rfl,ρ,S,x,R,hv,h⟩:=F3 h0)
local macro_rules|`(tactic|kcj_m)=>`(tactic|obtain⟨t,rfl⟩:=rx)
local macro_rules|`(tactic|kpc_g)=>`(tactic|obtain⟨u,rfl,rx⟩:=vals1 r)
set_option hygiene true
local macro_rules|`(())=>`(by lia)
@[reducible]def ae:=List Int
@[reducible]def ag:=List Nat
@[reducible]def am:=List PySem.Str
@[reducible]def ap:=List PySem.Value
@[reducible]def ar:=List PySem.Addr
@[reducible]def aw:=Option PySem.Value
@[reducible]def ba:=Option Int
@[reducible]def bi:=Option Bool
@[reducible]def bj:=Option Nat
@[reducible]def bo:=List<|PySem.Addr×PySem.Obj
def aH:=@List.getElem?_eq_getElem
def aI:=@List.getElem?_eq_some_iff
def aJ:=@Classical.byContradiction
def aK:=@Nat.le_refl
def aL:=@Option.some.inj
def aN:=@List.getD_eq_getElem?_getD
def aO:=@PySem.wpAny_bind
def aP:=@List.length_map
def aQ:=@List.size_toArray
def aR:=@if_pos
def aS:=@PySem.Heap.get?_push_of_some
def aT:=@if_neg
def aU:=@List.mem_cons_of_mem
def aV:=@List.getElem?_append_left
def aW:=@List.mem_append_right
def aX:=@PySem.Heap.lt_size
def aY:=@List.getElem?_append_right
def aZ:=@PySem.wpAny_pure
def a_:=@List.mem_cons_self
def bf:=@Bool.false_ne_true
def bg:=@List.length_append
def bh:=@Nat.lt_of_lt_of_le
def br:=@List.getElem?_map
def bu:=@if_false
def bx:=@List.append_assoc
def bz:=@decide_eq_false
def bA:=@PySem.Heap.get?_push_size
def bB:=@List.length_take
def bC:=@if_true
def bD:=@Option.map_eq_some_iff
def bE:=@List.length_cons
def bF:=@Nat.ne_of_lt
def bG:=@List.length_set
def bH:=@List.mem_of_getElem?
def bI:=@PySem.PassesOwn.never
def bJ:=@List.mem_cons
def bK:=@beq_self_eq_true
def bL:=@PySem.mem_of_lookup
def bN:=@Nat.le_trans
def bO:=@Option.bind_eq_some_iff
def bP:=@decide_eq_true
def bQ:=@Nat.lt_succ_self
def bR:=@Array.length_toList
def bS:=@List.replicate_succ
def bT:=@List.getElem?_take_of_lt
def bU:=@PySem.W.mg_none_of
def bV:=@List.getElem?_set_ne
def bW:=@PySem.sizeLine_eq
def bX:=@List.forall_mem_cons
def bY:=@List.getElem?_set_self
def bZ:=@PySem.wpAny_newObj_type
def b5:=@List.eq_nil_of_length_eq_zero
def b6:=@List.flatten_cons
def b7:=@List.filter_cons
def b8:=@List.countP_cons
def b9:=@Nat.add_sub_cancel
def b_:=@List.findIdx?_eq_some_iff_getElem
def cg:=@List.drop_eq_getElem_cons
def ck:=@PySem.wpAny_passesOwn
def cu:=@List.nodup_cons
def cy:=@List.range_eq_range'
def cz:=@List.mem_of_mem_take
def cA:=@List.getElem?_of_mem
def cC:=@Option.isSome_iff_exists
def cD:=@PyProof.Rows.slot_tuple_getitem
def cE:=@List.getElem?_range
def cF:=@Bool.and_eq_true
def cG:=@Option.getD_some
def cH:=@List.lookup_cons
def cI:=@List.range'_succ
def cJ:=@Nat.le_of_lt
def cK:=@PySem.W.cellsFrom_some
def cL:=@List.append_nil
def cN:=@List.map_append
def cO:=@Nat.lt_irrefl
def cP:=@PySem.wpAny_standAt
def cQ:=@List.map_cons
def cR:=@List.getElem?_eq_none
def cS:=@PyProof.Rows.callWith_type1
def cT:=@List.ext_getElem?
def cU:=@PySem.Heap.size_push
def cV:=@List.length_drop
def cW:=@List.prefix_refl
def cX:=@List.pairwise_iff_getElem
def cY:=@congrArg
def cZ:=@PySem.wpAny_holding
def c5:=@PySem.F.args_tuple_add_2
def c6:=@List.sum_cons
def c7:=@List.mem_filter
def c8:=@List.mem_append
def c9:=@Nat.min_eq_left
def c_:=@PySem.wpAny_mono
def dc:=@Int.emod_lt_of_pos
def dg:=@List.countP_append
def dh:=@List.getElem?_replicate
def di:=@PySem.F.entry_tuple_add
def dj:=@List.length_eq_zero_iff
def dm:=@Int.le_refl
def dw:=@Ne.symm
def dz:=@PySem.F.slot_tuple_add
def dB:=@Int.toNat_natCast
def dD:=@PySem.Calls.callWith_builtin
def dF:=@List.mem_map
def dG:=@List.Perm.refl
def dH:=@List.take_of_length_le
def dI:=@Nat.lt_of_succ_lt_succ
def dJ:=@List.getElem?_set
def dN:=@List.take_append_drop
def dO:=@List.set_append_right
def dP:=@List.getElem_inj
def dQ:=@List.all_eq_true
def dR:=@List.getElem_mem
def dS:=@Option.bind_some
def dU:=@List.mem_append_left
def dW:=@PySem.Calls.evalArgs_plain
def dX:=@Nat.zero_le
def dY:=@List.mem_iff_getElem
def dZ:=@PySem.wpAny_execs_nil
def d7:=@Option.map_some
def d8:=@Int.emod_nonneg
def d9:=@List.filterMap_cons
def d_:=@List.getElem_set_ne
def ee:=@PySem.codeAny_mono
def eg:=@List.map_set
def eo:=@List.mem_range
def er:=@PySem.wpAny_Call_Name_kw
def ez:=@PySem.call_meets
def eB:=@Bool.false_eq_true
def eE:=@List.prefix_append
def eF:=@List.pairwise_cons
def eG:=@List.getElem?_drop
def eH:=@decide_eq_true_iff
def eK:=@List.filter_append
def eL:=@of_decide_eq_true
def eN:=@List.all_cons
def eO:=@List.any_cons
def eS:=@Nat.lt_or_ge
def eT:=@List.map_map
def eU:=@List.of_mem_zip
def eV:=@Int.le_antisymm
@[reducible]def aa:=PySem.Value
@[reducible]def af:=PySem.World
@[reducible]def aj:=PySem.Program
@[reducible]def ak:=PySem.Addr
@[reducible]def au:=PySem.Heap
@[reducible]def aA:=PySem.W.Frag
@[reducible]def aC:=PySem.Around
@[reducible]def aE:=PySem.Shared
@[reducible]def aF:=PySem.Expr
@[reducible]def aG:=PySem.Stmt
def anI{a b:Prop}(h:a)(k:b):a/\b:=⟨h,k⟩
open List (all_map map_nil map_take)
open Nat (not_lt sub_self)
open Option (getD_none)
namespace L2
open PySem PySem.Spec PyProof.Rows
meta abbrev Key:=Sum Int Str
abbrev DA:Key->aa->Bool
 | .inl k,v=>Value.isInt k v
 | .inr x,v=>Value.isStrOf x v
abbrev Ir (w:af):Key->Int
 | .inl k=>hashInt k
 | .inr x=>hashStr w x
def f9:∀{k:Key}{v:aa},DA k v=true->(∃i t,k=Sum.inl i/\v=Value.int i t)\/(∃x t,k=Sum.inr x/\v=Value.str x t)
 | .inl i,v,h=>by
  obtain⟨t,e⟩:=Value.isInt_shape (k:=i) (v:=v) h;exact .inl ⟨i,t,rfl,e⟩
 | .inr x,v,h=>by
  obtain⟨t,e⟩:=Value.isStrOf_shape (x:=x) (v:=v) h;exact .inr ⟨x,t,rfl,e⟩
def EK(a b:Int):decide ((Sum.inl a:Key)=Sum.inl b)=(a == b):=by
 by_cases e:a=b
 ·subst e;simp
 ·have h:¬(Sum.inl a:Key)=Sum.inl b:=λq=>e<|Sum.inl.inj q;rw[bz h];exact(beq_eq_false_iff_ne.mpr e).symm
def FF(a b:Str):decide ((Sum.inr a:Key)=Sum.inr b)=decide (a=b):=by
 by_cases e:a=b
 ·subst e;simp
 ·have h:¬(Sum.inr a:Key)=Sum.inr b:=λq=>e<|Sum.inr.inj q;rw[bz h,bz e]
def Ef(a:Int)(b:Str):decide ((Sum.inl a:Key)=Sum.inr b)=false:=bz λq=>nomatch q
def DS(a:Str)(b:Int):decide ((Sum.inr a:Key)=Sum.inl b)=false:=bz λq=>nomatch q
abbrev qp (prog:aj)(w:af):PySem.KeyKind prog w Key where
 is:=DA
 hash:=Ir w
 inj:=λv a b f d=>by
  rcases f9 f with⟨i,t,rfl,rfl⟩|⟨x,t,rfl,rfl⟩
  ·rcases f9 d with⟨j,u,rfl,e⟩|⟨y,u,rfl,e⟩
   ·injection e with e1 _;rw[e1]
   ·exact nomatch e
  ·rcases f9 d with⟨j,u,rfl,e⟩|⟨y,u,rfl,e⟩
   ·exact nomatch e
   ·injection e with e1 _;rw[e1]
 byValue:=λk v h=>by
  rcases f9 h with⟨i,t,rfl,rfl⟩|⟨x,t,rfl,rfl⟩<;>rfl
 pyHash:=λhv h=>by
  rcases f9 hv with⟨i,t,rfl,rfl⟩|⟨x,t,rfl,rfl⟩
  ·exact wpAny_pyHash_int h
  ·exact wpAny_pyHash_str h
 eqBool:=λg hv h=>by
  rcases f9 g with⟨i,t,rfl,rfl⟩|⟨x,t,rfl,rfl⟩
  ·rcases f9 hv with⟨j,u,rfl,rfl⟩|⟨y,u,rfl,rfl⟩
   ·rw[EK]at h;exact wpAny_eqBool_int h
   ·rw[Ef]at h;exact SeqAt.EqAt.int_str i t y u _ _ _ _ h
  ·rcases f9 hv with⟨j,u,rfl,rfl⟩|⟨y,u,rfl,rfl⟩
   ·rw[DS]at h;exact SeqAt.EqAt.str_int x t j u _ _ _ _ h
   ·rw[FF]at h;exact wpAny_eqBool_str h
 «strs»:=λk x t v h=>by
  rcases f9 h with⟨i,u,rfl,e⟩|⟨y,u,rfl,e⟩
  ·exact nomatch e
  ·injection e with e1 _
   subst e1
   cases v<;>rfl
inductive V where
 | non|bl (b:Bool)|int (i:Int)|str (x:Str)|byt (b:Array UInt8)|flt (b:UInt64)|ref (a:ak)|ty (n:String)
 deriving DecidableEq
abbrev RelV:V->aa->Prop
 | .non,u=>u=Value.none
 | .bl b,u=>u=Value.bool b
 | .int i,u=>∃t,u=Value.int i t
 | .str x,u=>∃t,u=Value.str x t
 | .byt b,u=>∃t,u=Value.bytes b t
 | .flt b,u=>∃t,u=Value.float b t
 | .ref a,u=>u=Value.ref a
 | .ty n,u=>u=Value.type n
meta abbrev Vals:List V->ap->Prop:=Paired RelV
def Vals.length{xs:List V}{us:ap}(r:Vals xs us):xs.length=us.length:=Paired.length r
theorem Vals.get:∀{xs:List V}{us:ap}{i:Nat}{x:V},Vals xs us->xs[i]?=some x->∃u,us[i]?=some u/\RelV x u
 | _,_,_,_,.nil,e=>by simp at e
 | _,_,0,_,.cons r _,e=>by simp at e;subst e;exact⟨_,rfl,r⟩
 | _,_,i+1,x,.cons _ t,e=>by
  obtain⟨u,h1,d⟩:=Vals.get (i:=i) (x:=x) t (by simpa using e);exact⟨u,by simpa using h1,d⟩
theorem Vals.set{x:V}(r:RelV x u):∀{xs:List V}{us:ap}(i:Nat),Vals xs us->Vals (xs.set i x) (us.set i u)
 | _,_,_,.nil=>.nil
 | _,_,0,.cons _ t=>.cons r t
 | _,_,i+1,.cons q t=>.cons q<|Vals.set r i t
theorem Vals.append:∀{xs ys:List V}{us ws:ap},Vals xs us->Vals ys ws->Vals (xs++ys) (us++ws)
 | _,_,_,_,.nil,s=>s
 | _,_,_,_,.cons r t,s=>.cons r<|Vals.append t s
theorem Vals.take:∀{xs:List V}{us:ap}(n:Nat),Vals xs us->Vals (xs.take n) (us.take n)
 | _,_,0,_=>.nil
 | _,_,_+1,.nil=>.nil
 | _,_,n+1,.cons r t=>.cons r<|Vals.take n t
theorem Vals.drop:∀{xs:List V}{us:ap}(n:Nat),Vals xs us->Vals (xs.drop n) (us.drop n)
 | _,_,0,r=>r
 | _,_,_+1,.nil=>.nil
 | _,_,n+1,.cons _ t=>Vals.drop n t
abbrev Hg:Option V->aw->Prop
 | some v,some u=>RelV v u
 | none,none=>True
 | _,_=>False
abbrev KV {κ:Type}:List (κ×V)->List (κ×aa)->Prop:=Paired λ(p:κ×V) (q:κ×aa)=>p.1=q.1/\RelV p.2 q.2
abbrev kV:Key->V
 | .inl i=>.int i
 | .inr x=>.str x
inductive HO where
 | lst (xs:List V)
 | tup (xs:List V)
 | dK (kvs:List<|Key×V)|dT (kvs:List<|List Key×V)
 | set (S:Int->Bool) (n:Nat)
 | ins (C dx:ak) (fs:List<|Str×V)
 | own (x:ak)
 | xd (fs:List<|Str×V)
 | met (f x:ak)
 | rng (lo hi:Int)
 | frz (o:Obj) (u:HO)
 | tbl (ps:Array aa)
 | ext (φ:au->Prop)
meta abbrev Hp:=ak->Option HO
abbrev upd (H:Hp)(a:ak)(o:HO):Hp:=λb=>if b=a then some o else H b
def h_{H:Hp}{a:ak}:upd H a o a=some o:=by unfold upd;rw[aR rfl]
def fJ{H:Hp}{a:ak}(h:b≠a):upd H a o b=H b:=by unfold upd;rw[aT h]
def fP{H:Hp}{a:ak}(h:H a=some o)(h':H b=none):a≠b:=by
 intro e;subst e;rw[h]at h';cases h'
abbrev iW (h:au)(a:ak)(items:Array aa):Prop:=∃o,h.get? a=some o/\o.cls=.type "tuple" /\ o.dict=none/\∃n,o.data=.seq items n
def iW.tup{a:ak}:iW h a items->IsTup h a items:=λ⟨o,e,c,_,n,d⟩=>⟨o,e,c,n,d⟩
def iW.new(h:au)(items:Array aa):iW (h.push { cls:=.type "tuple",data:=.seq items }) h.objs.size items:=⟨_,bA _ rfl,rfl,rfl,_,rfl⟩
def iW.lt{h:au}{a:ak}(x:iW h a items):a<h.objs.size:=let⟨_,ho,_⟩:=x;aX ho
section
variable (P:aj) (w:af)
abbrev ju (H:Hp)(h:au)(a:ak):HO->Prop
 | .lst xs=>xs.length<=sizeLine/\∃(g:ap) (n:Nat),Vals xs g/\h.get? a=some { cls:=.type "list",data:=.seq g.toArray n }
 | .tup xs=>xs.length<=sizeLine/\∃g:ap,Vals xs g/\iW h a g.toArray
 | .dK d=>d.length<=sizeLine/\(a == sysModules)=false/\∃B,KV d B/\h.DictOf (qp P w) a B
 | .dT d=>d.length<=sizeLine/\(a == sysModules)=false/\∃xs:List<|List Key×ak×aa,
   Paired (λ(p:List Key×V) (q:List Key×ak×aa)=>p.1=q.1/\H q.2.1=some (.tup<|p.1.map kV)/\RelV p.2 q.2.2) d xs /\
   ∃o es F,h.get? a=some o/\o.ExactDict/\o.data=.dict es F/\es.toList=xs.map (entryOfKey<|tupleKind<|qp P w)/\(xs.map (·.1)).Nodup
 | .set S n=>h.SetOf (intKind P w) a S n
 | .ins C k fs=>H k=some (.own a)/\fs.length<=1000/\k≠a/\h.get? a=some (PySem.W.instObj C k) /\
   ∃j,h.Ns1 k j/\(∀f,Hg (fs.lookup f)<|j f)/\PySem.Within j (fs.map (·.1))
 | .own _=>∃o,h.get? a=some o
 | .xd fs=>∃j,h.Ns1 a j/\∀f,Hg (fs.lookup f) (j f)
 | .rng lo hi=>∃t u v,h.get? a=some { cls:=.type "range",data:=.fields #[.int lo t,.int hi u,.int 1 v]}
 | .frz o u=>h.get? a=some o/\ju H h a u
 | .tbl ps=>h.get? a=some { cls:=.none,data:=.fields ps }
 | .met f x=>h.get? a=some (PySem.W.methodObj (.ref f)<|.ref x)
 | .ext m=>m h/\(∃o,h.get? a=some o)/\∀h1 z:au,m h1->(∀o,h1.get? a=some o->z.get? a=some o)->m z
abbrev n_ (H:Hp)(h:au):Prop:=∀a o,H a=some o->ju P w H h a o
end
section
variable {P:aj}{w:af}{H H':Hp}{h h':au}{a:ak}{o:HO}
def ju.lt(x:ju P w H h a o):a<h.objs.size:=by
 cases o with
 | lst xs=>obtain⟨_,_,_,_,e⟩:=x;exact aX e
 | tup xs=>obtain⟨_,_,_,p⟩:=x;exact iW.lt p
 | dK d=>obtain⟨_,_,_,_,o,_,_,e,_⟩:=x;exact aX e
 | dT d=>obtain⟨_,_,_,_,o,_,_,e,_⟩:=x;exact aX e
 | set S n=>obtain⟨o,_,_,_,e,_⟩:=x;exact aX e
 | ins C g fs=>obtain⟨_,_,_,e,_⟩:=x;exact aX e
 | own y=>obtain⟨_,e⟩:=x;exact aX e
 | xd fs=>obtain⟨_,⟨_,_,_,e,_⟩,_⟩:=x;exact aX e
 | rng lo hi=>obtain⟨_,_,_,e⟩:=x;exact aX e
 | frz j u=>obtain⟨e,_⟩:=x;exact aX e
 | tbl ps=>exact aX (show h.get? a=some _ from x)
 | met f y=>exact aX (show h.get? a=some _ from x)
 | ext k=>obtain⟨_,⟨_,e⟩,_⟩:=x;exact aX e
theorem Paired.G1{α β:Type}{F G:α->β->Prop}:∀{l₁:List α}{l₂:List β},Paired F l₁ l₂->(∀a b,F a b->G a b)->Paired G l₁ l₂
 | _,_,.nil,_=>.nil
 | _,_,.cons r t,f=>.cons (f _ _ r)<|Paired.G1 t f
def ju.stay(x:ju P w H h a o)(k:∀b u,(b=a\/H b=some (.own a))->h.get? b=some u->h'.get? b=some u)
  (ho:∀b,H b=some (.own a)->H' b=some (.own a)) (ht:∀b xs,H b=some (.tup xs)->H' b=some (.tup xs)):ju P w H' h' a o:=by
 induction o with
 | lst xs=>obtain⟨z,m,n,r,e⟩:=x;exact⟨z,m,n,r,k _ _ (.inl rfl) e⟩
 | tup xs=>obtain⟨z,m,r,g,e,c⟩:=x;exact⟨z,m,r,g,k _ _ (.inl rfl) e,c⟩
 | dK G=>obtain⟨z,y,L,r,g,es,j,e,c⟩:=x;exact⟨z,y,L,r,g,es,j,k _ _ (.inl rfl) e,c⟩
 | dT G=>
  obtain⟨z,y,xs,r,g,es,j,e,c⟩:=x;exact⟨z,y,xs,Paired.G1 r λp q z=>⟨z.1,ht _ _ z.2.1,z.2.2⟩,g,es,j,k _ _ (.inl rfl) e,c⟩
 | set S n=>obtain⟨g,es,j,t,e,c⟩:=x;exact⟨g,es,j,t,k _ _ (.inl rfl) e,c⟩
 | ins C M fs=>
  obtain⟨d,z,K,e,F,⟨B,es,j,e2,c⟩,r⟩:=x;exact⟨ho _ d,z,K,k _ _ (.inl rfl) e,F,⟨B,es,j,k _ _ (.inr d) e2,c⟩,r⟩
 | own y=>obtain⟨g,e⟩:=x;exact⟨g,k _ _ (.inl rfl) e⟩
 | xd fs=>obtain⟨F,⟨B,es,j,e,c⟩,r⟩:=x;exact⟨F,⟨B,es,j,k _ _ (.inl rfl) e,c⟩,r⟩
 | rng lo hi=>obtain⟨t,u,v,e⟩:=x;exact⟨t,u,v,k _ _ (.inl rfl) e⟩
 | frz g u J=>obtain⟨e,q⟩:=x;exact⟨k _ _ (.inl rfl) e,J q⟩
 | tbl ps=>
  have e:h.get? a=some { cls:=.none,data:=.fields ps }:=x
  skip
  exact k a _ (.inl rfl) e
 | met f y=>
  have e:h.get? a=some (PySem.W.methodObj (.ref f)<|.ref y):=x
  skip
  exact k a _ (.inl rfl) e
 | ext N=>obtain⟨p,⟨o,e⟩,st⟩:=x;exact⟨st _ _ p λo q=>k _ _ (.inl rfl) q,⟨o,k _ _ (.inl rfl) e⟩,st⟩
def n_.lt(x:n_ P w H h)(e:H a=some o):a<h.objs.size:=(x a o e).lt
def n_.fresh(x:n_ P w H h)(e:h.objs.size<=a):H a=none:=by
 cases q:H a with
 | none=>rfl
 | some u=>exact absurd (bh (x.lt q) e)<|cO _
def n_.kept(x:n_ P w H h)(k:∀b u,h.get? b=some u->h'.get? b=some u):n_ P w H h':=λa o e=>
 (x a o e).stay (λb u _ q=>k b u q) (λ_ q=>q) λ_ _ q=>q
def n_.laid(x:n_ P w H h)(k:∀b u,h.get? b=some u->h'.get? b=some u)(hp:h.objs.size<=a)(new:ju P w (upd H a o) h' a o):n_ P w (upd H a o) h':=λb u e=>by
 have hn:=x.fresh hp;by_cases d:b=a
 ·subst d;rw[h_]at e;cases e;exact new
 ·rw[fJ d]at e;exact(x b u e).stay (λc v _ q=>k c v q) (λc q=>by rw[fJ<|fP q hn];exact q) λc xs q=>by rw[fJ<|fP q hn];exact q
end
abbrev Rd (H:Hp)(a:ak)(u:HO):Prop:=H a=some u\/∃o,H a=some (.frz o u)
def Rd.ok{P:aj}{w:af}{H:Hp}{a:ak}(r:Rd H a u)(x:n_ P w H h):ju P w H h a u:=by
 rcases r with r|⟨o,r⟩
 ·exact x a u r
 ·obtain⟨_,q⟩:=x a _ r;exact q
abbrev Hy:Option HO->Prop
 | some (.lst _)=>True
 | some (.dK _)=>True
 | some (.dT _)=>True
 | some (.set _ _)=>True
 | some (.ins _ _ _)=>True
 | some (.ext _)=>True
 | _=>False
section
variable {P:aj}{w:af}{H:Hp}{h h':au}{x e:ak}{o':HO}
def n_.write(ok:n_ P w H h)(mu:Hy<|H x)(he:e=x\/H e=some (.own x))(k:∀b u,b≠e->h.get? b=some u->h'.get? b=some u)(heo:∃u,h'.get? e=some u)
  (new:ju P w (upd H x o') h' x o'):n_ P w (upd H x o') h':=λb u q=>by
 have f:∀c y,H c=some (.own y)->c≠x:=λc y r z=>by subst z;rw[r]at mu;exact mu
 have g:∀c xs,H c=some (.tup xs)->c≠x:=λc xs r z=>by subst z;rw[r]at mu;exact mu
 by_cases j:b=x
 ·subst j;rw[h_]at q;cases q;exact new
 ·rw[fJ j]at q;by_cases d:b=e
  ·have m:H b=some (.own x):=by
    rcases he with z|z
    ·exact absurd (d.trans z) j
    ·rw[d];exact z
   rw[q]at m;cases m;obtain⟨v,hv⟩:=heo;exact⟨v,by rw[d];exact hv⟩
  ·refine(ok b u q).stay (λc v hc r=>k c v ?_ r) (λc r=>by rw[fJ<|f c b r];exact r) λc xs r=>by rw[fJ<|g c xs r];exact r
   rcases hc with rfl|hc
   ·exact d
   ·rintro rfl
    rcases he with z|z
    ·exact f c b hc z
    ·rw[hc]at z;cases z;exact j rfl
end
structure Un (fs ex:ar)(H H':Hp)(h h':au):Prop where
 keep:∀b o,h.get? b=some o->H b=none->b∉fs->b∉ex->h'.get? b=some o
 slot:∀b o,h.get? b=some o->H b=none->b∈fs->b∉ex->∃sl,h'.get? b=some { o with slots:=sl }
 free:∀b o,h.get? b=some o->H b=none->b∉ex->H' b=none
 there:∀b o,h.get? b=some o->b∉ex->∃o',h'.get? b=some o'
 tups:∀b xs,H b=some (.tup xs)->H' b=some (.tup xs)
 frzs:∀b o u,H b=some (.frz o u)->H' b=some (.frz o u)
 tbls:∀b ps,H b=some (.tbl ps)->∃more,H' b=some (.tbl<|ps++more)
section
variable {fs ex:ar}{H H1:Hp}{h h1 h':au}{a x e:ak}{o:HO}
def Un.any(u:Un fs ex H H1 h h1){ob:Obj}(q:h.get? b=some ob)(n:H b=none)(hx:b∉ex):∃sl,h1.get? b=some { ob with slots:=sl }:=by
 by_cases d:b∈fs
 ·exact u.slot b ob q n d hx
 ·exact⟨ob.slots,u.keep b ob q n d hx⟩
def Un.kept(k:∀b u,h.get? b=some u->h'.get? b=some u):Un fs ex H H h h':=
 ⟨λb d q _ _ _=>k b d q,λb d q _ _ _=>⟨d.slots,k b d q⟩,λ_ _ _ n _=>n,λb d q _=>⟨d,k b d q⟩,λ_ _ q=>q,λ_ _ _ q=>q,λ_ ps q=>⟨#[],by rw[q];simp⟩⟩
def Un.refl:Un fs ex H H h h:=Un.kept λ_ _ q=>q
def Un.laid(k:∀b u,h.get? b=some u->h'.get? b=some u)(hp:h.objs.size<=a)(hn:H a=none):Un fs ex H (upd H a o) h h' where
 keep:=λb u q _ _ _=>k b u q
 slot:=λb u q _ _ _=>⟨u.slots,k b u q⟩
 free:=λb u q n _=>by rw[fJ<|bF<|bh (aX q) hp];exact n
 there:=λb u q _=>⟨u,k b u q⟩
 tups:=λb xs q=>by rw[fJ<|fP q hn];exact q
 frzs:=λb u xs q=>by rw[fJ<|fP q hn];exact q
 tbls:=λb ps q=>⟨#[],by rw[fJ<|fP q hn,q];simp⟩
def Un.write(mu:Hy<|H x)(he:e=x\/H e=some (.own x))(k:∀b u,b≠e->h.get? b=some u->h'.get? b=some u)(heo:∃u,h'.get? e=some u):Un fs ex H (upd H x o) h h':=by
 have j:∀b,H b=none->b≠x:=λb n z=>by subst z;rw[n]at mu;exact mu
 have g:∀b,H b=none->b≠e:=λb n z=>by
  subst z
  rcases he with r|r
  ·exact j b n r
  ·rw[n]at r;cases r
 have f:∀b u,H b=some u->¬Hy (some u)->b≠x:=λb u q m z=>by subst z;rw[q]at mu;exact m mu
 refine⟨λb u q n _ _=>k b u (g b n) q,λb u q n _ _=>⟨u.slots,k b u (g b n) q⟩,λb u q n _=>by rw[fJ<|j b n];exact n,λb u q _=>?_,
  λb xs q=>by rw[fJ<|f b _ q λz=>z];exact q,λb u xs q=>by rw[fJ<|f b _ q λz=>z];exact q,λb ps q=>⟨#[],by rw[fJ<|f b _ q λz=>z,q];simp⟩⟩
 by_cases d:b=e
 ·subst d;exact heo
 ·exact⟨u,k b u d q⟩
end
abbrev HH (h:au)(H:Hp):ar:=(List.range h.objs.size).filter λa=>(H a).isSome
abbrev qq (h:au)(H:Hp):au:=PySem.W.hideAll h<|HH h H
def xy(h:au)(H:Hp):(qq h H).objs.size=h.objs.size:=PySem.W.hideAll_size _ _
def zH{h:au}{H:Hp}(e:h.get? b=some o)(n:H b=none):(qq h H).get? b=some o:=
 PySem.W.hideAll_get _ e λd=>by
  have q:(H b).isSome=true:=(c7.mp d).2;rw[n]at q;simp at q
def Cf{h:au}{H:Hp}(e:(qq h H).get? b=some o):h.get? b=some o/\H b=none:=by
 have d:h.get? b=some o:=PySem.W.of_hideAll (HH h H) e;refine⟨d,?_⟩
 cases q:H b with
 | none=>rfl
 | some x=>
  have f:b∈HH h H:=c7.mpr ⟨eo.mpr<|aX d,by simp[q]⟩;have z:(qq h H).get? b=none:=PySem.W.hideAll_none (HH h H) f;rw[z]at e;cases e
abbrev Ck (g h:au)(L:ak):bo:=(List.range h.objs.size).filterMap λa=>if a=L\/(g.get? a).isSome=true then none else(h.get? a).map λo=>(a,o)
abbrev rest (g h:au)(L d:ak):bo:=(Ck g h L).filter λp=>decide<|p.1≠d
structure Mod (K:aA)(mg:Str->aw)(base:au):Prop where
 kin:K.In base
 glob:base.Ns mainGlobals mg
 blt:∃mb,base.Ns builtinsNs mb/\∀x:Str,x ≠ "__name__" -> mb x=bootBuiltins x
 nolimit:base.NoLimit
structure Cx where
 prog:aj
 w:af
 K:aA
 mg:Str->aw
 base:au
 A:aC
 N:am
 s₀:aE
 H₀:Hp
 env:Env
 outer:List Env
 stack:List Env
 ex:ar
 fn:Str->Bool
 calm:Bool
 pn:bo
 xe:aa->aE->Prop
abbrev frs (l:List Env):ar:=l.filterMap (·.frame)
meta abbrev Cx.fs (X:Cx):ar:=frs X.outer
abbrev Hs (sc:Scope)(x:Str):Prop:=sc.names.lookup x=some .local\/sc.names.lookup x=some .cell\/sc.names.lookup x=some .free
abbrev Loc (sc:Scope)(x:Str):Prop:=sc.names.lookup x=some .local\/sc.names.lookup x=some .cell
abbrev Look (env:Env)(h:au)(m:Str->aw)(x:Str)(u:aa):Prop:=
 (env.kindOf x=some .local/\m x=some u)\/((env.kindOf x=some .cell\/env.kindOf x=some .free)/\∃c,env.cells.lookup x=some c/\h.IsCell c (some u))
structure Cx.Ok (X:Cx):Prop where
 mod:Mod X.K X.mg X.base
 kind:X.env.scope.kind=.function
 glob:X.env.globals=mainGlobals
 blt:X.env.builtins=builtinsNs
 above:X.s₀.heap.objs.size<=X.env.locals
 inj:∀x y c,X.env.cells.lookup x=some c->X.env.cells.lookup y=some c->x=y
 has:∀x,(X.env.kindOf x=some .cell\/X.env.kindOf x=some .free)->∃c,X.env.cells.lookup x=some c
 cab:∀x c,X.fn x=true->X.env.cells.lookup x=some c->X.s₀.heap.objs.size<=c
 hd:X.calm=true->X.A.handled=none
 frames:X.A.frames=some X.stack
 stk:X.stack=X.outer\/(X.stack=X.env::X.outer/\X.env.frame=some X.env.locals)
 exf:∀b∈X.ex,b≠X.env.locals/\∀x c,X.env.cells.lookup x=some c->c≠b
 bs:∀b o,X.base.get? b=some o->X.s₀.heap.get? b=some o/\X.H₀ b=none
 bsz:X.base.objs.size<=X.s₀.heap.objs.size
 noex:∀b o,X.base.get? b=some o->b∉X.ex
 exfs:∀b∈X.ex,b∉X.fs
 pB:X.s₀.heap.FunFrames X.base X.outer
 frf:∀b∈X.fs,X.H₀ b=none
structure Inv (X:Cx)(pins:bo)(σ:List (Option V))(H:Hp)(s:aE):Prop where
 ok:X.Ok
 os:s.os=X.s₀.os
 bare:AllBare s.gens
 base:Un X.fs X.ex X.H₀ H X.s₀.heap s.heap
 loc:∃m,s.heap.Ns X.env.locals m/\∀(i:Nat) (x:Str) (v:V),X.N[i]?=some x->σ[i]?=some (some v)->Hs X.env.scope x->∃u,RelV v u/\Look X.env s.heap m x u
 cell:∀x c,X.env.cells.lookup x=some c->∃v,s.heap.IsCell c v
 free:H X.env.locals=none
 freeC:∀x c,X.env.cells.lookup x=some c->H c=none
 pin:∀p∈X.pn++pins,s.heap.get? p.1=some p.2/\H p.1=none/\p.1≠X.env.locals/\p.1∉X.fs/\∀v,p.2.data≠.cell v
 hok:n_ X.prog X.w H s.heap
 len:σ.length=X.N.length
section
variable {X:Cx}{pins:bo}{σ:List (Option V)}{H H':Hp}{s:aE}{h':au}
def Cx.Ok.Iz(ok:X.Ok)(e:X.base.get? b=some o):b∉X.fs:=λd=>by
 have:=(ok.pB.mem d).1;rw[e]at this;cases this
def Inv.bs(I:Inv X pins σ H s):∀b o,X.base.get? b=some o->s.heap.get? b=some o/\H b=none:=λb o e=>
 ⟨I.base.keep b o (I.ok.bs b o e).1 (I.ok.bs b o e).2 (I.ok.Iz e)<|I.ok.noex b o e,I.base.free b o (I.ok.bs b o e).1 (I.ok.bs b o e).2<|I.ok.noex b o e⟩
def Inv.bk(I:Inv X pins σ H s):∀b o,X.base.get? b=some o->s.heap.get? b=some o:=λb o e=>(I.bs b o e).1
def Inv.mod(I:Inv X pins σ H s):Mod X.K X.mg X.base:=I.ok.mod
def Inv.FG(I:Inv X pins σ H s):X.K.In s.heap:=I.ok.mod.kin.keeps I.bk
def Inv.lt(I:Inv X pins σ H s):X.env.locals<s.heap.objs.size:=let⟨_,hn,_⟩:=I.loc;hn.lt
def Inv.sz(I:Inv X pins σ H s):X.s₀.heap.objs.size<=s.heap.objs.size:=bN I.ok.above<|cJ I.lt
def Inv.IL(I:Inv X pins σ H s){a:ak}(h:s.heap.objs.size<=a):a∉X.fs:=λd=>by
 obtain⟨_,o,f,_⟩:=I.ok.pB.mem d;exact absurd (bh (aX f)<|bN I.sz h)<|cO _
def Inv.Fp(I:Inv X pins σ H s):∀x c,X.env.cells.lookup x=some c->c≠X.env.locals:=λx c e z=>by
 obtain⟨v,o,j,g⟩:=I.cell x c e;obtain⟨m,⟨o',es,k,f,d,_⟩,_⟩:=I.loc;rw[z,f]at j;cases j;rw[d]at g;cases g
def Inv.pB(I:Inv X pins σ H s):s.heap.FunFrames X.base X.outer:=by
 have all:∀(l:List Env),(∀b∈frs l,b∈X.fs)->X.s₀.heap.FunFrames X.base l->s.heap.FunFrames X.base l:=by
  intro l
  induction l with
  | nil=>intro _ _;trivial
  | cons env r j=>
   intro hs q;obtain⟨k,⟨L,o,hf,hn,m,p⟩,g⟩:=q;have d:L∈X.fs:=hs L (by unfold frs;rw[d9,hf];exact a_);obtain⟨B,e⟩:=I.base.slot L o m (I.ok.frf L d) d λz=>I.ok.exfs L z d;exact⟨k,⟨L,_,hf,hn,e,p⟩,j (λb f=>hs b<|by unfold frs;rw[d9,hf];exact aU _ f) g⟩
 exact all X.outer (λ_ f=>f) I.ok.pB
def Inv.stack(I:Inv X pins σ H s):s.heap.FunFrames X.base X.stack:=by
 rcases I.ok.stk with e|⟨e,hf⟩
 ·rw[e];exact I.pB
 ·rw[e];obtain⟨m,hn,_⟩:=I.loc;refine .cons (by rw[I.ok.kind];decide) hf hn ?_ I.pB;exact Heap.get?_none_of_le<|bN I.ok.bsz I.ok.above
def Inv.sZ(I:Inv X pins σ H s):∀b∈frs X.stack,b∈X.env.locals::X.fs:=λb d=>by
 rcases I.ok.stk with e|⟨e,hf⟩
 ·rw[e]at d;exact aU _ d
 ·rw[e]at d;unfold frs at d;rw[d9,hf]at d;exact d
def Inv.wu(I:Inv X pins σ H s):∀b∈frs X.stack,H b=none:=λb d=>by
 rcases bJ.mp (I.sZ b d)with e|d
 ·rw[e];exact I.free
 ·obtain⟨_,o,f,_⟩:=I.ok.pB.mem d;exact I.base.free b o f (I.ok.frf b d) λz=>I.ok.exfs b z d
def Inv.step{g':Array GenState}{t':Nat}{d':Drawn}{ch:ar}(I:Inv X pins σ H s)
  (hch:∀b∈ch,(b∈X.ex\/X.s₀.heap.objs.size<=b)/\b≠X.env.locals/\(∀x c,X.env.cells.lookup x=some c->c≠b)/\∀p∈X.pn++pins,p.1≠b)
  (keep:∀b o,b≠X.env.locals->b∉X.fs->b∉ch->s.heap.get? b=some o->H b=none->h'.get? b=some o)
  (slot:∀b o,b≠X.env.locals->b∈X.fs->b∉ch->s.heap.get? b=some o->H b=none->∃sl,h'.get? b=some { o with slots:=sl }) (free:∀b o,b∉ch->s.heap.get? b=some o->H b=none->H' b=none)
  (there:∀b o,b∉ch->s.heap.get? b=some o->∃o',h'.get? b=some o')
  (tups:∀b xs,H b=some (.tup xs)->H' b=some (.tup xs)) (frzs:∀b o u,H b=some (.frz o u)->H' b=some (.frz o u)) (tbls:∀b ps,H b=some (.tbl ps)->∃more,H' b=some (.tbl<|ps++more))
  (ns:∀m,s.heap.Ns X.env.locals m->h'.Ns X.env.locals m) (hok:n_ X.prog X.w H' h') (hg:AllBare g') :
  Inv X pins σ H' { s with heap:=h',gens:=g',drawn:=d',toks:=t' }:=by
 have G:∀b o,X.s₀.heap.get? b=some o->b≠X.env.locals:=λb o e=>bF<|bh (aX e) I.ok.above;have B:∀b o,X.s₀.heap.get? b=some o->b∉X.ex->b∉ch:=λb o e f C=>by
  rcases(hch b C).1 with z|z
  ·exact f z
  ·exact absurd (bh (aX e) z)<|cO _
 have g:∀x c,X.env.cells.lookup x=some c->∀v,s.heap.IsCell c v->h'.IsCell c v:=λx c e v ⟨o,F,K⟩=>by
  have j:c∉ch:=λz=>(hch c z).2.2.1 x c e rfl;by_cases hc:c∈X.fs
  ·obtain⟨sl,q⟩:=slot c o (I.Fp x c e) hc j F<|I.freeC x c e;exact⟨_,q,K⟩
  ·exact⟨o,keep c o (I.Fp x c e) hc j F<|I.freeC x c e,K⟩
 refine⟨I.ok,I.os,hg,⟨λb o e n C f=>?_,λb o e n C f=>?_,λb o e n f=>?_,λb o e f=>?_,λb xs e=>tups b xs<|I.base.tups b xs e,λb o xs e=>frzs b o xs<|I.base.frzs b o xs e,λb ps e=>?_⟩,?_,λx c e=>?_,?_,λx c e=>?_,λp M=>?_,hok,I.len⟩
 ·exact keep b o (G b o e) C (B b o e f) (I.base.keep b o e n C f) (I.base.free b o e n f)
 ·obtain⟨sl,e1⟩:=I.base.slot b o e n C f;obtain⟨J,e2⟩:=slot b _ (G b o e) C (B b o e f) e1<|I.base.free b o e n f;exact⟨J,e2⟩
 ·obtain⟨o',e1⟩:=I.base.there b o e f;exact free b o' (B b o e f) e1 (I.base.free b o e n f)
 ·obtain⟨o',e1⟩:=I.base.there b o e f;exact there b o' (B b o e f) e1
 ·obtain⟨O,e1⟩:=I.base.tbls b ps e;obtain⟨T,e2⟩:=tbls b _ e1;exact⟨O++T,by rw[e2,Array.append_assoc]⟩
 ·obtain⟨m,hn,P⟩:=I.loc;refine⟨m,ns m hn,λi x v e1 e2 e3=>?_⟩;obtain⟨u,r,l⟩:=P i x v e1 e2 e3;refine⟨u,r,?_⟩
  rcases l with l|⟨k,c,e,z⟩
  ·exact .inl l
  ·exact .inr ⟨k,c,e,g x c e _ z⟩
 ·obtain⟨v,z⟩:=I.cell x c e;exact⟨v,g x c e v z⟩
 ·obtain⟨m,⟨o,_,_,F,_⟩,_⟩:=I.loc;exact free _ o (λz=>(hch _ z).2.1 rfl) F I.free
 ·obtain⟨v,o,F,K⟩:=I.cell x c e;exact free c o (λz=>(hch c z).2.2.1 x c e rfl) F (I.freeC x c e)
 ·obtain⟨e,n,L,N,d⟩:=I.pin p M;have j:p.1∉ch:=λz=>(hch p.1 z).2.2.2 p M rfl;exact⟨keep p.1 p.2 L N j e n,free p.1 p.2 j e n,L,N,d⟩
def Inv.un{t':Nat}(I:Inv X pins σ H s)(u:Un X.fs [] H H' s.heap h')(hok:n_ X.prog X.w H' h'):Inv X pins σ H' { s with heap:=h',toks:=t' }:=by
 obtain⟨m,⟨o,es,B,k,r⟩,_⟩:=id I.loc;obtain⟨F,q⟩:=u.any k I.free (by simp);exact I.step (g':=s.gens) (d':=s.drawn) (ch:=[]) (nofun) (λb o _ g _ e n=>u.keep b o e n g<|by simp) (λb o _ g _ e n=>u.slot b o e n g<|by simp) (λb o _ e n=>u.free b o e n<|by simp) (λb o _ e=>u.there b o e<|by simp) u.tups u.frzs u.tbls (λC p=>by
  obtain⟨o',f,j,d,z⟩:=p;rw[k]at d;cases d;exact⟨_,f,j,q,z⟩) hok I.bare
def Inv.call{g':Array GenState}{t':Nat}{d':Drawn}{ch:ar}(I:Inv X pins σ H s)(u:Un (frs X.stack) ch H H' s.heap h')(hok:n_ X.prog X.w H' h')(hg:AllBare g')
  (hch:∀b∈ch,(b∈X.ex\/X.s₀.heap.objs.size<=b)/\b≠X.env.locals/\(∀x c,X.env.cells.lookup x=some c->c≠b)/\∀p∈X.pn++pins,p.1≠b) :
  Inv X pins σ H' { s with heap:=h',gens:=g',drawn:=d',toks:=t' }:=by
 obtain⟨m,⟨o,es,F,k,r⟩,_⟩:=id I.loc;obtain⟨J,f⟩:=u.any k I.free λz=>(hch _ z).2.1 rfl;exact I.step (ch:=ch) hch (λb o f B hc e n=>u.keep b o e n (λz=>(bJ.mp<|I.sZ b z).elim f B) hc) (λb o _ _ hc e n=>u.any e n hc) (λb o hc e n=>u.free b o e n hc) (λb o hc e=>u.there b o e hc) u.tups u.frzs u.tbls (λG q=>by
  obtain⟨o',g,j,d,C⟩:=q;rw[k]at d;cases d;exact⟨_,g,j,f,C⟩) hok hg
def Inv.turned{t':Nat}{it:ak}(I:Inv X pins σ H s)(k:∀b o,b≠it->s.heap.get? b=some o->h'.get? b=some o)(hn:H it=none)(hL:it≠X.env.locals)
  (h1:it∈X.ex\/X.s₀.heap.objs.size<=it) (h2:∀x c,X.env.cells.lookup x=some c->c≠it) (h3:∀p∈X.pn++pins,p.1≠it):Inv X pins σ H { s with heap:=h',toks:=t' }:=by
 have d:∀b u,H b=some u->b≠it:=λb u e z=>by rw[z,hn]at e;cases e
 refine I.step (g':=s.gens) (d':=s.drawn) (ch:=[it]) (λb j=>?_) (λb o _ _ hc e _=>k b o (λz=>hc<|by simp[z]) e) (λb o _ _ hc e _=>⟨o.slots,k b o (λz=>hc<|by simp[z]) e⟩) (λ_ _ _ _ n=>n)
  (λb o hc e=>⟨o,k b o (λz=>hc<|by simp[z]) e⟩) (λ_ _ e=>e) (λ_ _ _ e=>e) (λb ps e=>⟨#[],by rw[e];simp⟩) (λm f=>?_) (λb u e=>?_) I.bare
 ·have e:b=it:=by simpa using j
  subst e;exact⟨h1,hL,h2,h3⟩
 ·obtain⟨o,es,g,B,r⟩:=f;exact⟨o,es,g,k _ o (dw hL) B,r⟩
 ·refine(I.hok b u e).stay (λc v hc q=>k c v ?_ q) (λ_ q=>q) λ_ _ q=>q
  rcases hc with z|z
  ·rw[z];exact d b u e
  ·exact d c _ z
def Inv.tok(I:Inv X pins σ H s)(t:Nat):Inv X pins σ H { s with toks:=t }:=I.un (h':=s.heap) (t':=t) Un.refl I.hok
def Inv.kept{t':Nat}(I:Inv X pins σ H s)(k:∀b u,s.heap.get? b=some u->h'.get? b=some u):Inv X pins σ H { s with heap:=h',toks:=t' }:=I.un (Un.kept k)<|I.hok.kept k
def Inv.laid{a:ak}{t':Nat}(I:Inv X pins σ H s)(k:∀b u,s.heap.get? b=some u->h'.get? b=some u)(hp:s.heap.objs.size<=a)(new:ju X.prog X.w (upd H a o) h' a o) :
  Inv X pins σ (upd H a o) { s with heap:=h',toks:=t' }:=I.un (Un.laid k hp<|I.hok.fresh hp)<|I.hok.laid k hp new
def Inv.write{x:ak}{t':Nat}(I:Inv X pins σ H s)(mu:Hy<|H x)(he:e=x\/H e=some (.own x))(k:∀b u,b≠e->s.heap.get? b=some u->h'.get? b=some u)(heo:∃u,h'.get? e=some u)
  (new:ju X.prog X.w (upd H x o) h' x o):Inv X pins σ (upd H x o) { s with heap:=h',toks:=t' }:=I.un (Un.write mu he k heo)<|I.hok.write mu he k heo new
def Inv.vY{pins':bo}(I:Inv X pins σ H s)(h:∀p∈pins',s.heap.get? p.1=some p.2/\H p.1=none/\p.1≠X.env.locals/\p.1∉X.fs/\∀v,p.2.data≠.cell v):Inv X pins' σ H s:=
 ⟨I.ok,I.os,I.bare,I.base,I.loc,I.cell,I.free,I.freeC,λp d=>(c8.mp d).elim (λz=>I.pin p<|dU _ z)<|h p,I.hok,I.len⟩
def rV{N:am}(hN:N.Nodup){i j:Nat}{x:Str}(a:N[i]?=some x)(b:N[j]?=some x):i=j:=by
 obtain⟨h1,e1⟩:=aI.mp a;obtain⟨d,e2⟩:=aI.mp b;exact(dP hN).mp (e1.trans e2.symm)
def wY{A:aC}{E:aa->aE->Prop}{i:Nat}{x:Str}{v:V}{Q:Unit->aE->Prop}(I:Inv X pins σ H s)(hN:X.N.Nodup)(hi:X.N[i]?=some x)(hx:Loc X.env.scope x)(r:RelV v u)
  (h:∀s',Inv X pins (σ.set i<|some v) H s'->(∃a,Heap.SameBut a s.heap s'.heap/\(a=X.env.locals\/X.env.cells.lookup x=some a))->Q Unit.unit s') (hf:X.fn x=true\/X.env.scope.names.lookup x=some .local:=by first|exact .inl rfl|exact .inr rfl|assumption):wpAny M A (storeName X.env x u) Q E s:=by
 obtain⟨m,hn,hl⟩:=id I.loc;have O:(X.env.scope.kind == .class || (X.env.scope.kind == .module && X.env.locals != X.env.globals))=false:=by rw[I.ok.kind];rfl
 have B:i<σ.length:=by rw[I.len];exact(aI.mp hi).1
 have Fp:=I.Fp;have f:∀{a:ak} {h':au},(∃o,s.heap.get? a=some o/\H a=none)->Heap.SameBut a s.heap h'->n_ X.prog X.w H h':=λ{a h'} ha hs b ob e=>by
  obtain⟨_,_,hfree⟩:=ha;refine(I.hok b ob e).stay (λc U hc q=>(hs.2 c ?_).trans q) (λ_ q=>q) λ_ _ q=>q;rintro rfl
  rcases hc with rfl|hc
  ·rw[hfree]at e;cases e
  ·rw[hfree]at hc;cases hc
 rcases hx with g|g
 ·refine wpAny_storeName_local g hn (λh' hn' hs=>?_) O;obtain⟨oL,_,_,Y,_⟩:=id hn;refine h _ ⟨I.ok,I.os,I.bare,⟨λb o e n F hx=>?_,λb o e n F hx=>?_,I.base.free,λb o e hx=>?_,I.base.tups,I.base.frzs,I.base.tbls⟩,⟨_,hn',λj y v' e1 e2 e3=>?_⟩,λy c e=>?_,I.free,I.freeC,λp hp=>?_,f ⟨oL,Y,I.free⟩ hs,by simpa using I.len⟩ ⟨_,hs,.inl rfl⟩
  ·exact(hs.2 b<|bF<|bh (aX e) I.ok.above).trans (I.base.keep b o e n F hx)
  ·obtain⟨Z,e1⟩:=I.base.slot b o e n F hx;exact⟨Z,(hs.2 b<|bF<|bh (aX e) I.ok.above).trans e1⟩
  ·obtain⟨o',e1⟩:=I.base.there b o e hx;exact⟨o',(hs.2 b<|bF<|bh (aX e) I.ok.above).trans e1⟩
  ·by_cases G:j=i
   ·subst G;rw[hi]at e1;cases e1;rw[bY B]at e2
    cases e2
    exact⟨u,r,.inl ⟨g,by simp⟩⟩
   ·rw[bV<|dw G]at e2;obtain⟨u',r',q⟩:=hl j y v' e1 e2 e3;refine⟨u',r',?_⟩
    rcases q with⟨k,e⟩|⟨k,c,e,z⟩
    ·refine .inl ⟨k,?_⟩;have:y≠x:=λe=>G<|rV hN e1<|e ▸ hi;simp[this,e]
    ·exact .inr ⟨k,c,e,z.sameBut hs<|Fp y c e⟩
  ·obtain⟨U,z⟩:=I.cell y c e;exact⟨U,z.sameBut hs<|Fp y c e⟩
  ·obtain⟨e,n,T,nf,d⟩:=I.pin p hp;exact⟨(hs.2 p.1 T).trans e,n,T,nf,d⟩
 ·have C:X.fn x=true:=by
   rcases hf with z|z
   ·exact z
   ·rw[z]at g;cases g
  obtain⟨c,hc⟩:=I.ok.has x<|.inl g;obtain⟨U,z⟩:=I.cell x c hc;refine wpAny_storeName_cell I.ok.kind g hc z λh' P hs=>?_;obtain⟨oc,K,J⟩:=id z;refine h { s with heap:=h' } ⟨I.ok,I.os,I.bare,⟨λb o e n F hx=>?_,λb o e n F hx=>?_,I.base.free,λb o e hx=>?_,I.base.tups,I.base.frzs,I.base.tbls⟩,⟨m,hn.sameBut hs<|dw<|Fp x c hc,λj y v' e1 e2 e3=>?_⟩,λy W e=>?_,I.free,I.freeC,λp hp=>?_,f ⟨oc,K,I.freeC x c hc⟩ hs,by simpa using I.len⟩ ⟨c,hs,.inr hc⟩
  ·exact(hs.2 b<|bF<|bh (aX e)<|I.ok.cab x c C hc).trans (I.base.keep b o e n F hx)
  ·obtain⟨Z,e1⟩:=I.base.slot b o e n F hx;exact⟨Z,(hs.2 b<|bF<|bh (aX e)<|I.ok.cab x c C hc).trans e1⟩
  ·obtain⟨o',e1⟩:=I.base.there b o e hx;exact⟨o',(hs.2 b<|bF<|bh (aX e)<|I.ok.cab x c C hc).trans e1⟩
  ·by_cases G:j=i
   ·subst G;rw[hi]at e1;cases e1;rw[bY B]at e2
    cases e2
    exact⟨u,r,.inr ⟨.inl g,c,hc,P⟩⟩
   ·rw[bV<|dw G]at e2;obtain⟨u',r',q⟩:=hl j y v' e1 e2 e3;refine⟨u',r',?_⟩
    rcases q with q|⟨k,W,e,z'⟩
    ·exact .inl q
    ·refine .inr ⟨k,W,e,z'.sameBut hs ?_⟩;rintro rfl;exact G<|rV hN e1<|I.ok.inj _ _ _ e hc ▸ hi
  ·by_cases L:W=c
   ·subst L;exact⟨_,P⟩
   ·obtain⟨w2,z2⟩:=I.cell y W e;exact⟨w2,z2.sameBut hs L⟩
  ·obtain⟨e,n,T,nf,d⟩:=I.pin p hp;refine⟨(hs.2 p.1 ?_).trans e,n,T,nf,d⟩;intro q;rw[q,K]at e;have q':oc=p.2:=aL e;exact d U<|by rw[<- q'];exact J
def oR{A:aC}{E:aa->aE->Prop}{i:Nat}{x:Str}{v:V}{Q:Unit->aE->Prop}(I:Inv X pins σ H s)(hN:X.N.Nodup)(hi:X.N[i]?=some x)(hx:Loc X.env.scope x)(r:RelV v u)
  (h:∀s',Inv X pins (σ.set i<|some v) H s'->Q Unit.unit s') (hf:X.fn x=true\/X.env.scope.names.lookup x=some .local:=by first|exact .inl rfl|exact .inr rfl|assumption):wpAny M A (storeName X.env x u) Q E s:=
 wY I hN hi hx r (λs' d _=>h s' d) hf
def Inv.Dv{s':aE}{ch:ar}(I:Inv X pins σ H s)(ho:s'.os=s.os)(u:Un (frs X.stack) ch H H' s.heap s'.heap)(hok:n_ X.prog X.w H' s'.heap)(hg:AllBare s'.gens)
  (hch:∀b∈ch,(b∈X.ex\/X.s₀.heap.objs.size<=b)/\b≠X.env.locals/\(∀x c,X.env.cells.lookup x=some c->c≠b)/\∀p∈X.pn++pins,p.1≠b):Inv X pins σ H' s':=by
 obtain⟨h',g',d',t',o'⟩:=s';have e:o'=s.os:=ho;subst e;exact I.call (g':=g') (t':=t') (d':=d') u hok hg hch
end
meta abbrev XK:=aa->Option ak->Hp->Prop
meta abbrev St:=List<|Option V
meta abbrev VK:=V->Hp->Prop
meta abbrev TE:=St->Hp->VK->Prop
meta abbrev TT:=St->Hp->(Bool->Hp->Prop)->Prop
meta abbrev TA:=St->Hp->(List V->Hp->Prop)->Prop
structure Ends where
 nx:St->Hp->Prop
 rt:VK
 bk:St->Hp->Prop:=λ_ _=>False
 ct:St->Hp->Prop:=λ_ _=>False
meta abbrev TS:=Ends->St->Hp->Prop
abbrev EP (X:Cx)(pins:bo)(σ:St)(Q:VK)(u:aa)(s':aE):Prop:=∃v H',Inv X pins σ H' s'/\RelV v u/\Q v H'
abbrev TP (X:Cx)(pins:bo)(σ:St)(Q:Bool->Hp->Prop)(b:Bool)(s':aE):Prop:=∃H',Inv X pins σ H' s'/\Q b H'
abbrev AP (X:Cx)(pins:bo)(σ:St)(Q:List V->Hp->Prop)(us:ap)(s':aE):Prop:=∃d H',Inv X pins σ H' s'/\Vals d us/\Q d H'
abbrev SP (X:Cx)(pins:bo)(D:Ends)(f:Flow)(s':aE):Prop:=
 match f with
 | .next=>∃d H',Inv X pins d H' s'/\D.nx d H'
 | .brk=>∃d H',Inv X pins d H' s'/\D.bk d H'
 | .cont=>∃d H',Inv X pins d H' s'/\D.ct d H'
 | .ret u=>∃v d H',Inv X pins d H' s'/\RelV v u/\D.rt v H'
abbrev PE (X:Cx)(e:aF)(t:TE):Prop:=
 ∀(pins:bo) (s:aE) (σ:St) (H:Hp) (Q:VK),Inv X pins σ H s->t σ H Q->wpAny (model X.prog X.w) X.A (eval e X.env) (EP X pins σ Q) X.xe s
abbrev PT (X:Cx)(e:aF)(t:TT):Prop:=
 ∀(pins:bo) (s:aE) (σ:St) (H:Hp) (Q:Bool->Hp->Prop),Inv X pins σ H s->t σ H Q->wpAny (model X.prog X.w) X.A (isTrue e X.env<|eval e X.env) (TP X pins σ Q) X.xe s
abbrev PW (X:Cx)(e:aF)(t:TT):Prop:=
 ∀(d:Sem aa) (pins:bo) (s:aE) (σ:St) (H:Hp) (Q:Bool->Hp->Prop),Inv X pins σ H s->t σ H Q->wpAny (model X.prog X.w) X.A (isTrue e X.env d) (TP X pins σ Q) X.xe s
abbrev PA (X:Cx)(es:List aF)(t:TA):Prop:=
 ∀(pos:Pos) (pins:bo) (s:aE) (σ:St) (H:Hp) (Q:List V->Hp->Prop),Inv X pins σ H s->t σ H Q->wpAny (model X.prog X.w) X.A (spliced<|backTo pos<|starEach es X.env) (AP X pins σ Q) X.xe s
abbrev PS (X:Cx)(st:aG)(t:TS):Prop:=
 ∀(pins:bo) (s:aE) (σ:St) (H:Hp) (D:Ends),Inv X pins σ H s->t D σ H->wpAny (model X.prog X.w) X.A (exec st X.env) (SP X pins D) X.xe s
abbrev qL (X:Cx)(st:List aG)(t:TS):Prop:=
 ∀(pins:bo) (s:aE) (σ:St) (H:Hp) (D:Ends),Inv X pins σ H s->t D σ H->wpAny (model X.prog X.w) X.A (execs st X.env) (SP X pins D) X.xe s
def gC{α:Type}{t:Sem α}{Q Q':α->aE->Prop}{A:aC}{E:aa->aE->Prop}(h:wpAny M A t Q E s)(hQ:∀a s,Q a s->Q' a s):wpAny M A t Q' E s:=c_ h hQ λ_ _ x=>x
section
variable {X:Cx}
abbrev Ia (i:Nat):TE:=λσ H Q=>∃v,σ[i]?=some (some v)/\Q v H
abbrev tC (v:V):TE:=λ_ H Q=>Q v H
def DQ{i:Nat}{x:Str}(hN:X.N[i]?=some x)(hv:Hs X.env.scope x)(hd:(x == ("__debug__" : Str))=false:=by decide)(hcd:(x == ("__classdict__" : Str))=false:=by decide):PE X (.Name x pos) (Ia i):=by
 kt_k;obtain⟨v,e,h⟩:=h;obtain⟨m,hn,k⟩:=I.loc;obtain⟨u,r,l⟩:=k i x v hN e hv;have g:EP X pins σ Q u s:=⟨v,H,I,r,h⟩
 rcases l with⟨f,j⟩|⟨f,c,hc,d⟩
 ·exact wpAny_Name (wpAny_loadName_local I.ok.kind f hn j g) hd
 ·rcases f with f|f
  ·exact wpAny_Name (wpAny_loadName_cell I.ok.kind f hc d g) hd
  ·exact wpAny_Name (wpAny_loadName_free I.ok.kind f hc d g hcd) hd
def EW{i j pos}:PE X (.Constant (.int i) j pos) (tC<|.int i):=λ_ _ _ H _ I h=>wpAny_Constant_int ⟨.int i,H,I.tok _,⟨_,rfl⟩,h⟩
def Gs{b j pos}:PE X (.Constant (.bool b) j pos) (tC<|.bl b):=λ_ _ _ H _ I h=>Constant_bool ⟨.bl b,H,I,rfl,h⟩
def D0{j pos}:PE X (.Constant .none j pos) (tC .non):=λ_ _ _ H _ I h=>Constant_none ⟨.non,H,I,rfl,h⟩
abbrev Gl (X:Cx)(x:Str):Prop:=X.env.kindOf x=some .globalImplicit
def B4{E:aa->aE->Prop}{H:Hp}{x:Str}{Q:aa->aE->Prop}(I:Inv X pins σ H s)(hg:Gl X x)(hm:X.mg x=some u)(h:Q u s)
  (hd:(x == ("__debug__" : Str))=false:=by decide):wpAny (model X.prog X.w) X.A (eval (.Name x pos) X.env) Q E s:=
 Calls.Name_function_global I.ok.kind hg (Calls.loadGlobal_global (by rw[I.ok.glob];exact I.mod.glob.keeps I.bk) hm h) hd
def qy{E:aa->aE->Prop}{H:Hp}{x:Str}{Q:aa->aE->Prop}(I:Inv X pins σ H s)(hg:Gl X x)(hm:X.mg x=none)(hv:bootBuiltins x=some u)(h:Q u s)
  (hn:x ≠ "__name__" := by decide) (hd:(x == ("__debug__" : Str))=false:=by decide):wpAny (model X.prog X.w) X.A (eval (.Name x pos) X.env) Q E s:=by
 obtain⟨f,h1,d⟩:=I.mod.blt;exact Calls.Name_function_global I.ok.kind hg (Calls.loadGlobal_builtin (by rw[I.ok.glob];exact I.mod.glob.keeps I.bk) hm (by rw[I.ok.blt];exact h1.keeps I.bk) ((d x hn).trans hv) h) hd
variable {a b:aF}{pos:Pos}
variable {tA tB':TT}{rest:List aF}
abbrev Jr (t u:TT):TT:=λσ H Q=>t σ H λc H1=>if c=true then Q true H1 else u σ H1 Q
def EG(ha:PT X a tA):PW X (.BoolOp .Or [a] pos) tA:=by
 intro d pins s σ H Q I h;refine isTrue_or (gC (ha pins s σ H Q I h) λc f e=>?_)
 cases c with
 | false=>exact isTrue_or_nil e
 | true=>exact e
def Hr(ha:PT X a tA)(hb:PW X (.BoolOp .Or (b::rest) pos) tB'):PW X (.BoolOp .Or (a::b::rest) pos) (Jr tA tB'):=by
 intro g pins s σ H Q I h;refine isTrue_or (gC (ha pins s σ H _ I h) λc j ⟨H1,f,d⟩=>?_)
 cases c with
 | true=>exact⟨H1,f,d⟩
 | false=>exact hb g pins j σ H1 Q f d
end
abbrev i_ (K:aA)(H:Hp)(a:ak)(xs:List V):Prop:=
 Rd H a (.lst xs) \/
  ∃(o:Obj) (d:Array aa) (n:Nat),K.lookup a=some o/\o.cls=.type "list" /\ o.dict=none/\o.data=.seq d n/\d.size<=sizeLine/\Vals xs d.toList
abbrev iT (K:aA)(H:Hp)(a:ak)(xs:List V):Prop:=
 Rd H a (.tup xs) \/
  ∃(o:Obj) (d:Array aa) (n:Nat),K.lookup a=some o/\o.cls=.type "tuple" /\ o.dict=none/\o.data=.seq d n/\d.size<=sizeLine/\Vals xs d.toList
abbrev IU:aa->Option V
 | .none=>some .non
 | .bool b=>some (.bl b)
 | .int i _=>some (.int i)
 | .str x _=>some (.str x)
 | .bytes b _=>some (.byt b)
 | .float b _=>some (.flt b)
 | .ref a=>some (.ref a)
 | .type n=>some (.ty n)
 | _=>none
def RelV.abs{x:V}(r:RelV x u):IU u=some x:=by
 cases x with
 | non=>cases r;rfl
 | bl _=>cases r;rfl
 | int _=>obtain⟨t,rfl⟩:=r;rfl
 | str _=>obtain⟨t,rfl⟩:=r;rfl
 | byt _=>obtain⟨t,rfl⟩:=r;rfl
 | flt _=>obtain⟨t,rfl⟩:=r;rfl
 | ref _=>cases r;rfl
 | ty _=>cases r;rfl
def RelV.inj{x:V}(r:RelV x u)(q:RelV y u):x=y:=aL<|r.abs.symm.trans q.abs
theorem Vals.inj:∀{xs ys:List V}{us:ap},Vals xs us->Vals ys us->xs=ys
 | _,_,_,.nil,.nil=>rfl
 | _,_,_,.cons r t,.cons f d=>by rw[r.inj f,Vals.inj t d]
section
variable {X:Cx}{pins:bo}{σ:St}{H:Hp}{s:aE}{a:ak}{xs ys:List V}
def i_.of{K:aA}(h:H a=some (.lst xs)):i_ K H a xs:=.inl<|.inl h
def iT.of{K:aA}(h:H a=some (.tup xs)):iT K H a xs:=.inl<|.inl h
def Inv.list(I:Inv X pins σ H s)(h:i_ X.K H a xs):∃its:ap,Vals xs its/\PlainL s.heap a its.toArray/\xs.length<=sizeLine:=by
 rcases h with h|⟨o,its,n,f,hc,d,hs,g,r⟩
 ·obtain⟨z,its,n,r,e⟩:=h.ok I.hok;exact⟨its,r,⟨_,n,e,rfl,rfl,rfl⟩,z⟩
 ·refine⟨its.toList,r,⟨o,n,I.FG a o f,hc,d,by simpa using hs⟩,?_⟩;have e:=r.length;dsimp[bR]at e
  lia
def Inv.tuple(I:Inv X pins σ H s)(h:iT X.K H a xs):∃its:ap,Vals xs its/\IsTup s.heap a its.toArray/\xs.length<=sizeLine:=by
 rcases h with h|⟨o,its,n,d,hc,_,hs,f,r⟩
 ·obtain⟨z,its,r,p⟩:=h.ok I.hok;exact⟨its,r,p.tup,z⟩
 ·refine⟨its.toList,r,⟨o,I.FG a o d,hc,n,by simpa using hs⟩,?_⟩;have e:=r.length;dsimp[bR]at e
  lia
def Inv.ER(I:Inv X pins σ H s)(h:iT X.K H a xs):∃o,s.heap.get? a=some o/\o.cls=.type "tuple" /\ o.dict=none:=by
 rcases h with h|⟨o,f,n,j,hc,g,hs,k,r⟩
 ·obtain⟨z,f,r,o,e,c,d,_⟩:=h.ok I.hok;exact⟨o,e,c,d⟩
 ·exact⟨o,I.FG a o j,hc,g⟩
def Inv.Ay(I:Inv X pins σ H s)(h:i_ X.K H a xs)(h':i_ X.K H a ys):xs=ys:=by
 obtain⟨g,r,⟨o,n,e,_,_,d⟩,_⟩:=I.list h;obtain⟨f,p,⟨o',q,k,_,_,j⟩,_⟩:=I.list h';rw[e]at k;cases k;rw[d]at j
 injection j with m _
 have:g=f:=by simpa using cY Array.toList m
 subst this;exact r.inj p
def Inv.pS(I:Inv X pins σ H s)(h:iT X.K H a xs)(h':iT X.K H a ys):xs=ys:=by
 obtain⟨g,r,⟨o,e,_,n,d⟩,_⟩:=I.tuple h;obtain⟨f,p,⟨o',k,_,q,j⟩,_⟩:=I.tuple h';rw[e]at k;cases k;rw[d]at j
 injection j with m _
 have:g=f:=by simpa using cY Array.toList m
 subst this;exact r.inj p
end
meta abbrev Cx.pL (X:Cx)(E:aa->aE->Prop):Cx:={ X with xe:=E }
meta abbrev Cx.Gq (X:Cx):Cx:=X.pL λ_ _=>False
def Cx.Ok.pL{X:Cx}(ok:X.Ok)(E:aa->aE->Prop):(X.pL E).Ok:=
 ⟨ok.mod,ok.kind,ok.glob,ok.blt,ok.above,ok.inj,ok.has,ok.cab,ok.hd,ok.frames,ok.stk,ok.exf,ok.bs,ok.bsz,ok.noex,ok.exfs,ok.pB,ok.frf⟩
def Cx.Ok.kZ{X:Cx}{E:aa->aE->Prop}(ok:(X.pL E).Ok):X.Ok:=
 ⟨ok.mod,ok.kind,ok.glob,ok.blt,ok.above,ok.inj,ok.has,ok.cab,ok.hd,ok.frames,ok.stk,ok.exf,ok.bs,ok.bsz,ok.noex,ok.exfs,ok.pB,ok.frf⟩
section
variable {X:Cx}{pins:bo}{σ:St}{H:Hp}{s:aE}{E:aa->aE->Prop}
def Inv.pL(I:Inv X pins σ H s)(E:aa->aE->Prop):Inv (X.pL E) pins σ H s:=⟨I.ok.pL E,I.os,I.bare,I.base,I.loc,I.cell,I.free,I.freeC,I.pin,I.hok,I.len⟩
def Inv.kZ(I:Inv (X.pL E) pins σ H s):Inv X pins σ H s:=⟨I.ok.kZ,I.os,I.bare,I.base,I.loc,I.cell,I.free,I.freeC,I.pin,I.hok,I.len⟩
def SP.kZ{f:Flow}(h:SP (X.pL E) pins D f s'):SP X pins D f s':=by
 cases f with
 | next=>obtain⟨d,H',I,q⟩:=h;exact⟨d,H',I.kZ,q⟩
 | brk=>obtain⟨d,H',I,q⟩:=h;exact⟨d,H',I.kZ,q⟩
 | cont=>obtain⟨d,H',I,q⟩:=h;exact⟨d,H',I.kZ,q⟩
 | ret u=>obtain⟨v,d,H',I,r,q⟩:=h;exact⟨v,d,H',I.kZ,r,q⟩
def qL.Gq{st:List aG}{t:TS}(h:qL X.Gq st t):qL X st t:=λpins s σ H D I hw=>
 c_ (h pins s σ H D (I.pL _) hw) (λ_ _ q=>q.kZ) λ_ _ z=>False.elim z
end
section
variable {X:Cx}{st:aG}{rest:List aG}{t u:TS}{e:aF}{te:TE}{pos:Pos}
abbrev GU:TS:=λD σ H=>D.nx σ H
abbrev Hu (t u:TS):TS:=λD σ H=>t { D with nx:=u D } σ H
def B0:qL X [] GU:=λ_ _ σ H _ I h=>dZ ⟨σ,H,I,h⟩
def zP(h1:PS X st t)(h2:qL X rest u):qL X (st::rest) (Hu t u):=by
 kj_on;refine wpAny_execs_cons (gC (h1 pins s σ H { D with nx:=u D } I h) λf j q=>?_)
 cases f with
 | next=>
  obtain⟨d,H',g,q⟩:=q;exact h2 pins j d H' D g q
 | ret v=>exact q
 | brk=>exact q
 | cont=>exact q
def Cm(h1:PS X st t):qL X [st] t:=by
 kj_on;refine wpAny_execs_cons (gC (h1 pins s σ H D I h) λf d q=>?_)
 cases f with
 | next=>exact dZ q
 | ret v=>exact q
 | brk=>exact q
 | cont=>exact q
def Inv.quiet{H:Hp}(I:Inv X pins σ H s):interactive X.env=false:=by simp[interactive,I.ok.kind]
abbrev Gn (te:TE):TS:=λD σ H=>te σ H λ_ H1=>D.nx σ H1
def CJ(he:PE X e te)(hs:swapsWith e none pos.line X.env=pure false:=by rfl):PS X (.Expr e pos) (Gn te):=by
 kj_on;exact wpAny_Expr_any (gC (he pins s σ H _ I h) λv g ⟨x,H1,f,r1,d⟩=>⟨σ,H1,f,d⟩) I.quiet hs
abbrev IX (te:TE):TS:=λD σ H=>te σ H D.rt
def Fd(he:PE X e te):PS X (.Return (some e) pos) (IX te):=by
 kj_on;exact wpAny_Return_some<|gC (he pins s σ H _ I h) λv g ⟨x,H1,f,r1,d⟩=>⟨x,σ,H1,f,r1,d⟩
abbrev I_ (c:TT)(t u:TS):TS:=λD σ H=>c σ H λb H1=>if b=true then t D σ H1 else u D σ H1
def Gm{a:List aG}{tc:TT}(hc:PT X c tc)(ha:qL X a t)(hb:qL X b u):PS X (.If c a b pos) (I_ tc t u):=by
 kj_on;refine wpAny_If (gC (hc pins s σ H _ I h) λd j ⟨H1,g,f⟩=>?_)
 cases d with
 | true=>exact ha pins j σ H1 D g f
 | false=>exact hb pins j σ H1 D g f
abbrev Ej:TS:=λ_ _ _=>False
def zx:PS X st Ej:=λ_ _ _ _ _ _ h=>h.elim
end
meta abbrev TG:=V->St->Hp->(St->Hp->Prop)->Prop
meta abbrev Dq:=List V->St->Hp->(St->Hp->Prop)->Prop
abbrev PG (X:Cx)(target:aF)(t:TG):Prop:=
 ∀(pins:bo) (s:aE) (σ:St) (H:Hp) (v:V) (u:aa) (Q:St->Hp->Prop),Inv X pins σ H s->RelV v u->t v σ H Q ->
  wpAny (model X.prog X.w) X.A (assign target X.env u) (λ_ s'=>∃d H',Inv X pins d H' s'/\Q d H') X.xe s
abbrev GZ (X:Cx)(ts:List aF)(t:Dq):Prop:=
 ∀(pins:bo) (s:aE) (σ:St) (H:Hp) (f:List V) (us:ap) (Q:St->Hp->Prop),Inv X pins σ H s->Vals f us->t f σ H Q ->
  wpAny (model X.prog X.w) X.A (assignInOrder ((assignEach ts X.env).map (·.2)) us) (λ_ s'=>∃d H',Inv X pins d H' s'/\Q d H') X.xe s
meta abbrev xA:=V->V->V->Hp->(Hp->Prop)->Prop
abbrev Co (X:Cx)(t:xA):Prop:=
 ∀(pins:bo) (s:aE) (σ:St) (H:Hp) (o i v:V) (d f u:aa) (Q:Hp->Prop),Inv X pins σ H s->RelV o d->RelV i f->RelV v u->t o i v H Q ->
  wpAny (model X.prog X.w) X.A (setItem d f u) (λ_ s'=>∃H',Inv X pins σ H' s'/\Q H') X.xe s
meta abbrev Ez:=V->V->Hp->VK->Prop
abbrev CU (X:Cx)(op:Operator)(t:Ez):Prop:=
 ∀(pins:bo) (s:aE) (σ:St) (H:Hp) (x y:V) (v u:aa) (Q:VK),Inv X pins σ H s->RelV x v->RelV y u->t x y H Q ->
  wpAny (model X.prog X.w) X.A (inplaceOp op v u) (EP X pins σ Q) X.xe s
section
variable {X:Cx}{pos:Pos}
abbrev C2 (i:Nat):TG:=λv σ H Q=>Q (σ.set i<|some v) H
def BX{i:Nat}{x:Str}(hN:X.N.Nodup)(hi:X.N[i]?=some x)(hx:Loc X.env.scope x)(hf:X.fn x=true\/X.env.scope.names.lookup x=some .local:=by first|exact .inl rfl|exact .inr rfl|assumption):PG X (.Name x pos) (C2 i):=by
 intro pins s σ H v u Q I r h;exact wpAny_assign_Name<|oR I hN hi hx r (λs' d=>⟨_,H,d,h⟩) hf
abbrev Ja:Dq:=λd σ H Q=>d=[]/\Q σ H
abbrev G3 (t:TG)(u:Dq):Dq:=λf σ H Q=>∃v r,f=v::r/\t v σ H λd H'=>u r d H' Q
def BB:GZ X [] Ja:=by
 intro pins s σ H d us Q I r h;obtain⟨e,h⟩:=h;subst e
 cases r
 exact assignInOrder_nil ⟨σ,H,I,h⟩
def zE{t:TG}{u:Dq}(h1:PG X e t)(h2:GZ X es u)
  (hs:(assignEach (e::es) X.env).map (·.2)=assign e X.env::(assignEach es X.env).map (·.2):=by rfl):GZ X (e::es) (G3 t u):=by
 intro pins s σ H p us Q I r h;obtain⟨v,m,e1,h⟩:=h;subst e1
 cases r with
 | cons r k=>
  rw[hs];refine assignInOrder_cons<|gC (h1 pins s σ H _ _ _ I r h) λ_ g ⟨d,H1,j,f⟩=>?_;exact h2 pins g d H1 _ _ Q j k f
abbrev II (K:aA)(n:Nat)(t:Dq):TG:=λv σ H Q=>∃a xs,v=.ref a/\iT K H a xs/\xs.length=n/\t xs σ H Q
def DY{k:Nat}{t:Dq}{n:Nat}(hc:X.calm=true)(h:GZ X es t)
  (hn:(assignEach es X.env).length=n:=by rfl) (hst:(assignEach es X.env).findIdx? (·.1)=none:=by rfl):PG X (.Tuple es k pos) (II X.K n t):=by
 intro pins s σ H v u Q I r hw;obtain⟨a,xs,e1,g,q,hw⟩:=hw;subst e1
 cases r
 obtain⟨p,d,m,z⟩:=I.tuple g;refine assign_Tuple_tuple (I.ok.hd hc) m (by simp[hn,<- q,d.length]) hst λh' f=>?_;have j:Inv X pins σ H { s with heap:=h' }:=I.kept (t':=s.toks) λb o e=>f b o (bF<|aX e) e;exact h pins _ σ H xs _ Q j (by simpa using d) hw
abbrev IJ (to ti:TE)(t:xA):TG:=λv σ H Q=>to σ H λo H1=>ti σ H1 λi H2=>t o i v H2 λd=>Q σ d
def Eo{to ti:TE}{t:xA}(ho:PE X o to)(hi:PE X i ti)(hs:Co X t)
  (ha:∀v,assign (.Subscript o i pos) X.env v=(do
   let ov <- holding [v] (eval o X.env)
   let iv <- holding [v,ov] (eval i X.env)
   standAt pos
   holding [v,ov,iv] (setItem ov iv v)
   release [v,ov,iv] []):=by intro _;rfl):PG X (.Subscript o i pos) (IJ to ti t):=by
 intro pins s σ H v u Q I r h;rw[ha];refine aO<|cZ<|gC (ho pins s σ H _ I h) λov j ⟨x,H1,g,r1,d⟩=>?_;refine aO<|cZ<|gC (hi pins j σ H1 _ g d) λiv q ⟨y,H2,k,r2,m⟩=>?_;refine aO<|cP<|aO<|cZ<|gC (hs pins q σ H2 x y v ov iv u _ k r1 r2 r m) λ_ B ⟨p,f,z⟩=>?_;exact wpAny_release ⟨σ,p,f,z⟩
abbrev EB (te:TE)(g:TG):TS:=λD σ H=>te σ H λx H1=>g x σ H1 D.nx
def Fc{tg:aF}{te:TE}{g:TG}(he:PE X e te)(hg:PG X tg g)(hs:swapsWithSole [tg] e pos.line X.env=pure false:=by rfl)(hw:swappedStores [tg] e X.env=pure none:=by rfl)
  (h1:(assignEach [tg] X.env).map (·.2)=[assign tg X.env]:=by rfl):PS X (.Assign [tg] e pos) (EB te g):=by
 kj_on;refine wpAny_Assign_stores (gC (he pins s σ H _ I h) λv j ⟨x,H1,f,r1,d⟩=>?_) hs hw;rw[h1];exact gC (hg pins j σ H1 x v _ f r1 d) λ_ k q=>q
def FE{i:Nat}{x:Str}{te:TE}(hN:X.N.Nodup)(hi:X.N[i]?=some x)(hx:Loc X.env.scope x)(he:PE X e te)(hs:swapsWith e (some<|.Name x pos') pos.line X.env=pure false:=by rfl)(hf:X.fn x=true\/X.env.scope.names.lookup x=some .local:=by first|exact .inl rfl|exact .inr rfl|assumption) :
  PS X (.Assign [.Name x pos'] e pos) (EB te<|C2 i):=by
 kj_on;refine wpAny_Assign_Name (gC (he pins s σ H _ I h) λv j ⟨y,H1,g,r1,d⟩=>?_) hs;exact oR g hN hi hx r1 (λk f=>⟨_,H1,f,d⟩) hf
abbrev IY (i:Nat)(te:TE)(ti:Ez):TS:=λD σ H=>∃x,σ[i]?=some (some x)/\te σ H λy H1=>ti x y H1 λz H2=>D.nx (σ.set i<|some z) H2
def E6{i:Nat}{x:Str}{te:TE}{ti:Ez}(hN:X.N.Nodup)(hi:X.N[i]?=some x)(hx:Loc X.env.scope x)(he:PE X e te)(ho:CU X op ti)(hf:X.fn x=true\/X.env.scope.names.lookup x=some .local:=by first|exact .inl rfl|exact .inr rfl|assumption) :
  PS X (.AugAssign (.Name x pos') op e pos) (IY i te ti):=by
 kj_on;obtain⟨v,e1,h⟩:=h;obtain⟨m,hn,M⟩:=I.loc;have p:Hs X.env.scope x:=by rcases hx with k|k;exact .inl k;exact .inr (.inl k)
 obtain⟨u,r,l⟩:=M i x v hi e1 p;refine wpAny_AugAssign_Name ?_;have q:wpAny (model X.prog X.w) X.A (eval e X.env) (λw g=>wpAny (model X.prog X.w) X.A (inplaceOp op u w) (λr j=>wpAny (model X.prog X.w) X.A (storeName X.env x r) (λ_=>SP X pins D .next) X.xe j) X.xe g) X.xe s:=by
  refine gC (he pins s σ H _ I h) λw G ⟨y,H1,J,r1,C⟩=>?_;refine gC (ho pins G σ H1 v y u w _ J r r1 C) λz T ⟨O,H2,K,r2,L⟩=>?_;exact oR K hN hi hx r2 (λP F=>⟨_,H2,F,L⟩) hf
 rcases l with⟨d,B⟩|⟨d,c,hc,f⟩
 ·exact wpAny_loadName_local I.ok.kind d hn B q
 ·rcases d with d|d
  ·exact wpAny_loadName_cell I.ok.kind d hc f q
  ·rcases hx with k|k
   ·have:X.env.scope.names.lookup x=some .free:=d;rw[k]at this;cases this
   ·have:X.env.scope.names.lookup x=some .free:=d;rw[k]at this;cases this
abbrev GC (to ti te:TE)(tget:V->V->Hp->VK->Prop)(tip:Ez)(tset:xA):TS:=λD σ H=>to σ H λo H1=>ti σ H1 λi H2=>tget o i H2 λx f=>te σ f λy j=>tip x y j λz d=>tset o i z d λg=>D.nx σ g
abbrev Fv (X:Cx)(t:V->V->Hp->VK->Prop):Prop:=
 ∀(pins:bo) (s:aE) (σ:St) (H:Hp) (o i:V) (d f:aa) (Q:VK),Inv X pins σ H s->RelV o d->RelV i f->t o i H Q ->
  wpAny (model X.prog X.w) X.A (getItem d f) (EP X pins σ Q) X.xe s
def B9{to ti te:TE}{tget:V->V->Hp->VK->Prop}{tip:Ez}{tset:xA}(ho:PE X o to)(hi:PE X i ti)(hg:Fv X tget)(he:PE X e te)(hp:CU X op tip)(hs:Co X tset)
  (ha:∀ov iv new,augStore i ov iv new=(do holding [new,ov,iv] (setItem ov iv new);release [new,ov,iv] [];pure .next):=by intros;rfl):PS X (.AugAssign (.Subscript o i tpos) op e pos) (GC to ti te tget tip tset):=by
 kj_on;refine wpAny_AugAssign_SubscriptAny (gC (ho pins s σ H _ I h) λov L ⟨d,H1,K,r1,m⟩=>?_) ha;refine gC (hi pins L σ H1 _ K m) λiv Y ⟨f,H2,T,r2,U⟩=>?_;refine gC (hg pins Y σ H2 d f ov iv _ T r1 r2 U) λold p ⟨G,W,C,O,q3⟩=>?_;refine gC (he pins p σ W _ C q3) λv s4 ⟨q,N,k,z,g⟩=>?_;refine gC (hp pins s4 σ N G q old v _ k O z g) λnew B ⟨F,H5,Z,M,P⟩=>?_;exact gC (hs pins B σ H5 d f F ov iv new _ Z r1 r2 M P) λ_ s6 ⟨H6,j,J⟩=>⟨σ,H6,j,J⟩
abbrev Jk (f:Int->Int->Int):Ez:=λx y H Q=>∃i j,x=.int i/\y=.int j/\Q (.int<|f i j) H
def FD:CU X .Add (Jk λi j=>i+j):=by
 intro pins s σ H x y v u Q I r1 r2 h;obtain⟨i,j,e1,e2,q⟩:=h;subst e1;subst e2;obtain⟨t,rfl⟩:=r1;obtain⟨d,rfl⟩:=r2;exact iadd_int ⟨.int _,H,I.tok _,⟨_,rfl⟩,q⟩
def DO:CU X .Sub (Jk λi j=>i-j):=by
 intro pins s σ H x y v u Q I r1 r2 h;obtain⟨i,j,e1,e2,q⟩:=h;subst e1;subst e2;obtain⟨t,rfl⟩:=r1;obtain⟨d,rfl⟩:=r2;exact isub_int ⟨.int _,H,I.tok _,⟨_,rfl⟩,q⟩
end
section
variable {X:Cx}{pos:Pos}
abbrev zO (c:TT)(tb:TS):TS:=λD σ H=>∃W:Nat->St->Hp->Prop,(∃m,W m σ H)/\∀m σ H,W m σ H ->
 c σ H λb H1=>if b=true then ∃N:St->Hp->Prop,(∀d H',N d H'->∃f,f<m/\W f d H')/\tb { D with nx:=N,ct:=N,bk:=D.nx } σ H1 else D.nx σ H1
def zh{tc:TT}{tb:TS}(hp:PassesOwn (model X.prog X.w) X.A X.env X.xe)(hc:PT X c tc)(hb:qL X body tb):PS X (.While c body [] pos) (zO tc tb):=by
 kj_on;obtain⟨W,⟨O,P⟩,m⟩:=h;refine wpAny_While<|codeAny_whileLoop (λn s'=>∃j H',Inv X pins j H' s'/\W n j H') ?_ O ⟨σ,H,I,P⟩;rintro n U ⟨g,H1,T,L⟩;refine ck hp (gC (hc pins U g H1 _ T<|m n g H1 L) λb M ⟨H2,J,p⟩=>?_)
 cases b with
 | true=>
  obtain⟨N,K,p⟩:=p;rw[aR rfl];refine ck hp (gC (hb pins M g H2 _ J p) λf V q=>?_)
  cases f with
  | next=>
   obtain⟨d,k,F,G⟩:=q;obtain⟨C,z,B⟩:=K d k G;exact⟨C,z,d,k,F,B⟩
  | cont=>
   obtain⟨d,k,F,G⟩:=q;obtain⟨C,z,B⟩:=K d k G;exact⟨C,z,d,k,F,B⟩
  | brk=>exact q
  | ret v=>exact q
 | false=>
  rw[aT bf];exact dZ ⟨g,H2,J,p⟩
end
structure It where
 go:Nat->Hp->Prop
 yld:Nat->Hp->V->Hp->Prop
 stop:Nat->Hp->Prop
abbrev k6 (X:Cx)(pins:bo)(H:Hp)(b:ak):Prop:=
 H b=none/\b≠X.env.locals/\b∉X.fs/\(b∈X.ex\/X.s₀.heap.objs.size<=b)/\(∀x c,X.env.cells.lookup x=some c->c≠b)/\∀p∈X.pn++pins,p.1≠b
def Inv.A7{H H':Hp}{s:aE}(I:Inv X pins σ H s)(hb:s.heap.objs.size<=b)(hn:H' b=none):k6 X pins H' b:=by
 refine⟨hn,Nat.ne_of_gt<|bh I.lt hb,I.IL hb,.inr<|bN I.sz hb,λx c e z=>?_,λp d z=>?_⟩
 ·obtain⟨v,q⟩:=I.cell x c e;exact absurd (bh q.lt<|by rw[z];exact hb) (cO _)
 ·exact absurd (bh (aX (I.pin p d).1)<|by rw[z];exact hb)<|cO _
structure Turn (P:aj)(w:af)(K:aA)(tg:aF)(J:It)(fp:ar)(it:ak)(tn:Nat->au->Prop):Prop where
 mem:it∈fp
 obj:∀i h,tn i h->∀b∈fp,∃o,h.get? b=some o/\∀v,o.data≠.cell v
 keep:∀i h h',tn i h->(∀b∈fp,∀o,h.get? b=some o->h'.get? b=some o)->tn i h'
 item:∀(X:Cx),X.prog=P->X.w=w->X.K=K->X.calm=true->∀(i:Nat) (pins:bo) (s:aE) (σ:St) (H:Hp) (E:aa->aE->Prop),Inv X pins σ H s->(∀b∈fp,k6 X pins H b)->tn i s.heap->J.go i H ->
  wpAny (model P w) X.A (pyNext<|.ref it) (λr s1=>∃u,r=some u /\
   wpAny (model P w) X.A (letOwnedTupleGo tg (.ref it) u) (λ_ s2=>∃x H',Inv X pins σ H' s2/\RelV x u/\J.yld i H x H'/\tn (i+1) s2.heap/\∀b∈fp,H' b=none) E s1) E s
 done:∀(X:Cx),X.prog=P->X.w=w->X.K=K->X.calm=true->∀(i:Nat) (pins:bo) (s:aE) (σ:St) (H:Hp) (E:aa->aE->Prop),Inv X pins σ H s->(∀b∈fp,k6 X pins H b)->tn i s.heap->J.stop i H ->
  wpAny (model P w) X.A (pyNext<|.ref it) (λr s1=>r=none/\Inv X pins σ H s1) E s
 self:∀(A:aC) (i:Nat) (s:aE) (Q:aa->aE->Prop) (E:aa->aE->Prop),tn i s.heap->Q (.ref it) s->wpAny (model P w) A (pyIter<|.ref it) Q E s
meta abbrev TI:=St->Hp->(It->Hp->Prop)->Prop
abbrev JN (X:Cx)(pins:bo)(σ:St)(tg:aF)(R:It->Hp->Prop)(itv:aa)(s2:aE):Prop:=
 ∃(it:ak) (d:ar) (f:Nat->au->Prop) (J:It) (H':Hp),itv=.ref it/\Inv X pins σ H' s2/\Turn X.prog X.w X.K tg J d it f/\f 0 s2.heap/\(∀b∈d,k6 X pins H' b)/\R J H'
abbrev PI (X:Cx)(tg iter:aF)(wi:TI):Prop:=
 ∀(pins:bo) (s:aE) (σ:St) (H:Hp) (R:It->Hp->Prop),Inv X pins σ H s->wi σ H R ->
  wpAny (model X.prog X.w) X.A (eval iter X.env) (λv d=>wpAny (model X.prog X.w) X.A (pyIter v) (JN X pins σ tg R) X.xe d) X.xe s
def uK{A:aC}{E:aa->aE->Prop}{s:aE}{o:Obj}{n:String}{Q:Unit->aE->Prop}(ho:s.heap.get? it=some o)(hc:o.cls=.type n)(hd:o.data=.fields vs)
  (hn:["enumerate", "zip", "dict_itemiterator", "dict_reverseitemiterator", "odict_iterator", "itertools.zip_longest", "itertools.pairwise"].contains n=false) (hQ:Q Unit.unit s):wpAny M A (letOwnedTupleGo tg (.ref it) u) Q E s:=by
 unfold letOwnedTupleGo
 cases tg<;>first
  | exact aZ hQ
  | (cases u<;>first
    | exact aZ hQ
    | (refine aO (wpAny_load ho ?_)
       rw[hc,hd];show wpAny M A (if (["enumerate", "zip", "dict_itemiterator", "dict_reverseitemiterator", "odict_iterator", "itertools.zip_longest", "itertools.pairwise"].contains n && vs[0]? == some (rawInt _))=true then _ else _) Q E s;rw[aT<|by intro h;rw[hn,Bool.false_and]at h;cases h];exact aZ hQ))
abbrev Hz (K:aA)(a:ak):It:=
 ⟨λi H=>∃xs x,i_ K H a xs/\xs[i]?=some x,λi H x H'=>H'=H/\∀xs,i_ K H a xs->xs[i]?=some x,λi H=>∃xs,i_ K H a xs/\xs.length<=i⟩
abbrev Jb (K:aA)(a:ak):It:=
 ⟨λi H=>∃xs x,iT K H a xs/\xs[i]?=some x,λi H x H'=>H'=H/\∀xs,iT K H a xs->xs[i]?=some x,λi H=>∃xs,iT K H a xs/\xs.length<=i⟩
abbrev G7 (lo:Int)(n:Nat):It:=⟨λi _=>i<n,λi H x H'=>H'=H/\x=.int (lo+i),λi _=>n<=i⟩
def xr{P:aj}{w:af}{K:aA}(a it:ak):Turn P w K tg (Hz K a) [it] it (λi h=>h.IsListIter it a i) where
 mem:=by simp
 obj:=λi h st b f=>by
  have e:b=it:=by simpa using f
  subst e;obtain⟨o,e,c,d⟩:=st;exact⟨o,e,λv z=>by rw[d]at z;cases z⟩
 keep:=λi h h' st k=>st.at λo e=>k it (by simp) o e
 item:=by
  w_up;subst hP hw hK;obtain⟨xs,x,j,q⟩:=hg;obtain⟨B,m,p,M⟩:=I.list j;obtain⟨u,J,F⟩:=m.get q;fin2;refine wpAny_pyNext_list_item st p.isList (x:=u) (by simpa using J) λh' g C=>?_;have G:Inv X pins σ H { s with heap:=h' }:=I.turned (t':=s.toks) (λb o f e=>(C.2 b f).trans e) f0 f1 f3 f4 f5;obtain⟨o,e,c,d⟩:=id g;exact⟨u,rfl,uK (s:={ s with heap:=h' }) e c d ⋯ ⟨x,H,G,F,⟨rfl,λys hy=>by rw[I.Ay hy j];exact q⟩,g,λb f=>(hf b f).1⟩⟩
 done:=by
  w_up;subst hP hw hK;obtain⟨xs,j,q⟩:=hg;obtain⟨B,m,p,M⟩:=I.list j;fin2;have N:=m.length;exact wpAny_pyNext_list_end (I.ok.hd hc) st p.isList (by simp;omega) λh' L=>⟨rfl,I.turned (t':=s.toks) (λb o f e=>L b o f e) f0 f1 f3 f4 f5⟩
 self:=λ_ _ _ _ _ st h=>wpAny_pyIter_listiter st h
def t6{P:aj}{w:af}{K:aA}(a it:ak):Turn P w K tg (Jb K a) [it] it (λi h=>h.IsTupleIter it a i) where
 mem:=by simp
 obj:=λi h st b f=>by
  have e:b=it:=by simpa using f
  subst e;obtain⟨o,e,c,d⟩:=st;exact⟨o,e,λv z=>by rw[d]at z;cases z⟩
 keep:=λi h h' st k=>st.at λo e=>k it (by simp) o e
 item:=by
  w_up;subst hP hw hK;obtain⟨xs,x,m,B⟩:=hg;obtain⟨g,q,p,M⟩:=I.tuple m;obtain⟨u,J,F⟩:=q.get B;fin2;refine wpAny_pyNext_tuple_item st (show s.heap.IsTuple a g.toArray from p) (x:=u) (by simpa using J) λh' j C=>?_;have G:Inv X pins σ H { s with heap:=h' }:=I.turned (t':=s.toks) (λb o f e=>(C.2 b f).trans e) f0 f1 f3 f4 f5;obtain⟨o,e,c,d⟩:=id j;exact⟨u,rfl,uK (s:={ s with heap:=h' }) e c d ⋯ ⟨x,H,G,F,⟨rfl,λys hy=>by rw[I.pS hy m];exact B⟩,j,λb f=>(hf b f).1⟩⟩
 done:=by
  w_up;subst hP hw hK;obtain⟨xs,m,B⟩:=hg;obtain⟨g,q,p,M⟩:=I.tuple m;fin2;have N:=q.length;exact wpAny_pyNext_tuple_end (I.ok.hd hc) st (show s.heap.IsTuple a g.toArray from p) (by simp;omega) λh' L=>⟨rfl,I.turned (t':=s.toks) (λb o f e=>L b o f e) f0 f1 f3 f4 f5⟩
 self:=λ_ _ _ _ _ st h=>wpAny_pyIter_tupleiter st h
def tK{P:aj}{w:af}{K:aA}(it:ak)(lo:Int)(n:Nat):Turn P w K tg (G7 lo n) [it] it (λi h=>IsRangeIter h it (lo+(i:Nat) * 1) ((n:Int)-(i:Nat)) 1) where
 mem:=by simp
 obj:=λi h st b d=>by
  have e:b=it:=by simpa using d
  subst e;exact⟨_,st,λv z=>by
   have p:Data.fields _=Data.cell v:=z
   cases p⟩
 keep:=λi h h' st k=>k it (by simp) _ st
 item:=by
  w_up;subst hP hw hK;fin2;have W:=Walks.range (prog:=X.prog) (w:=X.w) (I.ok.hd hc) it lo 1 n;refine W.item i s _ _ hg st λv h' g hv f q=>?_;obtain⟨t,rfl⟩:=hv;have j:Inv X pins σ H { s with heap:=h',toks:=g }:=I.turned (λb o d e=>q b o (by simpa using d) e) f0 f1 f3 f4 f5;refine⟨_,rfl,uK (s:={ s with heap:=h',toks:=g }) (n := "range_iterator") f rfl rfl ⋯ ⟨.int<|lo+i,H,j,⟨t,?_⟩,⟨rfl,rfl⟩,f,λb d=>(hf b d).1⟩⟩;rw[Int.mul_one]
 done:=by
  w_up;subst hP hw hK;fin2;exact wpAny_pyNext_range_end (I.ok.hd hc) st (by have:n<=i:=hg;lia) λh' m=>⟨rfl,I.turned (t':=s.toks) (λb o d e=>m b o d e) f0 f1 f3 f4 f5⟩
 self:=λ_ _ _ _ _ st h=>wpAny_pyIter_rangeiter st h
section
variable {X:Cx}{tg:aF}
abbrev GR (K:aA)(tl:TE):TI:=λσ H R=>tl σ H λx H1=>∃a,x=.ref a/\(∃xs,i_ K H1 a xs)/\R (Hz K a) H1
abbrev Ii (K:aA)(tl:TE):TI:=λσ H R=>tl σ H λx H1=>∃a,x=.ref a/\(∃xs,iT K H1 a xs)/\R (Jb K a) H1
def uD{tl:TE}(hl:PE X l tl):PI X tg l (GR X.K tl):=by
 intro pins s σ H R I h;refine gC (hl pins s σ H _ I h) λv d ⟨x,H1,I1,r1,f⟩=>?_;obtain⟨a,e,⟨xs,g⟩,q⟩:=f;subst e
 cases r1
 obtain⟨j,m,p,z⟩:=I1.list g;refine wpAny_pyIter_list p.isList ?_;refine⟨d.heap.objs.size,[d.heap.objs.size],_,_,H1,rfl,I1.kept (t':=d.toks) λb o e=>aS _ e,xr a _,⟨_,bA _ rfl,rfl,rfl⟩,λb k=>?_,q⟩;have e:b=d.heap.objs.size:=by simpa using k
 subst e;exact I1.A7 (aK _)<|I1.hok.fresh<|aK _
def yO{tl:TE}(hl:PE X l tl):PI X tg l (Ii X.K tl):=by
 intro pins s σ H R I h;refine gC (hl pins s σ H _ I h) λv d ⟨x,H1,I1,r1,g⟩=>?_;obtain⟨a,e,⟨xs,j⟩,q⟩:=g;subst e
 cases r1
 obtain⟨f,m,p,z⟩:=I1.tuple j;refine wpAny_pyIter_tuple (show d.heap.IsTuple a f.toArray from p) ?_;refine⟨d.heap.objs.size,[d.heap.objs.size],_,_,H1,rfl,I1.kept (t':=d.toks) λb o e=>aS _ e,t6 a _,⟨_,bA _ rfl,rfl,rfl⟩,λb k=>?_,q⟩;have e:b=d.heap.objs.size:=by simpa using k
 subst e;exact I1.A7 (aK _)<|I1.hok.fresh<|aK _
def se{H:Hp}{s:aE}{R:It->Hp->Prop}{E:aa->aE->Prop}{lo hi:Int}{v:Tok}{tk:Nat}(I:Inv X pins σ H s)(h1:-(2 ^ 62)<=lo)(h2:lo<2 ^ 62)(h3:-(2 ^ 62)<=hi)(h4:hi<2 ^ 62)
  (q:R (G7 lo (hi-lo).toNat) H):wpAny (model X.prog X.w) X.A (pyIter<|.ref s.heap.objs.size) (JN X pins σ tg R) E { s with heap:=s.heap.push { cls:=.type "range",data:=.fields #[.int lo t,.int hi u,.int 1 v]},toks:=tk }:=by
 refine wpAny_pyIter_range (IsRange.new ..) (small_one h1 h2 h3 h4) ?_;have I1:Inv X pins σ H { s with heap:=s.heap.push { cls:=.type "range",data:=.fields #[.int lo t,.int hi u,.int 1 v]},toks:=tk }:=I.kept λb o e=>aS _ e;refine⟨(s.heap.push { cls:=.type "range",data:=.fields #[.int lo t,.int hi u,.int 1 v]}).objs.size,[(s.heap.push { cls:=.type "range",data:=.fields #[.int lo t,.int hi u,.int 1 v]}).objs.size],_,_,H,rfl,
  I1.kept (t':=tk) λb o e=>aS _ e,tK _ lo (hi-lo).toNat,?_,λb d=>?_,q⟩
 ·have e1:lo+((0:Nat):Int) * 1=lo:=by simp
  have e2:(((hi-lo).toNat:Nat):Int)-((0:Nat):Int)=Builtin.Range.rangeSize lo hi 1:=by rw[rangeSize_one];split<;>lia
  skip
  rw[e1,e2];exact bA _ rfl
 ·have e:b=(s.heap.push { cls:=.type "range",data:=.fields #[.int lo t,.int hi u,.int 1 v]}).objs.size:=by simpa using d
  subst e;exact I1.A7 (aK _)<|I1.hok.fresh<|aK _
abbrev i6 (ta:TA):TI:=λσ H R=>ta σ H λd H1=>∃j:Int,d=[.int j]/\-(2 ^ 62)<=j/\j<2 ^ 62/\R (G7 0 j.toNat) H1
abbrev jj (ta:TA):TI:=λσ H R=>ta σ H λd H1=>∃i j:Int,d=[.int i,.int j]/\(-(2 ^ 62)<=i/\i<2 ^ 62/\-(2 ^ 62)<=j/\j<2 ^ 62)/\R (G7 i (j-i).toNat) H1
def xh{a:aF}{ta:TA}{p:Pos}(hg:Gl X "range")(hm:X.mg "range" = none)(ha:PA X [a] ta)(hs:starEach [a] X.env=[(false,eval a X.env)]:=by rfl):PI X tg (.Call (.Name "range" p) [a] [] pos) (i6 ta):=by
 intro pins s σ H R I h;refine Call_<|qy I hg hm boot_range<|cS (gC (ha pos pins s σ H _ I h) λus m ⟨z,H1,k,r1,d⟩=>?_) hs rfl;obtain⟨j,e,d,f,q⟩:=d;subst e
 cases r1 with
 | cons r g=>
  cases g
  obtain⟨t,rfl⟩:=r;exact call_range_1<|se k () () d f<|by simpa using q
def xD{a b:aF}{ta:TA}{p:Pos}(hg:Gl X "range")(hm:X.mg "range" = none)(ha:PA X [a,b] ta)(hs:starEach [a,b] X.env=[(false,eval a X.env),(false,eval b X.env)]:=by rfl)(hs2:starEach [b] X.env=[(false,eval b X.env)]:=by rfl) :
  PI X tg (.Call (.Name "range" p) [a,b] [] pos) (jj ta):=by
 intro pins s σ H R I h;refine Call_ (qy I hg hm boot_range<|cS (gC (ha pos pins s σ H _ I h) λus C ⟨F,H1,k,r1,d⟩=>?_) (by rw[hs,hs2])<|by rw[hs2];rfl);obtain⟨i,j,e,⟨d,m,B,g⟩,q⟩:=d;subst e
 cases r1 with
 | cons r f=>
  cases f with
  | cons z f=>
   cases f
   obtain⟨t,rfl⟩:=r;obtain⟨G,rfl⟩:=z;exact call_range_2<|se k d m B g q
abbrev HQ (wi:TI)(g:TG)(tb:TS):TS:=λD σ H=>wi σ H λJ H1=>∃W:Nat->Nat->St->Hp->Prop,(∃m,W 0 m σ H1)/\∀i m σ H,W i m σ H ->
 (J.stop i H/\D.nx σ H)\/(J.go i H/\∃N:St->Hp->Prop,(∀d H',N d H'->∃j,j<m/\W (i+1) j d H')/\∀x H',J.yld i H x H'->g x σ H' λf H2=>tb { D with nx:=N,ct:=N,bk:=D.nx } f H2)
abbrev lV (fp:ar)(h:au):bo:=fp.filterMap λb=>(h.get? b).map λo=>(b,o)
def gG{fp:ar}{h:au}{b:ak}(hb:b∈fp)(e:h.get? b=some o):(b,o)∈lV fp h:=List.mem_filterMap.mpr ⟨b,hb,by rw[e];rfl⟩
def xg{fp:ar}{h:au}{p:ak×Obj}(hp:p∈lV fp h):p.1∈fp/\h.get? p.1=some p.2:=by
 obtain⟨b,d,e⟩:=List.mem_filterMap.mp hp
 cases q:h.get? b with
 | none=>rw[q]at e;cases e
 | some o=>
  rw[q]at e;have f:(b,o)=p:=aL e;subst f;exact⟨d,q⟩
def Inv.pinned{H:Hp}{s:aE}{fp:ar}(I:Inv X pins σ H s)(hf:∀b∈fp,k6 X pins H b)(ho:∀b∈fp,∃o,s.heap.get? b=some o/\∀v,o.data≠.cell v):Inv X (pins++lV fp s.heap) σ H s:=
 I.vY λp j=>(c8.mp j).elim (λz=>I.pin p<|aW _ z) λz=>by
  obtain⟨f,e⟩:=xg z;obtain⟨f0,f1,f2,_⟩:=hf p.1 f;obtain⟨o,g,d⟩:=ho p.1 f;rw[e]at g;cases g;exact⟨e,f0,f1,f2,d⟩
def Inv.jZ{H:Hp}(I:Inv X (pins++pl) σ H s):Inv X pins σ H s:=I.vY λp d=>I.pin p<|aW _<|dU _ d
def Fl{iter:aF}{wi:TI}{g:TG}{tb:TS}(hp:PassesOwn (model X.prog X.w) X.A X.env X.xe)(hc:X.calm=true)(hi:PI X tg iter wi)(hg:PG X tg g)(hb:qL X body tb)
  (hs:∀x,foldedSetIterable iter X.env x=pure x:=by intro _;rfl):PS X (.For tg iter body [] pos) (HQ wi g tb):=by
 kj_on;refine wpAny_For (gC (hi pins s σ H _ I h) λv s1 h1=>gC h1 λitv s2 h2=>?_) hs;obtain⟨it,P,tn,J,H2,e,I2,T,st2,f2,W,⟨m0,w0⟩,M⟩:=h2;subst e;have B:∀{H':Hp},(∀b∈P,H' b=none)->∀b∈P,k6 X pins H' b:=λhn b hb=>⟨hn b hb,(f2 b hb).2⟩;refine codeAny_forLoop_any (λn s'=>∃i p H',Inv X pins p H' s'/\tn i s'.heap/\(∀b∈P,H' b=none)/\W i n p H') ?_ m0 ⟨0,σ,H2,I2,st2,λb hb=>(f2 b hb).1,w0⟩;rintro n s3 ⟨i,q,U,I3,G,K,w3⟩
 rcases M i n q U w3 with⟨O,qn⟩|⟨go,N,hN,step⟩
 ·refine ck hp<|gC (T.done X rfl rfl rfl hc i pins s3 q U X.xe I3 (B K) G O) λr s4 ⟨V,I4⟩=>?_;subst V;exact dZ ⟨q,U,I4,qn⟩
 ·refine ck hp<|gC (T.item X rfl rfl rfl hc i pins s3 q U X.xe I3 (B K) G go) λr s4 ⟨u,V,h4⟩=>?_;subst V;refine ck hp<|gC h4 λ_ s5 ⟨x,H5,I5,r5,y5,F,Z⟩=>?_;have I5':=I5.pinned (B Z)<|T.obj _ _ F;refine ck hp<|gC (hg _ s5 q H5 x u _ I5' r5<|step x H5 y5) λ_ s6 ⟨σ6,H6,I6,q6⟩=>?_;refine ck hp<|gC (hb _ s6 σ6 H6 _ I6 q6) λf Y C=>?_;have again:∀{j:St} {k:Hp},Inv X (pins++lV P s5.heap) j k Y->N j k->∃m,m<n/\∃i p H',Inv X pins p H' Y/\tn i Y.heap/\(∀b∈P,H' b=none)/\W i m p H':=λ{j k} z L=>by
   obtain⟨m',hm,w7⟩:=hN j k L;refine⟨m',hm,i+1,j,k,z.jZ,T.keep _ _ _ F λb hb o e=>(z.pin (b,o)<|aW _<|aW _<|gG hb e).1,λb hb=>?_,w7⟩;obtain⟨o,e,d⟩:=T.obj _ _ F b hb;exact(z.pin (b,o)<|aW _<|aW _<|gG hb e).2.1
  cases f with
  | next=>obtain⟨j,k,z,L⟩:=C;exact again z L
  | cont=>obtain⟨j,k,z,L⟩:=C;exact again z L
  | brk=>obtain⟨j,k,z,C⟩:=C;exact⟨j,k,z.jZ,C⟩
  | ret v=>obtain⟨x7,j,k,z,r7,C⟩:=C;exact⟨x7,j,k,z.jZ,r7,C⟩
end
def oG{c:TT}{tb:TS}{D:Ends}{H:Hp}(Pv:St->Hp->Prop)(μ:St->Hp->Nat)(h0:Pv σ H)
  (hs:∀σ H,Pv σ H->c σ H λb H1=>if b=true then tb { D with nx:=λσ' H'=>Pv σ' H'/\μ σ' H'<μ σ H,ct:=λσ' H'=>Pv σ' H'/\μ σ' H'<μ σ H,bk:=D.nx } σ H1 else D.nx σ H1)
  (mono:∀σ H Q Q',(∀b H1,Q b H1->Q' b H1)->c σ H Q->c σ H Q'):zO c tb D σ H:=by
 refine⟨λm σ H=>m=μ σ H/\Pv σ H,⟨_,rfl,h0⟩,?_⟩;rintro m σ H ⟨rfl,p⟩;refine mono σ H _ _ (λb H1 q=>?_) (hs σ H p)
 cases b with
 | true=>exact⟨_,λσ' H' ⟨d,l⟩=>⟨_,l,rfl,d⟩,q⟩
 | false=>exact q
meta abbrev R2:=V->V->Hp->VK->Prop
abbrev jt (X:Cx)(f:aa->aa->Sem aa)(r:R2):Prop:=
 ∀(pins:bo) (s:aE) (σ:St) (H:Hp) (x y:V) (v u:aa) (Q:VK),Inv X pins σ H s->RelV x v->RelV y u->r x y H Q ->
  wpAny (model X.prog X.w) X.A (f v u) (EP X pins σ Q) X.xe s
abbrev fU (X:Cx)(f:aa)(r:List V->Hp->VK->Prop):Prop:=
 ∀(pins:bo) (s:aE) (σ:St) (H:Hp) (xs:List V) (us:ap) (Q:VK),Inv X pins σ H s->Vals xs us->r xs H Q ->
  wpAny (model X.prog X.w) X.A (call f us) (EP X pins σ Q) X.xe s
abbrev I0 (X:Cx)(r:V->Hp->(Bool->Hp->Prop)->Prop):Prop:=
 ∀(pins:bo) (s:aE) (σ:St) (H:Hp) (x:V) (v:aa) (Q:Bool->Hp->Prop),Inv X pins σ H s->RelV x v->r x H Q ->
  wpAny (model X.prog X.w) X.A (truthy v) (TP X pins σ Q) X.xe s
abbrev G6 (r:R2)(ta tb:TE):TE:=λσ H Q=>ta σ H λx H1=>tb σ H1 λy H2=>r x y H2 Q
abbrev rI (C:Int->Int->Prop)(g:Int->Int->V):R2:=λx y H Q=>∃i j,x=.int i/\y=.int j/\C i j/\Q (g i j) H
abbrev EL (g:Int->Int->V):R2:=λx y H Q=>∃i j,x=.int i/\y=.int j/\Q (g i j) H
section
variable {X:Cx}{a b:aF}{ta tb:TE}{pos:Pos}
def FH(ha:PE X a ta)(hb:PE X b tb){H:Hp}{R:V->V->Hp->Prop}(I:Inv X pins σ H s)
  (h:ta σ H λx H1=>tb σ H1 λy H2=>R x y H2) {Q:aa->aE->Prop} {f:aa->aa->Sem aa}
  (hf:∀v u s2 x y H2,Inv X pins σ H2 s2->RelV x v->RelV y u->R x y H2->wpAny (model X.prog X.w) X.A (f v u) Q X.xe s2) :
  wpAny (model X.prog X.w) X.A (eval a X.env) (λv s₁=>wpAny (model X.prog X.w) X.A (eval b X.env) (λu s₂=>wpAny (model X.prog X.w) X.A (f v u) Q X.xe s₂) X.xe s₁) X.xe s:=by
 refine gC (ha pins s σ H _ I h) λv m ⟨x,H1,k,r1,d⟩=>?_;refine gC (hb pins m σ H1 _ k d) λu s2 ⟨y,H2,g,r2,j⟩=>?_;exact hf v u s2 x y H2 g r1 r2 j
def Gk{r:R2}(ho:jt X (binaryOp op) r)(ha:PE X a ta)(hb:PE X b tb):PE X (.BinOp a op b pos) (G6 r ta tb):=by
 kt_k;exact wpAny_BinOp<|FH ha hb I h λv u f x y H2 d rx ry q=>ho pins f σ H2 x y v u Q d rx ry q
def HF{f:aa->aa->Sem aa}{C:Int->Int->Prop}{g:Int->Int->Int}
  (rule:∀(i j:Int) (t u:Tok) (s:aE) (Q:aa->aE->Prop) (E:aa->aE->Prop),C i j->Q (.int (g i j) s.toks) { s with toks:=s.toks+1 }->wpAny (model X.prog X.w) X.A (f (.int i t)<|.int j u) Q E s) :
  jt X f (rI C λi j=>.int<|g i j):=by
 x_go;obtain⟨i,j,rfl,rfl,hc,q⟩:=h;kcj_m;obtain⟨d,rfl⟩:=ry;exact rule i j t d s _ _ hc ⟨.int<|g i j,H,I.tok _,⟨_,rfl⟩,q⟩
def GW{f:aa->aa->Sem aa}{g:Int->Int->Int}
  (rule:∀(i j:Int) (t u:Tok) (s:aE) (Q:aa->aE->Prop) (E:aa->aE->Prop),Q (.int (g i j) s.toks) { s with toks:=s.toks+1 }->wpAny (model X.prog X.w) X.A (f (.int i t)<|.int j u) Q E s) :
  jt X f (EL λi j=>.int<|g i j):=by
 x_go;obtain⟨i,j,rfl,rfl,q⟩:=h;kcj_m;obtain⟨d,rfl⟩:=ry;exact rule i j t d s _ _ ⟨.int<|g i j,H,I.tok _,⟨_,rfl⟩,q⟩
def E2{f:aa->aa->Sem aa}{g:Int->Int->Bool}
  (rule:∀(i j:Int) (t u:Tok) (s:aE) (Q:aa->aE->Prop) (E:aa->aE->Prop),Q (.bool<|g i j) s->wpAny (model X.prog X.w) X.A (f (.int i t)<|.int j u) Q E s) :
  jt X f (EL λi j=>.bl<|g i j):=by
 x_go;obtain⟨i,j,rfl,rfl,q⟩:=h;kcj_m;obtain⟨d,rfl⟩:=ry;exact rule i j t d s _ _ ⟨.bl<|g i j,H,I,rfl,q⟩
abbrev HU (i j:Int):Prop:=0<=j/\j<=1000000/\i.natAbs<2 ^ 64
abbrev Cc (i j:Int):Prop:=(-(2 ^ 64)<i/\i<2 ^ 64)\/(-(2 ^ 64)<j/\j<2 ^ 64)
def Cc.ok{i j:Int}(h:Cc i j):IntMulOk i j:=by
 rcases h with⟨h1,d⟩|⟨h1,d⟩
 ·exact .of_left (intBits_le_64 h1 d)
 ·exact .of_right<|intBits_le_64 h1 d
def FL:jt X (binaryOp .Add) (EL λi j=>.int<|i+j):=GW λ_ _ _ _ _ _ _ q=>add_int q
def FJ:jt X (binaryOp .Sub) (EL λi j=>.int<|i-j):=GW λ_ _ _ _ _ _ _ q=>sub_int q
def Ea:jt X (binaryOp .Mult) (rI Cc λi j=>.int<|i * j):=HF λ_ _ _ _ _ _ _ hc q=>mul_int q hc.ok
def D5:jt X (binaryOp .Mod) (rI (λ_ j=>0<j) λi j=>.int<|i % j):=HF λi j _ _ _ _ _ hc q=>by
 have h1:(0:Int)<j:=hc;exact mod_int' ()<|by rw[Int.fmod_eq_emod_of_nonneg i ()];exact q
def FQ:jt X (binaryOp .Pow) (rI HU λi j=>.int<|i ^ j.toNat):=HF λ_ _ _ _ _ _ _ hc q=>pow_int_small hc.1 hc.2.1 hc.2.2 q
end
section
variable {X:Cx}{a b c:aF}{ta tb:TE}{pos:Pos}
def Ek{H:Hp}{Q:VK}{k:Bool}(I:Inv X pins σ H s)(q:Q (.bl k) H)(e:k=k'):EP X pins σ Q (.bool k') s:=by
 subst e;exact⟨.bl k,H,I,rfl,q⟩
def Ht:jt X (compareOp .Lt) (EL λi j=>.bl<|decide<|i<j):=E2 λ_ _ _ _ _ _ _ q=>lt_int q
def GK:jt X (compareOp .LtE) (EL λi j=>.bl<|decide<|i<=j):=E2 λ_ _ _ _ _ _ _ q=>le_int q
def GQ:jt X (compareOp .Gt) (EL λi j=>.bl<|decide<|j<i):=E2 λ_ _ _ _ _ _ _ q=>gt_int q
def ET:jt X (compareOp .Is) (λx y H Q=>y=.non/\Q (.bl<|decide<|x=.non) H):=by
 x_go;obtain⟨rfl,q⟩:=h
 cases ry
 refine is_none_gen (Ek I q ?_)
 cases x<;>first
  | (cases rx;rfl)
  | (obtain⟨t,rfl⟩:=rx;rfl)
def Ao(b:aF)(h:op≠.In:=by decide)(h2:op≠.NotIn:=by decide):behindInMarks op b=false:=by
 have e1:(op == CmpOp.In)=false:=by cases op<;>first|rfl|exact absurd rfl h
 have e2:(op == CmpOp.NotIn)=false:=by cases op<;>first|rfl|exact absurd rfl h2
 cases b<;>simp[behindInMarks,e1,e2]
def By{op:CmpOp}{r:R2}(ho:jt X (compareOp op) r)(ha:PE X a ta)(hb:PE X b tb)(hm:behindInMarks op b=false):PE X (.Compare a [op] [b] pos) (G6 r ta tb):=by
 kt_k;exact wpAny_Compare1 (FH ha hb I h λv u f x y H2 d rx ry q=>ho pins f σ H2 x y v u Q d rx ry q) hm
abbrev G4 (t:TE):TT:=λσ H Q=>t σ H λx H'=>∃k,x=.bl k/\Q k H'
def B7{op:CmpOp}{r:R2}(ho:jt X (compareOp op) r)(ha:PE X a ta)(hb:PE X b tb)(hm:behindInMarks op b=false):PT X (.Compare a [op] [b] pos) (G4<|G6 r ta tb):=by
 kt_k;refine wpAny_isTrue_Compare1 (gC (ha pins s σ H _ I h) λv j ⟨x,H1,g,r1,d⟩=>gC (hb pins j σ H1 _ g d) λu C ⟨y,H2,p,r2,q⟩=>
  gC (ho pins C σ H2 x y v u _ p r1 r2 q) λc G ⟨z,B,f,m,k,e,F⟩=>?_) hm
 subst e
 cases m
 exact wpAny_truthy_bool ⟨B,f,F⟩
abbrev EZ (K:aA)(x:V)(H:Hp)(k:Bool):Prop:=
 match x with
 | .non=>k=false
 | .bl b=>k=b
 | .int i=>k=(i != 0)
 | .str y=>y.length<=sizeLine/\k=((y.length:Int) != 0)
 | .byt y=>y.size<=sizeLine/\k=((y.size:Int) != 0)
 | .ref p=>(∃xs,i_ K H p xs/\k=!xs.isEmpty)\/(∃xs,iT K H p xs/\k=!xs.isEmpty)\/∃d,H p=some (.dK d)/\k=!d.isEmpty
 | _=>False
def tF{κ:Type}{kvs:List<|κ×V}{vs:List<|κ×aa}(r:KV kvs vs):(!vs.isEmpty)=!kvs.isEmpty:=by
 cases r<;>rfl
theorem oA{xs:List V}{its:ap}(r:Vals xs its):(!its.toArray.isEmpty)=!xs.isEmpty:=by
 cases r<;>simp
def k8:(sizeLine:Nat)<2 ^ 63:=by rw[bW];decide
def EU:I0 X (λx H Q=>∃k,EZ X.K x H k/\Q k H):=by
 intro pins s σ H x v Q I rx h;obtain⟨k,e,q⟩:=h;have J:=k8;have hs:sizeLine=16777216:=bW
 cases x with
 | non=>
  cases rx
  have d:k=false:=e;subst d;exact truthy_none ⟨H,I,q⟩
 | bl b=>
  cases rx
  have d:k=b:=e;subst d;exact wpAny_truthy_bool ⟨H,I,q⟩
 | int i=>
  kcj_m;have d:k=(i != 0):=e;subst d;exact PySem.P.truthy_int ⟨H,I,q⟩
 | str y=>
  kcj_m;obtain⟨hy,d⟩:y.length<=sizeLine/\k=((y.length:Int) != 0):=e;subst d;exact PySem.P.truthy_str () ⟨H,I.tok _,q⟩
 | byt y=>
  kcj_m;obtain⟨hy,d⟩:y.size<=sizeLine/\k=((y.size:Int) != 0):=e;subst d;exact PySem.W.truthy_bytes () ⟨H,I.tok _,q⟩
 | ref p=>
  cases rx
  have d:(∃xs,i_ X.K H p xs/\k=!xs.isEmpty)\/(∃xs,iT X.K H p xs/\k=!xs.isEmpty)\/∃f,H p=some (.dK f)/\k=!f.isEmpty:=e
  rcases d with⟨xs,j,d⟩|⟨xs,j,d⟩|⟨f,j,d⟩
  ·subst d;obtain⟨C,r,B,F⟩:=I.list j;have g:=r.length;exact wpAny_truthy_list B.isList (by dsimp[aQ];lia) ⟨H,I.tok _,by rw[oA r];exact q⟩
  ·subst d;obtain⟨C,r,B,F⟩:=I.tuple j;have g:=r.length;exact truthy_tuple B (by dsimp[aQ];lia) ⟨H,I.tok _,by rw[oA r];exact q⟩
  ·subst d;obtain⟨F,G,z,r,m⟩:f.length<=sizeLine/\(p == sysModules)=false/\∃z,KV f z/\s.heap.DictOf (qp X.prog X.w) p z:=I.hok p _ j;have g:f.length=z.length:=Paired.length r;exact wpAny_truthy_dict G m () ⟨H,I.tok _,by rw[tF r];exact q⟩
 | _=>exact(show False from e).elim
def zR(ha:PE X a ta)(he:∀whole,isTrue a X.env whole=(do let v <- whole;standAt a.pos;holding [v] (truthy v))) :
  PT X a (λσ H Q=>ta σ H λx H'=>∃k,EZ X.K x H' k/\Q k H'):=by
 kt_k;exact isTrue_plain (gC (ha pins s σ H _ I h) λv g ⟨x,H1,f,r1,d⟩=>EU pins g σ H1 x v Q f r1 d)<|he _
def t9:jt X (binaryOp .Add) (λx y H Q=>∃i j,x=.str i/\y=.str j/\i.length+j.length<=sizeLine/\Q (.str<|i++j) H):=by
 x_go;obtain⟨i,j,rfl,rfl,d,q⟩:=h;kcj_m;obtain⟨f,rfl⟩:=ry;exact add_str (λf g=>⟨.str<|i++j,H,I.tok _,⟨_,rfl⟩,q⟩) d
def vals1{x:V}(r:Vals [x] us):∃u,us=[u]/\RelV x u:=by
 cases r with
 | cons r1 r2=>cases r2;exact⟨_,rfl,r1⟩
def vals2{x:V}(r:Vals [x,y] us):∃u w',us=[u,w']/\RelV x u/\RelV y w':=by
 cases r with
 | cons r1 r2=>
  cases r2 with
  | cons f d=>cases d;exact⟨_,_,rfl,r1,f⟩
def Aa:fU X (.builtin "abs") (λxs H Q=>∃i,xs=[.int i]/\Q (.int<|if i<0 then -i else i) H):=by
 k_ne;obtain⟨i,rfl,q⟩:=h;obtain⟨u,rfl,t,rfl⟩:=vals1 r;exact call_abs_int λu d=>⟨.int<|if i<0 then -i else i,H,I.tok _,⟨_,rfl⟩,q⟩
def wX(hc:X.calm=true):fU X (.builtin "max") (λxs H Q=>∃i j,xs=[.int i,.int j]/\Q (.int<|if j>i then j else i) H):=by
 k_ne;obtain⟨i,j,rfl,q⟩:=h;obtain⟨u,f,rfl,⟨t,rfl⟩,⟨m,rfl⟩⟩:=vals2 r;refine max_two_ints (I.ok.hd hc) λh' g k=>⟨_,H,I.kept k,?_,q⟩;by_cases d:j>i
 ·rw[aR d,aR d];exact⟨_,rfl⟩
 ·rw[aT d,aT d];exact⟨_,rfl⟩
def xm(hc:X.calm=true):fU X (.builtin "min") (λxs H Q=>∃i j,xs=[.int i,.int j]/\Q (.int<|if j<i then j else i) H):=by
 k_ne;obtain⟨i,j,rfl,q⟩:=h;obtain⟨u,f,rfl,⟨t,rfl⟩,⟨m,rfl⟩⟩:=vals2 r;refine min_two_ints (I.ok.hd hc) λh' g k=>⟨_,H,I.kept k,?_,q⟩;by_cases d:j<i
 ·rw[aR d,aR d];exact⟨_,rfl⟩
 ·rw[aT d,aT d];exact⟨_,rfl⟩
abbrev HL (K:aA)(x:V)(H:Hp)(n:Nat):Prop:=
 match x with
 | .str y=>y.length<=sizeLine/\n=y.length
 | .byt y=>y.size<=sizeLine/\n=y.size
 | .ref p=>(∃xs,i_ K H p xs/\n=xs.length)\/∃xs,iT K H p xs/\n=xs.length
 | _=>False
def yr:fU X (.builtin "len") (λxs H Q=>∃x n,xs=[x]/\HL X.K x H n/\Q (.int n) H):=by
 k_ne;obtain⟨x,n,rfl,e,q⟩:=h;kpc_g;have B:=k8;have hs:sizeLine=16777216:=bW
 cases x with
 | str y=>
  kcj_m;obtain⟨hy,f⟩:y.length<=sizeLine/\n=y.length:=e;subst f;exact len_str () ⟨.int _,H,I.tok _,⟨_,rfl⟩,q⟩
 | byt y=>
  kcj_m;obtain⟨hy,f⟩:y.size<=sizeLine/\n=y.size:=e;subst f;exact PySem.W.len_bytes () ⟨.int _,H,I.tok _,⟨_,rfl⟩,q⟩
 | ref p=>
  cases rx
  have f:(∃xs,i_ X.K H p xs/\n=xs.length)\/∃xs,iT X.K H p xs/\n=xs.length:=e
  rcases f with⟨xs,g,f⟩|⟨xs,g,f⟩
  ·subst f;obtain⟨m,k,j,z⟩:=I.list g;have d:=k.length;exact Calls.call_len_list j.isList (by dsimp[aQ];lia) ⟨.int xs.length,H,I.tok _,⟨_,by dsimp[aQ];rw[d]⟩,q⟩
  ·subst f;obtain⟨m,k,j,z⟩:=I.tuple g;have d:=k.length;exact len_tuple j (by dsimp[aQ];lia) ⟨.int xs.length,H,I.tok _,⟨_,by dsimp[aQ];rw[d]⟩,q⟩
 | _=>exact(show False from e).elim
end
structure ObjM (h:au)(x dx C:ak)(mA:Str->aw):Prop where
 obj:h.get? x=some (PySem.W.instObj C dx)
 ns:h.Ns1 dx mA
 ne:dx≠x
structure Cls (K:aA)(C:ak):Prop where
 pg:PySem.W.plainGet K C Str.empty=true
 hd:PySem.W.hasDictIn K C=true
 po:PySem.W.plainOver K C=true
 sa:PySem.W.findIn K (.ref C) "__setattr__" = some (some<|.builtin "object.__setattr__")
structure Con (K:aA)(C:ak)(f:Str)(v:V)(u:aa):Prop where
 at_:PySem.W.findIn K (.ref C) f=some (some u)
 rel:RelV v u
 get:PySem.W.specialIn K u "__get__" = some none
 cp:PySem.W.copiedNames.contains f=false
structure Meth (K:aA)(C:ak)(m:Str)(f:ak):Prop where
 at_:PySem.W.findIn K (.ref C) m=some (some<|.ref f)
 fn:PySem.W.isFn K (.ref f)=true
 kp:PySem.W.keepIn K (.ref f)=true
section
variable {H:Hp}
inductive TyOf (K:aA) (H:Hp):V->aa->Prop where
 | non:TyOf K H .non (.type "NoneType")
 | bl (x:Bool):TyOf K H (.bl x) (.type "bool")
 | int (i:Int):TyOf K H (.int i) (.type "int")
 | str (x:Str):TyOf K H (.str x) (.type "str")
 | flt (x:UInt64):TyOf K H (.flt x) (.type "float")
 | lst {a:ak} {xs:List V} (e:H a=some (.lst xs)):TyOf K H (.ref a) (.type "list")
 | frz {a:ak} {o:Obj} {xs:List V} (e:H a=some (.frz o<|.lst xs)):TyOf K H (.ref a) (.type "list")
 | tup {a:ak} {xs:List V} (e:H a=some (.tup xs)):TyOf K H (.ref a) (.type "tuple")
 | dK {a:ak} {kvs:List<|Key×V} (e:H a=some (.dK kvs)):TyOf K H (.ref a) (.type "dict")
 | dT {a:ak} {kvs:List<|List Key×V} (e:H a=some (.dT kvs)):TyOf K H (.ref a) (.type "dict")
 | ins {a C dx:ak} {fs:List<|Str×V} (e:H a=some (.ins C dx fs)) (cl:Cls K C) (ha:PySem.W.findIn K (.ref C) "__class__" = some (some<|.builtin "object.__class__"))
   (hn:PySem.W.specialIn K (.builtin "object.__class__") "__get__" = some (some<|.builtin "getset_descriptor.__get__")) (htk:PySem.W.takesIn K (.builtin "object.__class__")=some true)
   (hm:PySem.W.mroIn K C (.type "object")=some true):TyOf K H (.ref a)<|.ref C
end
structure Room (k:Nat)(A:aC):Prop where
 hd:A.handled=none
 dp:A.depth+3 * k+5<recursionLimit
 un:A.units+16 * k+200<cLine
def Room.mono{k:Nat}{A:aC}(r:Room k A)(h:j<=k):Room j A:=⟨r.hd,by have:=r.dp;lia,by have:=r.un;lia⟩
def Room.deeper{k:Nat}{A:aC}(r:Room (k+1) A)(env:Env):Room k (A.deeper env):=
 ⟨r.hd,by have:=r.dp;show A.depth+1+3 * k+5<_;lia,by have:=r.un;show A.units+3+16 * k+200<_;lia⟩
def Room.depth{k:Nat}{A:aC}(r:Room k A):A.depth<recursionLimit:=by have:=r.dp;lia
def Room.units{k:Nat}{A:aC}(r:Room k A):A.units+64<cLine:=by have:=r.un;lia
abbrev Ig:TA:=λ_ H Q=>Q [] H
abbrev G0 (ta:TE)(tr:TA):TA:=λσ H Q=>ta σ H λx H1=>tr σ H1 λxs H2=>Q (x::xs) H2
section
variable {X:Cx}{e:aF}{es:List aF}{te:TE}{t:TA}{pos:Pos}
def tB:PA X [] Ig:=λ_ _ _ _ H Q I h=>Calls.spliced_nil ⟨[],H,I,.nil,h⟩
def nS(ha:PE X e te)(hr:PA X es t)(hs:starEach (e::es) X.env=(false,eval e X.env)::starEach es X.env:=by rfl):PA X (e::es) (G0 te t):=by
 intro pos pins s σ H Q I h;rw[hs]
 skip
 refine Calls.spliced_cons<|gC (ha pins s σ H _ I h) λu g ⟨x,H1,f,r1,d⟩=>?_;exact gC (hr pos pins g σ H1 _ f d) λus m ⟨xs,H2,j,r2,k⟩=>⟨x::xs,H2,j,.cons r1 r2,k⟩
abbrev Jf (t:TA):TE:=λσ H Q=>t σ H λxs H1=>xs.length<=sizeLine/\∀p,H1 p=none->Q (.ref p) (upd H1 p<|.tup xs)
abbrev IT (t:TA):TE:=λσ H Q=>t σ H λxs H1=>xs.length<=sizeLine/\∀p,H1 p=none->Q (.ref p) (upd H1 p<|.lst xs)
def DW{x1}(h:PA X es t):PE X (.Tuple es x1 pos) (Jf t):=by
 intro pins s σ H Q I g;refine wpAny_Tuple_spliced (gC (h pos pins s σ H _ I g) λus d ⟨xs,H1,f,r,z,q⟩=>⟨by rw[<- r.length];exact z,?_⟩);have hf:H1 d.heap.objs.size=none:=f.hok.fresh<|aK _;refine⟨.ref d.heap.objs.size,upd H1 d.heap.objs.size<|.tup xs,f.laid (t':=d.toks) (λb u e=>aS _ e) (aK _) ?_,rfl,q _ hf⟩;exact⟨z,us,r,⟨_,bA _ rfl,rfl,rfl,_,rfl⟩⟩
def FI(h:PA X es t):PE X (.List es pos) (IT t):=by
 intro pins s σ H Q I g;refine wpAny_List_spliced (gC (h pos pins s σ H _ I g) λus d ⟨xs,H1,f,r,z,q⟩=>⟨by rw[<- r.length];exact z,?_⟩);have hf:H1 d.heap.objs.size=none:=f.hok.fresh<|aK _;refine⟨.ref d.heap.objs.size,upd H1 d.heap.objs.size<|.lst xs,f.laid (t':=d.toks) (λb u e=>aS _ e) (aK _) ?_,rfl,q _ hf⟩;exact⟨z,us,0,r,bA _ rfl⟩
end
meta abbrev Sp:=List V->Hp->VK->XK->Prop
meta abbrev Bs:=List Env->Hp->aE->XK->aa->aE->Prop
structure Env0 (P:aj)(w:af)(K:aA)(mg:Str->aw)(base:au)(A:aC)(outer:List Env)(s:aE)(H:Hp):Prop where
 frames:A.frames=some outer
 mod:Mod K mg base
 bs:∀b o,base.get? b=some o->s.heap.get? b=some o/\H b=none
 bsz:base.objs.size<=s.heap.objs.size
 pB:s.heap.FunFrames base outer
 frf:∀b∈frs outer,H b=none
 hok:n_ P w H s.heap
 bare:AllBare s.gens
abbrev CE (outer:List Env)(P:aj)(w:af)(H:Hp)(s:aE)(Q:VK)(u:aa)(s':aE):Prop:=
 ∃v H',s'.os=s.os/\AllBare s'.gens/\Un (frs outer) [] H H' s.heap s'.heap/\n_ P w H' s'.heap/\RelV v u/\Q v H'
abbrev CR (CX:Bs)(outer:List Env)(P:aj)(w:af)(H:Hp)(s:aE)(Q:VK)(E:XK)(r:Result)(s':aE):Prop:=
 match r with
 | .ok (.ret u)=>CE outer P w H s Q u s'
 | .ok _=>False
 | .error e=>CX outer H s E e s'
structure FnOk (P:aj)(w:af)(K:aA)(mg:Str->aw)(base:au)(CX:Bs)(k:Nat)(f:ak)(fd:FuncData)(ps:am)(sp:Sp):Prop where
 len:∀vs H Q E,sp vs H Q E->vs.length=ps.length
 run:∀(A:aC) (outer:List Env) (s:aE) (H:Hp) (args:Args) (us:ap) (vs:List V) (Q:VK) (E:XK),Room k A->Env0 P w K mg base A outer s H->BindsTo s fd args (ps.zip us)->Vals vs us->sp vs H Q E ->
  codeAny (model P w) A (.call (.ref f) args) (CR CX outer P w H s Q E) s
section
variable {X:Cx}{pins:bo}{σ:St}{H:Hp}{s s':aE}
def Inv.Jh(I:Inv X pins σ H s):Env0 X.prog X.w X.K X.mg X.base X.A X.stack s H:=
 ⟨I.ok.frames,I.ok.mod,I.bs,bN I.ok.bsz I.sz,I.stack,I.wu,I.hok,I.bare⟩
def Inv.after{Q:VK}(I:Inv X pins σ H s)(h:CE X.stack X.prog X.w H s Q u s'):EP X pins σ Q u s':=by
 obtain⟨v,H',os,f,un,j,r,q⟩:=h;obtain⟨m,g,d,t,k⟩:=s';obtain rfl:k=s.os:=os;exact⟨v,H',I.call (h':=m) (g':=g) (d':=d) (t':=t) (ch:=[]) un j f λb z=>absurd z<|by simp,r,q⟩
end
abbrev CS (sp:Sp)(dvs:List V)(E:XK)(t:TA):TE:=λσ H Q=>t σ H λd H1=>sp (d++dvs) H1 Q E
abbrev Binds (K:aA)(fd:FuncData)(ps:am)(ds:ap):Prop:=
 ∀(s:aE) (us:ap),K.In s.heap->(us++ds).length=ps.length->BindsTo s fd ⟨us,[]⟩ (ps.zip<|us++ds)
def Binds.all{K:aA}{ps:am}(h:∀us:ap,us.length=ps.length->bindArgs fd ⟨us,[]⟩=pure (ps.zip us)):Binds K fd ps []:=λs us _ d=>by
 rw[cL]at d ⊢;exact .of_eq<|h us d
abbrev Passes (CX:Bs)(X:Cx)(E:XK):Prop:=∀(pins:bo) (σ:St) (H:Hp) (s:aE) (e:aa) (s':aE),Inv X pins σ H s->CX X.stack H s E e s'->X.xe e s'
section
variable {X:Cx}{CX:Bs}{k:Nat}{f C:ak}{fd:FuncData}{ps:am}{sp:Sp}{dvs:List V}{ds:ap}{E:XK}{x:Str}{p pos:Pos}{e:aF}{es:List aF}{t:TA}
def D6{H:Hp}{Q:VK}(F:FnOk X.prog X.w X.K X.mg X.base CX k f fd ps sp)(hr:Room k X.A)(hb:Binds X.K fd ps ds)(hd:Vals dvs ds)(hx:Passes CX X E)
  (I:Inv X pins σ H s) (r:Vals vs us) (h:sp (vs++dvs) H Q E):wpAny (model X.prog X.w) X.A (call (.ref f) us) (EP X pins σ Q) X.xe s:=by
 have r2:Vals (vs++dvs) (us++ds):=r.append hd;have j:(us++ds).length=ps.length:=by rw[<- r2.length];exact F.len _ _ _ _ h
 refine wpAny_call (ee (F.run X.A X.stack s H ⟨us,[]⟩ (us++ds) (vs++dvs) Q E hr I.Jh (hb s us I.FG j) r2 h) λr s' d=>?_)
 cases r with
 | error e=>exact hx pins σ H s e s' I d
 | ok g=>
  cases g with
  | ret u=>exact I.after d
  | next=>exact False.elim d
  | brk=>exact False.elim d
  | cont=>exact False.elim d
def CF(F:FnOk X.prog X.w X.K X.mg X.base CX k f fd ps sp)(hr:Room k X.A)(hg:Gl X x)(hm:X.mg x=some (.ref f))(hk:PySem.W.keepIn X.K (.ref f)=true)(hb:Binds X.K fd ps ds)(hd:Vals dvs ds)(hx:Passes CX X E)
  (ha:PA X (e::es) t) (hdb:(x == ("__debug__" : Str))=false:=by decide) (he:starEach (e::es) X.env=(false,eval e X.env)::starEach es X.env:=by rfl) (hpl:(backTo pos<|starEach es X.env).any (·.1)=false:=by rfl) :
  PE X (.Call (.Name x p) (e::es) [] pos) (CS sp dvs E t):=by
 kt_k;refine er<|B4 I hg hm ?_ hdb;refine PySem.W.callWith_K (h₀:=X.base) I.ok.mod.kin hk (gC (ha pos pins s σ H _ I h) λus d ⟨g,H1,I1,r,q⟩=>⟨I1.FG,?_⟩) he hpl;exact D6 F hr hb hd hx I1 r q
structure Mk (K:aA)(C f:ak):Prop where
 makes:PySem.W.makesIn K C=true
 init:PySem.W.findIn K (.ref C) "__init__" = some (some<|.ref f)
 fn:PySem.W.isFn K (.ref f)=true
 kp:PySem.W.keepIn K (.ref C)=true
end
section
variable {fd:FuncData}{ps ks:am}
structure KBinds (K:aA)(fd:FuncData)(ps ks:am)(g:ap->ap->ap)(gV:List V->List V->List V):Prop where
 to:∀(s:aE) (us ws:ap),K.In s.heap->(g us ws).length=ps.length->BindsTo s fd ⟨us,ks.zip ws⟩ (ps.zip<|g us ws)
 rel:∀{vs:List V} {us:ap} {zs:List V} {ws:ap},Vals vs us->Vals zs ws->Vals (gV vs zs) (g us ws)
end
structure FnScope (N P:am)(sc:Scope):Prop where
 kind:sc.kind=.function
 co:sc.isCoroutine=false
 gen:sc.isGenerator=false
 nd:N.Nodup
 pre:N.take P.length=P
 par:∀x∈P,sc.names.lookup x=some .local\/sc.names.lookup x=some .cell
 nofree:∀y∈sc.names,y.2≠.free
theorem pT{kindOf:Str->Option NameKind}{x:Str}:∀{binds:List<|Str×aa}{m:Str->aw},(∀v,(x,v)∉binds)->bindL kindOf binds m x=m x
 | [],_,_=>rfl
 | (n,v)::r,m,h=>by
  unfold bindL;rw[pT λw hw=>h w<|aU _ hw];split
  ·have:x≠n:=by rintro rfl;exact h v a_
   simp[this]
  ·rfl
theorem p9{kindOf:Str->Option NameKind}{x:Str}:∀{binds:List<|Str×aa}{m:Str->aw},(∀v,(x,v)∉binds)->bindC kindOf binds m x=m x
 | [],_,_=>rfl
 | (n,v)::r,m,h=>by
  unfold bindC;rw[p9 λw hw=>h w<|aU _ hw];split
  ·rfl
  ·have:x≠n:=by rintro rfl;exact h v a_
   simp[this]
theorem pQ{kindOf:Str->Option NameKind}{x:Str}{v:aa}:∀{P:am}{vs:ap}{i:Nat}{m:Str->aw},P.Nodup->P[i]?=some x->vs[i]?=some v->kindOf x=some .local ->
  bindL kindOf (P.zip vs) m x=some v
 | [],_,_,_,_,h,_,_=>by simp at h
 | _::_,[],_,_,_,_,h,_=>by simp at h
 | p::P,w::vs,0,m,nd,h1,h2,hk=>by
  simp at h1 h2;subst h1;subst h2;show bindL kindOf ((p,w)::P.zip vs) m p=_;unfold bindL;rw[pT λv hv=>(cu.mp nd).1 (eU hv).1,aR hk];simp
 | p::P,w::vs,i+1,m,nd,h1,h2,hk=>by
  skip
  unfold bindL;exact pQ (i:=i) (cu.mp nd).2 (by simpa using h1) (by simpa using h2) hk
theorem p7{kindOf:Str->Option NameKind}{x:Str}{v:aa}:∀{P:am}{vs:ap}{i:Nat}{m:Str->aw},P.Nodup->P[i]?=some x->vs[i]?=some v->kindOf x≠some .local ->
  bindC kindOf (P.zip vs) m x=some v
 | [],_,_,_,_,h,_,_=>by simp at h
 | _::_,[],_,_,_,_,h,_=>by simp at h
 | p::P,w::vs,0,m,nd,h1,h2,hk=>by
  simp at h1 h2;subst h1;subst h2;show bindC kindOf ((p,w)::P.zip vs) m p=_;unfold bindC;rw[p9 λv hv=>(cu.mp nd).1 (eU hv).1,aT hk];simp
 | p::P,w::vs,i+1,m,nd,h1,h2,hk=>by
  skip
  unfold bindC;exact p7 (i:=i) (cu.mp nd).2 (by simpa using h1) (by simpa using h2) hk
abbrev start (N:am)(vs:List V):St:=vs.map some++List.replicate (N.length-vs.length) none
abbrev sQ (CX:Bs)(P:aj)(w:af)(K:aA)(mg:Str->aw)(base:au)(N:am)(qual:Str)(scope:Scope)(f:ak)(cd:aa)(A:aC)(outer:List Env)(s:aE)(H:Hp)(E:XK):Cx where
 prog:=P
 w:=w
 K:=K
 mg:=mg
 base:=base
 A:=A.deeper (envOfC qual scope s.heap.objs.size f cd)
 N:=N
 s₀:=s
 H₀:=H
 env:=envOfC qual scope s.heap.objs.size f cd
 outer:=outer
 stack:=envOfC qual scope s.heap.objs.size f cd::outer
 ex:=[]
 calm:=true
 fn:=λ_=>true
 pn:=[]
 xe:=λe s'=>wpAny (model P w) (A.deeper<|envOfC qual scope s.heap.objs.size f cd) (leaving (envOfC qual scope s.heap.objs.size f cd) e) (λ_ d=>CX outer H s E e d) (λg d=>CX outer H s E g d) s'
def qX{sc:Scope}{n:Nat}{x:Str}(h:sc.names.lookup x=some .cell):∃c,(cellsFrom n sc.names []).lookup x=some c:=by
 have q:=cK sc.names n []<|.inl h;exact cC.mp q
def wU{CX:Bs}{P:aj}{w:af}{K:aA}{mg:Str->aw}{base:au}{N ps:am}{scope:Scope}{f:ak}{A:aC}{outer:List Env}{s:aE}{H:Hp}{E:XK}{vs:List V}
  (S:FnScope N ps scope) (hd:A.handled=none) (e0:Env0 P w K mg base A outer s H) (hl:vs.length=ps.length) (r:Vals vs us)
  (x:InCallC s s.heap.objs.size (bindL (envOfC qual scope s.heap.objs.size f cd).kindOf (ps.zip us) λ_=>none) (cellsFrom (s.heap.objs.size+1) scope.names []) (bindC (envOfC qual scope s.heap.objs.size f cd).kindOf (ps.zip us) λ_=>none) s1) :
  Inv (sQ CX P w K mg base N qual scope f cd A outer s H E) [] (start N vs) H s1:=by
 have J:ps.length<=N.length:=by have:=cY List.length S.pre;rw[bB]at this;lia
 obtain⟨h1,M,rfl,C⟩:=x.done;have g:∀b:ak,b∉(sQ CX P w K mg base N qual scope f cd A outer s H E).ex:=λb z=>absurd (show b∈([]:ar)from z) (by simp);refine⟨⟨e0.mod,S.kind,rfl,rfl,aK _,λy z c h1 d=>?_,λy hy=>?_,λy c _ h=>?_,λ_=>hd,Around.frames_deeper e0.frames,.inr ⟨rfl,rfl⟩,λb z=>absurd z<|g b,e0.bs,e0.bsz,λb _ _=>g b,λb z=>absurd z<|g b,e0.pB,e0.frf⟩,
  rfl,e0.bare,Un.kept C,⟨_,x.toInCall.ns,λi y v h1 d L=>?_⟩,λy c h=>⟨_,x.cell y c h⟩,e0.hok.fresh<|aK _,λy c h=>?_,λp j=>absurd (show p∈([]:bo)from j)<|by simp,e0.hok.kept C,?_⟩
 ·exact name_of_addr x.apart (bL h1) (bL d)
 ·have hy:scope.names.lookup y=some .cell\/scope.names.lookup y=some .free:=hy
  rcases hy with hy|hy
  ·exact qX hy
  ·exact absurd rfl<|S.nofree _<|bL hy
 ·exact cJ (x.above y c<|bL h)
 ·have hi:i<vs.length:=by
   unfold start at d;by_cases hi:i<vs.length
   ·exact hi
   ·rw[aY<|by simpa using hi]at d;rw[dh]at d;split at d<;>cases d
  have F:vs[i]?=some v:=by
   unfold start at d;rw[aV<|by simpa using hi,br]at d
   cases e:vs[i]? with
   | none=>rw[e]at d;cases d
   | some a=>rw[e]at d;cases d;rfl
  obtain⟨u,B,G⟩:=r.get F;have j:ps[i]?=some y:=by
   rw[<- S.pre,bT ()];exact h1
  have m:ps.Nodup:=by rw[<- S.pre];exact S.nd.sublist (List.take_sublist _ _)
  refine⟨u,G,?_⟩
  rcases S.par y (bH j)with k|k
  ·exact .inl ⟨k,pQ m j B k⟩
  ·obtain⟨c,e⟩:=qX (n:=s.heap.objs.size+1) k;refine .inr ⟨.inl k,c,e,?_⟩;have q:=x.cell y c e;rw[p7 m j B<|by show scope.names.lookup y≠_;rw[k];decide]at q;exact q
 ·exact e0.hok.fresh (cJ<|x.above y c<|bL h)
 ·unfold start;show _=N.length;rw[bg,aP,List.length_replicate]
  lia
def G5{CX:Bs}{P:aj}{w:af}{K:aA}{mg:Str->aw}{base:au}{k:Nat}{f:ak}{kV ct:aa}
  {osl:Array<|aw} {N ps:am} {sp:Sp} (lk:K.lookup f=some ⟨oc,od,.func<|PySem.W.fnOf name qual params body scope dV kV doc pm an cdv ct,osl⟩) (hcd:PySem.W.codeIn K cdv qual=true) (S:FnScope N ps scope)
  (len:∀vs H Q E,sp vs H Q E->vs.length=ps.length)
  (hbody:∀(A:aC) (outer:List Env) (s:aE) (H:Hp) (vs:List V) (Q:VK) (E:XK),Room k (A.deeper<|envOfC qual scope s.heap.objs.size f cdv)->sp vs H Q E ->
   ∃t,qL (sQ CX P w K mg base N qual scope f cdv A outer s H E) body t/\t { nx:=λ_ H'=>Q .non H',rt:=Q } (start N vs) H) :
  FnOk P w K mg base CX (k+1) f (PySem.W.fnOf name qual params body scope dV kV doc pm an cdv ct) ps sp:=by
 refine⟨len,λA outer s H G us vs Q E z e0 T r m=>?_⟩;have Y:=len _ _ _ _ m;have C:K.In s.heap:=e0.mod.kin.keeps λb o e=>(e0.bs b o e).1;have B:s.heap.NoLimit:=e0.mod.nolimit.keeps λb o e=>(e0.bs b o e).1;have g:∀y∈ps.zip us,scope.names.lookup y.1=some .local\/(scope.names.lookup y.1=some .cell/\((cellsFrom (s.heap.objs.size+1) scope.names []).lookup y.1).isSome=true):=λ⟨n,v⟩ hy=>by
  rcases S.par n (eU hy).1 with q|q
  ·exact .inl q
  ·exact .inr ⟨q,cK _ _ _<|.inl q⟩
 refine codeAny_call_function z.depth (C _ _ lk) rfl S.co S.gen rfl (PySem.W.codeRec_of C hcd)<|T _ _ _ _ ?_;refine wpAny_newFunctionEnv_cells S.kind g λenv L F x=>?_;subst L;refine⟨B.keeps x.toInCall.keep,codeAny_func ?_⟩;obtain⟨t,U,M⟩:=hbody A outer s H vs Q E (z.deeper _) m;have I:Inv (sQ CX P w K mg base N qual scope f cdv A outer s H E) [] (start N vs) H F:=wU S z.hd e0 Y r x;refine c_ (U [] F (start N vs) H _ I M) (λO s' hs=>?_) λe s' hs=>hs;have j:∀{d:St} {H':Hp} {v:V} {u:aa},Inv (sQ CX P w K mg base N qual scope f cdv A outer s H E) [] d H' s'->RelV v u->Q v H'->CE outer P w H s Q u s':=
  λ{d H' v u} J p q=>⟨v,H',J.os,J.bare,J.base,J.hok,p,q⟩
 cases O with
 | ret u=>
  obtain⟨v,d,H',J,p,q⟩:=hs;exact j J p q
 | next=>
  obtain⟨d,H',J,q⟩:=hs;exact j (v:=V.non) (u:=Value.none) J rfl q
 | brk=>
  obtain⟨_,_,_,q⟩:=hs;exact False.elim q
 | cont=>
  obtain⟨_,_,_,q⟩:=hs;exact False.elim q
section
variable {X:Cx}{x:Str}{p pos:Pos}{e:aF}{es:List aF}{t:TA}{id T:String}{r:List V->Hp->VK->Prop}
abbrev Im (r:List V->Hp->VK->Prop)(t:TA):TE:=λσ H Q=>t σ H λd H1=>r d H1 Q
def zL(hc:fU X (.builtin id) r)(hg:Gl X x)(hm:X.mg x=none)(hv:bootBuiltins x=some (.builtin id))(ha:PA X (e::es) t)(hn:x ≠ "__name__" := by decide)(hdb:(x == ("__debug__" : Str))=false:=by decide)
  (he:starEach (e::es) X.env=(false,eval e X.env)::starEach es X.env:=by rfl) (hpl:(backTo pos<|starEach es X.env).any (·.1)=false:=by rfl):PE X (.Call (.Name x p) (e::es) [] pos) (Im r t):=by
 kt_k;refine er<|qy I hg hm hv ?_ hn hdb;exact PyProof.Rows.callWith_builtin1 (gC (ha pos pins s σ H _ I h) λus g ⟨j,H1,f,r1,d⟩=>hc pins g σ H1 j us Q f r1 d) he hpl
def wW(hc:fU X (.type T) r)(hg:Gl X x)(hm:X.mg x=none)(hv:bootBuiltins x=some (.type T))(ha:PA X (e::es) t)(hn:x ≠ "__name__" := by decide)(hdb:(x == ("__debug__" : Str))=false:=by decide)
  (he:starEach (e::es) X.env=(false,eval e X.env)::starEach es X.env:=by rfl) (hpl:(backTo pos<|starEach es X.env).any (·.1)=false:=by rfl):PE X (.Call (.Name x p) (e::es) [] pos) (Im r t):=by
 kt_k;refine er<|qy I hg hm hv ?_ hn hdb;exact cS (gC (ha pos pins s σ H _ I h) λus g ⟨j,H1,f,r1,d⟩=>hc pins g σ H1 j us Q f r1 d) he hpl
end
end L2
namespace HT
open PySem PyProof.Rows
section
variable {prog:aj}{w:af}{A:aC}{E:aa->aE->Prop}{s:aE}
def CC{vs ws:ap}{Q:aa->aE->Prop}(ht:IsTup s.heap t vs.toArray)(hb:IsTup s.heap b ws.toArray)(hv:vs≠[])
  (h1:ws=[]->Q (.ref t) s) (h2:ws≠[]->Q (.ref s.heap.objs.size) { s with heap:=s.heap.push { cls:=.type "tuple",data:=.seq (vs++ws).toArray }})
  (hsz:vs.length+ws.length<=sizeLine):wpAny (model prog w) A (binaryOp .Add (.ref t)<|.ref b) Q E s:=by
 obtain⟨⟨cls,F,data,B⟩,m,hc,n,q⟩:=id ht;obtain⟨⟨C,j,p,g⟩,d,f,z,k⟩:=id hb;simp only at hc q f k;subst hc q f k;have e:vs.toArray++ws.toArray=(vs++ws).toArray:=by simp
 by_cases hw:ws=[]
 ·exact concat_meets ⟨_,m,rfl⟩ ⟨_,d,rfl⟩ noFill_tuple_add seq_tuple_add dz di (c5 _ _)
   (tuple_addW1 t b vs.toArray ws.toArray n z F j B g (by simpa using hv)<|by simp[hw]) ⟨m,d,h1 hw⟩
 ·refine concat_meets ⟨_,m,rfl⟩ ⟨_,d,rfl⟩ noFill_tuple_add seq_tuple_add dz di (c5 _ _)
   (tuple_addW2 t b vs.toArray ws.toArray n z F j B g (by simpa using hv) (by simpa using hw)<|by rw[aQ,aQ];exact hsz) ⟨m,d,?_⟩
  rw[e];exact h2 hw
abbrev g6 (n d:Nat):ba->Nat
 | none=>d
 | some v=>if v<0 then(v+(n:Int)).toNat else min v.toNat n
theorem rf(n d:Nat):g6 n d none=d:=rfl
def nR(n d k:Nat):g6 n d (some (k:Int))=min k n:=by
 show(if (k:Int)<0 then((k:Int)+(n:Int)).toNat else min (k:Int).toNat n)=min k n;rw[aT (),dB]
def EM(n d:Nat)(hd:d<=n)(o:ba):g6 n d o<=n:=by
 cases o with
 | none=>exact hd
 | some v=>
  show(if v<0 then(v+(n:Int)).toNat else min v.toNat n)<=n;by_cases hv:v<0
  ·rw[aR hv];lia
  ·rw[aT hv];exact Nat.min_le_right _ _
def vN(v:Int)(n d:Nat):(if v<0 then max (v+(n:Int)) 0 else min v (n:Int))=((g6 n d (some v):Nat):Int):=by
 show(if v<0 then max (v+(n:Int)) 0 else min v (n:Int))=(((if v<0 then(v+(n:Int)).toNat else min v.toNat n):Nat):Int);by_cases hv:v<0
 ·dsimp[aR hv];lia
 ·dsimp[aT hv];lia
def ue(lo hi:ba)(n:Nat):Builtin.Slice.sliceAdjust lo hi 1 (n:Int)=(((g6 n 0 lo:Nat):Int),((g6 n n hi:Nat):Int)):=by
 have h1:¬((1:Int)<0):=()
 unfold Builtin.Slice.sliceAdjust;dsimp[h1,bu];refine Prod.ext ?_ ?_
 ·cases lo with
  | none=>rfl
  | some v=>exact vN v n 0
 ·cases hi with
  | none=>rfl
  | some v=>exact vN v n n
def tP(i j:Nat):Builtin.Slice.slicePlaces (i:Int) (j:Int) 1=j-i:=by
 unfold Builtin.Slice.slicePlaces;have h1:(1:Int)>0:=()
 dsimp[h1,bC,Int.ediv_one];split<;>lia
def n8{v:aa}{Q:ba->aE->Prop}(p:IsPart v o)(h:Q o s):wpAny (model prog w) A (Builtin.Slice.slicePartIndex v) Q E s:=by
 cases p with
 | none=>exact slicePart_none h
 | int i t=>exact slicePart_int h
def mZ{lo:ba}{n:Nat}{Q:Int×Int×Nat->aE->Prop}(hs:s.heap.IsSliceOf sl vl vu .none)(pl:IsPart vl lo)(pu:IsPart vu hi)
  (h:Q (((g6 n 0 lo:Nat):Int),1,g6 n n hi-g6 n 0 lo) s):wpAny (model prog w) A (Builtin.Slice.sliceApplied (.ref sl)<|pure (n:Int)) Q E s:=by
 obtain⟨j,d,g,f⟩:=id hs;unfold Builtin.Slice.sliceApplied Builtin.Slice.sliceFields;refine aO<|aO<|wpAny_field d f (x:=vl) rfl<|aO<|wpAny_field d f (x:=vu) rfl<|aO<|wpAny_field d f (x:=.none) rfl<|aZ ?_;refine aO (slicePart_none ?_)
 skip
 rw[aT ⋯];refine aO<|n8 pl<|aO<|n8 pu<|aO<|aZ ?_;show wpAny _ _ (match Builtin.Slice.sliceAdjust lo hi 1 (n:Int)with|(lo,hi)=>pure (lo,(1:Int),Builtin.Slice.slicePlaces lo hi 1)) _ _ s;rw[ue lo hi n];show wpAny _ _ (pure (((g6 n 0 lo:Nat):Int),(1:Int),Builtin.Slice.slicePlaces ((g6 n 0 lo:Nat):Int) ((g6 n n hi:Nat):Int) 1)) _ _ s;rw[tP];exact aZ h
def xY(xs:Array aa)(i k:Nat):((List.range k).filterMap λ(m:Nat)=>xs[((i:Int)+(m:Int) * 1).toNat]?).toArray=((xs.toList.drop i).take k).toArray:=by
 have e:(λ(m:Nat)=>xs[((i:Int)+(m:Int) * 1).toNat]?)=λm=>xs[i+m]?:=by
  funext m
  have:((i:Int)+(m:Int) * 1).toNat=i+m:=()
  rw[this]
 rw[e];have:=pick_run xs i k;rw[List.filterMap_map]at this;have e2:((λx=>xs[x]?) ∘ λx=>i+x)=λm=>xs[i+m]?:=rfl;rw[e2]at this;rw[this]
def mU{items:Array aa}{lo:ba}{Q:aa->aE->Prop}(ht:IsTup s.heap t items)(hs:s.heap.IsSliceOf sl vl vu .none)(pl:IsPart vl lo)(pu:IsPart vu hi)
  (hw:¬(g6 items.size 0 lo=0/\g6 items.size items.size hi=items.size))
  (h:Q (.ref s.heap.objs.size) { s with heap:=s.heap.push { cls:=.type "tuple",data:=.seq ((items.toList.drop<|g6 items.size 0 lo).take<|g6 items.size items.size hi-g6 items.size 0 lo).toArray }})
  (hsz:items.size<=sizeLine):wpAny (model prog w) A (getItem (.ref t)<|.ref sl) Q E s:=by
 have d:sizeOk (.seq ((items.toList.drop<|g6 items.size 0 lo).take<|g6 items.size items.size hi-g6 items.size 0 lo).toArray):=by
  show((items.toList.drop<|g6 items.size 0 lo).take<|g6 items.size items.size hi-g6 items.size 0 lo).toArray.size<=sizeLine;rw[aQ,bB,cV,bR];omega
 have F:g6 items.size items.size hi<=items.size:=EM _ _ (aK _) hi;obtain⟨z,f,k,p⟩:=id hs;have j:s.TypeIs (.ref sl) "slice" := ⟨z,f,k⟩;unfold getItem
 try with_reducible refine cZ ?_
 first|refine aO (aZ ?_)|skip
 refine aO<|wpAny_sequenceKey ht.typeIs ⋯ ?_;refine aO (wpAny_callSpecial?_slot (name:=Str.ofString "__getitem__") ht.typeIs cD
  (wpAny_call_entry cD ht.typeIs entry_tuple_getitem ?_<|args_tuple_getitem _ _))
 show wpAny _ _ (Builtin.Tuple.tupleItemsOf (.ref t) >>= _) _ _ s;refine aO<|tupleItemsOf_ ht ?_;refine aO<|wpAny_typeOf j ?_;rw[aR ⋯];refine aO<|mZ hs pl pu ?_;have g:¬((((g6 items.size 0 lo:Nat):Int) == 0 && (1:Int) == 1 && (g6 items.size items.size hi-g6 items.size 0 lo) == items.size)=true):=by
  intro q;rw[cF,cF]at q;have B:((g6 items.size 0 lo:Nat):Int)=0:=eq_of_beq q.1.1;have C:g6 items.size items.size hi-g6 items.size 0 lo=items.size:=eq_of_beq q.2;exact hw ⟨by omega,by omega⟩
 show wpAny _ _ (if (((g6 items.size 0 lo:Nat):Int) == 0 && (1:Int) == 1 && (g6 items.size items.size hi-g6 items.size 0 lo) == items.size)=true then _ else _) _ _ s;rw[aT g,xY]
 first
  | exact aO (m:=Builtin.Tuple.tupleExact _) (bZ (aZ ⟨_,rfl,aZ h⟩) d)
  | exact aO (m:=Builtin.Tuple.tupleExact _) (bZ (aO<|aZ<|aZ ⟨_,rfl,aZ h⟩) d)
  | exact aO (aO (m:=Builtin.Tuple.tupleExact _)<|bZ (aZ<|aZ ⟨_,rfl,aZ h⟩) d)
  | exact aO<|aO (m:=Builtin.Tuple.tupleExact _)<|bZ (aZ ⟨_,rfl,aZ h⟩) d
end
end HT
namespace L2
open PySem PySem.Spec PyProof.Rows
meta abbrev TO:=St->Hp->(ba->Hp->Prop)->Prop
abbrev PO (X:Cx)(e:Option aF)(t:TO):Prop:=
 ∀(pins:bo) (s:aE) (σ:St) (H:Hp) (Q:ba->Hp->Prop),Inv X pins σ H s->t σ H Q ->
  wpAny (model X.prog X.w) X.A (evalPart e X.env) (λu s'=>∃o H',Inv X pins σ H' s'/\IsPart u o/\Q o H') X.xe s
abbrev CL:TO:=λ_ H Q=>Q none H
abbrev Hx (t:TE):TO:=λσ H Q=>t σ H λx H1=>∃i,x=.int i/\Q (some i) H1
def intsAre_of{ns:ae}:∀{us:ap},Vals (ns.map V.int) us->IntsAre us ns:=by
 induction ns with
 | nil=>intro us r;rw[map_nil]at r;cases r;exact .nil
 | cons n ns d=>
  intro us r;rw[cQ]at r
  cases r with
  | cons r1 r2=>
   obtain⟨t,e⟩:=r1;subst e;exact .cons n t<|d r2
section
variable {X:Cx}{e:aF}{te:TE}{lo hi:Option aF}{tl th:TO}{pos p2:Pos}
def Bt:PO X none CL:=by
 kt_k;rw[evalPart_none];exact aZ ⟨none,H,I,.none,h⟩
def BK(h:PE X e te):PO X (some e) (Hx te):=by
 intro pins s σ H Q I hw;rw[evalPart_some];refine gC (h pins s σ H _ I hw) λu g ⟨x,H1,f,r1,d⟩=>?_;obtain⟨i,rfl,q⟩:=d;obtain⟨t,rfl⟩:=r1;exact⟨some i,H1,f,.int i t,q⟩
abbrev HJ (X:Cx)(r:V->ba->ba->Hp->VK->Prop):Prop:=
 ∀(pins:bo) (s:aE) (σ:St) (H:Hp) (x:V) (v f g:aa) (lo hi:ba) (d:ak) (Q:VK),Inv X pins σ H s->RelV x v->s.heap.IsSliceOf d f g .none->IsPart f lo->IsPart g hi->r x lo hi H Q ->
  ∃T id,typeLookup (.type T) "__getitem__" = pure (some<|.builtin id)/\s.TypeIs v T/\wpAny (model X.prog X.w) X.A (getItem v<|.ref d) (EP X pins σ Q) X.xe s
abbrev J0 (r:V->ba->ba->Hp->VK->Prop)(te:TE)(tl th:TO):TE:=λσ H Q=>te σ H λx H1=>tl σ H1 λl H2=>th σ H2 λu d=>r x l u d Q
def A9{r:V->ba->ba->Hp->VK->Prop}(hr:HJ X r)(he:PE X e te)(hl:PO X lo tl)(hu:PO X hi th):PE X (.Subscript e (.Slice lo hi none p2) pos) (J0 r te tl th):=by
 kt_k;refine Subscript_<|gC (he pins s σ H _ I h) λv F ⟨x,H1,C,r1,p⟩=>?_;refine wpAny_Slice<|gC (hl pins F σ H1 _ C p) λg K ⟨l,H2,G,B,J⟩=>gC (hu pins K σ H2 _ G J) λf d ⟨u,j,z,k,L⟩=>?_;rw[evalPart_none];refine aZ ?_;have m:Inv X pins σ j { d with heap:=d.heap.push { cls:=.type "slice",data:=.fields #[g,f,.none]}}:=z.kept (t':=d.toks) λb M q=>aS _ q;obtain⟨T,id,hT,ht,hg⟩:=hr pins { d with heap:=d.heap.push { cls:=.type "slice",data:=.fields #[g,f,.none]}} σ j x v g f l u d.heap.objs.size Q m r1 (Heap.IsSliceOf.new ..) B k L
 skip
 exact tail_any (ops:=[.ref d.heap.objs.size,v]) ht hT hg<|by with_unfolding_all rfl
abbrev rm (xs:List V)(lo hi:ba):List V:=(xs.drop<|HT.g6 xs.length 0 lo).take<|HT.g6 xs.length xs.length hi-HT.g6 xs.length 0 lo
def nF(xs:List V)(lo hi:ba):(rm xs lo hi).length<=xs.length:=by
 unfold rm;rw[bB,cV]
 lia
abbrev Iq (K:aA):V->ba->ba->Hp->VK->Prop:=λx lo hi H Q=>∃a xs,x=.ref a/\iT K H a xs /\
 ¬(HT.g6 xs.length 0 lo=0/\HT.g6 xs.length xs.length hi=xs.length)/\∀p,H p=none->Q (.ref p) (upd H p<|.tup<|rm xs lo hi)
def EO:HJ X (Iq X.K):=by
 intro pins s σ H x v F z lo hi C Q I rx hs p k h;obtain⟨a,xs,rfl,m,hw,q⟩:=h
 cases rx
 obtain⟨f,r,g,j⟩:=I.tuple m;have d:f.toArray.size=xs.length:=by rw[aQ];exact r.length.symm
 refine⟨"tuple",_,cD.lookup,g.typeIs,?_⟩;refine HT.mU g hs p k (by rw[d];exact hw) ?_ (by rw[d];exact j);rw[d];refine⟨.ref s.heap.objs.size,_,I.laid (t':=s.toks) (o:=.tup<|rm xs lo hi) (λb B q=>aS _ q) (aK _) ?_,rfl,q _<|I.hok.fresh<|aK _⟩;exact⟨bN (nF xs lo hi) j,_,(r.drop<|HT.g6 xs.length 0 lo).take<|HT.g6 xs.length xs.length hi-HT.g6 xs.length 0 lo,iW.new _ _⟩
abbrev Gp (K:aA):R2:=λx y H Q=>∃a b xs ys,x=.ref a/\y=.ref b/\iT K H a xs/\iT K H b ys/\xs≠[]/\xs.length+ys.length<=sizeLine /\
 (ys=[]->Q (.ref a) H)/\(ys≠[]->∀p,H p=none->Q (.ref p) (upd H p<|.tup<|xs++ys))
def Vals.ql(r:Vals xs us):us=[] ↔ xs=[]:=by
 cases r with
 | nil=>simp
 | cons _ _=>simp
def Cd:jt X (binaryOp .Add) (Gp X.K):=by
 x_go;obtain⟨a,b,xs,ys,rfl,rfl,g,p,j,f,k,m⟩:=h
 cases rx
 cases ry
 obtain⟨B,r1,p1,_⟩:=I.tuple g;obtain⟨d,r2,p2,_⟩:=I.tuple p;refine HT.CC p1 p2 (λz=>j<|r1.ql.mp z) (λz=>⟨.ref a,H,I,rfl,k<|r2.ql.mp z⟩) (λz=>?_) (by rw[<- r1.length,<- r2.length];exact f);refine⟨.ref s.heap.objs.size,_,I.laid (t':=s.toks) (o:=.tup<|xs++ys) (λb C q=>aS _ q) (aK _) ?_,rfl,m (λw=>z<|r2.ql.mpr w) _<|I.hok.fresh<|aK _⟩;exact⟨by rw[bg];exact f,_,r1.append r2,iW.new _ _⟩
end
abbrev sC (n:Nat)(i:Int):bj:=if 0<=i then(if i<n then some i.toNat else none)else if -(n:Int)<=i then some (i+n).toNat else none
abbrev j7 {α:Type}(xs:List α)(i:Int):Option α:=(sC xs.length i).bind λj=>xs[j]?
def vt{n:Nat}{i:Int}(h:sC n i=some j):seqIndex? i n=some j/\j<n/\-(n:Int)<=i/\i<n:=by
 unfold sC at h;by_cases h0:0<=i
 ·rw[aR h0]at h;by_cases h1:i<n
  ·rw[aR h1]at h;have e:i.toNat=j:=aL h;exact⟨by rw[seqIndex_of h0 h1,e],(),(),h1⟩
  ·rw[aT h1]at h;cases h
 ·rw[aT h0]at h;by_cases h1:-(n:Int)<=i
  ·rw[aR h1]at h;have e:(i+n).toNat=j:=aL h;exact⟨by rw[seqIndex_neg () h1,e],(),h1,()⟩
  ·rw[aT h1]at h;cases h
def qM{α:Type}{xs:List α}{i:Int}{v:α}(h:j7 xs i=some v):∃j,seqIndex? i xs.length=some j/\xs[j]?=some v/\j<xs.length/\-(xs.length:Int)<=i/\i<xs.length:=by
 unfold j7 at h
 cases e:sC xs.length i with
 | none=>rw[e]at h;cases h
 | some j=>
  rw[e]at h;obtain⟨h1,g,f,d⟩:=vt e;exact⟨j,h1,h,g,f,d⟩
def Cu{α:Type}{xs:List α}{j:Nat}{v:α}(h:xs[j]?=some v):j7 xs (j:Int)=some v:=by
 have d:j<xs.length:=(aI.mp h).1;have e:sC xs.length (j:Int)=some j:=by
  unfold sC;rw[aR (),aR ()];simp
 unfold j7;rw[e];exact h
abbrev v8 (b:aF):Prop:=∀o i,subscripted b false o i=operate [o,i] (getItem o i)
abbrev Gw (X:Cx)(r:R2):Prop:=
 ∀(f d:aF) (pins:bo) (s:aE) (σ:St) (H:Hp) (x y:V) (v u:aa) (Q:VK),Inv X pins σ H s->RelV x v->RelV y u->r x y H Q ->
  subscripted d false v u=operate [v,u] (getItem v u)->wpAny (model X.prog X.w) X.A (subscriptTail f d v u) (EP X pins σ Q) X.xe s
abbrev F2 (X:Cx)(id:String)(r:V->List V->Hp->VK->Prop):Prop:=
 ∀(pins:bo) (s:aE) (σ:St) (H:Hp) (x:V) (xs:List V) (v:aa) (us:ap) (Q:VK),Inv X pins σ H s->RelV x v->Vals xs us->r x xs H Q ->
  wpAny (model X.prog X.w) X.A (call (.builtin id) (v::us)) (EP X pins σ Q) X.xe s
section
variable {X:Cx}{a b:aF}{ta tb:TE}{pos:Pos}
def GO{r:R2}(hr:Gw X r)(ha:PE X a ta)(hb:PE X b tb)(hs:v8 b):PE X (.Subscript a b pos) (G6 r ta tb):=by
 kt_k;exact Subscript_<|FH ha hb I h λv u f x y H2 d rx ry q=>hr a b pins f σ H2 x y v u Q d rx ry q<|hs _ _
abbrev IP (K:aA):R2:=λx y H Q=>∃p xs i v,x=.ref p/\y=.int i/\i_ K H p xs/\j7 xs i=some v/\Q v H
abbrev HY (K:aA):R2:=λx y H Q=>∃p xs i v,x=.ref p/\y=.int i/\iT K H p xs/\j7 xs i=some v/\Q v H
abbrev IW:R2:=λx y H Q=>∃z i c,x=.str z/\y=.int i/\z.length<=sizeLine/\j7 z.cps.toList i=some c/\Q (.str ⟨#[c]⟩) H
def vZ:Gw X (IP X.K):=by
 intro m B pins s σ H x y v u Q I rx ry h hs;obtain⟨p,xs,i,z,rfl,rfl,N,M,q⟩:=h
 cases rx
 obtain⟨t,rfl⟩:=ry;obtain⟨k,r,g,T⟩:=I.list N;obtain⟨j,h1,L,P,G,J⟩:=qM M;obtain⟨w,F,f⟩:=r.get L;have O:=r.length;have hn:=k8;have d:EP X pins σ Q w s:=⟨z,H,I,f,q⟩;by_cases h0:0<=i
 ·have C:i.toNat=j:=by
   rw[seqIndex_of h0 J]at h1;exact aL h1
  exact item_listR g.isList h0 () (by rw[C];simpa using F) d hs
 ·have C:(i+(k.toArray.size:Int)).toNat=j:=by
   rw[seqIndex_neg () G]at h1;rw[aQ,<- O];exact aL h1
  exact subscriptTail_builtinR (x:=w) g.isList.typeIs slot_list_getitem.lookup
   (wpAny_getItem_list_neg (Q:=λr s'=>r=w/\EP X pins σ Q r s') g.isList () (by rw[aQ]<;>lia) () (by rw[C];simpa using F) ⟨rfl,d⟩) hs
def EI:Gw X (HY X.K):=by
 intro g k pins s σ H x y v u Q I rx ry h hs;obtain⟨p,xs,i,z,rfl,rfl,F,C,q⟩:=h
 cases rx
 obtain⟨t,rfl⟩:=ry;obtain⟨G,r,m,P⟩:=I.tuple F;obtain⟨j,h1,B,O,M,N⟩:=qM C;obtain⟨w,J,d⟩:=r.get B;have L:=r.length;have hn:=k8;have f:EP X pins σ Q w s:=⟨z,H,I,d,q⟩;exact subscriptTail_builtinR (x:=w) m.typeIs slot_tuple_getitem.lookup
  (getItem_tuple (j:=j) (Q:=λr s'=>r=w/\EP X pins σ Q r s') m () () (by rw[aQ,<- L];exact h1) (by simpa using J) ⟨rfl,f⟩) hs
def Ep:Gw X IW:=by
 intro d f pins s σ H x y v u Q I rx ry h hs;obtain⟨z,i,c,rfl,rfl,F,B,q⟩:=h;kcj_m;obtain⟨G,rfl⟩:=ry;obtain⟨j,h1,p,C,g,k⟩:=qM B;have m:z.cps.toList.length=z.length:=by simp[Str.length]
 rw[m]at h1 g k;have hn:=k8;exact tail_any (typeIs_str s z t) slot_str_getitem.lookup (getItem_str (c:=c) (by
  have e1:decide (i < -(2 ^ 63:Int))=false:=bz ();have e2:decide (i>=2 ^ 63)=false:=bz ();rw[e1,e2,Bool.or_false]) (by rw[h1];simpa using p) ⟨.str ⟨#[c]⟩,H,I.tok _,⟨_,rfl⟩,q⟩) hs
def s_(its:ap)(n j:Nat)(u:aa):Obj.mapSeq (·.setIfInBounds j u) { cls:=.type "list",data:=.seq its.toArray n }={ cls:=.type "list",data:=.seq (its.set j u).toArray n }:=by
 simp[Obj.mapSeq]
def Inv.lst{H:Hp}{s:aE}{p:ak}{xs:List V}(I:Inv X pins σ H s)(h:H p=some (.lst xs)) :
  ∃(its:ap) (n:Nat),Vals xs its/\s.heap.get? p=some { cls:=.type "list",data:=.seq its.toArray n }/\xs.length<=sizeLine:=by
 obtain⟨z,its,n,r,e⟩:=I.hok p _ h;exact⟨its,n,r,e,z⟩
def Inv.FP{H:Hp}{s:aE}{p:ak}{ys:List V}{its its':ap}{n:Nat}{f:Obj->Obj}(I:Inv X pins σ H s)(h:H p=some (.lst xs))
  (ho:s.heap.get? p=some { cls:=.type "list",data:=.seq its.toArray n }) (hf:f { cls:=.type "list",data:=.seq its.toArray n }={ cls:=.type "list",data:=.seq its'.toArray n' }) (r:Vals ys its') (hz:ys.length<=sizeLine) (t:Nat) :
  Inv X pins σ (upd H p<|.lst ys) { s with heap:=s.heap.update p f,toks:=t }:=by
 have e:(s.heap.update p f).get? p=some { cls:=.type "list",data:=.seq its'.toArray n' }:=by
  rw[Heap.get?_update_self f ho<|by rw[hf]<;>rfl,hf]
 refine I.write (x:=p) (e:=p) (by rw[h];trivial) (.inl rfl) (λb u d q=>(Heap.get?_update_other _ _<|dw d).trans q) ⟨_,e⟩ ?_;exact⟨hz,its',n',r,e⟩
abbrev Gb:V->V->V->Hp->(Hp->Prop)->Prop:=λo i v H Q=>∃p xs k j,o=.ref p/\i=.int k/\H p=some (.lst xs)/\sC xs.length k=some j/\Q (upd H p<|.lst<|xs.set j v)
def set_list:Co X Gb:=by
 intro pins s σ H o i v P O u Q I J K G h;obtain⟨p,xs,k,j,rfl,rfl,F,M,q⟩:=h
 cases J
 obtain⟨t,rfl⟩:=K;obtain⟨d,n,r,g,L⟩:=I.lst F;obtain⟨h1,N,B,z⟩:=vt M;have m:=r.length;have hn:=k8;have C:Inv X pins σ (upd H p<|.lst<|xs.set j v) { s with heap:=s.heap.update p<|Obj.mapSeq (·.setIfInBounds j u)}:=
  I.FP F g (s_ d n j u) (r.set G j) (by rw[bG];exact L) s.toks
 by_cases h0:0<=k
 ·have f:k.toNat=j:=by
   rw[seqIndex_of h0 z]at h1;exact aL h1
  exact PySem.W.ki_setAt g h0 () (by rw[aQ,<- m];exact z)<|by rw[f];exact⟨_,C,q⟩
 ·have f:(k+(d.toArray.size:Int)).toNat=j:=by
   rw[seqIndex_neg () B]at h1;rw[aQ,<- m];exact aL h1
  exact PySem.W.ki_setBack g () (by rw[aQ,<- m];exact B) ()<|by rw[f];exact⟨_,C,q⟩
def qD(lo hi:ba)(n:Nat):(sliceBounds lo hi none n).1=((HT.g6 n 0 lo:Nat):Int)/\(sliceBounds lo hi none n).2.1=((HT.g6 n n hi:Nat):Int)/\(sliceBounds lo hi none n).2.2=1:=by
 refine⟨?_,?_,rfl⟩
 ·cases lo with
  | none=>simp[sliceBounds,HT.g6]
  | some i=>
   dsimp[sliceBounds,HT.g6,getD_none,show(1:Int)>0 by decide,bC];by_cases h:i<0
   ·dsimp[h,bC]<;>lia
   ·dsimp[h,bu]<;>lia
 ·cases hi with
  | none=>simp[sliceBounds,HT.g6]
  | some i=>
   dsimp[sliceBounds,HT.g6,getD_none,show(1:Int)>0 by decide,bC];by_cases h:i<0
   ·dsimp[h,bC]<;>lia
   ·dsimp[h,bu]<;>lia
def pG(its:ap)(lo hi:ba):slicePick its.toArray lo hi none=((its.drop<|HT.g6 its.length 0 lo).take<|HT.g6 its.length its.length hi-HT.g6 its.length 0 lo).toArray:=by
 obtain⟨h1,f,d⟩:=qD lo hi its.toArray.size;unfold slicePick;rw[h1,f,d];dsimp[sliceRange_one,pick_run,aQ]<;>rfl
abbrev HX (K:aA):V->ba->ba->Hp->VK->Prop:=λx lo hi H Q=>∃a xs,x=.ref a/\i_ K H a xs/\∀p,H p=none->Q (.ref p) (upd H p<|.lst<|rm xs lo hi)
def vI:HJ X (HX X.K):=by
 intro pins s σ H x v F z lo hi C Q I rx hs k g h;obtain⟨a,xs,rfl,j,q⟩:=h
 cases rx
 obtain⟨m,r,f,p⟩:=I.list j;have d:=r.length;refine⟨"list",_,slot_list_getitem.lookup,f.isList.typeIs,?_⟩;refine wpAny_getItem_list_slice f.isList hs k g .none (by simp) ?_ (by rw[aQ]<;>lia);rw[pG,<- d];refine⟨.ref s.heap.objs.size,_,I.laid (t':=s.toks) (o:=.lst<|rm xs lo hi) (λb B q=>aS _ q) (aK _) ?_,rfl,q _<|I.hok.fresh<|aK _⟩;exact⟨bN (nF xs lo hi) p,_,0,(r.drop<|HT.g6 xs.length 0 lo).take<|HT.g6 xs.length xs.length hi-HT.g6 xs.length 0 lo,bA _ rfl⟩
abbrev kB:V->Bool
 | .non=>true
 | .bl _=>true
 | .int _=>true
 | .str _=>true
 | _=>false
abbrev tY:V->V->Bool
 | .non,.non=>true
 | .bl a,.bl b=>a == b
 | .bl a,.int b=>(if a then 1 else 0) == b
 | .int a,.bl b=>a == (if b then 1 else 0)
 | .int a,.int b=>a == b
 | .str a,.str b=>a == b
 | _,_=>false
def FN{A:aC}{x:V}{v:aa}(ry:RelV y u)(rx:RelV x v)(fy:kB y=true)(fx:kB x=true):SeqAt.EqAt A s u v (tY y x):=by
 cases y with
 | non=>
  cases ry
  cases x with
  | non=>cases rx;exact SeqAt.EqAt.same _
  | bl b=>cases rx;exact SeqAt.EqAt.none_bool b
  | int b=>obtain⟨t,rfl⟩:=rx;exact SeqAt.EqAt.none_int b t
  | str b=>obtain⟨t,rfl⟩:=rx;exact SeqAt.EqAt.none_str b t
  | _=>exact absurd (show false=true from fx) bf
 | bl a=>
  cases ry
  cases x with
  | non=>cases rx;exact SeqAt.EqAt.bool_none a
  | bl b=>cases rx;exact SeqAt.EqAt.bool_bool a b
  | int b=>obtain⟨t,rfl⟩:=rx;exact SeqAt.EqAt.bool_int a b t
  | str b=>obtain⟨t,rfl⟩:=rx;exact SeqAt.EqAt.bool_str a b t
  | _=>exact absurd (show false=true from fx) bf
 | int a=>
  obtain⟨d,rfl⟩:=ry
  cases x with
  | non=>cases rx;exact SeqAt.EqAt.int_none a d
  | bl b=>cases rx;exact SeqAt.EqAt.int_bool a d b
  | int b=>obtain⟨t,rfl⟩:=rx;exact SeqAt.EqAt.int_int a d b t
  | str b=>obtain⟨t,rfl⟩:=rx;exact SeqAt.EqAt.int_str a d b t
  | _=>exact absurd (show false=true from fx) bf
 | str a=>
  obtain⟨d,rfl⟩:=ry
  cases x with
  | non=>cases rx;exact SeqAt.EqAt.str_none a d
  | bl b=>cases rx;exact SeqAt.EqAt.str_bool a d b
  | int b=>obtain⟨t,rfl⟩:=rx;exact SeqAt.EqAt.str_int a d b t
  | str b=>obtain⟨t,rfl⟩:=rx;exact SeqAt.EqAt.str_str a d b t
  | _=>exact absurd (show false=true from fx) bf
 | _=>exact absurd (show false=true from fy) bf
abbrev F1 (x:V)(u:aa):Bool:=match u with
 | .none=>tY .non x
 | .bool b=>tY (.bl b) x
 | .int i _=>tY (.int i) x
 | .str z _=>tY (.str z) x
 | _=>false
def tV{x:V}(r:RelV y u)(f:kB y=true):F1 x u=tY y x:=by
 cases y with
 | non=>cases r;rfl
 | bl b=>cases r;rfl
 | int i=>obtain⟨t,rfl⟩:=r;rfl
 | str z=>obtain⟨t,rfl⟩:=r;rfl
 | _=>exact absurd (show false=true from f) bf
theorem pq{A:aC}{x:V}{v:aa}(rx:RelV x v)(fx:kB x=true):∀{xs:List V}{us:ap},Vals xs us->xs.all kB=true->∀u∈us,SeqAt.EqAt A s u v (F1 x u)
 | _,_,.nil,_=>λu d=>by cases d
 | y::xs,u::us,.cons r t,f=>λg d=>by
  rw[eN,cF]at f
  rcases bJ.mp d with rfl|d
  ·rw[tV r f.1];exact FN r rx f.1 fx
  ·exact pq rx fx t f.2 g d
abbrev JW (x:V)(xs:List V):Bool:=xs.any λy=>tY y x
def j9:fU X (.type "list") (λxs H Q=>∃p ys,xs=[.ref p]/\(i_ X.K H p ys\/iT X.K H p ys)/\∀l,H l=none->Q (.ref l) (upd H l<|.lst ys)):=by
 k_ne;obtain⟨p,ys,rfl,k,q⟩:=h;kpc_g
 cases rx
 have j:∀(d:ap),Vals ys d->ys.length<=sizeLine->∀(h':au) (f:Nat),(∀b o',s.heap.get? b=some o'->h'.get? b=some o') ->
   h'.get? s.heap.objs.size=some { cls:=.type "list",dict:=none,data:=.seq d.toArray f,slots:=#[]}->EP X pins σ Q (.ref s.heap.objs.size) { s with heap:=h' }:=λd g z h' f kp e=>
  ⟨.ref s.heap.objs.size,_,I.laid (t':=s.toks) kp (aK _)<|show ju X.prog X.w _ h' _ (.lst ys)from⟨z,d,f,g,e⟩,rfl,q _<|I.hok.fresh<|aK _⟩
 rcases k with k|k
 ·obtain⟨d,g,B,z⟩:=I.list k;have m:=g.length;obtain⟨o,C,hc,n,F⟩:=B.isList;exact call_list_seq p (.inl rfl) C hc F (λh' f kp e=>j d g z h' f kp e) (by dsimp[aQ]<;>lia)
 ·obtain⟨d,g,B,z⟩:=I.tuple k;have m:=g.length;obtain⟨o,C,hc,n,F⟩:=B;exact call_list_seq p (.inr rfl) C hc F (λh' f kp e=>j d g z h' f kp e)<|by dsimp[aQ]<;>lia
def jM:fU X (.type "tuple") (λxs H Q=>∃p ys,xs=[.ref p]/\((i_ X.K H p ys/\∀l,H l=none->Q (.ref l) (upd H l<|.tup ys))\/(iT X.K H p ys/\Q (.ref p) H))):=by
 k_ne;obtain⟨p,ys,rfl,h⟩:=h;kpc_g
 cases rx
 rcases h with⟨g,q⟩|⟨g,q⟩
 ·obtain⟨d,j,f,z⟩:=I.list g;have m:=j.length;refine call_tuple_list f.isList (λh' kp=>?_) (by dsimp[aQ]<;>lia);have k:Inv X pins σ H { s with heap:=h' }:=I.kept (t':=s.toks) kp;have B:Inv X pins σ (upd H h'.objs.size<|.tup ys) { s with heap:=h'.push { cls:=.type "tuple",data:=.seq d.toArray }}:=
   k.laid (t':=s.toks) (λb o e=>aS _ e) (aK _) (show ju X.prog X.w _ _ _ (.tup ys)from⟨z,d,j,iW.new _ _⟩)
  exact⟨.ref h'.objs.size,_,B,rfl,q _<|k.hok.fresh<|aK _⟩
 ·obtain⟨d,j,f,z⟩:=I.tuple g;exact call_tuple_same f ⟨.ref p,H,I,rfl,q⟩
abbrev HV (K:aA)(T:String)(x:V)(H:Hp):Prop:=match x with
 | .str _=>T = "str"
 | .int _=>T = "int"
 | .ref p=>(T = "list" /\ ∃xs,i_ K H p xs)\/(T = "tuple" /\ ∃o,K.lookup p=some o/\o.cls=.type "tuple" /\ o.dict=none) \/
   (T = "dict" /\ ((∃d,H p=some (.dK d))\/∃d,H p=some (.dT d)))\/(T = "set" /\ ∃S n,H p=some (.set S n))
 | _=>False
def EE{H:Hp}{s:aE}{x:V}{v:aa}(I:Inv X pins σ H s)(r:RelV x v)(ty:HV X.K T x H) :
  s.TypeIs v T/\∀a,v=.ref a->∃ob,s.heap.get? a=some ob/\ob.dict=none:=by
 cases x with
 | str z=>
  obtain⟨t,rfl⟩:=r
  cases(show T = "str" from ty)
  exact⟨typeIs_str s z t,nofun⟩
 | int i=>
  obtain⟨t,rfl⟩:=r
  cases(show T = "int" from ty)
  exact⟨typeIs_int s i t,nofun⟩
 | ref p=>
  cases r
  rcases ty with⟨rfl,xs,k⟩|⟨rfl,o,d,hc,g⟩|⟨rfl,d⟩|⟨rfl,S,n,d⟩
  ·obtain⟨m,_,j,_⟩:=I.list k;refine⟨j.isList.typeIs,λa e=>?_⟩
   cases e
   obtain⟨o,n,e,c,g,_⟩:=j;exact⟨o,e,g⟩
  ·refine⟨⟨o,I.FG p o d,hc⟩,λa e=>?_⟩
   cases e
   exact⟨o,I.FG _ o d,g⟩
  ·have z:∃o,s.heap.get? p=some o/\o.ExactDict:=by
    rcases d with⟨f,d⟩|⟨f,d⟩
    ·obtain⟨_,_,_,_,o,_,_,e,ex,_⟩:=I.hok p _ d;exact⟨o,e,ex⟩
    ·obtain⟨_,_,_,_,o,_,_,e,ex,_⟩:=I.hok p _ d;exact⟨o,e,ex⟩
   obtain⟨o,e,ex⟩:=z;refine⟨⟨o,e,ex.1⟩,λa e2=>?_⟩
   cases e2
   exact⟨o,e,ex.2.1⟩
  ·obtain⟨o,_,_,_,e,ex,_⟩:=I.hok p _ d;refine⟨⟨o,e,ex.1⟩,λa e2=>?_⟩
   cases e2
   exact⟨o,e,ex.2.1⟩
 | _=>exact False.elim ty
abbrev J3 (K:aA)(T:String)(r:V->List V->Hp->VK->Prop)(to:TE)(t:TA):TE:=λσ H Q=>to σ H λx H1=>HV K T x H1/\t σ H1 λxs H2=>r x xs H2 Q
variable {o e:aF}{es:List aF}{to:TE}{t:TA}{name:Str}{apos cpos:Pos}{T id:String}{r:V->List V->Hp->VK->Prop}
def GD(pa:PlainAttrs T)(slot:Slot T name id)(hty:typeOf (.builtin id)=pure (.type "method_descriptor"))(hm:F2 X id r)(ho:PE X o to)(ha:PA X (e::es) t)
  (hbase:attributeBase o name X.env (eval o X.env)=eval o X.env:=by rfl)
  (hfew:((backTo cpos<|starEach (e::es) X.env).all (λx=>!x.1) && (backToKw cpos<|keywordEach [] X.env).all (λx=>x.1.isSome)
   && decide ((e::es).length+([]:List Keyword).length+(if ([]:List Keyword).isEmpty then 0 else 1)<30))=true:=by rfl)
  (hline:(apos.endLine == cpos.line)=true:=by rfl) (hs:starEach (e::es) X.env=(false,eval e X.env)::starEach es X.env:=by rfl) (hplain:(backTo cpos<|starEach es X.env).any (·.1)=false:=by rfl) :
  PE X (.Call (.Attribute o name apos) (e::es) [] cpos) (J3 X.K T r to t):=by
 kt_k;refine wpAny_Call_method_late hbase hfew hline rfl<|gC (ho pins s σ H _ I h) λv p ⟨x,H1,d,r1,ty,g⟩=>?_;obtain⟨h1,q⟩:=EE d r1 ty;refine⟨T,id,pa,slot,hty,h1,q,?_⟩;have f:=ha cpos pins p σ H1 _ d g;rw[hs]at f ⊢;refine dD (by show(false || (backTo cpos<|starEach es X.env).any (·.1))=false;rw[hplain]<;>rfl)<|dW ?_;exact gC f λus k ⟨z,H2,j,r2,m⟩=>hm pins k σ H2 x z v us Q j r1 r2 m
end
abbrev JE (X:Cx)(id:String)(r:V->List V->Hp->VK->Prop):Prop:=
 ∀(pins:bo) (s:aE) (σ:St) (H:Hp) (x:V) (xs:List V) (v:aa) (us:ap) (Q:VK),Inv X pins σ H s->RelV x v->Vals xs us->r x xs H Q ->
  wpAny (model X.prog X.w) X.A (call (.builtin id) (v::us)) (EP X pins σ Q) X.xe s
def Vals.one:∀{x:V}{us:ap},Vals [x] us->∃u,us=[u]/\RelV x u
 | _,_,.cons r .nil=>⟨_,rfl,r⟩
theorem Vals.eraseIdx:∀{xs:List V}{us:ap}(i:Nat),Vals xs us->Vals (xs.eraseIdx i) (us.eraseIdx i)
 | _,_,_,.nil=>.nil
 | _,_,0,.cons _ t=>t
 | _,_,i+1,.cons r t=>.cons r<|Vals.eraseIdx i t
theorem Vals.rep(h:Vals xs us):∀k:Nat,Vals (List.replicate k xs).flatten (List.replicate k us).flatten
 | 0=>.nil
 | k+1=>by
  rw[bS,bS,b6,b6];exact Vals.append h<|Vals.rep h k
theorem pU{α:Type}:∀(l:List α) (i:Nat),(l.eraseIdx i).length<=l.length
 | [],_=>aK _
 | _::_,0=>Nat.le_succ _
 | _::r,i+1=>Nat.succ_le_succ<|pU r i
theorem foldl_rep(its:ap):∀(k:Nat) (acc:ap),
  List.foldl (λx1 x2=>x1++x2) acc.toArray (List.replicate k its.toArray)=(acc++(List.replicate k its).flatten).toArray
 | 0,acc=>by simp
 | k+1,acc=>by
  have e:acc.toArray++its.toArray=(acc++its).toArray:=by simp
  have e2:(acc++its)++(List.replicate k its).flatten=acc++(List.replicate (k+1) its).flatten:=by
   rw[bS,b6,bx]
  rw[<- e2,<- foldl_rep its k (acc++its),<- e,bS,List.foldl_cons]
section
variable {X:Cx}{pins:bo}{σ:St}{H:Hp}{s:aE}{l:ak}{xs ys:List V}
def Inv.Ga{its its':ap}{n:Nat}{f:Array aa->Array aa}{t':Nat}(I:Inv X pins σ H s)(hH:H l=some (.lst xs))
  (e:s.heap.get? l=some { cls:=.type "list",data:=.seq its.toArray n }) (hf:f its.toArray=its'.toArray) (hv:Vals ys its') (hz:ys.length<=sizeLine) :
  Inv X pins σ (upd H l<|.lst ys) { s with heap:=s.heap.update l<|Obj.mapSeq f,toks:=t' }:=by
 have q:=PySem.IsL.update e f;rw[hf]at q;refine I.write (x:=l) (e:=l) (by rw[hH];exact trivial) (.inl rfl) (λj u d g=>(Heap.get?_update_other s.heap (Obj.mapSeq f)<|dw d).trans g) ⟨_,q⟩ ?_;exact⟨hz,its',_,hv,q⟩
def Inv.B8{its:ap}{t':Nat}(I:Inv X pins σ H s)(hv:Vals ys its)(hz:ys.length<=sizeLine) :
  Inv X pins σ (upd H s.heap.objs.size<|.lst ys) { s with heap:=s.heap.push { cls:=.type "list",data:=.seq its.toArray },toks:=t' }:=
 I.laid (λ_ _ q=>aS _ q) (aK _) ⟨hz,its,0,hv,bA _ rfl⟩
def Inv.fresh(I:Inv X pins σ H s):H s.heap.objs.size=none:=I.hok.fresh<|aK _
def Inv.A0(I:Inv X pins σ H s)(hH:H l=some (.lst xs)):xs.length<=sizeLine/\∃(its:ap) (n:Nat),Vals xs its/\xs.length=its.length/\s.heap.get? l=some { cls:=.type "list",data:=.seq its.toArray n }:=by
 obtain⟨z,its,n,r,e⟩:=I.hok l _ hH;exact⟨z,its,n,r,r.length,e⟩
def A3{n:Nat}(h:n<=sizeLine):Builtin.List.listTooLong n=false:=by
 unfold Builtin.List.listTooLong;exact bz ()
end
section
variable {X:Cx}
abbrev CK:V->List V->Hp->VK->Prop:=λx d H Q=>∃l xs y,x=.ref l/\d=[y]/\H l=some (.lst xs)/\xs.length<sizeLine/\Q .non (upd H l<|.lst<|xs++[y])
def m7:JE X "list.append" CK:=by
 intro pins s σ H x m v us Q I rx g h;obtain⟨l,xs,y,rfl,rfl,f,k,q⟩:=h
 cases rx
 obtain⟨u,rfl,j⟩:=g.one;obtain⟨z,d,n,r,p,e⟩:=I.A0 f;refine ez F.slot_list_append ⟨_,e,rfl⟩ F.entry_list_append (F.args_list_append_2 _ _) (PySem.list_append l d.toArray n u<|by rw[aQ];lia) ⟨e,?_⟩;refine⟨.non,_,I.Ga (its':=d++[u]) f e (by simp) (r.append<|.cons j .nil) ?_,rfl,q⟩;rw[bg,List.length_singleton]
 lia
abbrev Ed:V->List V->Hp->VK->Prop:=λx d H Q=>∃l xs i k y,x=.ref l/\d=[.int i]/\H l=some (.lst xs)/\-(2 ^ 63)<=i/\i<2 ^ 63/\seqIndex? i xs.length=some k/\xs[k]?=some y/\Q y (upd H l<|.lst<|xs.eraseIdx k)
def A8:JE X "list.pop" Ed:=by
 intro pins s σ H x G v us Q I rx j h;obtain⟨l,xs,i,k,y,rfl,rfl,g,h1,m,B,hy,q⟩:=h
 cases rx
 obtain⟨u,rfl,p⟩:=j.one;obtain⟨t,rfl⟩:=p;obtain⟨z,d,n,r,C,e⟩:=I.A0 g;obtain⟨w,hw,f⟩:=r.get hy;refine ez F.slot_list_pop ⟨_,e,rfl⟩ F.entry_list_pop (F.args_list_pop_2 _ _)
  (MeetsSeq.list_pop_at l d.toArray n i t k w (fitsIndex_both h1 m) (by rw[aQ,<- C];exact B) (by rw[<- Array.getElem?_toList];exact hw)<|by rw[aQ];lia) ⟨e,?_⟩
 refine⟨y,_,I.Ga (its':=d.eraseIdx k) g e ?_ (r.eraseIdx k) ?_,f,q⟩
 ·skip
  rw[List.eraseIdxIfInBounds_toArray]
 ·have:=pU xs k
  lia
abbrev Ik:R2:=λx y H Q=>∃l b xs zs,x=.ref l/\y=.ref b/\H l=some (.lst xs)/\H b=some (.lst zs)/\xs.length+zs.length<=sizeLine/\∀p,H p=none->Q (.ref p) (upd H p<|.lst<|xs++zs)
def E3:jt X (binaryOp .Add) Ik:=by
 x_go;obtain⟨l,b,xs,zs,rfl,rfl,m,g,C,q⟩:=h
 cases rx
 cases ry
 obtain⟨z,f,n,r,F,e⟩:=I.A0 m;obtain⟨B,d,p,r2,k,e2⟩:=I.A0 g;refine PySem.P.add_list e e2 ?_ (by rw[aQ,aQ];lia);have j:f.toArray++d.toArray=(f++d).toArray:=by simp
 rw[j];exact⟨.ref _,_,I.B8 (t':=s.toks) (r.append r2)<|by rw[bg];lia,rfl,q _ I.fresh⟩
abbrev HR:R2:=λx y H Q=>∃l k xs,x=.ref l/\y=.int k/\H l=some (.lst xs)/\-(2 ^ 63)<=k/\k<2 ^ 63/\xs.length * k.toNat<=sizeLine /\
 ∀p,H p=none->Q (.ref p) (upd H p<|.lst (List.replicate k.toNat xs).flatten)
def len_rep{α:Type}(xs:List α)(k:Nat):(List.replicate k xs).flatten.length=k * xs.length:=by
 induction k with
 | zero=>simp
 | succ k d=>rw[bS,b6,bg,d,Nat.succ_mul,Nat.add_comm]
def Et:jt X (binaryOp .Mult) HR:=by
 x_go;obtain⟨l,k,xs,rfl,rfl,L,h1,K,J,q⟩:=h
 cases rx
 obtain⟨t,rfl⟩:=ry;obtain⟨z,d,n,r,M,e⟩:=I.A0 L;have p:d.toArray.size * k.toNat<=sizeLine:=by rw[aQ,<- M];exact J
 have B:¬d.toArray.size * k.toNat>(2 ^ 63-1) / 8:=by
  have:(sizeLine:Nat)<=(2 ^ 63-1) / 8:=by decide
  omega
 have j:¬(!Builtin.List.listFitsIndex k)=true:=by
  rw[fitsIndex_both h1 K];exact bf
 have f:¬Builtin.List.listTooLong (d.toArray.size * k.toNat)=true:=by
  rw[A3 p];exact bf
 have g:List.foldl (λC G=>C++G) #[] (List.replicate (if d.toArray.isEmpty=true then 0 else k.toNat) d.toArray)=(List.replicate k.toNat d).flatten.toArray:=by
  have f0:∀m:Nat,List.foldl (λC G=>C++G) #[] (List.replicate m d.toArray)=(List.replicate m d).flatten.toArray:=λm=>by
   have:=foldl_rep d m [];rw[List.nil_append]at this;exact this
  rw[f0]
  cases d with
  | nil=>simp
  | cons a N=>rw[aT<|by simp]
 refine wpAny_binaryOp_repeat_ref (T := "list") (U := "int") ⋯ ⟨_,e,rfl⟩ (λs'=>typeIs_int s' k t) noFill_list_mul F.fills_int_mul F.slot_int_rmul repeat_list F.slot_int_index.lookup
  (ez F.slot_int_rmul (typeIs_int s k t) F.entry_int_rmul (F.args_int_rmul_2 _ _) (int___rmul___int_list k t l d.toArray n)
   ⟨e,rfl,⟨_,e,rfl⟩,ez F.slot_list_mul ⟨_,e,rfl⟩ F.entry_list_mul (F.args_list_mul_2 _ _) (AutoListH.list___mul___list_int_3 l d.toArray n k t j B f) ⟨e,?_⟩⟩)
 rw[g];exact⟨.ref _,_,I.B8 (t':=s.toks) (r.rep k.toNat)<|by rw[len_rep,Nat.mul_comm];exact J,rfl,q _ I.fresh⟩
end
end L2
namespace Att
open PySem PySem.W PySem.Calls PyProof.Rows
def nM{P:Params}:∀(ns:ae) (vs:ap),WellAll P h vs (ns.map WData.int)->IntsAre vs ns:=by
 intro ns
 induction ns with
 | nil=>
  intro vs w;rw[map_nil]at w
  cases w
  exact .nil
 | cons n ns d=>
  intro vs w;rw[cQ]at w
  cases w with
  | cons a b=>
   cases a
   exact .cons _ _<|d _ b
def wZ{l:OpenLaw}{n:Nat}(hn:l.most=some n){P:Params}{h:au}
  (hpre:l.row.toRowW.claim.pre args=true) (hwl:WellAll P h vals args) :
  ∃a vs ns,vals=[Value.ref a]/\args=[WData.list<|ns.map WData.int]/\h.get? a=some { cls:=.type "list",data:=.seq vs.toArray }/\IntsAre vs ns/\ns.length<=n:=by
 have m:WShape.hasAll [] args [.list .int]=true:=(pre_splitW hpre).1;have hc:l.pre.holds [] { args:=args }=true:=(pre_splitW hpre).2;obtain⟨d,r,rfl,h1,C⟩:=hasAllW_cons m;obtain rfl:=hasAllW_nil C;obtain⟨xs,rfl,z⟩:=hasW_list h1;obtain⟨ns,rfl⟩:=items_int z;have g:ns.length<=n:=by
  unfold OpenLaw.pre at hc;have j:(WTm.not<|.lt (.lit<|.int (n:Int))<|.len<|.arg 0).holds [] { args:=[.list<|ns.map .int]}=true:=by
   have j:=(holds_andW hc).1;rw[hn]at j;exact j
  have k:=condW_of j<|w_not<|w_lt w_lit<|w_len_list<|w_arg rfl;rw[aP]at k;refine Nat.le_of_not_lt λq=>?_;have G:(n:Int)<((ns.length:Nat):Int):=by omega
  first
   | (rw[bP G]at k;exact absurd k ⋯)
   | (simp at k;omega)
 cases hwl with
 | cons p B=>
  cases B
  cases p with
  | list F f=>exact⟨_,_,ns,rfl,rfl,F,nM ns _ f,g⟩
def xj(l:OpenLaw)(args:List WData):l.row.toRowW.claim.post args (.bool true) args=true:=
 postW_of (r:=l.row.toRowW) (X:=(true == true))
  (show WShape.has [] (.bool true) .bool=true by first|rfl|decide|simp[WShape.has,WShape.arms,WShape.armsAll])
  (show(WTm.eq .res<|.lit<|.bool true).value [] { args:=args,res:=some<|.bool true,after:=args }=some (.bool<|true == true)from w_eq_bool (w_res rfl) w_lit) rfl
def sO{l:OpenLaw}{n:Nat}{q:aj}{XP:(Str->aw)->au->Prop}{YP:af->au->Prop}{d:DefRec}
  (hn:l.most=some n) (hdf:d.params.defaults=[])
  (call:∀(w:af) (s₀ s₁:aE) (mg mb:Str->aw) (fa:ak) (o:Obj) (pm cd doc:aa) (a:ak) (vs:ap) (ns:ae),
   Ground q loose [] XP w s₀ mg mb s₁.heap->YP w s₁.heap ->
   s₁.heap.get? fa=some o->o.data=.func (docDef d.name d.params d.body d.scope pm cd doc)->s₁.heap.CodeRec cd d.name->mg d.name=some (.ref fa) ->
   s₁.heap.get? a=some { cls:=.type "list",data:=.seq vs.toArray }->IntsAre vs ns->ns.length<=n->s₁.gens=#[] ->
   codeAny (model l.prog w) callerA (.call (.ref fa) ⟨[.ref a],[]⟩) (λr s'=>r=.ok (.ret<|.bool true)/\OldK s₁.heap s'.heap/\s'.os=s₁.os/\AllBare s'.gens) s₁) :
  WalkO q loose XP YP l.row.toRowW d [] (λf vs=>PySem.call f vs):=by
 intro w s₀ s₁ mg mb G Y fa o pm cd doc U kV V W z F B hg K J as j C Z p M;obtain rfl:U=.none:=Dflts.none F hdf;obtain rfl:kV=.none:=Dflts.noKw F;obtain⟨a,vs,ns,rfl,rfl,k,g,m⟩:=wZ hn j p;refine enter_call<|ee (call w s₀ s₁ mg mb fa o pm cd doc a vs ns G Y V (fd_plain W) z B k g m hg) λr s' T=>?_;obtain⟨rfl,P,O,L⟩:=T;exact⟨.inl ⟨.bool true,.bool true,[],rfl,λ_=>rfl,.bool true,xj l _,λ_=>⟨List.Pairwise.nil,λ_ N=>(nomatch N)⟩⟩,P,O,L⟩
end Att
namespace L2
open PySem PySem.Spec PyProof.Rows
theorem m_:∀{vs:ap}{ns:ae},IntsAre vs ns->Vals (ns.map V.int) vs
 | _,_,.nil=>.nil
 | _,_,.cons n t h=>.cons ⟨t,rfl⟩<|m_ h
abbrev Cb (H:Hp):Prop:=∀b,H b=none\/∃o xs,H b=some (.frz o<|.lst xs)
def yN{P:aj}{w:af}{K:aA}{mg mb:Str->aw}{CX:Bs}{k:Nat}{fa a:ak}{x:Str}{sp:Sp}{s₁:aE}{vs:ap}{ns:ae}
  (KX:K.In s₁.heap) (hns:s₁.heap.Ns mainGlobals mg) (hb:s₁.heap.Ns builtinsNs mb) (hbb:∀x:Str,x ≠ "__name__" -> mb x=bootBuiltins x) (hlim:s₁.heap.NoLimit) (hg:s₁.gens=#[])
  (ha:s₁.heap.get? a=some { cls:=.type "list",data:=.seq vs.toArray }) (hi:IntsAre vs ns) (hl:ns.length<=sizeLine) (hr:Room k callerA)
  (F:∀base:au,K.In base->base.Ns mainGlobals mg->FnOk P w K mg base CX k fa fd [x] sp) (hbind:∀(s:aE) (u:aa),BindsTo s fd ⟨[u],[]⟩ [(x,u)])
  (hsp:∀H:Hp,Cb H->i_ K H a (ns.map V.int)->sp [.ref a] H (λv _=>v=.bl true) λ_ _ _=>False)
  (hCX:∀H e s',CX [] H s₁ (λ_ _ _=>False) e s'->False) :
  codeAny (model P w) callerA (.call (.ref fa) ⟨[.ref a],[]⟩) (λr s'=>r=.ok (.ret<|.bool true)/\OldK s₁.heap s'.heap/\s'.os=s₁.os/\AllBare s'.gens) s₁:=by
 have U:=m_ hi;have C:=hi.length;have j:∀H:Hp,Cb H->i_ K H a (ns.map V.int)->n_ P w H s₁.heap->(∀b,H b≠none->b=a)->(H a≠none->K.lookup a=none) ->
   codeAny (model P w) callerA (.call (.ref fa) ⟨[.ref a],[]⟩) (λr s'=>r=.ok (.ret<|.bool true)/\OldK s₁.heap s'.heap/\s'.os=s₁.os/\AllBare s'.gens) s₁:=by
  intro H Y hS B W hK;have f:∀{b:ak} {o:Obj},s₁.heap.get? b=some o->H b=none->(qq s₁.heap H).get? b=some o:=λe n=>zH e n;have T:∀{b:ak} {o:Obj} {es:Array DictEntry} {p:Nat},s₁.heap.get? b=some o->o.data=.dict es p->H b=none:=λ{b o es p} e d=>by
   cases q:H b with
   | none=>rfl
   | some u=>
    have O:b=a:=W b (by rw[q];simp);subst O;rw[ha]at e;cases e;have d':Data.seq vs.toArray _=Data.dict es p:=d
    cases d'
  have g:∀{b:ak} {m:Str->aw},s₁.heap.Ns b m->(qq s₁.heap H).Ns b m:=λ{b m} ⟨o,es,p,e,d,r⟩=>⟨o,es,p,f e<|T e d,d,r⟩;have L:K.In (qq s₁.heap H):=λb o e=>f (KX b o e) (by
   cases q:H b with
   | none=>rfl
   | some u=>
    have O:b=a:=W b (by rw[q];simp);subst O;rw[hK<|by rw[q];simp]at e;cases e)
  have hM:Mod K mg (qq s₁.heap H):=⟨L,g hns,⟨mb,g hb,hbb⟩,let⟨mc,h1,h2⟩:=hlim;⟨mc,g h1,h2⟩⟩;have e0:Env0 P w K mg (qq s₁.heap H) callerA [] s₁ H:=⟨rfl,hM,λb o e=>Cf e,Nat.le_of_eq<|xy _ _,trivial,λb hb=>absurd (show b∈([]:ar)from hb)<|by simp,B,.of_eq hg⟩;refine ee ((F _ L<|g hns).run callerA [] s₁ H ⟨[.ref a],[]⟩ [.ref a] [.ref a] _ _ hr e0 (hbind s₁<|.ref a) (.cons rfl .nil)<|hsp H Y hS) λr s' h=>?_
  cases r with
  | error e=>exact(hCX H e s' h).elim
  | ok fl=>
   cases fl with
   | next=>exact False.elim h
   | brk=>exact False.elim h
   | cont=>exact False.elim h
   | ret u=>
    obtain⟨v,H',os,J,un,G,r',q⟩:=h;have q':v=.bl true:=q;subst q';obtain rfl:u=Value.bool true:=r';refine⟨rfl,OldK.of_keep λb o e=>?_,os,J⟩
    cases q:H b with
    | none=>exact un.keep b o e q (by intro z;exact absurd (show b∈([]:ar)from z)<|by simp) (by simp)
    | some u=>
     rcases Y b with z|⟨Z,xs,z⟩
     ·rw[q]at z;cases z
     ·have z2:=un.frzs b Z _ z;obtain⟨e1,_⟩:=B b _ z;obtain⟨e2,_⟩:=G b _ z2;rw[e]at e1;cases e1;exact e2
 cases N:K.lookup a with
 | some o=>
  have e:=KX a o N;rw[ha]at e
  cases e
  refine j (λ_=>none) (λ_=>.inl rfl) (.inr ⟨_,vs.toArray,_,N,rfl,rfl,rfl,by rw[aQ,C];exact hl,by simpa using U⟩) (λb u z=>by have M:(none:Option HO)=some u:=z;cases M) (λb z=>absurd rfl z) λz=>absurd rfl z
 | none=>
  refine j (λb=>if b=a then some (.frz { cls:=.type "list",data:=.seq vs.toArray } (.lst<|ns.map V.int))else none) (λb=>?_) (.inl<|.inr ⟨{ cls:=.type "list",data:=.seq vs.toArray },aR rfl⟩) (λb u z=>?_) (λb z=>?_) λ_=>N
  ·by_cases hb:b=a
   ·exact .inr ⟨_,_,aR hb⟩
   ·exact .inl<|aT hb
  ·by_cases hb:b=a
   ·have M:=(aR hb).symm.trans z
    cases M
    subst hb;exact⟨ha,by rw[aP];exact hl,vs,_,U,ha⟩
   ·have M:=(aT hb).symm.trans z
    cases M
  ·by_cases hb:b=a
   ·exact hb
   ·exact absurd (aT hb) z
def BH{l:PySem.W.OpenLaw}{n k:Nat}{q:aj}{XP:(Str->aw)->au->Prop}{YP:af->au->Prop}{d:DefRec}{K:Params->aA}{CX:af->Bs}{sp:af->Sp}{x:Str}
  (hn:l.most=some n) (hn2:n<=sizeLine) (hdf:d.params.defaults=[]) (hr:Room k callerA)
  (hY:∀(w:af) (h:au),YP w h->(K w.params).In h)
  (F:∀(w:af) (mg:Str->aw) (fa:ak) (h:au),(K w.params).In h->h.Ns mainGlobals mg->mg d.name=some (.ref fa) ->
   ∃fd:FuncData,(∀(s:aE) (u:aa),BindsTo s fd ⟨[u],[]⟩ [(x,u)]) /\
    ∀base:au,(K w.params).In base->base.Ns mainGlobals mg->FnOk l.prog w (K w.params) mg base (CX w) k fa fd [x] (sp w))
  (hsp:∀(w:af) (H:Hp) (a:ak) (ns:ae),ns.length<=n->Cb H->i_ (K w.params) H a (ns.map V.int)->sp w [.ref a] H (λv _=>v=.bl true) λ_ _ _=>False)
  (hCX:∀(w:af) (H:Hp) (s:aE) (e:aa) (s':aE),CX w [] H s (λ_ _ _=>False) e s'->False) :
  PySem.W.WalkO q loose XP YP l.row.toRowW d [] (λf vs=>PySem.call f vs):=by
 refine Att.sO hn hdf λw J p mg Z fa o pm cd L a vs ns G Y ho hd N B z m j hg=>?_;have C:=hY w _ Y;obtain⟨fd,O,M⟩:=F w mg fa _ C G.T.g B;exact yN C G.T.g G.T.b G.T.builtins G.T.nolimit hg z m (bN j hn2) hr M O (λH U P=>hsp w H a ns j U P) λH e s'=>hCX w H p e s'
abbrev lg (s:aG):Arguments:=match s with
 | .FunctionDef _ a _ _ _ _ _ _ _ _=>a
 | _=>{ posonlyargs:=[],args:=[],vararg:=none,kwonlyargs:=[],kw_defaults:=[],kwarg:=none,defaults:=[]}
abbrev jw (s:aG):List aG:=match s with
 | .FunctionDef _ _ b _ _ _ _ _ _ _=>b
 | _=>[]
abbrev fG (s:aG):Scope:=match s with
 | .FunctionDef _ _ _ _ _ _ d _ _ _=>d
 | _=>{ kind:=.function,names:=[],isGenerator:=false,isCoroutine:=false }
meta abbrev l8:Bs:=λ_ _ _ _ _ _=>False
meta abbrev E0:XK:=λ_ _ _=>False
def Hh:Passes l8 X E0:=λ_ _ _ _ _ _ _ h=>h.elim
structure Fun (K:aA)(x qual:Str)(st:aG)(f:ak)(fd:FuncData):Prop where
 ex:∃(oc:aa) (od:Option ak) (kV doc pm:aa) (an:Option ak) (cdv ct:aa) (osl:Array<|aw),
  fd=PySem.W.fnOf x qual (lg st) (jw st) (fG st) .none kV doc pm an cdv ct/\K.lookup f=some ⟨oc,od,.func fd,osl⟩/\PySem.W.codeIn K cdv qual=true
 kp:PySem.W.keepIn K (.ref f)=true
section
variable {P:aj}{w:af}{K:aA}{mg:Str->aw}{base:au}
def Fun.ok{x:Str}{st:aG}{f:ak}{N ps:am}{k:Nat}{sp:Sp}(F:Fun K x qual st f fd)(S:FnScope N ps<|fG st)(len:∀vs H Q E,sp vs H Q E->vs.length=ps.length)
  (hbody:∀(cdv:aa) (A:aC) (outer:List Env) (s:aE) (H:Hp) (vs:List V) (Q:VK) (E:XK),Room k (A.deeper<|envOfC qual (fG st) s.heap.objs.size f cdv)->sp vs H Q E ->
   ∃t,qL (sQ l8 P w K mg base N qual (fG st) f cdv A outer s H E).Gq (jw st) t/\t { nx:=λ_ H'=>Q .non H',rt:=Q } (start N vs) H):FnOk P w K mg base l8 (k+1) f fd ps sp:=by
 obtain⟨G,B,kV,p,J,C,cdv,ct,j,rfl,z,d⟩:=F.ex;refine G5 z d S len λA outer s H vs Q E m g=>?_;obtain⟨t,h,q⟩:=hbody cdv A outer s H vs Q E m g;exact⟨t,h.Gq,q⟩
def Fun.binds{x:Str}{st:aG}{f:ak}{ps:am}(F:Fun K x qual st f fd)
  (h:∀(kV doc pm:aa) (an:Option ak) (cdv ct:aa) (us:ap),us.length=ps.length->bindArgs (PySem.W.fnOf x qual (lg st) (jw st) (fG st) .none kV doc pm an cdv ct) ⟨us,[]⟩=pure (ps.zip us)):Binds K fd ps []:=by
 obtain⟨m,j,kV,doc,pm,an,cdv,ct,d,rfl,k,g⟩:=F.ex;exact .all<|h kV doc pm an cdv ct
def D3{x:Str}{st:aG}{f:ak}{kV ct:aa}(l:K.lookup f=some ⟨oc,od,.func<|PySem.W.fnOf x qual (lg st) (jw st) (fG st) .none kV doc pm an cdv ct,osl⟩)
  (c:PySem.W.codeIn K cdv qual=true) (k:PySem.W.keepIn K (.ref f)=true):Fun K x qual st f (PySem.W.fnOf x qual (lg st) (jw st) (fG st) .none kV doc pm an cdv ct):=⟨⟨oc,od,kV,doc,pm,an,cdv,ct,osl,rfl,l,c⟩,k⟩
end
set_option maxHeartbeats 4000000
abbrev Cg (σ:St):bj->Option V
 | some j=>(σ[j]?).getD none
 | none=>none
abbrev lB (env:Env):List (Str×NameKind)->List (Str×ak)->List (Str×ak)
 | [],cs=>cs
 | (n,k)::r,cs=>lB env r (if k == .free then(n,(env.cells.lookup n).getD 0)::cs else cs)
def oN{scope:Scope}{env:Env}(h:∀y∈scope.names,y.2=.free->∃c,env.cells.lookup y.1=some c):closureFor scope env=pure (lB env scope.names []):=by
 have f:∀(l:List<|Str×NameKind) (d:List<|Str×ak),(∀y∈l,y.2=.free->∃c,env.cells.lookup y.1=some c) ->
   (forIn l d (λ(x:Str×NameKind) (r:List<|Str×ak)=>(match x with
    | (name,kind)=>if (kind == NameKind.free)=true then(do let c <- cellOf env name;pure (ForInStep.yield ((name,c)::r)))else pure (ForInStep.yield r):Sem<|ForInStep<|List<|Str×ak)))=(pure (lB env l d):Sem<|List<|Str×ak):=by
  intro l
  induction l with
  | nil=>intro d _;rfl
  | cons y r m=>
   intro d j;obtain⟨n,k⟩:=y;rw[List.forIn_cons];by_cases p:k=.free
   ·subst p;obtain⟨c,hc⟩:=j (n,.free) a_ rfl;have e1:cellOf env n=pure c:=by
     unfold cellOf;rw[hc]
    dsimp[bK,bC,e1,pure_bind];rw[m _ λz g=>j z<|aU _ g];dsimp[lB,bK,bC,hc,cG]
   ·have q:(k == NameKind.free)=false:=by simpa using p
    dsimp[q,eB,bu,pure_bind];rw[m _ λz g=>j z<|aU _ g];dsimp[lB,q,eB,bu]
 have:=f scope.names [] h;exact(cY (λz=>z >>= λd=>(pure d:Sem<|List<|Str×ak)) this).trans (pure_bind _ _)
theorem o4:∀{l:List<|Str×NameKind}{x:Str}{k:NameKind},l.lookup x=some k->(x,k)∈l
 | [],_,_,h=>nomatch h
 | (n,k')::r,x,k,h=>by
  rw[cH]at h
  cases d:x == n with
  | true=>
   rw[d]at h;have e:x=n:=by simpa using d
   subst e
   cases h
   exact a_
  | false=>rw[d]at h;exact aU _<|o4 h
theorem pW{env:Env}{x:Str}:∀{l:List<|Str×NameKind}{cs:List<|Str×ak},(∀y∈l,y.2=.free->∃c,env.cells.lookup y.1=some c)->(lB env l cs).lookup x=some c->env.cells.lookup x=some c\/cs.lookup x=some c
 | [],cs,_,h=>.inr h
 | (n,k)::r,cs,hl,h=>by
  have h':=pW (l:=r) (λz j=>hl z<|aU _ j) h
  rcases h' with h'|h'
  ·exact .inl h'
  ·by_cases f:k=.free
   ·subst f;dsimp[bK,bC]at h';obtain⟨m,hc⟩:=hl (n,.free) a_ rfl;rw[hc,cG,cH]at h'
    cases d:x == n with
    | true=>
     rw[d]at h';have e:x=n:=by simpa using d
     subst e;left;rw[hc];exact h'
    | false=>rw[d]at h';exact .inr h'
   ·have g:(k == NameKind.free)=false:=by simpa using f
    dsimp[g,eB,bu]at h';exact .inr h'
theorem pZ{env:Env}{x:Str}:∀{l:List<|Str×NameKind}{cs:List<|Str×ak},(cs.lookup x).isSome=true->((lB env l cs).lookup x).isSome=true
 | [],cs,h=>h
 | (n,k)::r,cs,h=>by
  skip
  refine pZ (l:=r) ?_;by_cases d:(k == NameKind.free)=true
  ·rw[aR d,cH]
   cases f:x == n with
   | true=>rfl
   | false=>exact h
  ·rw[aT d];exact h
theorem oU{env:Env}{x:Str}:∀{l:List<|Str×NameKind}{cs:List<|Str×ak},(x,NameKind.free)∈l->((lB env l cs).lookup x).isSome=true
 | [],_,h=>nomatch h
 | (n,k)::r,cs,h=>by
  rcases bJ.mp h with e|h
  ·cases e
   skip
   refine pZ (l:=r) ?_;rw[aR<|by rfl,cH];simp
  ·exact oU (l:=r) h
theorem lI:∀(names:List<|Str×NameKind) (n:Nat) (acc:List<|Str×ak),cellsFrom n names acc=cellsFrom n names []++acc
 | [],_,_=>rfl
 | (x,k)::r,n,acc=>by
  unfold cellsFrom;split
  ·rw[lI r (n+1) ((x,n)::acc),lI r (n+1) [(x,n)],bx];rfl
  ·exact lI r n acc
theorem t7:∀(names:List<|Str×NameKind) (n:Nat) {x:Str}{c:ak},(x,c)∈cellsFrom n names []->(x,NameKind.cell)∈names
 | [],_,_,_,h=>nomatch h
 | (y,k)::r,n,x,c,h=>by
  unfold cellsFrom at h;split at h
  ·rename_i d;rw[lI]at h
   rcases c8.mp h with z|z
   ·exact aU _ (t7 r _ z)
   ·rw[List.mem_singleton]at z
    cases z
    have:k=.cell:=by simpa using d
    rw[this];exact a_
  ·exact aU _<|t7 r _ h
theorem mH{α:Type}{x:Str}:∀{l m:List<|Str×α},(l++m).lookup x=match l.lookup x with|some c=>some c|none=>m.lookup x
 | [],_=>rfl
 | (y,c)::l,m=>by
  rw[List.cons_append,cH,cH]
  cases x == y with
  | true=>rfl
  | false=>exact mH
def Ci{n:Nat}{acc:List<|Str×ak}{x:Str}(h:(cellsFrom n names acc).lookup x=some c):(cellsFrom n names []).lookup x=some c\/((cellsFrom n names []).lookup x=none/\acc.lookup x=some c):=by
 rw[lI,mH]at h
 cases e:(cellsFrom n names []).lookup x with
 | some d=>rw[e]at h;exact .inl h
 | none=>rw[e]at h;exact .inr ⟨rfl,h⟩
def FZ{n:Nat}{acc:List<|Str×ak}{x:Str}(h:(x,NameKind.cell)∉names):(cellsFrom n names acc).lookup x=acc.lookup x:=by
 rw[lI,mH]
 cases e:(cellsFrom n names []).lookup x with
 | some d=>exact absurd (t7 names n<|bL e) h
 | none=>rfl
def wk{A:aC}{E:aa->aE->Prop}{s:aE}{scope:Scope}{globals:ak}{cl:List<|Str×ak}{env:Env}{Q:Env->aE->Prop}
  (hQ:∀h':au,h'.Ns s.heap.objs.size (λ_=>none)->(∀b o,s.heap.get? b=some o->h'.get? b=some o)->CellsOk h' (s.heap.objs.size+1) (cellsFrom (s.heap.objs.size+1) scope.names []) ->
   Q (newEnv scope s.heap.objs.size globals (cellsFrom (s.heap.objs.size+1) scope.names cl) qual none .none (some env) builtinsNs) { s with heap:=h',toks:=s.toks+([]:List<|Str×aa).length }) :
  wpAny M A (newFunctionEnv scope globals cl [] qual none .none<|some env) Q E s:=by
 dsimp[newFunctionEnv,Option.isSome_some,bC];refine aO<|wpAny_alloc ?_;refine aO (wpAny_layCells _ (λname kind cells=>by cases d:kind == NameKind.cell<;>simp[d]) _ _ _ _ ?_);have ok:=cellsFrom_ok scope.names (s.heap.push { cls:=.type "dict",data:=.dict #[]}) (s.heap.objs.size+1) [] ⟨λ_ _ f=>(nomatch f),List.Pairwise.nil⟩ (by rw[cU];exact aK _);rw[cU]at ok;rw[show({ s with heap:=s.heap.push { cls:=.type "dict",data:=.dict #[]}}:aE).heap.objs.size=s.heap.objs.size+1 from cU ..];rw[List.forIn_nil];refine aO<|aZ<|aZ ?_;exact hQ _ ((Heap.Ns.new s.heap<|.type "dict").keeps<|pushCells_keeps _ _) (λb o e=>pushCells_keeps _ _ b o<|aS _ e) ok
abbrev gq (X:Cx)(scope:Scope)(N:am)(C:ak)(s₀:aE)(H₀:Hp)(ex:ar):Cx where
 prog:=X.prog
 w:=X.w
 K:=X.K
 mg:=X.mg
 base:=X.base
 A:=X.A
 N:=N
 s₀:=s₀
 H₀:=H₀
 env:=compEnvC scope (cellsFrom (C+1) scope.names<|lB X.env scope.names []) C X.env
 outer:=X.stack
 stack:=X.stack
 ex:=ex
 fn:=λx=>scope.names.lookup x == some .cell
 calm:=X.calm
 pn:=[]
 xe:=λ_ _=>False
structure CpScope (X:Cx)(scope:Scope)(N:am)(cap:List (bj)):Prop where
 kind:scope.kind=.function
 nocf:∀x,(x,NameKind.free)∈scope.names->(x,NameKind.cell)∉scope.names
 nm:∀y∈scope.names,y.2=.local->scope.names.lookup y.1=some .local
 fr:∀y∈scope.names,y.2=.free->X.env.kindOf y.1=some .cell\/X.env.kindOf y.1=some .free
 rl:∀y,((relabel scope X.env).names.lookup y=some .cell\/(relabel scope X.env).names.lookup y=some .free)->(y,NameKind.free)∈scope.names\/scope.names.lookup y=some .cell
 len:cap.length=N.length
 nolf:∀x,(x,NameKind.free)∈scope.names->scope.names.lookup x≠some .local
 cp:∀(i j:Nat) (x:Str),N[i]?=some x->cap[i]?=some (some j)->X.N[j]?=some x/\(x,NameKind.free)∈scope.names
def A6{scope:Scope}{N:am}{cap:List<|bj}{H:Hp}{s:aE}{fp:ar}{h₁:au}{m:Str->aw}{tk:Nat}(S:CpScope X scope N cap)(I:Inv X pins σ H s)
  (hf:∀b∈fp,k6 X pins H b) (ho:∀b∈fp,∃o,s.heap.get? b=some o) (hn:h₁.Ns s.heap.objs.size m) (hC:CellsOk h₁ (s.heap.objs.size+1)<|cellsFrom (s.heap.objs.size+1) scope.names []) (hk:∀b o,s.heap.get? b=some o->h₁.get? b=some o) :
  Inv (gq X scope N s.heap.objs.size s H fp) [] (cap.map<|Cg σ) H { s with heap:=h₁,toks:=tk }:=by
 gp_on;have Y:∀x c,(lB X.env scope.names []).lookup x=some c->X.env.cells.lookup x=some c:=λx c e=>by
  rcases pW hfree e with z|z
  ·exact z
  ·cases z
 have f:∀x c,(cellsFrom (s.heap.objs.size+1) scope.names<|lB X.env scope.names []).lookup x=some c->((x,c)∈cellsFrom (s.heap.objs.size+1) scope.names []/\h₁.IsCell c none/\s.heap.objs.size+1<=c)\/X.env.cells.lookup x=some c:=λx c e=>by
  rcases Ci e with z|z
  ·exact .inl ⟨bL z,hC.empty x c<|bL z⟩
  ·exact .inr<|Y x c z.2
 have old:∀x c,X.env.cells.lookup x=some c->c<s.heap.objs.size:=λx c e=>by
  obtain⟨v,z⟩:=I.cell x c e;exact z.lt
 have lt:∀b o,s.heap.get? b=some o->b≠s.heap.objs.size:=λb o e=>bF<|aX e;refine⟨⟨I.ok.mod,?_,I.ok.glob,I.ok.blt,aK _,?_,?_,?_,I.ok.hd,I.ok.frames,.inl rfl,?_,I.bs,bN I.ok.bsz I.sz,?_,?_,I.stack,I.wu⟩,rfl,I.bare,Un.kept hk,?_,?_,I.hok.fresh<|aK _,?_,?_,I.hok.kept hk,?_⟩
 ·exact S.kind
 ·intro x y c e1 e2
  rcases f x c e1 with a|a
  ·rcases f y c e2 with b|b
   ·exact name_of_addr hC.apart a.1 b.1
   ·exact absurd (old y c b)<|not_lt.mpr<|cJ a.2.2
  ·rcases f y c e2 with b|b
   ·exact absurd (old x c a) (not_lt.mpr<|cJ b.2.2)
   ·exact I.ok.inj x y c a b
 ·intro x e;refine cC.mp (cK _ _ _ ?_)
  rcases S.rl x e with B|B
  ·exact .inr (oU (env:=X.env) (cs:=[]) B)
  ·exact .inl B
 ·intro x c e J;have e:scope.names.lookup x=some .cell:=by
   have e:(scope.names.lookup x == some .cell)=true:=e;simpa using e
  obtain⟨d,hd⟩:=cC.mp<|cK scope.names (s.heap.objs.size+1) []<|.inl e;have J:(cellsFrom (s.heap.objs.size+1) scope.names<|lB X.env scope.names []).lookup x=some c:=J;rw[lI,mH,hd]at J
  cases J
  exact cJ (hC.empty x c<|bL hd).2
 ·intro b G;obtain⟨o,e⟩:=ho b G;refine⟨lt b o e,λx c e2=>?_⟩
  rcases f x c e2 with z|z
  ·exact Nat.ne_of_gt (Nat.lt_trans (aX e) z.2.2)
  ·exact(hf b G).2.2.2.2.1 x c z
 ·intro b o e G;obtain⟨_,_,_,Z,_⟩:=hf b G
  rcases Z with z|z
  ·exact I.ok.noex b o e z
  ·exact absurd (bh (aX (I.ok.bs b o e).1) z)<|cO _
 ·intro b G hz;obtain⟨_,h1,O,_⟩:=hf b G
  rcases bJ.mp (I.sZ b hz)with z|z
  ·exact h1 z
  ·exact O z
 ·refine⟨m,hn,λi x v e1 e2 e3=>?_⟩;rw[br]at e2
  cases hc:cap[i]? with
  | none=>rw[hc]at e2;cases e2
  | some oj=>
   rw[hc]at e2
   cases oj with
   | none=>cases e2
   | some j=>
    have q:(σ[j]?).getD none=some v:=aL e2;obtain⟨hj,B⟩:=S.cp i j x e1 hc;obtain⟨m0,hn0,U⟩:=I.loc;have P:σ[j]?=some (some v):=by
     cases h:σ[j]? with
     | none=>rw[h]at q;cases q
     | some z=>rw[h,cG]at q;rw[q]
    have M:=S.fr (x,.free) B rfl;have hv:Hs X.env.scope x:=.inr M;obtain⟨u,ru,lo⟩:=U j x v hj P hv;refine⟨u,ru,?_⟩
    rcases lo with⟨lo,_⟩|⟨_,c,J,ic⟩
    ·rcases M with z|z<;>(rw[z]at lo;cases lo)
    ·have O:=oU (env:=X.env) (cs:=[]) B;obtain⟨V,F⟩:=cC.mp O;have:V=c:=aL<|(Y x V F).symm.trans J;subst this;refine .inr ⟨?_,V,(FZ<|S.nocf x B).trans F,?_⟩
     ·rcases e3 with z|z|z
      ·exfalso;have:(relabel scope X.env).names.lookup x=some .local:=z;have K:scope.names.lookup x=some .local:=by
        have L:∃k,(x,k)∈(relabel scope X.env).names/\k=.local:=by
         clear F O;have:=o4 this;exact⟨_,this,rfl⟩
        obtain⟨k,W,rfl⟩:=L;obtain⟨⟨n',k'⟩,T,g⟩:=dF.mp W;dsimp only at g;split at g
        ·cases g
        ·cases g
         exact S.nm (x,.local) T rfl
       exact False.elim<|S.nolf x B K
      ·exact .inl z
      ·exact .inr z
     ·obtain⟨o,C,hd⟩:=ic;exact⟨o,hk _ _ C,hd⟩
 ·intro x c e
  rcases f x c e with z|z
  ·exact⟨_,z.2.1⟩
  ·obtain⟨v,o,C,hd⟩:=I.cell x c z;exact⟨v,o,hk _ _ C,hd⟩
 ·intro x c e
  rcases f x c e with z|z
  ·exact I.hok.fresh (cJ z.2.2)
  ·exact I.freeC x c z
 ·intro p hp
  cases hp
 ·rw[aP,S.len];rfl
abbrev BI (X:Cx)(ifs:List aF)(t:TT):Prop:=
 ∀(pins:bo) (s:aE) (σ:St) (H:Hp) (Q:Bool->Hp->Prop),Inv X pins σ H s->t σ H Q ->
  wpAny (model X.prog X.w) X.A (forIn ifs true λc r=>if r=true then do let ok <- isTrue c X.env (eval c X.env);pure (ForInStep.yield ok)else pure (ForInStep.yield r)) (TP X pins σ Q) X.xe s
abbrev Ip:TT:=λ_ H Q=>Q true H
def CD:BI X [] Ip:=λ_ _ _ H _ I h=>wpAny_tests_nil ⟨H,I,h⟩
def Bx{c:aF}{t:TT}(h:PT X c t):BI X [c] t:=λpins s σ H Q I q=>wpAny_tests_one<|h pins s σ H Q I q
abbrev DX (cap:List<|bj)(g:TG)(tc:TT)(te:TE)(σ:St)(Q:VK)(J:It)(H1:Hp):Prop:=∀D,H1 D=none ->
 ∃W:Nat->Nat->St->Hp->Prop,(∃m,W 0 m (cap.map<|Cg σ)<|upd H1 D<|.lst [])/\∀i m j H',W i m j H' ->
  (J.stop i H'/\Q (.ref D) H')\/(J.go i H'/\∀x H2,J.yld i H' x H2->g x j H2 λd q=>tc d q λb p=>
   if b=true then te d p λy k=>∃ys,k D=some (.lst ys)/\ys.length<sizeLine/\∃f,f<m/\W (i+1) f d (upd k D<|.lst<|ys++[y])
   else ∃f,f<m/\W (i+1) f d p)
abbrev HD (cap:List<|bj)(wi:TI)(g:TG)(tc:TT)(te:TE):TE:=λσ H Q=>wi σ H<|DX cap g tc te σ Q
def qh{α:Type}{t:Sem α}{Q Q':α->aE->Prop}{A:aC}{E:aa->aE->Prop}(h:wpAny M A t Q (λ_ _=>False) s)(hQ:∀a s,Q a s->Q' a s):wpAny M A t Q' E s:=
 c_ h hQ λ_ _ f=>f.elim
structure TurnG (ok:Cx->Prop)(P:aj)(w:af)(K:aA)(tg:aF)(J:It)(fp:ar)(it:ak)(tn:Nat->au->Prop):Prop where
 obj:∀i h,tn i h->∀b∈fp,∃o,h.get? b=some o/\∀v,o.data≠.cell v
 keep:∀i h h',tn i h->(∀b∈fp,∀o,h.get? b=some o->h'.get? b=some o)->tn i h'
 item:∀(X:Cx),X.prog=P->X.w=w->X.K=K->ok X->∀(i:Nat) (pins:bo) (s:aE) (σ:St) (H:Hp) (E:aa->aE->Prop),Inv X pins σ H s->(∀b∈fp,k6 X pins H b)->tn i s.heap->J.go i H ->
  wpAny (model P w) X.A (pyNext<|.ref it) (λr s1=>∃u,r=some u /\
   wpAny (model P w) X.A (letOwnedTupleGo tg (.ref it) u) (λ_ s2=>∃x H',Inv X pins σ H' s2/\RelV x u/\J.yld i H x H'/\tn (i+1) s2.heap/\∀b∈fp,H' b=none) E s1) E s
 done:∀(X:Cx),X.prog=P->X.w=w->X.K=K->ok X->∀(i:Nat) (pins:bo) (s:aE) (σ:St) (H:Hp) (E:aa->aE->Prop),Inv X pins σ H s->(∀b∈fp,k6 X pins H b)->tn i s.heap->J.stop i H ->
  wpAny (model P w) X.A (pyNext<|.ref it) (λr s1=>r=none/\Inv X pins σ H s1) E s
 self:∀(A:aC) (i:Nat) (s:aE) (Q:aa->aE->Prop) (E:aa->aE->Prop),tn i s.heap->Q (.ref it) s->wpAny (model P w) A (pyIter<|.ref it) Q E s
abbrev HW (ok:Cx->Prop)(X:Cx)(pins:bo)(σ:St)(tg:aF)(R:It->Hp->Prop)(itv:aa)(s2:aE):Prop:=
 ∃(it:ak) (d:ar) (f:Nat->au->Prop) (J:It) (H':Hp),itv=.ref it/\Inv X pins σ H' s2/\TurnG ok X.prog X.w X.K tg J d it f/\f 0 s2.heap/\(∀b∈d,k6 X pins H' b)/\R J H'
abbrev Ji (ok:Cx->Prop)(X:Cx)(tg iter:aF)(wi:TI):Prop:=
 ∀(pins:bo) (s:aE) (σ:St) (H:Hp) (R:It->Hp->Prop),Inv X pins σ H s->wi σ H R ->
  wpAny (model X.prog X.w) X.A (eval iter X.env) (λv d=>wpAny (model X.prog X.w) X.A (pyIter v) (HW ok X pins σ tg R) X.xe d) X.xe s
def PI.g{iter:aF}{wi:TI}(h:PI X tg iter wi):Ji (λY=>Y.calm=true) X tg iter wi:=λpins s σ H R I q=>
 gC (h pins s σ H R I q) λv m h1=>gC h1 λk p ⟨it,f,j,J,H',e,d,T,a,b,c⟩=>⟨it,f,j,J,H',e,d,⟨T.obj,T.keep,T.item,T.done,T.self⟩,a,b,c⟩
def B5{ok:Cx->Prop}{X:Cx}{use:Option<|aa->Sem Unit}{Q':aa->aE->Prop}{iter:aF}{N:am}{wi:TI}{g:TG}{tc:TT}{te:TE}(S:CpScope X scope N cap)(hok:∀C s₀ H₀ ex,(∀a o u,X.H₀ a=some (.frz o u)->H₀ a=some (.frz o u))->ok (gq X scope N C s₀ H₀ ex))(hi:Ji ok X tg iter wi)
  (hg:∀C s₀ H₀ ex,PG (gq X scope N C s₀ H₀ ex) tg g) (ht:∀C s₀ H₀ ex,BI (gq X scope N C s₀ H₀ ex) ifs tc) (he:∀C s₀ H₀ ex,PE (gq X scope N C s₀ H₀ ex) elt te)
  (hs:∀x,foldedSetIterable iter X.env x=pure x:=by intro _;rfl):∀(pins:bo) (s:aE) (σ:St) (H:Hp) (Q:VK),Inv X pins σ H s->HD cap wi g tc te σ H Q ->
  (∀(s6:aE) (C D:ak) (H5:Hp) (m:Str->aw),s6.heap.Ns C m->k6 X pins H5 C->(∀h',Heap.SameBut C s6.heap h'->Inv X pins σ H5 { s6 with heap:=h' })->Q (.ref D) H5->∀v,compPost (model X.prog X.w) X.A X.xe use Q' (.ref D) C (.ok v) s6) ->
  wpAny (model X.prog X.w) X.A (comprehension (.ListComp elt [⟨tg,iter,ifs,0⟩] scope pos) scope X.env (firstIterPos [⟨tg,iter,ifs,0⟩] pos) (newList []) (firstAsync [⟨tg,iter,ifs,0⟩]) (firstIter [⟨tg,iter,ifs,0⟩] X.env) use) Q' X.xe s:=by
 intro pins s σ H Q I h hfin;gp_on;refine wpAny_comprehension_free (use:=use) rfl hs (oN hfree) S.kind S.nm<|gC (hi pins s σ H _ I h) λxv s1 h1=>gC h1 λitv f h2=>?_;obtain⟨it,fp,tn,J,H2,rfl,I2,T,st2,f2,h2⟩:=h2;refine bZ<|wk λV F old B=>?_;obtain⟨W,⟨m0,w0⟩,turn⟩:=h2 f.heap.objs.size I2.fresh;dsimp only at F old B ⊢;have I3:Inv X pins σ (upd H2 f.heap.objs.size<|.lst []) { f with heap:=f.heap.push {}}:=I2.B8 (t':=f.toks) (its:=[]) .nil<|dX _;have hfp:∀b∈fp,∃o,f.heap.get? b=some o:=λb j=>by
  obtain⟨o,e,_⟩:=T.obj 0 _ st2 b j;exact⟨o,e⟩
 have neD:∀b∈fp,b≠f.heap.objs.size:=λb j=>by
  obtain⟨o,e⟩:=hfp b j;exact bF<|aX e
 have f3:∀b∈fp,k6 X pins (upd H2 f.heap.objs.size<|.lst []) b:=λb j=>⟨by rw[fJ<|neD b j];exact(f2 b j).1,(f2 b j).2⟩;have hDC:f.heap.objs.size≠(f.heap.push {}).objs.size:=by rw[cU];exact bF (bQ _)
 have I4:=A6 (tk:=f.toks+([]:List<|Str×aa).length) (fp:=fp) S I3 f3 (λb j=>by
  obtain⟨o,e⟩:=hfp b j;exact⟨o,aS _ e⟩) F B old
 have st4:tn 0 V:=T.keep _ _ _ st2 λb j o e=>old b o<|aS _ e;have hc:=hok (f.heap.push {}).objs.size { f with heap:=f.heap.push {}} (upd H2 f.heap.objs.size<|.lst []) fp λa o u e=>by
  have z:=I2.base.frzs a o u e;rw[fJ λq=>by rw[q,I2.fresh]at z;cases z];exact z
 have O:∀{H':Hp},(∀b∈fp,H' b=none)->∀b∈fp,k6 (gq X scope N (f.heap.push {}).objs.size { f with heap:=f.heap.push {}} (upd H2 f.heap.objs.size<|.lst []) fp) [] H' b:=λhn b j=>by
  have ok:=I4.ok;refine⟨hn b j,(ok.exf b j).1,ok.exfs b j,.inl j,λx c e=>(ok.exf b j).2 x c e,λp hp=>nomatch hp⟩
 have U:∀s4:aE,s4={ f with heap:=V,toks:=f.toks+([]:List<|Str×aa).length } ->
   codeAny (model X.prog X.w) X.A (.compLoop (.ListComp elt [⟨tg,iter,ifs,0⟩] scope pos) 0 (.ref it) (.ref f.heap.objs.size)<|compEnvC scope (cellsFrom ((f.heap.push {}).objs.size+1) scope.names<|lB X.env scope.names []) (f.heap.push {}).objs.size X.env)
    (compPost (model X.prog X.w) X.A X.xe use Q' (.ref f.heap.objs.size) (f.heap.push {}).objs.size) s4:=by
  rintro s4 rfl;refine codeAny_loop rfl (λn s'=>∃i M H',Inv (gq X scope N (f.heap.push {}).objs.size { f with heap:=f.heap.push {}} (upd H2 f.heap.objs.size<|.lst []) fp) [] M H' s'/\tn i s'.heap/\(∀b∈fp,H' b=none)/\W i n M H') (λn s5 hI=>?_) m0 ⟨0,_,_,I4,st4,λb j=>(f3 b j).1,w0⟩;obtain⟨i,P,H5,I5,st5,fr5,w5⟩:=hI;show wpAny _ X.A ((compTurn (.ListComp elt [⟨tg,iter,ifs,0⟩] scope pos) 0 (.ref it) (.ref f.heap.objs.size)<|compEnvC scope (cellsFrom ((f.heap.push {}).objs.size+1) scope.names<|lB X.env scope.names []) (f.heap.push {}).objs.size X.env).onRaise λx=>do noteFrame x _;theTreesLotGoes x) _ _ s5;refine wpAny_noted ?_;rw[compTurn_list];refine aO (cP<|aO ?_)
  rcases turn i n P H5 w5 with⟨stop,q⟩|⟨go,step⟩
  ·refine gC (T.done (gq X scope N (f.heap.push {}).objs.size { f with heap:=f.heap.push {}} (upd H2 f.heap.objs.size<|.lst []) fp) rfl rfl rfl hc i [] s5 P H5 _ I5 (O fr5) st5 stop) λr s6 h9=>?_;obtain⟨hr,I6⟩:=h9;subst hr;obtain⟨m6,hn6,_⟩:=I6.loc;refine aZ<|hfin s6 _ _ H5 m6 hn6 (I3.A7 (aK _) I6.free) (λh' sb=>?_) q _;have u6:=I6.base;have nC:∀b o,(f.heap.push {}).get? b=some o->b≠(f.heap.push {}).objs.size:=λb o e=>bF<|aX e;refine I3.Dv (ch:=fp) I6.os ⟨λb o e n j Z=>?_,λb o e n j Z=>?_,λb o e n Z=>?_,λb o e Z=>?_,u6.tups,u6.frzs,u6.tbls⟩ ?_ I6.bare ?_
   ·exact sb.extBut b o (nC b o e) (u6.keep b o e n j Z)
   ·obtain⟨sl,z⟩:=u6.slot b o e n j Z;exact⟨sl,sb.extBut b _ (nC b o e) z⟩
   ·exact u6.free b o e n Z
   ·obtain⟨o',z⟩:=u6.there b o e Z;exact⟨o',sb.extBut b _ (nC b o e) z⟩
   ·intro b o e;have j:∀c v,H5 c=some v->c≠(f.heap.push {}).objs.size:=λc v e z=>by
     rw[z]at e;have:=I6.free;rw[show H5 (f.heap.push {}).objs.size=none from this]at e
     cases e
    refine(I6.hok b o e).stay (λc v hc q=>sb.extBut c v ?_ q) (λ_ q=>q) λ_ _ q=>q
    rcases hc with z|z
    ·rw[z];exact j b o e
    ·exact j c _ z
   ·intro b j;obtain⟨_,z1,_,z3,z4,z5⟩:=f3 b j;exact⟨z3,z1,z4,z5⟩
  ·refine gC (T.item (gq X scope N (f.heap.push {}).objs.size { f with heap:=f.heap.push {}} (upd H2 f.heap.objs.size<|.lst []) fp) rfl rfl rfl hc i [] s5 P H5 _ I5 (O fr5) st5 go) λr s6 h9=>?_;obtain⟨u,hr,h6⟩:=h9;subst hr;refine aO<|gC h6 λ_ s7 ⟨x,H7,I7,r7,y7,st7,fr7⟩=>?_;have I7':=I7.pinned (O fr7)<|T.obj _ _ st7;refine aO<|qh (hg _ _ _ fp _ s7 P H7 x u _ I7' r7<|step x H7 y7) λ_ s8 ⟨K,H8,I8,q8⟩=>?_;refine aO<|qh (ht _ _ _ fp _ s8 K H8 _ I8 q8) λok s9 ⟨H9,I9,q9⟩=>?_;have again:∀{G:aE} {k:Hp},Inv (gq X scope N (f.heap.push {}).objs.size { f with heap:=f.heap.push {}} (upd H2 f.heap.objs.size<|.lst []) fp) ([]++lV fp s7.heap) K k G->(∃m',m'<n/\W (i+1) m' K k) ->
     ∃m,m<n/\∃i M H',Inv (gq X scope N (f.heap.push {}).objs.size { f with heap:=f.heap.push {}} (upd H2 f.heap.objs.size<|.lst []) fp) [] M H' G/\tn i G.heap/\(∀b∈fp,H' b=none)/\W i m M H':=λ{G k} L h9=>by
    obtain⟨m',hm,Y⟩:=h9;refine⟨m',hm,i+1,K,k,L.jZ,T.keep _ _ _ st7 λb j o e=>(L.pin (b,o)<|aW _<|aW _<|gG j e).1,λb j=>?_,Y⟩;obtain⟨o,e,d⟩:=T.obj _ _ st7 b j;exact(L.pin (b,o)<|aW _<|aW _<|gG j e).2.1
   cases ok with
   | false=>
    rw[aT bf]at q9;exact aZ ⟨rfl,again I9 q9⟩
   | true=>
    rw[aR rfl]at q9;refine aO<|aO<|qh (he _ _ _ fp _ s9 K H9 _ I9 q9) λy G ⟨v10,k,L,r10,ys,hD,hz,Y⟩=>?_;refine aO<|qh (m7 _ G K k (.ref f.heap.objs.size) [v10] _ [y] (λ_ H'=>H'=upd k f.heap.objs.size (.lst<|ys++[v10])) L rfl (.cons r10 .nil) ⟨_,ys,v10,rfl,rfl,hD,hz,rfl⟩) λ_ s11 ⟨_,H11,I11,_,e11⟩=>?_;subst e11;exact aZ<|aZ ⟨rfl,again I11 Y⟩
 exact codeAny_compStart_list (U _ rfl)<|T.self _ 0 _ _ _ st4<|U _ rfl
def FW{ok:Cx->Prop}{X:Cx}{iter:aF}{N:am}{wi:TI}{g:TG}{tc:TT}{te:TE}(S:CpScope X scope N cap)(hok:∀C s₀ H₀ ex,(∀a o u,X.H₀ a=some (.frz o u)->H₀ a=some (.frz o u))->ok (gq X scope N C s₀ H₀ ex))(hi:Ji ok X tg iter wi)
  (hg:∀C s₀ H₀ ex,PG (gq X scope N C s₀ H₀ ex) tg g) (ht:∀C s₀ H₀ ex,BI (gq X scope N C s₀ H₀ ex) ifs tc) (he:∀C s₀ H₀ ex,PE (gq X scope N C s₀ H₀ ex) elt te)
  (hs:∀x,foldedSetIterable iter X.env x=pure x:=by intro _;rfl):PE X (.ListComp elt [⟨tg,iter,ifs,0⟩] scope pos) (HD cap wi g tc te):=by
 kt_k;rw[eval_ListComp];exact B5 (use:=none) (Q':=EP X pins σ Q) S hok hi hg ht he hs pins s σ H Q I h λj C D f m hn k inv q v=>⟨m,hn,λh' d=>⟨.ref D,f,inv h' d,rfl,q⟩⟩
def F9{X:Cx}{iter:aF}{N:am}{wi:TI}{g:TG}{tc:TT}{te:TE}(hc:X.calm=true)(S:CpScope X scope N cap)(hi:PI X tg iter wi)
  (hg:∀C s₀ H₀ ex,PG (gq X scope N C s₀ H₀ ex) tg g) (ht:∀C s₀ H₀ ex,BI (gq X scope N C s₀ H₀ ex) ifs tc) (he:∀C s₀ H₀ ex,PE (gq X scope N C s₀ H₀ ex) elt te)
  (hs:∀x,foldedSetIterable iter X.env x=pure x:=by intro _;rfl):PE X (.ListComp elt [⟨tg,iter,ifs,0⟩] scope pos) (HD cap wi g tc te):=
 FW S (λ_ _ _ _ _=>hc) hi.g hg ht he hs
section
variable {X:Cx}
def qE:fU X (.builtin "sorted") (λxs H Q=>∃(p:ak) (ns:ae),xs=[.ref p]/\(i_ X.K H p (ns.map V.int)\/iT X.K H p (ns.map V.int))/\ns.length<64 /\
  ∀l (ns':ae),H l=none->ns'.Perm ns->ns'.Pairwise (·<=·)->Q (.ref l) (upd H l<|.lst<|ns'.map V.int)):=by
 k_ne;obtain⟨p,ns,rfl,k,O,q⟩:=h;kpc_g
 cases rx
 have N:∀(d:ap) (T:String) (o:Obj) (n:Nat),(T = "list" \/ T = "tuple")->s.heap.get? p=some o->o.cls=.type T->o.data=.seq d.toArray n->Vals (ns.map V.int) d ->
   wpAny (model X.prog X.w) X.A (call (.builtin "sorted") [.ref p]) (EP X pins σ Q) X.xe s:=by
  intro d T o n W z f B j;have P:=intsAre_of j;have C:d.length=ns.length:=by have:=j.length;rw[aP]at this;exact this.symm
  refine Calls.call_function_entry kind_sorted plain_sorted entry_sorted (args_sorted1 _) ?_;unfold Builtin.«sorted»;refine aO (m:=checkCount "sorted" 1 1 _)<|aZ ?_;refine aO (wpAny_collect_seq p W z f B (λh' Y=>?_)<|by rw[aQ,C,bW];lia);refine aO<|wpAny_newList ?_;have g:(h'.push<|seqObj "list" d.toArray 0).get? h'.objs.size=some (seqObj "list" d.toArray 0):=bA _ rfl
  skip
  refine aO<|cZ<|wpAny_call_entry slot_list_sort ⟨_,g,rfl⟩ entry_list_sort (list_sort_tree g P () λout ns' a1 a2 a3=>⟨_,rfl,?_⟩)<|args_list_sort _;obtain⟨e,U⟩:=sortedHeap_at (out:=out) g;have J:ns'.length=ns.length:=a2.length_eq;have M:Inv X pins σ H { s with heap:=h' }:=I.kept (t':=s.toks) Y;have old:∀b F,h'.get? b=some F->(sortedHeap (h'.push<|seqObj "list" d.toArray 0) h'.objs.size d out).get? b=some F:=λb F L=>by
   rw[sortedHeap_old (bF<|aX L)<|by rw[cU];exact Nat.lt_succ_of_lt<|aX L];exact aS _ L
  refine aZ ⟨_,rfl,.ref h'.objs.size,_,M.laid (t':=s.toks) (o:=.lst<|ns'.map V.int) old (aK _) ?_,rfl,q _ ns' (M.hok.fresh<|aK _) a2 a3⟩;refine⟨by rw[aP,J,bW];lia,out.toList,e,m_ a1,?_⟩;rw[U]
 rcases k with k|k
 ·obtain⟨d,j,G,Z⟩:=I.list k;obtain⟨o,z,f,n,B⟩:=G.isList;exact N d "list" o n (.inl rfl) z f B j
 ·obtain⟨d,j,G,Z⟩:=I.tuple k;obtain⟨o,z,f,n,B⟩:=G;exact N d "tuple" o n (.inr rfl) z f B j
def Ew:jt X (compareOp .Is) (λx y H Q=>∃a b,x=.bl a/\y=.bl b/\Q (.bl<|a == b) H):=by
 x_go;obtain⟨a,b,rfl,rfl,q⟩:=h
 cases rx;cases ry
 exact is_bool ⟨.bl _,H,I,rfl,q⟩
def qH:fU X (.type "range") (λxs H Q=>∃i j,xs=[.int i,.int j]/\∀p,H p=none->Q (.ref p) (upd H p<|.rng i j)):=by
 k_ne;obtain⟨i,j,rfl,q⟩:=h;obtain⟨u,f,rfl,⟨t,rfl⟩,⟨d,rfl⟩⟩:=vals2 r;refine call_range_2 ⟨.ref s.heap.objs.size,_,I.laid (o:=.rng i j) (λb o e=>aS _ e) (aK _) ?_,rfl,q _ I.fresh⟩;exact⟨t,d,s.toks,bA _ rfl⟩
abbrev fj (i j:Int):ae:=(List.range (j-i).toNat).map λk:Nat=>i+(k:Int)
def fQ(i j:Int):(fj i j).length=(j-i).toNat:=by unfold fj;rw[aP,List.length_range]
def oW{i:Int}{n:Nat}{acc:Array aa}(h:ItemsOf (λk v=>∃t,v=Value.int (i+(k:Int) * 1) t) acc n):Vals (((List.range n).map λk:Nat=>i+(k:Int)).map V.int) acc.toList:=by
 obtain⟨hs,hv⟩:=h;have d:∀(l:ap) (b:Nat),(∀j v,l[j]?=some v->∃t,v=Value.int (i+((b+j:Nat):Int)) t)->Vals (((List.range' b l.length).map λk:Nat=>i+(k:Int)).map V.int) l:=by
  intro l
  induction l with
  | nil=>intro b _;exact .nil
  | cons v l g=>
   intro b f;rw[bE,cI,cQ,cQ];refine .cons ?_ ?_
   ·obtain⟨t,e⟩:=f 0 v rfl;exact⟨t,by rw[e];simp⟩
   ·refine g (b+1) λj w hw=>?_;obtain⟨t,e⟩:=f (j+1) w hw;exact⟨t,by rw[e,show b+(j+1)=b+1+j by lia]⟩
 have:=d acc.toList 0 λj v m=>by
  obtain⟨t,e⟩:=hv j v (by simpa using m);exact⟨t,by rw[e,Nat.zero_add,Int.mul_one]⟩
 rw[bR,hs,<- cy]at this;exact this
def xK{i j:Int}:Builtin.Range.rangeSize i j 1=(((j-i).toNat:Nat):Int):=by rw[rangeSize_one];split<;>omega
def pK(hc:X.calm=true):fU X (.type "list") (λxs H Q=>∃p i j,xs=[.ref p]/\H p=some (.rng i j)/\(-(2 ^ 62)<=i/\i<2 ^ 62/\-(2 ^ 62)<=j/\j<2 ^ 62)/\(j-i).toNat<=1000/\∀l,H l=none->Q (.ref l) (upd H l<|.lst<|(fj i j).map V.int)):=by
 k_ne;obtain⟨p,i,j,rfl,B,⟨g,z,G,k⟩,hn,q⟩:=h;kpc_g
 cases rx
 obtain⟨t,K,v,e⟩:=I.hok p _ B;refine call_list_range (n:=(j-i).toNat) (I.ok.hd hc) e (small_one g z G k) xK () λh' J f C m F d=>?_;refine⟨.ref s.heap.objs.size,_,I.laid (o:=.lst<|(fj i j).map V.int) m (aK _) ⟨?_,f.toList,C,oW d,by rw[F]⟩,rfl,q _ I.fresh⟩;rw[aP,fQ,bW];lia
end
section
variable {X:Cx}
def sN{prog:aj}{w:af}{A:aC}{E:aa->aE->Prop}{s:aE}{Q:ap->aE->Prop}{r:ak}{a b c:Int}{v:Tok}{n:Nat}(hh:A.handled=none)(hr:IsRange s.heap r a b c t u v)(hsmall:Builtin.Range.small a b c=true)
  (hn:Builtin.Range.rangeSize a b c=n) (hlen:n<=2 ^ 24)
  (hQ:∀h' tk (acc':Array aa),(∀b o,s.heap.get? b=some o->h'.get? b=some o)->ItemsOf (λi v=>∃t,v=.int (a+i * c) t) acc' n->Q acc'.toList { s with heap:=h',toks:=tk }) :
  wpAny (model prog w) A (collect<|.ref r) Q E s:=by
 unfold collect;refine aO<|wpAny_runValue<|codeAny_builtin F.entry_proto_collect ?_;rw[Around.under_plainId F.plain_proto_collect _]
 skip
 refine aO<|bZ ?_;refine aZ ⟨plainId_quiet F.plain_list_iadd _,codeAny_builtin F.entry_list_iadd ?_⟩;rw[Around.under_plainId F.plain_list_iadd _]
 skip
 have B:(s.heap.push {}).get? s.heap.objs.size=some { cls:=.type "list",data:=.seq #[] 0 }:=bA _ rfl;have k:∀(h':au) (tk:Nat) (acc':Array aa) (j:Nat),(∀b o,b≠s.heap.objs.size->(s.heap.push {}).get? b=some o->h'.get? b=some o) ->
   h'.get? s.heap.objs.size=some { cls:=.type "list",dict:=none,data:=.seq acc' j,slots:=#[]}->ItemsOf (λi v=>∃t,v=.int (a+i * c) t) acc' n ->
   wpAny (model prog w) A (match Value.ref s.heap.objs.size with
   | Value.ref a=>do
    match (<- load a).data with
     | Data.seq xs _=>pure xs.toList
     | _=>unsupported "internal:collect"
   | _=>unsupported "internal:collect") Q E { s with heap:=h',toks:=tk }:=by
  intro h' tk acc' j m g d
  skip
  refine aO<|wpAny_load g ?_;refine aZ ?_;exact hQ h' tk acc' (λb o e=>m b o (bF<|aX e)<|aS _ e) d
 refine c_ (wpAny_extend_range (A:=A) (R:=λz s'=>z=.ok (.ret<|.ref s.heap.objs.size)/\∃h' tk acc' j,s'={ s with heap:=h',toks:=tk }/\(∀b o,b≠s.heap.objs.size->(s.heap.push {}).get? b=some o->h'.get? b=some o) /\
   h'.get? s.heap.objs.size=some { cls:=.type "list",dict:=none,data:=.seq acc' j,slots:=#[]}/\ItemsOf (λi v=>∃t,v=.int (a+i * c) t) acc' n)
  (s:={ s with heap:=s.heap.push {}}) hh (aS _ hr) hsmall hn hlen s.heap.objs.size (.ref s.heap.objs.size) 0 B
  (λh' tk acc' j m g d=>⟨rfl,h',tk,acc',j,rfl,m,g,d⟩)) (λp s' h=>?_) λe s' h=>?_
 ·cases p with
  | done f=>
   obtain⟨e,h',tk,acc',j,rfl,m,g,d⟩:=h
   cases e
   exact k h' tk acc' j m g d
  | again j=>exact⟨h.1,ee h.2 λr q hr=>by
    obtain⟨rfl,h',tk,acc',j,rfl,m,g,d⟩:=hr;exact k h' tk acc' j m g d⟩
 ·exact absurd h.1<|by simp
def lA(l:ak){a b:Int}{v:Tok}{n:Nat}(hsmall:Builtin.Range.small a b 1=true)
  (hn:Builtin.Range.rangeSize a b 1=n) (hlen:n<=1000) :
  Meets (Builtin.«tuple.__new__» ⟨[.type "tuple",.ref l],[]⟩)
   (λA R s=>A.handled=none/\IsRange s.heap l a b 1 t u v/\∀(h':au) (tk:Nat) (acc':Array aa),(∀b o',s.heap.get? b=some o'->h'.get? b=some o')->ItemsOf (λi v=>∃t,v=.int (a+i * 1) t) acc' n->R (.ok<|.ret<|.ref h'.objs.size) { s with heap:=h'.push { cls:=.type "tuple",data:=.seq acc' },toks:=tk }):=
 .of_wp λprog w A R s h=>by
  obtain⟨C,g,d,tk,G⟩:=s;obtain⟨F,p,h⟩:=h;have q:=sub_tuple_self;have k:=init_tuple_lookup;have J:=madeHere_tuple;have z:Shared.TypeIs ⟨C,g,d,tk,G⟩ (.ref l) "range" := ⟨_,p,rfl⟩;have j:A.in1.handled=none:=F
  wp_walk using AutoSeq1.wpAny_loadPart' p,wpAny_typeOf z,sN (A:=A.in1) j p hsmall hn (by omega)
  intro h' m acc' B f;show wpAny _ _ (Builtin.Tuple.tupleExact acc'.toList.toArray >>= λv=>ret v) _ _ _;unfold Builtin.Tuple.tupleExact;have e:acc'.toList.toArray=acc':=by simp
  refine aO (bZ ?_<|by show acc'.toList.toArray.size<=sizeLine;rw[e,f.1,bW];omega);refine aZ ⟨_,rfl,?_⟩;rw[e];exact h h' m acc' B f
def n9(hc:X.calm=true):fU X (.type "tuple") (λxs H Q=>∃p i j,xs=[.ref p]/\H p=some (.rng i j)/\(-(2 ^ 62)<=i/\i<2 ^ 62/\-(2 ^ 62)<=j/\j<2 ^ 62)/\(j-i).toNat<=1000/\∀l,H l=none->Q (.ref l) (upd H l<|.tup<|(fj i j).map V.int)):=by
 k_ne;obtain⟨p,i,j,rfl,J,⟨z,G,K,B⟩,hn,q⟩:=h;kpc_g
 cases rx
 obtain⟨t,L,v,e⟩:=I.hok p _ J;refine callType_new F.called_tuple ⋯ (F.typeCall_tuple_1 _) (F.newCall_tuple_1 _) (λg=>F.args_object_init_2 g _) F.entry_tuple_new
  (lA (n:=(j-i).toNat) p (small_one z G K B) xK hn) ⟨I.ok.hd hc,e,λh' k d C f=>⟨⟨_,bA _ rfl,rfl⟩,?_⟩⟩
 have m:Inv X pins σ H { s with heap:=h',toks:=k }:=I.kept C;refine⟨.ref h'.objs.size,_,m.laid (t':=k) (o:=.tup<|(fj i j).map V.int) (λb o e=>aS _ e) (aK _) ⟨?_,d.toList,oW f,?_⟩,rfl,q _<|m.hok.fresh<|aK _⟩
 ·rw[aP,fQ,bW];lia
 ·have e:d.toList.toArray=d:=by simp
  rw[e];exact iW.new _ _
abbrev EJ (K:aA):R2:=λx y H Q=>∃a b ys,x=.ref a/\y=.ref b/\iT K H a []/\iT K H b ys/\Q (.ref b) H
def zD:jt X (binaryOp .Add) (EJ X.K):=by
 x_go;obtain⟨a,b,ys,rfl,rfl,h1,F,q⟩:=h
 cases rx
 cases ry
 obtain⟨us,r1,p1,_⟩:=I.tuple h1;obtain⟨C,r2,p2,_⟩:=I.tuple F
 cases r1
 obtain⟨⟨cls,L,data,G⟩,z,hc,n,B⟩:=id p1;obtain⟨⟨p,j,k,m⟩,g,f,J,d⟩:=id p2;simp only at hc B f d;subst hc B f d;exact concat_meets ⟨_,z,rfl⟩ ⟨_,g,rfl⟩ noFill_tuple_add seq_tuple_add dz di (c5 _ _)
   (tuple_addW0 a b _ C.toArray n J L j G m<|by simp) ⟨z,g,⟨.ref b,H,I,rfl,q⟩⟩
end
def gW:bootBuiltins "len" = some (.builtin "len"):=by decide +kernel
def E1:bootBuiltins "abs" = some (.builtin "abs"):=by decide +kernel
def yx:bootBuiltins "max" = some (.builtin "max"):=by decide +kernel
def Fq:bootBuiltins "min" = some (.builtin "min"):=by decide +kernel
def w6:bootBuiltins "sorted" = some (.builtin "sorted"):=by decide +kernel
def wC:bootBuiltins "list" = some (.type "list"):=by decide +kernel
def kU:bootBuiltins "tuple" = some (.type "tuple"):=by decide +kernel
def oS:bootBuiltins "range" = some (.type "range"):=by decide +kernel
structure Blt (mg:Str->aw):Prop where
 len:mg "len" = none
 abs:mg "abs" = none
 all:mg "all" = none
 any:mg "any" = none
 max:mg "max" = none
 min:mg "min" = none
 sorted:mg "sorted" = none
 isinstance:mg "isinstance" = none
 int:mg "int" = none
 bool:mg "bool" = none
 str:mg "str" = none
 list:mg "list" = none
 tuple:mg "tuple" = none
 range:mg "range" = none
def B_:∀{a b:ae},a.Perm b->a.Pairwise (·<=·)->b.Pairwise (·<=·)->a=b:=λp d f=>
 List.Perm.eq_of_pairwise (λx y _ _ h1 g=>eV h1 g) d f p
def CI(i j:Int):(fj i j).Pairwise (·<=·):=by
 unfold fj;rw[List.pairwise_map];exact List.pairwise_lt_range.imp λh=>()
def iD(i j:Int):(fj i j).Nodup:=by
 unfold fj;rw[List.Nodup,List.pairwise_map];exact List.pairwise_lt_range.imp λh=>()
def fM{i j k:Int}:k∈fj i j ↔ i<=k/\k<j:=by
 unfold fj;rw[dF];constructor
 ·rintro⟨a,d,rfl⟩;have:=eo.mp d;omega
 ·rintro⟨h1,f⟩;exact⟨(k-i).toNat,eo.mpr<|by omega,by omega⟩
theorem jA:∀{l m:ae},l.Nodup->(∀x∈l,x∈m)->m.length<=l.length->l.Perm m
 | [],m,_,_,h=>by
  have:m=[]:=dj.mp<|Nat.le_zero.mp h;rw[this]
 | a::l,m,nd,hs,hl=>by
  have g:a∈m:=hs a a_;have d:=cu.mp nd;have p:m.Perm (a::m.erase a):=List.perm_cons_erase g;have k:=jA (l:=l) (m:=m.erase a) d.2 (λx j=>by
   have f:x≠a:=λe=>d.1<|e ▸ j;exact(List.mem_erase_of_ne f).mpr (hs x<|aU _ j)) (by
   rw[List.length_erase_of_mem g];dsimp[bE]at hl;omega)
  exact(List.Perm.cons a k).trans p.symm
abbrev Kn (P:aj)(w:af)(K:aA)(mg:Str->aw)(base:au)(k:Nat)(x:Str)(ps:am)(sp:Sp):Prop:=
 ∃(f:ak) (fd:FuncData),FnOk P w K mg base l8 k f fd ps sp/\mg x=some (.ref f)/\PySem.W.keepIn K (.ref f)=true/\Binds K fd ps []
def Gh{X:Cx}{k:Nat}{x:Str}{sp:Sp}{t:TA}{p:Pos}(G:Kn X.prog X.w X.K X.mg X.base k x ps sp)(hr:Room k X.A)(ha:PA X (e::es) t)(hg:Gl X x:=by rfl)
  (hdb:(x == ("__debug__" : Str))=false:=by decide) (hs:starEach (e::es) X.env=(false,eval e X.env)::starEach es X.env:=by rfl) (hplain:(backTo pos<|starEach es X.env).any (·.1)=false:=by rfl) :
  PE X (.Call (.Name x p) (e::es) [] pos) (CS sp [] E0 t):=by
 obtain⟨f,fd,F,d,g,j⟩:=G;exact CF F hr hg d g j .nil Hh ha hdb hs hplain
abbrev om (XN fs:am):am->List (bj)->Prop
 | [],[]=>True
 | _::N,none::c=>om XN fs N c
 | x::N,some j::c=>XN[j]?=some x/\x∈fs/\om XN fs N c
 | _,_=>False
theorem om.len{fs:am}:∀{N:am}{c:List<|bj},om XN fs N c->c.length=N.length
 | [],[],_=>rfl
 | _::N,none::c,h=>cY (·+1) (om.len (N:=N) (c:=c) h)
 | _::N,some j::c,h=>cY (·+1) (om.len (N:=N) (c:=c) h.2.2)
 | [],_::_,h=>h.elim
 | _::_,[],h=>h.elim
theorem om.cp{fs:am}:∀{N:am}{c:List<|bj},om XN fs N c->∀(i j:Nat) (x:Str),N[i]?=some x->c[i]?=some (some j)->XN[j]?=some x/\x∈fs
 | [],[],_,i,j,x,h1,_=>by simp at h1
 | y::N,none::c,h,i,j,x,h1,h2=>by
  cases i with
  | zero=>simp at h2
  | succ i=>exact om.cp (N:=N) (c:=c) h i j x (by simpa using h1)<|by simpa using h2
 | y::N,some k::c,h,i,j,x,h1,h2=>by
  cases i with
  | zero=>
   simp at h1 h2;subst h1 h2;exact⟨h.1,h.2.1⟩
  | succ i=>exact om.cp (N:=N) (c:=c) h.2.2 i j x (by simpa using h1)<|by simpa using h2
 | [],_::_,h,_,_,_,_,_=>h.elim
 | _::_,[],h,_,_,_,_,_=>h.elim
def rU{X:Cx}{scope:Scope}{N:am}(fs:am)(kind:scope.kind=.function)(nocf:∀y∈scope.names,y.2=.cell->scope.names.lookup y.1=some .cell/\(y.1,NameKind.free)∉scope.names)(nm:∀y∈scope.names,y.2=.local->scope.names.lookup y.1=some .local)
  (nolf:∀y∈scope.names,y.2=.free->scope.names.lookup y.1≠some .local) (hf:∀y∈scope.names,y.2=.free->y.1∈fs) (hfs:∀x∈fs,(x,NameKind.free)∈scope.names) (hk:∀x∈fs,X.env.kindOf x=some .cell\/X.env.kindOf x=some .free) (cp:om X.N fs N cap):CpScope X scope N cap where
 kind:=kind
 nocf:=λx hf hc=>(nocf (x,.cell) hc rfl).2 hf
 nm:=nm
 fr:=λy hy e=>hk _ (hf y hy e)
 rl:=λy h=>by
  have g:∀k,(k=NameKind.cell\/k=NameKind.free)->(relabel scope X.env).names.lookup y=some k->(y,NameKind.free)∈scope.names\/scope.names.lookup y=some .cell:=λk hk e=>by
   obtain⟨⟨z,q⟩,f,d⟩:=dF.mp<|o4 e;dsimp only at d;split at d
   ·rename_i hc
    cases d
    have:q=.free:=by
     dsimp[cF]at hc;simpa using hc.1.1
    subst this;exact .inl f
   ·cases d
    rcases hk with rfl|rfl
    ·exact .inr (nocf _ f rfl).1
    ·exact .inl f
  rcases h with h|h
  ·exact g _ (.inl rfl) h
  ·exact g _ (.inr rfl) h
 len:=cp.len
 nolf:=λx p=>nolf (x,.free) p rfl
 cp:=λi j x h1 m=>by
  obtain⟨a,b⟩:=cp.cp i j x h1 m;exact⟨a,hfs x b⟩
inductive Kd where
 | non|bl|int|str|lst|tup
 deriving DecidableEq
abbrev Kd.ty:Kd->aa
 | .non=>.type "NoneType" | .bl=>.type "bool" | .int=>.type "int" | .str=>.type "str" | .lst=>.type "list" | .tup=>.type "tuple"
section
variable {X:Cx}
def xE(hc:X.calm=true):fU X (.builtin "max") (λxs H Q=>∃(p:ak) (ns:ae),xs=[.ref p]/\i_ X.K H p (ns.map V.int)/\0<ns.length/\∀M,M∈ns->(∀a∈ns,a<=M)->Q (.int M) H):=by
 k_ne;obtain⟨p,ns,rfl,G,g,q⟩:=h;kpc_g
 cases rx
 obtain⟨L,B,F,P⟩:=I.list G;have hi:=intsAre_of B;have z:=F.isList;obtain⟨ys,e⟩:=hi.allInts.items;have d:ns=ys.toList.map (·.1):=by
  rw[<- hi.numsOf,<- nums_intItems,<- e]
 have f:0<ys.size:=by
  have m:=g;rw[d,aP,bR]at m;exact m
 rw[e]at z;refine max_intList (I.ok.hd hc) z f λv h' O hv J=>?_;obtain⟨t,rfl⟩:=intItems_at hv;obtain⟨h1,C⟩:=argBest_gt (numAt ys)<|ys.size-1;refine⟨.int _,H,I.kept J,⟨t,rfl⟩,q _ ?_ λa k=>?_⟩
 ·rw[d,numAt_eq];exact getD_mem (by rw[aP,bR];lia)
 ·rw[d]at k;obtain⟨j,N,rfl⟩:=mem_getD k;rw[aP,bR]at N;rw[<- numAt_eq];exact C j ()
end
section
variable {X:Cx}
abbrev GH (K:aA):V->V->Hp->VK->Prop:=λo i H Q=>∃p xs k v,o=.ref p/\i=.int k/\i_ K H p xs/\0<=k/\xs[k.toNat]?=some v/\Q v H
def xO:Fv X (GH X.K):=by
 intro pins s σ H o i G C Q I m z h;obtain⟨p,xs,k,v,rfl,rfl,g,h0,hv,q⟩:=h
 cases m
 obtain⟨t,rfl⟩:=z;obtain⟨j,r,f,J⟩:=I.list g;obtain⟨u,B,d⟩:=r.get hv;have L:=r.length;have hn:=k8;have F:k.toNat<xs.length:=(aI.mp hv).1;exact wpAny_getItem_list f.isList h0 () (by simpa using B) ⟨v,H,I,d,q⟩
end
def qF(elt t1 i1 t2 i2:aF)(f1 f2:List aF)(scope:Scope)(pos:Pos)(it acc:aa)(env:Env) :
  compTurn (.ListComp elt [⟨t1,i1,f1,0⟩,⟨t2,i2,f2,0⟩] scope pos) 0 it acc env=(do
   standAt i1.pos
   match <- pyNext it with
   | none=>pure (.done .next)
   | some v=>
    letOwnedTupleGo t1 it v
    assign t1 env v
    let mut ok:=true
    for c in f1 do
     if ok then ok <- isTrue c env (eval c env)
    if ok then
     let x <- eval i2 env
     standAt i2.pos
     let x <- foldedSetIterable i2 env x
     let _ <- runOwn (.compStart (.ListComp elt [⟨t1,i1,f1,0⟩,⟨t2,i2,f2,0⟩] scope pos) 1 (<- holding [x] (pyIter x)) acc env) env
    again (.compLoop (.ListComp elt [⟨t1,i1,f1,0⟩,⟨t2,i2,f2,0⟩] scope pos) 0 it acc env)):=by rfl
def qt(elt t1 i1 t2 i2:aF)(f1 f2:List aF)(scope:Scope)(pos:Pos)(it acc:aa)(env:Env) :
  compTurn (.ListComp elt [⟨t1,i1,f1,0⟩,⟨t2,i2,f2,0⟩] scope pos) 1 it acc env=(do
   standAt i2.pos
   match <- pyNext it with
   | none=>pure (.done .next)
   | some v=>
    letOwnedTupleGo t2 it v
    assign t2 env v
    let mut ok:=true
    for c in f2 do
     if ok then ok <- isTrue c env (eval c env)
    if ok then
     (do let _ <- call (.builtin "list.append") [acc,<- eval elt env])
    again (.compLoop (.ListComp elt [⟨t1,i1,f1,0⟩,⟨t2,i2,f2,0⟩] scope pos) 1 it acc env)):=by rfl
section
variable {prog:aj}{w:af}{A:aC}{R:Result->aE->Prop}{s:aE}
def kD{f1 f2:List aF}{env:Env}
  (h0:codeAny (model prog w) A (.compLoop (.ListComp elt [⟨t1,i1,f1,0⟩,⟨t2,i2,f2,0⟩] scope pos) 1 it acc env) R s)
  (h:wpAny (model prog w) A (pyIter it) (λit' s'=>codeAny (model prog w) A (.compLoop (.ListComp elt [⟨t1,i1,f1,0⟩,⟨t2,i2,f2,0⟩] scope pos) 1 it' acc env) R s')
   (notedBy (model prog w) A env λx s'=>R (.error x) s') s) :
  codeAny (model prog w) A (.compStart (.ListComp elt [⟨t1,i1,f1,0⟩,⟨t2,i2,f2,0⟩] scope pos) 1 it acc env) R s:=by
 refine codeAny_of_tree ?_
 skip
 refine wpAny_notedAt ?_;unfold compStart
 skip
 refine aO<|wpAny_askSetting<|wpAny_ite ?_;split
 ·first
   | exact aO (aZ<|aZ<|anI rfl h0)
   | exact aZ<|anI rfl h0
 ·first
   | exact aO (wpAny_rule<|aO<|cP<|aO<|c_ h (λit' s' h'=>aZ<|anI rfl h') λ_ _ x=>x)
   | (refine aO<|wpAny_rule ?_;show wpAny _ _ (standAt i2.pos >>= _) _ _ s;exact aO<|cP<|aO<|c_ h (λit' s' h'=>aZ<|anI rfl h') λ_ _ x=>x)
end
abbrev y9 (g:TG)(tc:TT)(te:TE)(D:ak)(Nn:L2.St->Hp->Prop)(σ:L2.St)(J:It)(H1:Hp):Prop:=
 ∃V:Nat->Nat->L2.St->Hp->Prop,(∃m,V 0 m σ H1)/\∀i m f H',V i m f H' ->
  (J.stop i H'/\Nn f H')\/(J.go i H'/\∀x H2,J.yld i H' x H2->g x f H2 λd q=>tc d q λb p=>
   if b=true then te d p λy k=>∃ys,k D=some (.lst ys)/\ys.length<sizeLine/\∃j,j<m/\V (i+1) j d (upd k D<|.lst<|ys++[y])
   else ∃j,j<m/\V (i+1) j d p)
def sS{Z:Cx}{f1:List aF}{fp:ar}{tn:Nat->au->Prop}{H:Hp}{s:aE}{g:TG}{tc:TT}{te:TE}{Nn:L2.St->Hp->Prop}
  (hc:Z.calm=true) (hxe:Z.xe=λ_ _=>False) (T:Turn Z.prog Z.w Z.K tg J fp it tn) (I:Inv Z pins σ H s) (st:tn 0 s.heap) (hf:∀b∈fp,k6 Z pins H b) (hg:PG Z tg g) (ht:BI Z ifs tc) (he:PE Z elt te) (goal:y9 g tc te D Nn σ J H) :
  codeAny (model Z.prog Z.w) Z.A (.compLoop (.ListComp elt [⟨t1,i1,f1,0⟩,⟨tg,i2,ifs,0⟩] scope pos) 1 (.ref it) (.ref D) Z.env) (λr s'=>r=.ok .next/\∃σ' H',Inv Z pins σ' H' s'/\Nn σ' H') s:=by
 obtain⟨V,⟨m0,v0⟩,O⟩:=goal;have B:∀{H':Hp},(∀b∈fp,H' b=none)->∀b∈fp,k6 Z pins H' b:=λhn b F=>⟨hn b F,(hf b F).2⟩;refine codeAny_loop rfl (λn s'=>∃i σ' H',Inv Z pins σ' H' s'/\tn i s'.heap/\(∀b∈fp,H' b=none)/\V i n σ' H') (λn s5 hI=>?_) m0 ⟨0,σ,H,I,st,λb F=>(hf b F).1,v0⟩;obtain⟨i,z,Y,I5,N,P,w5⟩:=hI
 skip
 refine wpAny_noted ?_;rw[qt];refine aO (cP<|aO ?_)
 rcases O i n z Y w5 with⟨U,q⟩|⟨go,step⟩
 ·refine gC (T.done Z rfl rfl rfl hc i pins s5 z Y _ I5 (B P) N U) λr s6 h9=>?_;obtain⟨hr,I6⟩:=h9;subst hr;exact aZ ⟨rfl,z,Y,I6,q⟩
 ·refine gC (T.item Z rfl rfl rfl hc i pins s5 z Y _ I5 (B P) N go) λr s6 h9=>?_;obtain⟨u,hr,h6⟩:=h9;subst hr;refine aO<|gC h6 λ_ s7 ⟨x,H7,I7,r7,y7,L,fr7⟩=>?_;have I7':=I7.pinned (B fr7)<|T.obj _ _ L;have C:∀{α:Type} {t:Sem α} {Q Q':α->aE->Prop} {E:aa->aE->Prop} {s:aE},wpAny (model Z.prog Z.w) Z.A t Q Z.xe s->(∀a s,Q a s->Q' a s)->wpAny (model Z.prog Z.w) Z.A t Q' E s:=λh hQ=>by
   rw[hxe]at h;exact qh h hQ
  refine aO<|C (hg _ s7 z H7 x u _ I7' r7<|step x H7 y7) λ_ s8 ⟨k,H8,I8,q8⟩=>?_;refine aO<|C (ht _ s8 k H8 _ I8 q8) λok s9 ⟨H9,I9,W⟩=>?_;have again:∀{j:aE} {f:Hp},Inv Z (pins++lV fp s7.heap) k f j->(∃m',m'<n/\V (i+1) m' k f) ->
    ∃m,m<n/\∃i σ' H',Inv Z pins σ' H' j/\tn i j.heap/\(∀b∈fp,H' b=none)/\V i m σ' H':=λ{j f} p h9=>by
   obtain⟨m',hm,G⟩:=h9;refine⟨m',hm,i+1,k,f,p.jZ,T.keep _ _ _ L λb F o e=>(p.pin (b,o)<|aW _<|aW _<|gG F e).1,λb F=>?_,G⟩;obtain⟨o,e,d⟩:=T.obj _ _ L b F;exact(p.pin (b,o)<|aW _<|aW _<|gG F e).2.1
  cases ok with
  | false=>
   rw[aT bf]at W;exact aZ ⟨rfl,again I9 W⟩
  | true=>
   rw[aR rfl]at W;refine aO<|aO<|C (he _ s9 k H9 _ I9 W) λy j ⟨M,f,p,r10,ys,hD,hz,G⟩=>?_;refine aO<|C (m7 _ j k f (.ref D) [M] _ [y] (λ_ H'=>H'=upd f D (.lst<|ys++[M])) p rfl (.cons r10 .nil) ⟨_,ys,M,rfl,rfl,hD,hz,rfl⟩) λ_ s11 ⟨_,H11,I11,_,e11⟩=>?_;subst e11;exact aZ<|aZ ⟨rfl,again I11 G⟩
abbrev CB (cap:List<|bj)(g:TG)(tc:TT)(wi2:TI)(g2:TG)(tc2:TT)(te:TE)(σ:L2.St)(Q:VK)(J:It)(H1:Hp):Prop:=∀D,H1 D=none ->
 ∃W:Nat->Nat->L2.St->Hp->Prop,(∃m,W 0 m (cap.map<|Cg σ)<|upd H1 D<|.lst [])/\∀i m j H',W i m j H' ->
  (J.stop i H'/\Q (.ref D) H')\/(J.go i H'/\∀x H2,J.yld i H' x H2->g x j H2 λd q=>tc d q λb p=>
   if b=true then wi2 d p (y9 g2 tc2 te D (λk z=>∃f,f<m/\W (i+1) f k z) d)
   else ∃f,f<m/\W (i+1) f d p)
abbrev Jd (cap:List<|bj)(wi:TI)(g:TG)(tc:TT)(wi2:TI)(g2:TG)(tc2:TT)(te:TE):TE:=λσ H Q=>wi σ H<|CB cap g tc wi2 g2 tc2 te σ Q
def Ft{X:Cx}{iter:aF}{N:am}{wi wi2:TI}{g g2:TG}{tc tc2:TT}{te:TE}(hc:X.calm=true)(S:CpScope X scope N cap)(hi:PI X tg iter wi)
  (hg:∀C s₀ H₀ ex,PG (gq X scope N C s₀ H₀ ex) tg g) (ht:∀C s₀ H₀ ex,BI (gq X scope N C s₀ H₀ ex) ifs tc) (hi2:∀C s₀ H₀ ex,PI (gq X scope N C s₀ H₀ ex) tg2 iter2 wi2)
  (hg2:∀C s₀ H₀ ex,PG (gq X scope N C s₀ H₀ ex) tg2 g2) (ht2:∀C s₀ H₀ ex,BI (gq X scope N C s₀ H₀ ex) ifs2 tc2) (he:∀C s₀ H₀ ex,PE (gq X scope N C s₀ H₀ ex) elt te)
  (hs:∀x,foldedSetIterable iter X.env x=pure x:=by intro _;rfl) (hs2:∀env x,foldedSetIterable iter2 env x=pure x:=by intro _ _;rfl):PE X (.ListComp elt [⟨tg,iter,ifs,0⟩,⟨tg2,iter2,ifs2,0⟩] scope pos) (Jd cap wi g tc wi2 g2 tc2 te):=by
 kt_k;gp_on;rw[eval_ListComp];refine wpAny_comprehension_free (use:=none) rfl hs (oN hfree) S.kind S.nm<|gC (hi pins s σ H _ I h) λxv s1 h1=>gC h1 λitv f h2=>?_;obtain⟨it,fp,tn,J,H2,rfl,I2,T,st2,f2,h2⟩:=h2;refine bZ<|wk λU F old B=>?_;obtain⟨W,⟨m0,w0⟩,turn⟩:=h2 f.heap.objs.size I2.fresh;dsimp only at F old B ⊢;have I3:Inv X pins σ (upd H2 f.heap.objs.size<|.lst []) { f with heap:=f.heap.push {}}:=I2.B8 (t':=f.toks) (its:=[]) .nil<|dX _;have hfp:∀b∈fp,∃o,f.heap.get? b=some o:=λb j=>by
  obtain⟨o,e,_⟩:=T.obj 0 _ st2 b j;exact⟨o,e⟩
 have neD:∀b∈fp,b≠f.heap.objs.size:=λb j=>by
  obtain⟨o,e⟩:=hfp b j;exact bF<|aX e
 have f3:∀b∈fp,k6 X pins (upd H2 f.heap.objs.size<|.lst []) b:=λb j=>⟨by rw[fJ<|neD b j];exact(f2 b j).1,(f2 b j).2⟩;have hDC:f.heap.objs.size≠(f.heap.push {}).objs.size:=by rw[cU];exact bF (bQ _)
 have I4:=A6 (tk:=f.toks+([]:List<|Str×aa).length) (fp:=fp) S I3 f3 (λb j=>by
  obtain⟨o,e⟩:=hfp b j;exact⟨o,aS _ e⟩) F B old
 have st4:tn 0 U:=T.keep _ _ _ st2 λb j o e=>old b o<|aS _ e;have K:∀{H':Hp},(∀b∈fp,H' b=none)->∀b∈fp,k6 (gq X scope N (f.heap.push {}).objs.size { f with heap:=f.heap.push {}} (upd H2 f.heap.objs.size<|.lst []) fp) [] H' b:=λhn b j=>by
  have ok:=I4.ok;refine⟨hn b j,(ok.exf b j).1,ok.exfs b j,.inl j,λx c e=>(ok.exf b j).2 x c e,λp hp=>nomatch hp⟩
 have P:∀s4:aE,s4={ f with heap:=U,toks:=f.toks+([]:List<|Str×aa).length } ->
   codeAny (model X.prog X.w) X.A (.compLoop (.ListComp elt [⟨tg,iter,ifs,0⟩,⟨tg2,iter2,ifs2,0⟩] scope pos) 0 (.ref it) (.ref f.heap.objs.size)<|compEnvC scope (cellsFrom ((f.heap.push {}).objs.size+1) scope.names<|lB X.env scope.names []) (f.heap.push {}).objs.size X.env)
    (compPost (model X.prog X.w) X.A X.xe none (EP X pins σ Q) (.ref f.heap.objs.size) (f.heap.push {}).objs.size) s4:=by
  rintro s4 rfl;refine codeAny_loop rfl (λn s'=>∃i G H',Inv (gq X scope N (f.heap.push {}).objs.size { f with heap:=f.heap.push {}} (upd H2 f.heap.objs.size<|.lst []) fp) [] G H' s'/\tn i s'.heap/\(∀b∈fp,H' b=none)/\W i n G H') (λn s5 hI=>?_) m0 ⟨0,_,_,I4,st4,λb j=>(f3 b j).1,w0⟩;obtain⟨i,O,H5,I5,st5,fr5,w5⟩:=hI;show wpAny _ X.A ((compTurn (.ListComp elt [⟨tg,iter,ifs,0⟩,⟨tg2,iter2,ifs2,0⟩] scope pos) 0 (.ref it) (.ref f.heap.objs.size)<|compEnvC scope (cellsFrom ((f.heap.push {}).objs.size+1) scope.names<|lB X.env scope.names []) (f.heap.push {}).objs.size X.env).onRaise λx=>do noteFrame x _;theTreesLotGoes x) _ _ s5;refine wpAny_noted ?_;rw[qF];refine aO (cP<|aO ?_)
  rcases turn i n O H5 w5 with⟨stop,q⟩|⟨go,step⟩
  ·refine gC (T.done (gq X scope N (f.heap.push {}).objs.size { f with heap:=f.heap.push {}} (upd H2 f.heap.objs.size<|.lst []) fp) rfl rfl rfl hc i [] s5 O H5 _ I5 (K fr5) st5 stop) λr s6 h9=>?_;obtain⟨hr,I6⟩:=h9;subst hr;obtain⟨m6,hn6,_⟩:=I6.loc;refine aZ ⟨m6,hn6,λh' sb=>?_⟩;have u6:=I6.base;have nC:∀b o,(f.heap.push {}).get? b=some o->b≠(f.heap.push {}).objs.size:=λb o e=>bF<|aX e;refine⟨.ref f.heap.objs.size,H5,?_,rfl,q⟩;refine I3.Dv (ch:=fp) I6.os ⟨λb o e n j hx=>?_,λb o e n j hx=>?_,λb o e n hx=>?_,λb o e hx=>?_,u6.tups,u6.frzs,u6.tbls⟩ ?_ I6.bare ?_
   ·exact sb.extBut b o (nC b o e) (u6.keep b o e n j hx)
   ·obtain⟨sl,z⟩:=u6.slot b o e n j hx;exact⟨sl,sb.extBut b _ (nC b o e) z⟩
   ·exact u6.free b o e n hx
   ·obtain⟨o',z⟩:=u6.there b o e hx;exact⟨o',sb.extBut b _ (nC b o e) z⟩
   ·intro b o e;have j:∀c v,H5 c=some v->c≠(f.heap.push {}).objs.size:=λc v e z=>by
     rw[z]at e;have:=I6.free;rw[show H5 (f.heap.push {}).objs.size=none from this]at e
     cases e
    refine(I6.hok b o e).stay (λc v hc q=>sb.extBut c v ?_ q) (λ_ q=>q) λ_ _ q=>q
    rcases hc with z|z
    ·rw[z];exact j b o e
    ·exact j c _ z
   ·intro b j;obtain⟨_,z1,_,z3,z4,z5⟩:=f3 b j;exact⟨z3,z1,z4,z5⟩
  ·refine gC (T.item (gq X scope N (f.heap.push {}).objs.size { f with heap:=f.heap.push {}} (upd H2 f.heap.objs.size<|.lst []) fp) rfl rfl rfl hc i [] s5 O H5 _ I5 (K fr5) st5 go) λr s6 h9=>?_;obtain⟨u,hr,h6⟩:=h9;subst hr;refine aO<|gC h6 λ_ s7 ⟨x,H7,I7,r7,y7,st7,fr7⟩=>?_;have I7':=I7.pinned (K fr7)<|T.obj _ _ st7;refine aO<|qh (hg _ _ _ fp _ s7 O H7 x u _ I7' r7<|step x H7 y7) λ_ s8 ⟨σ8,H8,I8,q8⟩=>?_;refine aO<|qh (ht _ _ _ fp _ s8 σ8 H8 _ I8 q8) λok s9 ⟨H9,I9,q9⟩=>?_;have again:∀{L:aE} {M:Hp} {k:L2.St},Inv (gq X scope N (f.heap.push {}).objs.size { f with heap:=f.heap.push {}} (upd H2 f.heap.objs.size<|.lst []) fp) ([]++lV fp s7.heap) k M L->(∃m',m'<n/\W (i+1) m' k M) ->
     ∃m,m<n/\∃i G H',Inv (gq X scope N (f.heap.push {}).objs.size { f with heap:=f.heap.push {}} (upd H2 f.heap.objs.size<|.lst []) fp) [] G H' L/\tn i L.heap/\(∀b∈fp,H' b=none)/\W i m G H':=λ{L M k} I10 h9=>by
    obtain⟨m',hm,w10⟩:=h9;refine⟨m',hm,i+1,k,M,I10.jZ,T.keep _ _ _ st7 λb j o e=>(I10.pin (b,o)<|aW _<|aW _<|gG j e).1,λb j=>?_,w10⟩;obtain⟨o,e,d⟩:=T.obj _ _ st7 b j;exact(I10.pin (b,o)<|aW _<|aW _<|gG j e).2.1
   cases ok with
   | false=>
    rw[aT bf]at q9;exact aZ ⟨rfl,again I9 q9⟩
   | true=>
    rw[aR rfl]at q9;refine aO<|qh (hi2 _ _ _ fp _ s9 σ8 H9 _ I9 q9) λxv L h10=>aO<|cP ?_;rw[hs2];refine aO<|aZ<|aO<|cZ<|qh h10 λitv s11 h11=>?_;obtain⟨it2,fp2,tn2,J2,H11,rfl,Y,T2,V,f11,goal⟩:=h11;have hcz:=hc;have uw:=(λ(Z:Cx) (h1:Z.calm=true) (h2:Z.xe=λ_ _=>False) T2 Y=>sS (Z:=Z) (t1:=tg) (i1:=iter) (f1:=ifs) (i2:=iter2) (scope:=scope) (pos:=pos) h1 h2 T2 Y) _ (show(gq X scope N _ _ _ fp).calm=true from hcz) rfl T2 Y V f11 (hg2 _ _ _ fp) (ht2 _ _ _ fp) (he _ _ _ fp) goal;refine aO<|wpAny_runOwn<|ee (kD uw<|T2.self _ 0 _ _ _ V uw) λr s12 hr12=>?_;obtain⟨hr,σ12,H12,I12,n12⟩:=hr12;subst hr;exact aZ ⟨rfl,again I12 n12⟩
 exact codeAny_compStart_list (P _ rfl)<|T.self _ 0 _ _ _ st4<|P _ rfl
end L2
namespace L2
open PySem PySem.Spec PyProof.Rows
open PySem.SeqAt
open PySem.AutoSeq1 (wpAny_loadPart')
open PySem.MeetsSeq PySem.MeetsSeq2 PySem.MeetsSeq3 PySem.SeqAt
section
variable {X:Cx}
def xM:jt X (binaryOp .FloorDiv) (rI (λ_ j=>0<j/\j<18446744073709551616) λi j=>.int<|i / j):=HF λi j _ _ _ _ _ hc q=>by
 have h1:(0:Int)<j:=hc.1;have d:j<18446744073709551616:=hc.2;refine floordiv_int (by omega) (by rw[Int.fdiv_eq_ediv_of_nonneg i<|by omega];exact q)<|.inl<|PyProof.noPylong_of_log2 ?_;exact bh ((Nat.log2_lt<|by omega).mpr<|show j.natAbs<2 ^ 64 by omega) ⋯
end
end L2
namespace L2
open PySem PySem.Spec PyProof.Rows
abbrev Ie (x:Str):It:=⟨λi _=>i<x.cps.size,λi H v H'=>H'=H/\∃c,x.cps[i]?=some c/\v=.str ⟨#[c]⟩,λi _=>i=x.cps.size⟩
def Ar{P:aj}{w:af}{K:aA}(x:Str)(t:Tok)(it:ak):Turn P w K tg (Ie x) [it] it (λi h=>h.IsStrIter it "str_ascii_iterator" x t i) where
 mem:=by simp
 obj:=λi h st b f=>by
  have e:b=it:=by simpa using f
  subst e;obtain⟨o,e,c,d⟩:=st;exact⟨o,e,λv z=>by rw[d]at z;cases z⟩
 keep:=λi h h' st k=>let⟨o,ho,r⟩:=st;⟨o,k it (by simp) o ho,r⟩
 item:=by
  w_up;subst hP hw hK;fin2;have W:=Walks.strAscii (prog:=X.prog) (w:=X.w) (I.ok.hd hc) it x t;refine W.item i s _ _ hg st λv h' j hv g p=>?_;obtain⟨c,u,m,rfl⟩:=hv;have q:Inv X pins σ H { s with heap:=h',toks:=j }:=I.turned (λb o f e=>p b o (by simpa using f) e) f0 f1 f3 f4 f5;obtain⟨o,e,B,d⟩:=id g;exact⟨_,rfl,uK (s:={ s with heap:=h',toks:=j }) e B d ⋯ ⟨.str ⟨#[c]⟩,H,q,⟨u,rfl⟩,⟨rfl,c,m,rfl⟩,g,λb f=>(hf b f).1⟩⟩
 done:=by
  w_up;subst hP hw hK;fin2;have hg:i=x.cps.size:=hg;subst hg;have W:=Walks.strAscii (prog:=X.prog) (w:=X.w) (I.ok.hd hc) it x t;exact W.done s _ _ st λh' j p=>⟨rfl,I.turned (λb o f e=>p b o (by simpa using f) e) f0 f1 f3 f4 f5⟩
 self:=λ_ _ _ _ _ st h=>wpAny_pyIter_striter_ascii st h
section
variable {X:Cx}{tg:aF}
abbrev HN (tl:TE):TI:=λσ H R=>tl σ H λx H1=>∃y:Str,x=.str y/\y.cps.all (· < 128)=true/\R (Ie y) H1
def DZ{tl:TE}(hl:PE X l tl):PI X tg l (HN tl):=by
 intro pins s σ H R I h;refine gC (hl pins s σ H _ I h) λv d h9=>?_;obtain⟨x,H1,I1,r1,g⟩:=h9;obtain⟨y,e,f,q⟩:=g;subst e;obtain⟨t,rfl⟩:=r1;refine wpAny_pyIter_ascii f ?_;refine⟨d.heap.objs.size,[d.heap.objs.size],_,_,H1,rfl,I1.kept (t':=d.toks) λb o e=>aS _ e,Ar y t _,⟨_,bA _ rfl,rfl,rfl⟩,λb j=>?_,q⟩;have e:b=d.heap.objs.size:=by simpa using j
 subst e;exact I1.A7 (aK _)<|I1.hok.fresh<|aK _
end
structure M1 (X:Cx)(o:aF)(m:Str)(apos:Pos)(e:aF)(cpos:Pos):Prop where
 base:attributeBase o m X.env (eval o X.env)=eval o X.env
 few:((backTo cpos<|starEach [e] X.env).all (λx=>!x.1) && (backToKw cpos<|keywordEach [] X.env).all (λx=>x.1.isSome)
  && decide (([e]:List aF).length+([]:List Keyword).length+(if ([]:List Keyword).isEmpty then 0 else 1)<30))=true
 line:(apos.endLine == cpos.line)=true
 trees:backTo cpos (starEach [e] X.env)=[(false,eval e X.env)]
structure M2 (X:Cx)(o:aF)(m:Str)(apos:Pos)(e f:aF)(cpos:Pos):Prop where
 base:attributeBase o m X.env (eval o X.env)=eval o X.env
 few:((backTo cpos<|starEach [e,f] X.env).all (λx=>!x.1) && (backToKw cpos<|keywordEach [] X.env).all (λx=>x.1.isSome)
  && decide (([e,f]:List aF).length+([]:List Keyword).length+(if ([]:List Keyword).isEmpty then 0 else 1)<30))=true
 line:(apos.endLine == cpos.line)=true
 trees:backTo cpos (starEach [e,f] X.env)=[(false,eval e X.env),(false,eval f X.env)]
meta abbrev xJ:=ae×ae
abbrev Dl (x:ae):Int:=reduceHash<|Builtin.Tuple.tupleHashOf<|x.map hashInt
abbrev Gy (k:xJ):Int:=reduceHash<|Builtin.Tuple.tupleHashOf [Dl k.1,Dl k.2]
abbrev J4 (x:(xJ×ak×aa)):DictEntry:=⟨Gy x.1,.ref x.2.1,x.2.2⟩
abbrev H_ (a:ak)(xs:List<|xJ×ak×aa)(h:au):Prop:=(a == sysModules)=false/\xs.length<=sizeLine/\∃o es d,h.get? a=some o/\o.ExactDict/\o.data=.dict es d/\es.toList=xs.map J4/\(xs.map (·.1)).Nodup
abbrev rD (H:Hp)(b:ak)(k:xJ):Prop:=∃r1 r2,H b=some (.tup [.ref r1,.ref r2])/\H r1=some (.tup<|k.1.map V.int)/\H r2=some (.tup<|k.2.map V.int)
abbrev C0 (e:ak)(h:au):Prop:=∃o d,h.get? e=some o/\o.data=.fields d/\d[2]?=some .none/\o.dict=none
structure Fly (l:List Env)(g:au)(pn:bo)(H:Hp)(e:ak)(cls:aa)(h:au):Prop where
 ex:∃(B:au) (a0:aa),Heap.FlyingW B l e cls a0 h/\(∀a u,H a=some u->∃o,B.get? a=some o)/\(∀b o,g.get? b=some o->b∉frs l->∃o',B.get? b=some o')/\(∀p∈pn,∃o',B.get? p.1=some o')/\C0 e h
structure Made (X:Cx)(H:Hp)(e:ak)(cls:aa)(g:au)(h:au):Prop where
 ex:∃(g':au) (vs:ap),Heap.MadeExcOf g' h e cls vs/\g'.FunFrames X.base X.stack/\(∀a u,H a=some u->∃o,g'.get? a=some o)/\(∀b o,g.get? b=some o->∃o',g'.get? b=some o')/\(∀p∈X.pn,∃o',g'.get? p.1=some o')
abbrev Fj (X:Cx)(H:Hp)(e:ak)(cls:aa)(s':aE):Prop:=Made X H e cls X.s₀.heap s'.heap\/Fly X.stack X.s₀.heap X.pn H e cls s'.heap
section
abbrev EX (X:Cx):XK:=λcls _ H'=>X.ex=[]/\∀pins d s' e,Inv X pins d H' s'->Fj X H' e cls s'->X.xe (.ref e) s'
end
inductive FParts (X:Cx):List aF->List (Str ⊕ TE)->Prop
 | nil:FParts X [] []
 | txt {x:Str} {j pos} {es:List aF} {ps:List<|Str ⊕ TE} (h:FParts X es ps):FParts X (.Constant (.str x) j pos::es) (.inl x::ps)
 | val {e:aF} {pos:Pos} {t:TE} {es:List aF} {ps:List<|Str ⊕ TE} (he:PE X e t) (h:FParts X es ps):FParts X (.FormattedValue e (-1) none pos::es) (.inr t::ps)
abbrev xu:HO:=.ext λ_=>True
structure XO (C:ak)(o:Obj):Prop where
 cls:o.cls=.ref C
 dict:o.dict=none
 ctx:∃vs,o.data=.fields vs/\vs[2]?=some .none
structure Fr0 (X:Cx)(e:ak):Prop where
 no:∀o,X.s₀.heap.get? e≠some o
 tup:∀xs,X.H₀ e≠some (.tup xs)
 frz:∀o u,X.H₀ e≠some (.frz o u)
 tbl:∀ps,X.H₀ e≠some (.tbl ps)
abbrev mroIn (K:aA)(C:ak):Option (ap):=match K.lookup C with
 | some ⟨.type "type",_,.cls cd,sl⟩=>(match cd.mro,sl.toList with
  | .ref C'::bm,[_,_,_,_,some<|.builtin _,_]=>if C'=C/\cd.hasDel=false then some bm else none
  | _,_=>none)
 | _=>none
structure ClsAt (h:au)(C:ak)(bm:ap):Prop where
 ex:∃nm q N bs hdct sn sub ab col dd k0 k1 k2 k3 k5 newId,h.get? C=some (excClassObj nm q C N bs bm hdct sn sub ab col dd k0 k1 k2 k3 k5 newId)
open PySem.W in
structure XCls (K:aA)(C:ak):Prop where
 ga:findIn K (.ref C) "__getattribute__" = some (some<|.builtin "BaseException.__getattribute__")
 gt:findIn K (.ref C) "__getattr__" = some none
 fc:findObj K C none "__class__" = some (.bind (.builtin "getset_descriptor.__get__")<|.builtin "object.__class__")
 ob:PySem.W.mroIn K C (.type "object")=some true
 bs:subIn K (.ref C) (.type "BaseException")=some true
abbrev E8 (A:aC):aC:={ A with handled:=none }
abbrev Gv (k:Nat)(A:aC):Prop:=Room k<|E8 A
structure Hnd (A:aC)(H:Hp)(e:ak)(oe:Obj)(C:ak):Prop where
 hh:A.handled=some (.ref e)
 h0:H e=some (.frz oe xu)
 xo:XO C oe
structure FnOkH (P:aj)(w:af)(K:aA)(mg:Str->aw)(base:au)(k:Nat)(f:ak)(fd:FuncData)(ps:am)(sp:Sp):Prop where
 len:∀vs H Q E,sp vs H Q E->vs.length=ps.length
 run:∀(A:aC) (outer:List Env) (s:aE) (H:Hp) (args:Args) (us:ap) (vs:List V) (Q:VK) (e:ak) (oe:Obj) (C:ak),Gv k A->Hnd A H e oe C->Env0 P w K mg base A outer s H->BindsTo s fd args (ps.zip us)->Vals vs us->sp vs H Q E0 ->
  codeAny (model P w) A (.call (.ref f) args) (CR l8 outer P w H s Q E0) s
end L2
namespace L2
open PySem PySem.Spec PyProof.Rows PySem.SeqAt
theorem o_{prog:aj}{w:af}{A:aC}{E:aa->aE->Prop}{β:Type}{f:Nat->β->Sem (ForInStep β)}(I:Nat->β->aE->Prop)(Q:β->aE->Prop)
  (turn:∀i c s,i<b->I i c s->wpAny (model prog w) A (f i c) (λr s'=>match r with | .done c'=>Q c' s' | .yield c'=>I (i+1) c' s') E s)
  (fin:∀c s,I b c s->Q c s) {c:β} {s:aE} (h:I 0 c s):wpAny (model prog w) A (forIn [0:b] c f) Q E s:=by
 rw[Std.Legacy.Range.forIn_eq_forIn_range'];dsimp[Std.Legacy.Range.size,Nat.sub_zero,b9,Nat.div_one];refine wpAny_forIn_list f (λl c s=>∃i,i<=b/\l=List.range' i (b-i) 1/\I i c s) Q ?_ ?_ _ _ ⟨0,dX _,rfl,h⟩
 ·rintro x rest c s ⟨i,k,d,j⟩;have g:i<b:=by
   rcases eS i b with h'|h'
   ·exact h'
   ·rw[show b-i=0 by lia]at d;simp at d
  obtain⟨n,hn⟩:∃n,b-i=n+1:=⟨b-i-1,()⟩;rw[hn,cI]at d;obtain⟨rfl,rfl⟩:=List.cons.inj d;refine c_ (turn x c s g j) (λr s' h'=>?_) λ_ _ q=>q
  cases r with
  | done c'=>exact h'
  | yield c'=>exact⟨x+1,g,by congr 1;lia,h'⟩
 ·rintro c s ⟨i,k,d,j⟩;have:b-i=0:=by
   rcases Nat.eq_zero_or_pos (b-i)with z|z
   ·exact z
   ·obtain⟨n,hn⟩:∃n,b-i=n+1:=⟨b-i-1,()⟩;rw[hn,cI]at d;cases d
  have:i=b:=()
  subst this;exact fin c s j
def pM(l:ak)(items:Array aa)(n:Nat)(dd:Option ak)(sl:Array<|aw)(x:aa)(e:aa->Bool)(j:Nat)(hj:j<items.size)(hit:e items[j]=true)(hno:∀m (hm:m<items.size),m<j->e items[m]=false) :
  Meets (Builtin.«tuple.index» ⟨[.ref l,x],[]⟩)
   (λA R s=>s.heap.get? l=some { cls:=.type "tuple",dict:=dd,data:=.seq items n,slots:=sl }/\(∀y,y∈items->EqAt A.in1 s y x (e y))/\R (.ok<|.ret<|.int j s.toks) { s with toks:=s.toks+1 }):=
 .of_wp λprog w A R s h=>by
  obtain⟨C,g,d,p,F⟩:=s;obtain⟨G,z,h⟩:=h
  wp_walk using wpAny_loadPart' G,o_ (λi b s'=>b.1=none/\s'=⟨C,g,d,p,F⟩/\i<=j) _
  case turn=>
   rintro i b s' hi ⟨B,rfl,k⟩;have f:i<items.size:=()
   rw[Array.getElem?_eq_getElem f];refine aO (z _ (Array.getElem_mem f) prog w _ _ ?_)
   rcases eS i j with q|q
   ·rw[hno i f q]
    wp_walk
    exact⟨rfl,rfl,q⟩
   ·have:i=j:=()
    subst this;rw[hit]
    wp_walk
    exact⟨_,rfl,h⟩
  case fin=>
   rintro⟨J,K⟩ s' ⟨B,rfl,k⟩
   lia
  case h=>exact⟨rfl,rfl,dX _⟩
abbrev E7 (K:aA)(tup:Bool):V->List V->Hp->VK->Prop:=λx f H Q=>∃(p:ak) (y:V) (xs:List V) (k:Nat) (z:V),x=.ref p/\f=[y]/\(if tup=true then iT K H p xs else i_ K H p xs)/\kB y=true/\xs.all kB=true/\xs[k]?=some z/\tY z y=true/\(∀(m:Nat) (d:V),m<k->xs[m]?=some d->tY d y=false)/\Q (.int k) H
section
variable {X:Cx}
def z6{xs:List V}{its:ap}{k:Nat}(r:Vals xs its)(f:xs.all kB=true)(hk:xs[k]?=some z)(hz:tY z y=true)(hno:∀m z',m<k->xs[m]?=some z'->tY z' y=false) :
  ∃hj:k<its.toArray.size,F1 y its.toArray[k]=true/\∀m (hm:m<its.toArray.size),m<k->F1 y its.toArray[m]=false:=by
 have q:∀m z',xs[m]?=some z'->kB z'=true:=λm z' h=>dQ.mp f z'<|bH h;obtain⟨u,F,B⟩:=r.get hk;obtain⟨hj,e⟩:=aI.mp F;refine⟨by simpa using hj,?_,λm hm p=>?_⟩
 ·rw[List.getElem_toArray,e,tV B<|q k z hk];exact hz
 ·have d:m<xs.length:=by have:=(aI.mp hk).1;lia
  obtain⟨G,j,g⟩:=r.get<|aH d;obtain⟨_,C⟩:=aI.mp j;rw[List.getElem_toArray,C,tV g<|q m _<|aH d];exact hno m _ p<|aH d
def Cv:F2 X "tuple.index" (E7 X.K true):=by
 intro pins s σ H x Y v us Q I rx B ⟨p,y,xs,k,z,J,d,O,C,fs,P,V,f,q⟩;subst J d
 cases rx
 obtain⟨u,rfl,L⟩:=B.one;obtain⟨g,r,N,T⟩:=I.tuple O;obtain⟨W,h1,G⟩:=z6 r fs P V f;obtain⟨⟨cls,U,data,M⟩,j,hc,n,m⟩:=id N;simp only at hc m;subst hc m;exact ez F.slot_tuple_index ⟨_,j,rfl⟩ F.entry_tuple_index (F.args_tuple_index_2 _ _) (pM p g.toArray n U M u (F1 y) k W h1 G) ⟨j,λw hw=>pq L C r fs w<|by simpa using hw,.int k,H,I.tok _,⟨_,rfl⟩,q⟩
def BC:F2 X "list.index" (E7 X.K false):=by
 intro pins s σ H x Z v us Q I rx C ⟨p,y,xs,k,z,L,d,P,G,fs,j,V,f,q⟩;subst L d
 cases rx
 obtain⟨u,rfl,M⟩:=C.one;obtain⟨g,r,O,T⟩:=I.list P;obtain⟨Y,h1,J⟩:=z6 r fs j V f;obtain⟨⟨cls,U,data,N⟩,m,hc,n,B⟩:=id O.isList;simp only at hc B;subst hc B;have:=k8;have W:k<xs.length:=(aI.mp j).1;exact ez F.slot_list_index ⟨_,m,rfl⟩ F.entry_list_index (F.args_list_index_2 _ _) (SeqAt.list_indexAt p g.toArray n U N u (F1 y) k Y () h1 J) ⟨m,λw hw=>pq M G r fs w<|by simpa using hw,.int k,H,I.tok _,⟨_,rfl⟩,q⟩
abbrev IB (K:aA)(to:TE)(t:TA):TE:=λσ H Q=>to σ H λx H1=>∃(b:Bool) (p:ak) (xs:List V),x=.ref p/\(if b=true then iT K H1 p xs else i_ K H1 p xs)/\t σ H1 λd H2=>E7 K b x d H2 Q
def EH{to:TE}{t:TA}{apos cpos:Pos}(ho:PE X o to)(ha:PA X (e::es) t)
  (hbase:attributeBase o "index" X.env (eval o X.env)=eval o X.env:=by rfl)
  (hfew:((backTo cpos<|starEach (e::es) X.env).all (λx=>!x.1) && (backToKw cpos<|keywordEach [] X.env).all (λx=>x.1.isSome)
   && decide ((e::es).length+([]:List Keyword).length+(if ([]:List Keyword).isEmpty then 0 else 1)<30))=true:=by rfl)
  (hline:(apos.endLine == cpos.line)=true:=by rfl) (hs:starEach (e::es) X.env=(false,eval e X.env)::starEach es X.env:=by rfl) (hplain:(backTo cpos<|starEach es X.env).any (·.1)=false:=by rfl) :
  PE X (.Call (.Attribute o "index" apos) (e::es) [] cpos) (IB X.K to t):=by
 kt_k;refine wpAny_Call_method_late hbase hfew hline rfl<|gC (ho pins s σ H _ I h) λv G ⟨x,H1,I1,r1,b,p,xs,J,C,B⟩=>?_;subst J
 cases r1
 cases b with
 | true=>
  obtain⟨d,g,g2,m⟩:=I1.ER C;refine⟨"tuple", "tuple.index",PySem.F.plainAttrs_tuple,PySem.F.slot_tuple_index,PySem.F.type_tuple_index,⟨d,g,g2⟩,λa e=>by cases e;exact⟨d,g,m⟩,?_⟩;have f:=ha cpos pins G σ H1 _ I1 B;rw[hs]at f ⊢;refine dD (by show(false || (backTo cpos<|starEach es X.env).any (·.1))=false;rw[hplain]<;>rfl)<|dW ?_;exact gC f λus q ⟨z,H2,j,r2,k⟩=>Cv pins q σ H2 (.ref p) z _ us Q j rfl r2 k
 | false=>
  obtain⟨L,r,⟨d,n,g,g2,m,M⟩,N⟩:=I1.list C;refine⟨"list", "list.index",PySem.F.plainAttrs_list,PySem.F.slot_list_index,PySem.F.type_list_index,⟨d,g,g2⟩,λa e=>by cases e;exact⟨d,g,m⟩,?_⟩;have f:=ha cpos pins G σ H1 _ I1 B;rw[hs]at f ⊢;refine dD (by show(false || (backTo cpos<|starEach es X.env).any (·.1))=false;rw[hplain]<;>rfl)<|dW ?_;exact gC f λus q ⟨z,H2,j,r2,k⟩=>BC pins q σ H2 (.ref p) z _ us Q j rfl r2 k
end
end L2
namespace Sx
open PySem PyProof.Rows
structure Ord where
 lt:Nat->Nat->Bool
 irr:∀i,lt i i=false
 tr:∀i j k,lt i j=true->lt j k=true->lt i k=true
 neg:∀i j k,lt i k=true->lt i j=true\/lt j k=true
abbrev P (o:Ord)(i j:Nat):Prop:=o.lt i j=true\/(o.lt j i=false/\i<j)
abbrev So (o:Ord)(g:Nat->Nat)(a b:Nat):Prop:=∀i j,a<=i->i<j->j<b->P o (g i) (g j)
abbrev Cl (g:Nat->Nat)(a b:Nat):Prop:=∀i,a<=i->i<b->a<=g i/\g i<b
abbrev rev (g:Nat->Nat)(i j:Nat):Nat->Nat:=λk=>if i<=k/\k<j then g (i+j-1-k)else g k
section
variable {prog:aj}{w:af}{A:aC}{s:aE}{o:Ord}{N:Nat}{f:Nat->Keyed}{kd:SortKind}{g:Nat->Nat}{p:Array (Nat×Nat×Nat)}{st:SortSt}
abbrev Ka (prog:aj)(w:af)(A:aC)(s:aE)(o:Ord)(N:Nat)(f:Nat->Keyed)(kd:SortKind):Prop:=
 ∀i j,i<N->j<N->∀(d:aa->aE->Prop) (Q:Bool->aE->Prop),Q (o.lt i j) s->wpAny (model prog w) A (keyLt' kd (f i).1 (f j).1) Q d s
structure Sg (N:Nat)(f:Nat->Keyed)(kd:SortKind)(g:Nat->Nat)(p:Array (Nat×Nat×Nat))(st:SortSt):Prop where
 size:(arrOf st).size=N
 get:∀i,i<N->(arrOf st)[i]?=some (f<|g i)
 lt:∀i,i<N->g i<N
 kind:kindOf st=kd
 failed:failedOf st=none
 pend:pendingOf st=p
structure Rn (o:Ord)(g0 g:Nat->Nat)(a b:Nat):Prop where
 out:∀i,i<a\/b<=i->g i=g0 i
 cl:Cl g a b
 so:So o g a b
end
meta abbrev As:=Option (bj)×Nat
abbrev IC (lo a nrem:Nat):StateT SortSt Sem As:=
 forIn [a:nrem] ((none,a):As) λ_ c=>do
  let x <- ltAt' (lo+c.2) (lo+c.2-1)
  match x with
  | some b=>if b=true then pure (ForInStep.done (none,c.2))else pure (ForInStep.yield (none,c.2+1))
  | _=>pure<|ForInStep.done (some none,c.2)
abbrev JC (lo n nrem:Nat):StateT SortSt Sem (bj):=do
 reverseSlice' lo (lo+n)
 let c <- IC lo n nrem
 match c.1 with
 | some r=>pure r
 | none=>pure<|some c.2
section
variable {o:Ord}{g g0:Nat->Nat}
structure Dc (o:Ord)(g0 g:Nat->Nat)(a b q:Nat):Prop where
 out:∀i,i<a\/b<=i->g i=g0 i
 cl:Cl g a b
 few:a+(q+1)<=b
 dn:∀i j,a<=i->i<j->j<b->i<b-(q+1)->P o (g j) (g i)
 id:∀i,b-(q+1)<=i->i<b->g i=i
 al:∀i j,b-(q+1)<=i->i<b->b-(q+1)<=j->j<b->o.lt i j=false
abbrev Fin (o:Ord)(g0 g:Nat->Nat)(a b:Nat):Prop:=(∀i,i<a\/b<=i->g i=g0 i)/\Cl g a b/\(∀i j,a<=i->i<j->j<b->P o (g j) (g i))
end
abbrev CG:Bool->Keyed->Array Keyed->Nat->Nat->Nat->StateT SortSt Sem (bj):=sortPriv% PySem.Builtin.gallop
section
variable {o:Ord}{N:Nat}{f:Nat->Keyed}{A B hs:ag}{ia ib:Nat}
abbrev fa (f:Nat->Keyed)(l:ag):Array Keyed:=(l.map f).toArray
structure Ab (o:Ord)(N:Nat)(A B:ag):Prop where
 sa:A.Pairwise (P o)
 sb:B.Pairwise (P o)
 lt:∀x∈A,∀y∈B,x<y
 nb:∀y∈B,y<N
 na:∀x∈A,x<N
structure Mg (o:Ord)(A B hs:ag)(ia ib:Nat):Prop where
 la:ia<=A.length
 lb:ib<=B.length
 len:hs.length=ia+ib
 so:hs.Pairwise (P o)
 mem:∀x∈hs,x∈A\/x∈B
 ua:∀x∈hs,∀y∈A.drop ia,P o x y
 ub:∀x∈hs,∀y∈B.drop ib,P o x y
abbrev Res (o:Ord)(f:Nat->Keyed)(A B:ag)(out:Array Keyed):Prop:=∃hs:ag,out=fa f hs/\hs.length=A.length+B.length/\hs.Pairwise (P o)/\∀x∈hs,x∈A\/x∈B
end
structure Sm (st st':SortSt):Prop where
 a:arrOf st'=arrOf st
 k:kindOf st'=kindOf st
 p:pendingOf st'=pendingOf st
 f:failedOf st'=failedOf st
meta abbrev G:=Option (Array Keyed)×Array Keyed×Nat×Nat×Nat×Nat×Nat
abbrev T3 (a b out:Array Keyed)(ia ib mg ac bc:Nat):StateT SortSt Sem (ForInStep G):=do
 let x <- elem' a ia
 if (ia+1+1 == a.size)=true then pure (ForInStep.done (some<|out.push x++b.extract ib b.size++a.extract (ia+1) a.size,out.push x,ia+1,ib,mg,ac,bc))
 else if (decide (ac<7) && decide (bc<7))=true then pure (ForInStep.done (none,out.push x,ia+1,ib,mg,ac,bc))
 else pure (ForInStep.yield (none,out.push x,ia+1,ib,mg,ac,bc))
abbrev T2 (a b out:Array Keyed)(ia ib mg ac bc:Nat):StateT SortSt Sem (ForInStep G):=do
 let x <- elem' b ib
 if (ib+1 == b.size)=true then pure (ForInStep.done (some<|out.push x++a.extract ia a.size++b.extract (ib+1) b.size,out.push x,ia,ib+1,mg,ac,bc))
 else
  let y <- elem' a ia
  let r <- CG true y b (ib+1) (b.size-(ib+1)) 0
  match r with
  | some k=>
   if k>0 then
    if (ib+1+k == b.size)=true then pure (ForInStep.done (some<|out.push x++b.extract (ib+1) (ib+1+k)++a.extract ia a.size++b.extract (ib+1+k) b.size,out.push x++b.extract (ib+1) (ib+1+k),ia,ib+1+k,mg,ac,k))
    else T3 a b (out.push x++b.extract (ib+1) (ib+1+k)) ia (ib+1+k) mg ac k
   else T3 a b (out.push x) ia (ib+1) mg ac k
  | _=>pure<|ForInStep.done (some<|out.push x++a.extract ia a.size++b.extract (ib+1) b.size,out.push x,ia,ib+1,mg,ac,bc)
section
variable {o:Ord}{A B ts:ag}{na nb:Nat}
structure Mh (o:Ord)(A B ts:ag)(na nb:Nat):Prop where
 la:na<=A.length
 lb:nb<=B.length
 len:ts.length+na+nb=A.length+B.length
 so:ts.Pairwise (P o)
 mem:∀x∈ts,x∈A\/x∈B
 ua:∀y∈A.take na,∀x∈ts,P o y x
 ub:∀y∈B.take nb,∀x∈ts,P o y x
end
meta abbrev H:=Option (Array Keyed)×Nat×Nat×Array Keyed×Nat×Nat×Nat
section
variable {o:Ord}{f:Nat->Keyed}{st0:SortSt}{X Y ts:ag}{na nb:Nat}
abbrev Oh (o:Ord)(X Y:ag)(n:Nat)(ts:ag)(na nb:Nat):Prop:=Mh o X Y ts na nb/\1<=na/\2<=nb/\na+nb+n<=X.length+Y.length
abbrev H2 (o:Ord)(f:Nat->Keyed)(X Y:ag)(n:Nat)(st0:SortSt):ForInStep H->SortSt->Prop:=λr j=>Sm st0 j/\match r with
 | .done c=>(∃r z,c=(some r,z)/\Res o f X Y r)\/∃ts na nb mg g d,c=(none,na,nb,fa f ts.reverse,mg,g,d)/\Oh o X Y n ts na nb
 | .yield c=>∃ts na nb mg g d,c=(none,na,nb,fa f ts.reverse,mg,g,d)/\Oh o X Y n ts na nb
end
meta abbrev pr (x:Nat×Nat×Nat):Nat×Nat:=(x.1,x.2.1)
abbrev GI (o:Ord)(g:Nat->Nat):List (Nat×Nat)->Nat->Nat->Prop
 | [],a,b=>a=b
 | x::l,a,b=>x.1=a/\1<=x.2/\Cl g a (a+x.2)/\So o g a (a+x.2)/\GI o g l (a+x.2) b
abbrev PA (o:Ord)(g:Nat->Nat)(p:Array<|Nat×Nat×Nat)(b:Nat):Prop:=GI o g (p.toList.map pr) 0 b
end Sx
namespace Am
open PySem
inductive A where
 | unb|non|bl (b:Bool)|int (i:Int)|str (x:Str)|tup (xs:List A)|frz (xs:List A)|rng (lo hi:Int)|ref (n:Nat)|exn (c:Str)|ty (n:String)|ktu (xs:List A)
@[reducible]def ad:=List A
inductive O where
 | lst (xs:ad)|dct (kvs:List<|ae×A)|dki (kvs:List<|Int×A)|dcp (kvs:List<|L2.xJ×A)|ins (c:Str) (fs:List<|Str×A)
meta abbrev e_:=List O
inductive R (α:Type) where
 | ok (a:α) (S:e_)|ex (c:Str) (S:e_)|no
abbrev R.bind {α β:Type}(r:R α)(f:α->e_->R β):R β:=match r with
 | .ok a S=>f a S
 | .ex c S=>.ex c S
 | .no=>.no
abbrev R.post {α:Type}(r:R α)(P:α->e_->Prop)(E:Str->e_->Prop):Prop:=match r with
 | .ok a S=>P a S
 | .ex c S=>E c S
 | .no=>False
def fD{α β:Type}{r:R α}{f:α->e_->R β}{P:β->e_->Prop}{E:Str->e_->Prop}(h:(r.bind f).post P E):r.post (λa S=>(f a S).post P E) E:=by
 cases r<;>exact h
def xG{α:Type}{r:R α}{P P':α->e_->Prop}{E E':Str->e_->Prop}(h:r.post P E)(hp:∀a S,P a S->P' a S)(he:∀c S,E c S->E' c S):r.post P' E':=by
 cases r with
 | ok a S=>exact hp _ _ h
 | ex c S=>exact he _ _ h
 | no=>exact h.elim
abbrev gd {α:Type}(c:Prop)[Decidable c](r:R α):R α:=if c then r else .no
abbrev opt {α β:Type}(o:Option β)(f:β->R α):R α:=match o with
 | some b=>f b
 | none=>.no
def fK{α:Type}{c:Prop}[Decidable c]{r:R α}{P:α->e_->Prop}{E:Str->e_->Prop}(h:(gd c r).post P E):c/\r.post P E:=by
 unfold gd at h;by_cases hc:c
 ·rw[aR hc]at h;exact⟨hc,h⟩
 ·rw[aT hc]at h;exact h.elim
def fB{α β:Type}{o:Option β}{f:β->R α}{P:α->e_->Prop}{E:Str->e_->Prop}(h:(opt o f).post P E):∃b,o=some b/\(f b).post P E:=by
 cases o with
 | none=>exact h.elim
 | some b=>exact⟨b,rfl,h⟩
abbrev fh (S:e_)(n:Nat):Option (ad):=match S[n]? with
 | some (.lst xs)=>some xs
 | _=>none
def fH{n:Nat}(h:fh S n=some xs):S[n]?=some (.lst xs):=by
 unfold fh at h;split at h
 ·rename_i e;cases h;exact e
 ·cases h
def mR{S:e_}{n:Nat}(h:S[n]?=some (.lst xs)):fh S n=some xs:=by
 unfold fh;rw[h]
inductive RS where
 | nx (τ:ad) (S:e_)|rt (a:A) (S:e_)|bk (τ:ad) (S:e_)|ct (τ:ad) (S:e_)|ex (c:Str) (S:e_)|no
meta abbrev Ex:=ad->e_->R A
meta abbrev lu:=ad->e_->R (ad)
meta abbrev Te:=ad->e_->R Bool
meta abbrev Sm:=ad->e_->RS
meta abbrev Tg:=A->ad->e_->R (ad)
end Am
namespace Am
open PySem L2
section
variable (K:aA) (ρ:ar) (H:Hp)
abbrev HZ (K:aA)(c:Str)(C:ak):Prop:=PySem.W.nsIn K mainGlobals c=some (some<|.ref C)
abbrev Fz (K:aA)(H:Hp)(a:ak)(vs:List V):Prop:=
 (∃o,H a=some (.frz o<|.lst vs))\/∃(o:Obj) (d:Array aa) (n:Nat),K.lookup a=some o/\o.cls=.type "list" /\ o.dict=none/\o.data=.seq d n/\d.size<=sizeLine/\Vals vs d.toList
abbrev J5 (K:aA)(a:ak)(vs:List V):Prop:=∃(o:Obj) (d:Array aa) (n:Nat),K.lookup a=some o/\o.cls=.type "tuple" /\ o.dict=none/\o.data=.seq d n/\d.size<=sizeLine/\Vals vs d.toList
mutual
inductive AV:A->V->Prop
 | non:AV .non .non
 | bl (b:Bool):AV (.bl b) (.bl b)
 | int (i:Int):AV (.int i) (.int i)
 | str (x:Str):AV (.str x) (.str x)
 | ty (n:String):AV (.ty n) (.ty n)
 | tup {a:ak} {xs:ad} {vs:List V} (h:H a=some (.tup vs)) (r:AVs xs vs):AV (.tup xs) (.ref a)
 | frz {a:ak} {xs:ad} {vs:List V} (h:Fz K H a vs) (r:AVs xs vs):AV (.frz xs) (.ref a)
 | rng {a:ak} {lo hi:Int} (h:H a=some (.rng lo hi)):AV (.rng lo hi) (.ref a)
 | ref {a:ak} {n:Nat} (h:ρ[n]?=some a):AV (.ref n) (.ref a)
 | exn {a C:ak} {c:Str} {oe:Obj} (n:HZ K c C) (h:H a=some (.frz oe xu)) (x:XO C oe):AV (.exn c) (.ref a)
 | ktu {a:ak} {xs:ad} {vs:List V} (h:J5 K a vs) (r:AVs xs vs):AV (.ktu xs)<|.ref a
inductive AVs:ad->List V->Prop
 | nil:AVs [] []
 | cons {x:A} {v:V} {xs:ad} {vs:List V} (h:AV x v) (t:AVs xs vs):AVs (x::xs) (v::vs)
end
abbrev DV:List (ae×A)->List (List Key×V)->Prop
 | [],[]=>True
 | p::r,q::r'=>(q.1=p.1.map Sum.inl/\AV K ρ H p.2 q.2)/\DV r r'
 | _,_=>False
abbrev DI:List (Int×A)->List (Key×V)->Prop
 | [],[]=>True
 | p::r,q::r'=>(q.1=Sum.inl p.1/\AV K ρ H p.2 q.2)/\DI r r'
 | _,_=>False
abbrev DP:List (L2.xJ×A)->List (L2.xJ×ak×aa)->Prop
 | [],[]=>True
 | p::r,q::r'=>(q.1=p.1/\L2.rD H q.2.1 q.1/\∃v,RelV v q.2.2/\AV K ρ H p.2 v)/\DP r r'
 | _,_=>False
abbrev OR (a:ak):O->Prop
 | .lst xs=>∃f,H a=some (.lst f)/\AVs K ρ H xs f
 | .dct d=>∃ks,H a=some (.dT ks)/\DV K ρ H d ks
 | .dki d=>∃ks,H a=some (.dK ks)/\DI K ρ H d ks
 | .dcp d=>∃xs,H a=some (.ext<|L2.H_ a xs)/\DP K ρ H d xs
 | .ins _ _=>∃o u,H a=some (.frz o u)
structure Rel (S:e_):Prop where
 len:ρ.length=S.length
 nd:ρ.Nodup
 «at»:∀(n:Nat) (a:ak) (o:O),ρ[n]?=some a->S[n]?=some o->OR K ρ H a o
end
abbrev JZ:HO->Prop
 | .tup _=>True
 | .rng _ _=>True
 | .frz _ _=>True
 | _=>False
structure Ext0 (ρ ρ':ar)(H H':Hp):Prop where
 pre:ρ <+: ρ'
 im:∀a u,JZ u->H a=some u->H' a=some u
structure Ext (ρ ρ':ar)(H H':Hp):Prop extends Ext0 ρ ρ' H H' where
 fr:∀a u,H a=some u->a∉ρ->H' a=some u
 nw:∀a,a∈ρ'->a∈ρ\/H a=none
def Ext.refl{H:Hp}:Ext ρ ρ H H:=⟨⟨cW _,λ_ _ _ h=>h⟩,λ_ _ h _=>h,λ_ h=>.inl h⟩
def Ext.trans{H H1 H2:Hp}(a:Ext ρ ρ1 H H1)(b:Ext ρ1 ρ2 H1 H2):Ext ρ ρ2 H H2:=⟨⟨a.pre.trans b.pre,λx u i h=>b.im x u i<|a.im x u i h⟩,λx u h n=>b.fr x u (a.fr x u h n) λz=>(a.nw x z).elim n λz=>by(rw[z]at h;cases h),λx h=>by
 by_cases d:x∈ρ
 ·exact .inl d
 ·right
  cases q:H x with
  | none=>rfl
  | some u=>
   rcases b.nw x h with z|z
   ·exact((a.nw x z).elim d λz=>by(rw[z]at q;cases q)).elim
   ·rw[a.fr x u q d]at z;cases z⟩
def Ext0.get{H H':Hp}(e:Ext0 ρ ρ' H H'){n:Nat}{a:ak}(h:ρ[n]?=some a):ρ'[n]?=some a:=by
 obtain⟨t,rfl⟩:=e.pre;rw[aV (aI.mp h).1];exact h
section
variable {K:aA}{ρ ρ':ar}{H H':Hp}
def Ext0.Jm(e:Ext0 ρ ρ' H H'){a:ak}(h:iT K H a vs):iT K H' a vs:=by
 rcases h with(h|⟨o,h⟩)|h
 ·exact .inl (.inl<|e.im _ _ trivial h)
 ·exact .inl (.inr ⟨o,e.im _ _ trivial h⟩)
 ·exact .inr h
def Ext0.fz(e:Ext0 ρ ρ' H H'){a:ak}(h:Fz K H a vs):Fz K H' a vs:=by
 rcases h with⟨o,h⟩|h
 ·exact .inl ⟨o,e.im _ _ trivial h⟩
 ·exact .inr h
def Fz.zF{a:ak}(h:Fz K H a vs):i_ K H a vs:=by
 rcases h with⟨o,h⟩|h
 ·exact .inl (.inr ⟨o,h⟩)
 ·exact .inr h
mutual
theorem AV.gB(e:Ext0 ρ ρ' H H'):∀{x:A}{v:V},AV K ρ H x v->AV K ρ' H' x v
 | _,_,.non=>.non
 | _,_,.bl b=>.bl b
 | _,_,.int i=>.int i
 | _,_,.str x=>.str x
 | _,_,.ty x=>.ty x
 | _,_,.tup h r=>.tup (e.im _ _ trivial h) (AVs.gB e r)
 | _,_,.frz h r=>.frz (e.fz h) (AVs.gB e r)
 | _,_,.rng h=>.rng (e.im _ _ trivial h)
 | _,_,.ref h=>.ref (e.get h)
 | _,_,.exn n h x=>.exn n (e.im _ _ trivial h) x
 | _,_,.ktu h r=>.ktu h<|AVs.gB e r
theorem AVs.gB(e:Ext0 ρ ρ' H H'):∀{xs:ad}{vs:List V},AVs K ρ H xs vs->AVs K ρ' H' xs vs
 | _,_,.nil=>.nil
 | _,_,.cons h t=>.cons (AV.gB e h)<|AVs.gB e t
end
theorem DV.gB(e:Ext0 ρ ρ' H H'):∀{xs:List<|ae×A}{vs:List<|List Key×V},DV K ρ H xs vs->DV K ρ' H' xs vs
 | [],[],_=>trivial
 | _::_,_::_,⟨⟨a,b⟩,r⟩=>⟨⟨a,AV.gB e b⟩,DV.gB e r⟩
def DV.ext{x:List<|ae×A}{v:List<|List Key×V}(h:DV K ρ H x v)(e:Ext ρ ρ' H H'):DV K ρ' H' x v:=DV.gB e.toExt0 h
theorem DI.gB(e:Ext0 ρ ρ' H H'):∀{xs:List<|Int×A}{vs:List<|Key×V},DI K ρ H xs vs->DI K ρ' H' xs vs
 | [],[],_=>trivial
 | _::_,_::_,⟨⟨a,b⟩,r⟩=>⟨⟨a,AV.gB e b⟩,DI.gB e r⟩
def DI.ext{x:List<|Int×A}{v:List<|Key×V}(h:DI K ρ H x v)(e:Ext ρ ρ' H H'):DI K ρ' H' x v:=DI.gB e.toExt0 h
def rD.gB{k:L2.xJ}(e:Ext0 ρ ρ' H H'):L2.rD H b k->L2.rD H' b k:=λ⟨r1,r2,h1,f,d⟩=>⟨r1,r2,e.im _ _ trivial h1,e.im _ _ trivial f,e.im _ _ trivial d⟩
theorem DP.gB(e:Ext0 ρ ρ' H H'):∀{xs:List<|L2.xJ×A}{vs:List<|L2.xJ×ak×aa},DP K ρ H xs vs->DP K ρ' H' xs vs
 | [],[],_=>trivial
 | _::_,_::_,⟨⟨a,k,v,c,b⟩,r⟩=>⟨⟨a,rD.gB e k,v,c,AV.gB e b⟩,DP.gB e r⟩
def DP.ext{x:List<|L2.xJ×A}{v:List<|L2.xJ×ak×aa}(h:DP K ρ H x v)(e:Ext ρ ρ' H H'):DP K ρ' H' x v:=DP.gB e.toExt0 h
def AV.ext{x:A}{v:V}(h:AV K ρ H x v)(e:Ext ρ ρ' H H'):AV K ρ' H' x v:=AV.gB e.toExt0 h
def AVs.ext{x:ad}{v:List V}(h:AVs K ρ H x v)(e:Ext ρ ρ' H H'):AVs K ρ' H' x v:=AVs.gB e.toExt0 h
theorem AVs.length:∀{xs:ad}{vs:List V},AVs K ρ H xs vs->xs.length=vs.length
 | _,_,.nil=>rfl
 | _,_,.cons _ t=>cY (·+1)<|AVs.length t
theorem AVs.append:∀{xs ys:ad}{vs ws:List V},AVs K ρ H xs vs->AVs K ρ H ys ws->AVs K ρ H (xs++ys) (vs++ws)
 | _,_,_,_,.nil,s=>s
 | _,_,_,_,.cons h t,s=>.cons h<|AVs.append t s
theorem AVs.take:∀{xs:ad}{vs:List V}(n:Nat),AVs K ρ H xs vs->AVs K ρ H (xs.take n) (vs.take n)
 | _,_,0,_=>.nil
 | _,_,_+1,.nil=>.nil
 | _,_,n+1,.cons h t=>.cons h<|AVs.take n t
theorem AVs.drop:∀{xs:ad}{vs:List V}(n:Nat),AVs K ρ H xs vs->AVs K ρ H (xs.drop n) (vs.drop n)
 | _,_,0,r=>r
 | _,_,_+1,.nil=>.nil
 | _,_,n+1,.cons _ t=>AVs.drop n t
theorem AVs.get:∀{xs:ad}{vs:List V}{i:Nat}{x:A},AVs K ρ H xs vs->xs[i]?=some x->∃v,vs[i]?=some v/\AV K ρ H x v
 | _,_,_,_,.nil,e=>by simp at e
 | _,_,0,_,.cons h _,e=>by simp at e;subst e;exact⟨_,rfl,h⟩
 | _,_,i+1,x,.cons _ t,e=>by
  obtain⟨u,h1,d⟩:=AVs.get (i:=i) (x:=x) t (by simpa using e);exact⟨u,by simpa using h1,d⟩
theorem AVs.set{x:A}{v:V}(h:AV K ρ H x v):∀{xs:ad}{vs:List V}(i:Nat),AVs K ρ H xs vs->AVs K ρ H (xs.set i x) (vs.set i v)
 | _,_,_,.nil=>.nil
 | _,_,0,.cons _ t=>.cons h t
 | _,_,i+1,.cons q t=>.cons q<|AVs.set h i t
def AVs.one{x:A}{v:V}(h:AV K ρ H x v):AVs K ρ H [x] [v]:=.cons h .nil
theorem AVs.eraseIdx:∀{xs:ad}{vs:List V}(i:Nat),AVs K ρ H xs vs->AVs K ρ H (xs.eraseIdx i) (vs.eraseIdx i)
 | _,_,_,.nil=>.nil
 | _,_,0,.cons _ t=>t
 | _,_,i+1,.cons q t=>.cons q<|AVs.eraseIdx i t
theorem k7:∀(ns:ae),AVs K ρ H (ns.map .int) (ns.map .int)
 | []=>.nil
 | n::ns=>.cons (.int n)<|k7 ns
def Rel.lay{S:e_}{p:ak}(R:Rel K ρ H S)(hp:H p=none)(r:AVs K ρ H xs vs):Ext ρ (ρ++[p]) H (upd H p<|.lst vs)/\Rel K (ρ++[p]) (upd H p<|.lst vs) (S++[.lst xs])/\(ρ++[p])[S.length]?=some p:=by
 have ex:Ext ρ (ρ++[p]) H (upd H p<|.lst vs):=⟨⟨eE _ _,λa u _ h=>by rw[fJ<|fP h hp];exact h⟩,λa u h _=>by rw[fJ<|fP h hp];exact h,λa h=>by
  rcases c8.mp h with z|z
  ·exact .inl z
  ·have e:a=p:=by simpa using z
   rw[e];exact .inr hp⟩
 have g:∀(n:Nat) (a:ak),ρ[n]?=some a->a≠p:=by
  intro n a e z;subst z;have hn:n<S.length:=by rw[<- R.len];exact(aI.mp e).1
  have:=R.at n a S[n] e (aH hn)
  cases k:S[n]with
  | lst xs=>rw[k]at this;obtain⟨vs,h,_⟩:=this;rw[hp]at h;cases h
  | dct _|dki _|dcp _=>rw[k]at this;obtain⟨vs,h,_⟩:=this;rw[hp]at h;cases h
  | ins _ _=>rw[k]at this;obtain⟨_,_,h⟩:=this;rw[hp]at h;cases h
 have d:(ρ++[p])[S.length]?=some p:=by rw[<- R.len];simp
 refine⟨ex,⟨by simp[R.len],?_,?_⟩,d⟩
 ·rw[List.nodup_append];refine⟨R.nd,by simp,λa m b B e=>?_⟩;have:b=p:=by simpa using B
  obtain⟨n,hn,C⟩:=dY.mp m;exact g n a (by rw[aH hn,C])<|e.trans this
 ·intro n a o h1 f;by_cases hn:n<S.length
  ·rw[aV<|by rw[R.len];exact hn]at h1;rw[aV hn]at f;have:=R.at n a o h1 f
   cases o with
   | lst ys=>obtain⟨j,e,q⟩:=this;exact⟨j,by rw[fJ<|g n a h1];exact e,q.ext ex⟩
   | dct _|dki _|dcp _=>obtain⟨j,e,q⟩:=this;exact⟨j,by rw[fJ<|g n a h1];exact e,q.ext ex⟩
   | ins _ _=>obtain⟨G,F,e⟩:=this;exact⟨G,F,by rw[fJ<|g n a h1];exact e⟩
  ·have e:n=S.length:=by
    have:=(aI.mp f).1;simp at this
    lia
   subst e;rw[d]at h1
   cases h1
   simp at f;subst f;exact⟨vs,h_,r.ext ex⟩
def Rel.im{p:ak}(R:Rel K ρ H S)(hp:H p=none):Ext ρ ρ H (upd H p u)/\Rel K ρ (upd H p u) S:=by
 have ex:Ext ρ ρ H (upd H p u):=⟨⟨cW _,λa u _ h=>by rw[fJ<|fP h hp];exact h⟩,λa u h _=>by rw[fJ<|fP h hp];exact h,λ_ h=>.inl h⟩;refine⟨ex,R.len,R.nd,λn a o h1 f=>?_⟩;have:=R.at n a o h1 f
 cases o with
 | lst ys=>obtain⟨d,e,q⟩:=this;exact⟨d,by rw[fJ<|fP e hp];exact e,q.ext ex⟩
 | dct _|dki _|dcp _=>obtain⟨d,e,q⟩:=this;exact⟨d,by rw[fJ<|fP e hp];exact e,q.ext ex⟩
 | ins _ _=>obtain⟨j,g,e⟩:=this;exact⟨j,g,by rw[fJ<|fP e hp];exact e⟩
def Rel.put{S:e_}{n:Nat}{a:ak}(R:Rel K ρ H S)(ha:ρ[n]?=some a)(hS:S[n]?=some (.lst xs))(r:AVs K ρ H ys ws):Ext ρ ρ H (upd H a<|.lst ws)/\Rel K ρ (upd H a<|.lst ws) (S.set n<|.lst ys):=by
 obtain⟨F,e,_⟩:=R.at n a _ ha hS;have ex:Ext ρ ρ H (upd H a<|.lst ws):=⟨⟨cW _,λb u i h=>by
  have:b≠a:=by
   intro z;subst z;rw[e]at h;cases h;exact i
  rw[fJ this];exact h⟩,λb u h n=>by
  rw[fJ λz=>n<|by rw[z];exact bH ha];exact h,λ_ h=>.inl h⟩
 refine⟨ex,by rw[bG];exact R.len,R.nd,λm b o h1 g=>?_⟩;by_cases j:m=n
 ·subst j;rw[ha]at h1;cases h1;rw[bY (aI.mp hS).1]at g
  cases g
  exact⟨ws,h_,r.ext ex⟩
 ·rw[bV<|dw j]at g;have nb:b≠a:=λz=>by
   subst z;obtain⟨C,e1⟩:=aI.mp ha;obtain⟨B,e2⟩:=aI.mp h1;exact j<|(dP R.nd).mp<|e2.trans e1.symm
  have:=R.at m b o h1 g
  cases o with
  | lst ys=>obtain⟨d,f,q⟩:=this;exact⟨d,by rw[fJ nb];exact f,q.ext ex⟩
  | dct _|dki _|dcp _=>obtain⟨d,f,q⟩:=this;exact⟨d,by rw[fJ nb];exact f,q.ext ex⟩
  | ins _ _=>obtain⟨p,k,f⟩:=this;exact⟨p,k,by rw[fJ nb];exact f⟩
def Rel.lst{n:Nat}{a:ak}(R:Rel K ρ H S)(ha:ρ[n]?=some a)(hS:S[n]?=some (.lst xs)):∃vs,H a=some (.lst vs)/\AVs K ρ H xs vs:=R.at n a _ ha hS
structure SR (K:aA)(ρ:ar)(H:Hp)(τ:ad)(σ:St):Prop where
 len:τ.length=σ.length
 «at»:∀(i:Nat) (a:A),τ[i]?=some a->a=.unb\/∃v,σ[i]?=some (some v)/\AV K ρ H a v
def SR.gB(s:SR K ρ H τ σ)(e:Ext0 ρ ρ' H H'):SR K ρ' H' τ σ:=⟨s.len,λi a h=>by
 rcases s.at i a h with z|⟨v,h1,d⟩
 ·exact .inl z
 ·exact .inr ⟨v,h1,AV.gB e d⟩⟩
def SR.ext(s:SR K ρ H τ σ)(e:Ext ρ ρ' H H'):SR K ρ' H' τ σ:=s.gB e.toExt0
def Rel.out(R:Rel K ρ H S)(hD:H D=some (.lst vs))(hn:D∉ρ):Ext0 ρ ρ H (upd H D<|.lst ws)/\Rel K ρ (upd H D<|.lst ws) S:=by
 have ex:Ext0 ρ ρ H (upd H D<|.lst ws):=⟨cW _,λb u i h=>by
  have:b≠D:=by
   intro z;subst z;rw[hD]at h;cases h;exact i
  rw[fJ this];exact h⟩
 refine⟨ex,R.len,R.nd,λn a o h1 f=>?_⟩;have na:a≠D:=λz=>hn (by rw[<- z];exact bH h1);have:=R.at n a o h1 f
 cases o with
 | lst ys=>obtain⟨d,e,q⟩:=this;exact⟨d,by rw[fJ na];exact e,AVs.gB ex q⟩
 | dct _|dki _|dcp _=>obtain⟨d,e,q⟩:=this;exact⟨d,by rw[fJ na];exact e,q.gB ex⟩
 | ins _ _=>obtain⟨j,g,e⟩:=this;exact⟨j,g,by rw[fJ na];exact e⟩
def Rel.take{S:e_}{D:ak}(R:Rel K ρ H S)(hD:H D=some (.lst vs))(hn:D∉ρ)(r:AVs K ρ H xs vs):Rel K (ρ++[D]) H (S++[.lst xs])/\(ρ++[D])[S.length]?=some D:=by
 have ex:Ext0 ρ (ρ++[D]) H H:=⟨eE _ _,λ_ _ _ h=>h⟩;have d:(ρ++[D])[S.length]?=some D:=by rw[<- R.len];simp
 refine⟨⟨by simp[R.len],?_,λn a o h1 f=>?_⟩,d⟩
 ·rw[List.nodup_append];refine⟨R.nd,by simp,λa j b k e=>?_⟩;have:b=D:=by simpa using k
  exact hn<|by rw[<- this,<- e];exact j
 ·by_cases hs:n<S.length
  ·rw[aV<|by rw[R.len];exact hs]at h1;rw[aV hs]at f;have:=R.at n a o h1 f
   cases o with
   | lst ys=>obtain⟨g,e,q⟩:=this;exact⟨g,e,AVs.gB ex q⟩
   | dct _|dki _|dcp _=>obtain⟨g,e,q⟩:=this;exact⟨g,e,q.gB ex⟩
   | ins _ _=>obtain⟨p,m,e⟩:=this;exact⟨p,m,e⟩
  ·have e:n=S.length:=by
    have:=(aI.mp f).1;simp at this
    lia
   subst e;rw[d]at h1
   cases h1
   simp at f;subst f;exact⟨vs,hD,AVs.gB ex r⟩
def SR.set{τ:ad}{σ:St}{a:A}{v:V}(s:SR K ρ H τ σ)(h:AV K ρ H a v):SR K ρ H (τ.set i a) (σ.set i<|some v):=by
 refine⟨by simp[s.len],λj b e=>?_⟩;by_cases d:j=i
 ·subst d;have f:j<τ.length:=by
   have:=(aI.mp e).1;simpa using this
  rw[bY f]at e
  cases e
  exact .inr ⟨v,bY<|by rw[<- s.len];exact f,h⟩
 ·rw[bV<|dw d]at e;rw[bV<|dw d];exact s.at j b e
end
end Am
namespace Am
open PySem PySem.Spec PyProof.Rows L2
abbrev XE (X:Cx)(ρ:ar)(H:Hp):Str->e_->Prop:=λc d=>∀(C:ak) (ρ':ar) (H':Hp),HZ X.K c C->Ext ρ ρ' H H'->Rel X.K ρ' H' d->EX X (.ref C) none H'
def XE.ext{H H':Hp}(h:XE X ρ H c S)(e:Ext ρ ρ' H H'):XE X ρ' H' c S:=λC d H2 n e2=>h C d H2 n<|e.trans e2
abbrev pC (X:Cx)(ρ:ar)(H:Hp)(Q:VK):A->e_->Prop:=λa d=>∀ρ' H' v,Ext ρ ρ' H H'->Rel X.K ρ' H' d->AV X.K ρ' H' a v->Q v H'
abbrev HE (X:Cx)(ρ:ar)(H:Hp)(Q:Bool->Hp->Prop):Bool->e_->Prop:=λb d=>∀ρ' H',Ext ρ ρ' H H'->Rel X.K ρ' H' d->Q b H'
abbrev J1 (X:Cx)(ρ:ar)(H:Hp)(Q:List V->Hp->Prop):ad->e_->Prop:=λf g=>∀ρ' H' d,Ext ρ ρ' H H'->Rel X.K ρ' H' g->AVs X.K ρ' H' f d->Q d H'
def pC.ext{H H':Hp}{Q:VK}{a:A}(h:pC X ρ H Q a S)(e:Ext ρ ρ' H H'):pC X ρ' H' Q a S:=λd H2 v e2=>h d H2 v<|e.trans e2
def HE.ext{H H':Hp}{Q:Bool->Hp->Prop}{a:Bool}(h:HE X ρ H Q a S)(e:Ext ρ ρ' H H'):HE X ρ' H' Q a S:=λd H2 e2=>h d H2<|e.trans e2
def ff{α:Type}{H H':Hp}{r:R α}{P P':α->e_->Prop}(h:r.post P<|XE X ρ H)(e:Ext ρ ρ' H H')(hp:∀a S,P a S->P' a S):r.post P' (XE X ρ' H'):=xG h hp λ_ _ z=>z.ext e
abbrev tE (X:Cx)(c:Ex):TE:=λσ H Q=>∃ρ S τ,Rel X.K ρ H S/\SR X.K ρ H τ σ/\(c τ S).post (pC X ρ H Q) (XE X ρ H)
abbrev tT (X:Cx)(c:Te):TT:=λσ H Q=>∃ρ S τ,Rel X.K ρ H S/\SR X.K ρ H τ σ/\(c τ S).post (HE X ρ H Q) (XE X ρ H)
abbrev tL (X:Cx)(c:lu):TA:=λσ H Q=>∃ρ S τ,Rel X.K ρ H S/\SR X.K ρ H τ σ/\(c τ S).post (J1 X ρ H Q) (XE X ρ H)
abbrev AE (X:Cx)(e:aF)(c:Ex):Prop:=PE X e<|tE X c
abbrev AT (X:Cx)(e:aF)(c:Te):Prop:=PT X e<|tT X c
abbrev AW (X:Cx)(e:aF)(c:Te):Prop:=PW X e<|tT X c
abbrev AL (X:Cx)(es:List aF)(c:lu):Prop:=PA X es<|tL X c
def PE.imp{t t':TE}(h:PE X e t)(i:∀σ H Q,t' σ H Q->t σ H Q):PE X e t':=λpins s σ H Q I q=>h pins s σ H Q I<|i σ H Q q
def PT.imp{t t':TT}(h:PT X e t)(i:∀σ H Q,t' σ H Q->t σ H Q):PT X e t':=λpins s σ H Q I q=>h pins s σ H Q I<|i σ H Q q
def PW.imp{t t':TT}(h:PW X e t)(i:∀σ H Q,t' σ H Q->t σ H Q):PW X e t':=λw pins s σ H Q I q=>h w pins s σ H Q I<|i σ H Q q
def PA.imp{t t':TA}(h:PA X e t)(i:∀σ H Q,t' σ H Q->t σ H Q):PA X e t':=λp pins s σ H Q I q=>h p pins s σ H Q I<|i σ H Q q
def AW.at{c:Te}(h:AW X e c):AT X e c:=h _
abbrev A.iA:A->Bool
 | .unb=>true
 | _=>false
abbrev eY (i:Nat):Ex:=λτ S=>if (τ.getD i .unb).iA then .no else .ok (τ.getD i .unb) S
abbrev eC (a:A):Ex:=λ_ S=>.ok a S
section
variable {X:Cx}{pos:Pos}{a b:aF}
def eW(i:Nat){x:Str}(hN:X.N[i]?=some x:=by rfl)(hv:Hs X.env.scope x:=by first|exact Or.inl rfl|exact Or.inr (Or.inl rfl)|exact Or.inr<|Or.inr rfl)(hd:(x == ("__debug__" : Str))=false:=by decide)
  (hcd:(x == ("__classdict__" : Str))=false:=by decide):AE X (.Name x pos) (eY i):=PE.imp (DQ hN hv hd hcd) λσ H Q h9=>by
 z_go;unfold eY at h
 cases hi:τ[i]? with
 | none=>
  rw[aN,hi]at h;exact h.elim
 | some x=>
  rw[aN,hi]at h
  rcases r.at i x hi with z|⟨v,e,q⟩
  ·subst z;exact h.elim
  ·refine⟨v,e,?_⟩
   cases x<;>first|(exact h ρ H v .refl R q)|exact h.elim
def e9{i:Int}{j pos}:AE X (.Constant (.int i) j pos) (eC<|.int i):=PE.imp EW λσ H Q ⟨ρ,S,τ,R,r,h⟩=>h ρ H _ .refl R<|.int i
def yW{j pos}:AE X (.Constant (.bool i) j pos) (eC<|.bl i):=PE.imp Gs λσ H Q ⟨ρ,S,τ,R,r,h⟩=>h ρ H _ .refl R<|.bl i
def qo{j pos}:AE X (.Constant .none j pos) (eC .non):=PE.imp D0 λσ H Q ⟨ρ,S,τ,R,r,h⟩=>h ρ H _ .refl R .non
abbrev fu (f:A->A->e_->R A)(ca cb:Ex):Ex:=λτ S=>(ca τ S).bind λa S1=>(cb τ S1).bind λb d=>f a b d
abbrev r2 (X:Cx)(f:A->A->e_->R A):R2:=λx y H Q=>∃ρ S a b,Rel X.K ρ H S/\AV X.K ρ H a x/\AV X.K ρ H b y/\(f a b S).post (pC X ρ H Q) (XE X ρ H)
abbrev r1 (X:Cx)(f:A->e_->R A):V->Hp->VK->Prop:=λx H Q=>∃ρ S a,Rel X.K ρ H S/\AV X.K ρ H a x/\(f a S).post (pC X ρ H Q) (XE X ρ H)
abbrev rN (X:Cx)(f:ad->e_->R A):List V->Hp->VK->Prop:=λxs H Q=>∃ρ S d,Rel X.K ρ H S/\AVs X.K ρ H d xs/\(f d S).post (pC X ρ H Q) (XE X ρ H)
def jt.imp{f:aa->aa->Sem aa}{r r':R2}(h:jt X f r)(i:∀x y H Q,r' x y H Q->r x y H Q):jt X f r':=λpins s σ H x y v u Q I rx ry q=>h pins s σ H x y v u Q I rx ry<|i _ _ _ _ q
def fU.imp{f:aa}{r r':List V->Hp->VK->Prop}(h:fU X f r)(i:∀x H Q,r' x H Q->r x H Q):fU X f r':=λpins s σ H x v Q I rx q=>h pins s σ H x v Q I rx<|i _ _ _ q
def nW{f:A->A->e_->R A}{ca cb:Ex}{H:Hp}{Q:VK}(h:tE X (fu f ca cb) σ H Q):G6 (r2 X f) (tE X ca) (tE X cb) σ H Q:=by
 obtain⟨ρ,S,τ,R,r,h⟩:=h;refine⟨ρ,S,τ,R,r,ff (fD h) .refl λa S1 h1 ρ1 H1 x e1 q m=>⟨ρ1,S1,τ,q,r.ext e1,ff (fD h1) e1 λb g k d H2 y e2 R2 p=>?_⟩⟩;exact⟨d,g,a,b,R2,m.ext e2,p,ff k (e1.trans e2) λc z j=>j.ext<|e1.trans e2⟩
def fC{f:A->A->e_->R A}{ca cb:Ex}(ho:jt X (binaryOp op)<|r2 X f)(ha:AE X a ca)(hb:AE X b cb):AE X (.BinOp a op b pos) (fu f ca cb):=
 PE.imp (Gk ho ha hb) λσ H Q h=>nW h
def qC{op:CmpOp}{f:A->A->e_->R A}{ca cb:Ex}(ho:jt X (compareOp op)<|r2 X f)(ha:AE X a ca)(hb:AE X b cb)(hm:behindInMarks op b=false:=by first|exact Ao _|with_unfolding_all rfl):AE X (.Compare a [op] [b] pos) (fu f ca cb):=
 PE.imp (By ho ha hb hm) λσ H Q h=>nW h
abbrev A.Hf:A->e_->bi
 | .non,_=>some false
 | .bl b,_=>some b
 | .int i,_=>some (i != 0)
 | .str x,_=>if x.length<=sizeLine then some ((x.length:Int) != 0)else none
 | .tup xs,_=>some (!xs.isEmpty)
 | .frz xs,_=>some (!xs.isEmpty)
 | .ref n,S=>(fh S n).map λxs=>!xs.isEmpty
 | _,_=>none
abbrev w4 (c:Ex):Te:=λτ S=>(c τ S).bind λa S1=>opt (a.Hf S1) λb=>.ok b S1
abbrev qQ (c:Ex):Te:=λτ S=>(c τ S).bind λa S1=>match a with
 | .bl b=>.ok b S1
 | _=>.no
def C8{K:aA}{H:Hp}{b:Bool}{v:V}(h:AV K ρ H (.bl b) v):v=.bl b:=by cases h;rfl
def iJ{op:CmpOp}{f:A->A->e_->R A}{ca cb:Ex}(ho:jt X (compareOp op)<|r2 X f)(ha:AE X a ca)(hb:AE X b cb)(hm:behindInMarks op b=false:=by first|exact Ao _|with_unfolding_all rfl):AT X (.Compare a [op] [b] pos) (qQ<|fu f ca cb):=
 PT.imp (B7 ho ha hb hm) λσ H Q h9=>by
  z_go;refine nW ⟨ρ,S,τ,R,r,ff (fD h) .refl λc S1 h1 ρ1 H1 x e1 d g=>?_⟩
  cases c with
  | bl k=>cases C8 g;exact⟨k,rfl,h1 ρ1 H1 e1 d⟩
  | _=>exact h1.elim
def EY{K:aA}{H:Hp}{x:A}{v:V}{b:Bool}(R:Rel K ρ H S)(h:AV K ρ H x v)(e:x.Hf S=some b):EZ K v H b:=by
 have d:∀{xs:ad} {f:List V},AVs K ρ H xs f->(!xs.isEmpty)=!f.isEmpty:=λr=>by cases r<;>rfl
 cases h with
 | non=>exact(aL e).symm
 | bl b=>exact(aL e).symm
 | int i=>exact(aL e).symm
 | str x=>
  by_cases g:x.length<=sizeLine
  ·exact⟨g,by have:=(aR g).symm.trans e;exact(aL this).symm⟩
  ·have:=(aT g).symm.trans e;cases this
 | tup h r=>exact .inr (.inl ⟨_,iT.of h,by rw[<- d r];exact(aL e).symm⟩)
 | frz h r=>exact .inl ⟨_,h.zF,by rw[<- d r];exact(aL e).symm⟩
 | rng h=>cases e
 | ty n=>cases e
 | exn n h x=>cases e
 | ktu h r=>cases e
 | @ref a n h=>
  have e:(fh S n).map (λxs=>!xs.isEmpty)=some b:=e;obtain⟨xs,hn,e⟩:=bD.mp e;obtain⟨f,h1,j⟩:=R.lst h<|fH hn;exact .inl ⟨f,i_.of h1,by rw[<- d j];exact e.symm⟩
def xX{ca:Ex}(ha:AE X a ca)(he:∀whole,isTrue a X.env whole=(do let v <- whole;standAt a.pos;holding [v] (truthy v)):=by intro _;rfl):AT X a (w4 ca):=
 PT.imp (zR ha he) λσ H Q ⟨ρ,S,τ,R,r,h⟩=>⟨ρ,S,τ,R,r,ff (fD h) .refl λc S1 h1 ρ1 H1 x e1 d f=>by
  obtain⟨b,g,h1⟩:=fB h1;exact⟨b,EY d f g,h1 ρ1 H1 e1 d⟩⟩
abbrev IG (c:Te):Te:=λτ S=>(c τ S).bind λb S1=>.ok (!b) S1
abbrev IS (c d:Te):Te:=λτ S=>(c τ S).bind λb S1=>match b with|true=>d τ S1|false=>.ok false S1
abbrev Ge (c d:Te):Te:=λτ S=>(c τ S).bind λb S1=>match b with|true=>.ok true S1|false=>d τ S1
def or_imp{c d:Te}{H:Hp}{Q:Bool->Hp->Prop}(h:tT X (Ge c d) σ H Q):Jr (tT X c) (tT X d) σ H Q:=by
 obtain⟨ρ,S,τ,R,r,h⟩:=h;refine⟨ρ,S,τ,R,r,ff (fD h) .refl λb S1 h1 ρ1 H1 e1 f=>?_⟩
 cases b with
 | false=>
  rw[aT bf];exact⟨ρ1,S1,τ,f,r.ext e1,ff h1 e1 λ_ _ z=>z.ext e1⟩
 | true=>
  rw[aR rfl];exact h1 ρ1 H1 e1 f
variable {rest:List aF}
def DR{c:Te}(h:AT X a c):AW X (.BoolOp .Or [a] pos) c:=EG h
def GN{c d:Te}(h:AT X a c)(h2:AW X (.BoolOp .Or (b::rest) pos) d):AW X (.BoolOp .Or (a::b::rest) pos) (Ge c d):=PW.imp (Hr h h2) λ_ _ _ q=>or_imp q
abbrev GY (c d:Ex):Ex:=λτ S=>(c τ S).bind λa S1=>match a with | .bl true=>d τ S1 | .bl false=>.ok (.bl false) S1|_=>.no
abbrev JM (c d:Ex):Ex:=λτ S=>(c τ S).bind λa S1=>match a with | .bl true=>.ok (.bl true) S1 | .bl false=>d τ S1|_=>.no
abbrev Il (c:Ex):Ex:=λτ S=>(c τ S).bind λa S1=>match a with | .bl b=>.ok (.bl !b) S1|_=>.no
abbrev J9 (t:Te)(c d:Ex):Ex:=λτ S=>(t τ S).bind λb S1=>match b with|true=>c τ S1|false=>d τ S1
abbrev fE:lu:=λ_ S=>.ok [] S
abbrev eX (c:Ex)(d:lu):lu:=λτ S=>(c τ S).bind λa S1=>(d τ S1).bind λf g=>.ok (a::f) g
def fF:AL X [] fE:=PA.imp tB λσ H Q ⟨ρ,S,τ,R,r,h⟩=>h ρ H _ .refl R .nil
def eZ{c:Ex}{d:lu}(ha:AE X e c)(hr:AL X es d)(hs:starEach (e::es) X.env=(false,eval e X.env)::starEach es X.env:=by rfl):AL X (e::es) (eX c d):=
 PA.imp (nS ha hr hs) λσ H Q h9=>by
  z_go;refine⟨ρ,S,τ,R,r,ff (fD h) .refl λa S1 h1 ρ1 H1 x e1 m j=>⟨ρ1,S1,τ,m,r.ext e1,ff (fD h1) e1 λq p g f H2 xs e2 R2 k=>?_⟩⟩;exact g f H2 _ (e1.trans e2) R2<|.cons (j.ext e2) k
abbrev nJ (d:lu):Ex:=λτ S=>(d τ S).bind λf S1=>gd (f.length<=sizeLine)<|.ok (.tup f) S1
abbrev newL (as:ad)(S:e_):R A:=gd (as.length<=sizeLine)<|.ok (.ref S.length)<|S++[.lst as]
abbrev qO (d:lu):Ex:=λτ S=>(d τ S).bind λf S1=>newL f S1
def k9{H H0:Hp}{Q:VK}(R:Rel X.K ρ H S)(r:AVs X.K ρ H as vs)(e:Ext ρ0 ρ H0 H)(h:pC X ρ0 H0 Q (.tup as) S):∀p,H p=none->Q (.ref p) (upd H p<|.tup vs):=λp f=>by
 obtain⟨ex,d⟩:=R.im (u:=.tup vs) f;exact h ρ _ _ (e.trans ex) d<|.tup h_<|r.ext ex
def iN{H H0:Hp}{S:e_}{Q:VK}(R:Rel X.K ρ H S)(r:AVs X.K ρ H as vs)(e:Ext ρ0 ρ H0 H)(h:pC X ρ0 H0 Q (.ref S.length)<|S++[.lst as]):∀p,H p=none->Q (.ref p) (upd H p<|.lst vs):=λp f=>by
 obtain⟨ex,d,g⟩:=R.lay f r;exact h _ _ _ (e.trans ex) d<|.ref g
def BL{H H0:Hp}{vs:List V}{Q:VK}(R:Rel X.K ρ H S)(r:AVs X.K ρ H as vs)(e:Ext ρ0 ρ H0 H)(h:(newL as S).post (pC X ρ0 H0 Q)<|XE X ρ0 H0):vs.length<=sizeLine/\∀p,H p=none->Q (.ref p) (upd H p<|.lst vs):=by
 obtain⟨d,h⟩:=fK h;exact⟨by rw[<- r.length];exact d,iN R r e h⟩
def nk{d:lu}{x1}(h:AL X es d):AE X (.Tuple es x1 pos) (nJ d):=PE.imp (DW h) λσ H Q h9=>by
 z_go;refine⟨ρ,S,τ,R,r,ff (fD h) .refl λk S1 h1 ρ1 H1 xs e1 g f=>?_⟩;obtain⟨j,h1⟩:=fK h1;exact⟨by rw[<- f.length];exact j,k9 g f e1 h1⟩
def lW{d:lu}(h:AL X es d):AE X (.List es pos) (qO d):=PE.imp (FI h) λσ H Q ⟨ρ,S,τ,R,r,h⟩=>
 ⟨ρ,S,τ,R,r,ff (fD h) .refl λj S1 h1 ρ1 H1 xs e1 f g=>BL f g e1 h1⟩
end
section
variable {X:Cx}{pos:Pos}{a b:aF}
abbrev aSub (a b:A)(S:e_):R A:=match a,b with
 | .int i,.int j=>.ok (.int<|i-j) S
 | _,_=>.no
def mT:jt X (binaryOp .Sub) (r2 X aSub):=jt.imp FJ λx y H Q h9=>by
 room
 cases va<;>first|exact h.elim|(cases vb<;>first|exact h.elim|exact⟨_,_,rfl,rfl,h _ _ _ .refl R<|.int _⟩)
abbrev rj (i j:Int):Bool:=(decide (-(2 ^ 64)<i) && decide (i<2 ^ 64)) || (decide (-(2 ^ 64)<j) && decide (j<2 ^ 64))
def mulOk_of{i j:Int}(h:rj i j=true):Cc i j:=by
 unfold rj at h;dsimp[Bool.or_eq_true,cF,decide_eq_true_eq]at h;exact h
abbrev nL (a b:A)(S:e_):R A:=match a,b with
 | .int i,.int j=>gd (rj i j) (.ok (.int<|i * j) S)
 | .ref n,.int k=>opt (fh S n) λxs=>gd (-(2 ^ 63)<=k/\k<2 ^ 63/\xs.length * k.toNat<=sizeLine) (.ok (.ref S.length)<|S++[.lst (List.replicate k.toNat xs).flatten])
 | _,_=>.no
theorem AVs.rep{K:aA}{H:Hp}(r:AVs K ρ H xs vs):∀k:Nat,AVs K ρ H (List.replicate k xs).flatten (List.replicate k vs).flatten
 | 0=>.nil
 | k+1=>by rw[bS,bS,b6,b6];exact r.append<|AVs.rep r k
def p5:jt X (binaryOp .Mult) (r2 X nL):=λpins s σ H x y v u Q I rx ry h9=>by
 room
 cases va with
 | int i=>
  cases vb with
  | int j=>
   obtain⟨f,h⟩:=fK h;exact Ea pins s σ H _ _ v u Q I rx ry ⟨i,j,rfl,rfl,mulOk_of f,h _ _ _ .refl R<|.int _⟩
  | _=>exact h.elim
 | @ref p n g=>
  cases vb with
  | int k=>
   kd_p;obtain⟨hc,h⟩:=fK h;obtain⟨m,h1,d⟩:=R.lst g<|fH hn;exact Et pins s σ H _ _ v u Q I rx ry ⟨p,k,m,rfl,rfl,h1,hc.1,hc.2.1,by rw[<- d.length];exact hc.2.2,iN R (d.rep _) .refl h⟩
  | _=>exact h.elim
 | _=>exact h.elim
abbrev vq (a b:A)(S:e_):R A:=match a,b with
 | .int i,.int j=>gd (0<j/\j<18446744073709551616) (.ok (.int<|i / j) S)
 | _,_=>.no
def A1:jt X (binaryOp .FloorDiv) (r2 X vq):=jt.imp xM λx y H Q h9=>by
 room
 cases va<;>first|exact h.elim|(cases vb<;>first|exact h.elim|exact⟨_,_,rfl,rfl,(fK h).1,(fK h).2 _ _ _ .refl R<|.int _⟩)
abbrev qS (a b:A)(S:e_):R A:=match a,b with
 | .int i,.int j=>gd (0<j) (.ok (.int<|i % j) S)
 | _,_=>.no
def p6:jt X (binaryOp .Mod) (r2 X qS):=jt.imp D5 λx y H Q h9=>by
 room
 cases va<;>first|exact h.elim|(cases vb<;>first|exact h.elim|exact⟨_,_,rfl,rfl,(fK h).1,(fK h).2 _ _ _ .refl R<|.int _⟩)
abbrev El (a b:A)(S:e_):R A:=match a,b with
 | .int i,.int j=>gd (0<=j/\j<=1000000/\i.natAbs<2 ^ 64) (.ok (.int<|i ^ j.toNat) S)
 | _,_=>.no
def GB:jt X (binaryOp .Pow) (r2 X El):=jt.imp FQ λx y H Q h9=>by
 room
 cases va<;>first|exact h.elim|(cases vb<;>first|exact h.elim|exact⟨_,_,rfl,rfl,(fK h).1,(fK h).2 _ _ _ .refl R<|.int _⟩)
abbrev gu (a b:A)(S:e_):R A:=match a,b with
 | .int i,.int j=>.ok (.int<|i+j) S
 | .tup xs,.tup ys=>gd (xs.length+ys.length<=sizeLine) (.ok (.tup<|xs++ys) S)
 | .str x,.str y=>gd (x.length+y.length<=sizeLine) (.ok (.str<|x++y) S)
 | .ref n,.ref m=>opt (fh S n) λxs=>opt (fh S m) λys=>gd (xs.length+ys.length<=sizeLine) (.ok (.ref S.length)<|S++[.lst<|xs++ys])
 | _,_=>.no
def AVs.nil_inv{K:aA}{H:Hp}(r:AVs K ρ H xs vs):xs=[] ↔ vs=[]:=by cases r<;>simp
def gg:jt X (binaryOp .Add) (r2 X gu):=λpins s σ H x y v u Q I rx ry h9=>by
 room
 cases va with
 | int i=>
  cases vb with
  | int j=>exact FL pins s σ H _ _ v u Q I rx ry ⟨i,j,rfl,rfl,h _ _ _ .refl R<|.int _⟩
  | _=>exact h.elim
 | str x=>
  cases vb with
  | str y=>
   obtain⟨hc,h⟩:=fK h;exact t9 pins s σ H _ _ v u Q I rx ry ⟨x,y,rfl,rfl,hc,h _ _ _ .refl R<|.str _⟩
  | _=>exact h.elim
 | @tup p xs g h1 r1=>
  cases vb with
  | @tup q ys f d r2=>
   obtain⟨hc,h⟩:=fK h;by_cases hv:g=[]
   ·have C:=r1.nil_inv.mpr hv;subst hv C;exact zD pins s σ H _ _ v u Q I rx ry ⟨p,q,f,rfl,rfl,iT.of h1,iT.of d,h _ _ _ .refl R<|.tup d r2⟩
   ·refine Cd pins s σ H _ _ v u Q I rx ry ⟨p,q,g,f,rfl,rfl,iT.of h1,iT.of d,hv,by rw[<- r1.length,<- r2.length];exact hc,λe=>?_,λ_=>k9 R (r1.append r2) .refl h⟩;have hy:=r2.nil_inv.mpr e;subst hy;rw[cL]at h;exact h _ _ _ .refl R<|.tup h1 r1
  | _=>exact h.elim
 | @ref p n G=>
  cases vb with
  | @ref q m F=>
   kd_p;obtain⟨ys,z,h⟩:=fB h;obtain⟨hc,h⟩:=fK h;obtain⟨g,h1,d⟩:=R.lst G<|fH hn;obtain⟨f,B,k⟩:=R.lst F<|fH z;exact E3 pins s σ H _ _ v u Q I rx ry ⟨p,q,g,f,rfl,rfl,h1,B,by rw[<- d.length,<- k.length];exact hc,iN R (d.append k) .refl h⟩
  | _=>exact h.elim
 | _=>exact h.elim
abbrev A.ints:ad->Option (ae)
 | []=>some []
 | .int i::xs=>(A.ints xs).map (i::·)
 | _=>none
def EV{x:A}{bs:ae}(e:A.ints (x::xs)=some bs):∃b cs,x=.int b/\A.ints xs=some cs/\bs=b::cs:=by
 unfold A.ints at e;split at e
 ·rename_i z;cases z
 ·rename_i i ys z
  cases z
  obtain⟨cs,h1,d⟩:=bD.mp e;exact⟨i,cs,rfl,h1,d.symm⟩
 ·cases e
def vP{K:aA}{H:Hp}:∀{xs:ad}{vs:List V}{bs:ae},AVs K ρ H xs vs->A.ints xs=some bs->vs=bs.map V.int:=by
 intro xs
 induction xs with
 | nil=>
  intro vs bs h e
  cases h
  cases e
  rfl
 | cons x xs d=>
  intro vs bs h e;obtain⟨b,f,rfl,e1,rfl⟩:=EV e
  cases h with
  | cons h t=>
   cases h
   rw[d t e1];rfl
abbrev Fb (a b:A)(S:e_):R A:=match a,b with
 | .int i,.int j=>.ok (.bl<|decide<|i<j) S
 | _,_=>.no
def BQ(hu:X.A.units+64<cLine):jt X (compareOp .Lt) (r2 X Fb):=λpins s σ H x y v u Q I rx ry h9=>by
 room
 cases va with
 | int i=>
  cases vb with
  | int j=>exact Ht pins s σ H _ _ v u Q I rx ry ⟨i,j,rfl,rfl,h _ _ _ .refl R<|.bl _⟩
  | _=>exact h.elim
 | _=>exact h.elim
abbrev Ij (a b:A)(S:e_):R A:=match a,b with
 | .int i,.int j=>.ok (.bl<|decide<|i<=j) S
 | _,_=>.no
def HM:jt X (compareOp .LtE) (r2 X Ij):=jt.imp GK λx y H Q h9=>by
 room
 cases va<;>first|exact h.elim|(cases vb<;>first|exact h.elim|exact⟨_,_,rfl,rfl,h _ _ _ .refl R<|.bl _⟩)
abbrev Eg (a b:A)(S:e_):R A:=match a,b with
 | .int i,.int j=>.ok (.bl<|decide<|j<i) S
 | _,_=>.no
def BP(hu:X.A.units+64<cLine):jt X (compareOp .Gt) (r2 X Eg):=λpins s σ H x y v u Q I rx ry h9=>by
 room
 cases va with
 | int i=>
  cases vb with
  | int j=>exact GQ pins s σ H _ _ v u Q I rx ry ⟨i,j,rfl,rfl,h _ _ _ .refl R<|.bl _⟩
  | _=>exact h.elim
 | _=>exact h.elim
abbrev J7 (a b:A)(S:e_):R A:=match a,b with
 | .int i,.int j=>.ok (.bl<|decide<|j<=i) S
 | _,_=>.no
abbrev sV (neg:Bool)(a b:A)(S:e_):R A:=match a,b with
 | .bl i,.bl j=>.ok (.bl<|if neg then i != j else i == j) S
 | .non,.non=>.ok (.bl<|!neg) S
 | .unb,.non=>.no
 | .exn _,.non=>.no
 | _,.non=>.ok (.bl neg) S
 | _,_=>.no
def E9{n:Bool}{a b:A}(h1:b≠.non)(h2:∀j,b≠.bl j):sV n a b S=.no:=by
 unfold sV;split<;>first|rfl|exact absurd rfl h1|exact absurd rfl<|h2 _
def FO{n:Bool}{a b:A}{F:A->e_->Prop}{G:Str->e_->Prop}(h:(sV n a b S).post F G)(h1:b≠.non)(h2:∀j,b≠.bl j):False:=by
 rw[E9 h1 h2]at h;exact h
def Hv:jt X (compareOp .Is) (r2 X<|sV false):=λpins s σ H x y v u Q I rx ry h9=>by
 room
 cases vb with
 | non=>
  refine ET pins s σ H _ _ v u Q I rx ry ⟨rfl,?_⟩
  cases va<;>first|exact h _ _ _ .refl R (.bl _)|exact h.elim
 | bl j=>
  cases va with
  | bl i=>exact Ew pins s σ H _ _ v u Q I rx ry ⟨i,j,rfl,rfl,h _ _ _ .refl R<|.bl _⟩
  | _=>exact h.elim
 | _=>
  exact(FO h (λz=>nomatch z) nofun).elim
abbrev J6 (f:A->e_->R A)(c:Ex):Ex:=λτ S=>(c τ S).bind λa S1=>f a S1
abbrev HS (a:A)(S:e_):R A:=match a with
 | .int i=>.ok (.int<|-i) S
 | _=>.no
abbrev mV (a b:A)(S:e_):R A:=match a,b with
 | .tup xs,.int i=>opt (j7 xs i) λx=>.ok x S
 | .frz xs,.int i=>opt (j7 xs i) λx=>.ok x S
 | .ref n,.int i=>opt (fh S n) λxs=>opt (j7 xs i) λx=>.ok x S
 | .str z,.int i=>gd (z.length<=sizeLine) (opt (j7 z.cps.toList i) λc=>.ok (.str ⟨#[c]⟩) S)
 | _,_=>.no
def AVs.j7{K:aA}{H:Hp}{i:Int}{x:A}(r:AVs K ρ H xs vs)(h:L2.j7 xs i=some x):∃v,L2.j7 vs i=some v/\AV K ρ H x v:=by
 unfold L2.j7 at h ⊢;rw[<- r.length]
 cases d:sC xs.length i with
 | none=>rw[d]at h;cases h
 | some j=>
  rw[d]at h;exact r.get h
def G8:Gw X (r2 X mV):=λd f pins s σ H x y v u Q I rx ry ⟨ρ,S,a,b,R,va,vb,h⟩ hs=>by
 cases va with
 | @tup p xs j h1 r1=>
  cases vb with
  | int i=>
   obtain⟨x,g,h⟩:=fB h;obtain⟨z,e,q⟩:=r1.j7 g;exact EI d f pins s σ H _ _ v u Q I rx ry ⟨p,j,i,z,rfl,rfl,iT.of h1,e,h _ _ _ .refl R q⟩ hs
  | _=>exact h.elim
 | @frz p xs j h1 r1=>
  cases vb with
  | int i=>
   obtain⟨x,g,h⟩:=fB h;obtain⟨z,e,q⟩:=r1.j7 g;exact vZ d f pins s σ H _ _ v u Q I rx ry ⟨p,j,i,z,rfl,rfl,h1.zF,e,h _ _ _ .refl R q⟩ hs
  | _=>exact h.elim
 | @ref p n k=>
  cases vb with
  | int i=>
   kd_p;obtain⟨x,g,h⟩:=fB h;obtain⟨j,h1,r1⟩:=R.lst k<|fH hn;obtain⟨z,e,q⟩:=r1.j7 g;exact vZ d f pins s σ H _ _ v u Q I rx ry ⟨p,j,i,z,rfl,rfl,i_.of h1,e,h _ _ _ .refl R q⟩ hs
  | _=>exact h.elim
 | str z=>
  cases vb with
  | int i=>
   obtain⟨m,h⟩:=fK h;obtain⟨c,hc,h⟩:=fB h;exact Ep d f pins s σ H _ _ v u Q I rx ry ⟨z,i,c,rfl,rfl,m,hc,h _ _ _ .refl R<|.str _⟩ hs
  | _=>exact h.elim
 | _=>exact h.elim
def gO{ca cb:Ex}(ha:AE X a ca)(hb:AE X b cb)(hs:v8 b:=by exact λ_ _=>rfl):AE X (.Subscript a b pos) (fu mV ca cb):=PE.imp (GO G8 ha hb hs) λσ H Q h=>nW h
end
abbrev oi (f:A->A->bi):ad->ad->bi
 | [],[]=>some true
 | x::xs,y::ys=>(f x y).bind λp=>(oi f xs ys).map λq=>p && q
 | _,_=>some false
inductive Sh
 | non
 | bl (b:Bool)
 | int (i:Int)
 | str (x:Str)
 | tup (xs:ad)
 | lst
abbrev FU (S:e_):A->Option Sh
 | .non=>some .non
 | .bl b=>some (.bl b)
 | .int i=>some (.int i)
 | .str x=>some (.str x)
 | .tup xs=>some (.tup xs)
 | .ref i=>(fh S i).map λ_=>.lst
 | _=>none
abbrev Ca (f:A->A->bi):Sh->Sh->bi
 | .non,.non=>some true
 | .bl x,.bl y=>some (x == y)
 | .bl x,.int y=>some ((if x then 1 else 0) == y)
 | .int x,.bl y=>some (x == (if y then 1 else 0))
 | .int x,.int y=>some (x == y)
 | .str x,.str y=>some (x == y)
 | .tup xs,.tup ys=>oi f xs ys
 | .lst,.lst=>none
 | _,_=>some false
abbrev tU (S:e_):Nat->A->A->bi
 | 0,_,_=>none
 | n+1,a,b=>match a,b with
  | .ref i,.ref j=>(fh S i).bind λxs=>(fh S j).bind λys=>oi (tU S n) xs ys
  | _,_=>(FU S a).bind λx=>(FU S b).bind λy=>Ca (tU S n) x y
section
variable {X:Cx}{pins:bo}{σ:L2.St}{H:Hp}{s:aE}{ρ:ar}{S:e_}
inductive KdV (s:aE):Sh->aa->Prop
 | non:KdV s .non .none
 | bl (b:Bool):KdV s (.bl b) (.bool b)
 | int (i:Int) (t:Tok):KdV s (.int i) (.int i t)
 | str (x:Str) (t:Tok):KdV s (.str x) (.str x t)
 | tup {p:ak} {us:ap} (xs:ad) (h:s.heap.IsTuple p us.toArray):KdV s (.tup xs) (.ref p)
 | lst {p:ak} {us:ap} (h:s.heap.IsList p us.toArray):KdV s .lst<|.ref p
def uS{p:ak}(h:s.heap.IsTuple p us)(h':s.heap.IsList p ws):False:=by
 obtain⟨o,e,c,_⟩:=h;obtain⟨o',d,f,_⟩:=h';rw[e]at d
 cases d
 exact absurd (c.symm.trans f) ⋯
def wK(I:Inv X pins σ H s)(R:Rel X.K ρ H S){a:A}{x:V}(ha:AV X.K ρ H a x)(r:RelV x u)(e:FU S a=some h):KdV s h u:=by
 cases ha with
 | non=>cases e;cases(show u=Value.none from r);exact .non
 | bl b=>cases e;cases(show u=Value.bool b from r);exact .bl b
 | int i=>cases e;obtain⟨t,rfl⟩:∃t,u=Value.int i t:=r;exact .int i t
 | str i=>cases e;obtain⟨t,rfl⟩:∃t,u=Value.str i t:=r;exact .str i t
 | tup h1 r1=>cases e;cases(show u=Value.ref _ from r);obtain⟨us,_,p,_⟩:=I.tuple<|iT.of h1;exact .tup _ p
 | ref h1=>
  obtain⟨xs,e1,rfl⟩:=bD.mp e
  cases(show u=Value.ref _ from r)
  obtain⟨f,d,r1⟩:=R.lst h1<|fH e1;obtain⟨us,_,p,_⟩:=I.list<|i_.of d;exact .lst p.isList
 | _=>cases e
abbrev Al (B:aC)(s:aE)(u v:aa)(k:Bool):Prop:=SeqAt.RcAt B s u v k/\SeqAt.EqAt B s u v k/\SeqAt.RcNeAt B s u v (!k)
def Gf{B:aC}(hu:B.units<cLine){f:A->A->bi}{v:aa}{k:Bool}(d:KdV s h u)(d':KdV s h' v)(nt:∀xs ys,h=.tup xs->h'≠.tup ys)(e:Ca f h h'=some k):Al B s u v k:=by
 cases d with
 | non=>cases d' with
  | non=>cases e;exact⟨.none_none,.same _,.none_none⟩
  | bl b=>cases e;exact⟨.none_bool _,.none_bool _,.none_bool _⟩
  | int i t=>cases e;exact⟨.none_int _ _,.none_int _ _,.none_int _ _⟩
  | str x t=>cases e;exact⟨.none_str _ _,.none_str _ _,.none_str _ _⟩
  | tup xs p=>cases e;exact⟨.none_tuple p hu,.none_tuple p hu,.none_tuple p hu⟩
  | lst p=>cases e;exact⟨.none_list p hu,.none_list p hu,.none_list p hu⟩
 | bl c=>cases d' with
  | non=>cases e;exact⟨.bool_none _,.bool_none _,.bool_none _⟩
  | bl b=>cases e;exact⟨.bool_bool _ _,.bool_bool _ _,.bool_bool _ _⟩
  | int i t=>cases e;exact⟨.bool_int _ _ _,.bool_int _ _ _,.bool_int _ _ _⟩
  | str x t=>cases e;exact⟨.bool_str _ _ _,.bool_str _ _ _,.bool_str _ _ _⟩
  | tup xs p=>cases e;exact⟨.bool_tuple _ p hu,.bool_tuple _ p hu,.bool_tuple _ p hu⟩
  | lst p=>cases e;exact⟨.bool_list _ p hu,.bool_list _ p hu,.bool_list _ p hu⟩
 | int c j=>cases d' with
  | non=>cases e;exact⟨.int_none _ _,.int_none _ _,.int_none _ _⟩
  | bl b=>cases e;exact⟨.int_bool _ _ _,.int_bool _ _ _,.int_bool _ _ _⟩
  | int i t=>cases e;exact⟨.int_int _ _ _ _,.int_int _ _ _ _,.int_int _ _ _ _⟩
  | str x t=>cases e;exact⟨.int_str _ _ _ _,.int_str _ _ _ _,.int_str _ _ _ _⟩
  | tup xs p=>cases e;exact⟨.int_tuple _ _ p hu,.int_tuple _ _ p hu,.int_tuple _ _ p hu⟩
  | lst p=>cases e;exact⟨.int_list _ _ p hu,.int_list _ _ p hu,.int_list _ _ p hu⟩
 | str c j=>cases d' with
  | non=>cases e;exact⟨.str_none _ _,.str_none _ _,.str_none _ _⟩
  | bl b=>cases e;exact⟨.str_bool _ _ _,.str_bool _ _ _,.str_bool _ _ _⟩
  | int i t=>cases e;exact⟨.str_int _ _ _ _,.str_int _ _ _ _,.str_int _ _ _ _⟩
  | str x t=>cases e;exact⟨.str_str _ _ _ _,.str_str _ _ _ _,.str_str _ _ _ _⟩
  | tup xs p=>cases e;exact⟨.str_tuple _ _ p hu,.str_tuple _ _ p hu,.str_tuple _ _ p hu⟩
  | lst p=>cases e;exact⟨.str_list _ _ p hu,.str_list _ _ p hu,.str_list _ _ p hu⟩
 | tup zs g=>cases d' with
  | non=>cases e;exact⟨.tuple_none g hu,.tuple_none g hu,.tuple_none g hu⟩
  | bl b=>cases e;exact⟨.tuple_bool _ g hu,.tuple_bool _ g hu,.tuple_bool _ g hu⟩
  | int i t=>cases e;exact⟨.tuple_int _ _ g hu,.tuple_int _ _ g hu,.tuple_int _ _ g hu⟩
  | str x t=>cases e;exact⟨.tuple_str _ _ g hu,.tuple_str _ _ g hu,.tuple_str _ _ g hu⟩
  | tup xs p=>exact absurd rfl (nt _ _ rfl)
  | lst p=>cases e;exact⟨.tuple_list g p hu,.of_refs (λz=>by subst z;exact uS g p)<|.tuple_list g p hu,.tuple_list g p hu⟩
 | lst g=>cases d' with
  | non=>cases e;exact⟨.list_none g hu,.list_none g hu,.list_none g hu⟩
  | bl b=>cases e;exact⟨.list_bool _ g hu,.list_bool _ g hu,.list_bool _ g hu⟩
  | int i t=>cases e;exact⟨.list_int _ _ g hu,.list_int _ _ g hu,.list_int _ _ g hu⟩
  | str x t=>cases e;exact⟨.list_str _ _ g hu,.list_str _ _ g hu,.list_str _ _ g hu⟩
  | tup xs p=>cases e;exact⟨.list_tuple g p hu,.of_refs (λz=>by subst z;exact uS p g)<|.list_tuple g p hu,.list_tuple g p hu⟩
  | lst p=>cases e
def qG{a:A}{x:V}(h:AV X.K ρ H a x)(e:FU S a=some (.tup xs)):a=.tup xs/\∃p vs,x=.ref p/\H p=some (.tup vs)/\AVs X.K ρ H xs vs:=by
 cases h with
 | tup h r=>cases e;exact⟨rfl,_,_,rfl,h,r⟩
 | ref h=>obtain⟨_,_,z⟩:=bD.mp e;cases z
 | _=>cases e
def qz{i:Nat}{x:V}(h:AV X.K ρ H (.ref i) x):∃p,x=.ref p/\ρ[i]?=some p:=by
 cases h with
 | ref h=>exact⟨_,rfl,h⟩
def zI{a:A}(e:FU S a=some .lst):∃i,a=.ref i:=by
 cases a with
 | ref i=>exact⟨i,rfl⟩
 | _=>cases e
def AR{n:Nat}{a:A}{k:Bool}(e:tU S (n+1) a b=some k):(∃i j xs ys,a=.ref i/\b=.ref j/\fh S i=some xs/\fh S j=some ys/\oi (tU S n) xs ys=some k)\/(∃h h',FU S a=some h/\FU S b=some h'/\Ca (tU S n) h h'=some k/\(h=.lst->h'≠.lst)):=by
 unfold tU at e;split at e
 ·obtain⟨xs,e1,e⟩:=bO.mp e;obtain⟨ys,e2,e⟩:=bO.mp e;exact .inl ⟨_,_,xs,ys,rfl,rfl,e1,e2,e⟩
 ·rename_i d;obtain⟨h,e1,e⟩:=bO.mp e;obtain⟨h',e2,e⟩:=bO.mp e;refine .inr ⟨h,h',e1,e2,e,λg f=>?_⟩;subst g f;obtain⟨i,rfl⟩:=zI e1;obtain⟨j,rfl⟩:=zI e2;exact d i j rfl rfl
def Bw{f:A->A->bi}{k:Bool}(d:KdV s h u)(d':KdV s h' u)(nt:∀xs ys,h=.tup xs->h'≠.tup ys)(e:Ca f h h'=some k):k=true:=by
 cases d with
 | non=>cases d';exact(aL e).symm
 | bl b=>cases d';exact(aL e).symm.trans (bK b)
 | int b=>cases d';exact(aL e).symm.trans (bK b)
 | str b=>cases d';exact(aL e).symm.trans (bK b)
 | tup xs p=>cases d' with
  | tup=>exact absurd rfl (nt _ _ rfl)
  | lst q=>exact(uS p q).elim
 | lst p=>cases d' with
  | tup _ q=>exact(uS q p).elim
  | lst q=>cases e
def qU{f:A->A->bi}(hf:∀a b x u k,AV X.K ρ H a x->AV X.K ρ H b x->RelV x u->f a b=some k->k=true):∀{xs ys:ad}{vs:List V}{us:ap}{k:Bool},AVs X.K ρ H xs vs->AVs X.K ρ H ys vs->Vals vs us->oi f xs ys=some k->k=true:=by
 intro xs ys vs us k h1 d q e
 induction q generalizing xs ys k with
 | nil=>cases h1;cases d;exact(aL e).symm
 | cons g _ j=>
  cases h1 with
  | cons h t=>cases d with
   | cons h' m=>
    obtain⟨p,e1,e⟩:=bO.mp e;obtain⟨q,e2,e3⟩:=bD.mp e;rw[<- e3,hf _ _ _ _ p h h' g e1,j t m e2];rfl
def we(h h':Sh):(∃xs ys,h=.tup xs/\h'=.tup ys)\/(∀xs ys,h=.tup xs->h'≠.tup ys):=by
 cases h with
 | tup xs=>cases h' with
  | tup ys=>exact .inl ⟨xs,ys,rfl,rfl⟩
  | _=>exact .inr λ_ _ _ z=>nomatch z
 | _=>exact .inr λ_ _ z=>nomatch z
theorem qv(I:Inv X pins σ H s)(R:Rel X.K ρ H S):∀(n:Nat) (a b:A) (x:V) (u:aa) (k:Bool),AV X.K ρ H a x->AV X.K ρ H b x->RelV x u->tU S n a b=some k->k=true
 | 0,_,_,_,_,_,_,_,_,e=>nomatch e
 | n+1,a,b,x,u,k,ha,hb,ru,e=>by
  rcases AR e with⟨i,j,xs,ys,rfl,rfl,e1,e2,e⟩|⟨h,h',e1,e2,e,_⟩
  ·obtain⟨p,rfl,h1⟩:=qz ha;obtain⟨q,z,m⟩:=qz hb
   cases z
   obtain⟨C,d,r1⟩:=R.lst h1<|fH e1;obtain⟨g,f,r2⟩:=R.lst m<|fH e2;rw[d]at f
   cases f
   obtain⟨us,q,_⟩:=I.list<|i_.of d;exact qU (λa b x u k=>qv I R n a b x u k) r1 r2 q e
  ·rcases we h h' with⟨xs,ys,rfl,rfl⟩|B
   ·obtain⟨rfl,p,C,rfl,d,r1⟩:=qG ha e1;obtain⟨rfl,q,g,z,f,r2⟩:=qG hb e2
    cases z
    have:=I.pS (iT.of d)<|iT.of f;subst this;obtain⟨us,q,_⟩:=I.tuple<|iT.of d;exact qU (λa b x u k=>qv I R n a b x u k) r1 r2 q e
   ·exact Bw (wK I R ha ru e1) (wK I R hb ru e2) B e
abbrev pD (f:A->A->bi)(xs ys:ad)(j:Nat):Bool:=match xs[j]?,ys[j]? with
 | some x,some y=>(f x y).getD true
 | _,_=>true
theorem nU{f:A->A->bi}:∀{xs ys:ad}{k:Bool},oi f xs ys=some k->k=((List.range<|min xs.length ys.length).all (pD f xs ys) && xs.length == ys.length)/\∀j x y,xs[j]?=some x->ys[j]?=some y->f x y=some (pD f xs ys j)
 | [],[],k,e=>⟨(aL e).symm,λj x y h=>by simp at h⟩
 | [],_::_,k,e=>⟨(aL e).symm,λj x y h=>by simp at h⟩
 | _::_,[],k,e=>⟨(aL e).symm,λj x y _ h=>by simp at h⟩
 | x::xs,y::ys,k,e=>by
  unfold oi at e
  cases e1:f x y with
  | none=>rw[e1]at e;cases e
  | some p=>
   rw[e1]at e;obtain⟨q,e2,e3⟩:=bD.mp e;obtain⟨h1,z⟩:=nU e2;have m:pD f (x::xs) (y::ys) 0=p:=by simp[pD,e1]
   have ps:∀j,pD f (x::xs) (y::ys) (j+1)=pD f xs ys j:=λj=>by simp[pD]
   refine⟨?_,λj a b d g=>?_⟩
   ·rw[<- e3,h1,bE,bE,Nat.succ_min_succ,List.range_succ_eq_map,eN,all_map,m];have:(pD f (x::xs) (y::ys) ∘ Nat.succ)=pD f xs ys:=funext ps;rw[this,Bool.and_assoc];simp
   ·cases j with
    | zero=>
     simp at d g;subst d g;rw[m];exact e1
    | succ j=>rw[ps];exact z j a b (by simpa using d)<|by simpa using g
def nQ{f:A->A->bi}(hf:∀a b x y u v k,AV X.K ρ H a x->AV X.K ρ H b y->RelV x u->RelV y v->f a b=some k->SeqAt.EqAt B s u v k){us ts:ap}{k:Bool}
  (r1:AVs X.K ρ H xs vs) (r2:AVs X.K ρ H ys ws) (q1:Vals vs us) (q2:Vals ws ts) (e:oi f xs ys=some k):∀j (h1:j<us.toArray.size) (h2:j<ts.toArray.size),SeqAt.EqAt B s us.toArray[j] ts.toArray[j] (pD f xs ys j):=by
 intro j h1 h2;have L:=r1.length;have J:=r2.length;have G:=q1.length;have F:=q2.length;have g:j<xs.length:=by simp at h1;lia
 have hy:j<ys.length:=by simp at h2;lia
 have e1:xs[j]?=some xs[j]:=aH g;have e2:ys[j]?=some ys[j]:=aH hy;obtain⟨x,ex,z⟩:=r1.get e1;obtain⟨y,p,d⟩:=r2.get e2;obtain⟨u,C,m⟩:=q1.get ex;obtain⟨t,q,rt⟩:=q2.get p;have a1:us.toArray[j]=u:=by
  have:us[j]?=some us.toArray[j]:=by simp at h1;simp[h1]
  rw[C]at this;exact(aL this).symm
 have a2:ts.toArray[j]=t:=by
  have:ts[j]?=some ts.toArray[j]:=by simp at h2;simp[h2]
  rw[q]at this;exact(aL this).symm
 rw[a1,a2];exact hf _ _ x y u t _ z d m rt<|(nU e).2 j _ _ e1 e2
def in1_units(B:aC):B.in1.units=B.units+1:=rfl
theorem uY(I:Inv X pins σ H s)(R:Rel X.K ρ H S):∀(n:Nat) (B:aC) (a b:A) (x y:V) (u v:aa) (k:Bool),B.units+n<cLine->AV X.K ρ H a x->AV X.K ρ H b y->RelV x u->RelV y v->tU S n a b=some k->Al B s u v k
 | 0,_,_,_,_,_,_,_,_,_,_,_,_,_,e=>nomatch e
 | n+1,B,a,b,x,y,u,v,k,hu,ha,hb,rx,ry,e=>by
  have f:B.units<cLine:=()
  have d:∀a b x y u v k,AV X.K ρ H a x->AV X.K ρ H b y->RelV x u->RelV y v->tU S n a b=some k->SeqAt.EqAt B.in1 s u v k:=λa b x y u v k h1 P N M Z=>(uY I R n B.in1 a b x y u v k (by rw[in1_units];lia) h1 P N M Z).2.1;have same:=λ(z:y=x)=>qv I R (n+1) a b x u k ha (z ▸ hb) rx e;have m:∀{p q:ak},x=.ref p->y=.ref q->u=.ref p->v=.ref q->SeqAt.RcAt B s u v k->SeqAt.EqAt B s u v k:=λ{p q} g G z3 z4 h=>by
   subst z3 z4;by_cases T:p=q
   ·subst T;rw[same<|G.trans g.symm];exact .same _
   ·exact .of_refs T h
  rcases AR e with⟨i,j,xs,ys,rfl,rfl,e1,e2,e⟩|⟨h,h',e1,e2,e,_⟩
  ·obtain⟨p,rfl,h1⟩:=qz ha;obtain⟨q,rfl,P⟩:=qz hb;obtain⟨vs,N,r1⟩:=R.lst h1<|fH e1;obtain⟨W,M,r2⟩:=R.lst P<|fH e2;obtain⟨us,C,p1,_⟩:=I.list<|i_.of N;obtain⟨ts,F,p2,_⟩:=I.list<|i_.of M;have O:=m rfl rfl rx ry
   cases(show u=Value.ref p from rx)
   cases(show v=Value.ref q from ry)
   have Y:=r1.length;have l2:=r2.length;have l3:=C.length;have l4:=F.length;have J:=(nU e).1;by_cases U:xs.length=ys.length
   ·rw[<- U,Nat.min_self,bK,Bool.and_true]at J;have L:us.toArray.size=ts.toArray.size:=by simp;lia
    have g:=SeqAt.RcAt.lists p1.isList p2.isList L f<|nQ d r1 r2 C F e;have G:=SeqAt.RcNeAt.lists p1.isList p2.isList L f<|nQ d r1 r2 C F e;rw[aQ,<- l3,<- Y,<- J]at g G;exact⟨g,O g,G⟩
   ·have:(xs.length == ys.length)=false:=by simpa using U
    rw[this,Bool.and_false]at J;subst J;have L:(us.toArray.size != ts.toArray.size)=true:=by simp;lia
    have g:=SeqAt.RcAt.lists_lengths p1.isList p2.isList L f;exact⟨g,O g,SeqAt.RcNeAt.lists_lengths p1.isList p2.isList L f⟩
  ·rcases we h h' with⟨xs,ys,rfl,rfl⟩|nt
   ·obtain⟨rfl,p,vs,rfl,N,r1⟩:=qG ha e1;obtain⟨rfl,q,W,rfl,M,r2⟩:=qG hb e2;have O:=m rfl rfl rx ry
    cases(show u=Value.ref p from rx)
    cases(show v=Value.ref q from ry)
    obtain⟨us,C,p1,_⟩:=I.tuple<|iT.of N;obtain⟨ts,F,p2,_⟩:=I.tuple<|iT.of M;have J:=(nU e).1;have g:=SeqAt.RcAt.tuples p1 p2 f<|nQ d r1 r2 C F e;have G:=SeqAt.RcNeAt.tuples p1 p2 f<|nQ d r1 r2 C F e;rw[aQ,aQ,<- C.length,<- F.length,<- r1.length,<- r2.length,<- J]at g G;exact⟨g,O g,G⟩
   ·exact Gf f (wK I R ha rx e1) (wK I R hb ry e2) nt e
end
section
variable {X:Cx}
abbrev uQ (neg:Bool)(a b:A)(S:e_):R A:=opt (tU S 12 a b) λk=>.ok (.bl<|if neg then !k else k) S
def Gx(hu:X.A.units+64<cLine):jt X (compareOp .Eq) (r2 X<|uQ false):=λpins s σ H x y v u Q I rx ry h9=>by
 room;obtain⟨k,e,h⟩:=fB h;exact(uY I R 12 X.A a b x y v u k (by omega) va vb rx ry e).1 _ _ _ _ ⟨.bl _,H,I,rfl,h _ _ _ .refl R<|.bl _⟩
def FY(hu:X.A.units+64<cLine):jt X (compareOp .NotEq) (r2 X<|uQ true):=λpins s σ H x y v u Q I rx ry h9=>by
 room;obtain⟨k,e,h⟩:=fB h;exact(uY I R 12 X.A a b x y v u k (by omega) va vb rx ry e).2.2 _ _ _ _ ⟨.bl _,H,I,rfl,h _ _ _ .refl R<|.bl _⟩
end
section
variable {X:Cx}{pos:Pos}{a b:aF}
meta abbrev Pt:=ad->e_->R (ba)
abbrev uE:Pt:=λ_ S=>.ok none S
abbrev vJ (c:Ex):Pt:=λτ S=>(c τ S).bind λa S1=>match a with
 | .int i=>.ok (some i) S1
 | _=>.no
abbrev tO (X:Cx)(c:Pt):TO:=λσ H Q=>∃ρ S τ,Rel X.K ρ H S/\SR X.K ρ H τ σ/\(c τ S).post (λo d=>∀ρ' H',Ext ρ ρ' H H'->Rel X.K ρ' H' d->Q o H') (XE X ρ H)
abbrev AO (X:Cx)(e:Option aF)(c:Pt):Prop:=PO X e<|tO X c
def vj:AO X none uE:=λpins s σ H Q I ⟨ρ,S,τ,R,r,h⟩=>Bt pins s σ H Q I<|h ρ H .refl R
def uZ{c:Ex}(ha:AE X a c):AO X (some a) (vJ c):=λpins s σ H Q I ⟨ρ,S,τ,R,r,h⟩=>BK ha pins s σ H Q I ⟨ρ,S,τ,R,r,ff (fD h) .refl λx S1 h1 ρ1 H1 v e1 f d=>by
 cases d<;>first|exact h1.elim|exact⟨_,rfl,h1 ρ1 H1 e1 f⟩⟩
abbrev nK (xs:ad)(lo hi:ba):ad:=(xs.drop<|HT.g6 xs.length 0 lo).take<|HT.g6 xs.length xs.length hi-HT.g6 xs.length 0 lo
def AVs.cut{K:aA}{H:Hp}(r:AVs K ρ H xs vs)(lo hi:ba):AVs K ρ H (nK xs lo hi) (rm vs lo hi):=by
 unfold nK rm;rw[r.length];exact(r.drop _).take _
abbrev BR (a:A)(lo hi:ba)(S:e_):R A:=match a with
 | .ref n=>opt (fh S n) λxs=>.ok (.ref S.length) (S++[.lst<|nK xs lo hi])
 | .frz xs=>.ok (.ref S.length) (S++[.lst<|nK xs lo hi])
 | .tup xs=>gd (¬(HT.g6 xs.length 0 lo=0/\HT.g6 xs.length xs.length hi=xs.length)) (.ok (.tup<|nK xs lo hi) S)
 | _=>.no
abbrev HC (c:Ex)(lo hi:Pt):Ex:=λτ S=>(c τ S).bind λa S1=>(lo τ S1).bind λl f=>(hi τ f).bind λu d=>BR a l u d
abbrev rS (X:Cx):V->ba->ba->Hp->VK->Prop:=λx lo hi H Q=>∃ρ S a,Rel X.K ρ H S/\AV X.K ρ H a x/\(BR a lo hi S).post (pC X ρ H Q) (XE X ρ H)
def FT:HJ X (rS X):=λpins s σ H x v m g lo hi j Q I rx hs k f h9=>by
 obtain⟨ρ,S,a,R,va,h⟩:=h9
 cases va with
 | @tup p xs d h1 r1=>
  obtain⟨hc,h⟩:=fK h;exact EO pins s σ H _ v m g lo hi j Q I rx hs k f ⟨p,d,rfl,(iT.of h1),by rw[<- r1.length];exact hc,k9 R (r1.cut lo hi) .refl h⟩
 | @frz p xs d h1 r1=>exact vI pins s σ H _ v m g lo hi j Q I rx hs k f ⟨p,d,rfl,h1.zF,iN R (r1.cut lo hi) .refl h⟩
 | @ref p n q=>
  kd_p;obtain⟨d,h1,r1⟩:=R.lst q<|fH hn;exact vI pins s σ H _ v m g lo hi j Q I rx hs k f ⟨p,d,rfl,i_.of h1,iN R (r1.cut lo hi) .refl h⟩
 | _=>exact h.elim
def Dd{lo:Option aF}{c:Ex}{cl ch:Pt}(he:AE X e c)(hl:AO X lo cl)(hh:AO X hi ch):AE X (.Subscript e (.Slice lo hi none p2) pos) (HC c cl ch):=PE.imp (A9 FT he hl hh) λσ H Q h9=>by
 z_go;refine⟨ρ,S,τ,R,r,ff (fD h) .refl λa S1 h1 ρ1 H1 x e1 p m=>⟨ρ1,S1,τ,p,r.ext e1,ff (fD h1) e1 λl g k d H2 e2 R2=>⟨d,g,τ,R2,r.ext<|e1.trans e2,ff (fD k) (e1.trans e2) λu q j f C e3 B=>?_⟩⟩⟩;exact⟨f,q,a,B,m.ext<|e2.trans e3,ff j (e1.trans<|e2.trans e3) λ_ _ z=>z.ext<|e1.trans<|e2.trans e3⟩
abbrev GV (a:A)(S:e_):R A:=match a with
 | .ref n=>opt (fh S n) λxs=>.ok (.ref S.length) (S++[.lst xs.reverse])
 | .tup xs=>.ok (.tup xs.reverse) S
 | _=>.no
abbrev fR (f:ad->e_->R A)(d:lu):Ex:=λτ S=>(d τ S).bind λg S1=>f g S1
def rP{f:ad->e_->R A}{d:lu}{H:Hp}{Q:VK}(h:tE X (fR f d) σ H Q):Im (rN X f) (tL X d) σ H Q:=by
 obtain⟨ρ,S,τ,R,r,h⟩:=h;exact⟨ρ,S,τ,R,r,ff (fD h) .refl λk S1 h1 ρ1 H1 m e1 g j=>⟨ρ1,S1,k,g,j,ff h1 e1 λ_ _ z=>z.ext e1⟩⟩
variable {x:Str}{p:Pos}{e:aF}{es:List aF}{id T:String}{f:ad->e_->R A}{d:lu}
def fO(hc:fU X (.builtin id)<|rN X f)(hm:X.mg x=none)(hv:bootBuiltins x=some (.builtin id))(ha:AL X (e::es) d)(hg:Gl X x:=by rfl)(hn:x ≠ "__name__" := by decide)(hdb:(x == ("__debug__" : Str))=false:=by decide)
  (he:starEach (e::es) X.env=(false,eval e X.env)::starEach es X.env:=by rfl) (hpl:(backTo pos<|starEach es X.env).any (·.1)=false:=by rfl):AE X (.Call (.Name x p) (e::es) [] pos) (fR f d):=
 PE.imp (zL hc hg hm hv ha hn hdb he hpl) λ_ _ _ h=>rP h
def gP(hc:fU X (.type T)<|rN X f)(hm:X.mg x=none)(hv:bootBuiltins x=some (.type T))(ha:AL X (e::es) d)(hg:Gl X x:=by rfl)(hn:x ≠ "__name__" := by decide)(hdb:(x == ("__debug__" : Str))=false:=by decide)
  (he:starEach (e::es) X.env=(false,eval e X.env)::starEach es X.env:=by rfl) (hpl:(backTo pos<|starEach es X.env).any (·.1)=false:=by rfl):AE X (.Call (.Name x p) (e::es) [] pos) (fR f d):=
 PE.imp (wW hc hg hm hv ha hn hdb he hpl) λ_ _ _ h=>rP h
abbrev A.seq (S:e_):A->Option (ad)
 | .tup xs=>some xs
 | .frz xs=>some xs
 | .ref n=>fh S n
 | _=>none
def Bp{K:aA}{H:Hp}{x:A}{v:V}(R:Rel K ρ H S)(h:AV K ρ H x v)(e:x.seq S=some xs):∃p vs,v=.ref p/\(i_ K H p vs\/iT K H p vs)/\AVs K ρ H xs vs:=by
 cases h with
 | tup h r=>cases aL e;exact⟨_,_,rfl,.inr<|iT.of h,r⟩
 | frz h r=>cases aL e;exact⟨_,_,rfl,.inl h.zF,r⟩
 | ref h=>
  obtain⟨vs,h1,r1⟩:=R.lst h<|fH e;exact⟨_,vs,rfl,.inl<|i_.of h1,r1⟩
 | _=>cases e
def zZ{K:aA}{H:Hp}{x:A}(h:AVs K ρ H [x] vs):∃v,vs=[v]/\AV K ρ H x v:=by
 cases h with
 | cons h t=>cases t;exact⟨_,rfl,h⟩
def IK{K:aA}{H:Hp}{x:A}(h:AVs K ρ H [x,y] vs):∃v w,vs=[v,w]/\AV K ρ H x v/\AV K ρ H y w:=by
 cases h with
 | cons h t=>obtain⟨w,rfl,h'⟩:=zZ t;exact⟨_,_,rfl,h,h'⟩
abbrev f1 (g:A->e_->R A):ad->e_->R A:=λd S=>match d with
 | [x]=>g x S
 | _=>.no
abbrev f2 (g:A->A->e_->R A):ad->e_->R A:=λd S=>match d with
 | [x,y]=>g x y S
 | _=>.no
def BG{g:A->e_->R A}{P:A->e_->Prop}{E:Str->e_->Prop}(h:(f1 g as S).post P E):∃x,as=[x]/\(g x S).post P E:=by
 match as,h with
 | [],h=>exact h.elim
 | [x],h=>exact⟨x,rfl,h⟩
 | _::_::_,h=>exact h.elim
def BU{g:A->A->e_->R A}{P:A->e_->Prop}{E:Str->e_->Prop}(h:(f2 g as S).post P E):∃x y,as=[x,y]/\(g x y S).post P E:=by
 match as,h with
 | [],h=>exact h.elim
 | [_],h=>exact h.elim
 | [x,y],h=>exact⟨x,y,rfl,h⟩
 | _::_::_::_,h=>exact h.elim
def F3{g:A->e_->R A}{H:Hp}{Q:VK}(h:rN X (f1 g) vs H Q):∃v,vs=[v]/\∃ρ S x,Rel X.K ρ H S/\AV X.K ρ H x v/\(g x S).post (pC X ρ H Q) (XE X ρ H):=by
 obtain⟨ρ,S,d,R,v,h⟩:=h;obtain⟨x,rfl,h⟩:=BG h;obtain⟨w,rfl,hv⟩:=zZ v;exact⟨w,rfl,ρ,S,x,R,hv,h⟩
def IM{g:A->A->e_->R A}{H:Hp}{Q:VK}(h:rN X (f2 g) vs H Q):∃v w,vs=[v,w]/\∃ρ S x y,Rel X.K ρ H S/\AV X.K ρ H x v/\AV X.K ρ H y w/\(g x y S).post (pC X ρ H Q) (XE X ρ H):=by
 obtain⟨ρ,S,j,R,v,h⟩:=h;obtain⟨x,y,rfl,h⟩:=BU h;obtain⟨w,f,rfl,hv,d⟩:=IK v;exact⟨w,f,rfl,ρ,S,x,y,R,hv,d,h⟩
abbrev je (x:A)(S:e_):R A:=match x with
 | .str x=>gd (x.length<=sizeLine) (.ok (.int x.length) S)
 | .tup xs=>.ok (.int xs.length) S
 | .frz xs=>.ok (.int xs.length) S
 | .ref n=>opt (fh S n) λxs=>.ok (.int xs.length) S
 | _=>.no
def jl:fU X (.builtin "len") (rN X<|f1 je):=fU.imp yr λg H Q h0=>by
 kcf_m;clear h0
 cases hv with
 | str z=>
  obtain⟨f,h⟩:=fK h;exact⟨_,_,rfl,⟨f,rfl⟩,h _ _ _ .refl R<|.int _⟩
 | @tup p xs us h1 r=>exact⟨_,us.length,rfl,.inr ⟨us,(iT.of h1),rfl⟩,by rw[<- r.length];exact h _ _ _ .refl R<|.int _⟩
 | @frz p xs us h1 r=>exact⟨_,us.length,rfl,.inl ⟨us,h1.zF,rfl⟩,by rw[<- r.length];exact h _ _ _ .refl R<|.int _⟩
 | ref d=>
  kd_p;obtain⟨us,h1,r⟩:=R.lst d<|fH hn;exact⟨_,us.length,rfl,.inl ⟨us,i_.of h1,rfl⟩,by rw[<- r.length];exact h _ _ _ .refl R<|.int _⟩
 | _=>exact h.elim
abbrev DU (x:A)(S:e_):R A:=match x with
 | .int i=>.ok (.int<|if i<0 then -i else i) S
 | _=>.no
def Hj:fU X (.builtin "abs") (rN X<|f1 DU):=fU.imp Aa λd H Q h0=>by
 kcf_m;clear h0
 cases hv<;>first|exact h.elim|exact⟨_,rfl,h _ _ _ .refl R<|.int _⟩
abbrev Ag (x y:A)(S:e_):R A:=match x,y with
 | .int i,.int j=>.ok (.int<|if j>i then j else i) S
 | _,_=>.no
def EN(hc:X.calm=true):fU X (.builtin "max") (rN X<|f2 Ag):=fU.imp (wX hc) λg H Q h0=>by
 obtain⟨w,f,rfl,ρ,S,x,y,R,hv,d,h⟩:=IM h0;clear h0
 cases hv<;>first|exact h.elim|(cases d<;>first|exact h.elim|exact⟨_,_,rfl,h _ _ _ .refl R<|.int _⟩)
abbrev AN (x y:A)(S:e_):R A:=match x,y with
 | .int i,.int j=>.ok (.int<|if j<i then j else i) S
 | _,_=>.no
def D7(hc:X.calm=true):fU X (.builtin "min") (rN X<|f2 AN):=fU.imp (xm hc) λg H Q h0=>by
 obtain⟨w,f,rfl,ρ,S,x,y,R,hv,d,h⟩:=IM h0;clear h0
 cases hv<;>first|exact h.elim|(cases d<;>first|exact h.elim|exact⟨_,_,rfl,h _ _ _ .refl R<|.int _⟩)
abbrev DJ (x:A)(S:e_):R A:=match x with
 | .int i=>.ok (.int i) S
 | .bl k=>.ok (.int<|if k then 1 else 0) S
 | .str y=>opt (PySem.intText? y) λn=>gd (y.length<=640) (.ok (.int n) S)
 | _=>.no
abbrev mP (x y:A)(S:e_):R A:=match x,y with
 | .int i,.int j=>.ok (.rng i j) S
 | _,_=>.no
def oZ:fU X (.type "range") (rN X<|f2 mP):=fU.imp qH λm H Q h0=>by
 obtain⟨w,k,rfl,ρ,S,x,y,R,hv,d,h⟩:=IM h0;clear h0
 cases hv with
 | int i=>
  cases d with
  | int j=>
   refine⟨i,j,rfl,λp g=>?_⟩;obtain⟨ex,f⟩:=R.im (u:=.rng i j) g;exact h ρ _ _ ex f<|.rng h_
  | _=>exact h.elim
 | _=>exact h.elim
abbrev oh (i j:Int):Prop:=(-(2 ^ 62)<=i/\i<2 ^ 62/\-(2 ^ 62)<=j/\j<2 ^ 62)/\(j-i).toNat<=1000
instance (i j:Int):Decidable (oh i j):=by unfold oh;infer_instance
abbrev oJ (x:A)(S:e_):R A:=match x with
 | .rng i j=>gd (oh i j) (.ok (.ref S.length)<|S++[.lst<|(fj i j).map .int])
 | .tup xs=>.ok (.ref S.length) (S++[.lst xs])
 | .frz xs=>.ok (.ref S.length) (S++[.lst xs])
 | .ref n=>opt (fh S n) λxs=>.ok (.ref S.length) (S++[.lst xs])
 | _=>.no
def yo(hc:X.calm=true):fU X (.type "list") (rN X<|f1 oJ):=λpins s σ H d us Q I rx h0=>by
 kcf_m;clear h0
 cases hv with
 | @rng p i j g=>
  obtain⟨f,h⟩:=fK h;exact pK hc pins s σ H _ us Q I rx ⟨p,i,j,rfl,g,f.1,f.2,iN R (k7 _) .refl h⟩
 | @tup p xs d h1 r=>exact j9 pins s σ H _ us Q I rx ⟨p,d,rfl,.inr<|iT.of h1,iN R r .refl h⟩
 | @frz p xs d h1 r=>exact j9 pins s σ H _ us Q I rx ⟨p,d,rfl,.inl h1.zF,iN R r .refl h⟩
 | @ref p n g=>
  kd_p;obtain⟨d,h1,r⟩:=R.lst g<|fH hn;exact j9 pins s σ H _ us Q I rx ⟨p,d,rfl,.inl<|i_.of h1,iN R r .refl h⟩
 | _=>exact h.elim
abbrev j3 (x:A)(S:e_):R A:=match x with
 | .rng i j=>gd (oh i j) (.ok (.tup<|(fj i j).map .int) S)
 | .tup xs=>.ok (.tup xs) S
 | .frz xs=>.ok (.tup xs) S
 | .ref n=>opt (fh S n) λxs=>.ok (.tup xs) S
 | _=>.no
def mO(hc:X.calm=true):fU X (.type "tuple") (rN X<|f1 j3):=λpins s σ H d us Q I rx h0=>by
 kcf_m;clear h0
 cases hv with
 | @rng p i j g=>
  obtain⟨f,h⟩:=fK h;exact n9 hc pins s σ H _ us Q I rx ⟨p,i,j,rfl,g,f.1,f.2,k9 R (k7 _) .refl h⟩
 | @tup p xs d h1 r=>exact jM pins s σ H _ us Q I rx ⟨p,d,rfl,.inr ⟨(iT.of h1),h _ _ _ .refl R<|.tup h1 r⟩⟩
 | @frz p xs d h1 r=>exact jM pins s σ H _ us Q I rx ⟨p,d,rfl,.inl ⟨h1.zF,k9 R r .refl h⟩⟩
 | @ref p n g=>
  kd_p;obtain⟨d,h1,r⟩:=R.lst g<|fH hn;exact jM pins s σ H _ us Q I rx ⟨p,d,rfl,.inl ⟨i_.of h1,k9 R r .refl h⟩⟩
 | _=>exact h.elim
abbrev maxOf:ae->ba
 | []=>none
 | [x]=>some x
 | x::xs=>(maxOf xs).map λm=>if m>x then m else x
theorem o6:∀{ns:ae}{m:Int},maxOf ns=some m->m∈ns/\∀a∈ns,a<=m
 | [],_,e=>nomatch e
 | [x],m,e=>by cases e;exact⟨a_,λa h=>by rw[List.mem_singleton]at h;lia⟩
 | x::y::xs,m,e=>by
  obtain⟨g,e1,rfl⟩:=bD.mp<|show(maxOf (y::xs)).map (λm=>if m>x then m else x)=some m from e;obtain⟨h1,d⟩:=o6 e1;by_cases f:g>x
  ·rw[aR f];exact⟨aU _ h1,λa h=>(bJ.mp h).elim (λz=>())<|d a⟩
  ·rw[aT f];exact⟨a_,λa h=>(bJ.mp h).elim (λz=>()) λz=>by have:=d a z;lia⟩
abbrev yD (x:A)(S:e_):R A:=match x with
 | .ref n=>opt (fh S n) λxs=>opt (A.ints xs) λd=>opt (maxOf d) λm=>.ok (.int m) S
 | _=>.no
def Er(hc:X.calm=true):fU X (.builtin "max") (rN X<|f1 yD):=fU.imp (xE hc) λB H Q h0=>by
 kcf_m;clear h0
 cases hv with
 | @ref p n k=>
  kd_p;obtain⟨g,j,h⟩:=fB h;obtain⟨m,f,h⟩:=fB h;obtain⟨B,h1,r⟩:=R.lst k<|fH hn;rw[vP r j]at h1;obtain⟨d,g2⟩:=o6 f;refine⟨p,g,rfl,i_.of h1,List.length_pos_of_mem d,λM q z=>?_⟩;have:M=m:=eV (g2 M q)<|z m d;rw[this];exact h _ _ _ .refl R<|.int _
 | _=>exact h.elim
abbrev insI (x:Int):ae->ae
 | []=>[x]
 | y::ys=>if x<=y then x::y::ys else y::insI x ys
abbrev sortI:ae->ae
 | []=>[]
 | x::xs=>insI x<|sortI xs
theorem insI_perm(x:Int):∀ys:ae,(insI x ys).Perm (x::ys)
 | []=>dG _
 | y::ys=>by
  unfold insI;by_cases h:x<=y
  ·rw[aR h]
  ·rw[aT h];exact((insI_perm x ys).cons y).trans (List.Perm.swap x y ys)
theorem sortI_perm:∀xs:ae,(sortI xs).Perm xs
 | []=>dG _
 | x::xs=>(insI_perm x<|sortI xs).trans<|(sortI_perm xs).cons x
theorem u9(x:Int):∀ys:ae,ys.Pairwise (·<=·)->(insI x ys).Pairwise (·<=·)
 | [],_=>List.pairwise_singleton _ _
 | y::ys,h=>by
  unfold insI;obtain⟨h1,g⟩:=eF.mp h;by_cases f:x<=y
  ·rw[aR f];exact eF.mpr ⟨λz d=>(bJ.mp d).elim (λe=>e ▸ f) λd=>Int.le_trans f<|h1 z d,h⟩
  ·rw[aT f];refine eF.mpr ⟨λz d=>?_,u9 x ys g⟩
   rcases bJ.mp ((insI_perm x ys).mem_iff.mp d)with e|d
   ·subst e;lia
   ·exact h1 z d
theorem oq:∀xs:ae,(sortI xs).Pairwise (·<=·)
 | []=>List.Pairwise.nil
 | x::xs=>u9 x _<|oq xs
abbrev tR (x:A)(S:e_):R A:=opt (x.seq S) λxs=>opt (A.ints xs) λd=>gd (d.length<64)<|.ok (.ref S.length)<|S++[.lst<|(sortI d).map .int]
def Ce:fU X (.builtin "sorted") (rN X<|f1 tR):=fU.imp qE λq H Q h0=>by
 kcf_m;clear h0;kd_p;obtain⟨d,j,h⟩:=fB h;obtain⟨m,h⟩:=fK h;obtain⟨p,us,rfl,hs,r⟩:=Bp R hv hn;rw[vP r j]at hs;refine⟨p,d,rfl,hs,m,λl g f k hw=>?_⟩;have:g=sortI d:=B_ (k.trans (sortI_perm d).symm) hw<|oq d;rw[this];exact iN R (k7 _) .refl h l f
abbrev A.kd:A->e_->Option Kd
 | .non,_=>some .non
 | .bl _,_=>some .bl
 | .int _,_=>some .int
 | .str _,_=>some .str
 | .tup _,_=>some .tup
 | .ref n,S=>(fh S n).map λ_=>.lst
 | _,_=>none
abbrev GA (k:Kd)(c:String):bi:=if c = "int" then some (decide<|k=.int\/k=.bl)else if c = "bool" then some (decide<|k=.bl)else if c = "tuple" then some (decide<|k=.tup)else if c = "list" then some (decide<|k=.lst)else if c = "str" then some (decide<|k=.str)else none
abbrev IA (x y:A)(S:e_):R A:=match y with
 | .ty c=>opt (x.kd S) λk=>opt (GA k c) λb=>.ok (.bl b) S
 | _=>.no
end
abbrev RS.post (r:RS)(N:ad->e_->Prop)(T:A->e_->Prop)(B C:ad->e_->Prop)(E:Str->e_->Prop):Prop:=match r with
 | .nx τ S=>N τ S
 | .rt a S=>T a S
 | .bk τ S=>B τ S
 | .ct τ S=>C τ S
 | .ex c S=>E c S
 | .no=>False
abbrev RS.of {α:Type}(r:R α)(f:α->e_->RS):RS:=match r with
 | .ok a S=>f a S
 | .ex c S=>.ex c S
 | .no=>.no
def of_post{α:Type}{r:R α}{f:α->e_->RS}{N B C:ad->e_->Prop}{T:A->e_->Prop}{E:Str->e_->Prop}(h:(RS.of r f).post N T B C E):r.post (λa S=>(f a S).post N T B C E) E:=by
 cases r<;>exact h
def RS.mono{r:RS}{N B C N' B' C':ad->e_->Prop}{T T':A->e_->Prop}{E E':Str->e_->Prop}(h:r.post N T B C E)(hn:∀τ S,N τ S->N' τ S)(ht:∀a S,T a S->T' a S)(hb:∀τ S,B τ S->B' τ S)(hc:∀τ S,C τ S->C' τ S)(he:∀c S,E c S->E' c S):r.post N' T' B' C' E':=by
 cases r with
 | nx τ S=>exact hn _ _ h
 | rt a S=>exact ht _ _ h
 | bk τ S=>exact hb _ _ h
 | ct τ S=>exact hc _ _ h
 | ex c S=>exact he _ _ h
 | no=>exact h.elim
abbrev vd (X:Cx)(ρ:ar)(H:Hp)(N:L2.St->Hp->Prop):ad->e_->Prop:=λf g=>∀ρ' H' d,Ext ρ ρ' H H'->Rel X.K ρ' H' g->SR X.K ρ' H' f d->N d H'
def vd.ext{H H':Hp}{N:L2.St->Hp->Prop}(h:vd X ρ H N τ S)(e:Ext ρ ρ' H H'):vd X ρ' H' N τ S:=λd H2 f e2=>h d H2 f<|e.trans e2
abbrev qf (X:Cx)(ρ:ar)(H:Hp)(D:Ends)(r:RS):Prop:=r.post (vd X ρ H D.nx) (pC X ρ H D.rt) (vd X ρ H D.bk) (vd X ρ H D.ct)<|XE X ρ H
def qf.ext{H H':Hp}{r:RS}(h:qf X ρ H D r)(e:Ext ρ ρ' H H'):qf X ρ' H' D r:=RS.mono h (λ_ _ z=>z.ext e) (λ_ _ z=>z.ext e) (λ_ _ z=>z.ext e) (λ_ _ z=>z.ext e) λ_ _ z=>z.ext e
abbrev tS (X:Cx)(c:Sm):TS:=λD σ H=>∃ρ S τ,Rel X.K ρ H S/\SR X.K ρ H τ σ/\qf X ρ H D (c τ S)
abbrev AS (X:Cx)(st:aG)(c:Sm):Prop:=PS X st<|tS X c
abbrev Cw (X:Cx)(sts:List aG)(c:Sm):Prop:=qL X sts<|tS X c
abbrev tG (X:Cx)(g:Tg):TG:=λv σ H Q=>∃ρ S τ a,Rel X.K ρ H S/\SR X.K ρ H τ σ/\AV X.K ρ H a v/\(g a τ S).post (vd X ρ H Q) (XE X ρ H)
abbrev AG (X:Cx)(e:aF)(g:Tg):Prop:=PG X e<|tG X g
meta abbrev Bq:=ad->ad->e_->R (ad)
abbrev J8 (X:Cx)(g:Bq):Dq:=λf σ H Q=>∃ρ S τ d,Rel X.K ρ H S/\SR X.K ρ H τ σ/\AVs X.K ρ H d f/\(g d τ S).post (vd X ρ H Q) (XE X ρ H)
abbrev HA (X:Cx)(es:List aF)(g:Bq):Prop:=GZ X es<|J8 X g
section
variable {X:Cx}{pos:Pos}{a b e:aF}{st:aG}{rest:List aG}{c d:Sm}
def PS.imp{t t':TS}(h:PS X st t)(i:∀D σ H,t' D σ H->t D σ H):PS X st t':=λpins s σ H D I q=>h pins s σ H D I<|i D σ H q
def qL.imp{t t':TS}(h:qL X rest t)(i:∀D σ H,t' D σ H->t D σ H):qL X rest t':=λpins s σ H D I q=>h pins s σ H D I<|i D σ H q
def PG.imp{t t':TG}(h:PG X e t)(i:∀v σ H Q,t' v σ H Q->t v σ H Q):PG X e t':=λpins s σ H v u Q I r q=>h pins s σ H v u Q I r<|i _ _ _ _ q
abbrev gD (i:Nat):Tg:=λa τ S=>.ok (τ.set i a) S
def fW{i:Nat}{x:Str}(hN:X.N.Nodup)(hi:X.N[i]?=some x:=by rfl)(hx:Loc X.env.scope x:=by first|exact Or.inl rfl|exact Or.inr rfl)(hf:X.fn x=true\/X.env.scope.names.lookup x=some .local:=by first|exact .inl rfl|exact .inr rfl|assumption):AG X (.Name x pos) (gD i):=
 PG.imp (BX hN hi hx hf) λv σ H Q ⟨ρ,S,τ,a,R,r,va,h⟩=>h ρ H _ .refl R<|r.set va
abbrev F6:Bq:=λd τ S=>match d with
 | []=>.ok τ S
 | _=>.no
abbrev Br (g:Tg)(gs:Bq):Bq:=λd τ S=>match d with
 | a::d=>(g a τ S).bind λf S1=>gs d f S1
 | []=>.no
def vX:HA X [] F6:=λpins s σ H d us Q I r ⟨ρ,S,τ,g,R,f,va,h⟩=>BB pins s σ H d us Q I r (by
 cases va with
 | nil=>exact⟨rfl,h ρ H σ .refl R f⟩
 | cons _ _=>exact h.elim)
def mJ{g:Tg}{gs:Bq}(h1:AG X e g)(h2:HA X es gs)(hs:(assignEach (e::es) X.env).map (·.2)=assign e X.env::(assignEach es X.env).map (·.2):=by rfl):HA X (e::es) (Br g gs):=
 λpins s σ H p us Q I r ⟨ρ,S,τ,C,R,q,va,h⟩=>zE h1 h2 hs pins s σ H p us Q I r (by
  cases va with
  | nil=>exact h.elim
  | cons j m=>exact⟨_,_,rfl,ρ,S,τ,_,R,q,j,ff (fD h) .refl λf S1 h1 ρ1 H1 k e1 B d=>⟨ρ1,S1,f,_,B,d,m.ext e1,ff h1 e1 λ_ _ z=>z.ext e1⟩⟩)
abbrev F8 (n:Nat)(gs:Bq):Tg:=λa τ S=>match a with
 | .tup xs | .ktu xs=>gd (xs.length=n) (gs xs τ S)
 | _=>.no
def AZ{k n:Nat}{gs:Bq}(hc:X.calm=true)(h:HA X es gs)(hn:(assignEach es X.env).length=n:=by rfl)(hst:(assignEach es X.env).findIdx? (·.1)=none:=by rfl):AG X (.Tuple es k pos) (F8 n gs):=
 PG.imp (DY hc h hn hst) λv σ H Q h9=>by
  obtain⟨ρ,S,τ,a,R,r,va,h⟩:=h9
  cases va with
  | tup h1 r1=>
   obtain⟨d,h⟩:=fK h;exact⟨_,_,rfl,iT.of h1,by rw[<- r1.length];exact d,ρ,S,τ,_,R,r,r1,h⟩
  | ktu h1 r1=>
   obtain⟨d,h⟩:=fK h;exact⟨_,_,rfl,.inr h1,by rw[<- r1.length];exact d,ρ,S,τ,_,R,r,r1,h⟩
  | _=>exact h.elim
abbrev rA (o i v:A)(S:e_):R Unit:=match o,i with
 | .ref n,.int k=>opt (fh S n) λxs=>opt (sC xs.length k) λj=>.ok Unit.unit (S.set n<|.lst<|xs.set j v)
 | _,_=>.no
abbrev J_ (X:Cx):xA:=λo i v H Q=>∃ρ S f g d,Rel X.K ρ H S/\AV X.K ρ H f o/\AV X.K ρ H g i/\AV X.K ρ H d v/\(rA f g d S).post (λ_ j=>∀ρ' H',Ext ρ ρ' H H'->Rel X.K ρ' H' j->Q H') (XE X ρ H)
def vS:Co X (J_ X):=λpins s σ H o i v G q u Q I B C f h9=>by
 obtain⟨ρ,S,L,M,K,R,h1,m,g,h⟩:=h9
 cases h1 with
 | @ref p n d=>
  cases m with
  | int k=>
   kd_p;obtain⟨j,z,h⟩:=fB h;obtain⟨J,e,r⟩:=R.lst d<|fH hn;obtain⟨ex,F⟩:=R.put d (fH hn)<|r.set g j;exact set_list pins s σ H _ _ v G q u Q I B C f ⟨p,J,k,j,rfl,rfl,e,by rw[<- r.length];exact z,h _ _ ex F⟩
  | _=>exact h.elim
 | _=>exact h.elim
abbrev F5 (co ci:Ex):Tg:=λa τ S=>(co τ S).bind λo S1=>(ci τ S1).bind λi f=>(rA o i a f).bind λ_ d=>.ok τ d
def qg{co ci:Ex}(ho:AE X o co)(hi:AE X i ci)
  (ha:∀v,assign (.Subscript o i pos) X.env v=(do
   let ov <- holding [v] (eval o X.env)
   let iv <- holding [v,ov] (eval i X.env)
   standAt pos
   holding [v,ov,iv] (setItem ov iv v)
   release [v,ov,iv] []):=by intro _;rfl):AG X (.Subscript o i pos) (F5 co ci):=PG.imp (Eo ho hi vS ha) λv σ H Q h9=>by
 obtain⟨ρ,S,τ,a,R,r,va,h⟩:=h9;refine⟨ρ,S,τ,R,r,ff (fD h) .refl λo S1 h1 ρ1 H1 x e1 q m=>⟨ρ1,S1,τ,q,r.ext e1,ff (fD h1) e1 λi g k d H2 y e2 R2 p=>?_⟩⟩;refine⟨d,g,o,i,a,R2,m.ext e2,p,va.ext<|e1.trans e2,ff (fD k) (e1.trans e2) λ_ C j f z e3 B=>?_⟩;exact j f z σ ((e1.trans e2).trans e3) B<|r.ext<|(e1.trans e2).trans e3
abbrev mh:Sm:=λτ S=>.nx τ S
abbrev f6 (c d:Sm):Sm:=λτ S=>match c τ S with
 | .nx f g=>d f g
 | r=>r
def ir:Cw X [] mh:=qL.imp B0 λD σ H ⟨ρ,S,τ,R,r,h⟩=>h ρ H σ .refl R r
def BV{H:Hp}(h:tS X (f6 c d) D σ H):Hu (tS X c) (tS X d) D σ H:=by
 obtain⟨ρ,S,τ,R,r,h⟩:=h;refine⟨ρ,S,τ,R,r,?_⟩;unfold f6 at h
 cases hc:c τ S with
 | nx f S1=>
  rw[hc]at h;exact λρ1 H1 g e1 j r1=>⟨ρ1,S1,f,j,r1,qf.ext h e1⟩
 | rt a S1=>rw[hc]at h;exact h
 | bk f S1=>rw[hc]at h;exact h
 | ct f S1=>rw[hc]at h;exact h
 | ex x S1=>rw[hc]at h;exact h
 | no=>rw[hc]at h;exact h
def fm(h1:AS X st c)(h2:Cw X rest d):Cw X (st::rest) (f6 c d):=qL.imp (zP h1 h2) λD σ H h=>BV h
def fq(h1:AS X st c):Cw X [st] c:=Cm h1
abbrev Fi:Sm:=λτ S=>.bk τ S
abbrev GL:Sm:=λτ S=>.ct τ S
abbrev ve (e:Ex):Sm:=λτ S=>.of (e τ S) λ_ S1=>.nx τ S1
def vE{f:Ex}(he:AE X e f)(hs:swapsWith e none pos.line X.env=pure false:=by rfl):AS X (.Expr e pos) (ve f):=PS.imp (CJ he hs) λD σ H ⟨ρ,S,τ,R,r,h⟩=>
 ⟨ρ,S,τ,R,r,ff (of_post h) .refl λa S1 h1 ρ1 H1 x e1 d g=>h1 ρ1 H1 σ e1 d<|r.ext e1⟩
abbrev ie (e:Ex):Sm:=λτ S=>.of (e τ S) λa S1=>.rt a S1
def fV{f:Ex}(he:AE X e f):AS X (.Return (some e) pos) (ie f):=PS.imp (Fd he) λD σ H ⟨ρ,S,τ,R,r,h⟩=>⟨ρ,S,τ,R,r,ff (of_post h) .refl λa S1 h1=>h1⟩
abbrev Hl:Sm:=λτ S=>.rt .non S
abbrev sX (t:Te)(c d:Sm):Sm:=λτ S=>.of (t τ S) λb S1=>match b with|true=>c τ S1|false=>d τ S1
def kX{t:Te}(ht:AT X e t)(ha:Cw X ca c)(hb:Cw X cb d):AS X (.If e ca cb pos) (sX t c d):=PS.imp (Gm ht ha hb) λD σ H h9=>by
 z_go;refine⟨ρ,S,τ,R,r,ff (of_post h) .refl λb S1 h1 ρ1 H1 e1 f=>?_⟩
 cases b with
 | true=>rw[aR rfl];exact⟨ρ1,S1,τ,f,r.ext e1,qf.ext h1 e1⟩
 | false=>rw[aT bf];exact⟨ρ1,S1,τ,f,r.ext e1,qf.ext h1 e1⟩
abbrev gS (e:Ex)(g:Tg):Sm:=λτ S=>.of (e τ S) λa S1=>.of (g a τ S1) λd f=>.nx d f
def B3{f:Ex}{g:Tg}{H:Hp}(h:tS X (gS f g) D σ H):EB (tE X f) (tG X g) D σ H:=by
 obtain⟨ρ,S,τ,R,r,h⟩:=h;exact⟨ρ,S,τ,R,r,ff (of_post h) .refl λa S1 h1 ρ1 H1 x e1 d k=>⟨ρ1,S1,τ,a,d,r.ext e1,k,ff (of_post h1) e1 λj p m=>vd.ext m e1⟩⟩
def sR{tg:aF}{f:Ex}{g:Tg}(he:AE X e f)(hg:AG X tg g)(hs:swapsWithSole [tg] e pos.line X.env=pure false:=by rfl)(hw:swappedStores [tg] e X.env=pure none:=by rfl)
  (h1:(assignEach [tg] X.env).map (·.2)=[assign tg X.env]:=by rfl):AS X (.Assign [tg] e pos) (gS f g):=PS.imp (Fc he hg hs hw h1) λD σ H h=>B3 h
def fY{i:Nat}{x:Str}{f:Ex}(hN:X.N.Nodup)(he:AE X e f)(hi:X.N[i]?=some x:=by rfl)(hx:Loc X.env.scope x:=by first|exact Or.inl rfl|exact Or.inr rfl)(hs:swapsWith e (some<|.Name x pos') pos.line X.env=pure false:=by rfl)(hf:X.fn x=true\/X.env.scope.names.lookup x=some .local:=by first|exact .inl rfl|exact .inr rfl|assumption) :
  AS X (.Assign [.Name x pos'] e pos) (gS f<|gD i):=PS.imp (FE hN hi hx he hs hf) λD σ H ⟨ρ,S,τ,R,r,h⟩=>
 ⟨ρ,S,τ,R,r,ff (of_post h) .refl λa S1 h1 ρ1 H1 x e1 d g=>h1 ρ1 H1 _ e1 d<|(r.ext e1).set g⟩
abbrev ID (i j:Nat)(c:lu):Sm:=λτ S=>.of (c τ S) λd S1=>match d with
 | [a,b]=>.nx ((τ.set i a).set j b) S1
 | _=>.no
abbrev ip (X:Cx)(f:A->A->e_->R A):Ez:=λx y H Q=>∃ρ S a b,Rel X.K ρ H S/\AV X.K ρ H a x/\AV X.K ρ H b y/\(f a b S).post (pC X ρ H Q) (XE X ρ H)
abbrev xC (a b:A)(S:e_):R A:=match a,b with
 | .int i,.int j=>.ok (.int<|i+j) S
 | _,_=>.no
def vm:CU X .Add (ip X xC):=λpins s σ H x y v u Q I r1 r2 h9=>by
 room
 cases va with
 | int i=>
  cases vb with
  | int j=>exact FD pins s σ H _ _ v u Q I r1 r2 ⟨i,j,rfl,rfl,h _ _ _ .refl R<|.int _⟩
  | _=>exact h.elim
 | _=>exact h.elim
def Bv:CU X .Sub (ip X aSub):=λpins s σ H x y v u Q I r1 r2 h9=>by
 room
 cases va with
 | int i=>
  cases vb with
  | int j=>exact DO pins s σ H _ _ v u Q I r1 r2 ⟨i,j,rfl,rfl,h _ _ _ .refl R<|.int _⟩
  | _=>exact h.elim
 | _=>exact h.elim
abbrev yR (i:Nat)(f:A->A->e_->R A)(e:Ex):Sm:=λτ S=>if (τ.getD i .unb).iA then .no else .of (e τ S) λb S1=>.of (f (τ.getD i .unb) b S1) λc d=>.nx (τ.set i c) d
def DT{i:Nat}{x:Str}{c:Ex}{f:A->A->e_->R A}(hN:X.N.Nodup)(he:AE X e c)(ho:CU X op<|ip X f)(hi:X.N[i]?=some x:=by rfl)(hx:Loc X.env.scope x:=by first|exact Or.inl rfl|exact Or.inr rfl)(hf:X.fn x=true\/X.env.scope.names.lookup x=some .local:=by first|exact .inl rfl|exact .inr rfl|assumption) :
  AS X (.AugAssign (.Name x pos') op e pos) (yR i f c):=PS.imp (E6 hN hi hx he ho hf) λD σ H h9=>by
 z_go;have d:∀x,τ[i]?=some x->x.iA=false->(RS.of (c τ S) λb S1=>.of (f x b S1) λc j=>.nx (τ.set i c) j).post (vd X ρ H D.nx) (pC X ρ H D.rt) (vd X ρ H D.bk) (vd X ρ H D.ct) (XE X ρ H) ->
   ∃x,σ[i]?=some (some x)/\tE X c σ H λy H1=>ip X f x y H1 λz H2=>D.nx (σ.set i<|some z) H2:=by
  intro x hi hx h
  rcases r.at i x hi with z|⟨v,e,q⟩
  ·subst z;cases hx
  ·refine⟨v,e,ρ,S,τ,R,r,ff (of_post h) .refl λb S1 h1 ρ1 H1 y e1 B m=>⟨ρ1,S1,x,b,B,q.ext e1,m,ff (of_post h1) e1 λw j k g H2 z e2 R2 p=>?_⟩⟩;exact k g H2 _ (e1.trans e2) R2<|(r.ext<|e1.trans e2).set p
 unfold yR qf at h;rw[aN]at h
 cases hi:τ[i]? with
 | none=>rw[hi]at h;exact h.elim
 | some x=>
  rw[hi]at h
  cases hx:x.iA with
  | true=>rw[show(some x).getD .unb=x from rfl,hx]at h;exact h.elim
  | false=>rw[show(some x).getD .unb=x from rfl,hx]at h;exact d x hi hx h
abbrev zU (a b:A)(S:e_):R A:=match a,b with
 | .ref n,.int i=>opt (fh S n) λxs=>gd (0<=i) (opt (xs[i.toNat]?) λx=>.ok x S)
 | _,_=>.no
def BF:Fv X (r2 X zU):=λpins s σ H o i j B Q I d f h9=>by
 room
 cases va with
 | @ref p n g=>
  cases vb with
  | int k=>
   kd_p;obtain⟨h0,h⟩:=fK h;obtain⟨x,m,h⟩:=fB h;obtain⟨C,h1,r1⟩:=R.lst g<|fH hn;obtain⟨z,e,q⟩:=r1.get m;exact xO pins s σ H _ _ j B Q I d f ⟨p,C,k,z,rfl,rfl,i_.of h1,h0,e,h _ _ _ .refl R q⟩
  | _=>exact h.elim
 | _=>exact h.elim
abbrev o8 (co ci ce:Ex)(f:A->A->e_->R A):Sm:=λτ S=>.of (co τ S) λo S1=>.of (ci τ S1) λi j=>.of (zU o i j) λx d=>.of (ce τ d) λy m=>.of (f x y m) λz k=>.of (rA o i z k) λ_ g=>.nx τ g
def uI{co ci ce:Ex}{f:A->A->e_->R A}(ho:AE X o co)(hi:AE X i ci)(he:AE X e ce)(hp:CU X op<|ip X f)
  (ha:∀ov iv new,augStore i ov iv new=(do holding [new,ov,iv] (setItem ov iv new);release [new,ov,iv] [];pure .next):=by intros;rfl):AS X (.AugAssign (.Subscript o i tpos) op e pos) (o8 co ci ce f):=
 PS.imp (B9 ho hi BF he hp vS ha) λD σ H h9=>by
  z_go;refine⟨ρ,S,τ,R,r,ff (of_post h) .refl λJ S1 h1 ρ1 H1 vo e1 R1 F=>⟨ρ1,S1,τ,R1,r.ext e1,ff (of_post h1) e1 λK O U p H2 vi e2 R2 G=>?_⟩⟩;refine⟨p,O,J,K,R2,F.ext e2,G,ff (of_post U) (e1.trans e2) λax S3 P B H3 vx e3 R3 v3=>?_⟩;have d:=(e1.trans e2).trans e3;refine⟨B,S3,τ,R3,r.ext d,ff (of_post P) d λT V L m H4 vy g N v4=>?_⟩;refine⟨m,V,ax,T,N,v3.ext g,v4,ff (of_post L) (d.trans g) λaz S5 M q H5 vz z W v5=>?_⟩;have j:=(e3.trans g).trans z;refine⟨q,S5,J,K,az,W,F.ext<|e2.trans j,G.ext j,v5,ff (of_post M) ((d.trans g).trans z) λ_ S6 h6 C Y Z R6=>?_⟩;have k:=((d.trans g).trans z).trans Z;exact h6 C Y σ k R6<|r.ext k
abbrev iw (t:Te)(c:Sm):Nat->Sm
 | 0=>λ_ _=>.no
 | n+1=>λτ S=>.of (t τ S) λb S1=>match b with
  | false=>.nx τ S1
  | true=>match c τ S1 with
   | .nx d f=>iw t c n d f
   | .ct d f=>iw t c n d f
   | .bk d f=>.nx d f
   | r=>r
def AU(n:Nat){t:Te}(hp:PassesOwn (model X.prog X.w) X.A X.env X.xe)(ht:AT X e t)(hb:Cw X body c):AS X (.While e body [] pos) (iw t c n):=PS.imp (zh hp ht hb) λD σ H h9=>by
 z_go;refine⟨λm j H'=>∃ρ' g d,Ext ρ ρ' H H'/\Rel X.K ρ' H' g/\SR X.K ρ' H' d j/\qf X ρ' H' D (iw t c m d g),⟨n,ρ,S,τ,.refl,R,r,h⟩,?_⟩;rintro m L H1 ⟨ρ1,S1,k,e1,N,r1,h1⟩
 cases m with
 | zero=>exact h1.elim
 | succ m=>
  refine⟨ρ1,S1,k,N,r1,ff (of_post h1) .refl λb F f C H2 e2 R2=>?_⟩
  cases b with
  | false=>rw[aT bf];exact f C H2 L e2 R2 (r1.ext e2)
  | true=>
   rw[aR rfl];refine⟨λj H'=>∃ρ' g d,Ext ρ ρ' H H'/\Rel X.K ρ' H' g/\SR X.K ρ' H' d j/\qf X ρ' H' D (iw t c m d g),λj H' z=>⟨m,bQ _,z⟩,C,F,k,R2,r1.ext e2,?_⟩;have f:qf X ρ1 H1 D (match c k F with
    | .nx d g=>iw t c m d g
    | .ct d g=>iw t c m d g
    | .bk d g=>.nx d g
    | r=>r):=f
   cases hc:c k F with
   | nx p B=>rw[hc]at f;exact λq O G e3 M J=>⟨q,B,p,(e1.trans e2).trans e3,M,J,qf.ext f<|e2.trans e3⟩
   | ct p B=>rw[hc]at f;exact λq O G e3 M J=>⟨q,B,p,(e1.trans e2).trans e3,M,J,qf.ext f<|e2.trans e3⟩
   | bk p B=>rw[hc]at f;exact vd.ext f e2
   | rt a B=>rw[hc]at f;exact pC.ext f e2
   | ex x B=>rw[hc]at f;exact XE.ext f e2
   | no=>rw[hc]at f;exact f
end
structure Src where
 k:Nat
 get:Nat->e_->Option A
 fin:e_->Bool
structure JR (K:aA)(s:Src)(J:It)(ρ0:ar)(H0:Hp):Prop where
 go:∀(i:Nat) (S:e_) (H:Hp) (ρ:ar) (x:A),Ext0 ρ0 ρ H0 H->Rel K ρ H S->s.get i S=some x->J.go i H/\∀v H',J.yld i H v H'->Ext ρ ρ H H'/\Rel K ρ H' S/\AV K ρ H' x v
 stop:∀(S:e_) (H:Hp) (ρ:ar),Ext0 ρ0 ρ H0 H->Rel K ρ H S->s.fin S=true->J.stop s.k H
meta abbrev Ic:=ad->e_->R Src
abbrev tI (X:Cx)(c:Ic):TI:=λσ H Q=>∃ρ S τ,Rel X.K ρ H S/\SR X.K ρ H τ σ/\(c τ S).post (λs d=>∀ρ' H' J,Ext ρ ρ' H H'->Rel X.K ρ' H' d->JR X.K s J ρ' H'->Q J H') (XE X ρ H)
abbrev AI (X:Cx)(tg iter:aF)(c:Ic):Prop:=PI X tg iter<|tI X c
abbrev mX (xs:ad):Src:=⟨xs.length,λi _=>xs[i]?,λ_=>true⟩
abbrev m9 (n k:Nat):Src:=⟨k,λi S=>(fh S n).bind (·[i]?),λS=>match fh S n with
 | some ys=>decide (ys.length<=k)
 | none=>false⟩
abbrev gm (lo hi:Int):Src:=⟨(hi-lo).toNat,λi _=>if i<(hi-lo).toNat then some (.int<|lo+i)else none,λ_=>true⟩
abbrev rR (c:Ex):Ic:=λτ S=>(c τ S).bind λa S1=>match a with
 | .tup xs=>.ok (mX xs) S1
 | .frz xs=>.ok (mX xs) S1
 | .ref n=>opt (fh S1 n) λxs=>.ok (m9 n xs.length) S1
 | .str x=>gd (x.cps.all (· < 128)=true) (.ok (mX<|x.cps.toList.map λc=>.str ⟨#[c]⟩) S1)
 | _=>.no
section
variable {X:Cx}{pos:Pos}{tg e a b:aF}
def EA{K:aA}{H0:Hp}{p:ak}(h:iT K H0 p vs)(r:AVs K ρ0 H0 xs vs):JR K (mX xs) (Jb K p) ρ0 H0 where
 go:=λi S H ρ x e R g=>by
  obtain⟨v,d,f⟩:=(AVs.gB e r).get g;have hs:=e.Jm h;refine⟨⟨vs,v,hs,d⟩,λw H' ⟨e1,y⟩=>?_⟩;subst e1;have:=y vs hs;rw[d]at this
  cases this
  exact⟨.refl,R,f⟩
 stop:=λS H ρ e R _=>⟨vs,e.Jm h,by rw[<- r.length];exact aK _⟩
def Fy{K:aA}{H0:Hp}{p:ak}(h:Fz K H0 p vs)(r:AVs K ρ0 H0 xs vs):JR K (mX xs) (Hz K p) ρ0 H0 where
 go:=λi S H ρ x e R g=>by
  obtain⟨v,d,f⟩:=(AVs.gB e r).get g;have hs:=(e.fz h).zF;refine⟨⟨vs,v,hs,d⟩,λw H' ⟨e1,y⟩=>?_⟩;subst e1;have:=y vs hs;rw[d]at this
  cases this
  exact⟨.refl,R,f⟩
 stop:=λS H ρ e R _=>⟨vs,(e.fz h).zF,by rw[<- r.length];exact aK _⟩
def E_{K:aA}{ρ0:ar}{H0:Hp}{p:ak}{n k:Nat}(h:ρ0[n]?=some p):JR K (m9 n k) (Hz K p) ρ0 H0 where
 go:=λi S H ρ x e R g=>by
  obtain⟨ys,hn,j⟩:=bO.mp<|show(fh S n).bind (·[i]?)=some x from g;obtain⟨d,h1,r⟩:=R.lst (e.get h)<|fH hn;obtain⟨v,f,m⟩:=r.get j;refine⟨⟨d,v,i_.of h1,f⟩,λw H' ⟨e1,y⟩=>?_⟩;subst e1;have:=y d<|i_.of h1;rw[f]at this
  cases this
  exact⟨.refl,R,m⟩
 stop:=λS H ρ e R g=>by
  have g:(match fh S n with
   | some ys=>decide (ys.length<=k)
   | none=>false)=true:=g
  cases hn:fh S n with
  | none=>rw[hn]at g;cases g
  | some ys=>
   rw[hn]at g;obtain⟨d,h1,r⟩:=R.lst (e.get h)<|fH hn;exact⟨d,i_.of h1,by rw[<- r.length];exact eL g⟩
def zd{K:aA}{H0:Hp}{lo hi:Int}:JR K (gm lo hi) (G7 lo (hi-lo).toNat) ρ0 H0 where
 go:=λi S H ρ x e R g=>by
  have g:(if i<(hi-lo).toNat then some (A.int<|lo+i)else none)=some x:=g;by_cases d:i<(hi-lo).toNat
  ·rw[aR d]at g
   cases g
   refine⟨d,λw H' ⟨e1,y⟩=>?_⟩;subst e1 y;exact⟨.refl,R,.int _⟩
  ·rw[aT d]at g;cases g
 stop:=λS H ρ e R _=>aK _
def Em{K:aA}{H0:Hp}{x:Str}:JR K (mX<|x.cps.toList.map λc=>A.str ⟨#[c]⟩) (Ie x) ρ0 H0 where
 go:=λi S H ρ y e R g=>by
  have g:(x.cps.toList.map λc=>A.str ⟨#[c]⟩)[i]?=some y:=g;rw[br]at g;obtain⟨c,hc,rfl⟩:=bD.mp g;rw[Array.getElem?_toList]at hc;refine⟨(Array.getElem?_eq_some_iff.mp hc).1,λw H' ⟨e1,j,d,f⟩=>?_⟩;rw[hc]at d
  cases d
  subst e1 f;exact⟨.refl,R,.str _⟩
 stop:=λS H ρ e R _=>by
  show(x.cps.toList.map λc=>A.str ⟨#[c]⟩).length=x.cps.size;rw[aP,bR]
def zN{c:Ex}(he:AE X e c):AI X tg e (rR c):=λpins s σ H Q I h9=>by
 z_go;have d:=fD h
 cases hc:c τ S with
 | no=>rw[hc]at d;exact d.elim
 | ex x S1=>
  rw[hc]at d;exact yO he pins s σ H Q I ⟨ρ,S,τ,R,r,by rw[hc];exact d⟩
 | ok a S1=>
  rw[hc]at d
  cases a with
  | tup xs=>
   refine yO he pins s σ H Q I ⟨ρ,S,τ,R,r,?_⟩;rw[hc];intro ρ1 H1 x e1 f g
   cases g with
   | tup h1 r1=>exact⟨_,rfl,⟨_,(iT.of h1)⟩,d ρ1 H1 _ e1 f<|EA (iT.of h1) r1⟩
  | frz xs=>
   refine uD he pins s σ H Q I ⟨ρ,S,τ,R,r,?_⟩;rw[hc];intro ρ1 H1 x e1 f g
   cases g with
   | frz h1 r1=>exact⟨_,rfl,⟨_,h1.zF⟩,d ρ1 H1 _ e1 f<|Fy h1 r1⟩
  | ref n=>
   obtain⟨xs,hn,d⟩:=fB d;refine uD he pins s σ H Q I ⟨ρ,S,τ,R,r,?_⟩;rw[hc];intro ρ1 H1 x e1 f g
   cases g with
   | ref j=>
    obtain⟨m,h1,r1⟩:=f.lst j<|fH hn;exact⟨_,rfl,⟨_,i_.of h1⟩,d ρ1 H1 _ e1 f<|E_ j⟩
  | str x=>
   obtain⟨k,d⟩:=fK d;refine DZ he pins s σ H Q I ⟨ρ,S,τ,R,r,?_⟩;rw[hc];intro ρ1 H1 v e1 f g
   cases g with
   | str=>exact⟨x,rfl,k,d ρ1 H1 _ e1 f Em⟩
  | _=>exact d.elim
abbrev bnd (i:Int):Prop:=-(2 ^ 62)<=i/\i<2 ^ 62
instance (i:Int):Decidable (bnd i):=by unfold bnd;infer_instance
abbrev i6 (c:Ex):Ic:=λτ S=>(c τ S).bind λa S1=>match a with
 | .int j=>gd (bnd j) (.ok (gm 0 j) S1)
 | _=>.no
abbrev jj (c d:Ex):Ic:=λτ S=>(c τ S).bind λa S1=>(d τ S1).bind λb f=>match a,b with
 | .int i,.int j=>gd (bnd i/\bnd j) (.ok (gm i j) f)
 | _,_=>.no
def gw{p:Pos}{c:Ex}(hm:X.mg "range" = none)(ha:AE X a c)(hg:Gl X "range" := by rfl)(hs:starEach [a] X.env=[(false,eval a X.env)]:=by rfl):AI X tg (.Call (.Name "range" p) [a] [] pos) (i6 c):=λpins s σ H Q I h9=>by
 z_go;refine xh hg hm (nS ha tB hs) hs pins s σ H Q I ⟨ρ,S,τ,R,r,ff (fD h) .refl λx S1 h1 ρ1 H1 v e1 g f=>?_⟩
 cases f with
 | int j=>
  obtain⟨d,h1⟩:=fK h1;exact⟨_,rfl,d.1,d.2,by have:=h1 ρ1 H1 _ e1 g zd;rwa [Int.sub_zero]at this⟩
 | _=>exact h1.elim
def jd{p:Pos}{c d:Ex}(hm:X.mg "range" = none)(ha:AE X a c)(hb:AE X b d)(hg:Gl X "range" := by rfl)(hs:starEach [a,b] X.env=[(false,eval a X.env),(false,eval b X.env)]:=by rfl)(hs2:starEach [b] X.env=[(false,eval b X.env)]:=by rfl):AI X tg (.Call (.Name "range" p) [a,b] [] pos) (jj c d):=λpins s σ H Q I h9=>by
 z_go;refine xD hg hm (nS ha (nS hb tB hs2)<|by rw[hs,hs2]) hs hs2 pins s σ H Q I ⟨ρ,S,τ,R,r,ff (fD h) .refl λx S1 h1 ρ1 H1 v e1 q k=>⟨ρ1,S1,τ,q,r.ext e1,ff (fD h1) e1 λy z f g H2 w e2 R2 m=>?_⟩⟩
 cases k with
 | int i=>
  cases m with
  | int j=>
   obtain⟨hb,f⟩:=fK f;exact⟨_,_,rfl,⟨hb.1.1,hb.1.2,hb.2.1,hb.2.2⟩,f g H2 _ (e1.trans e2) R2 zd⟩
  | _=>exact f.elim
 | _=>exact f.elim
abbrev jv (s:Src)(g:Tg)(c:Sm):Nat->Nat->Sm
 | 0,_=>λτ S=>if s.fin S then .nx τ S else .no
 | k+1,i=>λτ S=>match s.get i S with
  | none=>.no
  | some x=>.of (g x τ S) λj S1=>match c j S1 with
   | .nx d f=>jv s g c k (i+1) d f
   | .ct d f=>jv s g c k (i+1) d f
   | .bk d f=>.nx d f
   | r=>r
abbrev kc (src:Ic)(g:Tg)(c:Sm):Sm:=λτ S=>.of (src τ S) λs S1=>jv s g c s.k 0 τ S1
def iU{iter:aF}{src:Ic}{g:Tg}{c:Sm}(hp:PassesOwn (model X.prog X.w) X.A X.env X.xe)(hc:X.calm=true)(hi:AI X tg iter src)(hg:AG X tg g)(hb:Cw X body c)
  (hs:∀x,foldedSetIterable iter X.env x=pure x:=by intro _;rfl):AS X (.For tg iter body [] pos) (kc src g c):=PS.imp (Fl hp hc hi hg hb hs) λD σ H h9=>by
 z_go;refine⟨ρ,S,τ,R,r,ff (of_post h) .refl λs S1 h1 ρ1 H1 J e1 R1 jr=>?_⟩;refine⟨λi m F H'=>m+i=s.k/\∃ρ' C d,Ext ρ1 ρ' H1 H'/\Rel X.K ρ' H' C/\SR X.K ρ' H' d F/\qf X ρ' H' D (jv s g c m i d C),⟨s.k,rfl,ρ1,S1,τ,.refl,R1,r.ext e1,qf.ext h1 e1⟩,?_⟩;rintro i m σ2 H2 ⟨hm,j,G,M,e2,R2,r2,q⟩
 cases m with
 | zero=>
  left;have q:qf X j H2 D (if s.fin G then .nx M G else .no):=q
  cases hf:s.fin G with
  | false=>rw[hf]at q;exact q.elim
  | true=>
   rw[hf]at q;refine⟨by rw[show i=s.k by lia];exact jr.stop G H2 j e2.toExt0 R2 hf,q j H2 σ2 .refl R2 r2⟩
 | succ m=>
  right;have q:qf X j H2 D (match s.get i G with
   | none=>.no
   | some x=>.of (g x M G) λY S1=>match c Y S1 with
    | .nx d C=>jv s g c m (i+1) d C
    | .ct d C=>jv s g c m (i+1) d C
    | .bk d C=>.nx d C
    | r=>r):=q
  cases V:s.get i G with
  | none=>rw[V]at q;exact q.elim
  | some x=>
   rw[V]at q;obtain⟨hgo,hy⟩:=jr.go i G H2 j x e2.toExt0 R2 V;refine⟨hgo,λF H'=>m+(i+1)=s.k/\∃ρ' C d,Ext ρ1 ρ' H1 H'/\Rel X.K ρ' H' C/\SR X.K ρ' H' d F/\qf X ρ' H' D (jv s g c m (i+1) d C),λF H' z=>⟨m,bQ _,z⟩,λv H3 y=>?_⟩;obtain⟨e3,R3,v3⟩:=hy v H3 y;refine⟨j,G,M,x,R3,r2.ext e3,v3,ff (of_post q) e3 λP S4 B U H4 σ4 e4 R4 r4=>⟨U,S4,P,R4,r4,?_⟩⟩;have f:=e3.trans e4
   cases p:c P S4 with
   | nx L O=>rw[p]at B;exact λN H5 Z T R5 W=>⟨(),N,O,L,(e2.trans f).trans T,R5,W,qf.ext B<|f.trans T⟩
   | ct L O=>rw[p]at B;exact λN H5 Z T R5 W=>⟨(),N,O,L,(e2.trans f).trans T,R5,W,qf.ext B<|f.trans T⟩
   | bk L O=>rw[p]at B;exact vd.ext B f
   | rt x5 O=>rw[p]at B;exact pC.ext B f
   | ex x5 O=>rw[p]at B;exact XE.ext B f
   | no=>rw[p]at B;exact B
end
abbrev R.g_ {α β:Type}(r:R α)(f:α->e_->R β):R β:=match r with
 | .ok a S=>f a S
 | _=>.no
def gp{α β:Type}{r:R α}{f:α->e_->R β}{b:β}(h:r.g_ f=.ok b S2):∃a S,r=.ok a S/\f a S=.ok b S2:=by
 cases r with
 | ok a S=>exact⟨a,S,rfl,h⟩
 | ex _ _=>cases h
 | no=>cases h
def pA{α β:Type}{r:R α}{f:α->e_->R β}{P:β->e_->Prop}{E:Str->e_->Prop}(h:(r.g_ f).post P E):∃a S,r=.ok a S/\(f a S).post P E:=by
 cases r with
 | ok a S=>exact⟨a,S,rfl,h⟩
 | ex _ _=>exact h.elim
 | no=>exact h.elim
def tW{α β:Type}{o:Option β}{f:β->R α}{a:α}(h:opt o f=.ok a S):∃b,o=some b/\f b=.ok a S:=by
 cases o with
 | none=>cases h
 | some b=>exact⟨b,rfl,h⟩
abbrev jq (s:Src)(g:Tg)(t:Te)(e:Ex):Nat->Nat->ad->e_->R (ad)
 | 0,_=>λ_ S=>if s.fin S then .ok [] S else .no
 | k+1,i=>λτ S=>opt (s.get i S) λx=>(g x τ S).g_ λd S1=>(t d S1).g_ λb f=>match b with
  | true=>(e d f).g_ λy j=>(jq s g t e k (i+1) d j).g_ λys m=>.ok (y::ys) m
  | false=>jq s g t e k (i+1) d f
abbrev j_ (cap:List<|bj)(τ:ad):ad:=cap.map λo=>match o with
 | some j=>τ.getD j .unb
 | none=>.unb
abbrev ku (cap:List<|bj)(src:Ic)(g:Tg)(t:Te)(e:Ex):Ex:=λτ S=>(src τ S).bind λs S1=>(jq s g t e s.k 0 (j_ cap τ) S1).g_ λys d=>newL ys d
abbrev nI:Te:=λ_ S=>.ok true S
def rZ{s:Src}{g:Tg}{t:Te}{e:Ex}{k:Nat}{T:Prop}(h:jq s g t e (k+1) i τ S=.ok zs S')
  (q:∀x τ1 S1 b S2,s.get i S=some x->g x τ S=.ok τ1 S1->t τ1 S1=.ok b S2->(b=true->∃y S3 ws,e τ1 S2=.ok y S3/\jq s g t e k (i+1) τ1 S3=.ok ws S'/\zs=y::ws)->(b=false->jq s g t e k (i+1) τ1 S2=.ok zs S')->T):T:=by
 obtain⟨x,f,h⟩:=tW h;obtain⟨τ1,S1,h1,h⟩:=gp h;obtain⟨b,S2,j,h⟩:=gp h;refine q x τ1 S1 b S2 f h1 j (λd=>?_) λd=>?_
 ·subst d;obtain⟨y,S3,p,h⟩:=gp h;obtain⟨ws,z,m,h⟩:=gp h
  cases h
  exact⟨y,S3,ws,p,m,rfl⟩
 ·subst d;exact h
structure Out (ρ1:ar)(H1:Hp)(D:ak)(accV:List V)(ρ:ar)(H:Hp):Prop where
 e0:Ext0 ρ1 ρ H1 H
 fr:∀a u,a≠D->H1 a=some u->a∉ρ1->H a=some u
 nw:∀a∈ρ,a∈ρ1\/H1 a=none
 nD:D∉ρ
 hD:H D=some (.lst accV)
def Out.stay{H1 H3 H7:Hp}(o:Out ρ1 H1 D accV ρ3 H3)(hD1:H1 D=none)(e7:Ext ρ3 ρ7 H3 H7):Out ρ1 H1 D accV ρ7 H7:=by
 refine⟨⟨o.e0.pre.trans e7.pre,λa u i h=>e7.im a u i<|o.e0.im a u i h⟩,λa u na f g=>e7.fr a u (o.fr a u na f g) λz=>(o.nw a z).elim g λz=>by(rw[z]at f;cases f),λa j=>?_,λz=>(e7.nw D z).elim o.nD λz=>by(rw[o.hD]at z;cases z),e7.fr D _ o.hD o.nD⟩;by_cases d:a∈ρ1
 ·exact .inl d
 ·right
  cases q:H1 a with
  | none=>rfl
  | some u=>
   have k:a≠D:=fP q hD1
   rcases e7.nw a j with z|z
   ·exact((o.nw a z).elim d λz=>by(rw[z]at q;cases q)).elim
   ·rw[o.fr a u k q d]at z;cases z
def Out.put{H1 H:Hp}(o:Out ρ1 H1 D accV ρ H)(ex:Ext0 ρ ρ H<|upd H D<|.lst vs):Out ρ1 H1 D vs ρ (upd H D<|.lst vs):=
 ⟨⟨o.e0.pre,λa u i h=>ex.im a u i<|o.e0.im a u i h⟩,λa u na f d=>by rw[fJ na];exact o.fr a u na f d,o.nw,o.nD,h_⟩
def Out.end{H1 H:Hp}{D:ak}(o:Out ρ1 H1 D accV ρ H)(hD:H1 D=none):Ext ρ1 (ρ++[D]) H1 H:=by
 refine⟨⟨o.e0.pre.trans<|eE _ _,o.e0.im⟩,λa u d na=>o.fr a u (fP d hD) d na,λa f=>?_⟩
 rcases c8.mp f with z|z
 ·exact o.nw a z
 ·have:a=D:=by simpa using z
  rw[this];exact .inr hD
abbrev Cq (K:aA)(ρ1:ar)(H1:Hp)(D:ak)(ys:ad)(k:Nat)(E:ar->Hp->Prop)(P:Nat->Nat->ad->e_->ad->Prop)(i m:Nat)(σ:L2.St)(H:Hp):Prop:=
 m+i=k/\∃ρ S τ acc zs accV,Out ρ1 H1 D accV ρ H/\E ρ H/\Rel K ρ H S/\SR K ρ H τ σ/\AVs K ρ H acc accV/\P m i τ S zs/\acc++zs=ys
section
variable {K:aA}{ρ1 ρ:ar}{H1 H:Hp}{D:ak}{ys acc zs:ad}{accV:List V}{k i m:Nat}{E:ar->Hp->Prop}{P:Nat->Nat->ad->e_->ad->Prop}{σ:L2.St}{S:e_}{τ:ad}
def Cq.el{T:Prop}(h:Cq K ρ1 H1 D ys k E P i m σ H)(q:∀ρ S τ acc zs accV,m+i=k->Out ρ1 H1 D accV ρ H->E ρ H->Rel K ρ H S->SR K ρ H τ σ->AVs K ρ H acc accV->P m i τ S zs->acc++zs=ys->T):T:=by
 obtain⟨d,ρ,S,τ,acc,zs,accV,h1,B,p,f,g,z,j⟩:=h;exact q ρ S τ acc zs accV d h1 B p f g z j
def Cq.of(hm:m+i=k)(o:Out ρ1 H1 D accV ρ H)(e:E ρ H)(R:Rel K ρ H S)(r:SR K ρ H τ σ)(v:AVs K ρ H acc accV)(p:P m i τ S zs)(q:acc++zs=ys):Cq K ρ1 H1 D ys k E P i m σ H:=⟨hm,ρ,S,τ,acc,zs,accV,o,e,R,r,v,p,q⟩
end
abbrev HB (K:aA)(c:Ex):TE:=λσ H Q=>∃ρ S τ a d,Rel K ρ H S/\SR K ρ H τ σ/\c τ S=.ok a d/\∀ρ' H' v,Ext ρ ρ' H H'->Rel K ρ' H' d->AV K ρ' H' a v->Q v H'
abbrev F4 (K:aA)(c:Te):TT:=λσ H Q=>∃ρ S τ a d,Rel K ρ H S/\SR K ρ H τ σ/\c τ S=.ok a d/\∀ρ' H',Ext ρ ρ' H H'->Rel K ρ' H' d->Q a H'
abbrev Ho (K:aA)(g:Tg):TG:=λv σ H Q=>∃ρ S τ a f j,Rel K ρ H S/\SR K ρ H τ σ/\AV K ρ H a v/\g a τ S=.ok f j/\∀ρ' H' d,Ext ρ ρ' H H'->Rel K ρ' H' j->SR K ρ' H' f d->Q d H'
section
variable {X:Cx}{pos:Pos}{tg iter elt e:aF}{ifs:List aF}{scope:Scope}{N:am}{cap:List (bj)}{src:Ic}{g:Tg}{t:Te}{c:Ex}
def AE.e0{K:aA}(hK:X.K=K)(h:AE X e c):PE X e (HB K c):=PE.imp h λσ H Q ⟨ρ,S,τ,a,g,R,r,hc,q⟩=>⟨ρ,S,τ,by rw[hK];exact R,by rw[hK];exact r,by rw[hc];exact λρ' H' v e d f=>q ρ' H' v e (by rw[<- hK];exact d)<|by rw[<- hK];exact f⟩
def AT.t0{K:aA}(hK:X.K=K)(h:AT X e t):PT X e (F4 K t):=PT.imp h λσ H Q ⟨ρ,S,τ,a,f,R,r,hc,q⟩=>⟨ρ,S,τ,by rw[hK];exact R,by rw[hK];exact r,by rw[hc];exact λρ' H' e d=>q ρ' H' e<|by rw[<- hK];exact d⟩
def AG.g0{K:aA}(hK:X.K=K)(h:AG X e g):PG X e (Ho K g):=by
 subst hK;refine PG.imp h λv σ H Q h9=>?_;obtain⟨ρ,S,τ,a,d,f,R,r,va,hc,q⟩:=h9;exact⟨ρ,S,τ,a,R,r,va,by rw[hc];exact q⟩
abbrev GG (X:Cx)(ifs:List aF)(t:Te):Prop:=BI X ifs<|F4 X.K t
def nP:GG X [] nI:=λpins s σ H Q I ⟨ρ,S,τ,a,d,R,r,hc,q⟩=>CD pins s σ H Q I<|by cases hc;exact q ρ H .refl R
def uX(h:AT X e t):GG X [e] t:=Bx<|h.t0 rfl
def CP{K:aA}{H:Hp}(r:SR K ρ H τ σ)(cap:List<|bj):SR K ρ H (j_ cap τ) (cap.map<|Cg σ):=by
 refine⟨by simp[j_],λi a h=>?_⟩;unfold j_ at h;rw[br]at h;obtain⟨o,g,e⟩:=bD.mp h
 cases o with
 | none=>exact .inl e.symm
 | some j=>
  have e:τ.getD j .unb=a:=e
  cases d:τ[j]? with
  | none=>rw[aN,d]at e;exact .inl e.symm
  | some b=>
   rw[aN,d]at e;have e:b=a:=e;subst e
   rcases r.at j b d with z|⟨v,h1,f⟩
   ·exact .inl z
   ·exact .inr ⟨v,by rw[br,g];show some ((σ[j]?).getD none)=_;rw[h1];rfl,f⟩
def Rel.uL{K:aA}{H:Hp}{p:ak}(R:Rel K ρ H S)(hp:H p=none):p∉ρ:=λf=>by
 obtain⟨n,hn,e⟩:=dY.mp f;have j:n<S.length:=by rw[<- R.len];exact hn
 have:=R.at n p S[n] (by rw[aH hn,e]) (aH j)
 cases d:S[n]with
 | lst xs=>rw[d]at this;obtain⟨g,h,_⟩:=this;rw[hp]at h;cases h
 | dct _|dki _|dcp _=>rw[d]at this;obtain⟨g,h,_⟩:=this;rw[hp]at h;cases h
 | ins _ _=>rw[d]at this;obtain⟨_,_,h⟩:=this;rw[hp]at h;cases h
def A4(σ:L2.St)(H:Hp)(Q:VK)(h:tE X (ku cap src g t c) σ H Q):HD cap (tI X src) (Ho X.K g) (F4 X.K t) (HB X.K c) σ H Q:=by
 obtain⟨ρ,S,τ,R,r,h⟩:=h;refine⟨ρ,S,τ,R,r,ff (fD h) .refl λs S1 h1 ρ1 H1 J e1 R1 jr D hD=>?_⟩;obtain⟨ys,P,V,h1⟩:=pA h1;obtain⟨L,h1⟩:=fK h1;have h1:pC X ρ H Q (.ref P.length) (P++[.lst ys]):=h1;obtain⟨eD,RD⟩:=R1.im (u:=.lst []) hD;refine⟨Cq X.K ρ1 H1 D ys s.k (λ_ _=>True) λm i τ S zs=>jq s g t c m i τ S=.ok zs P,⟨s.k,.of rfl ⟨eD.toExt0,λa u na hu _=>by rw[fJ na];exact hu,λa ha=>.inl ha,R1.uL hD,h_⟩ trivial RD (CP ((r.ext e1).ext eD) cap) .nil V rfl⟩,?_⟩;intro i m σ3 Y hw;refine hw.el λp F τ3 acc zs accV hm z _ R3 r3 j d f=>?_;clear hw
 cases m with
 | zero=>
  left;have d:(if s.fin F then Am.R.ok [] F else .no)=.ok zs P:=d
  cases hf:s.fin F with
  | false=>rw[hf]at d;cases d
  | true=>
   rw[hf]at d
   cases d
   rw[cL]at f;subst f;refine⟨by rw[show i=s.k by lia];exact jr.stop _ Y p z.e0 R3 hf,?_⟩;obtain⟨RT,gt⟩:=R3.take z.hD z.nD j;exact h1 (p++[D]) Y _ (e1.trans<|z.end hD) RT<|.ref gt
 | succ m=>
  right;refine rZ d λx B S4 b S5 hx U Z hT hF=>?_;have jg:=jr.go i F Y p x z.e0 R3 hx;refine⟨jg.1,λv H4 y=>?_⟩;obtain⟨e4,R4,v4⟩:=jg.2 v H4 y;refine⟨p,F,τ3,x,B,S4,R4,r3.ext e4,v4,U,λW H5 σ5 e5 R5 O=>⟨W,S4,B,b,S5,R5,O,Z,λρ6 H6 M R6=>?_⟩⟩;have q:=(e4.trans e5).trans M
  cases b with
  | false=>
   dsimp only;rw[aT bf];exact⟨m,bQ _,.of () (z.stay hD q) trivial R6 (O.ext M) (j.ext q) (hF rfl) f⟩
  | true=>
   dsimp only;rw[aR rfl];obtain⟨y,S6,ws,he6,cg6,G⟩:=hT rfl;refine⟨ρ6,S5,B,y,S6,R6,O.ext M,he6,λρ7 H7 w T R7 v7=>?_⟩;have N:=z.stay hD<|q.trans T;obtain⟨C,R8⟩:=R7.out (ws:=accV++[w]) N.hD N.nD;have l1:=j.length;refine⟨accV,N.hD,?_,m,bQ _,.of () (N.put C) trivial R8 ((O.ext<|M.trans T).gB C) (AVs.gB C<|(j.ext<|q.trans T).append<|.one v7) cg6 ?_⟩
   ·have:(acc++zs).length<=sizeLine:=by rw[f];exact L
    rw[G,bg,bE]at this
    lia
   ·rw[bx,<- f,G];rfl
def nT(hc:X.calm=true)(Sc:CpScope X scope N cap)(hi:AI X tg iter src)(hg:∀C s₀ H₀ ex,AG (gq X scope N C s₀ H₀ ex) tg g)(ht:∀C s₀ H₀ ex,GG (gq X scope N C s₀ H₀ ex) ifs t)(he:∀C s₀ H₀ ex,AE (gq X scope N C s₀ H₀ ex) elt c)
  (hs:∀x,foldedSetIterable iter X.env x=pure x:=by intro _;rfl):AE X (.ListComp elt [⟨tg,iter,ifs,0⟩] scope pos) (ku cap src g t c):=
 PE.imp (F9 hc Sc hi (g:=Ho X.K g) (tc:=F4 X.K t) (te:=HB X.K c) (λC s₀ H₀ ex=>(hg C s₀ H₀ ex).g0 rfl) (λC s₀ H₀ ex=>ht C s₀ H₀ ex) (λC s₀ H₀ ex=>(he C s₀ H₀ ex).e0 rfl) hs) A4
end
abbrev A.lst? (S:e_):A->Option (ad)
 | .ref n=>fh S n
 | _=>none
abbrev HG (f:A->ad->e_->R A)(co:Ex)(d:lu):Ex:=λτ S=>(co τ S).bind λo S1=>opt (o.lst? S1) λ_=>(d τ S1).bind λg j=>f o g j
abbrev IQ (f:A->ad->e_->R A)(co:Ex):Ex:=λτ S=>(co τ S).bind λo S1=>opt (o.lst? S1) λ_=>f o [] S1
abbrev rM (X:Cx)(f:A->ad->e_->R A):V->List V->Hp->VK->Prop:=λx g H Q=>∃ρ S o d,Rel X.K ρ H S/\AV X.K ρ H o x/\AVs X.K ρ H d g/\(f o d S).post (pC X ρ H Q) (XE X ρ H)
section
variable {X:Cx}{apos cpos:Pos}{o e:aF}{es:List aF}{name:Str}{id:String}{f:A->ad->e_->R A}{co:Ex}{d:lu}
def lst?_ty{K:aA}{H:Hp}{x:A}{v:V}(R:Rel K ρ H S)(h:AV K ρ H x v)(e:x.lst? S=some xs):HV K "list" v H:=by
 cases h with
 | ref h=>
  obtain⟨d,h1,_⟩:=R.lst h<|fH e;exact .inl ⟨rfl,d,i_.of h1⟩
 | _=>cases e
def C6(slot:Slot "list" name id)(hty:typeOf (.builtin id)=pure (.type "method_descriptor"))(hm:F2 X id<|rM X f)(ho:AE X o co)(ha:AL X (e::es) d)
  (hbase:attributeBase o name X.env (eval o X.env)=eval o X.env:=by rfl)
  (hfew:((backTo cpos<|starEach (e::es) X.env).all (λx=>!x.1) && (backToKw cpos<|keywordEach [] X.env).all (λx=>x.1.isSome)
   && decide ((e::es).length+([]:List Keyword).length+(if ([]:List Keyword).isEmpty then 0 else 1)<30))=true:=by rfl)
  (hline:(apos.endLine == cpos.line)=true:=by rfl) (hs:starEach (e::es) X.env=(false,eval e X.env)::starEach es X.env:=by rfl) (hplain:(backTo cpos<|starEach es X.env).any (·.1)=false:=by rfl) :
  AE X (.Call (.Attribute o name apos) (e::es) [] cpos) (HG f co d):=PE.imp (GD PySem.F.plainAttrs_list slot hty hm ho ha hbase hfew hline hs hplain) λσ H Q h9=>by
 z_go;refine⟨ρ,S,τ,R,r,ff (fD h) .refl λx S1 h1 ρ1 H1 v e1 k j=>?_⟩;obtain⟨xs,q,h1⟩:=fB h1;refine⟨lst?_ty k j q,ρ1,S1,τ,k,r.ext e1,ff (fD h1) e1 λC m p g H2 G e2 R2 B=>?_⟩;exact⟨g,m,x,C,R2,j.ext e2,B,ff p (e1.trans e2) λ_ _ z=>z.ext<|e1.trans e2⟩
abbrev qR (o:A)(as:ad)(S:e_):R A:=match o,as with
 | .ref n,[x]=>opt (fh S n) λxs=>gd (xs.length<sizeLine) (.ok .non<|S.set n<|.lst<|xs++[x])
 | _,_=>.no
def An:F2 X "list.append" (rM X qR):=λpins s σ H x q v us Q I rx g h9=>by
 obtain⟨ρ,S,o,k,R,vo,va,h⟩:=h9
 cases vo with
 | @ref p n d=>
  match k,va,h with
  | [],_,h=>exact h.elim
  | _::_::_,_,h=>exact h.elim
  | [y],va,h=>
   obtain⟨w,rfl,hw⟩:=zZ va;kd_p;obtain⟨m,h⟩:=fK h;obtain⟨f,h1,r⟩:=R.lst d<|fH hn;obtain⟨ex,j⟩:=R.put d (fH hn)<|r.append<|.one hw;exact m7 pins s σ H _ _ v us Q I rx g ⟨p,f,w,rfl,rfl,h1,by rw[<- r.length];exact m,h _ _ _ ex j .non⟩
 | _=>exact h.elim
abbrev sU (o:A)(as:ad)(S:e_):R A:=match o,as with
 | .ref n,[.int i]=>opt (fh S n) λxs=>gd (-(2 ^ 63)<=i/\i<2 ^ 63) (opt (seqIndex? i xs.length) λk=>opt (xs[k]?) λx=>.ok x<|S.set n<|.lst<|xs.eraseIdx k)
 | _,_=>.no
def B6:F2 X "list.pop" (rM X sU):=λpins s σ H x B v us Q I rx g h9=>by
 obtain⟨ρ,S,o,z,R,vo,va,h⟩:=h9
 cases vo with
 | @ref p n d=>
  match z,va,h with
  | [],_,h=>exact h.elim
  | y::_::_,_,h=>exact(by cases y<;>exact h.elim)
  | [y],va,h=>
   obtain⟨w,rfl,hw⟩:=zZ va
   cases hw with
   | int i=>
    kd_p;obtain⟨hi,h⟩:=fK h;obtain⟨k,m,h⟩:=fB h;obtain⟨y,hy,h⟩:=fB h;obtain⟨f,h1,r⟩:=R.lst d<|fH hn;obtain⟨w,hw,j⟩:=r.get hy;obtain⟨ex,q⟩:=R.put d (fH hn)<|r.eraseIdx k;exact A8 pins s σ H _ _ v us Q I rx g ⟨p,f,i,k,w,rfl,rfl,h1,hi.1,hi.2,by rw[<- r.length];exact m,hw,h _ _ _ ex q<|j.ext ex⟩
   | _=>exact h.elim
 | _=>exact h.elim
end
abbrev i9 (N:am)(m:Sm)(as:ad)(S:e_):R A:=match m (as++List.replicate (N.length-as.length) .unb) S with
 | .rt a d=>.ok a d
 | .nx _ d=>.ok .non d
 | .ex c d=>.ex c d
 | _=>.no
abbrev nj (K:aA)(n:Nat)(F:ad->e_->R A):Sp:=λg H Q _=>g.length=n/\∃ρ S d a f,Rel K ρ H S/\AVs K ρ H d g/\F d S=.ok a f/\∀ρ' H' v,Ext ρ ρ' H H'->Rel K ρ' H' f->AV K ρ' H' a v->Q v H'
def BW{K:aA}{H:Hp}{as:ad}(r:AVs K ρ H as vs)(N:am):SR K ρ H (as++List.replicate (N.length-as.length) .unb) (L2.start N vs):=by
 have f:=r.length;refine⟨by unfold L2.start;simp[f],λi a h=>?_⟩;by_cases hi:i<as.length
 ·rw[aV hi]at h;obtain⟨v,hv,d⟩:=r.get h;exact .inr ⟨v,by unfold L2.start;rw[aV<|by simp;lia,br,hv];rfl,d⟩
 ·rw[aY (),dh]at h;split at h
  ·exact .inl (aL h).symm
  ·cases h
section
variable {P:aj}{w:af}{K:aA}{mg:Str->aw}{base:au}
def pV{x:Str}{st:aG}{f:ak}{N ps:am}{k:Nat}{m:Sm}(F:Fun K x qual st f fd)(Sc:FnScope N ps<|fG st)
  (body:∀(cdv:aa) (A:aC) (outer:List Env) (s:aE) (H:Hp) (E:XK),Room k (A.deeper<|envOfC qual (fG st) s.heap.objs.size f cdv)->Cw (sQ l8 P w K mg base N qual (fG st) f cdv A outer s H E).Gq (jw st) m) :
  FnOk P w K mg base l8 (k+1) f fd ps (nj K ps.length<|i9 N m):=by
 refine F.ok Sc (λJ H Q E h=>h.1) λcdv B outer s H J Q E C ⟨M,ρ,S,p,a,L,R,va,d,q⟩=>⟨_,body cdv B outer s H E C,ρ,S,_,R,BW va N,?_⟩;unfold i9 at d
 cases g:m (p++List.replicate (N.length-p.length) .unb) S with
 | rt b j=>rw[g]at d;cases d;exact q
 | nx τ j=>rw[g]at d;cases d;exact λρ' H' z e G _=>q ρ' H' _ e G .non
 | bk τ j=>rw[g]at d;cases d
 | ct τ j=>rw[g]at d;cases d
 | ex c j=>rw[g]at d;cases d
 | no=>rw[g]at d;cases d
end
meta abbrev nH (P:aj)(w:af)(K:aA)(mg:Str->aw)(base:au)(k:Nat)(x:Str)(ps:am)(F:ad->e_->R A):Prop:=Kn P w K mg base k x ps<|nj K ps.length F
abbrev eFn (F:ad->e_->R A)(d:lu):Ex:=λτ S=>(d τ S).bind λf S1=>match F f S1 with
 | .ok a g=>.ok a g
 | _=>.no
section
variable {X:Cx}{pos p:Pos}{e:aF}{es:List aF}{x:Str}{ps:am}{k:Nat}{F:ad->e_->R A}{d:lu}
def zY(G:nH X.prog X.w X.K X.mg X.base k x ps F)(hr:Room k X.A)(ha:AL X (e::es) d)(hl:∀τ S as S',d τ S=.ok as S'->as.length=ps.length)(hg:Gl X x:=by rfl)(hdb:(x == ("__debug__" : Str))=false:=by decide)
  (hs:starEach (e::es) X.env=(false,eval e X.env)::starEach es X.env:=by rfl) (hplain:(backTo pos<|starEach es X.env).any (·.1)=false:=by rfl):AE X (.Call (.Name x p) (e::es) [] pos) (eFn F d):=
 PE.imp (Gh G hr ha hg hdb hs hplain) λσ H Q h9=>by
  z_go;refine⟨ρ,S,τ,R,r,?_⟩;have f:=fD h
  cases j:d τ S with
  | no=>rw[j]at f;exact f
  | ex c S1=>rw[j]at f;exact f
  | ok as S1=>
   rw[j]at f;intro ρ1 H1 C e1 B z;rw[cL];refine⟨by rw[<- z.length];exact hl τ S as S1 j,ρ1,S1,as,?_⟩;have f:Am.R.post (match F as S1 with
    | .ok a g=>.ok a g
    | _=>.no) (pC X ρ H Q) (XE X ρ H):=f
   cases m:F as S1 with
   | ok a g=>rw[m]at f;exact⟨a,g,B,z,rfl,λq H2 v e2=>f q H2 v<|e1.trans e2⟩
   | ex c g=>rw[m]at f;exact f.elim
   | no=>rw[m]at f;exact f.elim
def qk:∀τ S as S',fE τ S=.ok as S'->as.length=0:=λτ S as S' h=>by cases h;rfl
def jU{c:Ex}{d:lu}{n:Nat}(h:∀τ S as S',d τ S=.ok as S'->as.length=n):∀τ S as S',eX c d τ S=.ok as S'->as.length=n+1:=λτ S as S' e=>by
 unfold eX at e
 cases hc:c τ S with
 | ok a S1=>
  rw[hc]at e
  cases g:d τ S1 with
  | ok bs f=>
   have e:R.bind (d τ S1) (λas f=>.ok (a::as) f)=.ok as S':=e;rw[g]at e;cases e;rw[bE,h τ S1 bs _ g]
  | ex _ _=>
   have e:R.bind (d τ S1) (λas f=>.ok (a::as) f)=.ok as S':=e;rw[g]at e;cases e
  | no=>
   have e:R.bind (d τ S1) (λas f=>.ok (a::as) f)=.ok as S':=e;rw[g]at e;cases e
 | ex _ _=>rw[hc]at e;cases e
 | no=>rw[hc]at e;cases e
end
section
variable {X:Cx}{a b c d:aF}
abbrev A.flat:A->Bool
 | .non=>true
 | .bl _=>true
 | .int _=>true
 | .str _=>true
 | _=>false
abbrev F7:A->A->Bool
 | .non,.non=>true
 | .bl a,.bl b=>a == b
 | .bl a,.int b=>(if a then 1 else 0) == b
 | .int a,.bl b=>a == (if b then 1 else 0)
 | .int a,.int b=>a == b
 | .str a,.str b=>a == b
 | _,_=>false
def u7{K:aA}{H:Hp}{x:A}{v:V}(h:AV K ρ H x v)(f:x.flat=true):kB v=true:=by cases h<;>first|rfl|cases f
def tM{K:aA}{H:Hp}{x y:A}{v:V}(h:AV K ρ H x v)(h':AV K ρ H y u)(f:x.flat=true)(f':y.flat=true):tY v u=F7 x y:=by
 cases h<;>cases h'<;>first|rfl|(cases f;done)|(cases f';done)
theorem yh{K:aA}{H:Hp}{x:A}{v:V}(h:AV K ρ H x v)(f:x.flat=true):∀{ys:ad}{us:List V},AVs K ρ H ys us->ys.all A.flat=true->JW v us=(ys.any λz=>F7 z x)/\us.all kB=true
 | _,_,.nil,_=>⟨rfl,rfl⟩
 | y::ys,u::us,.cons hy t,fs=>by
  rw[eN,cF]at fs;obtain⟨h1,d⟩:=yh h f t fs.2;refine⟨?_,by rw[eN,u7 hy fs.1,d];rfl⟩;show(tY u v || JW v us)=_;rw[h1,tM hy h fs.1 f];rfl
abbrev F0 (S:e_)(x:A):ad->bi
 | []=>some false
 | z::zs=>(tU S 12 z x).bind λp=>(F0 S x zs).map λq=>p || q
abbrev Ih (neg:Bool)(x y:A)(S:e_):R A:=opt (y.seq S) λys=>opt (F0 S x ys) λb=>.ok (.bl<|if neg then !b else b) S
def vC{H:Hp}{x:A}{v:aa}(I:Inv X pins σ H s)(R:Rel X.K ρ H S)(hu:X.A.units+64<cLine)(hx:AV X.K ρ H x vx)(rx:RelV vx v) :
  ∀{ys:ad} {us:List V} {its:ap} {b:Bool},AVs X.K ρ H ys us->Vals us its->F0 S x ys=some b->∃e:aa->Bool,(∀w∈its,SeqAt.EqAt X.A.in1 s w v<|e w)/\its.any e=b:=by
 intro ys
 induction ys with
 | nil=>
  intro us its b h1 m h
  cases h1
  cases m
  exact⟨λ_=>false,(λw hw=>by cases hw),aL h⟩
 | cons z zs B=>
  intro us its b h1 m h
  cases h1 with
  | cons M C=>
   rename_i u us
   cases m with
   | cons r G=>
    rename_i f its
    classical
    obtain⟨p,L,h⟩:=bO.mp h;obtain⟨q,J,h⟩:=bD.mp h;obtain⟨e,g,j⟩:=B C G J;have h0:=(uY I R 12 X.A.in1 z x u vx f v p (by rw[in1_units];omega) M hx r rx L).2.1;subst h
    cases p with
    | true=>
     refine⟨λw=>if w=f then true else e w,λw hw=>?_,?_⟩
     ·by_cases d:w=f
      ·dsimp[d,bC];exact h0
      ·dsimp[d,bu]
       rcases bJ.mp hw with z|z
       ·exact absurd z d
       ·exact g w z
     ·simp
    | false=>
     by_cases k:f∈its
     ·refine⟨e,λw hw=>?_,?_⟩
      ·rcases bJ.mp hw with z|z
       ·rw[z];exact g f k
       ·exact g w z
      ·rw[eO,j,Bool.false_or]
       cases q with
       | true=>simp
       | false=>
        have:=List.any_eq_false.mp j f k;simpa using this
     ·refine⟨λw=>if w=f then false else e w,λw hw=>?_,?_⟩
      ·by_cases d:w=f
       ·dsimp[d,bC];exact h0
       ·dsimp[d,bu]
        rcases bJ.mp hw with z|z
        ·exact absurd z d
        ·exact g w z
      ·rw[eO,<- j];dsimp[bC,Bool.false_or];have:∀l:ap,(∀w∈l,w≠f)->l.any (λw=>if w=f then false else e w)=l.any e:=λl F=>by
        induction l with
        | nil=>rfl
        | cons c l B=>rw[eO,eO,B λw hw=>F w<|aU _ hw,aT<|F c<|a_ ..]
       exact this its λw hw z=>k<|z ▸ hw
def IF(hu:X.A.units+64<cLine):jt X (compareOp .In) (r2 X<|Ih false):=λpins s σ H x y v u Q I rx ry h9=>by
 room;obtain⟨ys,hy,h⟩:=fB h;obtain⟨k,q,h⟩:=fB h;obtain⟨p,us,rfl,hs,r⟩:=Bp R vb hy
 cases ry
 rcases hs with hs|hs
 ·obtain⟨d,g,m,z⟩:=I.list hs;obtain⟨e,j,f⟩:=vC I R hu va rx r g q;refine SeqAt.in_listAt e m.isList (λw hw=>j w<|by simpa using hw) ⟨.bl _,H,I,rfl,?_⟩;rw[show d.toArray.any e=d.any e by simp,f];exact h _ _ _ .refl R (.bl _)
 ·obtain⟨d,g,m,z⟩:=I.tuple hs;obtain⟨e,j,f⟩:=vC I R hu va rx r g q;refine SeqAt.in_tupleAt e m (λw hw=>j w<|by simpa using hw) ⟨.bl _,H,I,rfl,?_⟩;rw[show d.toArray.any e=d.any e by simp,f];exact h _ _ _ .refl R<|.bl _
abbrev BD (o:A)(as:ad)(S:e_):R A:=match as with
 | [x]=>opt (o.seq S) λys=>gd (x.flat=true/\ys.all A.flat=true) (opt (ys.findIdx? λz=>F7 z x) λk=>.ok (.int (k:Nat)) S)
 | _=>.no
abbrev qJ (co:Ex)(d:lu):Ex:=λτ S=>(co τ S).bind λo S1=>opt (o.seq S1) λ_=>(d τ S1).bind λf g=>BD o f g
abbrev A.isTup:A->Bool
 | .tup _=>true
 | _=>false
def qZ{K:aA}{H:Hp}{x:A}{v:V}(R:Rel K ρ H S)(h:AV K ρ H x v)(e:x.seq S=some xs):∃p vs,v=.ref p/\(if x.isTup=true then iT K H p vs else i_ K H p vs)/\AVs K ρ H xs vs:=by
 cases h with
 | tup h r=>cases aL e;exact⟨_,_,rfl,(iT.of h),r⟩
 | frz h r=>cases aL e;exact⟨_,_,rfl,h.zF,r⟩
 | ref h=>
  obtain⟨vs,h1,r1⟩:=R.lst h<|fH e;exact⟨_,vs,rfl,i_.of h1,r1⟩
 | _=>cases e
def ES{K:aA}{H:Hp}{x:A}{v:V}{ys:ad}{us:List V}{k:Nat}(h:AV K ρ H x v)(f:x.flat=true)(r:AVs K ρ H ys us)(fs:ys.all A.flat=true)(e:(ys.findIdx? λz=>F7 z x)=some k) :
  us.all kB=true/\∃z,us[k]?=some z/\tY z v=true/\∀(m:Nat) (z':V),m<k->us[m]?=some z'->tY z' v=false:=by
 rw[b_]at e;obtain⟨B,h1,J⟩:=e;have C:∀m (j:m<ys.length),ys[m].flat=true:=λm j=>dQ.mp fs _<|dR j;refine⟨(yh h f r fs).2,?_⟩;obtain⟨z,G,F⟩:=r.get<|aH B;refine⟨z,G,by rw[tM F h (C k B) f];exact h1,λm z' j q=>?_⟩;have g:m<ys.length:=()
 obtain⟨L,d,p⟩:=r.get<|aH g;rw[q]at d;cases d;rw[tM p h (C m g) f];have:=J m j;simpa using this
def zu{apos cpos:Pos}{co:Ex}{d:lu}(ho:AE X o co)(ha:AL X (e::es) d)
  (hbase:attributeBase o "index" X.env (eval o X.env)=eval o X.env:=by rfl)
  (hfew:((backTo cpos<|starEach (e::es) X.env).all (λx=>!x.1) && (backToKw cpos<|keywordEach [] X.env).all (λx=>x.1.isSome)
   && decide ((e::es).length+([]:List Keyword).length+(if ([]:List Keyword).isEmpty then 0 else 1)<30))=true:=by rfl)
  (hline:(apos.endLine == cpos.line)=true:=by rfl) (hs:starEach (e::es) X.env=(false,eval e X.env)::starEach es X.env:=by rfl) (hplain:(backTo cpos<|starEach es X.env).any (·.1)=false:=by rfl) :
  AE X (.Call (.Attribute o "index" apos) (e::es) [] cpos) (qJ co d):=PE.imp (EH ho ha hbase hfew hline hs hplain) λσ H Q h9=>by
 z_go;refine⟨ρ,S,τ,R,r,ff (fD h) .refl λx S1 h1 ρ1 H1 v e1 B q=>?_⟩;obtain⟨xs,C,h1⟩:=fB h1;obtain⟨p,T,hv,G,_⟩:=qZ B q C;refine⟨x.isTup,p,T,hv,G,ρ1,S1,τ,B,r.ext e1,ff (fD h1) e1 λP V f F H2 U e2 R2 g=>?_⟩;unfold BD at f
 match P,g,f with
 | [],_,f=>exact f.elim
 | _::_::_,_,f=>exact f.elim
 | [y],g,f=>
  obtain⟨w,rfl,hw⟩:=zZ g;obtain⟨ys,hy,f⟩:=fB f;obtain⟨⟨f1,f2⟩,f⟩:=fK f;obtain⟨k,J,f⟩:=fB f;obtain⟨O,us,m,j,N⟩:=qZ R2 (q.ext e2) hy;obtain⟨M,z,g2,K,L⟩:=ES hw f1 N f2 J;exact⟨O,w,us,k,z,m,rfl,j,u7 hw f1,M,g2,K,L,f _ _ _ (e1.trans e2) R2<|.int _⟩
end
abbrev jK (s:Src)(g:Tg)(t:Te)(e:Ex):Nat->Nat->ad->e_->R (ad×ad)
 | 0,_=>λτ S=>if s.fin S then .ok ([],τ) S else .no
 | k+1,i=>λτ S=>opt (s.get i S) λx=>(g x τ S).g_ λd S1=>(t d S1).g_ λb f=>match b with
  | true=>(e d f).g_ λy j=>(jK s g t e k (i+1) d j).g_ λp m=>.ok (y::p.1,p.2) m
  | false=>jK s g t e k (i+1) d f
abbrev i8 (s:Src)(g:Tg)(t:Te)(src2:Ic)(g2:Tg)(t2:Te)(e:Ex):Nat->Nat->ad->e_->R (ad)
 | 0,_=>λ_ S=>if s.fin S then .ok [] S else .no
 | k+1,i=>λτ S=>opt (s.get i S) λx=>(g x τ S).g_ λd S1=>(t d S1).g_ λb f=>match b with
  | true=>(src2 d f).g_ λj m=>(jK j g2 t2 e j.k 0 d m).g_ λp q=>(i8 s g t src2 g2 t2 e k (i+1) p.2 q).g_ λys z=>.ok (p.1++ys) z
  | false=>i8 s g t src2 g2 t2 e k (i+1) d f
abbrev tw (cap:List<|bj)(src:Ic)(g:Tg)(t:Te)(src2:Ic)(g2:Tg)(t2:Te)(e:Ex):Ex:=λτ S=>(src τ S).bind λs S1=>(i8 s g t src2 g2 t2 e s.k 0 (j_ cap τ) S1).g_ λys d=>newL ys d
def rK{s:Src}{g:Tg}{t:Te}{e:Ex}{k:Nat}{T:Prop}(h:jK s g t e (k+1) i τ S=.ok (zs,τ') S')
  (q:∀x τ1 S1 b S2,s.get i S=some x->g x τ S=.ok τ1 S1->t τ1 S1=.ok b S2->(b=true->∃y S3 ws,e τ1 S2=.ok y S3/\jK s g t e k (i+1) τ1 S3=.ok (ws,τ') S'/\zs=y::ws)->(b=false->jK s g t e k (i+1) τ1 S2=.ok (zs,τ') S')->T):T:=by
 obtain⟨x,f,h⟩:=tW h;obtain⟨τ1,S1,h1,h⟩:=gp h;obtain⟨b,S2,j,h⟩:=gp h;refine q x τ1 S1 b S2 f h1 j (λd=>?_) λd=>?_
 ·subst d;obtain⟨y,S3,z,h⟩:=gp h;obtain⟨⟨ws,p⟩,B,m,h⟩:=gp h
  cases h
  exact⟨y,S3,ws,z,m,rfl⟩
 ·subst d;exact h
def qT{s:Src}{g:Tg}{t:Te}{src2:Ic}{g2:Tg}{t2:Te}{e:Ex}{k:Nat}{T:Prop}(h:i8 s g t src2 g2 t2 e (k+1) i τ S=.ok zs S')
  (q:∀x τ1 S1 b S2,s.get i S=some x->g x τ S=.ok τ1 S1->t τ1 S1=.ok b S2->(b=true->∃s2 S3 ps τ2 S4 ws,src2 τ1 S2=.ok s2 S3/\jK s2 g2 t2 e s2.k 0 τ1 S3=.ok (ps,τ2) S4/\i8 s g t src2 g2 t2 e k (i+1) τ2 S4=.ok ws S'/\zs=ps++ws)->(b=false->i8 s g t src2 g2 t2 e k (i+1) τ1 S2=.ok zs S')->T):T:=by
 obtain⟨x,z,h⟩:=tW h;obtain⟨τ1,S1,h1,h⟩:=gp h;obtain⟨b,S2,p,h⟩:=gp h;refine q x τ1 S1 b S2 z h1 p (λd=>?_) λd=>?_
 ·subst d;obtain⟨s2,S3,m,h⟩:=gp h;obtain⟨⟨ps,τ2⟩,S4,f,h⟩:=gp h;obtain⟨ws,B,j,h⟩:=gp h
  cases h
  exact⟨s2,S3,ps,τ2,S4,ws,m,f,j,rfl⟩
 ·subst d;exact h
abbrev JQ (K:aA)(c:Ic):TI:=λσ H Q=>∃ρ S τ s d,Rel K ρ H S/\SR K ρ H τ σ/\c τ S=.ok s d/\∀ρ' H' J,Ext ρ ρ' H H'->Rel K ρ' H' d->JR K s J ρ' H'->Q J H'
section
variable {X:Cx}{pos:Pos}{tg iter tg2 iter2 elt e:aF}{ifs ifs2:List aF}{scope:Scope}{N:am}{cap:List (bj)}{src src2:Ic}{g g2:Tg}{t t2:Te}{c:Ex}
def AI.i0{K:aA}(hK:X.K=K)(h:AI X tg e src):PI X tg e (JQ K src):=λpins s σ H Q I ⟨ρ,S,τ,a,g,R,r,hc,q⟩=>h pins s σ H Q I ⟨ρ,S,τ,by rw[hK];exact R,by rw[hK];exact r,by rw[hc];exact λρ' H' J e d f=>q ρ' H' J e (by rw[<- hK];exact d)<|by rw[<- hK];exact f⟩
def zp(hc:X.calm=true)(Sc:CpScope X scope N cap)(hi:AI X tg iter src)(hg:∀C s₀ H₀ ex,AG (gq X scope N C s₀ H₀ ex) tg g)(ht:∀C s₀ H₀ ex,GG (gq X scope N C s₀ H₀ ex) ifs t)(hi2:∀C s₀ H₀ ex,AI (gq X scope N C s₀ H₀ ex) tg2 iter2 src2)
  (hg2:∀C s₀ H₀ ex,AG (gq X scope N C s₀ H₀ ex) tg2 g2) (ht2:∀C s₀ H₀ ex,GG (gq X scope N C s₀ H₀ ex) ifs2 t2) (he:∀C s₀ H₀ ex,AE (gq X scope N C s₀ H₀ ex) elt c)
  (hs:∀x,foldedSetIterable iter X.env x=pure x:=by intro _;rfl) (hs2:∀env x,foldedSetIterable iter2 env x=pure x:=by intro _ _;rfl):AE X (.ListComp elt [⟨tg,iter,ifs,0⟩,⟨tg2,iter2,ifs2,0⟩] scope pos) (tw cap src g t src2 g2 t2 c):=by
 refine PE.imp (Ft hc Sc hi (g:=Ho X.K g) (tc:=F4 X.K t) (wi2:=JQ X.K src2) (g2:=Ho X.K g2) (tc2:=F4 X.K t2) (te:=HB X.K c) (λC s₀ H₀ ex=>(hg C s₀ H₀ ex).g0 rfl) (λC s₀ H₀ ex=>ht C s₀ H₀ ex) (λC s₀ H₀ ex=>(hi2 C s₀ H₀ ex).i0 rfl) (λC s₀ H₀ ex=>(hg2 C s₀ H₀ ex).g0 rfl) (λC s₀ H₀ ex=>ht2 C s₀ H₀ ex) (λC s₀ H₀ ex=>(he C s₀ H₀ ex).e0 rfl) hs hs2) λσ H Q h9=>?_;z_go;refine⟨ρ,S,τ,R,r,ff (fD h) .refl λs S1 h1 ρ1 H1 J e1 R1 jr D hD=>?_⟩;obtain⟨ys,S2,hcg,h1⟩:=pA h1;obtain⟨hlen,h1⟩:=fK h1;have h1:pC X ρ H Q (.ref S2.length) (S2++[.lst ys]):=h1;obtain⟨eD,RD⟩:=R1.im (u:=.lst []) hD;refine⟨Cq X.K ρ1 H1 D ys s.k (λ_ _=>True) λm i τ S zs=>i8 s g t src2 g2 t2 c m i τ S=.ok zs S2,⟨s.k,.of rfl ⟨eD.toExt0,λa u na hu _=>by rw[fJ na];exact hu,λa ha=>.inl ha,R1.uL hD,h_⟩ trivial RD (CP ((r.ext e1).ext eD) cap) .nil hcg rfl⟩,?_⟩;intro i m σ3 H3 hw;refine hw.el λU S3 τ3 acc zs accV hm Y _ R3 r3 Z j z=>?_;clear hw
 cases m with
 | zero=>
  left;have j:(if s.fin S3 then Am.R.ok [] S3 else .no)=.ok zs S2:=j
  cases hf:s.fin S3 with
  | false=>rw[hf]at j;cases j
  | true=>
   rw[hf]at j
   cases j
   rw[cL]at z;subst z;refine⟨by rw[show i=s.k by lia];exact jr.stop _ H3 U Y.e0 R3 hf,?_⟩;obtain⟨RT,gt⟩:=R3.take Y.hD Y.nD Z;exact h1 (U++[D]) H3 _ (e1.trans<|Y.end hD) RT<|.ref gt
 | succ m=>
  right;refine qT j λx τ4 S4 b S5 hx hg4 ht5 hT hF=>?_;have jg:=jr.go i S3 H3 U x Y.e0 R3 hx;refine⟨jg.1,λv H4 y=>?_⟩;obtain⟨e4,R4,v4⟩:=jg.2 v H4 y;refine⟨U,S3,τ3,x,τ4,S4,R4,r3.ext e4,v4,hg4,λρ5 H5 σ5 e5 R5 r5=>⟨ρ5,S4,τ4,b,S5,R5,r5,ht5,λρ6 H6 e6 R6=>?_⟩⟩;have e36:=(e4.trans e5).trans e6
  cases b with
  | false=>
   dsimp only;rw[aT bf];exact⟨m,bQ _,.of () (Y.stay hD e36) trivial R6 (r5.ext e6) (Z.ext e36) (hF rfl) z⟩
  | true=>
   dsimp only;rw[aR rfl];obtain⟨s2,S6,ps,τ7,S7,ws,hs6,ci7,co7,ezs⟩:=hT rfl;refine⟨ρ6,S5,τ4,s2,S6,R6,r5.ext e6,hs6,λρ8 H8 J2 e8 R8 jr2=>?_⟩;have e38:=e36.trans e8;refine⟨Cq X.K ρ1 H1 D (acc++ps) s2.k (λρ' H'=>Ext0 ρ8 ρ' H8 H') λm i τ S qs=>jK s2 g2 t2 c m i τ S=.ok (qs,τ7) S7,⟨s2.k,.of rfl (Y.stay hD e38) ⟨cW _,λ_ _ _ h=>h⟩ R8 (r5.ext<|e6.trans e8) (Z.ext e38) ci7 rfl⟩,?_⟩;intro i2 m2 σ9 H9 hw;refine hw.el λρ9 S9 τ9 acc9 qs B hm2 o9 V R9 r9 T f L=>?_;clear hw
   cases m2 with
   | zero=>
    left;have f:(if s2.fin S9 then Am.R.ok ([],τ9) S9 else .no)=.ok (qs,τ7) S7:=f
    cases hf:s2.fin S9 with
    | false=>rw[hf]at f;cases f
    | true=>
     rw[hf]at f
     cases f
     rw[cL]at L;subst L;exact⟨by rw[show i2=s2.k by lia];exact jr2.stop _ H9 ρ9 V R9 hf,m,bQ _,.of () o9 trivial R9 r9 T co7<|by rw[bx,<- ezs,z]⟩
   | succ m2=>
    right;refine rK f λx9 q S10 b10 S11 hx9 hg10 ht11 hT9 hF9=>?_;have jg2:=jr2.go i2 S9 H9 ρ9 x9 V R9 hx9;refine⟨jg2.1,λv10 H10 y10=>?_⟩;obtain⟨e10,R10,v10'⟩:=jg2.2 v10 H10 y10;refine⟨ρ9,S9,τ9,x9,q,S10,R10,r9.ext e10,v10',hg10,λρ11 H11 σ11 e11 R11 P=>⟨ρ11,S10,q,b10,S11,R11,P,ht11,λW H12 O R12=>?_⟩⟩;have d:=(e10.trans e11).trans O;have o12:=o9.stay hD d;have F:Ext0 ρ8 W H8 H12:=⟨V.pre.trans d.pre,λa u i h=>d.im a u i<|V.im a u i h⟩
    cases b10 with
    | false=>
     dsimp only;rw[aT bf];exact⟨m2,bQ _,.of () o12 F R12 (P.ext O) (T.ext d) (hF9 rfl) L⟩
    | true=>
     dsimp only;rw[aR rfl];obtain⟨y,S13,us,he13,ci13,eus⟩:=hT9 rfl;refine⟨W,S11,q,y,S13,R12,P.ext O,he13,λρ14 H14 w G R14 v14=>?_⟩;have M:=o12.stay hD G;obtain⟨p,R15⟩:=R14.out (ws:=B++[w]) M.hD M.nD;have l1:=T.length;refine⟨B,M.hD,?_,m2,bQ _,.of () (M.put p) ⟨F.pre.trans G.pre,λa u i h=>p.im a u i<|G.im a u i<|F.im a u i h⟩ R15 ((P.ext<|O.trans G).gB p) (AVs.gB p<|(T.ext<|d.trans G).append<|.one v14) ci13 ?_⟩
     ·have:((acc++ps)++ws).length<=sizeLine:=by rw[bx,<- ezs,z];exact hlen
      rw[<- L,eus,bg,bg,bE]at this
      lia
     ·rw[bx,<- L,eus];rfl
end
abbrev JP:ap:=[.type "ValueError",.type "Exception",.type "BaseException",.type "object"]
structure ExcK (K:aA)(U:ak)(c:Str)(C:ak):Prop where
 n:HZ K c C
 q:PySem.W.excIn K C JP "ValueError.__new__" = true
 r:L2.mroIn K C=some (.ref U::JP)
 x:XCls K C
 cl:(PySem.W.clsIn K C).isSome=true
 v:PySem.W.kitOne K (.ref C) (.type "ValueError")=some true
abbrev Jz:Sm:=λ_ _=>.no
def G9{st:aG}:AS X st Jz:=PS.imp zx λD σ H ⟨ρ,S,τ,R,r,h⟩=>h.elim
def xq{K:aA}{H:Hp}{a:ak}{ns:ae}{F:ad->e_->R A}(hO:Cb H)(hS:i_ K H a<|ns.map V.int)(h:∃S',F [.frz<|ns.map .int] []=.ok (.bl true) S'):nj K 1 F [.ref a] H (λv _=>v=.bl true) λ_ _ _=>False:=by
 obtain⟨S',h⟩:=h;have fz:Fz K H a (ns.map V.int):=by
  rcases hS with(h|⟨o,h⟩)|h
  ·rcases hO a with z|⟨d,xs,z⟩
   ·rw[h]at z;cases z
   ·rw[h]at z;cases z
  ·exact .inl ⟨o,h⟩
  ·exact .inr h
 exact⟨rfl,[],[],_,_,S',⟨rfl,List.nodup_nil,λn a o h=>by simp at h⟩,.cons (.frz fz<|k7 ns) .nil,h,λρ' H' v _ _ hv=>C8 hv⟩
def BE{P:ap->Prop}(h:∀a0,P [a0]):∀us:ap,us.length=1->P us
 | [_],_=>h _
def Dw{P:ap->Prop}(h:∀a0 a1,P [a0,a1]):∀us:ap,us.length=2->P us
 | [_,_],_=>h _ _
def Fg{n:Nat}{us:ap}(h:us.length=n+1):∃a t,us=a::t/\t.length=n:=by
 cases us with
 | nil=>simp at h
 | cons a t=>exact⟨a,t,rfl,by simpa using h⟩
def JJ{P:ap->Prop}(h:∀a0 a1 a2,P [a0,a1,a2]):∀us:ap,us.length=3->P us:=λus e=>by
 obtain⟨a0,t0,rfl,e0⟩:=Fg e;obtain⟨a1,d,rfl,e1⟩:=Fg e0;obtain⟨a2,t2,rfl,e2⟩:=Fg e1
 cases dj.mp e2
 exact h _ _ _
end Am
namespace Am
open PySem L2
section
variable {α β:Type}{a b:A}{S S1:e_}{τ:ad}{x:α}
@[simp]def R.nO {f:α->e_->R β}:(R.ok x S).bind f=f x S:=rfl
@[simp]def R.vH {f:α->e_->R β}{c:Str}:(R.ex c S:R α).bind f=.ex c S:=rfl
@[simp]def R.iB {f:α->e_->R β}:(R.ok x S).g_ f=f x S:=rfl
@[simp]def RS.of_ok {f:α->e_->RS}:RS.of (R.ok x S) f=f x S:=rfl
@[simp]def RS.De {f:α->e_->RS}{c:Str}:RS.of (R.ex c S:R α) f=.ex c S:=rfl
@[simp]def gK {f:β->R α}{y:β}:opt (some y) f=f y:=rfl
@[simp]def vM {r:R α}:gd True r=r:=aR trivial
theorem gz{c:Prop}[Decidable c]{r:R α}(h:c):gd c r=r:=aR h
@[simp]def jb {i:Nat}:eY i τ S=bif (τ.getD i .unb).iA then .no else .ok (τ.getD i .unb) S:=by unfold eY;cases(τ.getD i .unb).iA<;>rfl
@[simp]def uo {xs:ad}:A.iA (.tup xs)=false:=rfl
@[simp]def wN {xs:ad}:A.iA (.frz xs)=false:=rfl
@[simp]def vF {i:Int}:A.iA (.int i)=false:=rfl
@[simp]def x_ {i:Bool}:A.iA (.bl i)=false:=rfl
@[simp]def wA {i:Str}:A.iA (.str i)=false:=rfl
@[simp]def wG {i:Nat}:A.iA (.ref i)=false:=rfl
@[simp]def uy:A.iA .non=false:=rfl
@[simp]def vp {i j:Int}:A.iA (.rng i j)=false:=rfl
@[simp]def v9 {c:Str}:A.iA (.exn c)=false:=rfl
@[simp]def Dk:eC a τ S=.ok a S:=rfl
abbrev F_ (f:A->A->e_->R A)(cb:Ex)(τ:ad)(a:A)(S:e_):R A:=(cb τ S).bind<|f a
@[simp]def vO {f:A->A->e_->R A}{cb:Ex}:F_ f cb τ a S=(cb τ S).bind (f a):=rfl
@[simp]def vW {f:A->A->e_->R A}{ca cb:Ex}:fu f ca cb τ S=(ca τ S).bind (F_ f cb τ):=rfl
@[simp]def zV {f:A->e_->R A}{ca:Ex}:J6 f ca τ S=(ca τ S).bind f:=rfl
@[simp]def um {c:Ex}:w4 c τ S=(c τ S).bind λa S1=>opt (a.Hf S1) λb=>.ok b S1:=rfl
abbrev aB (a:A)(S:e_):R Bool:=match a with
 | .bl b=>.ok b S
 | _=>.no
@[simp]def Dr {b:Bool}:aB (.bl b) S=.ok b S:=rfl
@[simp]def yp {c:Ex}:qQ c τ S=(c τ S).bind aB:=rfl
@[simp]def wJ {c:Te}:IG c τ S=(c τ S).bind λb S1=>.ok (!b) S1:=rfl
abbrev Eb (d:Te)(τ:ad)(b:Bool)(S:e_):R Bool:=match b with|true=>d τ S|false=>.ok false S
abbrev Ib (d:Te)(τ:ad)(b:Bool)(S:e_):R Bool:=match b with|true=>.ok true S|false=>d τ S
@[simp]def A2 {d:Te}:Eb d τ true S=d τ S:=rfl
@[simp]def zy {d:Te}:Eb d τ false S=.ok false S:=rfl
@[simp]def C4 {d:Te}:Ib d τ true S=.ok true S:=rfl
@[simp]def Dj {d:Te}:Ib d τ false S=d τ S:=rfl
@[simp]def wg {c d:Te}:IS c d τ S=(c τ S).bind (Eb d τ):=rfl
@[simp]def yg {c d:Te}:Ge c d τ S=(c τ S).bind (Ib d τ):=rfl
@[simp]def wz:nI τ S=.ok true S:=rfl
abbrev yu (d:Ex)(τ:ad)(a:A)(S:e_):R A:=match a with | .bl true=>d τ S | .bl false=>.ok (.bl false) S|_=>.no
abbrev Es (d:Ex)(τ:ad)(a:A)(S:e_):R A:=match a with | .bl true=>.ok (.bl true) S | .bl false=>d τ S|_=>.no
@[simp]def uA {d:Ex}:yu d τ (.bl true) S=d τ S:=rfl
@[simp]def wO {d:Ex}:yu d τ (.bl false) S=.ok (.bl false) S:=rfl
@[simp]def Bk {d:Ex}:Es d τ (.bl true) S=.ok (.bl true) S:=rfl
@[simp]def AY {d:Ex}:Es d τ (.bl false) S=d τ S:=rfl
@[simp]def wB {c d:Ex}:GY c d τ S=(c τ S).bind (yu d τ):=by
 unfold GY
 cases c τ S with
 | ok a S1=>cases a<;>first|rfl|(rename_i b;cases b<;>rfl)
 | _=>rfl
@[simp]def zf {c d:Ex}:JM c d τ S=(c τ S).bind (Es d τ):=by
 unfold JM
 cases c τ S with
 | ok a S1=>cases a<;>first|rfl|(rename_i b;cases b<;>rfl)
 | _=>rfl
abbrev DM (a:A)(S:e_):R A:=match a with | .bl b=>.ok (.bl !b) S|_=>.no
@[simp]def sy {b:Bool}:DM (.bl b) S=.ok (.bl !b) S:=rfl
@[simp]def vh {c:Ex}:Il c τ S=(c τ S).bind DM:=rfl
abbrev Ey (c d:Ex)(τ:ad)(b:Bool)(S:e_):R A:=match b with|true=>c τ S|false=>d τ S
@[simp]def xT {c d:Ex}:Ey c d τ true S=c τ S:=rfl
@[simp]def yC {c d:Ex}:Ey c d τ false S=d τ S:=rfl
@[simp]def yt {t:Te}{c d:Ex}:J9 t c d τ S=(t τ S).bind (Ey c d τ):=rfl
@[simp]def vA:fE τ S=.ok [] S:=rfl
abbrev t_ (a:A)(as:ad)(S:e_):R (ad):=.ok (a::as) S
abbrev Ds (d:lu)(τ:ad)(a:A)(S:e_):R (ad):=(d τ S).bind<|t_ a
@[simp]def pR {as:ad}:t_ a as S=.ok (a::as) S:=rfl
@[simp]def rO {d:lu}:Ds d τ a S=(d τ S).bind (t_ a):=rfl
@[simp]def sf {c:Ex}{d:lu}:eX c d τ S=(c τ S).bind (Ds d τ):=rfl
@[simp]def wc {d:lu}:nJ d τ S=(d τ S).bind λas S1=>gd (as.length<=sizeLine) (.ok (.tup as) S1):=rfl
@[simp]def uU {d:lu}:qO d τ S=(d τ S).bind newL:=rfl
theorem gA{as:ad}(h:as.length<=16777216):newL as S=.ok (.ref S.length) (S++[.lst as]):=gz<|by rw[bW];exact h
@[simp]def sF {f:ad->e_->R A}{d:lu}:fR f d τ S=(d τ S).bind f:=rfl
abbrev HP (r:R A):R A:=match r with
 | .ok a S=>.ok a S
 | _=>.no
@[simp]def yk:HP (.ok a S)=.ok a S:=rfl
abbrev Jv (f:ad->e_->R A)(as:ad)(S:e_):R A:=HP<|f as S
@[simp]def xS {f:ad->e_->R A}{as:ad}:Jv f as S=HP (f as S):=rfl
@[simp]def xZ {f:ad->e_->R A}{d:lu}:eFn f d τ S=(d τ S).bind (Jv f):=rfl
@[simp]def C1 {g:A->e_->R A}:f1 g [a] S=g a S:=rfl
@[simp]def CQ {g:A->A->e_->R A}:f2 g [a,b] S=g a b S:=rfl
abbrev Ff (h:Pt)(τ:ad)(a:A)(l:ba)(S:e_):R A:=(h τ S).bind<|BR a l
abbrev JI (l h:Pt)(τ:ad)(a:A)(S:e_):R A:=(l τ S).bind<|Ff h τ a
@[simp]def uO {h:Pt}{l:ba}:Ff h τ a l S=(h τ S).bind (BR a l):=rfl
@[simp]def zb {l h:Pt}:JI l h τ a S=(l τ S).bind (Ff h τ a):=rfl
@[simp]def zC {c:Ex}{l h:Pt}:HC c l h τ S=(c τ S).bind (JI l h τ):=rfl
@[simp]def rF:uE τ S=.ok none S:=rfl
abbrev Jy (a:A)(S:e_):R (ba):=match a with
 | .int i=>.ok (some i) S
 | _=>.no
@[simp]def u_ {i:Int}:Jy (.int i) S=.ok (some i) S:=rfl
@[simp]def sG {c:Ex}:vJ c τ S=(c τ S).bind Jy:=rfl
abbrev Fx (f:A->ad->e_->R A)(d:lu)(τ:ad)(o:A)(S:e_)(_:ad):R A:=(d τ S).bind<|f o
abbrev Jl (f:A->ad->e_->R A)(d:lu)(τ:ad)(o:A)(S:e_):R A:=opt (o.lst? S)<|Fx f d τ o S
@[simp]def vV {f:A->ad->e_->R A}{d:lu}{xs:ad}:Fx f d τ a S xs=(d τ S).bind (f a):=rfl
@[simp]def Ax {f:A->ad->e_->R A}{d:lu}:Jl f d τ a S=opt (a.lst? S) (Fx f d τ a S):=rfl
@[simp]def zB {f:A->ad->e_->R A}{c:Ex}{d:lu}:HG f c d τ S=(c τ S).bind (Jl f d τ):=rfl
@[simp]def wM {f:A->ad->e_->R A}{c:Ex}:IQ f c τ S=(c τ S).bind λo S1=>opt (o.lst? S1) λ_=>f o [] S1:=rfl
@[simp]def lst?_ref {n:Nat}:A.lst? S (.ref n)=fh S n:=rfl
abbrev RS.seq (r:RS)(d:Sm):RS:=match r with
 | .nx τ S=>d τ S
 | r=>r
@[simp]def RS.yy {d:Sm}:RS.seq (.nx τ S) d=d τ S:=rfl
@[simp]def RS.yI {d:Sm}:RS.seq (.rt a S) d=.rt a S:=rfl
@[simp]def RS.yV {d:Sm}{c:Str}:RS.seq (.ex c S) d=.ex c S:=rfl
@[simp]def RS.xR {d:Sm}:RS.seq (.bk τ S) d=.bk τ S:=rfl
@[simp]def RS.Bj {d:Sm}:RS.seq (.ct τ S) d=.ct τ S:=rfl
@[simp]def wD {c d:Sm}:f6 c d τ S=RS.seq (c τ S) d:=by unfold f6 RS.seq;cases c τ S<;>rfl
@[simp]def uz:mh τ S=.nx τ S:=rfl
@[simp]def p_:Fi τ S=.bk τ S:=rfl
@[simp]def sI:GL τ S=.ct τ S:=rfl
@[simp]def rX {e:Ex}:ve e τ S=RS.of (e τ S) λ_ S1=>.nx τ S1:=rfl
@[simp]def vc {e:Ex}:ie e τ S=RS.of (e τ S) .rt:=rfl
@[simp]def rL:Hl τ S=.rt .non S:=rfl
abbrev Iw (c d:Sm)(τ:ad)(b:Bool)(S:e_):RS:=match b with|true=>c τ S|false=>d τ S
@[simp]def Du {c d:Sm}:Iw c d τ true S=c τ S:=rfl
@[simp]def CN {c d:Sm}:Iw c d τ false S=d τ S:=rfl
@[simp]def xQ {t:Te}{c d:Sm}:sX t c d τ S=RS.of (t τ S) (Iw c d τ):=rfl
abbrev Gz (g:Tg)(τ:ad)(a:A)(S:e_):RS:=RS.of (g a τ S) .nx
@[simp]def wI {g:Tg}:Gz g τ a S=RS.of (g a τ S) .nx:=rfl
@[simp]def wH {e:Ex}{g:Tg}:gS e g τ S=RS.of (e τ S) (Gz g τ):=rfl
@[simp]def Je {i:Nat}:gD i a τ S=.ok (τ.set i a) S:=rfl
abbrev D8 (a o:A)(τ:ad)(i:A)(S:e_):R (ad):=(rA o i a S).bind λ_ d=>.ok τ d
abbrev Jx (ci:Ex)(τ:ad)(a o:A)(S:e_):R (ad):=(ci τ S).bind<|D8 a o τ
@[simp]def wR {o i:A}:D8 a o τ i S=(rA o i a S).bind λ_ S3=>.ok τ S3:=rfl
@[simp]def z7 {ci:Ex}{o:A}:Jx ci τ a o S=(ci τ S).bind (D8 a o τ):=rfl
@[simp]def yT {co ci:Ex}:F5 co ci a τ S=(co τ S).bind (Jx ci τ a):=rfl
@[simp]def zJ {n:Nat}{gs:Bq}{xs:ad}:F8 n gs (.tup xs) τ S=gd (xs.length=n) (gs xs τ S):=rfl
@[simp]def zK:F6 [] τ S=.ok τ S:=rfl
@[simp]def xV {g:Tg}{gs:Bq}{as:ad}:Br g gs (a::as) τ S=(g a τ S).bind (gs as):=rfl
abbrev JA (i j:Nat)(τ:ad)(as:ad)(S:e_):RS:=match as with
 | [a,b]=>.nx ((τ.set i a).set j b) S
 | _=>.no
@[simp]def yH {i j:Nat}:JA i j τ [a,b] S=.nx ((τ.set i a).set j b) S:=rfl
@[simp]def vU {i j:Nat}{c:lu}:ID i j c τ S=RS.of (c τ S) (JA i j τ):=rfl
abbrev xU (i:Nat)(τ:ad)(c:A)(S:e_):RS:=.nx (τ.set i c) S
abbrev Gu (i:Nat)(f:A->A->e_->R A)(τ:ad)(b:A)(S:e_):RS:=.of (f (τ.getD i .unb) b S)<|xU i τ
@[simp]def qY {i:Nat}:xU i τ a S=.nx (τ.set i a) S:=rfl
@[simp]def uJ {i:Nat}{f:A->A->e_->R A}:Gu i f τ a S=.of (f (τ.getD i .unb) a S) (xU i τ):=rfl
@[simp]def uh {i:Nat}{f:A->A->e_->R A}{e:Ex}:yR i f e τ S=bif (τ.getD i .unb).iA then .no else .of (e τ S) (Gu i f τ):=by
 unfold yR;cases(τ.getD i .unb).iA<;>rfl
abbrev Jc (o i:A)(τ:ad)(z:A)(S:e_):RS:=.of (rA o i z S) λ_ d=>.nx τ d
abbrev IE (f:A->A->e_->R A)(o i x:A)(τ:ad)(y:A)(S:e_):RS:=.of (f x y S)<|Jc o i τ
abbrev Io (ce:Ex)(f:A->A->e_->R A)(o i:A)(τ:ad)(x:A)(S:e_):RS:=.of (ce τ S)<|IE f o i x τ
abbrev IZ (ce:Ex)(f:A->A->e_->R A)(o:A)(τ:ad)(i:A)(S:e_):RS:=.of (zU o i S)<|Io ce f o i τ
abbrev JY (ci ce:Ex)(f:A->A->e_->R A)(τ:ad)(o:A)(S:e_):RS:=.of (ci τ S)<|IZ ce f o τ
@[simp]def zo {o i:A}:Jc o i τ a S=.of (rA o i a S) λ_ S6=>.nx τ S6:=rfl
@[simp]def zl {f:A->A->e_->R A}{o i x:A}:IE f o i x τ a S=.of (f x a S) (Jc o i τ):=rfl
@[simp]def zA {ce:Ex}{f:A->A->e_->R A}{o i:A}:Io ce f o i τ a S=.of (ce τ S) (IE f o i a τ):=rfl
@[simp]def zS {ce:Ex}{f:A->A->e_->R A}{o:A}:IZ ce f o τ a S=.of (zU o a S) (Io ce f o a τ):=rfl
@[simp]def z8 {ci ce:Ex}{f:A->A->e_->R A}:JY ci ce f τ a S=.of (ci τ S) (IZ ce f a τ):=rfl
@[simp]def rY {co ci ce:Ex}{f:A->A->e_->R A}:o8 co ci ce f τ S=RS.of (co τ S) (JY ci ce f τ):=rfl
abbrev RS.end (r:RS):R A:=match r with
 | .rt a d=>.ok a d
 | .nx _ d=>.ok .non d
 | .ex c d=>.ex c d
 | _=>.no
@[simp]def RS.yz:RS.end (.rt a S)=.ok a S:=rfl
@[simp]def RS.zj:RS.end (.nx τ S)=.ok .non S:=rfl
@[simp]def RS.yK {c:Str}:RS.end (.ex c S)=.ex c S:=rfl
theorem mL {N:am}{m:Sm}{as:ad}:i9 N m as S=RS.end (m (as++List.replicate (N.length-as.length) .unb) S):=by
 unfold i9 RS.end;cases m (as++List.replicate (N.length-as.length) .unb) S<;>rfl
@[simp]def Bo {i j:Int}:gu (.int i) (.int j) S=.ok (.int<|i+j) S:=rfl
@[simp]def xW {i j:Int}:aSub (.int i) (.int j) S=.ok (.int<|i-j) S:=rfl
@[simp]def AA {i j:Int}:xC (.int i) (.int j) S=.ok (.int<|i+j) S:=rfl
theorem Aw{i j:Int}(h:-18446744073709551616<i)(h':i<18446744073709551616):nL (.int i) (.int j) S=.ok (.int<|i * j) S:=gz<|by unfold rj;simp;left;exact⟨by omega,by omega⟩
def mul_r{i j:Int}(h:-18446744073709551616<j)(h':j<18446744073709551616):nL (.int i) (.int j) S=.ok (.int<|i * j) S:=gz<|by unfold rj;simp;right;exact⟨(),()⟩
def Ak{i j:Int}(h:0<j)(h':j<1073741824):vq (.int i) (.int j) S=.ok (.int<|i / j) S:=gz ⟨h,()⟩
def sM{i j:Int}(h:0<j):qS (.int i) (.int j) S=.ok (.int<|i % j) S:=gz h
@[simp]def Di {i j:Int}:Fb (.int i) (.int j) S=.ok (.bl<|decide<|i<j) S:=rfl
@[simp]def DB {i j:Int}:Ij (.int i) (.int j) S=.ok (.bl<|decide<|i<=j) S:=rfl
@[simp]def C9 {i j:Int}:Eg (.int i) (.int j) S=.ok (.bl<|decide<|j<i) S:=rfl
@[simp]def DN {i j:Int}:J7 (.int i) (.int j) S=.ok (.bl<|decide<|j<=i) S:=rfl
@[simp]def CM {i j:Bool}:sV false (.bl i) (.bl j) S=.ok (.bl<|i == j) S:=rfl
@[simp]def AB {i j:Bool}:sV true (.bl i) (.bl j) S=.ok (.bl<|i != j) S:=rfl
@[simp]def xN {i:Int}:HS (.int i) S=.ok (.int<|-i) S:=rfl
@[simp]def yS {xs:ad}:je (.tup xs) S=.ok (.int xs.length) S:=rfl
@[simp]def Bf {xs:ad}:je (.frz xs) S=.ok (.int xs.length) S:=rfl
@[simp]def Aq {n:Nat}:je (.ref n) S=opt (fh S n) λxs=>.ok (.int xs.length) S:=rfl
@[simp]def Ac {i:Int}:DU (.int i) S=.ok (.int<|if i<0 then -i else i) S:=rfl
@[simp]def u0 {i j:Int}:Ag (.int i) (.int j) S=.ok (.int<|if j>i then j else i) S:=rfl
@[simp]def wQ {i j:Int}:AN (.int i) (.int j) S=.ok (.int<|if j<i then j else i) S:=rfl
@[simp]def wm {i:Int}:DJ (.int i) S=.ok (.int i) S:=rfl
@[simp]def uG {i:Bool}:DJ (.bl i) S=.ok (.int<|if i then 1 else 0) S:=rfl
@[simp]def qb {i j:Int}:mP (.int i) (.int j) S=.ok (.rng i j) S:=rfl
@[simp]def Dm {xs:ad}{i:Int}:mV (.tup xs) (.int i) S=opt (j7 xs i) λx=>.ok x S:=rfl
@[simp]def DE {xs:ad}{i:Int}:mV (.frz xs) (.int i) S=opt (j7 xs i) λx=>.ok x S:=rfl
@[simp]def DC {n:Nat}{i:Int}:mV (.ref n) (.int i) S=opt (fh S n) λxs=>opt (j7 xs i) λx=>.ok x S:=rfl
@[simp]def yj {n:Nat}{k:Int}:rA (.ref n) (.int k) a S=opt (fh S n) λxs=>opt (sC xs.length k) λj=>.ok Unit.unit (S.set n<|.lst<|xs.set j a):=rfl
@[simp]def z_ {n:Nat}{i:Int}:zU (.ref n) (.int i) S=opt (fh S n) λxs=>gd (0<=i) (opt (xs[i.toNat]?) λx=>.ok x S):=rfl
theorem wV{i j:Int}(h:oh i j):oJ (.rng i j) S=.ok (.ref S.length) (S++[.lst<|(fj i j).map .int]):=gz h
def nX{i j:Int}(h:oh i j):j3 (.rng i j) S=.ok (.tup<|(fj i j).map .int) S:=gz h
@[simp]def uv {xs:ad}:oJ (.tup xs) S=.ok (.ref S.length) (S++[.lst xs]):=rfl
@[simp]def vv {xs:ad}:oJ (.frz xs) S=.ok (.ref S.length) (S++[.lst xs]):=rfl
@[simp]def vR {n:Nat}:oJ (.ref n) S=opt (fh S n) λxs=>.ok (.ref S.length) (S++[.lst xs]):=rfl
@[simp]def rJ {xs:ad}:j3 (.tup xs) S=.ok (.tup xs) S:=rfl
@[simp]def sP {n:Nat}:j3 (.ref n) S=opt (fh S n) λxs=>.ok (.tup xs) S:=rfl
@[simp]def A_ {xs:ad}:GV (.tup xs) S=.ok (.tup xs.reverse) S:=rfl
@[simp]def yZ {n:Nat}:GV (.ref n) S=opt (fh S n) λxs=>.ok (.ref S.length) (S++[.lst xs.reverse]):=rfl
@[simp]def Dy {n:Nat}{l u:ba}:BR (.ref n) l u S=opt (fh S n) λxs=>.ok (.ref S.length) (S++[.lst<|nK xs l u]):=rfl
@[simp]def oF {n:Nat}:qR (.ref n) [a] S=opt (fh S n) λxs=>gd (xs.length<sizeLine) (.ok .non<|S.set n<|.lst<|xs++[a]):=rfl
@[simp]def ze {b:Bool}:A.Hf (.bl b) S=some b:=rfl
@[simp]def ux {i:Int}:A.Hf (.int i) S=some (i != 0):=rfl
theorem D4{o:O}:(S++[o])[S.length]?=some o:=by simp
@[simp]def fZ {xs:ad}:fh (S++[.lst xs]) S.length=some xs:=mR D4
theorem jx{o:O}{n:Nat}(h:fh S n=some xs):fh (S++[o]) n=some xs:=by
 have h':=fH h;exact mR<|by rw[aV (aI.mp h').1];exact h'
def nA{n:Nat}(h:fh S n=some xs):n<S.length:=(aI.mp<|fH h).1
def kg{n:Nat}(h:n<S.length):fh (S.set n<|.lst ys) n=some ys:=mR<|bY h
def j5{n:Nat}(h:n≠m):fh (S.set n<|.lst ys) m=fh S m:=by unfold fh;rw[bV h]
def uf{xs:ad}{i:Int}{k:Nat}{x:A}(h:i=k)(hx:xs[k]?=some x):j7 xs i=some x:=by rw[h];exact Cu hx
def nZ{n:Nat}{i:Int}{k:Nat}(h:i=k)(hk:k<n):sC n i=some k:=by
 subst h;unfold sC;rw[aR (),aR ()];simp
end
structure Kp (b:Nat->Prop)(S S':e_):Prop where
 len:S.length<=S'.length
 obj:∀(n:Nat) (o:O),¬b n->S[n]?=some o->S'[n]?=some o
meta abbrev mQ:=Kp λ_=>False
def Kp.lst{b:Nat->Prop}(h:Kp b S S')(n:Nat)(xs:ad)(hb:¬b n)(e:fh S n=some xs):fh S' n=some xs:=mR<|h.obj n _ hb<|fH e
def Kp.refl{b:Nat->Prop}:Kp b S S:=⟨aK _,λ_ _ _ h=>h⟩
def Kp.trans{b:Nat->Prop}(h:Kp b S S1)(h':Kp b S1 S2):Kp b S S2:=⟨bN h.len h'.len,λn xs d e=>h'.obj n xs d<|h.obj n xs d e⟩
def sY{S:e_}{n:Nat}(e:S[n]?=some o):n<S.length:=(aI.mp e).1
def Kp.lay{b:Nat->Prop}{o:O}(h:Kp b S S1):Kp b S (S1++[o]):=⟨bN h.len<|by simp,λn xs d e=>by
 have:=h.obj n xs d e;rw[aV<|sY this];exact this⟩
def Kp.Iu{b:Nat->Prop}{S S1:e_}(h:Kp b S S1)(hm:b m\/S.length<=m):Kp b S (S1.set m o):=⟨by rw[bG];exact h.len,λn xs d e=>by
 have:m≠n:=λz=>by
  subst z
  rcases hm with z|z
  ·exact d z
  ·exact absurd (sY e) ()
 rw[bV this];exact h.obj n xs d e⟩
def Kp.set{b:Nat->Prop}{S S1:e_}(h:Kp b S S1)(hm:b m\/S.length<=m):Kp b S (S1.set m<|.lst ys):=h.Iu hm
def Kp.old{b c:Nat->Prop}{S:e_}(h:Kp b S S1)(h':Kp c S1 S2)(hc:∀n,n<S.length->¬b n->¬c n):Kp b S S2:=⟨bN h.len h'.len,λn xs d e=>h'.obj n xs (hc n (sY e) d)<|h.obj n xs d e⟩
theorem oG{t:Te}{c:Sm}(Inv:ad->e_->Prop)(μ:ad->e_->Nat)(Post:RS->Prop)
  (h:∀τ S,Inv τ S->(∃S1,t τ S=.ok false S1/\Post (.nx τ S1))\/(∃S1,t τ S=.ok true S1/\((∃τ' S',c τ S1=.nx τ' S'/\Inv τ' S'/\μ τ' S'<μ τ S)\/(∃a S',c τ S1=.rt a S'/\Post (.rt a S'))))) :
  ∀n τ S,Inv τ S->μ τ S<n->Post (iw t c n τ S)
 | 0,_,_,_,hn=>absurd hn (Nat.not_lt_zero _)
 | n+1,τ,S,hi,hn=>by
  unfold iw
  rcases h τ S hi with⟨S1,e,q⟩|⟨S1,e,⟨τ',S',e2,d,f⟩|⟨a,S',e2,q⟩⟩
  ·rw[e];exact q
  ·rw[e];show Post (match c τ S1 with
    | .nx τ' S'=>iw t c n τ' S'
    | .ct τ' S'=>iw t c n τ' S'
    | .bk τ' S'=>.nx τ' S'
    | r=>r)
   rw[e2];exact oG Inv μ Post h n τ' S' d ()
  ·rw[e];show Post (match c τ S1 with
    | .nx τ' S'=>iw t c n τ' S'
    | .ct τ' S'=>iw t c n τ' S'
    | .bk τ' S'=>.nx τ' S'
    | r=>r)
   rw[e2];exact q
theorem yJ{s:Src}{g:Tg}{c:Sm}(Inv:Nat->ad->e_->Prop)(Post:RS->Prop)
  (step:∀i τ S,i<s.k->Inv i τ S->∃x τ1 S1,s.get i S=some x/\g x τ S=.ok τ1 S1/\((∃τ' S',c τ1 S1=.nx τ' S'/\Inv (i+1) τ' S')\/(∃a S',c τ1 S1=.rt a S'/\Post (.rt a S'))))
  (fin:∀τ S,Inv s.k τ S->s.fin S=true/\Post (.nx τ S)):∀k i τ S,k+i=s.k->Inv i τ S->Post (jv s g c k i τ S)
 | 0,i,τ,S,hk,hi=>by
  have:i=s.k:=()
  subst this;obtain⟨hf,q⟩:=fin τ S hi;unfold jv;rw[aR hf];exact q
 | k+1,i,τ,S,hk,hi=>by
  obtain⟨x,τ1,S1,f,hg,h⟩:=step i τ S () hi;unfold jv;rw[f];show Post (RS.of (g x τ S) λτ1 S1=>match c τ1 S1 with
   | .nx τ' S'=>jv s g c k (i+1) τ' S'
   | .ct τ' S'=>jv s g c k (i+1) τ' S'
   | .bk τ' S'=>.nx τ' S'
   | r=>r)
  rw[hg];show Post (match c τ1 S1 with
   | .nx τ' S'=>jv s g c k (i+1) τ' S'
   | .ct τ' S'=>jv s g c k (i+1) τ' S'
   | .bk τ' S'=>.nx τ' S'
   | r=>r)
  rcases h with⟨τ',S',e,d⟩|⟨a,S',e,q⟩
  ·rw[e];exact yJ Inv Post step fin k (i+1) τ' S' () d
  ·rw[e];exact q
def iO{lo hi:Int}{c:Sm}{src:Ic}{τ:ad}(hs:src τ S=.ok (gm lo hi) S1)(Inv:Nat->ad->e_->Prop)(Post:RS->Prop)(h0:Inv 0 τ S1)
  (step:∀(i:Nat) τ S,(i:Int)<hi-lo->Inv i τ S->(∃τ' S',c (τ.set j<|.int<|lo+i) S=.nx τ' S'/\Inv (i+1) τ' S')\/(∃a S',c (τ.set j<|.int<|lo+i) S=.rt a S'/\Post (.rt a S')))
  (fin:∀τ S,Inv (hi-lo).toNat τ S->Post (.nx τ S)):Post (kc src (gD j) c τ S):=by
 unfold kc;rw[hs];refine yJ (s:=gm lo hi) Inv Post (λi τ S d h=>?_) (λτ S h=>⟨rfl,fin τ S h⟩) _ 0 τ S1 rfl h0;have d:i<(hi-lo).toNat:=d;exact⟨.int<|lo+i,_,S,aR d,rfl,step i τ S (by omega) h⟩
@[simp]def ig {c:Ex}{τ:ad}{S S1:e_}{j:Int}(h:c τ S=.ok (.int j) S1)(hb:bnd j):i6 c τ S=.ok (gm 0 j) S1:=by
 unfold i6;rw[h];exact gz hb
def jS{c d:Ex}{i j:Int}(h:c τ S=.ok (.int i) S1)(h':d τ S1=.ok (.int j) S2)(hb:bnd i)(hb':bnd j):jj c d τ S=.ok (gm i j) S2:=by
 unfold jj;rw[h];show(d τ S1).bind _=_;rw[h'];exact gz ⟨hb,hb'⟩
def yY{c:Ex}{n:Nat}{xs:ad}(h:c τ S=.ok (.ref n) S1)(hl:fh S1 n=some xs):rR c τ S=.ok (m9 n xs.length) S1:=by
 unfold rR;rw[h];show opt (fh S1 n) _=_;rw[hl];rfl
theorem nV{s:Src}{g:Tg}{t:Te}{e:Ex}{P:e_->Prop}{T:ad->Prop}(it:Nat->A)(p:Nat->Bool)(f:Nat->A)
  (hget:∀i S,i<s.k->P S->s.get i S=some (it i)) (hfin:∀S,P S->s.fin S=true)
  (step:∀i τ S,i<s.k->T τ->P S->∃τ1 S1 S2,g (it i) τ S=.ok τ1 S1/\t τ1 S1=.ok (p i) S2/\T τ1/\(p i=false->P S2)/\(p i=true->∃S3,e τ1 S2=.ok (f i) S3/\P S3)) :
  ∀k i τ S,k+i=s.k->T τ->P S->∃S',jq s g t e k i τ S=.ok (((List.range' i k).filter p).map f) S'/\P S'
 | 0,i,τ,S,hk,hT,hP=>⟨S,by unfold jq;rw[aR<|hfin S hP];rfl,hP⟩
 | k+1,i,τ,S,hk,hT,hP=>by
  obtain⟨τ1,S1,S2,hg,F,d,B,m⟩:=step i τ S (by omega) hT hP;unfold jq;rw[hget i S (by omega) hP,gK,hg,R.iB,F,R.iB,cI,b7]
  cases z:p i with
  | false=>
   obtain⟨S',h1,j⟩:=nV it p f hget hfin step k (i+1) τ1 S2 (by omega) d<|B z;exact⟨S',by simpa using h1,j⟩
  | true=>
   obtain⟨S3,C,q⟩:=m z;obtain⟨S',h1,j⟩:=nV it p f hget hfin step k (i+1) τ1 S3 (by omega) d q;refine⟨S',?_,j⟩
   skip
   rw[C,R.iB,h1];rfl
def pY{s:Src}{src:Ic}{t:Te}{e:Ex}{S1:e_}(hs:src τ S=.ok s S1)(it:Nat->A)(p:Nat->Bool)(f:Nat->A)(hget:∀i,i<s.k->s.get i S1=some (it i))(hfin:s.fin S1=true)
  (ht:∀i,i<s.k->t (it i::j_ cap τ) S1=.ok (p i) S1) (he:∀i,i<s.k->p i=true->e (it i::j_ cap τ) S1=.ok (f i) S1) (hl:s.k<=16777216) :
  ku (none::cap) src (gD 0) t e τ S=.ok (.ref S1.length) (S1++[.lst<|((List.range s.k).filter p).map f]):=by
 unfold ku;rw[hs,R.nO];obtain⟨q,h1,j⟩:=nV (s:=s) (g:=gD 0) (t:=t) (e:=e) (P:=λS=>S=S1) (T:=λd=>∃y,d=y::j_ cap τ) it p f (λi S hi h=>by subst h;exact hget i hi) (λS h=>by subst h;exact hfin)
  (λi d S hi ⟨y,hy⟩ h=>by
   subst h hy;exact⟨it i::j_ cap τ,S,S,rfl,ht i hi,⟨_,rfl⟩,λ_=>rfl,λm=>⟨S,he i hi m,rfl⟩⟩) s.k 0 (j_ (none::cap) τ) S1 rfl ⟨_,rfl⟩ rfl
 subst j;rw[h1,R.iB,cy];refine gA ?_;rw[aP];refine bN (List.length_filter_le _ _) ?_;rw[List.length_range'];exact hl
def mW{α β:Type}(xs:List α)(p:α->Bool)(f:α->β):∀(d:α) ,(((List.range xs.length).filter λi=>p<|xs.getD i d).map λi=>f<|xs.getD i d)=(xs.filter p).map f:=by
 intro d
 induction xs with
 | nil=>rfl
 | cons x xs j=>
  rw[bE,List.range_succ_eq_map,b7,b7];have e:((List.filter (λi=>p<|(x::xs).getD i d)<|List.map Nat.succ<|List.range xs.length).map λi=>f<|(x::xs).getD i d)=(xs.filter p).map f:=by
   rw[List.filter_map,eT];rw[<- j];rfl
  show List.map _ (if p x=true then _ else _)=List.map f (if p x=true then _ else _);by_cases g:p x=true
  ·rw[aR g,aR g,cQ,cQ,e];rfl
  ·rw[aT g,aT g,e]
def rz{lo hi:Int}{src:Ic}{t:Te}{e:Ex}{S1:e_}(hs:src τ S=.ok (gm lo hi) S1)(p:Int->Bool)(f:Int->A)
  (ht:∀k,lo<=k->k<hi->t (.int k::j_ cap τ) S1=.ok (p k) S1) (he:∀k,lo<=k->k<hi->p k=true->e (.int k::j_ cap τ) S1=.ok (f k) S1) (hl:(hi-lo).toNat<=16777216) :
  ku (none::cap) src (gD 0) t e τ S=.ok (.ref S1.length) (S1++[.lst<|((fj lo hi).filter p).map f]):=by
 rw[pY hs (λi=>.int<|lo+i) (λi=>p<|lo+i) (λi=>f<|lo+i) (λi d=>aR d) rfl (λi d=>ht _ () (by have:i<(hi-lo).toNat:=d;lia)) (λi d=>he _ () (by have:i<(hi-lo).toNat:=d;lia)) hl];unfold fj;rw[List.filter_map,eT];rfl
@[simp]def yP {cap:List<|bj}{τ:ad}:j_ (none::cap) τ=.unb::j_ cap τ:=rfl
@[simp]def Az {cap:List<|bj}{τ:ad}{j:Nat}:j_ (some j::cap) τ=τ.getD j .unb::j_ cap τ:=rfl
@[simp]def qW {τ:ad}:j_ [] τ=[]:=rfl
theorem AX{x:A}:j7 (x::xs) 0=some x:=uf (k:=0) rfl rfl
def Bd{x:A}:j7 (x::y::xs) 1=some y:=uf (k:=1) rfl rfl
def gT{ns:ae}{i:Int}{k:Nat}{x:Int}(h:i=k)(hx:ns[k]?=some x):j7 (ns.map A.int) i=some (.int x):=uf h<|by rw[br,hx];rfl
def f_{j:Int}(h:-4611686018427387904<=j)(h':j<4611686018427387904):bnd j:=⟨(),()⟩
def oV{i j:Int}(h1:-1000000<=i)(h2:i<=1000000)(h3:-1000000<=j)(h4:j<=1000000)(h5:j-i<=1000):oh i j:=⟨⟨(),(),(),()⟩,()⟩
theorem ints_map:∀(ns:ae),A.ints (ns.map .int)=some ns
 | []=>rfl
 | n::ns=>by show(A.ints<|ns.map .int).map (n::·)=_;rw[ints_map ns];rfl
def xF(xs:ad)(j:Nat)(h:j<xs.length):nK xs (some<|(j:Int)+1) none=xs.drop (j+1):=by
 unfold nK;rw[show((j:Int)+1)=((j+1:Nat):Int)by lia,HT.nR,HT.rf,c9 ()];exact dH<|by rw[cV];exact aK _
theorem p8{n:Nat}:∀(xs ys:ae),oi (tU S<|n+1) (xs.map .int) (ys.map .int)=some (decide<|xs=ys)
 | [],[]=>rfl
 | [],_::_=>rfl
 | _::_,[]=>rfl
 | x::xs,y::ys=>by
  skip
  skip
  show Option.map _ (oi (tU S<|n+1) (xs.map .int)<|ys.map .int)=_;rw[p8 xs ys]
  skip
  by_cases h1:x=y<;>by_cases d:xs=ys<;>simp[h1,d]
@[simp]def DL {S:e_}{x y:Bool}:uQ false (.bl x) (.bl y) S=.ok (.bl<|x == y) S:=rfl
@[simp]def C_ {S:e_}{x y:Bool}:uQ true (.bl x) (.bl y) S=.ok (.bl<|!(x == y)) S:=rfl
@[simp]def DG {S:e_}{x y:Int}:uQ false (.int x) (.int y) S=.ok (.bl<|x == y) S:=rfl
@[simp]def Dh {S:e_}{x y:Int}:uQ true (.int x) (.int y) S=.ok (.bl<|!(x == y)) S:=rfl
@[simp]def uM {S:e_}:sV false .non .non S=.ok (.bl true) S:=rfl
@[simp]def uR {S:e_}{xs:ad}:sV false (.tup xs) .non S=.ok (.bl false) S:=rfl
@[simp]def uB {S:e_}{n:Nat}:sV false (.ref n) .non S=.ok (.bl false) S:=rfl
@[simp]def sq {S:e_}:sV true .non .non S=.ok (.bl false) S:=rfl
@[simp]def sH {S:e_}{xs:ad}:sV true (.tup xs) .non S=.ok (.bl true) S:=rfl
@[simp]def r6 {S:e_}{n:Nat}:sV true (.ref n) .non S=.ok (.bl true) S:=rfl
@[simp]def uP {S:e_}{x:A}{c:String}:IA x (.ty c) S=opt (x.kd S) λk=>opt (GA k c) λb=>.ok (.bl b) S:=rfl
@[simp]def Dp {S:e_}{b:Bool}:A.kd (.bl b) S=some .bl:=rfl
@[simp]def zT {S:e_}{b:Int}:A.kd (.int b) S=some .int:=rfl
@[simp]def Bb {S:e_}{b:ad}:A.kd (.tup b) S=some .tup:=rfl
@[simp]def yU {S:e_}:A.kd .non S=some .non:=rfl
@[simp]def yQ {S:e_}{b:Str}:A.kd (.str b) S=some .str:=rfl
@[simp]def Ai {S:e_}{n:Nat}:A.kd (.ref n) S=(fh S n).map λ_=>.lst:=rfl
@[simp]def Be {S:e_}:newL [] S=.ok (.ref S.length) (S++[.lst []]):=gA<|by simp
@[simp]def zG {S:e_}{x0:A}:newL [x0] S=.ok (.ref S.length) (S++[.lst [x0]]):=gA<|by simp
@[simp]def zX {S:e_}{x0 x1:A}:newL [x0,x1] S=.ok (.ref S.length) (S++[.lst [x0,x1]]):=gA<|by simp
@[simp]def zz {S:e_}{x0 x1 x2:A}:newL [x0,x1,x2] S=.ok (.ref S.length) (S++[.lst [x0,x1,x2]]):=gA<|by simp
@[simp]def AM {S:e_}{x0 x1 x2 x3:A}:newL [x0,x1,x2,x3] S=.ok (.ref S.length) (S++[.lst [x0,x1,x2,x3]]):=gA<|by simp
@[simp]def z9 {S:e_}{x0 x1 x2 x3 x4:A}:newL [x0,x1,x2,x3,x4] S=.ok (.ref S.length) (S++[.lst [x0,x1,x2,x3,x4]]):=gA<|by simp
@[simp]def zM {S:e_}{x0 x1 x2 x3 x4 x5:A}:newL [x0,x1,x2,x3,x4,x5] S=.ok (.ref S.length) (S++[.lst [x0,x1,x2,x3,x4,x5]]):=gA<|by simp
@[simp]def A5 {S:e_}{x0 x1 x2 x3 x4 x5 x6:A}:newL [x0,x1,x2,x3,x4,x5,x6] S=.ok (.ref S.length) (S++[.lst [x0,x1,x2,x3,x4,x5,x6]]):=gA<|by simp
@[simp]def Bm {S:e_}{x0 x1 x2 x3 x4 x5 x6 x7:A}:newL [x0,x1,x2,x3,x4,x5,x6,x7] S=.ok (.ref S.length) (S++[.lst [x0,x1,x2,x3,x4,x5,x6,x7]]):=gA<|by simp
@[simp]def AF {S:e_}{x0 x1 x2 x3 x4 x5 x6 x7 x8:A}:newL [x0,x1,x2,x3,x4,x5,x6,x7,x8] S=.ok (.ref S.length) (S++[.lst [x0,x1,x2,x3,x4,x5,x6,x7,x8]]):=gA<|by simp
@[simp]def uT {S:e_}{x0 x1 x2 x3 x4 x5 x6 x7 x8 x9:A}:newL [x0,x1,x2,x3,x4,x5,x6,x7,x8,x9] S=.ok (.ref S.length) (S++[.lst [x0,x1,x2,x3,x4,x5,x6,x7,x8,x9]]):=gA<|by simp
theorem ni{α:Type}{n:Nat}{r:R α}(h:n<=16777216):gd (n<=sizeLine) r=r:=gz<|by rw[bW];exact h
def GP{α:Type}{n:Nat}{r:R α}(h:n<16777216):gd (n<sizeLine) r=r:=gz<|by rw[bW];exact h
def CO {x:A}{xs:ad}:(x::xs).getD 0 .unb=x:=rfl
def DH {x:A}{xs:ad}{n:Nat}:(x::xs).getD (n+1) .unb=xs.getD n .unb:=rfl
def Gi {x y:A}{xs:ad}:(x::xs).set 0 y=y::xs:=rfl
def sets {x y:A}{xs:ad}{n:Nat}:(x::xs).set (n+1) y=x::xs.set n y:=rfl
def rep0 {x:A}:List.replicate 0 x=[]:=rfl
def reps {x:A}{n:Nat}:List.replicate (n+1) x=x::List.replicate n x:=rfl
def Gd {x:A}{xs ys:ad}:(x::xs)++ys=x::(xs++ys):=rfl
def Gj {ys:ad}:[]++ys=ys:=rfl
abbrev uV (x:A)(S:e_):R A:=bif x.iA then .no else .ok x S
def yX {xs:ad}{S:e_}:uV (.tup xs) S=.ok (.tup xs) S:=rfl
def xP {xs:ad}{S:e_}:uV (.frz xs) S=.ok (.frz xs) S:=rfl
def AD {i:Int}{S:e_}:uV (.int i) S=.ok (.int i) S:=rfl
def C3 {b:Bool}{S:e_}:uV (.bl b) S=.ok (.bl b) S:=rfl
def zk {s:Str}{S:e_}:uV (.str s) S=.ok (.str s) S:=rfl
def yE {n:Nat}{S:e_}:uV (.ref n) S=.ok (.ref n) S:=rfl
def za  {S:e_}:uV (.non) S=.ok (.non) S:=rfl
def yL {i j:Int}{S:e_}:uV (.rng i j) S=.ok (.rng i j) S:=rfl
def zg {s:Str}{S:e_}:uV (.exn s) S=.ok (.exn s) S:=rfl
def Jq {x0:A}{xs:ad}{S:e_}:eY 0 (x0::xs) S=uV x0 S:=jb
def JH {x0 x1:A}{xs:ad}{S:e_}:eY 1 (x0::x1::xs) S=uV x1 S:=jb
def JX {x0 x1 x2:A}{xs:ad}{S:e_}:eY 2 (x0::x1::x2::xs) S=uV x2 S:=jb
def JU {x0 x1 x2 x3:A}{xs:ad}{S:e_}:eY 3 (x0::x1::x2::x3::xs) S=uV x3 S:=jb
def JL {x0 x1 x2 x3 x4:A}{xs:ad}{S:e_}:eY 4 (x0::x1::x2::x3::x4::xs) S=uV x4 S:=jb
def JF {x0 x1 x2 x3 x4 x5:A}{xs:ad}{S:e_}:eY 5 (x0::x1::x2::x3::x4::x5::xs) S=uV x5 S:=jb
def Jj {x0 x1 x2 x3 x4 x5 x6:A}{xs:ad}{S:e_}:eY 6 (x0::x1::x2::x3::x4::x5::x6::xs) S=uV x6 S:=jb
def JK {x0 x1 x2 x3 x4 x5 x6 x7:A}{xs:ad}{S:e_}:eY 7 (x0::x1::x2::x3::x4::x5::x6::x7::xs) S=uV x7 S:=jb
def JO {x0 x1 x2 x3 x4 x5 x6 x7 x8:A}{xs:ad}{S:e_}:eY 8 (x0::x1::x2::x3::x4::x5::x6::x7::x8::xs) S=uV x8 S:=jb
def JS {a x0:A}{xs:ad}{S:e_}:gD 0 a (x0::xs) S=.ok (a::xs) S:=rfl
def Jt {a x0 x1:A}{xs:ad}{S:e_}:gD 1 a (x0::x1::xs) S=.ok (x0::a::xs) S:=rfl
def Jw {a x0 x1 x2:A}{xs:ad}{S:e_}:gD 2 a (x0::x1::x2::xs) S=.ok (x0::x1::a::xs) S:=rfl
def JB {a x0 x1 x2 x3:A}{xs:ad}{S:e_}:gD 3 a (x0::x1::x2::x3::xs) S=.ok (x0::x1::x2::a::xs) S:=rfl
def JV {a x0 x1 x2 x3 x4:A}{xs:ad}{S:e_}:gD 4 a (x0::x1::x2::x3::x4::xs) S=.ok (x0::x1::x2::x3::a::xs) S:=rfl
def JD {a x0 x1 x2 x3 x4 x5:A}{xs:ad}{S:e_}:gD 5 a (x0::x1::x2::x3::x4::x5::xs) S=.ok (x0::x1::x2::x3::x4::a::xs) S:=rfl
def Js {a x0 x1 x2 x3 x4 x5 x6:A}{xs:ad}{S:e_}:gD 6 a (x0::x1::x2::x3::x4::x5::x6::xs) S=.ok (x0::x1::x2::x3::x4::x5::a::xs) S:=rfl
def Ju {a x0 x1 x2 x3 x4 x5 x6 x7:A}{xs:ad}{S:e_}:gD 7 a (x0::x1::x2::x3::x4::x5::x6::x7::xs) S=.ok (x0::x1::x2::x3::x4::x5::x6::a::xs) S:=rfl
def Jo {a x0 x1 x2 x3 x4 x5 x6 x7 x8:A}{xs:ad}{S:e_}:gD 8 a (x0::x1::x2::x3::x4::x5::x6::x7::x8::xs) S=.ok (x0::x1::x2::x3::x4::x5::x6::x7::a::xs) S:=rfl
def gf:type_of% (anI @R.nO<|anI @R.vH<|anI @R.iB<|anI @RS.of_ok<|anI @RS.De<|anI @gK<|anI @vM<|anI @Jq<|anI @JH<|anI @JX<|anI @JU<|anI @JL<|anI @JF<|anI @Jj<|anI @JK<|anI @JO<|anI @yX<|anI @xP<|anI @AD<|anI @C3<|anI @zk<|anI @yE<|anI @za<|anI @yL<|anI @zg<|anI @uo<|anI @wN<|anI @vF<|anI @x_<|anI @wA<|anI @wG<|anI @uy<|anI @vp<|anI @v9<|anI @Dk<|anI @vW<|anI @zV<|anI @um<|anI @Dr<|anI @yp<|anI @wJ<|anI @wg<|anI @yg<|anI @wz<|anI @uA<|anI @wO<|anI @Bk<|anI @AY<|anI @wB<|anI @zf<|anI @sy<|anI @vh<|anI @yt<|anI @vA<|anI @sf<|anI @wc<|anI @uU<|anI @sF<|anI @yk<|anI @xZ<|anI @C1<|anI @CQ<|anI @zC<|anI @rF<|anI @u_<|anI @sG<|anI @zB<|anI @wM<|anI @lst?_ref<|anI @RS.yy<|anI @RS.yI<|anI @RS.yV<|anI @RS.xR<|anI @RS.Bj<|anI @wD<|anI @uz<|anI @p_<|anI @sI<|anI @rX<|anI @vc<|anI @rL<|anI @xQ<|anI @wH<|anI @JS<|anI @Jt<|anI @Jw<|anI @JB<|anI @JV<|anI @JD<|anI @Js<|anI @Ju<|anI @Jo<|anI @yT<|anI @zJ<|anI @zK<|anI @xV<|anI @yH<|anI @vU<|anI @uh<|anI @rY<|anI @RS.yz<|anI @RS.zj<|anI @RS.yK<|anI @Bo<|anI @xW<|anI @AA<|anI @Di<|anI @DB<|anI @C9<|anI @DN<|anI @CM<|anI @AB<|anI @xN<|anI @yS<|anI @Bf<|anI @Aq<|anI @Ac<|anI @u0<|anI @wQ<|anI @wm<|anI @uG<|anI @qb<|anI @Dm<|anI @DE<|anI @DC<|anI @yj<|anI @z_<|anI @uv<|anI @vv<|anI @vR<|anI @rJ<|anI @sP<|anI @A_<|anI @yZ<|anI @Dy<|anI @oF<|anI @ze<|anI @ux<|anI @fZ<|anI @yP<|anI @Az<|anI @qW<|anI @DL<|anI @C_<|anI @DG<|anI @Dh<|anI @uM<|anI @uR<|anI @uB<|anI @sq<|anI @sH<|anI @r6<|anI @uP<|anI @Dp<|anI @zT<|anI @Bb<|anI @yU<|anI @yQ<|anI @Ai<|anI @Be<|anI @zG<|anI @zX<|anI @zz<|anI @AM<|anI @z9<|anI @zM<|anI @A5<|anI @Bm<|anI @AF<|anI @uT<|anI @CO<|anI @DH<|anI @Gi<|anI @sets<|anI @rep0<|anI @reps<|anI @Gd<|anI @Gj<|anI @mL<|anI @vO<|anI @A2<|anI @zy<|anI @C4<|anI @Dj<|anI @xT<|anI @yC<|anI @pR<|anI @rO<|anI @xS<|anI @uO<|anI @zb<|anI @vV<|anI @Ax<|anI @Du<|anI @CN<|anI @wI<|anI @wR<|anI @z7<|anI @qY<|anI @uJ<|anI @z8<|anI @zS<|anI @zA<|anI @zl<|@zo):=anI @R.nO<|anI @R.vH<|anI @R.iB<|anI @RS.of_ok<|anI @RS.De<|anI @gK<|anI @vM<|anI @Jq<|anI @JH<|anI @JX<|anI @JU<|anI @JL<|anI @JF<|anI @Jj<|anI @JK<|anI @JO<|anI @yX<|anI @xP<|anI @AD<|anI @C3<|anI @zk<|anI @yE<|anI @za<|anI @yL<|anI @zg<|anI @uo<|anI @wN<|anI @vF<|anI @x_<|anI @wA<|anI @wG<|anI @uy<|anI @vp<|anI @v9<|anI @Dk<|anI @vW<|anI @zV<|anI @um<|anI @Dr<|anI @yp<|anI @wJ<|anI @wg<|anI @yg<|anI @wz<|anI @uA<|anI @wO<|anI @Bk<|anI @AY<|anI @wB<|anI @zf<|anI @sy<|anI @vh<|anI @yt<|anI @vA<|anI @sf<|anI @wc<|anI @uU<|anI @sF<|anI @yk<|anI @xZ<|anI @C1<|anI @CQ<|anI @zC<|anI @rF<|anI @u_<|anI @sG<|anI @zB<|anI @wM<|anI @lst?_ref<|anI @RS.yy<|anI @RS.yI<|anI @RS.yV<|anI @RS.xR<|anI @RS.Bj<|anI @wD<|anI @uz<|anI @p_<|anI @sI<|anI @rX<|anI @vc<|anI @rL<|anI @xQ<|anI @wH<|anI @JS<|anI @Jt<|anI @Jw<|anI @JB<|anI @JV<|anI @JD<|anI @Js<|anI @Ju<|anI @Jo<|anI @yT<|anI @zJ<|anI @zK<|anI @xV<|anI @yH<|anI @vU<|anI @uh<|anI @rY<|anI @RS.yz<|anI @RS.zj<|anI @RS.yK<|anI @Bo<|anI @xW<|anI @AA<|anI @Di<|anI @DB<|anI @C9<|anI @DN<|anI @CM<|anI @AB<|anI @xN<|anI @yS<|anI @Bf<|anI @Aq<|anI @Ac<|anI @u0<|anI @wQ<|anI @wm<|anI @uG<|anI @qb<|anI @Dm<|anI @DE<|anI @DC<|anI @yj<|anI @z_<|anI @uv<|anI @vv<|anI @vR<|anI @rJ<|anI @sP<|anI @A_<|anI @yZ<|anI @Dy<|anI @oF<|anI @ze<|anI @ux<|anI @fZ<|anI @yP<|anI @Az<|anI @qW<|anI @DL<|anI @C_<|anI @DG<|anI @Dh<|anI @uM<|anI @uR<|anI @uB<|anI @sq<|anI @sH<|anI @r6<|anI @uP<|anI @Dp<|anI @zT<|anI @Bb<|anI @yU<|anI @yQ<|anI @Ai<|anI @Be<|anI @zG<|anI @zX<|anI @zz<|anI @AM<|anI @z9<|anI @zM<|anI @A5<|anI @Bm<|anI @AF<|anI @uT<|anI @CO<|anI @DH<|anI @Gi<|anI @sets<|anI @rep0<|anI @reps<|anI @Gd<|anI @Gj<|anI @mL<|anI @vO<|anI @A2<|anI @zy<|anI @C4<|anI @Dj<|anI @xT<|anI @yC<|anI @pR<|anI @rO<|anI @xS<|anI @uO<|anI @zb<|anI @vV<|anI @Ax<|anI @Du<|anI @CN<|anI @wI<|anI @wR<|anI @z7<|anI @qY<|anI @uJ<|anI @z8<|anI @zS<|anI @zA<|anI @zl<|@zo
def bools:(∀b:Bool,cond false b b=b)/\(∀(α:Type) (x y:α),cond false x y=y)/\(∀(α:Type) (x y:α),cond true x y=x):=⟨λ_=>rfl,λ_ _ _=>rfl,λ_ _ _=>rfl⟩
def ko:(∀(x:Str) (xs:am),(x::xs).length=xs.length+1)/\([]:am).length=0/\(∀(x:A) (xs:ad),(x::xs).length=xs.length+1)/\([]:ad).length=0:=⟨λ_ _=>rfl,rfl,λ_ _=>rfl,rfl⟩
end Am
namespace Am
open PySem PySem.Spec PyProof.Rows L2
abbrev Df (K:aA)(x:Str)(st:aG):Prop:=∃(f:ak) (fd:FuncData),PySem.W.nsIn K mainGlobals x=some (some<|.ref f)/\Fun K x x st f fd
inductive En (P:aj) (w:af) (K:aA) (mg:Str->aw) (base:au):Prop
 | mk (h:au) (X:K.In h) (G:h.Ns mainGlobals mg)
section
variable {P:aj}{w:af}{K:aA}{mg:Str->aw}{base:au}{x:Str}{st:aG}{ps:am}{k:Nat}{F:ad->e_->R A}
def En.at(E:En P w K mg base){f:ak}(h:PySem.W.nsIn K mainGlobals x=some (some<|.ref f)):mg x=some (.ref f):=by
 obtain⟨_,X,G⟩:=E;exact PySem.W.mg_of X G h
def Df.of{f:ak}{kV ct:aa}(a:PySem.W.nsIn K mainGlobals x=some (some<|.ref f))(l:K.lookup f=some ⟨oc,od,.func<|PySem.W.fnOf x x (lg st) (jw st) (fG st) .none kV doc pm an cdv ct,osl⟩)(c:PySem.W.codeIn K cdv x=true)(k:PySem.W.keepIn K (.ref f)=true):Df K x st:=⟨f,_,a,D3 l c k⟩
meta abbrev Bi (x:Str)(st:aG)(ps:am):Prop:=∀us:ap,us.length=ps.length->∀(kV d j:aa) (g:Option ak) (f ct:aa),bindArgs (PySem.W.fnOf x x (lg st) (jw st) (fG st) .none kV d j g f ct) ⟨us,[]⟩=pure (ps.zip us)
def Df.get(d:Df K x st)(E:En P w K mg base)(b:Bi x st ps):∃f fd,Fun K x x st f fd/\mg x=some (.ref f)/\PySem.W.keepIn K (.ref f)=true/\Binds K fd ps []:=by
 obtain⟨f,fd,a,F⟩:=d;exact⟨f,fd,F,E.at a,F.kp,F.binds λkV j m k g ct us p=>b us p kV j m k g ct⟩
def Df.kA(d:Df K x st)(E:En P w K mg base)(h:∀{f fd},Fun K x x st f fd->FnOk P w K mg base l8 k f fd ps (nj K ps.length F))(b:Bi x st ps):nH P w K mg base k x ps F:=by
 obtain⟨f,fd,a,c,e,g⟩:=d.get E b;exact⟨f,fd,h a,c,e,g⟩
end
section
variable {X:Cx}{pos p:Pos}{e1 e2 e3:aF}{x p1 p2 p3:Str}{k K0:Nat}{F:ad->e_->R A}{c1 c2 c3:Ex}
def Aj(G:nH X.prog X.w X.K X.mg X.base k x [p1] F)(hr:Room K0 X.A)(h1:AE X e1 c1)(hk:k<=K0:=by decide)(hg:Gl X x:=by rfl)(hdb:(x == ("__debug__" : Str))=false:=by decide)(s1:starEach [e1] X.env=(false,eval e1 X.env)::starEach [] X.env:=by rfl)(hp:(backTo pos<|starEach [] X.env).any (·.1)=false:=by rfl):AE X (.Call (.Name x p) [e1] [] pos) (eFn F<|eX c1 fE):=zY G (hr.mono hk) (eZ h1 fF s1) (jU qk) hg hdb s1 hp
def w9(G:nH X.prog X.w X.K X.mg X.base k x [p1,p2] F)(hr:Room K0 X.A)(h1:AE X e1 c1)(h2:AE X e2 c2)(hk:k<=K0:=by decide)(hg:Gl X x:=by rfl)(hdb:(x == ("__debug__" : Str))=false:=by decide)(s1:starEach [e1,e2] X.env=(false,eval e1 X.env)::starEach [e2] X.env:=by rfl)(s2:starEach [e2] X.env=(false,eval e2 X.env)::starEach [] X.env:=by rfl)(hp:(backTo pos<|starEach [e2] X.env).any (·.1)=false:=by rfl):AE X (.Call (.Name x p) [e1,e2] [] pos) (eFn F<|eX c1<|eX c2 fE):=zY G (hr.mono hk) (eZ h1 (eZ h2 fF s2) s1) (jU<|jU qk) hg hdb s1 hp
def Jp(G:nH X.prog X.w X.K X.mg X.base k x [p1,p2,p3] F)(hr:Room K0 X.A)(h1:AE X e1 c1)(h2:AE X e2 c2)(h3:AE X e3 c3)(hk:k<=K0:=by decide)(hg:Gl X x:=by rfl)(hdb:(x == ("__debug__" : Str))=false:=by decide)(s1:starEach [e1,e2,e3] X.env=(false,eval e1 X.env)::starEach [e2,e3] X.env:=by rfl)(s2:starEach [e2,e3] X.env=(false,eval e2 X.env)::starEach [e3] X.env:=by rfl)(s3:starEach [e3] X.env=(false,eval e3 X.env)::starEach [] X.env:=by rfl)(hp:(backTo pos<|starEach [e2,e3] X.env).any (·.1)=false:=by rfl):AE X (.Call (.Name x p) [e1,e2,e3] [] pos) (eFn F<|eX c1<|eX c2<|eX c3 fE):=zY G (hr.mono hk) (eZ h1 (eZ h2 (eZ h3 fF s3) s2) s1) (jU<|jU<|jU qk) hg hdb s1 hp
def pN{N P:am}{sc:Scope}(a:sc.kind=.function)(b:sc.isCoroutine=false)(c:sc.isGenerator=false)(h:N.Nodup/\N.take P.length=P/\(∀x∈P,sc.names.lookup x=some .local\/sc.names.lookup x=some .cell)/\∀y∈sc.names,y.2≠.free):FnScope N P sc:=⟨a,b,c,h.1,h.2.1,h.2.2.1,h.2.2.2⟩
end
end Am
namespace K50
open PySem L2 Am
abbrev top (i:Nat):aG:=PySem.Challenge.pw_undercells_k50_as_many_as_wrong_pairs.main.body.getD i<|.Pass ⟨0,0,0,0⟩
meta abbrev jD:aG:=top 4
meta abbrev jO:am:=["n"]
meta abbrev jF:am:=["n"]
abbrev jJ:Sm:=
 ie (fR (f1 j3)<|eX (fR (f2 mP)<|eX (eC<|.int 1)<|eX (fu gu (eY 0)<|eC<|.int 1) fE) fE)
abbrev gR:ad->e_->R A:=i9 jO jJ
meta abbrev kM:aG:=top 5
meta abbrev kE:am:=["one", "other"]
meta abbrev kP:am:=["one", "other"]
abbrev kF:Sm:=
 sX (qQ<|fu (uQ true) (fR (f1 je)<|eX (eY 0) fE)<|fR (f1 je)<|eX (eY 1) fE)
 (Jz)
 mh
abbrev iS:ad->e_->R A:=i9 kE kF
meta abbrev gX:aG:=top 6
meta abbrev gZ:am:=["order", "i", "j", "things"]
meta abbrev gU:am:=["order", "i", "j"]
abbrev gY:Sm:=
 f6 (gS (fR (f1 oJ)<|eX (eY 0) fE)<|gD 3)
 (f6 (gS (nJ<|eX (fu mV (eY 3)<|fu aSub (eY 2)<|eC<|.int 1)<|eX (fu mV (eY 3)<|fu aSub (eY 1)<|eC<|.int 1) fE)<|F8 2<|Br (F5 (eY 3)<|fu aSub (eY 1)<|eC<|.int 1)<|Br (F5 (eY 3)<|fu aSub (eY 2)<|eC<|.int 1) F6)
 (ie<|fR (f1 j3)<|eX (eY 3) fE))
abbrev fN:ad->e_->R A:=i9 gZ gY
meta abbrev jE:aG:=top 7
meta abbrev jC:am:=["n"]
meta abbrev jI:am:=["n"]
abbrev jH:Sm:=
 ie (tw [none,none,some 0] (jj (eC<|.int 1)<|eY 0) (gD 0) nI (jj (fu gu (eY 0)<|eC<|.int 1)<|fu gu (eY 2)<|eC<|.int 1) (gD 1) nI<|nJ<|eX (eY 0)<|eX (eY 1) fE)
abbrev gv:ad->e_->R A:=i9 jC jH
meta abbrev gM:aG:=top 10
meta abbrev gE:am:=["numbers", "place"]
meta abbrev gI:am:=["numbers"]
abbrev iu:Te:=
 qQ (fu Ij (fu mV (eY 0)<|fu aSub (eY 1)<|eC<|.int 1)<|eC<|.int 0)
abbrev g9:Sm:=
 yR 1 xC (eC<|.int 1)
abbrev gH:Sm:=
 f6 (gS (eC<|.int 1)<|gD 1)
 (f6 (iw iu
 g9 1000000)
 (ie<|eY 1))
abbrev fT:ad->e_->R A:=i9 gE gH
meta abbrev AH:aG:=top 9
meta abbrev Ae:am:=["one", "other", "more", "at", "j"]
meta abbrev yi:am:=["one", "other"]
abbrev uH:Ic:=
 i6 (fu mV (eY 0)<|eY 3)
abbrev uC:Sm:=
 o8 (eY 2) (eY 4) (eC<|.int 1) xC
abbrev vK:Ic:=
 i6 (fu mV (eY 1)<|eY 3)
abbrev vB:Sm:=
 o8 (eY 2) (eY 4) (eC<|.int 1) aSub
abbrev BJ:Ic:=
 i6 (fR (f1 je)<|eX (eY 0) fE)
abbrev vD:Sm:=
 f6 (kc uH (gD 4)
 uC)
 (f6 (kc vK (gD 4)
 vB)
 (sX (qQ<|fu Eg (fR (f1 yD)<|eX (eY 2) fE)<|eC<|.int 0)
 (ie<|nJ<|eX (fu gu (eY 3)<|eC<|.int 1)<|eX (eFn fT<|eX (eY 2) fE) fE)
 mh))
abbrev zw:Sm:=
 f6 (ve<|eFn iS<|eX (eY 0)<|eX (eY 1) fE)
 (f6 (gS (fu nL (qO<|eX (eC<|.int 0) fE)<|fR (f1 je)<|eX (eY 0) fE)<|gD 2)
 (f6 (kc BJ (gD 3)
 vD)
 (ie<|eC .non)))
abbrev qe:ad->e_->R A:=i9 Ae zw
meta abbrev l7:aG:=top 11
meta abbrev kr:am:=["one", "other"]
meta abbrev lZ:am:=["one", "other"]
abbrev j0:Sm:=
 ie (fu (sV false) (eFn qe<|eX (eY 0)<|eX (eY 1) fE)<|eC .non)
abbrev gJ:ad->e_->R A:=i9 kr j0
meta abbrev jL:aG:=top 13
meta abbrev jN:am:=["order", "plain"]
meta abbrev jG:am:=["order"]
abbrev jP:Sm:=
 f6 (gS (eFn gR<|eX (fR (f1 je)<|eX (eY 0) fE) fE)<|gD 1)
 (ie<|ku [none,none,some 0,some 1] (rR<|eFn gv<|eX (fR (f1 je)<|eX (eY 0) fE) fE) (F8 2<|Br (gD 0)<|Br (gD 1) F6) (w4<|eFn gJ<|eX (eFn fN<|eX (eY 3)<|eX (eY 0)<|eX (eY 1) fE)<|eX (eY 2) fE)<|nJ<|eX (eY 0)<|eX (eY 1) fE)
abbrev fX:ad->e_->R A:=i9 jN jP
meta abbrev mw:aG:=top 15
meta abbrev l9:am:=["_law_script", "_law_k"]
meta abbrev lN:am:=["_law_script", "_law_k"]
abbrev lT:Sm:=
 f6 (sX (qQ<|fu Fb (eY 1)<|fR (f1 je)<|eX (eY 0) fE)
 (ie<|fu mV (eY 0)<|eY 1)
 mh)
 (ie<|eC<|.int 0)
abbrev jk:ad->e_->R A:=i9 l9 lT
meta abbrev ng:aG:=top 16
meta abbrev nh:am:=["_law_cell_here", "_law_place", "_law_far"]
meta abbrev mY:am:=["_law_cell_here", "_law_place"]
abbrev nu:Sm:=
 f6 (gS (fR (f1 DU)<|eX (eY 0) fE)<|gD 2)
 (f6 (sX (qQ<|fu Fb (eY 2)<|fu El (eC<|.int 10)<|eC<|.int 18)
 (gS (eC<|.int 0)<|gD 2)
 mh)
 (ie<|qO<|eX (eY 2)<|eX (fu qS (fu gu (fu gu (fu nL (fu qS (eY 0)<|eC<|.int 2147483647)<|eC<|.int 69621)<|fu nL (eC<|.int 7919)<|eY 1)<|eC<|.int 13)<|eC<|.int 2147483647) fE))
abbrev jX:ad->e_->R A:=i9 nh nu
meta abbrev kI:aG:=top 17
meta abbrev kT:am:=["_law_bag_here"]
meta abbrev kR:am:=["_law_bag_here"]
abbrev kK:Sm:=
 f6 (gS (fu qS (fu gu (fu nL (fu mV (eY 0)<|eC<|.int 1)<|eC<|.int 48271)<|eC<|.int 11)<|eC<|.int 2147483647)<|F5 (eY 0)<|eC<|.int 1)
 (ie<|fu vq (fu qS (fu nL (fu mV (eY 0)<|eC<|.int 1)<|eC<|.int 16807)<|eC<|.int 2147483629)<|eC<|.int 8)
abbrev g8:ad->e_->R A:=i9 kT kK
meta abbrev kQ:aG:=top 18
meta abbrev jz:am:=["_law_bag_here", "_law_many", "_law_found", "_law_k"]
meta abbrev iQ:am:=["_law_bag_here", "_law_many"]
abbrev pH:Ic:=
 i6 (eC<|.int 7)
abbrev pJ:Sm:=
 gS (fu gu (fu nL (eY 2)<|eC<|.int 268435399)<|eFn g8<|eX (eY 0) fE) (gD 2)
abbrev jy:Sm:=
 f6 (sX (qQ<|fu Eg (fu mV (eY 0)<|eC<|.int 0)<|eC<|.int 0)
 (f6 (gS (fu qS (fu mV (eY 0)<|eC<|.int 0)<|eY 1)<|gD 2)
 (f6 (gS (fu vq (fu mV (eY 0)<|eC<|.int 0)<|eY 1)<|F5 (eY 0)<|eC<|.int 0)
 (ie<|eY 2)))
 mh)
 (f6 (gS (eFn g8<|eX (eY 0) fE)<|gD 2)
 (f6 (sX (qQ<|fu Eg (eY 1)<|eC<|.int 1000)
 (kc pH (gD 3)
 pJ)
 mh)
 (ie<|fu qS (eY 2)<|eY 1)))
abbrev fL:ad->e_->R A:=i9 jz jy
meta abbrev kO:aG:=top 19
meta abbrev kW:am:=["_law_bag_here", "_law_n", "_law_left", "_law_found", "_law_k"]
meta abbrev kY:am:=["_law_bag_here", "_law_n"]
abbrev pI:Ic:=
 i6 (eY 1)
abbrev lE:Sm:=
 ve (HG qR (eY 3)<|eX (HG sU (eY 2)<|eX (eFn fL<|eX (eY 0)<|eX (fR (f1 je)<|eX (eY 2) fE) fE) fE) fE)
abbrev kJ:Sm:=
 f6 (gS (fR (f1 oJ)<|eX (fR (f2 mP)<|eX (eC<|.int 1)<|eX (fu gu (eY 1)<|eC<|.int 1) fE) fE)<|gD 2)
 (f6 (gS (qO fE)<|gD 3)
 (f6 (kc pI (gD 4)
 lE)
 (ie<|fR (f1 j3)<|eX (eY 3) fE)))
abbrev iP:ad->e_->R A:=i9 kW kJ
meta abbrev iX:aG:=top 20
meta abbrev iV:am:=["_law_order_here", "_law_k"]
meta abbrev iZ:am:=["_law_order_here", "_law_k"]
abbrev iY:Sm:=
 ie (fu gu (fu gu (HC (eY 0) uE<|vJ<|fu aSub (eY 1)<|eC<|.int 1)<|nJ<|eX (fu mV (eY 0)<|eY 1)<|eX (fu mV (eY 0)<|fu aSub (eY 1)<|eC<|.int 1) fE)<|HC (eY 0) (vJ<|fu gu (eY 1)<|eC<|.int 1) uE)
abbrev gr:ad->e_->R A:=i9 iV iY
meta abbrev lO:aG:=top 21
meta abbrev mC:am:=["_law_bag_here", "_law_n", "_law_most", "_law_found", "_law_turn", "_law_k"]
meta abbrev l_:am:=["_law_bag_here", "_law_n", "_law_most"]
abbrev mE:Ic:=
 i6 (eFn fL<|eX (eY 0)<|eX (fu gu (eY 2)<|eC<|.int 1) fE)
abbrev mS:Sm:=
 f6 (gS (fu gu (eC<|.int 1)<|eFn fL<|eX (eY 0)<|eX (fu aSub (eY 1)<|eC<|.int 1) fE)<|gD 5)
 (sX (qQ<|fu Fb (fu mV (eY 3)<|fu aSub (eY 5)<|eC<|.int 1)<|fu mV (eY 3)<|eY 5)
 (gS (eFn gr<|eX (eY 3)<|eX (eY 5) fE)<|gD 3)
 mh)
abbrev lJ:Sm:=
 f6 (gS (fR (f1 j3)<|eX (fR (f2 mP)<|eX (eC<|.int 1)<|eX (fu gu (eY 1)<|eC<|.int 1) fE) fE)<|gD 3)
 (f6 (kc mE (gD 4)
 mS)
 (ie<|eY 3))
abbrev jf:ad->e_->R A:=i9 mC lJ
meta abbrev lG:aG:=top 22
meta abbrev mD:am:=["_law_order_here", "_law_found", "_law_i"]
meta abbrev lH:am:=["_law_order_here"]
abbrev mF:Ic:=
 i6 (fR (f1 je)<|eX (eY 0) fE)
abbrev mK:Sm:=
 gS (fu gu (eY 1)<|fR (f1 je)<|eX (ku [none,some 0,some 2] (i6<|eY 2) (gD 0) (qQ<|fu Eg (fu mV (eY 1)<|eY 0)<|fu mV (eY 1)<|eY 2)<|eY 0) fE) (gD 1)
abbrev lY:Sm:=
 f6 (gS (eC<|.int 0)<|gD 1)
 (f6 (kc mF (gD 2)
 mK)
 (ie<|eY 1))
abbrev iM:ad->e_->R A:=i9 mD lY
meta abbrev kh:aG:=top 23
meta abbrev j4:am:=["_law_four", "_law_some_here"]
meta abbrev j8:am:=["_law_four"]
abbrev j6:Sm:=
 f6 (gS (fR (f1 tR)<|eX (eY 0) fE)<|gD 1)
 (ie<|fu (Ih false) (ku [none,some 1] (rR<|eY 0) (gD 0) nI<|qJ (eY 1)<|eX (eY 0) fE)<|qO<|eX (qO<|eX (eC<|.int 2)<|eX (eC<|.int 3)<|eX (eC<|.int 0)<|eX (eC<|.int 1) fE)<|eX (qO<|eX (eC<|.int 3)<|eX (eC<|.int 1)<|eX (eC<|.int 2)<|eX (eC<|.int 0) fE) fE)
abbrev iz:ad->e_->R A:=i9 j4 j6
meta abbrev jm:aG:=top 24
meta abbrev jn:am:=["_law_order_here", "_law_n", "_law_i", "_law_j", "_law_k", "_law_m"]
meta abbrev jo:am:=["_law_order_here"]
abbrev iL:Ic:=
 jj (fu gu (eY 4)<|eC<|.int 1) (eY 1)
abbrev iC:Sm:=
 sX (w4<|eFn iz<|eX (qO<|eX (fu mV (eY 0)<|eY 2)<|eX (fu mV (eY 0)<|eY 3)<|eX (fu mV (eY 0)<|eY 4)<|eX (fu mV (eY 0)<|eY 5) fE) fE)
 (ie<|nJ<|eX (fu gu (eY 2)<|eC<|.int 1)<|eX (fu gu (eY 3)<|eC<|.int 1)<|eX (fu gu (eY 4)<|eC<|.int 1)<|eX (fu gu (eY 5)<|eC<|.int 1) fE)
 mh
abbrev iI:Ic:=
 jj (fu gu (eY 3)<|eC<|.int 1) (eY 1)
abbrev iE:Sm:=
 kc iL (gD 5)
 iC
abbrev iH:Ic:=
 jj (fu gu (eY 2)<|eC<|.int 1) (eY 1)
abbrev iK:Sm:=
 kc iI (gD 4)
 iE
abbrev jR:Ic:=
 i6 (eY 1)
abbrev jY:Sm:=
 kc iH (gD 3)
 iK
abbrev jh:Sm:=
 f6 (gS (fR (f1 je)<|eX (eY 0) fE)<|gD 1)
 (f6 (kc jR (gD 2)
 jY)
 (ie<|eC .non))
abbrev gh:ad->e_->R A:=i9 jn jh
meta abbrev lU:aG:=top 25
meta abbrev lK:am:=["_law_order_here"]
meta abbrev lQ:am:=["_law_order_here"]
abbrev lX:Sm:=
 ie (fR (f1 j3)<|eX (ku [none,some 0] (jj (eC<|.int 1)<|fu gu (fR (f1 je)<|eX (eY 0) fE)<|eC<|.int 1) (gD 0) nI<|fu gu (qJ (eY 1)<|eX (eY 0) fE)<|eC<|.int 1) fE)
abbrev iG:ad->e_->R A:=i9 lK lX
meta abbrev Bg:aG:=top 26
meta abbrev Ad:am:=["_law_script", "_law_k", "_law_bag_here", "_law_order_here", "_law_many", "_law_wrong"]
meta abbrev CT:am:=["_law_script"]
abbrev ug:Ic:=
 i6 (fR (f2 Ag)<|eX (eC<|.int 2)<|eX (fR (f2 AN)<|eX (fR (f1 je)<|eX (eY 0) fE)<|eX (eC<|.int 6) fE) fE)
abbrev v_:Sm:=
 f6 (gS (eFn jX<|eX (eFn jk<|eX (eY 0)<|eX (eY 1) fE)<|eX (fu gu (eC<|.int 1)<|eY 1) fE)<|gD 2)
 (f6 (gS (eFn iP<|eX (eY 2)<|eX (fu gu (eC<|.int 1)<|eFn fL<|eX (eY 2)<|eX (eC<|.int 9) fE) fE)<|gD 3)
 (f6 (sX (qQ<|fu (uQ false) (eFn fL<|eX (eY 2)<|eX (eC<|.int 3) fE)<|eC<|.int 2)
 (gS (eFn jf<|eX (eY 2)<|eX (fu gu (eC<|.int 2)<|eFn fL<|eX (eY 2)<|eX (eC<|.int 19) fE)<|eX (eC<|.int 10) fE)<|gD 3)
 mh)
 (f6 (gS (fR (f1 je)<|eX (eFn fX<|eX (eY 3) fE) fE)<|gD 4)
 (f6 (gS (eFn iM<|eX (eY 3) fE)<|gD 5)
 (f6 (sX (Ge (qQ<|fu Fb (eY 4)<|eY 5)<|qQ<|fu (uQ true) (fu (uQ false) (eY 4)<|eY 5)<|fu (sV false) (eFn gh<|eX (eY 3) fE)<|eC .non)
 (ie<|eC<|.bl false)
 mh)
 (sX (qQ<|fu (uQ true) (fR (f1 je)<|eX (eFn fX<|eX (eFn iG<|eX (eY 3) fE) fE) fE)<|eY 4)
 (ie<|eC<|.bl false)
 mh))))))
abbrev yG:Sm:=
 f6 (kc ug (gD 1)
 v_)
 (ie<|eC<|.bl true)
abbrev pP:ad->e_->R A:=i9 Ad yG
section
variable {P:aj}{w:af}{K:aA}{mg:Str->aw}{base:au}{f:ak}{fd:FuncData}
def o5:FnScope jO jF (fG jD):=pN rfl rfl rfl ∅
def oB(F:Fun K "plain_order" "plain_order" jD f fd)(Kf:mg "tuple" = none)(Kc:mg "range" = none):FnOk P w K mg base l8 1 f fd jF (nj K 1 gR):=pV (m:=jJ) F o5 λg B d s H E j=>
 fq (fV<|gP (mO rfl) Kf kU<|eZ (gP oZ Kc oS<|eZ e9<|eZ (fC gg (eW 0) e9) fF) fF)
def qK:FnScope kE kP (fG kM):=pN rfl rfl rfl ∅
def qB(F:Fun K "need_pair" "need_pair" kM f fd)(Ke:mg "len" = none):FnOk P w K mg base l8 1 f fd kP (nj K 2 iS):=pV (m:=kF) F qK λg B d s H E j=>
 fq (kX (iJ (FY j.units) (fO jl Ke gW<|eZ (eW 0) fF)<|fO jl Ke gW<|eZ (eW 1) fF)
 (fq<|G9)
 ir)
def i7:FnScope gZ gU (fG gX):=pN rfl rfl rfl ∅
def lC(F:Fun K "exchanged_places" "exchanged_places" gX f fd)(Kh:mg "list" = none)(Kf:mg "tuple" = none):FnOk P w K mg base l8 1 f fd gU (nj K 3 fN):=pV (m:=gY) F i7 λg B d s H E j=>
 fm (fY (i:=3) i7.nd<|gP (yo rfl) Kh wC<|eZ (eW 0) fF)
 (fm (sR (nk<|eZ (gO (eW 3)<|fC mT (eW 2) e9)<|eZ (gO (eW 3)<|fC mT (eW 1) e9) fF)<|AZ rfl<|mJ (qg (eW 3)<|fC mT (eW 1) e9)<|mJ (qg (eW 3)<|fC mT (eW 2) e9) vX)
 (fq<|fV<|gP (mO rfl) Kf kU<|eZ (eW 3) fF))
def oz:FnScope jC jI (fG jE):=pN rfl rfl rfl ∅
def oQ(F:Fun K "place_pairs" "place_pairs" jE f fd)(Kc:mg "range" = none):FnOk P w K mg base l8 1 f fd jI (nj K 1 gv):=pV (m:=jH) F oz λg B d s H E j=>
 fq (fV<|zp (N:=["i", "j", "n"]) (cap:=[none,none,some 0]) rfl (rU ["n"] rfl ∅ ∅ ∅ ∅ ∅ (bX.mpr ⟨by first|exact Or.inl rfl|exact Or.inr rfl,(nofun)⟩) ⟨rfl,by decide +kernel,trivial⟩) (jd Kc e9<|eW 0) (λ_ _ _ _=>fW (i:=0) (show(["i", "j", "n"]:am).Nodup by decide +kernel) rfl (Or.inl rfl)<|.inr rfl) (λ_ _ _ _=>nP) (λ_ _ _ _=>jd Kc (fC gg (eW 0) e9)<|fC gg (eW 2) e9) (λ_ _ _ _=>fW (i:=1) (show(["i", "j", "n"]:am).Nodup by decide +kernel) rfl (Or.inl rfl)<|.inr rfl) (λ_ _ _ _=>nP) λ_ _ _ _=>nk<|eZ (eW 0)<|eZ (eW 1) fF)
def gx:FnScope gE gI (fG gM):=pN rfl rfl rfl ∅
def kC(F:Fun K "first_above_nought" "first_above_nought" gM f fd):FnOk P w K mg base l8 1 f fd gI (nj K 1 fT):=pV (m:=gH) F gx λg B d s H E j=>
 fm (fY (i:=1) gx.nd e9)
 (fm (AU 1000000 bI (iJ HM (gO (eW 0)<|fC mT (eW 1) e9) e9)
 (fq<|DT (i:=1) gx.nd e9 vm))
 (fq<|fV<|eW 1))
def oE:FnScope Ae yi (fG AH):=pN rfl rfl rfl ∅
def Ei(F:Fun K "bar" "bar" AH f fd)(Ke:mg "len" = none)(Kc:mg "range" = none)(Kl:mg "max" = none)(Kq:nH P w K mg base 1 "need_pair" kP iS)(Ks:nH P w K mg base 1 "first_above_nought" gI fT):FnOk P w K mg base l8 2 f fd yi (nj K 2 qe):=pV (m:=zw) F oE λj B d s H E g=>
 fm (vE<|w9 Kq g (eW 0)<|eW 1)
 (fm (fY (i:=2) oE.nd<|fC p5 (lW<|eZ e9 fF)<|fO jl Ke gW<|eZ (eW 0) fF)
 (fm (iU bI rfl (gw Kc<|fO jl Ke gW<|eZ (eW 0) fF) (fW (i:=3) oE.nd)
 (fm (iU bI rfl (gw Kc<|gO (eW 0)<|eW 3) (fW (i:=4) oE.nd)
 (fq<|uI (eW 2) (eW 4) e9 vm))
 (fm (iU bI rfl (gw Kc<|gO (eW 1)<|eW 3) (fW (i:=4) oE.nd)
 (fq<|uI (eW 2) (eW 4) e9 Bv))
 (fq (kX (iJ (BP g.units) (fO (Er rfl) Kl yx<|eZ (eW 2) fF) e9)
 (fq<|fV<|nk<|eZ (fC gg (eW 3) e9)<|eZ (Aj Ks g<|eW 2) fF)
 ir)))))
 (fq<|fV<|qo)))
def rC:FnScope kr lZ (fG l7):=pN rfl rfl rfl ∅
def sJ(F:Fun K "is_below" "is_below" l7 f fd)(Ku:nH P w K mg base 2 "bar" yi qe):FnOk P w K mg base l8 3 f fd lZ (nj K 2 gJ):=pV (m:=j0) F rC λg B d s H E j=>
 fq (fV<|qC Hv (w9 Ku j (eW 0)<|eW 1)<|qo)
def kG:FnScope jN jG (fG jL):=pN rfl rfl rfl ∅
def oM(F:Fun K "pairs_below" "pairs_below" jL f fd)(Ke:mg "len" = none)(Kv:nH P w K mg base 1 "plain_order" jF gR)(Kw:nH P w K mg base 1 "place_pairs" jI gv)(Kx:nH P w K mg base 3 "is_below" lZ gJ)(Ky:nH P w K mg base 1 "exchanged_places" gU fN):FnOk P w K mg base l8 4 f fd jG (nj K 1 fX):=pV (m:=jP) F kG λj B g s H E d=>
 fm (fY (i:=1) kG.nd<|Aj Kv d<|fO jl Ke gW<|eZ (eW 0) fF)
 (fq<|fV<|nT (N:=["i", "j", "order", "plain"]) (cap:=[none,none,some 0,some 1]) rfl (rU ["order", "plain"] rfl ∅ ∅ ∅ ∅ ∅ (bX.mpr ⟨by first|exact Or.inl rfl|exact Or.inr rfl,(bX.mpr ⟨by first|exact Or.inl rfl|exact Or.inr rfl,(nofun)⟩)⟩) ⟨rfl,by decide +kernel,⟨rfl,by decide +kernel,trivial⟩⟩) (zN<|Aj Kw d<|fO jl Ke gW<|eZ (eW 0) fF) (λ_ _ _ _=>AZ rfl<|mJ (fW (i:=0) (show(["i", "j", "order", "plain"]:am).Nodup by decide +kernel) rfl (Or.inl rfl)<|.inr rfl)<|mJ (fW (i:=1) (show(["i", "j", "order", "plain"]:am).Nodup by decide +kernel) rfl (Or.inl rfl)<|.inr rfl) vX) (λ_ _ _ _=>uX<|xX<|w9 Kx d (Jp Ky d (eW 3) (eW 0)<|eW 1)<|eW 2) λ_ _ _ _=>nk<|eZ (eW 0)<|eZ (eW 1) fF)
def sA:FnScope l9 lN (fG mw):=pN rfl rfl rfl ∅
def qV(F:Fun K "_law_cell" "_law_cell" mw f fd)(Ke:mg "len" = none):FnOk P w K mg base l8 1 f fd lN (nj K 2 jk):=pV (m:=lT) F sA λg B d s H E j=>
 fm (kX (iJ (BQ j.units) (eW 1)<|fO jl Ke gW<|eZ (eW 0) fF)
 (fq<|fV<|gO (eW 0)<|eW 1)
 ir)
 (fq<|fV e9)
def lR:FnScope nh mY (fG ng):=pN rfl rfl rfl ∅
def ud(F:Fun K "_law_bag" "_law_bag" ng f fd)(Kz:mg "abs" = none):FnOk P w K mg base l8 1 f fd mY (nj K 2 jX):=pV (m:=nu) F lR λg B d s H E j=>
 fm (fY (i:=2) lR.nd<|fO Hj Kz E1<|eZ (eW 0) fF)
 (fm (kX (iJ (BQ j.units) (eW 2)<|fC GB e9 e9)
 (fq<|fY (i:=2) lR.nd e9)
 ir)
 (fq<|fV<|lW<|eZ (eW 2)<|eZ (fC p6 (fC gg (fC gg (fC p5 (fC p6 (eW 0) e9) e9)<|fC p5 e9<|eW 1) e9) e9) fF))
def qN:FnScope kT kR (fG kI):=pN rfl rfl rfl ∅
def qP(F:Fun K "_law_mixed" "_law_mixed" kI f fd):FnOk P w K mg base l8 1 f fd kR (nj K 1 g8):=pV (m:=kK) F qN λg B d s H E j=>
 fm (sR (fC p6 (fC gg (fC p5 (gO (eW 0) e9) e9) e9) e9)<|qg (eW 0) e9)
 (fq<|fV<|fC A1 (fC p6 (fC p5 (gO (eW 0) e9) e9) e9) e9)
def iy:FnScope jz iQ (fG kQ):=pN rfl rfl rfl ∅
def qu(F:Fun K "_law_digit" "_law_digit" kQ f fd)(Kc:mg "range" = none)(Km:nH P w K mg base 1 "_law_mixed" kR g8):FnOk P w K mg base l8 2 f fd iQ (nj K 2 fL):=pV (m:=jy) F iy λj B g s H E d=>
 fm (kX (iJ (BP d.units) (gO (eW 0) e9) e9)
 (fm (fY (i:=2) iy.nd<|fC p6 (gO (eW 0) e9)<|eW 1)
 (fm (sR (fC A1 (gO (eW 0) e9)<|eW 1)<|qg (eW 0) e9)
 (fq<|fV<|eW 2)))
 ir)
 (fm (fY (i:=2) iy.nd<|Aj Km d<|eW 0)
 (fm (kX (iJ (BP d.units) (eW 1) e9)
 (fq (iU bI rfl (gw Kc e9) (fW (i:=3) iy.nd)
 (fq<|fY (i:=2) iy.nd<|fC gg (fC p5 (eW 2) e9)<|Aj Km d<|eW 0)))
 ir)
 (fq<|fV<|fC p6 (eW 2)<|eW 1)))
def ja:FnScope kW kY (fG kO):=pN rfl rfl rfl ∅
def qm(F:Fun K "_law_order" "_law_order" kO f fd)(Kh:mg "list" = none)(Kc:mg "range" = none)(Ke:mg "len" = none)(Kf:mg "tuple" = none)(Kg:nH P w K mg base 2 "_law_digit" iQ fL):FnOk P w K mg base l8 3 f fd kY (nj K 2 iP):=pV (m:=kJ) F ja λg B d s H E j=>
 fm (fY (i:=2) ja.nd<|gP (yo rfl) Kh wC<|eZ (gP oZ Kc oS<|eZ e9<|eZ (fC gg (eW 1) e9) fF) fF)
 (fm (fY (i:=3) ja.nd<|lW fF)
 (fm (iU bI rfl (gw Kc<|eW 1) (fW (i:=4) ja.nd)
 (fq<|vE<|C6 PySem.F.slot_list_append PySem.F.type_list_append An (eW 3)<|eZ (C6 PySem.F.slot_list_pop PySem.F.type_list_pop B6 (eW 2)<|eZ (w9 Kg j (eW 0)<|fO jl Ke gW<|eZ (eW 2) fF) fF) fF))
 (fq<|fV<|gP (mO rfl) Kf kU<|eZ (eW 3) fF)))
def m5:FnScope iV iZ (fG iX):=pN rfl rfl rfl ∅
def m8(F:Fun K "_law_exchanged" "_law_exchanged" iX f fd):FnOk P w K mg base l8 1 f fd iZ (nj K 2 gr):=pV (m:=iY) F m5 λg B d s H E j=>
 fq (fV<|fC gg (fC gg (Dd (eW 0) vj<|uZ<|fC mT (eW 1) e9)<|nk<|eZ (gO (eW 0)<|eW 1)<|eZ (gO (eW 0)<|fC mT (eW 1) e9) fF)<|Dd (eW 0) (uZ<|fC gg (eW 1) e9) vj)
def iR:FnScope mC l_ (fG lO):=pN rfl rfl rfl ∅
def sD(F:Fun K "_law_some" "_law_some" lO f fd)(Kf:mg "tuple" = none)(Kc:mg "range" = none)(Kg:nH P w K mg base 2 "_law_digit" iQ fL)(KA:nH P w K mg base 1 "_law_exchanged" iZ gr):FnOk P w K mg base l8 3 f fd l_ (nj K 3 jf):=pV (m:=lJ) F iR λj B g s H E d=>
 fm (fY (i:=3) iR.nd<|gP (mO rfl) Kf kU<|eZ (gP oZ Kc oS<|eZ e9<|eZ (fC gg (eW 1) e9) fF) fF)
 (fm (iU bI rfl (gw Kc<|w9 Kg d (eW 0)<|fC gg (eW 2) e9) (fW (i:=4) iR.nd)
 (fm (fY (i:=5) iR.nd<|fC gg e9<|w9 Kg d (eW 0)<|fC mT (eW 1) e9)
 (fq (kX (iJ (BQ d.units) (gO (eW 3)<|fC mT (eW 5) e9)<|gO (eW 3)<|eW 5)
 (fq<|fY (i:=3) iR.nd<|w9 KA d (eW 3)<|eW 5)
 ir))))
 (fq<|fV<|eW 3))
def jB:FnScope mD lH (fG lG):=pN rfl rfl rfl ∅
def rH(F:Fun K "_law_long" "_law_long" lG f fd)(Kc:mg "range" = none)(Ke:mg "len" = none):FnOk P w K mg base l8 1 f fd lH (nj K 1 iM):=pV (m:=lY) F jB λg B d s H E j=>
 fm (fY (i:=1) jB.nd e9)
 (fm (iU bI rfl (gw Kc<|fO jl Ke gW<|eZ (eW 0) fF) (fW (i:=2) jB.nd)
 (fq<|fY (i:=1) jB.nd<|fC gg (eW 1)<|fO jl Ke gW<|eZ (nT (N:=["_law_j", "_law_order_here", "_law_i"]) (cap:=[none,some 0,some 2]) rfl (rU ["_law_order_here", "_law_i"] rfl ∅ ∅ ∅ ∅ ∅ (bX.mpr ⟨by first|exact Or.inl rfl|exact Or.inr rfl,(bX.mpr ⟨by first|exact Or.inl rfl|exact Or.inr rfl,(nofun)⟩)⟩) ⟨rfl,by decide +kernel,⟨rfl,by decide +kernel,trivial⟩⟩) (gw Kc<|eW 2) (λ_ _ _ _=>fW (i:=0) (show(["_law_j", "_law_order_here", "_law_i"]:am).Nodup by decide +kernel) rfl (Or.inl rfl)<|.inr rfl) (λ_ _ _ _=>uX<|iJ (BP j.units) (gO (eW 1)<|eW 0)<|gO (eW 1)<|eW 2) λ_ _ _ _=>eW 0) fF))
 (fq<|fV<|eW 1))
def lD:FnScope j4 j8 (fG kh):=pN rfl rfl rfl ∅
def pF(F:Fun K "_law_stands" "_law_stands" kh f fd)(KC:mg "sorted" = none):FnOk P w K mg base l8 1 f fd j8 (nj K 1 iz):=pV (m:=j6) F lD λg B d s H E j=>
 fm (fY (i:=1) lD.nd<|fO Ce KC w6<|eZ (eW 0) fF)
 (fq<|fV<|qC (IF j.units) (nT (N:=["_law_thing", "_law_some_here"]) (cap:=[none,some 1]) rfl (rU ["_law_some_here"] rfl ∅ ∅ ∅ ∅ ∅ (bX.mpr ⟨by first|exact Or.inl rfl|exact Or.inr rfl,(nofun)⟩) ⟨rfl,by decide +kernel,trivial⟩) (zN<|eW 0) (λ_ _ _ _=>fW (i:=0) (show(["_law_thing", "_law_some_here"]:am).Nodup by decide +kernel) rfl (Or.inl rfl)<|.inr rfl) (λ_ _ _ _=>nP) λ_ _ _ _=>zu (eW 1)<|eZ (eW 0) fF)<|lW<|eZ (lW<|eZ e9<|eZ e9<|eZ e9<|eZ e9 fF)<|eZ (lW<|eZ e9<|eZ e9<|eZ e9<|eZ e9 fF) fF)
def f7:FnScope jn jo (fG jm):=pN rfl rfl rfl ∅
def nN(F:Fun K "_law_has_four" "_law_has_four" jm f fd)(Ke:mg "len" = none)(Kc:mg "range" = none)(KD:nH P w K mg base 1 "_law_stands" j8 iz):FnOk P w K mg base l8 2 f fd jo (nj K 1 gh):=pV (m:=jh) F f7 λg B d s H E j=>
 fm (fY (i:=1) f7.nd<|fO jl Ke gW<|eZ (eW 0) fF)
 (fm (iU bI rfl (gw Kc<|eW 1) (fW (i:=2) f7.nd)
 (fq (iU bI rfl (jd Kc (fC gg (eW 2) e9)<|eW 1) (fW (i:=3) f7.nd)
 (fq (iU bI rfl (jd Kc (fC gg (eW 3) e9)<|eW 1) (fW (i:=4) f7.nd)
 (fq (iU bI rfl (jd Kc (fC gg (eW 4) e9)<|eW 1) (fW (i:=5) f7.nd)
 (fq (kX (xX<|Aj KD j<|lW<|eZ (gO (eW 0)<|eW 2)<|eZ (gO (eW 0)<|eW 3)<|eZ (gO (eW 0)<|eW 4)<|eZ (gO (eW 0)<|eW 5) fF)
 (fq<|fV<|nk<|eZ (fC gg (eW 2) e9)<|eZ (fC gg (eW 3) e9)<|eZ (fC gg (eW 4) e9)<|eZ (fC gg (eW 5) e9) fF)
 ir)))))))))
 (fq<|fV<|qo))
def r_:FnScope lK lQ (fG lU):=pN rfl rfl rfl ∅
def rG(F:Fun K "_law_back" "_law_back" lU f fd)(Kf:mg "tuple" = none)(Kc:mg "range" = none)(Ke:mg "len" = none):FnOk P w K mg base l8 1 f fd lQ (nj K 1 iG):=pV (m:=lX) F r_ λg B d s H E j=>
 fq (fV<|gP (mO rfl) Kf kU<|eZ (nT (N:=["_law_thing", "_law_order_here"]) (cap:=[none,some 0]) rfl (rU ["_law_order_here"] rfl ∅ ∅ ∅ ∅ ∅ (bX.mpr ⟨by first|exact Or.inl rfl|exact Or.inr rfl,(nofun)⟩) ⟨rfl,by decide +kernel,trivial⟩) (jd Kc e9<|fC gg (fO jl Ke gW<|eZ (eW 0) fF) e9) (λ_ _ _ _=>fW (i:=0) (show(["_law_thing", "_law_order_here"]:am).Nodup by decide +kernel) rfl (Or.inl rfl)<|.inr rfl) (λ_ _ _ _=>nP) λ_ _ _ _=>fC gg (zu (eW 1)<|eZ (eW 0) fF) e9) fF)
def mz:FnScope Ad CT (fG Bg):=pN rfl rfl rfl ∅
set_option smartUnfolding false in
theorem EF(F:Fun K "law" "law" Bg f fd)(Kc:mg "range" = none)(Kl:mg "max" = none)(KG:mg "min" = none)(Ke:mg "len" = none)(KH:nH P w K mg base 1 "_law_bag" mY jX)(KI:nH P w K mg base 1 "_law_cell" lN jk)(KJ:nH P w K mg base 3 "_law_order" kY iP)(Kg:nH P w K mg base 2 "_law_digit" iQ fL)(KL:nH P w K mg base 3 "_law_some" l_ jf)(Ko:nH P w K mg base 4 "pairs_below" jG fX)(KN:nH P w K mg base 1 "_law_long" lH iM)(KO:nH P w K mg base 2 "_law_has_four" jo gh)(KP:nH P w K mg base 1 "_law_back" lQ iG):FnOk P w K mg base l8 5 f fd CT (nj K 1 pP):=pV (m:=yG) F mz λj B g s H E d=>
 fm (iU bI rfl (gw Kc<|fO (EN rfl) Kl yx<|eZ e9<|eZ (fO (D7 rfl) KG Fq<|eZ (fO jl Ke gW<|eZ (eW 0) fF)<|eZ e9 fF) fF) (fW (i:=1) mz.nd)
 (fm (fY (i:=2) mz.nd<|w9 KH d (w9 KI d (eW 0)<|eW 1)<|fC gg e9<|eW 1)
 (fm (fY (i:=3) mz.nd<|w9 KJ d (eW 2)<|fC gg e9<|w9 Kg d (eW 2) e9)
 (fm (kX (iJ (Gx d.units) (w9 Kg d (eW 2) e9) e9)
 (fq<|fY (i:=3) mz.nd<|Jp KL d (eW 2) (fC gg e9<|w9 Kg d (eW 2) e9) e9)
 ir)
 (fm (fY (i:=4) mz.nd<|fO jl Ke gW<|eZ (Aj Ko d<|eW 3) fF)
 (fm (fY (i:=5) mz.nd<|Aj KN d<|eW 3)
 (fm (kX (AW.at<|GN (iJ (BQ d.units) (eW 4)<|eW 5)<|DR<|iJ (FY d.units) (qC (Gx d.units) (eW 4)<|eW 5)<|qC Hv (Aj KO d<|eW 3)<|qo)
 (fq<|fV yW)
 ir)
 (fq (kX (iJ (FY d.units) (fO jl Ke gW<|eZ (Aj Ko d<|Aj KP d<|eW 3) fF)<|eW 4)
 (fq<|fV yW)
 ir)))))))))
 (fq<|fV yW)
end
end K50
namespace Bl
open L2
abbrev cnt:ae->Int->Int
 | [],_=>0
 | x::l,j=>(if j<=x then 1 else 0)+cnt l j
abbrev Below (xs ys:ae):Prop:=∀(i:Nat) (j:Int),cnt (xs.take i) j<=cnt (ys.take i) j
def Below.refl(xs:ae):Below xs xs:=λ_ _=>dm _
def Below.trans{a:ae}(h:Below a b)(k:Below b c):Below a c:=λi j=>Int.le_trans (h i j)<|k i j
def cnt_append(a b:ae)(j:Int):cnt (a++b) j=cnt a j+cnt b j:=by
 induction a with
 | nil=>simp[cnt]
 | cons x a d=>rw[List.cons_append,cnt,cnt,d];lia
def oX(l:ae)(j:Int):0<=cnt l j:=by
 induction l with
 | nil=>exact dm 0
 | cons x l d=>rw[cnt];split<;>lia
def q_{a:ae}(p:a.Perm b)(j:Int):cnt a j=cnt b j:=by
 induction p with
 | nil=>rfl
 | cons x _ d=>rw[cnt,cnt,d]
 | swap x y l=>rw[cnt,cnt,cnt,cnt];lia
 | trans _ _ h1 f=>exact h1.trans f
def take_snoc{l:ae}{i:Nat}(h:i<l.length):l.take (i+1)=l.take i++[l[i]]:=by
 rw[List.take_succ,aH h];rfl
def jV{l:ae}{i:Nat}(h:i<l.length)(j:Int):cnt (l.take<|i+1) j=cnt (l.take i) j+(if j<=l[i]then 1 else 0):=by
 rw[take_snoc h,cnt_append,cnt,cnt];lia
def k_{l:ae}{p:Nat}(h:p<l.length)(v:Int)(i:Nat)(j:Int) :
  cnt ((l.set p v).take i) j=cnt (l.take i) j+(if p<i then(if j<=v then 1 else 0)-(if j<=l[p]then 1 else 0)else 0):=by
 induction l generalizing p i with
 | nil=>cases h
 | cons x l d=>
  cases i with
  | zero=>simp[cnt]
  | succ i=>
   cases p with
   | zero=>
    show(if j<=v then 1 else 0)+cnt (l.take i) j=(if j<=x then 1 else 0)+cnt (l.take i) j+_;rw[aR<|Nat.succ_pos _];show _=(if j<=x then 1 else 0)+cnt (l.take i) j+((if j<=v then 1 else 0)-(if j<=x then 1 else 0))
    lia
   | succ p=>
    show(if j<=x then 1 else 0)+cnt ((l.set p v).take i) j=(if j<=x then 1 else 0)+cnt (l.take i) j+_;have f:p<l.length:=dI h;rw[d f];by_cases z:p<i
    ·rw[aR z,aR<|Nat.succ_lt_succ z];show _=(if j<=x then 1 else 0)+cnt (l.take i) j+((if j<=v then 1 else 0)-(if j<=l[p]then 1 else 0))
     lia
    ·rw[aT z,aT λy=>z<|dI y]
     lia
def rW{l:ae}{p q:Nat}(hp:p<l.length)(hq:q<l.length)(hpq:p<q)(h:l[p]<l[q]):Below l ((l.set p l[q]).set q l[p]):=by
 intro i j;have d:q<(l.set p l[q]).length:=by rw[bG];exact hq
 rw[k_ d,k_ hp];have e:(l.set p l[q])[q]=l[q]:=by rw[d_<|bF hpq]
 rw[e]
 (repeat' split)<;>lia
abbrev ow (a b:ae):Prop:=a.length=b.length/\∀(p:Nat) (h:p<a.length),b[(a[p]-1).toNat]?=some ((p:Int)+1)
def Cj(n:Nat)(i:Int)(h0:0<=i)(h1:i<=n):cnt (fj 1<|n+1) (i+1)=n-i:=by
 unfold fj;rw[show((n:Int)+1-1).toNat=n by lia]
 induction n with
 | zero=>simp[cnt];lia
 | succ n d=>
  rw[List.range_succ,cN,cnt_append];show _+((if i+1<=1+(n:Int)then 1 else 0)+0)=_;by_cases z:i<=n
  ·rw[d z,aR ()];lia
  ·have e:i=(n:Int)+1:=()
   rw[aT ()];have:cnt ((List.range n).map λk:Nat=>(1:Int)+k) (i+1)=0:=by
    have j:∀l:ae,(∀x∈l,x<i+1)->cnt l (i+1)=0:=λl=>by
     induction l with
     | nil=>intro _;rfl
     | cons x l d=>intro h;rw[cnt,aT (by have:=h x a_;lia),d λy hy=>h y<|aU _ hy];rfl
    refine j _ λx f=>?_;obtain⟨k,g,rfl⟩:=dF.mp f;have:=eo.mp g
    lia
   rw[this];lia
def nB{x y:ae}{n:Nat}(px:x.Perm<|fj 1<|n+1)(py:y.Perm<|fj 1<|n+1):(∀(i q:Nat),i<n->q<n->cnt (x.take<|i+1) ((q:Int)+1)<=cnt (y.take<|i+1) ((q:Int)+1)) ↔ Below x y:=by
 have m:x.length=n:=by rw[px.length_eq,fQ];lia
 have p:y.length=n:=by rw[py.length_eq,fQ];lia
 constructor
 ·intro h i j;have rx:∀z∈x,1<=z/\z<(n:Int)+1:=λz d=>fM.mp<|px.mem_iff.mp d;have ry:∀z∈y,1<=z/\z<(n:Int)+1:=λz d=>fM.mp<|py.mem_iff.mp d;have low:∀(l:ae),(∀z∈l,j<=z)->cnt l j=l.length:=λl=>by
   induction l with
   | nil=>intro _;rfl
   | cons z l k=>intro g;rw[cnt,aR<|g z a_,k λy hy=>g y<|aU _ hy,bE];lia
  have f:∀(l:ae),(∀z∈l,z<j)->cnt l j=0:=λl=>by
   induction l with
   | nil=>intro _;rfl
   | cons z l k=>intro g;rw[cnt,aT (by have:=g z a_;lia),k λy hy=>g y<|aU _ hy];rfl
  by_cases B:j<=1
  ·rw[low _ λz d=>by have:=(rx z<|cz d).1;lia,low _ λz d=>by have:=(ry z<|cz d).1;lia,bB,bB,m,p];exact dm _
  ·by_cases C:(n:Int)+1<=j
   ·rw[f _ λz d=>by have:=(rx z<|cz d).2;lia,f _ λz d=>by have:=(ry z<|cz d).2;lia];exact dm _
   ·obtain⟨q,rfl⟩:∃q:Nat,j=(q:Int)+1:=⟨(j-1).toNat,()⟩;by_cases hi:i<=n
    ·cases i with
     | zero=>simp[cnt]
     | succ i=>exact h i q () ()
    ·rw[dH (),dH (),q_ px,q_ py];exact dm _
 ·exact λh i q _ _=>h (i+1)<|(q:Int)+1
end Bl
namespace Am
open PySem L2 Bl
abbrev gQ:Nat->Int->ae->ae
 | 0,_,ms=>ms
 | _+1,_,[]=>[]
 | x+1,d,m::ms=>(m+d)::gQ x d ms
theorem ny:∀(x:Nat) (d:Int) (ms:ae),(gQ x d ms).length=ms.length
 | 0,_,_=>rfl
 | _+1,_,[]=>rfl
 | x+1,d,m::ms=>cY (·+1)<|ny x d ms
theorem lz:∀(x:Nat) (d:Int) (ms:ae) (j:Nat),(gQ x d ms)[j]?=(ms[j]?).map λm=>if j<x then m+d else m
 | 0,d,ms,j=>by simp[gQ]
 | _+1,_,[],j=>by simp[gQ]
 | x+1,d,m::ms,0=>by simp[gQ]
 | x+1,d,m::ms,j+1=>by
  show(gQ x d ms)[j]?=_;rw[lz x d ms j];simp
theorem oH:∀(x:Nat) (d:Int) (ms:ae) (m:Int),ms[x]?=some m->(gQ x d ms).set x (m+d)=gQ (x+1) d ms
 | 0,d,[],m,h=>by simp at h
 | 0,d,k::ms,m,h=>by simp at h;subst h;rfl
 | x+1,d,[],m,h=>by simp at h
 | x+1,d,k::ms,m,h=>by
  show(k+d)::(gQ x d ms).set x (m+d)=(k+d)::gQ (x+1) d ms;rw[oH x d ms m<|by simpa using h]
abbrev jW (n:Nat)(xs ys:ae)(t:Nat):ae:=(List.range n).map λ(j:Nat)=>cnt (xs.take t) ((j:Int)+1)-cnt (ys.take t) ((j:Int)+1)
def iF{n:Nat}:(jW n xs ys t).length=n:=by simp[jW]
def jT{n:Nat}{xs ys:ae}{j:Nat}(h:j<n):(jW n xs ys t)[j]?=some (cnt (xs.take t) ((j:Int)+1)-cnt (ys.take t) ((j:Int)+1)):=by
 unfold jW;rw[br,cE h];rfl
def BO{n:Nat}:jW n xs ys 0=List.replicate n 0:=by
 unfold jW;refine cT λj=>?_;rw[br,dh];by_cases d:j<n
 ·rw[cE d,aR d];simp[cnt]
 ·rw[cR<|by simpa using d,aT d];rfl
def t8{n:Nat}{xs ys:ae}{t:Nat}(hx:t<xs.length)(hy:t<ys.length):gQ ys[t].toNat (-1) (gQ xs[t].toNat 1 (jW n xs ys t))=jW n xs ys (t+1):=by
 refine cT λj=>?_;rw[lz,lz];by_cases d:j<n
 ·rw[jT d,jT d,jV hx,jV hy,d7,d7];congr 1;have e1:(j<xs[t].toNat)=((j:Int)+1<=xs[t]):=by apply propext;lia
  have e2:(j<ys[t].toNat)=((j:Int)+1<=ys[t]):=by apply propext;lia
  dsimp[e1,e2];split<;>split<;>lia
 ·rw[cR<|by rw[iF];lia,cR<|by rw[iF];lia];rfl
theorem oY:∀{ns:ae},ns≠[]->∃m,maxOf ns=some m
 | [],h=>absurd rfl h
 | [x],_=>⟨x,rfl⟩
 | x::y::ys,_=>by
  obtain⟨m,e⟩:=oY (ns:=y::ys) (by simp);exact⟨if m>x then m else x,by show(maxOf (y::ys)).map _=_;rw[e];rfl⟩
def yF{n:Nat}{ns:ae}(h:fh S n=some (ns.map .int))(h0:ns≠[]):∃m,yD (.ref n) S=.ok (.int m) S/\m∈ns/\∀a∈ns,a<=m:=by
 obtain⟨m,e⟩:=oY h0;refine⟨m,?_,o6 e⟩;show opt (fh S n) _=_;rw[h,gK,ints_map,gK,e,gK]
def Hw{S:e_}{n:Nat}{x:A}{k:Nat}(h:fh S n=some [x])(hk:k<=16777216):nL (.ref n) (.int k) S=.ok (.ref S.length) (S++[.lst<|List.replicate k x]):=by
 show opt (fh S n) _=_;rw[h,gK];have e:(List.replicate k [x]).flatten=List.replicate k x:=by
  induction k with
  | zero=>rfl
  | succ k d=>rw[bS,b6,d ()];rfl
 rw[gz ⟨(),(),by rw[bW,dB];simpa using hk⟩,dB,e]
def sL{xs:ae}{n:Int}(h:xs.Perm<|fj 1<|n+1)(hn:0<=n):(xs.length:Int)=n:=by
 rw[h.length_eq,fQ];lia
def r8{xs:ae}{n x:Int}(h:xs.Perm<|fj 1<|n+1)(hx:x∈xs):1<=x/\x<=n:=by
 have:=fM.mp (h.mem_iff.mp hx)
 lia
end Am
namespace Kr
open Bl L2
theorem cnt_none{j:Int}:∀{a:ae},(∀x∈a,x<j)->cnt a j=0
 | [],_=>rfl
 | x::a,h=>by
  have h0:=h x<|a_ ..;have:=cnt_none (a:=a) λy hy=>h y<|aU _ hy;show(if j<=x then 1 else 0)+cnt a j=_;rw[aT (),this];rfl
abbrev two (n:Nat)(i j:Int):ae:=(fj 1<|(n:Int)+1).take (i-1).toNat++[j]++((fj 1<|(n:Int)+1).drop i.toNat).take (j-1-i).toNat++[i]++(fj 1<|(n:Int)+1).drop j.toNat
def fS(n:Nat):(fj 1<|(n:Int)+1).length=n:=by rw[fQ];lia
def gy{n p:Nat}(h:p<n):(fj 1<|(n:Int)+1)[p]?=some ((p:Int)+1):=by
 unfold fj;rw[br,cE ()];simp;lia
def qj{n:Nat}{i j:Int}(h1:1<=i)(h2:i<j)(h3:j<=n):((fj 1<|(n:Int)+1).set (i-1).toNat j).set (j-1).toNat i=two n i j:=by
 unfold two;have f:=fS n;generalize fj 1 ((n:Int)+1)=R at f;have a1:(R.take (i-1).toNat).length=(i-1).toNat:=by rw[bB];lia
 have a2:((R.drop i.toNat).take (j-1-i).toNat).length=(j-1-i).toNat:=by rw[bB,cV];lia
 apply cT;intro p;rw[dJ,bG,dJ];by_cases p1:p<(i-1).toNat
 ·rw[aT (),aT ()];dsimp[bx];rw[aV (),List.getElem?_take,aR p1]
 ·by_cases p2:p=(i-1).toNat
  ·rw[aT (),aR (),aR ()];dsimp[bx];rw[aY (),a1,aV<|by simp;lia];simp[p2]
  ·by_cases p3:p<(j-1).toNat
   ·rw[aT (),aT ()];dsimp[bx];rw[aY (),a1,aY<|by simp;lia,aV<|by rw[a2];simp;lia,List.getElem?_take,aR<|by simp;lia,eG];congr 1;simp;lia
   ·by_cases d:p=(j-1).toNat
    ·rw[aR d.symm,aR ()];dsimp[bx];rw[aY (),a1,aY<|by simp;lia,aY<|by rw[a2];simp;lia,a2,aV<|by simp;lia];have:p-(i-1).toNat - [j].length-(j-1-i).toNat=0:=by simp;lia
     rw[this];rfl
    ·rw[aT λz=>d z.symm,aT ()];dsimp[bx];rw[aY (),a1,aY<|by simp;lia,aY<|by rw[a2];simp;lia,a2,aY<|by simp;lia,eG];congr 1;simp;lia
def Af{n:Nat}{i j:Int}(h1:1<=i)(h2:i<j)(h3:j<=n):(two n i j).Perm (fj 1<|(n:Int)+1):=by
 rw[<- qj h1 h2 h3];have d:=fS n;have e1:(fj 1<|(n:Int)+1)[(j-1).toNat]'()=j:=by
  have:=gy (n:=n) (p:=(j-1).toNat) ();rw[aH ()]at this;have:=aL this;lia
 have e2:(fj 1<|(n:Int)+1)[(i-1).toNat]'()=i:=by
  have:=gy (n:=n) (p:=(i-1).toNat) ();rw[aH ()]at this;have:=aL this;lia
 have:=List.set_set_perm (as:=fj 1<|(n:Int)+1) (i:=(i-1).toNat) (j:=(j-1).toNat) () ();rw[e1,e2]at this;exact this
end Kr
namespace Nu
open PySem L2
abbrev G2:Nat->Nat
 | 0=>1
 | n+1=>(n+1) * G2 n
abbrev JT:Nat->ae->Nat->ae
 | 0,_,_=>[]
 | n+1,l,m=>l.getD (m / G2 n) 0::JT n (l.eraseIdx<|m / G2 n) (m % G2 n)
end Nu
namespace K50
open PySem L2 Am
abbrev w_ (S:e_)(b:Nat):Prop:=∃g st:Int,fh S b=some [.int g,.int st]/\0<=g/\0<=st/\st<4294967296
def w_.kp{c:Nat->Prop}(h:w_ S b)(k:Kp c S S')(hb:¬c b):w_ S' b:=by
 obtain⟨g,st,e,q⟩:=h;exact⟨g,st,k.lst b _ hb e,q⟩
def Cy{ns:ae}{k:Int}(h0:0<=k):∃c,jk [.frz<|ns.map .int,.int k] S=.ok (.int c) S:=by
 unfold jk lT l9;dsimp[gf,bools,ko,Nat.reduceAdd,Nat.reduceSub,aP];by_cases d:k<(ns.length:Int)
 ·have hn:k.toNat<ns.length:=()
  have f:j7 (ns.map A.int) k=some (.int ns[k.toNat]):=gT (k:=k.toNat) ()<|aH hn;rw[bP d];dsimp[gf,bools,f];exact⟨_,rfl⟩
 ·rw[bz d];dsimp[gf,bools];exact⟨_,rfl⟩
def BN{S:e_}{c k:Int}(h0:0<=k)(h1:k<=100):∃S',jX [.int c,.int k] S=.ok (.ref S.length) S'/\w_ S' S.length/\mQ S S':=by
 have e3:El (.int 10) (.int 18)=λS=>R.ok (.int 1000000000000000000) S:=by
  funext S;exact gz ⟨by decide,by decide,by decide⟩
 have d:∀x:Int,qS (.int x) (.int 2147483647)=λS=>R.ok (.int<|x % 2147483647) S:=λx=>by funext S;exact sM ⋯
 have f:∀x:Int,nL (.int x) (.int 69621)=λS=>R.ok (.int<|x * 69621) S:=λx=>by funext S;exact mul_r ⋯ ⋯
 have g:∀x:Int,nL (.int 7919) (.int x)=λS=>R.ok (.int<|7919 * x) S:=λx=>by funext S;exact Aw ⋯ ⋯
 have p:∀x:Int,0<=x % 2147483647:=λx=>d8 _ ⋯;have m:∀x:Int,x % 2147483647<4294967296:=λx=>by have:=dc x (show(0:Int)<2147483647 by decide);lia
 have q:0<=(if c<0 then -c else c):=by split<;>lia
 unfold jX nu nh;dsimp[gf,bools,ko,Nat.reduceAdd,Nat.reduceSub,e3,d,f,g];by_cases j:(if c<0 then -c else c)<1000000000000000000
 ·rw[bP j];dsimp[gf,bools,e3,d,f,g];exact⟨_,rfl,⟨_,_,fZ,dm 0,p _,m _⟩,Kp.refl.lay⟩
 ·rw[bz j];dsimp[gf,bools,e3,d,f,g];exact⟨_,rfl,⟨_,_,fZ,q,p _,m _⟩,Kp.refl.lay⟩
def AK{S:e_}{g st:Int}(hl:fh S b=some [.int g,.int st])(hs:0<=st)(hs2:st<4294967296):∃d st',g8 [.ref b] S=.ok (.int d) (S.set b<|.lst [.int g,.int st'])/\0<=st'/\st'<4294967296:=by
 have f:=nA hl;have j:sC 2 1=some 1:=nZ rfl ⋯;have e1:0<=(st * 48271+11) % 2147483647:=d8 _ ⋯;have e2:(st * 48271+11) % 2147483647<2147483647:=dc _ ⋯;refine⟨(st * 48271+11) % 2147483647 * 16807 % 2147483629 / 8,(st * 48271+11) % 2147483647,?_,e1,()⟩;unfold g8 kK kT;rw[mL];simp[hl,AX,Bd,j,Aw (show -18446744073709551616<st by lia) (),sM<|show(0:Int)<2147483647 by decide,kg f,Ak (show(0:Int)<8 by decide) ⋯,Aw (show -18446744073709551616<(st * 48271+11) % 2147483647 by lia) (),sM<|show(0:Int)<2147483629 by decide]
def digit{m:Int}(h:w_ S b)(h1:1<=m)(h2:m<=1000):∃d S',fL [.ref b,.int m] S=.ok (.int d) S'/\0<=d/\d<m/\w_ S' b/\Kp (·=b) S S':=by
 obtain⟨g,st,z,hg,hs,p⟩:=h;have G:=nA z;have i0:sC 2 0=some 0:=nZ rfl ⋯;have j:∀d q f:Int,0<=d->d<m->0<=q->0<=f->f<4294967296->fL [.ref b,.int m] S=.ok (.int d) (S.set b<|.lst [.int q,.int f])->∃d S',fL [.ref b,.int m] S=.ok (.int d) S'/\0<=d/\d<m/\w_ S' b/\Kp (·=b) S S':=
  λd q f a1 a2 a3 C J e=>⟨d,_,e,a1,a2,⟨q,f,kg G,a3,C,J⟩,Kp.refl.set<|.inl rfl⟩
 by_cases k:0<g
 ·refine j (g % m) (g / m) st (d8 _ ()) (dc _ ()) (Int.ediv_nonneg hg ()) hs p ?_;unfold fL jy jz;rw[mL];simp[z,AX,Bd,k,sM<|show 0<m by lia,Ak (show 0<m by lia)<|show m<1073741824 by lia,i0]
 ·obtain⟨d,f,e1,F,B⟩:=AK z hs p;refine j (d % m) g f (d8 _ ()) (dc _ ()) hg F B ?_;unfold fL jy jz;rw[mL];simp[z,AX,Bd,k,sM<|show 0<m by lia,e1,show ¬(1000<m)by lia]
theorem oK:∀(l:ae) (j:Nat) (h:j<l.length),(l[j]::l.eraseIdx j).Perm l
 | x::l,0,_=>dG _
 | x::l,j+1,h=>(List.Perm.swap x _ _).trans<|List.Perm.cons x<|oK l j<|dI h
def xH{ls fs:ae}{j:Nat}(h:j<ls.length):((fs++[ls[j]])++ls.eraseIdx j).Perm (fs++ls):=by
 rw[bx];refine List.Perm.append_left fs ?_
 skip
 exact oK ls j h
def zW{d:Int}{n:Nat}(h0:0<=d)(h:d.toNat<n):seqIndex? d n=some d.toNat:=by
 unfold seqIndex?;simp
 lia
theorem pX{α β:Type}(f:α->β):∀(l:List α) (k:Nat),(l.map f).eraseIdx k=(l.eraseIdx k).map f
 | [],_=>rfl
 | _::_,0=>rfl
 | x::l,k+1=>cY (f x::·)<|pX f l k
def zm{n:Int}(h:w_ S b)(h1:1<=n)(h2:n<=20):∃(xs:ae) (S':e_),iP [.ref b,.int n] S=.ok (.tup<|xs.map .int) S'/\xs.Perm (fj 1<|n+1)/\w_ S' b/\Kp (·=b) S S':=by
 have W:b<S.length:=by obtain⟨_,_,e,_⟩:=h;exact nA e
 unfold iP kJ kW;dsimp[gf,bools,ko,Nat.reduceAdd,Nat.reduceSub,wV<|oV (show(-1000000:Int)<=1 by decide) ⋯ (show -1000000<=n+1 by lia) () (),bg];refine iO (lo:=0) (hi:=n) (S1:=S++[.lst<|(fj 1<|n+1).map .int]++[.lst []]) (ig (by dsimp[gf,bools])<|f_ () ())
  (λi τ S1=>∃(J:A) (f fs:ae),τ=[.ref b,.int n,.ref S.length,.ref<|S.length+1,J]/\fh S1 S.length=some (f.map .int)/\fh S1 (S.length+1)=some (fs.map .int)/\(f.length:Int)+i=n/\(fs++f).Perm (fj 1<|n+1)/\w_ S1 b/\Kp (·=b) S S1)
  (λr=>∃(xs:ae) (S':e_),RS.end (RS.seq r _)=.ok (.tup<|xs.map .int) S'/\xs.Perm (fj 1<|n+1)/\w_ S' b/\Kp (·=b) S S') ?_ ?_ ?_
 ·refine⟨.unb,fj 1<|n+1,[],rfl,jx fZ,?_,by rw[fQ];lia,dG _,h.kp (c:=λ_=>False) (Kp.refl.lay.lay) λz=>z,Kp.refl.lay.lay⟩;have:fh (S++[.lst<|(fj 1<|n+1).map .int]++[.lst []]) (S++[O.lst<|(fj 1<|n+1).map .int]).length=some []:=fZ;simpa using this
 ·rintro i τ S1 hi ⟨J,f,fs,rfl,G,B,hn,C,L,K⟩;left;obtain⟨d,T,e2,Z,d1,N,j⟩:=digit (m:=(f.length:Int)) L () ();have p:=j.lst S.length _ () G;have k:=j.lst (S.length+1) _ () B;have F:d.toNat<f.length:=()
  have V:=nA k;have U:=nA p;have Y:fs.length<=20:=by
   have:=C.length_eq;rw[bg,fQ]at this
   lia
  have M:seqIndex? d f.length=some d.toNat:=zW Z F;have P:fh (T.set S.length<|.lst<|(f.map A.int).eraseIdx d.toNat) (S.length+1)=some (fs.map .int):=by rw[j5 ()];exact k
  unfold lE;dsimp[gf,bools,G,B,aP,e2,p,sU,gz<|show -(2 ^ 63:Int)<=d/\d<2 ^ 63 by lia,M,br,aH F,d7,P,GP<|show fs.length<16777216 by lia];refine⟨_,_,rfl,_,f.eraseIdx d.toNat,fs++[f[d.toNat]],rfl,?_,?_,?_,(xH F).trans C,?_,?_⟩
  ·rw[j5 (),kg U,pX]
  ·rw[kg<|by rw[bG];exact V,cN];rfl
  ·rw[List.length_eraseIdx_of_lt F];lia
  ·obtain⟨g,st,e,q⟩:=N;exact⟨g,st,by rw[j5 (),j5 ()];exact e,q⟩
  ·exact((K.trans j).set<|.inr<|aK _).set (.inr ())
 ·rintro τ S1 ⟨J,f,fs,rfl,G,B,hn,C,L,K⟩;have:f=[]:=dj.mp ();subst this;exact⟨fs,S1,by dsimp[gf,bools,B],by simpa using C,L,K⟩
def swap_perm{xs:ae}{p:Nat}(h:p+1<xs.length):(xs.take p++[xs[p+1],xs[p]]++xs.drop (p+2)).Perm xs:=by
 have e1:xs.drop p=xs[p]::xs.drop (p+1):=cg ();have e2:xs.drop (p+1)=xs[p+1]::xs.drop (p+2):=cg h;have e:xs.take p++(xs[p]::xs[p+1]::xs.drop (p+2))=xs:=by rw[<- e2,<- e1,dN]
 rw[bx];refine(List.Perm.append_left _ ?_).trans (List.Perm.of_eq e);exact List.Perm.swap _ _ _
def Jg(xs:ad)(j:Nat)(h:j<=xs.length):nK xs none (some (j:Int))=xs.take j:=by
 unfold nK;rw[HT.nR,HT.rf,List.drop_zero,c9 (),Nat.sub_zero]
def Cs{xs:ae}{k:Int}(h1:1<=k)(h2:k<xs.length)(hl:xs.length<=1000):∃ys:ae,gr [.tup<|xs.map .int,.int k] S=.ok (.tup<|ys.map .int) S/\ys.Perm xs:=by
 have d:(k-1).toNat+1<xs.length:=()
 refine⟨xs.take (k-1).toNat++[xs[(k-1).toNat+1],xs[(k-1).toNat]]++xs.drop ((k-1).toNat+2),?_,swap_perm d⟩;have a1:j7 (xs.map A.int) k=some (.int xs[(k-1).toNat+1]):=gT (k:=(k-1).toNat+1) ()<|aH d;have a2:j7 (xs.map A.int) (k-1)=some (.int xs[(k-1).toNat]):=gT (k:=(k-1).toNat) ()<|aH ();have c1:BR (.tup<|xs.map .int) none (some<|k-1) S=.ok (.tup<|(xs.take (k-1).toNat).map .int) S:=by
  have hg:¬(HT.g6 (xs.map A.int).length 0 none=0/\HT.g6 (xs.map A.int).length (xs.map A.int).length (some<|k-1)=(xs.map A.int).length):=by
   rw[show k-1=(((k-1).toNat:Nat):Int)by lia,HT.nR,aP]
   lia
  have hs:BR (.tup<|xs.map .int) none (some<|k-1) S=.ok (.tup<|nK (xs.map .int) none<|some<|k-1) S:=gz hg;rw[hs];have:=Jg (xs.map A.int) (k-1).toNat (by rw[aP];lia);rw[show(((k-1).toNat:Nat):Int)=k-1 by lia]at this;rw[this,map_take]
 have c2:BR (.tup<|xs.map .int) (some<|k+1) none S=.ok (.tup<|(xs.drop<|(k-1).toNat+2).map .int) S:=by
  have hg:¬(HT.g6 (xs.map A.int).length 0 (some<|k+1)=0/\HT.g6 (xs.map A.int).length (xs.map A.int).length none=(xs.map A.int).length):=by
   rw[show k+1=(((k+1).toNat:Nat):Int)by lia,HT.nR,aP]
   lia
  have hs:BR (.tup<|xs.map .int) (some<|k+1) none S=.ok (.tup<|nK (xs.map .int) (some<|k+1) none) S:=gz hg;rw[hs];have:=xF (xs.map A.int) ((k-1).toNat+1) (by rw[aP];lia);rw[show((((k-1).toNat+1:Nat):Int)+1)=k+1 by lia]at this;rw[this,List.map_drop]
 have p1:gu (.tup<|(xs.take (k-1).toNat).map .int) (.tup [.int xs[(k-1).toNat+1],.int xs[(k-1).toNat]]) S=.ok (.tup<|(xs.take (k-1).toNat++[xs[(k-1).toNat+1],xs[(k-1).toNat]]).map .int) S:=by
  rw[cN];exact gz<|by rw[bW,aP,bB];simp;lia
 have p2:gu (.tup<|(xs.take (k-1).toNat++[xs[(k-1).toNat+1],xs[(k-1).toNat]]).map .int) (.tup<|(xs.drop<|(k-1).toNat+2).map .int) S=.ok (.tup<|(xs.take (k-1).toNat++[xs[(k-1).toNat+1],xs[(k-1).toNat]]++xs.drop ((k-1).toNat+2)).map .int) S:=by
  conv=>rhs;rw[cN]
  exact gz<|by rw[bW];simp;lia
 unfold gr iY iV;dsimp[gf,bools,ko,Nat.reduceAdd,Nat.reduceSub,a1,a2,c1,c2,p1,p2,ni<|show 2<=16777216 by decide]
def BS{n:Int}(h:w_ S b)(h1:2<=n)(h2:n<=20):∃(xs:ae) (S':e_),jf [.ref b,.int n,.int 10] S=.ok (.tup<|xs.map .int) S'/\xs.Perm (fj 1<|n+1):=by
 unfold jf lJ mC;dsimp[gf,bools,ko,Nat.reduceAdd,Nat.reduceSub,nX<|oV (show(-1000000:Int)<=1 by decide) ⋯ (show -1000000<=n+1 by lia) () ()];obtain⟨d,S1,e1,P,M,B,O⟩:=digit (m:=10+1) h ⋯ ⋯;refine iO (lo:=0) (hi:=d) (S1:=S1) (show mE _ _=_ from ig (by dsimp[gf,bools,e1])<|f_ () ())
  (λw τ S'=>∃(p z:A) (fs:ae),τ=[.ref b,.int n,.int 10,.tup<|fs.map .int,p,z]/\fs.Perm (fj 1<|n+1)/\w_ S' b) (λr=>∃(xs:ae) (S':e_),RS.end (RS.seq r _)=.ok (.tup<|xs.map .int) S'/\xs.Perm (fj 1<|n+1))
  ⟨_,_,fj 1<|n+1,rfl,dG _,B⟩ ?_ ?_
 ·rintro w τ C hw ⟨p,z,fs,rfl,g,F⟩;left;have G:(fs.length:Int)=n:=by rw[g.length_eq,fQ];lia
  obtain⟨q,K,e3,T,N,j,U⟩:=digit (m:=n-1) F () ();have a1:j7 (fs.map A.int) (1+q-1)=some (.int fs[q.toNat]):=gT (k:=q.toNat) ()<|aH ();have a2:j7 (fs.map A.int) (1+q)=some (.int fs[q.toNat+1]):=gT (k:=q.toNat+1) ()<|aH ();obtain⟨ys,J,L⟩:=Cs (S:=K) (xs:=fs) (k:=1+q) () () ();unfold mS;dsimp[gf,bools,e3,a1,a2];by_cases f:fs[q.toNat]<fs[q.toNat+1]
  ·rw[bP f];dsimp[gf,bools,J];exact⟨_,_,rfl,_,_,ys,rfl,L.trans g,j⟩
  ·rw[bz f];dsimp[gf,bools];exact⟨_,_,rfl,_,_,fs,rfl,g,j⟩
 ·rintro τ C ⟨p,z,fs,rfl,g,F⟩;exact⟨fs,C,by dsimp[gf,bools],g⟩
abbrev prs (n:Int):ad:=(fj 1 n).flatMap λi=>(fj (i+1)<|n+1).map λj=>.tup [.int i,.int j]
def Bu{n:Int}{x:A}:x∈prs n ↔ ∃i j:Int,1<=i/\i<j/\j<=n/\x=.tup [.int i,.int j]:=by
 unfold prs;rw[List.mem_flatMap];constructor
 ·rintro⟨i,hi,d⟩;obtain⟨j,f,rfl⟩:=dF.mp d;rw[fM]at hi f;exact⟨i,j,(),(),(),rfl⟩
 ·rintro⟨i,j,h1,k,g,rfl⟩;exact⟨i,fM.mpr ⟨h1,()⟩,dF.mpr ⟨j,fM.mpr ⟨(),()⟩,rfl⟩⟩
theorem sE{α β:Type}{f:α->List β}:∀(l:List α),(∀x∈l,(f x).length<=B)->(l.flatMap f).length<=l.length * B
 | [],_=>dX _
 | x::l,h=>by
  rw[List.flatMap_cons,bg,bE,Nat.add_mul,Nat.one_mul];have:=sE l λy hy=>h y<|aU _ hy;have:=h x (a_ ..)
  lia
def u5{n:Int}(h0:0<=n)(h1:n<=1000):(prs n).length<=16777216:=by
 have:=sE (B:=1000) (f:=λi=>(fj (i+1)<|n+1).map λj=>A.tup [.int i,.int j]) (fj 1 n) λx d=>by
  rw[fM]at d;rw[aP,fQ];lia
 rw[fQ]at this;have g:(n-1).toNat * 1000<=1000 * 1000:=Nat.mul_le_mul_right _ ();unfold prs
 lia
theorem DF{i n lo hi:Int}:∀(k t:Nat) (x1:A),k+t=(hi-lo).toNat->∃x1',jK (gm lo hi) (gD 1) nI (nJ<|eX (eY 0)<|eX (eY 1)<|fE) k t [.int i,x1,.int n] S=.ok ((List.range' t k).map λq:Nat=>A.tup [.int i,.int<|lo+q],[.int i,x1',.int n]) S
 | 0,t,x1,_=>⟨x1,rfl⟩
 | k+1,t,x1,h=>by
  obtain⟨x1',e⟩:=DF (S:=S) (i:=i) (n:=n) (lo:=lo) (hi:=hi) k (t+1) (.int<|lo+t) ();refine⟨x1',?_⟩;unfold jK;have hg:(gm lo hi).get t S=some (.int<|lo+t):=aR ();dsimp[gf,bools,hg,ni<|show([_,_]:ad).length<=16777216 by simp,e,cI,cQ]
theorem Ba{n:Int}(h0:0<=n)(h1:n<=1000):∀(k t:Nat) (x0 x1:A),k+t=(n-1).toNat->i8 (gm 1 n) (gD 0) nI (jj (fu gu (eY 0)<|eC<|.int 1)<|fu gu (eY 2)<|eC<|.int 1) (gD 1) nI (nJ<|eX (eY 0)<|eX (eY 1)<|fE) k t [x0,x1,.int n] S=.ok ((List.range' t k).flatMap λq:Nat=>(fj (1+q+1)<|n+1).map λj=>A.tup [.int<|1+q,.int j]) S
 | 0,t,x0,x1,_=>rfl
 | k+1,t,x0,x1,h=>by
  have hg:(gm 1 n).get t S=some (.int<|1+t):=aR ();obtain⟨d,e⟩:=DF (S:=S) (i:=1+t) (n:=n) (lo:=1+t+1) (hi:=n+1) (gm (1+t+1)<|n+1).k 0 x1 rfl;have f:((List.range' 0 (gm (1+(t:Int)+1)<|n+1).k).map λq:Nat=>A.tup [.int<|1+t,.int<|1+t+1+q])=(fj (1+t+1)<|n+1).map λj=>A.tup [.int<|1+t,.int j]:=by
   unfold fj;rw[eT,cy];rfl
  rw[f]at e;have e2:=Ba (S:=S) h0 h1 k (t+1) (.int<|1+t) d ();have hs:jj (fu gu (eY 0)<|eC<|.int 1) (fu gu (eY 2)<|eC<|.int 1) [.int<|1+t,x1,.int n] S=.ok (gm (1+t+1)<|n+1) S:=
   jS (S1:=S) (by dsimp[gf,bools]) (by dsimp[gf,bools]) (f_ () ()) (f_ () ())
  unfold i8;dsimp[gf,bools,hg,hs,e,e2,cI,List.flatMap_cons]
def Au{S:e_}{n:Int}(h0:0<=n)(h1:n<=1000):gv [.int n] S=.ok (.ref S.length) (S++[.lst<|prs n]):=by
 have hs:jj (eC<|.int 1) (eY 0) [.int n] S=.ok (gm 1 n) S:=jS (S1:=S) (by dsimp[gf,bools]) (by dsimp[gf,bools]) (f_ () ())<|f_ () ();have e:=Ba (S:=S) h0 h1 (gm 1 n).k 0 .unb .unb rfl;have d:((List.range' 0 (gm 1 n).k).flatMap λq:Nat=>(fj (1+q+1)<|n+1).map λj=>A.tup [.int<|1+q,.int j])=prs n:=by
  unfold prs fj;rw[List.flatMap_map,<- cy];rfl
 rw[d]at e;unfold gv jH jC tw;dsimp[gf,bools,ko,Nat.reduceAdd,Nat.reduceSub,hs,e,gA<|u5 h0 h1]
open Bl
def qw{xs ys:ae}(h:xs.length=ys.length):iS [.tup<|xs.map .int,.tup<|ys.map .int] S=.ok .non S:=by
 unfold iS kF kE;dsimp[gf,bools,ko,Nat.reduceAdd,Nat.reduceSub,aP,h,bK,Bool.not_true]
def zq{ms:ae}(hL:fh S L=some (ms.map .int))(hp:∃m∈ms,0<m)(hms:ms.length<=1000):∃j:Nat,fT [.ref L] S=.ok (.int<|(j:Int)+1) S/\(∃m,ms[j]?=some m/\0<m)/\∀(k:Nat) (m:Int),k<j->ms[k]?=some m->m<=0:=by
 unfold fT gH gE;dsimp[gf,bools,ko,Nat.reduceAdd,Nat.reduceSub];refine oG (λτ q=>q=S/\∃p:Nat,p<ms.length/\τ=[.ref L,.int<|(p:Int)+1]/\∀(k:Nat) (m:Int),k<p->ms[k]?=some m->m<=0)
  (λτ _=>match τ with
   | [_,.int i]=>(ms.length+1)-i.toNat
   | _=>0)
  (λr=>∃j:Nat,RS.end (RS.seq r _)=.ok (.int<|(j:Int)+1) S/\(∃m,ms[j]?=some m/\0<m)/\∀(k:Nat) (m:Int),k<j->ms[k]?=some m->m<=0) ?_ 1000000 _ _ ⟨rfl,0,?_,rfl,λk m B=>absurd B<|Nat.not_lt_zero _⟩ ?_
 ·rintro τ q ⟨rfl,p,g,rfl,d⟩;have C:j7 (ms.map A.int) ((p:Int)+1-1)=some (.int ms[p]):=gT (k:=p) ()<|aH g;unfold iu g9;dsimp[gf,bools,hL,C];by_cases h0:ms[p]<=0
  ·right;refine⟨q,by rw[bP h0],.inl ⟨_,_,rfl,⟨rfl,p+1,?_,cY (λz=>[A.ref L,A.int z]) (),λk m B f=>?_⟩,?_⟩⟩
   ·obtain⟨m,f,F⟩:=hp;obtain⟨k,B,e⟩:=dY.mp f;have:¬k<=p:=λG=>by
     rcases eS k p with h|h
     ·have:=d k m h (by rw[aH B,e])
      lia
     ·have:k=p:=()
      subst this
      lia
    lia
   ·rcases eS k p with h|h
    ·exact d k m h f
    ·have:k=p:=()
     subst this;rw[aH g]at f
     cases f
     exact h0
   ·show ms.length+1-((p:Int)+1+1).toNat<ms.length+1-((p:Int)+1).toNat
    lia
  ·left;refine⟨q,by rw[bz h0],p,by dsimp[gf,bools],⟨ms[p],aH g,()⟩,d⟩
 ·obtain⟨m,f,_⟩:=hp;exact List.length_pos_of_mem f
 ·show ms.length+1-(1:Int).toNat<1000000
  lia
def rE{f:A->A->e_->R A}{d:Int}(hf:∀(m:Int) S,f (.int m) (.int 1) S=.ok (.int<|m+d) S){src:Ic}{ms:ae}{x:Int}{Post:RS->Prop}(hx0:0<=x)(hx:x<=ms.length)
  (hsrc:src [a0,a1,.ref L,a3,a4] S=.ok (gm 0 x) S) (hL:fh S L=some (ms.map .int)) (fin:∀a4' S',fh S' L=some ((gQ x.toNat d ms).map .int)->Kp (·=L) S S'->Post (.nx [a0,a1,.ref L,a3,a4'] S')) :
  Post (kc src (gD 4) (o8 (eY 2) (eY 4) (eC<|.int 1) f) [a0,a1,.ref L,a3,a4] S):=by
 refine iO (lo:=0) (hi:=x) hsrc (λi τ S'=>∃a4',τ=[a0,a1,.ref L,a3,a4']/\fh S' L=some ((gQ i d ms).map .int)/\Kp (·=L) S S') Post ⟨a4,rfl,hL,Kp.refl⟩ ?_ ?_
 ·rintro i τ S' hi ⟨a4',rfl,g,k⟩;left;have j:i<ms.length:=()
  have e1:((gQ i d ms).map A.int)[((0:Int)+(i:Int)).toNat]?=some (.int ms[i]):=by
   rw[show((0:Int)+(i:Int)).toNat=i by lia,br,lz,aH j];simp
  have e2:sC (gQ i d ms).length (0+(i:Int))=some i:=nZ () (by rw[ny];exact j);have p:=nA g;dsimp[gf,bools,g,gz<|show(0:Int)<=0+(i:Int)by lia,e1,hf,aP,e2];refine⟨_,_,rfl,_,rfl,?_,k.set<|.inl rfl⟩;rw[kg p,<- oH i d ms ms[i] (aH j),eg]
 ·rintro τ S' ⟨a4',rfl,g,k⟩;exact fin a4' S' (by rw[Int.sub_zero]at g;exact g) k
abbrev Dg (xs ys:ae)(i j:Nat):Prop:=cnt (ys.take i) j<cnt (xs.take i) j/\(∀f d:Nat,f<i->1<=d->d<=xs.length->cnt (xs.take f) d<=cnt (ys.take f) d)/\∀d:Nat,1<=d->d<j->cnt (xs.take i) d<=cnt (ys.take i) d
def FA{xs ys:ae}{n:Nat}(px:xs.Perm<|fj 1<|(n:Int)+1)(py:ys.Perm<|fj 1<|(n:Int)+1)(h1:1<=n)(h2:n<=20):∃S',((qe [.tup<|xs.map .int,.tup<|ys.map .int] S=.ok .non S'/\Below xs ys) \/
  ∃i j:Nat,qe [.tup<|xs.map .int,.tup<|ys.map .int] S=.ok (.tup [.int i,.int j]) S'/\1<=i/\i<=n/\1<=j/\j<=n/\Dg xs ys i j)/\mQ S S':=by
 have lx:xs.length=n:=by have:=sL px ();lia
 have ly:ys.length=n:=by have:=sL py ();lia
 unfold qe zw Ae;dsimp[gf,bools,ko,Nat.reduceAdd,Nat.reduceSub,qw (S:=S)<|lx.trans ly.symm,aP,lx];rw[Hw (k:=n) fZ ()];dsimp[gf,bools];have L:(S++[O.lst [.int 0]]).length=S.length+1:=by simp
 rw[L];refine iO (lo:=0) (hi:=(n:Int)) (S1:=S++[O.lst [.int 0]]++[O.lst<|List.replicate n<|.int 0]) ?_
  (λt τ S'=>∃a3 a4,τ=[.tup<|xs.map .int,.tup<|ys.map .int,.ref<|S.length+1,a3,a4]/\fh S' (S.length+1)=some ((jW n xs ys t).map .int)/\mQ S S'/\∀B g:Nat,B<=t->1<=g->g<=n->cnt (xs.take B) g<=cnt (ys.take B) g)
  (λr=>∃S',((RS.end (RS.seq r _)=.ok .non S'/\Below xs ys)\/∃i j:Nat,RS.end (RS.seq r _)=.ok (.tup [.int i,.int j]) S'/\1<=i/\i<=n/\1<=j/\j<=n/\Dg xs ys i j)/\mQ S S') ⟨.unb,.unb,rfl,?_,Kp.refl.lay.lay,?_⟩ ?_ ?_
 ·refine ig ?_<|f_ () ();dsimp[gf,bools,aP,lx]
 ·rw[BO,List.map_replicate,<- L];exact fZ
 ·intro B g hi _ _;have:B=0:=()
  subst this;simp[cnt]
 ·rintro t τ S' ht ⟨a3,a4,rfl,hL,Z,F⟩;have ht':t<n:=()
  have V:t<xs.length:=()
  have hy:t<ys.length:=()
  have mx:=r8 px<|dR V;have my:=r8 py<|dR hy;have ax:j7 (xs.map A.int) (0+(t:Int))=some (.int xs[t]):=gT (k:=t) ()<|aH V;have ay:j7 (ys.map A.int) (0+(t:Int))=some (.int ys[t]):=gT (k:=t) ()<|aH hy;unfold vD;dsimp[gf,bools];obtain⟨p,C,e2,hL2,hk2⟩:=rE (f:=xC) (d:=1) (ms:=jW n xs ys t) (x:=xs[t]) (src:=uH) (a0:=.tup<|xs.map .int) (a1:=.tup<|ys.map .int) (a3:=.int<|0+(t:Int)) (a4:=a4) (Post:=λr=>∃p C,r=.nx [.tup<|xs.map .int,.tup<|ys.map .int,.ref<|S.length+1,.int<|0+(t:Int),p] C/\fh C (S.length+1)=some ((gQ xs[t].toNat 1 (jW n xs ys t)).map .int)/\Kp (·=S.length+1) S' C) (λ_ _=>rfl) () (by rw[iF];lia)
   (ig (by dsimp[gf,bools,ax])<|f_ () ()) hL (λp C h1 h2=>⟨p,C,rfl,h1,h2⟩)
  obtain⟨K,P,e3,J,hk3⟩:=rE (f:=aSub) (d:=-1) (ms:=gQ xs[t].toNat 1 (jW n xs ys t)) (x:=ys[t]) (src:=vK) (a0:=.tup<|xs.map .int) (a1:=.tup<|ys.map .int) (a3:=.int<|0+(t:Int)) (a4:=p) (Post:=λr=>∃K P,r=.nx [.tup<|xs.map .int,.tup<|ys.map .int,.ref<|S.length+1,.int<|0+(t:Int),K] P/\fh P (S.length+1)=some ((gQ ys[t].toNat (-1) (gQ xs[t].toNat 1 (jW n xs ys t))).map .int)/\Kp (·=S.length+1) C P) (λ_ _=>rfl) () (by rw[ny,iF];lia)
   (ig (by dsimp[gf,bools,ay])<|f_ () ()) hL2 (λp C h1 h2=>⟨p,C,rfl,h1,h2⟩)
  rw[t8 V hy]at J;have T:mQ S P:=(Z.old hk2 λn hn _=>()).old hk3 λn hn _=>()
  obtain⟨m,em,m1,m2⟩:=yF J (by intro z;have:=cY List.length z;rw[iF]at this;simp at this;lia);dsimp[show uC=o8 (eY 2) (eY 4) (eC<|.int 1) xC from rfl,show vB=o8 (eY 2) (eY 4) (eC<|.int 1) aSub from rfl,e2,e3,gf,bools,em];by_cases U:0<m
  ·right;rw[bP U];obtain⟨j,ej,⟨mj,M,hj2⟩,Y⟩:=zq J ⟨m,m1,U⟩ (by rw[iF];lia);dsimp[gf,bools,ej,ni<|show([_,_]:ad).length<=16777216 by simp];have W:j<n:=by
    have:=(aI.mp M).1
    rwa [iF]at this
   refine⟨_,_,rfl,P,.inr ⟨t+1,j+1,?_,(),(),(),(),?_,?_,?_⟩,T⟩
   ·have e5:(0:Int)+(t:Int)+1=((t+1:Nat):Int):=()
    have e6:(j:Int)+1=((j+1:Nat):Int):=()
    rw[e5,e6]
   ·rw[jT W]at M
    cases M
    have:((j+1:Nat):Int)=(j:Int)+1:=()
    rw[this]
    lia
   ·intro B g hi' G N;exact F B g () G ()
   ·intro g G N;have:=Y (g-1) _ ()<|jT ();rw[show(((g-1:Nat):Int)+1)=(g:Int)by lia]at this
    lia
  ·left;rw[bz U];dsimp[gf,bools];refine⟨_,_,rfl,_,_,rfl,J,T,λB g hi' G N=>?_⟩;by_cases hi:B<=t
   ·exact F B g hi G N
   ·have:B=t+1:=()
    subst this;have:=m2 _<|bH<|jT (n:=n) (xs:=xs) (ys:=ys) (t:=t+1) (j:=g-1) ();rw[show(((g-1:Nat):Int)+1)=(g:Int)by lia]at this
    lia
 ·rintro τ S' ⟨a3,a4,rfl,hL,Z,F⟩;refine⟨S',.inl ⟨by dsimp[gf,bools],?_⟩,Z⟩;refine(nB px py).mp λi q hi hq=>?_;have:=F (i+1) (q+1) () () ();exact this
def AJ{xs ys:ae}{n:Nat}(px:xs.Perm<|fj 1<|(n:Int)+1)(py:ys.Perm<|fj 1<|(n:Int)+1)(h1:1<=n)(h2:n<=20):∃(k:Bool) (S':e_),gJ [.tup<|xs.map .int,.tup<|ys.map .int] S=.ok (.bl k) S'/\(k=true ↔ Below xs ys)/\mQ S S':=by
 obtain⟨S',h|⟨i,j,e,m,f,g,p,h,_⟩,d⟩:=FA (S:=S) px py h1 h2
 ·refine⟨true,S',?_,⟨λ_=>h.2,λ_=>rfl⟩,d⟩;unfold gJ j0 kr;dsimp[gf,bools,ko,Nat.reduceAdd,Nat.reduceSub,h.1]
 ·refine⟨false,S',?_,⟨λz=>absurd z bf,λz=>?_⟩,d⟩
  ·unfold gJ j0 kr;dsimp[gf,bools,ko,Nat.reduceAdd,Nat.reduceSub,e]
  ·have:=z i j
   lia
open Classical in
abbrev bb (n:Nat)(xs:ae)(q:A):Bool:=match q with
 | .tup [.int i,.int j]=>decide (Bl.Below (Kr.two n i j) xs)
 | _=>false
def tZ{n:Nat}{i j:Int}:bb n xs (.tup [.int i,.int j])=true ↔ Bl.Below (Kr.two n i j) xs:=by
 show @decide _ (Classical.propDecidable _)=true ↔ _;exact @eH _<|Classical.propDecidable _
def D9{n:Nat}{i j:Int}(h1:1<=i)(h2:i<j)(h3:j<=n)(hn:n<=1000):∃S',fN [.tup<|(fj 1<|(n:Int)+1).map .int,.int i,.int j] S=.ok (.tup<|(Kr.two n i j).map .int) S'/\mQ S S':=by
 have p:=Kr.fS n;have a1:j7 ((fj 1<|(n:Int)+1).map A.int) (j-1)=some (.int j):=gT (k:=(j-1).toNat) () (by rw[Kr.gy ()];congr 1;lia);have a2:j7 ((fj 1<|(n:Int)+1).map A.int) (i-1)=some (.int i):=gT (k:=(i-1).toNat) () (by rw[Kr.gy ()];congr 1;lia);have m:sC (fj 1<|(n:Int)+1).length (i-1)=some (i-1).toNat:=nZ () ();have f:sC (fj 1<|(n:Int)+1).length (j-1)=some (j-1).toNat:=nZ () ();have g:∀ys,fh ((S++[O.lst<|(fj 1<|(n:Int)+1).map .int]).set S.length<|.lst ys) S.length=some ys:=λys=>kg (by rw[bg];simp);have d:∀ys zs,fh (((S++[O.lst<|(fj 1<|(n:Int)+1).map .int]).set S.length<|.lst ys).set S.length<|.lst zs) S.length=some zs:=λys zs=>kg (by rw[bG,bg];simp);have e:(((fj 1<|(n:Int)+1).map A.int).set (i-1).toNat<|.int j).set (j-1).toNat (.int i)=(Kr.two n i j).map .int:=by rw[<- Kr.qj h1 h2 h3,eg,eg]
 unfold fN gY gZ;dsimp[gf,bools,ko,Nat.reduceAdd,Nat.reduceSub,a1,a2,ni<|show 2<=16777216 by decide,gz<|show(2:Nat)=2 from rfl,aP,m,f,g,d,bG,e];exact⟨_,rfl,(Kp.refl.lay.set<|.inr<|aK _).set<|.inr<|aK _⟩
def C5{S:e_}{n:Nat}{xs:ae}(px:xs.Perm<|fj 1<|(n:Int)+1)(h1:1<=n)(h2:n<=20) :
  ∃(P:Nat) (S':e_),fX [.tup<|xs.map .int] S=.ok (.ref P) S'/\fh S' P=some ((prs n).filter<|bb n xs)/\mQ S S'/\S.length<=P:=by
 have d:xs.length=n:=by rw[px.length_eq,Kr.fS]
 have U:gR [.int n] S=.ok (.tup<|(fj 1<|(n:Int)+1).map .int) S:=by
  unfold gR jJ jO;dsimp[gf,bools,ko,Nat.reduceAdd,Nat.reduceSub,nX<|oV (show(-1000000:Int)<=1 by decide) ⋯ (show -1000000<=(n:Int)+1 by lia) () ()]
 have eq:=Au (S:=S) (n:=(n:Int)) () ();have m:fh (S++[O.lst<|prs n]) S.length=some (prs n):=fZ;obtain⟨S',K,g2⟩:=nV (s:=m9 S.length (prs n).length) (g:=F8 2<|Br (gD 0)<|Br (gD 1)<|F6) (t:=w4<|eFn gJ<|eX (eFn fN<|eX (eY 3)<|eX (eY 0)<|eX (eY 1)<|fE)<|eX (eY 2)<|fE) (e:=nJ<|eX (eY 0)<|eX (eY 1)<|fE)
  (P:=λS1=>mQ (S++[O.lst<|prs n]) S1) (T:=λf=>∃y z,f=[y,z,.tup<|xs.map .int,.tup<|(fj 1<|(n:Int)+1).map .int])
  (λi=>(prs n).getD i .unb) (λi=>bb n xs<|(prs n).getD i .unb) (λi=>(prs n).getD i .unb)
  (λi S1 hi k=>by
   have hi:i<(prs n).length:=hi;show(fh S1 S.length).bind _=_;rw[k.lst _ _ (λz=>z) m,dS,aN,aH hi];rfl)
  (λS1 k=>by
   show(match fh S1 S.length with
    | some ys=>decide (ys.length<=(prs n).length)
    | none=>false)=true
   rw[k.lst _ _ (λz=>z) m];simp)
  (λi f S1 hi ⟨y,z,hy⟩ k=>by
   have hi:i<(prs n).length:=hi;subst hy;have N:(prs n).getD i .unb∈prs n:=by rw[aN,aH hi];exact dR hi
   obtain⟨a,c,B,F,L,j⟩:=Bu.mp N;rw[j];obtain⟨W,e2,M⟩:=D9 (S:=S1) (n:=n) B F L ();obtain⟨V,G,e3,Y,C⟩:=AJ (S:=W) (n:=n) (Kr.Af B F L) px h1 h2;have p:V=bb n xs (.tup [.int a,.int c]):=by rw[Bool.eq_iff_iff,Y,tZ]
   rw[<- p];refine⟨[.int a,.int c,.tup<|xs.map .int,.tup<|(fj 1<|(n:Int)+1).map .int],S1,G,by dsimp[gf,bools,gz<|show([_,_]:ad).length=2 from rfl],by dsimp[gf,bools,e2,e3],⟨_,_,rfl⟩,λ_=>(k.trans M).trans C,λ_=>⟨G,by dsimp[gf,bools,ni<|show([_,_]:ad).length<=16777216 by simp],(k.trans M).trans C⟩⟩)
  (prs n).length 0 (j_ [none,none,some 0,some 1] [.tup<|xs.map .int,.tup<|(fj 1<|(n:Int)+1).map .int]) (S++[O.lst<|prs n]) rfl ⟨_,_,rfl⟩ Kp.refl
 have J:=mW (prs n) (bb n xs) (λq=>q) .unb;rw[cy,List.map_id']at J;rw[J]at K;have ll:=u5 (n:=(n:Int)) () ();refine⟨S'.length,S'++[.lst<|(prs n).filter<|bb n xs],?_,fZ,(Kp.refl.lay.trans g2).lay,by have:=g2.len;rw[bg]at this;lia⟩;have Z:ku [none,none,some 0,some 1] (rR<|eFn gv<|eX (fR (f1 je)<|eX (eY 0)<|fE)<|fE) (F8 2<|Br (gD 0)<|Br (gD 1)<|F6) (w4<|eFn gJ<|eX (eFn fN<|eX (eY 3)<|eX (eY 0)<|eX (eY 1)<|fE)<|eX (eY 2)<|fE) (nJ<|eX (eY 0)<|eX (eY 1)<|fE) [.tup<|xs.map .int,.tup<|(fj 1<|(n:Int)+1).map .int] S=.ok (.ref S'.length) (S'++[.lst<|(prs n).filter<|bb n xs]):=by
  unfold ku;rw[yY (S1:=S++[O.lst<|prs n]) (by dsimp[gf,bools,aP,d,eq]) m,R.nO];show R.g_ (jq (m9 S.length (prs n).length) _ _ _ (prs n).length 0 _ _) _=_;rw[K,R.iB,gA<|bN (List.length_filter_le _ _) ll]
 unfold fX jP jN;dsimp[gf,bools,ko,Nat.reduceAdd,Nat.reduceSub,aP,d,U,Z]
end K50
namespace Lk
theorem ph:∀(s t:Nat) (f:Nat->Nat),(∀i,1<=i->i<=t->1<=f i/\f i<=s)->(∀i j,1<=i->i<j->j<=t->f i≠f j)->t<=s
 | 0,t,f,h,_=>by
  cases t with
  | zero=>exact aK _
  | succ t=>have:=h 1 (aK _) ();lia
 | s+1,t,f,h,inj=>by
  by_cases c:∃i,1<=i/\i<=t/\f i=s+1
  ·obtain⟨i0,h1,k,m⟩:=c;have:=ph s (t-1) (λi=>if i<i0 then f i else f (i+1)) (λi a b=>by
    by_cases c:i<i0
    ·dsimp[c,bC];have:=h i a ();have:=inj i i0 a c k
     lia
    ·dsimp[c,bu];have:=h (i+1) () ();have:=inj i0 (i+1) h1 () ()
     lia) (λi j a b d=>by
    by_cases c:i<i0
    ·by_cases g:j<i0
     ·dsimp[c,g,bC];exact inj i j a b ()
     ·dsimp[c,g,bC,bu];exact inj i (j+1) a () ()
    ·have g:¬j<i0:=()
     dsimp[c,g,bu];exact inj (i+1) (j+1) () () ())
   lia
  ·have:=ph s t f (λi a b=>by
    have:=h i a b;have:f i≠s+1:=λz=>c ⟨i,a,b,z⟩
    lia) inj
   lia
structure Bi (n:Nat)(w v:Nat->Nat):Prop where
 w1:∀i,1<=i->i<=n->1<=w i/\w i<=n/\v (w i)=i
 v1:∀x,1<=x->x<=n->1<=v x/\v x<=n/\w (v x)=x
def Bi.back{n:Nat}{w v:Nat->Nat}(h:Bi n w v):Bi n v w:=⟨h.v1,h.w1⟩
def Bi.inj{n:Nat}{w v:Nat->Nat}(h:Bi n w v)(a:1<=i)(b:i<=n)(c:1<=j)(d:j<=n)(e:w i=w j):i=j:=by
 rw[<- (h.w1 i a b).2.2,e,(h.w1 j c d).2.2]
abbrev sg (f:Nat->Nat):Nat->Nat->Nat
 | 0,j=>f j
 | k+1,j=>min (f j)<|sg f k<|j+1
abbrev sm (f:Nat->Nat)(n j:Nat):Nat:=sg f (n-j) j
theorem CV(f:Nat->Nat):∀(k j b:Nat),j<=b->b<=j+k->sg f k j<=f b
 | 0,j,b,h1,h2=>by rw[show b=j by lia];exact aK _
 | k+1,j,b,h1,h2=>by
  show min _ _<=_;by_cases c:b=j
  ·rw[c];exact Nat.min_le_left _ _
  ·exact bN (Nat.min_le_right _ _)<|CV f k (j+1) b () ()
theorem DK(f:Nat->Nat):∀(k j:Nat),∃b,j<=b/\b<=j+k/\sg f k j=f b
 | 0,j=>⟨j,aK _,(),rfl⟩
 | k+1,j=>by
  obtain⟨b,h1,g,d⟩:=DK f k<|j+1;by_cases c:f j<=sg f k (j+1)
  ·exact⟨j,aK _,(),c9 c⟩
  ·exact⟨b,(),(),by show min _ _=_;rw[Nat.min_eq_right (),d]⟩
def gk{f:Nat->Nat}{n:Nat}(h1:j<=b)(h2:b<=n):sm f n j<=f b:=CV f _ _ _ h1 ()
def gF{f:Nat->Nat}{n:Nat}(h:j<=n):∃b,j<=b/\b<=n/\sm f n j=f b:=by
 obtain⟨b,h1,g,d⟩:=DK f (n-j) j;exact⟨b,h1,(),d⟩
def nE{f:Nat->Nat}{n:Nat}(h1:j<=b)(h2:b<=n)(h:∀c,j<=c->c<=n->f b<=f c):sm f n j=f b:=by
 obtain⟨c,c1,c2,c3⟩:=gF (f:=f) (n:=n) (j:=j) ();have:=h c c1 c2;have:=gk (f:=f) h1 h2
 lia
def uq{f:Nat->Nat}{n:Nat}(h:j+1<=n):sm f n j<=sm f n (j+1):=by
 obtain⟨c,c1,c2,c3⟩:=gF (f:=f) h;rw[c3];exact gk () c2
def low{n:Nat}{w v:Nat->Nat}(h:Bi n w v)(h1:1<=j)(h2:j<=n):sm w n j<=j:=by
 apply aJ;intro hc;have:=ph (n-j) (n-j+1) (λi=>w (j-1+i)-j) (λi a b=>by
  have:=gk (f:=w) (n:=n) (j:=j) (b:=j-1+i) () ();have:=h.w1 (j-1+i) () ()
  lia) (λi k a b c z=>by
  have g:=gk (f:=w) (n:=n) (j:=j) (b:=j-1+i) () ();have d:=gk (f:=w) (n:=n) (j:=j) (b:=j-1+k) () ();have z:w (j-1+i)-j=w (j-1+k)-j:=z;have:=h.inj (i:=j-1+i) (j:=j-1+k) () () () () ()
  lia)
 lia
abbrev wo (a:Nat)(w:Nat->Nat):Nat->Nat:=λj=>if j<a then w j else w (j+1)
abbrev vo (a:Nat)(v:Nat->Nat):Nat->Nat:=λx=>if v x<a then v x else v x-1
def Bi.a{n:Nat}{w v:Nat->Nat}(h:Bi (n+1) w v):1<=v (n+1)/\v (n+1)<=n+1/\w (v<|n+1)=n+1:=h.v1 (n+1) ()<|aK _
def Bi.nn{n:Nat}{w v:Nat->Nat}(h:Bi (n+1) w v)(h1:1<=i)(h2:i<=n+1)(h3:i≠v (n+1)):w i<=n:=by
 have:=h.w1 i h1 h2;have:w i≠n+1:=λz=>h3 (by rw[<- z,this.2.2])
 lia
def Bi.vn{n:Nat}{w v:Nat->Nat}(h:Bi (n+1) w v){x:Nat}(h1:1<=x)(h2:x<=n):v x≠v (n+1):=λz=>by
 have:=h.back.inj h1 () () (aK _) z
 lia
def Bi.out{n:Nat}{w v:Nat->Nat}(h:Bi (n+1) w v):Bi n (wo (v<|n+1) w) (vo (v<|n+1) v):=by
 gn_on;refine⟨λi h1 d=>?_,λx h1 d=>?_⟩
 ·unfold wo vo;by_cases c:i<v (n+1)
  ·dsimp[c,bC];have e:=h.w1 i h1 ();have:=h.nn (i:=i) h1 () ();exact⟨e.1,this,by rw[e.2.2,aR c]⟩
  ·dsimp[c,bu];have e:=h.w1 (i+1) () ();have:=h.nn (i:=i+1) () () ();dsimp[e.2.2,show ¬i+1<v (n+1)by lia,bu]
   lia
 ·unfold wo vo;have e:=h.v1 x h1 ();have g:=h.vn h1 d;by_cases c:v x<v (n+1)
  ·dsimp[c,bC];refine⟨e.1,(),e.2.2⟩
  ·dsimp[c,bu];have f:¬v x-1<v (n+1):=()
   dsimp[f,bu];rw[show v x-1+1=v x by lia];refine⟨(),(),e.2.2⟩
def tD{n:Nat}{w v:Nat->Nat}(h:Bi (n+1) w v)(h1:v (n+1)<=j)(h2:j<=n):sm (wo (v<|n+1) w) n j=sm w (n+1) (j+1):=by
 obtain⟨b,k,g,d⟩:=gF (f:=w) (n:=n+1) (j:=j+1) ();have e:∀c,j<=c->wo (v<|n+1) w c=w (c+1):=λc hc=>by unfold wo;rw[aT ()]
 rw[d,nE (b:=b-1) () () λc c1 c2=>?_,e _ (),show b-1+1=b by lia];rw[e _ (),e _ c1,show b-1+1=b by lia,<- d];exact gk () ()
def E5{n:Nat}{w v:Nat->Nat}(h:Bi (n+1) w v)(h0:1<=j)(h1:j<v (n+1))(h2:j<=n):sm (wo (v<|n+1) w) n j=sm w (n+1) j:=by
 gn_on;obtain⟨b,k,p,g⟩:=gF (f:=w) (n:=n+1) (j:=j) ();have m:b≠v (n+1):=λz=>by
  have:=gk (f:=w) (n:=n+1) (j:=j) (b:=j) (aK _) ();have:=h.nn (i:=j) h0 () ();rw[g,z,a3]at *
  lia
 have d:∀c,j<=c->c<=n->sm w (n+1) j<=wo (v<|n+1) w c:=λc c1 c2=>by
  unfold wo;split
  ·exact gk c1 ()
  ·exact gk () ()
 by_cases c:b<v (n+1)
 ·have e:wo (v<|n+1) w b=w b:=by unfold wo;rw[aR c]
  rw[g,nE (b:=b) k () λc c1 c2=>by rw[e,<- g];exact d c c1 c2,e]
 ·have e:wo (v<|n+1) w (b-1)=w b:=by unfold wo;rw[aT (),show b-1+1=b by lia]
  rw[g,nE (b:=b-1) () () λc c1 c2=>by rw[e,<- g];exact d c c1 c2,e]
def z0{n:Nat}{w v:Nat->Nat}(h:Bi (n+1) w v)(h0:1<=j)(h2:j<=n):sm (vo (v<|n+1) v) n j=if sm v n j<v (n+1)then sm v n j else sm v n j-1:=by
 obtain⟨b,g,d,k⟩:=gF (f:=v) (n:=n) (j:=j) h2;rw[nE (b:=b) g d λc c1 c2=>?_,k];rfl;have:=gk (f:=v) c1 c2;have p:=h.vn (x:=b) () d;have m:=h.vn (x:=c) () c2;unfold vo;split<;>split<;>lia
def yM{n:Nat}{w v:Nat->Nat}(h:Bi (n+1) w v)(h0:1<=j)(h2:j<=n):sm v (n+1) j=min (sm v n j) (v<|n+1):=by
 obtain⟨b,k,m,d⟩:=gF (f:=v) (n:=n) (j:=j) h2;by_cases c:sm v n j<=v (n+1)
 ·rw[c9 c,d];refine nE k () λg c1 c2=>?_;by_cases e:g=n+1
  ·rw[e,<- d];exact c
  ·rw[<- d];exact gk c1 ()
 ·rw[Nat.min_eq_right ()];refine nE () (aK _) λg c1 c2=>?_;by_cases e:g=n+1
  ·rw[e];exact aK _
  ·have:=gk (f:=v) (n:=n) c1 ();lia
def Ct{n:Nat}{w v:Nat->Nat}(h:Bi (n+1) w v):sm v (n+1) (n+1)=v (n+1):=nE (aK _) (aK _) λc c1 c2=>by rw[show c=n+1 by lia];exact aK _
def tQ{n:Nat}{w v:Nat->Nat}(h:Bi (n+1) w v)(h0:1<=j)(h2:j<=n):sm v n j≠v (n+1):=by
 obtain⟨b,k,d,g⟩:=gF (f:=v) (n:=n) (j:=j) h2;rw[g];exact h.vn () d
abbrev su (t:Nat->Nat):Nat->Nat
 | 0=>0
 | n+1=>su t n+t (n+1)
theorem ji{s t:Nat->Nat}:∀{n:Nat},(∀j,1<=j->j<=n->s j=t j)->su s n=su t n
 | 0,_=>rfl
 | n+1,h=>by show su s n+_=su t n+_;rw[ji λj a b=>h j a (),h (n+1) ()<|aK _]
abbrev tm (n:Nat)(w v:Nat->Nat)(j:Nat):Nat:=j-max (sm w n j) (sm v n j)
abbrev Bc (n:Nat)(w v:Nat->Nat):Nat:=su (tm n w v) n
abbrev Eq (n:Nat)(w v:Nat->Nat)(k:Nat):Prop:=(sm v n k<v (n+1)->sm w (n+1) (k+1)=sm w (n+1) k\/sm w (n+1) (k+1)<=sm v n k\/v (n+1)<=sm w (n+1) k)/\(v (n+1)<sm v n k->sm v n k<=max (sm w (n+1)<|k+1) (v<|n+1)+1)
theorem Hi{n:Nat}{w v:Nat->Nat}(h:Bi (n+1) w v):∀(d K:Nat),K+1=v (n+1)+d->K<=n ->
  ∃X:Nat,su (tm (n+1) w v) (K+1)+max (sm w (n+1)<|K+1) (sm v (n+1)<|K+1)=su (tm n (wo (v<|n+1) w)<|vo (v<|n+1) v) K+X+d/\max (sm w (n+1)<|K+1) (v<|n+1)<=X/\(X=max (sm w (n+1)<|K+1) (v<|n+1) ↔ ∀k,v (n+1)<=k->k<=K->Eq n w v k)
 | 0,K,hK,hn=>by
  gn_on;have l1:=low h (j:=K+1) () ();have O:=low h.back (j:=K+1) () ();have e:su (tm (n+1) w v) K=su (tm n (wo (v<|n+1) w)<|vo (v<|n+1) v) K:=ji λj C j2=>by
   unfold tm;rw[E5 h C () (),z0 h C (),yM h C ()];have W:=low h.back (j:=j) C ();rw[yM h C ()]at W;have:sm v n j<v (n+1):=()
   rw[aR this,c9 ()]
  refine⟨v<|n+1,?_,(),?_⟩
  ·show su _ K+tm _ _ _ (K+1)+_=_;rw[e];unfold tm
   lia
  ·constructor
   ·intro _ k F U;lia
   ·intro _;lia
 | d+1,K,hK,hn=>by
  gn_on;obtain⟨K0,rfl⟩:∃K0,K=K0+1:=⟨K-1,()⟩;obtain⟨X,Z,x2,P⟩:=Hi h d K0 () ();have l1:=low h (j:=K0+1) () ();have O:=low h.back (j:=K0+1) () ();have l3:=low h (j:=K0+1+1) () ();have l4:=low h.back (j:=K0+1+1) () ();have Y:=low h.out (j:=K0+1) () ();have L:=low h.out.back (j:=K0+1) () ();have mo:=uq (f:=w) (n:=n+1) (j:=K0+1) ();have ne:=tQ h (j:=K0+1) () ();have J:=tD h (j:=K0+1) () ();have M:=z0 h (j:=K0+1) () ();have G:=yM h (j:=K0+1) () ();rw[J]at Y;rw[M]at L;rw[G]at O;have e1:su (tm (n+1) w v) (K0+1+1)=su (tm (n+1) w v) (K0+1)+(K0+1+1-max (sm w (n+1)<|K0+1+1) (sm v (n+1)<|K0+1+1)):=rfl;have e2:su (tm n (wo (v<|n+1) w)<|vo (v<|n+1) v) (K0+1)=su (tm n (wo (v<|n+1) w)<|vo (v<|n+1) v) K0+(K0+1-max (sm w (n+1)<|K0+1+1) (if sm v n (K0+1)<v (n+1)then sm v n (K0+1)else sm v n (K0+1)-1)):=by
   rw[<- J,<- M];rfl
  rw[G]at Z;generalize hB:su (tm n (wo (v<|n+1) w)<|vo (v<|n+1) v) K0=B at *
  generalize hA:su (tm (n+1) w v) (K0+1)=A at *
  generalize hm1:sm w (n+1) (K0+1)=m1 at *
  generalize hm2:sm w (n+1) (K0+1+1)=m2 at *
  generalize hp:sm v n (K0+1)=p at *
  generalize hq:sm v (n+1) (K0+1+1)=q at *
  have N:Eq n w v (K0+1) ↔ ((p<v (n+1)->m2=m1\/m2<=p\/v (n+1)<=m1)/\(v (n+1)<p->p<=max m2 (v<|n+1)+1)):=by unfold Eq;rw[hm1,hm2,hp]
  have m:(∀k,v (n+1)<=k->k<=K0+1->Eq n w v k) ↔ ((∀k,v (n+1)<=k->k<=K0->Eq n w v k)/\Eq n w v (K0+1)):=by
   constructor
   ·exact λg=>⟨λk F U=>g k F (),g _ ()<|aK _⟩
   ·intro g k F U;by_cases c:k=K0+1
    ·rw[c];exact g.2
    ·exact g.1 k F ()
  rw[e1,e2,m,<- P,N];generalize v (n+1)=a at *
  clear P m N J M G e1 e2 hB hA hm1 hm2 hp hq a3;by_cases c:p<a
  ·refine⟨X-max m1 p+max m2 p,?_,?_,?_⟩
   ·dsimp[c,bC]at L ⊢;lia
   ·lia
   ·constructor
    ·intro z;refine⟨(),(),()⟩
    ·intro⟨z1,V,T⟩;have:=V c
     lia
  ·refine⟨X-max m1 a+max m2 (p-1),?_,?_,?_⟩
   ·dsimp[c,bu]at L ⊢;lia
   ·lia
   ·constructor
    ·intro z;refine⟨(),(),()⟩
    ·intro⟨z1,V,T⟩;have:=T ()
     lia
def adds{n:Nat}{w v:Nat->Nat}(h:Bi (n+1) w v):Bc n (wo (v<|n+1) w) (vo (v<|n+1) v)+(n+1-v (n+1))<=Bc (n+1) w v/\(Bc (n+1) w v=Bc n (wo (v<|n+1) w) (vo (v<|n+1) v)+(n+1-v (n+1)) ↔ ∀k,v (n+1)<=k->k<=n->Eq n w v k):=by
 gn_on;obtain⟨X,d,g,f⟩:=Hi h (n+1-v (n+1)) n ()<|aK _;rw[Ct h]at d;have d:Bc (n+1) w v+max (sm w (n+1)<|n+1) (v<|n+1)=Bc n (wo (v<|n+1) w) (vo (v<|n+1) v)+X+(n+1-v (n+1)):=d;refine⟨(),?_⟩;rw[<- f]
 lia
end Lk
namespace Lk
abbrev Av (n:Nat)(w:Nat->Nat):Prop:=∀p q r s,1<=p->p<q->q<r->r<s->s<=n->¬(w r<w s/\w s<w p/\w p<w q)/\¬(w s<w q/\w q<w r/\w r<w p)
def BA{n:Nat}{w v:Nat->Nat}(h:Bi (n+1) w v)(h1:1<=i)(h2:i<=n+1)(h3:i≠v (n+1)):wo (v<|n+1) w (if i<v (n+1)then i else i-1)=w i:=by
 unfold wo;by_cases c:i<v (n+1)
 ·dsimp[c,bC]
 ·dsimp[c,bu];rw[aT (),show i-1+1=i by lia]
def tX{n:Nat}{w v:Nat->Nat}(h:Bi (n+1) w v)(ha:Av n<|wo (v<|n+1) w){p q r:Nat}(h1:1<=p)(h2:p<q)(h3:q<r)(h4:r<s)(h5:s<=n+1)(p1:p≠v (n+1))(q1:q≠v (n+1))(r1:r≠v (n+1))(s1:s≠v (n+1)):¬(w r<w s/\w s<w p/\w p<w q)/\¬(w s<w q/\w q<w r/\w r<w p):=by
 have a:=h.a;have:=ha (if p<v (n+1)then p else p-1) (if q<v (n+1)then q else q-1) (if r<v (n+1)then r else r-1) (if s<v (n+1)then s else s-1) (by split<;>lia) (by split<;>split<;>lia) (by split<;>split<;>lia) (by split<;>split<;>lia) (by split<;>lia);rw[BA h h1 () p1,BA h () () q1,BA h () () r1,BA h () h5 s1]at this;exact this
def EC{n:Nat}{w v:Nat->Nat}(h:Bi (n+1) w v)(ha:Av (n+1) w):Av n (wo (v<|n+1) w):=λp q r s h1 j g d f=>by
 have e:∀i,wo (v<|n+1) w i=w (if i<v (n+1)then i else i+1):=λi=>by unfold wo;split<;>rfl
 rw[e,e,e,e];exact ha _ _ _ _ (by split<;>lia) (by split<;>split<;>lia) (by split<;>split<;>lia) (by split<;>split<;>lia)<|by split<;>lia
def GJ{n:Nat}{w v:Nat->Nat}(h:Bi (n+1) w v)(ha:Av (n+1) w){k:Nat}(k1:v (n+1)<=k)(k2:k<=n):Eq n w v k:=by
 gn_on;refine⟨λP=>?_,λP=>?_⟩
 ·apply aJ;intro hc;have mo:=uq (f:=w) (n:=n+1) (j:=k) ();have lt:sm w (n+1) k<sm w (n+1) (k+1):=()
  obtain⟨b,m,p,J⟩:=gF (f:=w) (n:=n+1) (j:=k) ();have bk:b=k:=by
   apply aJ;intro z;have:=gk (f:=w) (n:=n+1) (j:=k+1) (b:=b) () p
   lia
  subst bk;obtain⟨d,L,g,C⟩:=gF (f:=w) (n:=n+1) (j:=b+1) ();have F:w b<w d:=by rw[<- J,<- C];exact lt
  have ne:b≠v (n+1):=λz=>by
   have:=h.w1 d () g;rw[z,a3]at F
   lia
  obtain⟨x,T,W,G⟩:=gF (f:=v) (n:=n) (j:=b) k2;have lo:=low h.out (j:=b) () k2;rw[tD h k1 k2]at lo;have q:=h.v1 x () ();have Z:w d≠x:=λz=>by
   have:=(h.w1 d () g).2.2;rw[z]at this
   lia
  have:=(ha (v x) (v<|n+1) b d q.1 () () () g).1;rw[q.2.2,a3]at this
  lia
 ·apply aJ;intro hc;obtain⟨x,T,W,G⟩:=gF (f:=v) (n:=n) (j:=k) k2;obtain⟨d,L,g,C⟩:=gF (f:=w) (n:=n+1) (j:=k+1) ();have q:=h.v1 x () ();have lo:=low h.out.back (j:=k) () k2;rw[z0 h () k2,aT ()]at lo;have wd:=h.w1 d () g;have Y:∀b,1<=b->b<sm v n k->b≠v (n+1)->w b<k:=λb m p J=>by
   apply aJ;intro z;have e:=h.w1 b m ();have:=h.nn m () J;have:=gk (f:=v) (n:=n) (j:=k) (b:=w b) () this;rw[e.2.2]at this
   lia
  have O:sm v n k<d:=by
   apply aJ;intro z;have N:d=sm v n k:=()
   rw[N,G,q.2.2]at C
   lia
  have V:w (sm v n k)=x:=by rw[G,q.2.2]
  have K:∀b,v (n+1)<b->b<sm v n k->w b<w d:=λb m p=>by
   apply aJ;intro z;have:=Y b () p ();have F:w b≠w d:=λe=>by have:=h.inj () () () g e;lia
   have:=(ha (v<|n+1) b (sm v n k) d a1 m p O g).2;rw[a3,V]at this;have:=h.nn (i:=d) () g ()
   lia
  have bb:=K (v (n+1)+1) () ();have U:∀b,1<=b->b<v (n+1)->w b<w d:=λb m p=>by
   apply aJ;intro z;have F:w b≠w d:=λe=>by have:=h.inj m () () g e;lia
   have:=(ha b (v<|n+1) (v (n+1)+1) d m p () () g).1;rw[a3]at this;have:=h.nn (i:=b) m () ()
   lia
  have:=ph (w d-1) (sm v n k-2) (wo (v<|n+1) w) (λi B M=>by
   have:=(h.out.w1 i B ()).1;refine⟨this,?_⟩;unfold wo;by_cases c:i<v (n+1)
   ·rw[aR c];have:=U i B c;lia
   ·rw[aT c];have:=K (i+1) () ();lia) (λi j B M i3 z=>by
   have:=h.out.inj B () () () z
   lia)
  lia
end Lk
namespace Lk
theorem mx(w:Nat->Nat):∀t,1<=t->∃b,1<=b/\b<=t/\∀c,1<=c->c<=t->w c<=w b
 | 0,h=>absurd h ()
 | t+1,_=>by
  by_cases c:t=0
  ·subst c;exact⟨1,aK _,aK _,λc c1 c2=>by rw[show c=1 by lia];exact aK _⟩
  ·obtain⟨b,g,j,f⟩:=mx w t ();by_cases d:w (t+1)<=w b
   ·refine⟨b,g,(),λc c1 c2=>?_⟩;by_cases e:c=t+1
    ·rw[e];exact d
    ·exact f c c1 ()
   ·refine⟨t+1,(),aK _,λc c1 c2=>?_⟩;by_cases e:c=t+1
    ·rw[e];exact aK _
    ·have:=f c c1 ();lia
def ya{n:Nat}{w v:Nat->Nat}(h:Bi (n+1) w v)(b1:1<=b)(b2:b<v (n+1))(hb:v (n+1)<=w b)(hy:∀i,v (n+1)<i->i<=n+1->y<=w i):y<v (n+1):=by
 gn_on;apply aJ;intro hc;have f:∀x,1<=x->x<v (n+1)->1<=v x/\v x<v (n+1):=λx m q=>by
  have g:=h.v1 x m ();refine⟨g.1,?_⟩;have B:=h.vn (x:=x) m ();apply aJ;intro z;have:=hy (v x) () g.2.1;rw[g.2.2]at this
  lia
 have:=ph (v (n+1)-1) (v<|n+1) (λi=>if i<v (n+1)then v i else b) (λi d p=>by
  by_cases c:i<v (n+1)
  ·dsimp[c,bC];have:=f i d c;lia
  ·dsimp[c,bu];lia) (λi j d p C=>by
  have k:i<v (n+1):=()
  by_cases c:j<v (n+1)
  ·dsimp[k,c,bC];intro z;have:=h.back.inj d () () () z
   lia
  ·dsimp[k,c,bC,bu];intro z;have:=(h.v1 i d ()).2.2;rw[z]at this
   lia)
 lia
def Eh{n:Nat}{w v:Nat->Nat}(h:Bi (n+1) w v)(ha:Av n<|wo (v<|n+1) w)(he:∀k,v (n+1)<=k->k<=n->Eq n w v k)(b1:1<=b)(b2:b<v (n+1))(c1:v (n+1)<c)(d1:c<d)(d2:d<=n+1)(h1:w c<w d)(h2:w d<w b):False:=by
 gn_on;obtain⟨p,M,m2,O⟩:=mx w (v (n+1)-1) ();have hM:=O b b1 ();have Mn:=h.nn (i:=p) M () ();obtain⟨m,e1,e2,e3⟩:=gF (f:=w) (n:=n+1) (j:=v (n+1)+1) ();have L:∀i,v (n+1)<i->i<=n+1->w m<=w i:=λi q B=>by rw[<- e3];exact gk () B
 have y1:=L c c1 ();have N:m<d:=by
  apply aJ;intro z;have nd:m≠d:=λz=>by rw[z]at y1;lia
  have nc:w m≠w c:=λz=>by have:=h.inj () () () () z;lia
  exact(tX h ha b1 (show b<c by lia) d1 (show d<m by lia) e2 () () () ()).2 ⟨(),h1,h2⟩
 have U:sm w (n+1) m=w m:=nE (aK _) e2 λi q B=>L i () B;have bv:v (w p)=p:=(h.w1 p M ()).2.2;have Z:v (n+1)-1<=w p:=ph _ _ w (λi q B=>⟨(h.w1 i q ()).1,O i q B⟩) λi j q B i3 z=>by
  have:=h.inj q () () () z
  lia
 by_cases hc:m<=w p
 ·have hy:=ya h M () (show v (n+1)<=w p by lia) L;have hp:sm v n m<v (n+1):=by
   have:=gk (f:=v) (n:=n) (j:=m) (b:=w p) hc Mn
   lia
  obtain⟨e,W,g2,V⟩:=gF (f:=w) (n:=n+1) (j:=m+1) ();have ew:w m<w e:=by
   have:=L e () g2;have:w m≠w e:=λz=>by have:=h.inj () e2 () g2 z;lia
   lia
  rcases(he m () ()).1 hp with z|z|z
  ·rw[U,V]at z;lia
  ·obtain⟨x,x1,x2,J⟩:=gF (f:=v) (n:=n) (j:=m) ();have C:=h.v1 x () ();have Y:w (sm v n m)=x:=by rw[J,C.2.2]
   have q1:1<=sm v n m:=by rw[J];exact C.1
   rw[V]at z;have:∃g,1<=g/\g<sm v n m/\sm v n m<w g:=by
    apply aJ;intro no;have all:∀g,1<=g->g<sm v n m->w g<=sm v n m:=λg W g2=>by
     apply aJ;intro z;exact no ⟨g,W,g2,()⟩
    have:=ph (sm v n m) (sm v n m+1) (λi=>if i<sm v n m then w i else if i=sm v n m then w m else w e) (λi q B=>by
     by_cases c:i<sm v n m
     ·dsimp[c,bC];exact⟨(h.w1 i q ()).1,all i q c⟩
     ·by_cases G:i=sm v n m
      ·dsimp[c,G,bC,bu,cO];exact⟨(h.w1 m () e2).1,()⟩
      ·dsimp[c,G,bu];exact⟨(h.w1 e () g2).1,z⟩) (λi j q B i3=>by
     have inj:∀{i j},1<=i->i<=n+1->1<=j->j<=n+1->i≠j->w i≠w j:=λa b c d e z=>e<|h.inj a b c d z;by_cases c:i<sm v n m
     ·by_cases G:j<sm v n m
      ·dsimp[c,G,bC];exact inj q () () () ()
      ·by_cases K:j=sm v n m
       ·dsimp[c,G,bC,bu];rw[aR K];exact inj q () () e2 ()
       ·dsimp[c,G,K,bC,bu];exact inj q () () g2 ()
     ·have ci:i=sm v n m:=()
      have cj:j=sm v n m+1:=()
      have t1:¬j<sm v n m:=()
      have t2:¬j=sm v n m:=()
      dsimp[c,t1,t2,bu];rw[aR ci]
      lia)
    lia
   obtain⟨g,F,P,gg3⟩:=this;have gn:=h.nn (i:=g) F () ();have gc:w g<m:=by
    apply aJ;intro z;have:=gk (f:=v) (n:=n) (j:=m) (b:=w g) () gn;rw[(h.w1 g F ()).2.2]at this
    lia
   exact(tX h ha F P (show sm v n m<m by lia) (show m<e by lia) g2 () () () ()).1 ⟨ew,(),()⟩
  ·rw[U]at z;lia
 ·obtain⟨x,x1,x2,J⟩:=gF (f:=v) (n:=n) (j:=w p+1) ();have C:=h.v1 x () ();have Y:w (sm v n<|w p+1)=x:=by rw[J,C.2.2]
  have ne:=tQ h (j:=w p+1) () ();have pa:v (n+1)<sm v n (w p+1):=by
   apply aJ;intro z;have:=O (v x) C.1 ();rw[C.2.2]at this
   lia
  have q2:sm v n (w p+1)<=n+1:=by rw[J];exact C.2.1
  have E:=(he (w p+1) () ()).2 pa;have T:w m<=v (n+1):=by
   have:=low h.out (j:=v<|n+1) a1 ();rw[tD h (aK _) (),e3]at this;exact this
  have qc:sm v n (w p+1)<m:=by
   have nq:sm v n (w p+1)≠m:=λz=>by rw[z]at Y;lia
   by_cases c2:w p+2<=m
   ·have:=gk (f:=w) (n:=n+1) (j:=w p+1+1) (b:=m) () e2
    lia
   ·have:=gk (f:=w) (n:=n+1) (j:=w p+1+1) (b:=d) () d2
    lia
  have wd:w m<w d:=by
   have:=L d () d2;have:w m≠w d:=λz=>by have:=h.inj () e2 () d2 z;lia
   lia
  exact(tX h ha M (show p<sm v n (w p+1)by lia) qc N d2 () () () ()).1 ⟨wd,(),()⟩
theorem ii{n:Nat}{w v:Nat->Nat}(h:Bi (n+1) w v)(ha:Av n<|wo (v<|n+1) w)(he:∀k,v (n+1)<=k->k<=n->Eq n w v k):∀(t b c d:Nat),n+1-w b<=t->v (n+1)<b->b<c->c<d->d<=n+1->w d<w b->w b<w c->(∀e,1<=e->e<v (n+1)->w e<w b)->False
 | 0,b,c,d,ht,b1,b2,b3,b4,_,h2,_=>by
  gn_on;have:=h.w1 c () ();lia
 | t+1,b,c,d,ht,b1,b2,b3,b4,h1,h2,pre=>by
  gn_on;have bn:=h.nn (i:=b) () () ();have Y:=h.nn (i:=c) () () ();have bw:=h.w1 b () ();have J:∀{i j},1<=i->i<=n+1->1<=j->j<=n+1->i≠j->w i≠w j:=λa b c d e z=>e<|h.inj a b c d z;by_cases ex:∃e,v (n+1)<e/\e<b/\w b<w e
  ·obtain⟨e,e1,e2,e3⟩:=ex;by_cases ec:w e<w c
   ·have en:=h.nn (i:=e) () () ();exact ii h ha he t e c d () e1 () b3 b4 () ec λg g1 g2=>by have:=pre g g1 g2;lia
   ·have:=J (i:=e) (j:=c) () () () () ();exact(tX h ha (show 1<=e by lia) e2 b2 b3 b4 () () () ()).2 ⟨h1,h2,()⟩
  ·have no:∀e,v (n+1)<e->e<b->¬w b<w e:=λe e1 e2 z=>ex ⟨e,e1,e2,z⟩;obtain⟨x,x1,x2,T⟩:=gF (f:=v) (n:=n) (j:=w b+1) ();have V:=h.v1 x () ();obtain⟨q,N⟩:∃q,q=sm v n (w b+1):=⟨_,rfl⟩;have L:w q=x:=by rw[N,T,V.2.2]
   have qle:q<=c:=by
    have:=gk (f:=v) (n:=n) (j:=w b+1) (b:=w c) () Y;rw[(h.w1 c () ()).2.2]at this
    lia
   have P:1<=q:=by rw[N,T];exact V.1
   have qa:q≠v (n+1):=λz=>by rw[z,a3]at L;lia
   have Z:v (n+1)<q:=by
    apply aJ;intro z;have:=pre q P ()
    lia
   have W:b<q:=by
    apply aJ;intro z;have:q≠b:=λz=>by rw[z]at L;lia
    exact no q Z () ()
   obtain⟨s,s1,O,s3⟩:=gF (f:=w) (n:=n+1) (j:=q+1) ();have M:∀i,q<i->i<=n+1->w s<=w i:=λi m p=>by rw[<- s3];exact gk () p
   have sd:=M d () b4;have sw:=h.w1 s () O;have ab:v (n+1)-1<=w b-1:=ph _ _ w (λi m p=>by
    have:=(h.w1 i m ()).1;have:=pre i m ()
    lia) λi j m p U z=>by
    have:=h.inj m () () () z
    lia
   have E:=(he (w b+1) () ()).2 ();have B:∀f,s<f->f<=n+1->w b<w f:=λf f1 f2=>by
    apply aJ;intro z;have:=J (i:=f) (j:=b) () f2 () () ();have:=J (i:=s) (j:=f) () O () f2 ();have:=M f () f2;exact(tX h ha (show 1<=b by lia) W (show q<s by lia) f1 f2 () () () ()).1 ⟨(),(),()⟩
   have big:w b+2<=s:=by
    have:=ph (n-w b) (n+2-s) (λi=>if s+i<=n+1 then w (s+i)-w b else x-w b) (λi m p=>by
     by_cases c:s+i<=n+1
     ·dsimp[c,bC];have:=B (s+i) () c;have:=h.nn (i:=s+i) () c ()
      lia
     ·dsimp[c,bu];lia) (λi j m p U=>by
     have C:s+i<=n+1:=()
     have:=B (s+i) () C;by_cases c:s+j<=n+1
     ·dsimp[C,c,bC];have:=B (s+j) () c;have:=J (i:=s+i) (j:=s+j) () C () c ()
      lia
     ·dsimp[C,c,bC,bu];have:=J (i:=s+i) (j:=q) () C P () ();rw[L]at this
      lia)
    lia
   have m2:=gk (f:=w) (n:=n+1) (j:=w b+1+1) (b:=s) () O;have fin:=ph (q-1) (w s+1) (λi=>if i<w s then v i else if i=w s then v (n+1)else b) (λi m p=>by
    by_cases c:i<w s
    ·dsimp[c,bC];have F:=h.v1 i m ();refine⟨F.1,?_⟩;apply aJ;intro z;by_cases e:v i=q
     ·have:=F.2.2;rw[e,L]at this;lia
     ·have:=M (v i) () F.2.1;rw[F.2.2]at this;lia
    ·by_cases G:i=w s
     ·dsimp[c,bu];rw[aR G];lia
     ·dsimp[c,G,bu];lia) (λi j m p U=>by
    by_cases c:i<w s
    ·have F:=h.v1 i m ();by_cases G:j<w s
     ·dsimp[c,G,bC];intro z;have:=h.back.inj m () () () z
      lia
     ·by_cases K:j=w s
      ·dsimp[c,G,bC,bu];rw[aR K];exact h.vn m ()
      ·dsimp[c,G,K,bC,bu];intro z;have:=F.2.2;rw[z]at this
       lia
    ·have C:i=w s:=()
     have t1:¬j<w s:=()
     have t2:¬j=w s:=()
     dsimp[c,t1,t2,bu];rw[aR C]
     lia)
   rw[<- N]at E
   lia
def HK{n:Nat}{w v:Nat->Nat}(h:Bi (n+1) w v)(ha:Av n<|wo (v<|n+1) w)(he:∀k,v (n+1)<=k->k<=n->Eq n w v k)(b1:v (n+1)<b)(b2:b<c)(b3:c<d)(b4:d<=n+1)(h1:w d<w b)(h2:w b<w c):False:=by
 gn_on;have C:∀{i j},1<=i->i<=n+1->1<=j->j<=n+1->i≠j->w i≠w j:=λa b c d e z=>e<|h.inj a b c d z;by_cases p:∀e,1<=e->e<v (n+1)->w e<w b
 ·exact ii h ha he _ b c d (aK _) b1 b2 b3 b4 h1 h2 p
 ·obtain⟨e0,p⟩:=Classical.not_forall.mp p;obtain⟨f1,p⟩:=Classical.not_imp.mp p;obtain⟨f2,p⟩:=Classical.not_imp.mp p;obtain⟨m,B,m2,N⟩:=mx w (v (n+1)-1) ();have:=N e0 f1 ();have:=C (i:=e0) (j:=b) f1 () () () ();have W:w b<w m:=()
  have Mn:=h.nn (i:=m) B () ();have cn:=h.nn (i:=c) () () ();have cM:w m<w c:=by
   apply aJ;intro z;have:=C (i:=m) (j:=c) B () () () ();exact Eh h ha he B (show m<v (n+1)by lia) b1 b2 () h2 ()
  have Y:v (n+1)<=w m:=ph _ _ (λi=>if i<v (n+1)then w i else w b) (λi q J=>by
   by_cases c:i<v (n+1)
   ·dsimp[c,bC];exact⟨(h.w1 i q ()).1,N i q ()⟩
   ·dsimp[c,bu];exact⟨(h.w1 b () ()).1,()⟩) λi j q J i3=>by
   have O:i<v (n+1):=()
   by_cases c:j<v (n+1)
   ·dsimp[O,c,bC];exact C q () () () ()
   ·dsimp[O,c,bC,bu];exact C q () () () ()
  obtain⟨x,x1,x2,x3⟩:=gF (f:=v) (n:=n) (j:=w m+1) ();have P:=h.v1 x () ();have nv:=tQ h (j:=w m+1) () ();have T:v (n+1)<sm v n (w m+1):=by
   apply aJ;intro z;have:=N (v x) P.1 ();rw[P.2.2]at this
   lia
  have E:=(he (w m+1) () ()).2 T;by_cases hm:sm w (n+1) (w m+1+1)<=v (n+1)
  ·have pe:v x=v (n+1)+1:=()
   have wx:w (v (n+1)+1)=x:=by rw[<- pe,P.2.2]
   have U:b≠v (n+1)+1:=λz=>by rw[z,wx]at W;lia
   by_cases xc:x<w c
   ·exact ii h ha he _ (v (n+1)+1) c d (aK _) () () b3 b4 () () λe e1 e2=>by
     have:=N e e1 ()
     lia
   ·have:=C (i:=v (n+1)+1) (j:=c) () () () () ();exact(tX h ha (show 1<=v (n+1)+1 by lia) (show v (n+1)+1<b by lia) b2 b3 b4 () () () ()).2 ⟨h1,h2,()⟩
  ·obtain⟨K,e1,e2,e3⟩:=gF (f:=w) (n:=n+1) (j:=v (n+1)+1) ();have yl:∀i,v (n+1)<i->i<=n+1->w K<=w i:=λi q J=>by rw[<- e3];exact gk () J
   have hy:=ya h B () Y yl;have Z:K<=w m+1:=by
    apply aJ;intro z;have:=gk (f:=w) (n:=n+1) (j:=w m+1+1) (b:=K) () e2
    lia
   have M:∀e,w m+1<e->e<=n+1->w m<w e:=λe g1 g2=>by
    apply aJ;intro z;have:=C (i:=e) (j:=m) () g2 B () ();have:=gk (f:=w) (n:=n+1) (j:=w m+1+1) (b:=e) () g2;exact Eh h ha he B (show m<v (n+1)by lia) (show v (n+1)<K by lia) (show K<e by lia) g2 () ()
   have dM:d<=w m+1:=by
    apply aJ;intro z;have:=M d () b4
    lia
   have:=ph (w m+1) (w m+2) (λi=>if i<=w m then v i else if i=w m+1 then v (n+1)else c) (λi q J=>by
    by_cases g:i<=w m
    ·dsimp[g,bC];have L:=h.v1 i q ();refine⟨L.1,?_⟩;apply aJ;intro z;have:=M (v i) () L.2.1;rw[L.2.2]at this
     lia
    ·by_cases F:i=w m+1
     ·dsimp[g,bu];rw[aR F];lia
     ·dsimp[g,F,bu];lia) (λi j q J i3=>by
    by_cases g:i<=w m
    ·have L:=h.v1 i q ();by_cases F:j<=w m
     ·dsimp[g,F,bC];intro z;have:=h.back.inj q () () () z
      lia
     ·by_cases G:j=w m+1
      ·dsimp[g,F,bC,bu];rw[aR G];exact h.vn q ()
      ·dsimp[g,F,G,bC,bu];intro z;have:=L.2.2;rw[z]at this
       lia
    ·have O:i=w m+1:=()
     have V:¬j<=w m:=()
     have t2:¬j=w m+1:=()
     dsimp[g,V,t2,bu];rw[aR O]
     lia)
   lia
def GX{n:Nat}{w v:Nat->Nat}(h:Bi (n+1) w v)(ha:Av n<|wo (v<|n+1) w)(he:∀k,v (n+1)<=k->k<=n->Eq n w v k):Av (n+1) w:=λp q r s h1 G m g d=>by
 gn_on;have f:∀i,1<=i->i<=n+1->w i<=n+1:=λi F J=>(h.w1 i F J).2.1;have T:=f p h1 ();have O:=f q () ();have P:=f r () ();have L:=f s () d;by_cases cp:p=v (n+1)
 ·have N:w p=n+1:=by rw[cp,a3]
  refine⟨λz=>(),λz=>?_⟩;exact HK h ha he (show v (n+1)<q by lia) m g d z.1 z.2.1
 ·by_cases B:q=v (n+1)
  ·have U:w q=n+1:=by rw[B,a3]
   refine⟨λz=>?_,λz=>()⟩;exact Eh h ha he h1 (show p<v (n+1)by lia) (show v (n+1)<r by lia) g d z.1 z.2.1
  ·by_cases C:r=v (n+1)
   ·have M:w r=n+1:=by rw[C,a3]
    exact⟨λz=>(),λz=>()⟩
   ·by_cases j:s=v (n+1)
    ·have K:w s=n+1:=by rw[j,a3]
     exact⟨λz=>(),λz=>()⟩
    ·exact tX h ha h1 G m g d cp B C j
abbrev ln:Nat->(Nat->Nat)->(Nat->Nat)->Nat
 | 0,_,_=>0
 | n+1,w,v=>ln n (wo (v<|n+1) w) (vo (v<|n+1) v)+(n+1-v (n+1))
theorem main:∀(n:Nat) (w v:Nat->Nat),Bi n w v->ln n w v<=Bc n w v/\(Bc n w v=ln n w v ↔ Av n w)
 | 0,w,v,_=>⟨dX _,λ_ p q r s h1 J F B C=>(),λ_=>rfl⟩
 | n+1,w,v,h=>by
  obtain⟨G,d⟩:=main n _ _ h.out;obtain⟨K,f⟩:=adds h;have e:ln (n+1) w v=ln n (wo (v<|n+1) w) (vo (v<|n+1) v)+(n+1-v (n+1)):=rfl;refine⟨(),λz=>?_,λz=>?_⟩
  ·have g:Bc n (wo (v<|n+1) w) (vo (v<|n+1) v)=ln n (wo (v<|n+1) w) (vo (v<|n+1) v):=()
   exact GX h (d.mp g)<|f.mp ()
  ·have g:=d.mpr<|EC h z;have L:=f.mpr λk j m=>GJ h z j m
   lia
end Lk
namespace Wd
open Bl L2
abbrev ex (l:ae)(k:Nat):ae:=(l.set (k-1)<|l.getD k 0).set k<|l.getD (k-1) 0
abbrev led (l:ae)(w:ag):ae:=w.foldl ex l
def kq{l:ae}{k:Nat}(h:k<l.length):l.getD k 0=l[k]:=by rw[aN,aH h];rfl
def nY{l:ae}{k:Nat}(h0:1<=k)(h:k<l.length):ex l k=(l.set (k-1) l[k]).set k (l[k-1]'()):=by
 unfold ex;rw[kq h,kq<|show k-1<l.length by lia]
def jQ(l:ae)(k:Nat):(ex l k).length=l.length:=by unfold ex;rw[bG,bG]
theorem uW:∀(w:ag) (l:ae),(led l w).length=l.length
 | [],_=>rfl
 | k::w,l=>by show(led (ex l k) w).length=_;rw[uW w,jQ]
def BY{l:ae}{k:Nat}(h0:1<=k)(h:k<l.length):(ex l k).Perm l:=by
 rw[nY h0 h];exact List.set_set_perm () h
def Cz(a b:ag)(l:ae):led l (a++b)=led (led l a) b:=List.foldl_append
def tH{l:ae}{k:Nat}(h0:1<=k)(h:k<l.length)(i:Nat)(j:Int) :
  cnt ((ex l k).take i) j=cnt (l.take i) j+(if i=k then(if j<=l[k]then 1 else 0)-(if j<=l[k-1]'()then 1 else 0)else 0):=by
 rw[nY h0 h];have d:k<(l.set (k-1) l[k]).length:=by rw[bG];exact h
 rw[k_ d,k_<|show k-1<l.length by lia];have e:(l.set (k-1) l[k])[k]=l[k]:=by rw[d_ ()]
 rw[e];by_cases h1:i=k
 ·rw[aR h1,aR<|show k-1<i by lia,aT<|show ¬k<i by lia];lia
 ·by_cases f:k<i
  ·rw[aT h1,aR<|show k-1<i by lia,aR f];lia
  ·rw[aT h1,aT<|show ¬k-1<i by lia,aT f];lia
def lift{u w:ae}{k:Nat}(hl:u.length=w.length)(h0:1<=k)(h:k<w.length)(hr:w[k-1]'()<w[k])(hb:Below u w):Below (ex u k) (ex w k):=by
 have g:k<u.length:=()
 intro i j;rw[tH h0 g,tH h0 h];by_cases hi:i=k
 ·subst hi;rw[aR rfl,aR rfl];have m:=hb (i-1) j;have f:=hb i j;have d:=hb (i+1) j;have c1:=jV (l:=u) (i:=i-1) () j;have c2:=jV (l:=w) (i:=i-1) () j;have c3:=jV (l:=u) (i:=i) g j;have p:=jV (l:=w) (i:=i) h j;rw[show i-1+1=i by lia]at c1 c2;rw[c3,p]at d;rw[c1,c2]at f d;rw[c1,c2];revert m f d
  (repeat' split)<;>intros<;>lia
 ·rw[aT hi,aT hi];have:=hb i j
  lia
abbrev sw (k:Nat)(x:Int):Int:=if x=k then(k:Int)+1 else if x=(k:Int)+1 then k else x
def ex_map(f:Int->Int){l:ae}{k:Nat}(h0:1<=k)(h:k<l.length):ex (l.map f) k=(ex l k).map f:=by
 rw[nY h0 h,nY h0<|by rw[aP];exact h,eg,eg,List.getElem_map,List.getElem_map]
theorem uN(f:Int->Int):∀{w:ag}{l:ae},(∀k∈w,1<=k/\k<l.length)->led (l.map f) w=(led l w).map f
 | [],_,_=>rfl
 | k::w,l,h=>by
  have d:=h k<|a_ ..;show led (ex (l.map f) k) w=(led (ex l k) w).map f;rw[ex_map f d.1 d.2,uN f λm g=>by rw[jQ];exact h m<|aU _ g]
def gy{n p:Nat}(h:p<n):(fj 1<|(n:Int)+1)[p]?=some ((p:Int)+1):=by
 unfold fj;rw[br,cE ()];simp;lia
def fS(n:Nat):(fj 1<|(n:Int)+1).length=n:=by rw[fQ];lia
def kN{l:ae}{k:Nat}(h0:1<=k)(h:k<l.length)(p:Nat):(ex l k)[p]?=if p=k then l[k-1]? else if p=k-1 then l[k]? else l[p]?:=by
 rw[nY h0 h,dJ];by_cases h1:k=p
 ·rw[aR h1,aR h1.symm,aR<|by rw[bG];lia,aH]
 ·rw[aT h1,aT λz=>h1 z.symm,dJ];by_cases d:k-1=p
  ·rw[aR d,aR d.symm,aR (),aH]
  ·rw[aT d,aT λz=>d z.symm]
def D_{n k:Nat}(h0:1<=k)(h:k<n):ex (fj 1<|(n:Int)+1) k=(fj 1<|(n:Int)+1).map (sw k):=by
 apply cT;intro p;rw[kN h0<|by rw[fS];exact h,br];by_cases f:p<n
 ·rw[gy f,gy h,gy<|show k-1<n by lia];show _=some (sw k<|(p:Int)+1);unfold sw;by_cases h1:p=k
  ·rw[aR h1,aT (),aR ()];congr 1;lia
  ·rw[aT h1];by_cases d:p=k-1
   ·rw[aR d,aR ()]
   ·rw[aT d,aT (),aT ()]
 ·have e:(fj 1<|(n:Int)+1)[p]?=none:=cR (by rw[fS];lia);rw[aT (),aT (),e];rfl
def xw{A B:ae}{k:Nat}(h0:1<=k)(h:k<A.length)(hb:ow A B):ow (ex A k) (B.map<|sw k):=by
 refine⟨by rw[jQ,aP];exact hb.1,λp f=>?_⟩;rw[jQ]at f;have hg:(ex A k)[p]'(by rw[jQ];exact f)=if p=k then A[k-1]'()else if p=k-1 then A[k]else A[p]:=by
  have:=kN h0 h p;rw[aH<|by rw[jQ];exact f]at this;by_cases h1:p=k
  ·rw[aR h1,aH<|show k-1<A.length by lia]at this;rw[aR h1];exact aL this
  ·rw[aT h1]at this;rw[aT h1];by_cases d:p=k-1
   ·rw[aR d,aH h]at this;rw[aR d];exact aL this
   ·rw[aT d,aH f]at this;rw[aT d];exact aL this
 rw[hg,br];by_cases h1:p=k
 ·rw[aR h1,hb.2 (k-1) ()];show some (sw k _)=_;unfold sw;rw[aR ()];congr 1;lia
 ·rw[aT h1];by_cases d:p=k-1
  ·rw[aR d,hb.2 k h];show some (sw k _)=_;unfold sw;rw[aT (),aR ()];congr 1;lia
  ·rw[aT d,hb.2 p f];show some (sw k _)=_;unfold sw;rw[aT (),aT ()]
theorem rQ{n:Nat}:∀(w:ag),(∀k∈w,1<=k/\k<n)->ow (led (fj 1<|(n:Int)+1) w.reverse) (led (fj 1<|(n:Int)+1) w)
 | [],_=>⟨rfl,λp d=>by
  have d:p<n:=by rw[show([]:ag).reverse=[]from rfl]at d;have:p<(fj 1<|(n:Int)+1).length:=d;rw[fS]at this;exact this
  have e:(fj 1<|(n:Int)+1)[p]'(by rw[fS];exact d)=(p:Int)+1:=by
   have:=gy d;rw[aH<|by rw[fS];exact d]at this;exact aL this
  show(fj 1<|(n:Int)+1)[(((fj 1<|(n:Int)+1)[p]'(by rw[fS];exact d))-1).toNat]?=_;rw[e,show((p:Int)+1-1).toNat=p by lia];exact gy d⟩
 | k::w,h=>by
  have f:=h k<|a_ ..;have hw:=λm g=>h m<|aU k g;have j:=rQ w hw;rw[List.reverse_cons,Cz];show ow (ex (led (fj 1<|(n:Int)+1) w.reverse) k) (led (ex (fj 1<|(n:Int)+1) k) w);rw[D_ f.1 f.2,uN (sw k) λm g=>by rw[fS];exact hw m g];exact xw f.1 (by rw[uW,fS];exact f.2) j
end Wd
namespace Iv
open L2 Bl
abbrev inv:ae->Nat
 | []=>0
 | x::l=>l.countP (λy=>decide<|y<x)+inv l
abbrev g7 (a b:ae):Nat:=(a.map λx=>b.countP λy=>decide<|y<x).sum
def ki(x:Int)(a b:ae):g7 (x::a) b=b.countP (λy=>decide<|y<x)+g7 a b:=rfl
theorem gb:∀(a b:ae),inv (a++b)=inv a+inv b+g7 a b
 | [],b=>by show inv b=0+inv b+0;lia
 | x::a,b=>by
  show(a++b).countP _+inv (a++b)=(a.countP _+inv a)+inv b+g7 (x::a) b;rw[dg,gb a b,ki];lia
theorem mG:∀{a b:ag},a.Perm b->a.sum=b.sum
 | _,_,.nil=>rfl
 | _,_,.cons x h=>by rw[c6,c6,mG h]
 | _,_,.swap x y l=>by rw[c6,c6,c6,c6];lia
 | _,_,.trans h k=>(mG h).trans<|mG k
def Cp{a:ae}(b:ae)(h:a.Perm a'):g7 a b=g7 a' b:=mG<|h.map _
def CA(a:ae){b:ae}(h:b.Perm b'):g7 a b=g7 a b':=by
 unfold g7;congr 1;refine List.map_congr_left λx _=>h.countP_eq _
def qI{M:ae}{x y:Int}(h:∀m∈M,m<x\/y<m)(hxy:x<y):M.countP (λm=>decide<|m<x)=M.countP (λm=>decide<|m<y):=by
 refine List.countP_congr λm d=>?_;rw[eH,eH]
 rcases h m d with z|z<;>omega
theorem nG:∀{M:ae}{x y:Int},(∀m∈M,m<x\/y<m)->x<y->g7 M [x]=g7 M [y]
 | [],_,_,_,_=>rfl
 | m::M,x,y,h,hxy=>by
  rw[ki,ki,nG (λd f=>h d<|aU _ f) hxy];congr 1;have:=h m<|a_ ..;dsimp[b8,List.countP_nil];by_cases c:x<m
  ·rw[bP c,bP<|show y<m by omega]
  ·rw[bz c,bz<|show ¬y<m by omega]
def mid{M:ae}{x y:Int}(h:∀m∈M,m<x\/y<m)(hxy:x<y):inv ([y]++M++[x])=inv ([x]++M++[y])+1:=by
 rw[gb,gb,gb<|[x]++M,gb [x]];have e1:g7 [y] M=g7 [x] M:=by
  show M.countP _+0=M.countP _+0;rw[qI h hxy]
 have e2:g7 ([y]++M) [x]=1+g7 M [x]:=by
  show[x].countP _+g7 M [x]=_;rw[b8,bP hxy];rfl
 have e3:g7 ([x]++M) [y]=g7 M [y]:=by
  show[y].countP _+g7 M [y]=_;rw[b8,bz (by lia:¬y<x)];simp
 rw[e1,e2,e3,nG h hxy]
 skip
 lia
def yv(M:ae)(x y:Int):([y]++M++[x]).Perm ([x]++M++[y]):=by
 refine(List.perm_append_comm (l₁:=[y]++M) (l₂:=[x])).trans ?_
 skip
 exact .cons x<|List.perm_append_comm (l₁:=[y]) (l₂:=M)
def step{P M R:ae}{x y:Int}(h:∀m∈M,m<x\/y<m)(hxy:x<y):inv (P++([y]++M++[x])++R)=inv (P++([x]++M++[y])++R)+1:=by
 have p:=yv M x y;rw[gb,gb P,gb<|P++([x]++M++[y]),gb P,mid h hxy,CA P p,Cp R<|p.append_left P]
 lia
abbrev sw (a:ae)(i j:Nat):ae:=(a.set i<|a.getD j 0).set j<|a.getD i 0
def split{a:ae}(hij:i<j)(hj:j<a.length):∃P M R:ae,a=P++([a.getD i 0]++M++[a.getD j 0])++R/\P=a.take i/\(∀m∈M,∃k,i<k/\k<j/\a[k]?=some m)/\sw a i j=P++([a.getD j 0]++M++[a.getD i 0])++R:=by
 have N:a.getD i 0=a[i]:=by rw[aN,aH ()];rfl
 have G:a.getD j 0=a[j]:=by rw[aN,aH hj];rfl
 obtain⟨M,q⟩:∃M,M=(a.drop<|i+1).take (j-i-1):=⟨_,rfl⟩;have K:M.length=j-i-1:=by rw[q,bB,cV];lia
 have F:a=a.take i++([a.getD i 0]++M++[a.getD j 0])++a.drop (j+1):=by
  have h1:a.drop i=a[i]::a.drop (i+1):=cg ();have L:a.drop (i+1)=M++a.drop j:=by
   rw[q];have:=dN (j-i-1)<|a.drop<|i+1;rw[List.drop_drop,show i+1+(j-i-1)=j by lia]at this;exact this.symm
  have J:a.drop j=a[j]::a.drop (j+1):=cg hj
  conv=>lhs;rw[<- dN i a,h1,L,J]
  rw[N,G];simp
 refine⟨a.take i,M,a.drop<|j+1,F,rfl,λm B=>?_,?_⟩
 ·rw[q]at B;obtain⟨k,g⟩:=cA B;have p:k<j-i-1:=by
   have:=(aI.mp g).1;rw[bB]at this;lia
  rw[bT p,eG]at g;exact⟨i+1+k,(),(),g⟩
 ·have z:∀(P R:ae) (x y f d:Int),P.length=i->((P++([x]++M++[y])++R).set i d).set j f=P++([d]++M++[f])++R:=λP R x y f d C=>by
   rw[bx,dO _ _ (),C,sub_self];show(P++(d::((M++[y])++R))).set j f=_;rw[dO _ _ (),C,show j-i=(j-i-1)+1 by lia,List.set_cons_succ,bx,dO _ _ (),K,sub_self];simp
  have:=z (a.take i) (a.drop<|j+1) (a.getD i 0) (a.getD j 0) (a.getD i 0) (a.getD j 0) (by rw[bB];lia);rw[<- F]at this;exact this
end Iv
namespace Fw
open PySem L2 Bl
open Wd (ex led)
meta abbrev rg (n:Nat):ae:=fj 1<|(n:Int)+1
def C7{l:ae}{k:Nat}(h0:1<=k)(h:k<l.length):ex (ex l k) k=l:=by
 apply cT;intro p;have h':k<(ex l k).length:=by rw[Wd.jQ];exact h
 rw[Wd.kN h0 h',Wd.kN h0 h,Wd.kN h0 h,Wd.kN h0 h];by_cases c3:p=k
 ·rw[aR c3,aT (),aR rfl,c3]
 ·rw[aT c3];by_cases c2:p=k-1
  ·rw[aR c2,aR rfl,c2]
  ·rw[aT c2,aT c3,aT c2]
def Dt{l:ae}{k:Nat}(h0:1<=k)(h:k<l.length):(ex l k).getD k 0=l.getD (k-1) 0:=by
 rw[aN,Wd.kN h0 h,aR rfl,aN]
def CY{l:ae}{k:Nat}(h0:1<=k)(h:k<l.length):(ex l k).getD (k-1) 0=l.getD k 0:=by
 rw[aN,Wd.kN h0 h,aT (),aR rfl,aN]
def Fe{l:ae}{k:Nat}(h0:1<=k)(h:k<l.length)(hr:l.getD (k-1) 0<l.getD k 0):Iv.inv (ex l k)=Iv.inv l+1:=by
 obtain⟨P,M,R,e,_,f,es⟩:=Iv.split (a:=l) (i:=k-1) (j:=k) () h;have:=Iv.step (P:=P) (M:=M) (R:=R) (x:=l.getD (k-1) 0) (y:=l.getD k 0) (λm d=>by obtain⟨_,_,_,_⟩:=f m d;lia) hr;rw[<- es,<- e]at this;exact this
def AQ{l:ae}{k:Nat}(h0:1<=k)(h:k<l.length)(hr:l.getD k 0<l.getD (k-1) 0):Iv.inv l=Iv.inv (ex l k)+1:=by
 have:=Fe (l:=ex l k) h0 (by rw[Wd.jQ];exact h) (by rw[Dt h0 h,CY h0 h];exact hr);rw[C7 h0 h]at this;exact this
abbrev Bh (l:ae)(k:Nat):Prop:=1<=k/\k<l.length/\l.getD k 0<l.getD (k-1) 0
def GS{l:ae}(h:∀k,¬Bh l k):l.Pairwise (·<=·):=by
 have f:∀d i,i+d<l.length->l.getD i 0<=l.getD (i+d) 0:=by
  intro d
  induction d with
  | zero=>intro i _;exact dm _
  | succ d g=>
   intro i hi;have h1:=g i ();have q:¬l.getD (i+d+1) 0<l.getD (i+d) 0:=λz=>h (i+d+1) ⟨(),hi,z⟩;rw[<- Nat.add_assoc];lia
 rw[cX];intro i j hi p m;have:=f (j-i) i ();rw[show i+(j-i)=j by lia,Wd.kq hi,Wd.kq p]at this;exact this
def Hq{l:ae}{n:Nat}(p:l.Perm<|rg n)(h:∀k,¬Bh l k):l=rg n:=
 List.Perm.eq_of_pairwise (λx y _ _ h1 d=>eV h1 d) (GS h) (CI _ _) p
abbrev Dn:ae->ag->Prop
 | l,[]=>∀k,¬Bh l k
 | l,k::ks=>(Bh l k/\∀j,Bh l j->k<=j)/\Dn (ex l k) ks
def Gg{l:ae}{n k:Nat}(p:l.Perm<|rg n)(h0:1<=k)(h:k<l.length):(ex l k).Perm (rg n):=(Wd.BY h0 h).trans p
theorem Dz:∀(m:Nat) (l:ae),Iv.inv l<=m->∃ks,Dn l ks
 | 0,l,h=>⟨[],λk d=>by have:=AQ d.1 d.2.1 d.2.2;lia⟩
 | m+1,l,h=>by
  by_cases c:∃k,Bh l k
  ·obtain⟨k,d,f⟩:∃k,Bh l k/\∀j,Bh l j->k<=j:=by
    obtain⟨k,d⟩:=c
    induction k using Nat.strongRecOn with
    | ind k B=>
     by_cases z:∃j,Bh l j/\j<k
     ·obtain⟨j,q,p⟩:=z;exact B j p q
     ·exact⟨k,d,λj q=>Nat.le_of_not_lt λy=>z ⟨j,q,y⟩⟩
   have:=AQ d.1 d.2.1 d.2.2;obtain⟨ks,g⟩:=Dz m (ex l k) ();exact⟨k::ks,⟨d,f⟩,g⟩
  ·exact⟨[],λk d=>c ⟨k,d⟩⟩
structure Two (n:Nat)(o u:ae):Prop where
 po:o.Perm (rg n)
 pu:u.Perm (rg n)
 ou:ow o u
end Fw
namespace Eu
open PySem L2 Bl
open Wd (ex tH)
open Fw (rg Bh)
def kq{l:ae}{k:Nat}(h:k<l.length):l.getD k 0=l[k]:=by rw[aN,aH h];rfl
abbrev al (n:Nat):List (ae):=(List.range<|Nu.G2 n).map<|Nu.JT n<|rg n
abbrev sg (z:ae):Int:=if Iv.inv z % 2=1 then -1 else 1
open Classical in
abbrev sm (n:Nat)(P:ae->Prop):Int:=((al n).map λz=>if P z then sg z else 0).sum
end Eu
namespace Gr
open PySem L2 Bl Fw
open Wd (ex led jQ nY lift rQ)
def yw{k:Nat}(f:Bh l k):Below (ex l k) l:=by
 obtain⟨h0,h,g⟩:=f;have e:=C7 h0 h;have j:(ex l k).length=l.length:=jQ l k;have:=lift (u:=ex l k) (w:=ex l k) (k:=k) rfl h0 (by rw[j];exact h);have a1:=Dt h0 h;have a2:=CY h0 h;rw[Eu.kq<|show k<(ex l k).length by lia]at a1;rw[Eu.kq<|show k-1<(ex l k).length by lia]at a2;have d:(ex l k)[k-1]'()<(ex l k)[k]'():=by rw[a1,a2];exact g
 have:=rW (l:=ex l k) (p:=k-1) (q:=k) () () () d;rw[<- nY h0 (),e]at this;exact this
theorem rT:∀(ks:ag) {n:Nat}{y:ae},y.Perm (rg n)->Dn y ks->Below (rg n) y
 | [],n,y,py,h=>by rw[Hq py h];exact Below.refl _
 | k::ks,n,y,py,h=>(rT ks (Gg py h.1.1.1 h.1.1.2.1) h.2).trans<|yw h.1.1
end Gr
namespace Fo
open PySem L2
abbrev P (a b c d:Int):Prop:=(c<d/\d<a/\a<b)\/(d<b/\b<c/\c<a)
def jc{xs:ae}{i:Nat}{a:Int}(h:xs[i]?=some a):i<xs.length:=(aI.mp h).1
structure Back (xs ys:ae):Prop where
 iff:∀p q:Nat,xs[p]?=some ((q:Int)+1) ↔ ys[q]?=some ((p:Int)+1)
 left:∀(p:Nat) x,xs[p]?=some x->∃q:Nat,x=(q:Int)+1
 right:∀(p:Nat) x,ys[p]?=some x->∃q:Nat,x=(q:Int)+1
def Back.symm(h:Back xs ys):Back ys xs:=⟨λp q=>(h.iff q p).symm,h.right,h.left⟩
def gy{lo hi:Int}{i:Nat}(h:(i:Int)<hi-lo):(fj lo hi)[i]?=some (lo+i):=by
 unfold fj;rw[br,cE ()];rfl
end Fo
namespace Lk
abbrev wF (xs:ae)(i:Nat):Nat:=(xs.getD (i-1) 0).toNat
def kL{n:Nat}{xs:ae}(p:xs.Perm<|L2.fj 1<|(n:Int)+1)(h1:1<=i)(h2:i<=n):xs[i-1]?=some ((wF xs i:Nat):Int)/\1<=wF xs i/\wF xs i<=n:=by
 have d:xs.length=n:=by rw[p.length_eq,Kr.fS]
 have e:xs[i-1]?=some (xs.getD (i-1) 0):=by rw[aN,aH ()];rfl
 have m:=L2.fM.mp<|p.mem_iff.mp<|bH e;unfold wF;refine⟨?_,(),()⟩;rw[e,show(((xs.getD (i-1) 0).toNat:Nat):Int)=xs.getD (i-1) 0 by lia]
def qA{n i j:Nat}{q:Int}(h1:1<=i)(h2:i<j)(h3:j<=n):Bl.cnt ((Kr.two n (i:Int) (j:Int)).take t) q=Bl.cnt ((L2.fj 1<|(n:Int)+1).take t) q+(if i<=t/\t<j/\(i:Int)<q/\q<=(j:Int)then 1 else 0):=by
 have d:=Kr.fS n;rw[<- Kr.qj () () (),show((i:Int)-1).toNat=i-1 by lia,show((j:Int)-1).toNat=j-1 by lia];rw[Bl.k_<|by rw[bG];lia,Bl.k_ ()];have e1:(L2.fj 1<|(n:Int)+1)[i-1]'()=(i:Int):=by
  have:=Kr.gy (n:=n) (p:=i-1) ();rw[aH ()]at this;have:=aL this;rw[this];lia
 have e2:((L2.fj 1<|(n:Int)+1).set (i-1) (j:Int))[j-1]'(by rw[bG];lia)=(j:Int):=by
  rw[d_ ()];have:=Kr.gy (n:=n) (p:=j-1) ();rw[aH ()]at this;have:=aL this;rw[this];lia
 rw[e1,e2]
 repeat' split
 all_goals lia
def Ah{l m:ae}(h:l.Nodup)(s:∀x∈l,x∈m):l.length<=m.length:=by
 apply aJ;intro z;have:=(L2.jA h s ()).length_eq
 lia
theorem mq(q:Int):∀(l:ae),Bl.cnt l q+((l.filter λx=>decide<|x<q).length:Nat)=l.length
 | []=>rfl
 | x::l=>by
  have:=mq q l;show(if q<=x then(1:Int)else 0)+Bl.cnt l q+_=_;rw[b7,bE];by_cases c:x<q
  ·rw[aR<|bP c,aT (),bE];lia
  ·rw[aT<|show ¬decide (x<q)=true from λz=>c<|eL z,aR<|show q<=x by lia];lia
def Cr{q:Int}{l:ae}(h:1<=Bl.cnt l q):∃x∈l,q<=x:=by
 apply aJ;intro z;have:=Kr.cnt_none (j:=q) (a:=l) λx d=>by
  apply aJ;intro y;exact z ⟨x,d,()⟩
 lia
theorem vG{q x:Int}:∀{l:ae},x∈l->q<=x->1<=Bl.cnt l q
 | y::l,h,hq=>by
  show 1<=(if q<=y then(1:Int)else 0)+Bl.cnt l q;have:=Bl.oX l q
  rcases bJ.mp h with z|z
  ·rw[aR ()];lia
  ·have:=vG z hq;split<;>lia
def yq{n t:Nat}(ht:t<=n)(q:Int)(h1:1<=q):Bl.cnt ((L2.fj 1<|(n:Int)+1).take t) q=if q<=(t:Int)then(t:Int)-q+1 else 0:=by
 have e:(L2.fj 1<|(n:Int)+1).take t=L2.fj 1 ((t:Int)+1):=by
  unfold L2.fj;rw[<- map_take,List.take_range];congr 2
  lia
 rw[e];by_cases c:q<=(t:Int)
 ·have:=Bl.Cj t (q-1) () ();rw[show q-1+1=q by lia]at this;rw[this,aR c];lia
 ·rw[aT c];exact Kr.cnt_none λx d=>by have:=L2.fM.mp d;lia
def nB{n i j:Nat}{xs:ae}(p:xs.Perm<|L2.fj 1<|(n:Int)+1)(h1:1<=i)(h2:i<j)(h3:j<=n) :
  Bl.Below (Kr.two n (i:Int) (j:Int)) xs ↔ (∃a,1<=a/\a<=i/\j<=wF xs a)/\∃b,j<=b/\b<=n/\wF xs b<=i:=by
 have hl:xs.length=n:=by rw[p.length_eq,Kr.fS]
 have G:xs.Nodup:=p.nodup_iff.mpr<|L2.iD _ _;constructor
 ·intro F;refine⟨?_,?_⟩
  ·have:=F i (j:Int);rw[qA h1 h2 h3,aR ()]at this;have nn:=Bl.oX ((L2.fj 1<|(n:Int)+1).take i) (j:Int);obtain⟨x,g,W⟩:=Cr (q:=(j:Int)) (l:=xs.take i) ();obtain⟨k,f⟩:=cA g;have B:=(aI.mp f).1;rw[bB]at B;rw[bT ()]at f;refine⟨k+1,(),(),?_⟩;have:=(kL p (i:=k+1) () ()).1;rw[b9,f]at this;have:=aL this
   lia
  ·apply aJ;intro no;have:=F (j-1)<|(i:Int)+1;rw[qA h1 h2 h3,aR (),yq () _ ()]at this;have C:=mq ((i:Int)+1)<|xs.take<|j-1;rw[bB]at C;have all:∀x∈L2.fj 1 ((i:Int)+1),x∈(xs.take<|j-1).filter λx=>decide (x<(i:Int)+1):=λx g=>by
    have K:=L2.fM.mp g;have mx:x∈xs:=p.mem_iff.mpr<|L2.fM.mpr ⟨(),()⟩;obtain⟨k,f⟩:=cA mx;have B:=(aI.mp f).1;have w:=kL p (i:=k+1) () ();rw[b9,f]at w;have Y:=aL w.1;have L:k<j-1:=by
     apply aJ;intro z;exact no ⟨k+1,(),(),()⟩
    refine c7.mpr ⟨?_,bP ()⟩;exact bH (i:=k)<|by rw[bT L];exact f
   have ln:=Ah (L2.iD _ _) all;rw[Kr.fS]at ln;split at this<;>lia
 ·rintro⟨⟨a,a1,a2,a3⟩,b,V,O,Z⟩ t q;rw[qA h1 h2 h3];have base:Bl.cnt ((L2.fj 1<|(n:Int)+1).take t) q<=Bl.cnt (xs.take t) q:=by
   obtain⟨N,U⟩:=Fw.Dz _ xs<|aK _;exact Gr.rT N p U t q
  by_cases c:i<=t/\t<j/\(i:Int)<q/\q<=(j:Int)
  ·rw[aR c,yq () _ ()];by_cases d:q<=(t:Int)
   ·rw[aR d];have C:=mq q<|xs.take t;rw[bB]at C;have T:=kL p (i:=b) () O;have uL:((wF xs b:Nat):Int)∉xs.take t:=λJ=>by
     obtain⟨k,f⟩:=cA J;have B:=(aI.mp f).1;rw[bB]at B;rw[bT (),<- T.1]at f;have:=(List.getElem?_inj () G).mp f
     lia
    have ln:=Ah (l:=((wF xs b:Nat):Int)::(xs.take t).filter λx=>decide<|x<q) (m:=L2.fj 1<|(q-1)+1) (cu.mpr ⟨λz=>uL (c7.mp z).1,(G.sublist<|List.take_sublist _ _).sublist List.filter_sublist⟩) (λx g=>by
     rcases bJ.mp g with z|z
     ·rw[z];exact L2.fM.mpr ⟨(),()⟩
     ·have z:=c7.mp z;have:=L2.fM.mp<|p.mem_iff.mp<|cz z.1;have:=eL z.2;exact L2.fM.mpr ⟨(),()⟩)
    have M:(L2.fj 1<|(q-1)+1).length=(q-1).toNat:=by rw[L2.fQ];lia
    rw[bE,M]at ln
    lia
   ·rw[aT d];have P:=kL p (i:=a) a1 ();have:=vG (q:=q) (x:=((wF xs a:Nat):Int)) (l:=xs.take t) (bH (i:=a-1)<|by rw[bT ()];exact P.1) ()
    lia
  ·rw[aT c];lia
end Lk
namespace Lk
theorem zQ{f g:Nat->Nat}:∀n,su (λj=>f j+g j) n=su f n+su g n
 | 0=>rfl
 | n+1=>by show su (λj=>f j+g j) n+(f (n+1)+g (n+1))=su f n+f (n+1)+(su g n+g (n+1));rw[zQ n];lia
theorem qi:∀n,su (λ_=>0) n=0
 | 0=>rfl
 | n+1=>by show su _ n+0=0;rw[qi n]
theorem vg{D:Nat->Nat->Nat}(n:Nat):∀m,su (λi=>su (λj=>D i j) n) m=su (λj=>su (λi=>D i j) m) n
 | 0=>(qi n).symm
 | m+1=>by
  show su (λi=>su (λj=>D i j) n) m+su (λj=>D (m+1) j) n=su (λj=>su (λi=>D i j) m+D (m+1) j) n;rw[vg n m,zQ]
theorem tN{lo:Nat}(h1:1<=lo):∀(N hi:Nat),hi<=N+1->su (λi=>if lo<=i/\i<hi then 1 else 0) N=hi-lo
 | 0,hi,h=>by show 0=_;lia
 | N+1,hi,h=>by
  show su (λi=>if lo<=i/\i<hi then 1 else 0) N+(if lo<=N+1/\N+1<hi then 1 else 0)=_;by_cases c:hi=N+2
  ·have e:su (λi=>if lo<=i/\i<hi then 1 else 0) N=su (λi=>if lo<=i/\i<N+1 then 1 else 0) N:=ji λj f g=>by
    by_cases d:lo<=j
    ·rw[aR ⟨d,()⟩,aR ⟨d,()⟩]
    ·rw[aT (),aT ()]
   rw[e,tN h1 N (N+1)<|aK _];split<;>lia
  ·rw[tN h1 N hi (),aT ()];lia
open Classical in
abbrev cB (n:Nat)(xs:ae):Nat:=su (λi=>su (λj=>if i<j/\Bl.Below (Kr.two n (i:Int) (j:Int)) xs then 1 else 0) n) n
def ye{n:Nat}{xs:ae}{v:Nat->Nat}(p:xs.Perm<|L2.fj 1<|(n:Int)+1)(h:Bi n (wF xs) v):cB n xs=Bc n (wF xs) v:=by
 have g:∀i j,1<=i->i<=n->1<=j->j<=n->((i<j/\Bl.Below (Kr.two n (i:Int) (j:Int)) xs) ↔ (max (sm (wF xs) n j) (sm v n j)<=i/\i<j)):=λi j B C m d=>by
  by_cases c:i<j
  ·rw[nB p B c d];constructor
   ·rintro⟨_,⟨a,a1,a2,a3⟩,b,q,k,F⟩;have e:=h.w1 a a1 ();have M:=gk (f:=v) (n:=n) (j:=j) (b:=wF xs a) a3 e.2.1;have N:=gk (f:=wF xs) (n:=n) (j:=j) (b:=b) q k
    lia
   ·rintro⟨z,_⟩;obtain⟨x,G,J,L⟩:=gF (f:=v) (n:=n) (j:=j) d;obtain⟨b,q,k,F⟩:=gF (f:=wF xs) (n:=n) (j:=j) d;have e:=h.v1 x () J;exact⟨c,⟨v x,e.1,(),by rw[e.2.2];exact G⟩,b,q,k,()⟩
  ·exact⟨λz=>absurd z.1 c,λz=>absurd z.2 c⟩
 unfold cB Bc;rw[vg];refine ji λj m d=>?_;have O:=low h (j:=j) m d;have K:=low h.back (j:=j) m d;obtain⟨b,q,k,F⟩:=gF (f:=wF xs) (n:=n) (j:=j) d;have:=(h.w1 b () k).1;unfold tm;rw[<- tN (lo:=max (sm (wF xs) n j)<|sm v n j) () n j ()];refine ji λi B C=>?_;by_cases c:i<j/\Bl.Below (Kr.two n (i:Int) (j:Int)) xs
 ·rw[aR c,aR<|(g i j B C m d).mp c]
 ·rw[aT c,aT λz=>c<|(g i j B C m d).mpr z]
def Ec{n:Nat}{w v:Nat->Nat}:Bc n w v=Bc n v w:=ji λj _ _=>by unfold tm;rw[Nat.max_comm]
theorem rB:∀{n:Nat}{w v w' v':Nat->Nat},Bi n w v->Bi n w' v'->(∀i,1<=i->i<=n->w i=w' i)->ln n w v=ln n w' v'
 | 0,_,_,_,_,_,_,_=>rfl
 | n+1,w,v,w',v',h,h',e=>by
  gn_on;have g:v' (n+1)=v (n+1):=by
   have:=e (v<|n+1) a1 a2;rw[a3]at this;have t:=(h'.w1 _ a1 a2).2.2;rw[<- this]at t;exact t
  show ln n _ _+_=ln n _ _+_;have d:=h'.out;rw[g]at d ⊢;rw[rB h.out d λi f j=>?_];unfold wo;split
  ·exact e i f ()
  ·exact e (i+1) () ()
def CW{n:Nat}{xs:ae}(p:xs.Perm<|L2.fj 1<|(n:Int)+1):∃v,Bi n (wF xs) v:=by
 classical
 have J:xs.length=n:=by rw[p.length_eq,Kr.fS]
 have C:xs.Nodup:=p.nodup_iff.mpr<|L2.iD _ _;have inj:∀i j,1<=i->i<=n->1<=j->j<=n->wF xs i=wF xs j->i=j:=λi j d f F B z=>by
  have a:=(kL p d f).1;have b:=(kL p F B).1;rw[z,<- b]at a;have:=(List.getElem?_inj () C).mp a
  lia
 have ex:∀x,1<=x->x<=n->∃i,(1<=i/\i<=n)/\wF xs i=x:=λx g m=>by
  have mx:(x:Int)∈xs:=p.mem_iff.mpr<|L2.fM.mpr ⟨(),()⟩;obtain⟨k,q⟩:=cA mx;have G:=(aI.mp q).1;refine⟨k+1,⟨(),()⟩,?_⟩;have:=(kL p (i:=k+1) () ()).1;rw[b9,q]at this;have:=aL this
  lia
 refine⟨λx=>if h:1<=x/\x<=n then(ex x h.1 h.2).choose else 0,λi d f=>?_,λx g m=>?_⟩
 ·have a:=kL p d f;refine⟨a.2.1,a.2.2,?_⟩;rw[dif_pos ⟨a.2.1,a.2.2⟩];have c:=(ex _ a.2.1 a.2.2).choose_spec;exact inj _ _ c.1.1 c.1.2 d f c.2
 ·rw[dif_pos ⟨g,m⟩];have c:=(ex _ g m).choose_spec;exact⟨c.1.1,c.1.2,c.2⟩
theorem wj{N:Int}:∀(l m:ae),(∀x∈l,x<N)->(∀x∈m,x<N)->Iv.inv (l++N::m)=Iv.inv (l++m)+m.length
 | [],m,_,hm=>by
  show m.countP (λy=>decide<|y<N)+Iv.inv m=Iv.inv m+m.length;rw[List.countP_eq_length.mpr λy hy=>bP<|hm y hy];lia
 | x::l,m,hl,hm=>by
  show(l++N::m).countP (λy=>decide<|y<x)+Iv.inv (l++N::m)=(l++m).countP (λy=>decide<|y<x)+Iv.inv (l++m)+m.length;rw[wj l m (λy hy=>hl y<|aU _ hy) hm,dg,dg,b8,aT (by have:=hl x a_;simp;lia)]
  lia
theorem y_:∀(n:Nat) (xs:ae) (v:Nat->Nat),xs.Perm (L2.fj 1<|(n:Int)+1)->Bi n (wF xs) v->Iv.inv xs=ln n (wF xs) v
 | 0,xs,v,p,_=>by
  have:xs=[]:=b5 (by rw[p.length_eq,Kr.fS]);rw[this];rfl
 | n+1,xs,v,p,h=>by
  have j:((n:Int)+1)∈xs:=p.mem_iff.mpr<|L2.fM.mpr ⟨(),()⟩;obtain⟨l,m,rfl⟩:=List.append_of_mem j;have B:=p.nodup_iff.mpr<|L2.iD _ _;have len:(l++((n:Int)+1)::m).length=n+1:=by rw[p.length_eq,Kr.fS]
  rw[bg,bE]at len;have q:(l++((n:Int)+1)::m).Perm (((n:Int)+1)::(l++m)):=List.perm_middle;have g:=q.nodup_iff.mp B;obtain⟨F,f⟩:=cu.mp g;have lt:∀x∈l++m,1<=x/\x<(n:Int)+1:=λx d=>by
   have:=L2.fM.mp<|p.mem_iff.mp<|q.mem_iff.mpr<|aU _ d;have:x≠(n:Int)+1:=λz=>F (z ▸ d)
   lia
  have k:(l++m).Perm (L2.fj 1<|(n:Int)+1):=L2.jA f (λx d=>L2.fM.mpr<|lt x d) (by rw[Kr.fS,bg];lia);obtain⟨G,h'⟩:=CW k;have C:wF (l++((n:Int)+1)::m) (l.length+1)=n+1:=by
   unfold wF;rw[b9,aN,aY<|aK _,sub_self];show((n:Int)+1).toNat=_
   lia
  have va:v (n+1)=l.length+1:=by
   have:=(h.w1 (l.length+1) () ()).2.2;rw[C]at this;exact this
  rw[wj l m (λx d=>(lt x<|dU _ d).2) λx d=>(lt x<|aW _ d).2,y_ n (l++m) G k h'];show _=ln n _ _+_;rw[rB h' h.out λi J K=>?_,va]
  ·lia
  ·rw[va];unfold wo wF;by_cases c:i<l.length+1
   ·rw[aR c,aN,aN,aV (),aV ()]
   ·rw[aT c,aN,aN,aY (),aY (),show i+1-1-l.length=(i-1-l.length)+1 by lia,List.getElem?_cons_succ]
def ED{n:Nat}{xs:ae}(p:xs.Perm<|L2.fj 1<|(n:Int)+1):Av n (wF xs) ↔ ∀i j k m:Nat,i<j->j<k->k<m->m<n->¬Fo.P (xs.getD i 0) (xs.getD j 0) (xs.getD k 0) (xs.getD m 0):=by
 have f:∀i,i<n->xs.getD i 0=((wF xs (i+1):Nat):Int):=λi hi=>by
  have:=(kL p (i:=i+1) () ()).1;rw[b9]at this;rw[aN,this];rfl
 constructor
 ·intro h i j k m h1 q B g z;have:=h (i+1) (j+1) (k+1) (m+1) () () () () ();rw[f i (),f j (),f k (),f m ()]at z;unfold Fo.P at z
  lia
 ·intro h a b c d h1 q B g C;have:=h (a-1) (b-1) (c-1) (d-1) () () () ();rw[f (a-1) (),f (b-1) (),f (c-1) (),f (d-1) (),show a-1+1=a by lia,show b-1+1=b by lia,show c-1+1=c by lia,show d-1+1=d by lia]at this;unfold Fo.P at this
  lia
def many{n:Nat}{xs:ae}(p:xs.Perm<|L2.fj 1<|(n:Int)+1):Iv.inv xs<=cB n xs/\(cB n xs=Iv.inv xs ↔ ∀i j k m:Nat,i<j->j<k->k<m->m<n->¬Fo.P (xs.getD i 0) (xs.getD j 0) (xs.getD k 0) (xs.getD m 0)):=by
 obtain⟨v,h⟩:=CW p;rw[ye p h,y_ n xs v p h,<- ED p];exact main n _ _ h
def xB{n:Nat}{xs ys:ae}(p:xs.Perm<|L2.fj 1<|(n:Int)+1)(p':ys.Perm<|L2.fj 1<|(n:Int)+1)(hb:Fo.Back xs ys):cB n ys=cB n xs:=by
 have d:∀{xs ys:ae},xs.Perm (L2.fj 1<|(n:Int)+1)->ys.Perm (L2.fj 1<|(n:Int)+1)->Fo.Back xs ys->∀i,1<=i->i<=n->1<=wF xs i/\wF xs i<=n/\wF ys (wF xs i)=i:=λ{xs ys} p p' hb i i1 i2=>by
  have a:=kL p i1 i2;refine⟨a.2.1,a.2.2,?_⟩;have e:=(hb.iff (i-1)<|wF xs i-1).mp (by rw[a.1];congr 1;lia);have b:=kL p' (i:=wF xs i) a.2.1 a.2.2;rw[e]at b;have:=aL b.1
  lia
 have h:Bi n (wF xs) (wF ys):=⟨d p p' hb,d p' p hb.symm⟩;rw[ye p' h.back,ye p h,Ec]
end Lk
namespace K50
open PySem L2 Am
def JG{l:ae}{k:Nat}{i:Int}(h:i=k)(hk:k<l.length):j7 (l.map A.int) i=some (.int<|l.getD k 0):=gT h<|by rw[aN,aH hk];rfl
def oO(a:Int)(u:Nat):fj a (a+((u+1:Nat):Int))=fj a (a+(u:Int))++[a+(u:Int)]:=by
 unfold fj;rw[show(a+((u+1:Nat):Int)-a).toNat=u+1 by lia,show(a+(u:Int)-a).toNat=u by lia,List.range_succ,cN];rfl
meta abbrev IV (w:ae):A:=.tup<|w.map .int
theorem wL(x:Int):∀(l:ae),Iv.g7 l [x]=l.countP (λy=>decide<|x<y)
 | []=>rfl
 | y::l=>by
  rw[Iv.ki,wL x l,b8,b8,List.countP_nil,Nat.zero_add,Nat.add_comm]
def yf(x:Int)(l:ae):Iv.inv (l++[x])=Iv.inv l+l.countP (λy=>decide<|x<y):=by
 rw[Iv.gb,wL];show _+0+_=_
 lia
theorem vf{a:ae}{x:Int}:∀(i:Nat),i<=a.length->((fj 0 (i:Int)).filter λj=>decide<|a.getD j.toNat 0>x).length=(a.take i).countP λy=>decide (x<y)
 | 0,_=>rfl
 | i+1,h=>by
  have e:fj 0 ((i+1:Nat):Int)=fj 0 (i:Int)++[(i:Int)]:=by
   have:=oO 0 i;rw[Int.zero_add,Int.zero_add]at this;exact this
  rw[e,eK,bg,vf i (),Bl.take_snoc<|show i<a.length by lia,dg];congr 1;rw[b7,b8,dB,aN,aH<|show i<a.length by lia];show(if decide (x<a[i])=true then[(i:Int)]else[]).length=0+_;split<;>rfl
def CH{a:ae}(hl:a.length<=20):∃S',iM [IV a] S=.ok (.int (Iv.inv a:Nat)) S'/\mQ S S':=by
 unfold iM lY mD;dsimp[gf,bools,ko,Nat.reduceAdd,Nat.reduceSub];refine iO (lo:=0) (hi:=(a.length:Int)) (S1:=S) (show mF _ _=_ from ig (by dsimp[gf,bools,aP])<|f_ () ())
  (λi τ S1=>(∃a2,τ=[IV a,.int (Iv.inv (a.take i):Nat),a2])/\mQ S S1)
  (λr=>∃S',RS.end (RS.seq r _)=.ok (.int (Iv.inv a:Nat)) S'/\mQ S S') ⟨⟨_,rfl⟩,Kp.refl⟩ ?_ ?_
 ·rintro i τ S1 hi ⟨⟨a2,rfl⟩,kp⟩;left;have d:i<a.length:=()
  have g:=rz (lo:=0) (hi:=(i:Int)) (cap:=[some 0,some 2]) (src:=i6<|eY 2) (t:=qQ<|fu Eg (fu mV (eY 1)<|eY 0)<|fu mV (eY 1)<|eY 2) (e:=eY 0) (τ:=[IV a,.int (Iv.inv (a.take i):Nat),.int (i:Int)]) (S:=S1) (S1:=S1)
   (ig (by dsimp[gf,bools])<|f_ () ())
   (λj=>decide<|a.getD j.toNat 0>a.getD i 0) (λj=>.int j) (λj h1 m=>by
    have f:j7 (a.map A.int) j=some (.int<|a.getD j.toNat 0):=JG () ();have k:j7 (a.map A.int) (i:Int)=some (.int<|a.getD i 0):=JG rfl d;dsimp[gf,bools,f,k]) (λj _ _ _=>by dsimp[gf,bools]) ()
  have e2:Iv.inv (a.take<|i+1)=Iv.inv (a.take i)+(a.take i).countP λy=>decide (a.getD i 0<y):=by
   rw[Bl.take_snoc d,yf,aN,aH d];rfl
  unfold mK;rw[Int.zero_add];dsimp[gf,bools,g,aP,vf i<|cJ d,fZ];exact⟨_,_,rfl,⟨.int (i:Int),by rw[e2];rfl⟩,kp.lay⟩
 ·rintro τ S1 ⟨⟨a2,rfl⟩,kp⟩;refine⟨S1,?_,kp⟩;rw[show((a.length:Int)-0).toNat=a.length by lia,List.take_length];dsimp[gf,bools]
abbrev At (xs:ae)(i:Int):Int:=xs.getD (i-1).toNat 0
def uc{xs:ae}{i:Int}(h1:1<=i)(h2:i<=xs.length):xs[(i-1).toNat]?=some (At xs i):=by
 unfold At;rw[aN,aH ()];rfl
abbrev zc (xs:ae)(i j k m:Nat):Prop:=i<j/\j<k/\k<m/\m<xs.length/\Fo.P (At xs<|(i:Int)+1) (At xs<|(j:Int)+1) (At xs<|(k:Int)+1) (At xs<|(m:Int)+1)
abbrev NB (xs:ae)(i j k m:Int):Prop:=∀d g f p:Nat,zc xs d g f p->i<d\/i=d/\(j<g\/j=g/\(k<f\/k=f/\m<=p))
abbrev Told (xs:ae)(r:A):Prop:=(r=.non/\∀i j k m,¬zc xs i j k m)\/∃i j k m:Nat,r=.tup [.int<|(i:Int)+1,.int<|(j:Int)+1,.int<|(k:Int)+1,.int<|(m:Int)+1]/\zc xs i j k m/\NB xs i j k m
def tu{xs:ae}{v:Int}(h:v∈xs):∃k,xs.findIdx? (· == v)=some k/\xs[k]?=some v:=by
 cases e:xs.findIdx? (· == v)with
 | none=>
  rw[List.findIdx?_eq_none_iff]at e;have:=e v h;simp at this
 | some k=>
  rw[b_]at e;obtain⟨d,h1,_⟩:=e;refine⟨k,rfl,?_⟩;rw[aH d];simpa using h1
def BZ{xs:ae}(hl:xs.length<=1000)(hp:xs.Perm<|fj 1<|(xs.length:Int)+1):∃(ys:ae) (S':e_),iG [.tup<|xs.map .int] S=.ok (.tup<|ys.map .int) S'/\Fo.Back xs ys/\ys.length=xs.length/\mQ S S':=by
 have d:∀v:Int,1<=v->v<(xs.length:Int)+1->v∈xs:=λv h1 m=>hp.mem_iff.mpr<|fM.mpr ⟨h1,m⟩;have hs:jj (eC<|.int 1) (fu gu (fR (f1 je)<|eX (eY 0)<|fE)<|eC<|.int 1) [.tup<|xs.map .int] S=.ok (gm 1<|(xs.length:Int)+1) S:=
  jS (S1:=S) (by dsimp[gf,bools]) (by dsimp[gf,bools,aP]) (f_ () ()) (f_ () ())
 have B:(xs.map A.int).all A.flat=true:=by rw[all_map];exact dQ.mpr λ_ _=>rfl
 have G:∀v:Int,1<=v->v<(xs.length:Int)+1->true=true->fu gu (qJ (eY 1)<|eX (eY 0)<|fE) (eC<|.int 1) (.int v::j_ [some 0] [.tup<|xs.map .int]) S=.ok (A.int<|(((xs.findIdx? (· == v)).getD 0:Nat):Int)+1) S:=λv h1 m _=>by
  obtain⟨k,e,_⟩:=tu<|d v h1 m;have e2:(xs.map A.int).findIdx? (λz=>F7 z<|.int v)=some k:=by
   rw[List.findIdx?_map];exact e
  have e3:A.seq S (.tup<|xs.map .int)=some (xs.map .int):=rfl;unfold fu qJ BD;dsimp[gf,bools,e3,e2,gz<|show A.flat (.int v)=true/\(xs.map A.int).all A.flat=true from⟨rfl,B⟩,e,cG]
 have C:=rz (cap:=[some 0]) (t:=nI) hs (λ_=>true) (λv=>A.int<|(((xs.findIdx? (· == v)).getD 0:Nat):Int)+1) (λ_ _ _=>rfl) G ();rw[List.filter_eq_self.mpr λ_ _=>rfl]at C;have el:fh (S++[O.lst<|(fj 1<|(xs.length:Int)+1).map λv=>A.int<|(((xs.findIdx? (· == v)).getD 0:Nat):Int)+1]) S.length=some _:=fZ;unfold iG lX lK;dsimp[gf,bools,ko,Nat.reduceAdd,Nat.reduceSub,C,el];have F:((fj 1<|(xs.length:Int)+1).map λv=>A.int<|(((xs.findIdx? (· == v)).getD 0:Nat):Int)+1)=(((fj 1<|(xs.length:Int)+1).map λv=>(((xs.findIdx? (· == v)).getD 0:Nat):Int)+1)).map A.int:=by rw[eT];rfl
 rw[F];have hg:∀q:Nat,q<xs.length->((fj 1<|(xs.length:Int)+1).map λv=>(((xs.findIdx? (· == v)).getD 0:Nat):Int)+1)[q]?=some ((((xs.findIdx? (· == (1+(q:Int)))).getD 0:Nat):Int)+1):=λq f=>by
  rw[br,Fo.gy ()];rfl
 have g:((fj 1<|(xs.length:Int)+1).map λv=>(((xs.findIdx? (· == v)).getD 0:Nat):Int)+1).length=xs.length:=by rw[aP,fQ];lia
 have J:xs.Nodup:=hp.nodup_iff.mpr<|iD _ _;refine⟨_,_,rfl,⟨λp q=>⟨λh=>?_,λh=>?_⟩,λp x h=>?_,λp x h=>?_⟩,g,Kp.refl.lay⟩
 ·have f:q<xs.length:=by have:=fM.mp<|hp.mem_iff.mp<|bH h;lia
  rw[hg q f];obtain⟨k,e,j⟩:=tu<|d (1+q) () ();rw[e,cG];rw[show(1:Int)+q=(q:Int)+1 by lia]at j;obtain⟨L,e1⟩:=aI.mp j;obtain⟨K,e2⟩:=aI.mp h;have:k=p:=(dP J).mp<|e1.trans e2.symm;rw[this]
 ·have f:q<xs.length:=by have:=Fo.jc h;lia
  rw[hg q f]at h;obtain⟨k,e,j⟩:=tu<|d (1+q) () ();rw[e,cG]at h;have h:=aL h;have:k=p:=()
  subst this;rw[j,show(1:Int)+q=(q:Int)+1 by lia]
 ·have:=fM.mp<|hp.mem_iff.mp<|bH h;exact⟨(x-1).toNat,()⟩
 ·have f:p<xs.length:=by have:=Fo.jc h;lia
  rw[hg p f]at h;exact⟨_,(aL h).symm⟩
open Classical in
theorem qx{n i:Nat}:∀m:Nat,(((fj ((i:Int)+1)<|(m:Int)+1).map λj=>A.tup [.int (i:Int),.int j]).filter<|bb n xs).length=Lk.su (λj=>if i<j/\Bl.Below (Kr.two n (i:Int) (j:Int)) xs then 1 else 0) m
 | 0=>by
  rw[show fj ((i:Int)+1) (((0:Nat):Int)+1)=[]from b5<|by rw[fQ];lia];rfl
 | m+1=>by
  show _=Lk.su _ m+(if i<m+1/\Bl.Below (Kr.two n (i:Int) ((m+1:Nat):Int)) xs then 1 else 0);by_cases c:i<m+1
  ·have e:fj ((i:Int)+1) (((m+1:Nat):Int)+1)=fj ((i:Int)+1) ((m:Int)+1)++[((m+1:Nat):Int)]:=by
    have:=oO ((i:Int)+1)<|m-i;rw[show((i:Int)+1)+((m-i+1:Nat):Int)=((m+1:Nat):Int)+1 by lia,show((i:Int)+1)+((m-i:Nat):Int)=(m:Int)+1 by lia]at this;exact this
   rw[e,cN,eK,bg,qx m];congr 1;show(List.filter (bb n xs) [A.tup [.int (i:Int),.int ((m+1:Nat):Int)]]).length=_;by_cases d:Bl.Below (Kr.two n (i:Int) ((m+1:Nat):Int)) xs
   ·rw[aR ⟨c,d⟩,b7,aR<|tZ.mpr d];rfl
   ·rw[aT λz=>d z.2,b7,aT λz=>d<|tZ.mp z];rfl
  ·rw[show fj ((i:Int)+1) (((m+1:Nat):Int)+1)=fj ((i:Int)+1) ((m:Int)+1)from(b5<|by rw[fQ];lia).trans (b5<|by rw[fQ];lia).symm,qx m,aT λz=>c z.1];rfl
open Classical in
theorem rq{n N:Nat}:∀m:Nat,(((fj 1<|(m:Int)+1).flatMap λi=>(fj (i+1)<|(N:Int)+1).map λj=>A.tup [.int i,.int j]).filter<|bb n xs).length=Lk.su (λi=>Lk.su (λj=>if i<j/\Bl.Below (Kr.two n (i:Int) (j:Int)) xs then 1 else 0) N) m
 | 0=>rfl
 | m+1=>by
  have e:fj 1 (((m+1:Nat):Int)+1)=fj 1 ((m:Int)+1)++[((m+1:Nat):Int)]:=by
   have:=oO 1 m;rw[Int.add_comm 1,Int.add_comm 1]at this;exact this
  rw[e,List.flatMap_append,eK,bg,rq m];show _=Lk.su _ m+Lk.su (λj=>if m+1<j/\Bl.Below (Kr.two n ((m+1:Nat):Int) (j:Int)) xs then 1 else 0) N;congr 1;rw[List.flatMap_singleton];exact qx (i:=m+1) N
theorem ym{n:Nat}(h1:1<=n):((prs n).filter<|bb n xs).length=Lk.cB n xs:=by
 obtain⟨m,rfl⟩:∃m,n=m+1:=⟨n-1,()⟩;refine(rq (n:=m+1) (xs:=xs) (N:=m+1) m).trans ?_;unfold Lk.cB;show _=Lk.su _ m+Lk.su _ (m+1);refine Eq.symm<|Nat.add_eq_left.mpr ?_;refine Eq.trans (Lk.ji λj _ d=>aT λz=>?_)<|Lk.qi _;have:=z.1
 lia
def Cn{n:Nat}{xs ys:ae}(px:xs.Perm<|fj 1<|(n:Int)+1)(B:Fo.Back xs ys)(hl:ys.length=n):ys.Perm (fj 1<|(n:Int)+1):=by
 have C:xs.length=n:=by rw[px.length_eq,fQ];lia
 have d:∀(i:Nat) (hi:i<ys.length),∃p:Nat,ys[i]?=some ((p:Int)+1)/\xs[p]?=some ((i:Int)+1):=λi hi=>by
  have e:=aH hi;obtain⟨p,m⟩:=B.right _ _ e;rw[m]at e;exact⟨p,e,(B.iff _ _).mpr e⟩
 refine jA (cX.mpr λi j hi g z e=>?_) (λx k=>?_) (by rw[fQ];lia)
 ·obtain⟨p,e1,e2⟩:=d i hi;obtain⟨q,e3,f⟩:=d j g;rw[aH hi]at e1;rw[aH g,<- e,e1]at e3;have e3:=aL e3;have:p=q:=()
  subst this;rw[e2]at f;have:=aL f
  lia
 ·obtain⟨i,hi,rfl⟩:=List.getElem_of_mem k;obtain⟨p,e1,e2⟩:=d i hi;rw[aH hi]at e1;have e1:=aL e1;have:=(aI.mp e2).1;rw[e1];exact fM.mpr ⟨(),()⟩
end K50
namespace K50
open PySem L2 Am
def vL{n:Nat}{xs ys:ae}(h:fh S n=some (xs.map .int))(h':fh S m=some (ys.map .int)):tU S 12 (.ref n) (.ref m)=some (decide<|xs=ys):=by
 show(fh S n).bind (λxs=>(fh S m).bind λys=>oi (tU S 11) xs ys)=_;rw[h,dS,h',dS];exact p8 xs ys
def ur{xs:ae}{v:Int}(h:v∈xs):∃k,xs.findIdx? (· == v)=some k/\xs[k]?=some v:=by
 cases e:xs.findIdx? (· == v)with
 | none=>
  rw[List.findIdx?_eq_none_iff]at e;have:=e v h;simp at this
 | some k=>
  rw[b_]at e;obtain⟨d,h1,_⟩:=e;refine⟨k,rfl,?_⟩;rw[aH d];simpa using h1
def CZ {xs:ae}(hp:xs.Pairwise (·<=·)){p q:Nat}{v w:Int}(h:xs[p]?=some v)(h':xs[q]?=some w)(hlt:v<w):p<q:=by
 obtain⟨f,e1⟩:=aI.mp h;obtain⟨d,e2⟩:=aI.mp h'
 rcases Nat.lt_trichotomy p q with z|z|z
 ·exact z
 ·subst z;rw[h]at h';cases h';lia
 ·have:=cX.mp hp q p d f z
  lia
def sW{a b c d:Int}(hL:fh S L=some [.int a,.int b,.int c,.int d])(n1:a≠b)(n2:a≠c)(n3:a≠d)(n4:b≠c)(n5:b≠d)(n6:c≠d) :
  ∃r S',iz [.ref L] S=.ok (.bl r) S'/\mQ S S'/\(r=true ↔ Fo.P a b c d):=by
 have J:=sortI_perm [a,b,c,d];have F:=oq [a,b,c,d];generalize hsrt:sortI [a,b,c,d]=srt at J F;have hlen:srt.length=4:=J.length_eq;have m:∀v,v∈[a,b,c,d]->v∈srt:=λv h=>J.mem_iff.mpr h;obtain⟨ia,xa,ya⟩:=ur (m a<|by simp);obtain⟨ib,xb,C⟩:=ur (m b<|by simp);obtain⟨g,xc,G⟩:=ur (m c<|by simp);obtain⟨f,xd,B⟩:=ur (m d<|by simp);have la:=Fo.jc ya;have lb:=Fo.jc C;have lc:=Fo.jc G;have ld:=Fo.jc B;have es:tR (.ref L) S=.ok (.ref S.length) (S++[.lst<|srt.map .int]):=by
  show opt (fh S L) _=_;rw[hL,gK];have:A.ints [.int a,.int b,.int c,.int d]=some [a,b,c,d]:=ints_map [a,b,c,d];rw[this,gK,gz<|show([a,b,c,d]:ae).length<64 by simp,hsrt]
 have j:fh (S++[.lst<|srt.map .int]) L=some [.int a,.int b,.int c,.int d]:=jx hL;have N:fh (S++[.lst<|srt.map .int]) S.length=some (srt.map .int):=fZ;have W:(srt.map A.int).all A.flat=true:=by rw[all_map];exact dQ.mpr λ_ _=>rfl
 have U:∀(v:Int) (k:Nat) (y:A),srt.findIdx? (· == v)=some k->qJ (eY 1) (eX (eY 0)<|fE) [.int v,.ref S.length] (S++[.lst<|srt.map .int])=.ok (.int (k:Int)) (S++[.lst<|srt.map .int]):=λv k _ e=>by
  have e2:(srt.map A.int).findIdx? (λz=>F7 z<|.int v)=some k:=by
   rw[List.findIdx?_map];exact e
  have e3:A.seq (S++[.lst<|srt.map .int]) (.ref S.length)=some (srt.map .int):=N;unfold qJ BD;dsimp[gf,bools,e3,e2,gz<|show A.flat (.int v)=true/\(srt.map A.int).all A.flat=true from⟨rfl,W⟩]
 have V:=pY (s:=m9 L 4) (cap:=[some 1]) (src:=rR<|eY 0) (t:=nI) (e:=qJ (eY 1)<|eX (eY 0)<|fE) (τ:=[.ref L,.ref S.length]) (S:=S++[.lst<|srt.map .int]) (S1:=S++[.lst<|srt.map .int]) (yY (xs:=[.int a,.int b,.int c,.int d]) (by dsimp[gf,bools]) j)
  (λi=>match i with|0=>.int a|1=>.int b|2=>.int c|_=>.int d) (λ_=>true) (λi=>match i with|0=>.int (ia:Int)|1=>.int (ib:Int)|2=>.int (g:Int)|_=>.int (f:Int))
  (λi hi=>by
   have hi:i<4:=hi;show(fh _ L).bind (·[i]?)=_;rw[j]
   match i,hi with
   | 0,_=>rfl
   | 1,_=>rfl
   | 2,_=>rfl
   | 3,_=>rfl) (by
   show(match fh (S++[.lst<|srt.map .int]) L with
    | some ys=>decide (ys.length<=4)
    | none=>false)=true
   rw[j];rfl) (λ_ _=>rfl) (λi hi _=>by
   have hi:i<4:=hi
   match i,hi with
   | 0,_=>exact U a ia .non xa
   | 1,_=>exact U b ib .non xb
   | 2,_=>exact U c g .non xc
   | 3,_=>exact U d f .non xd) (by show 4<=16777216;decide)
 have V:ku [none,some 1] (rR<|eY 0) (gD 0) nI (qJ (eY 1)<|eX (eY 0)<|fE) [.ref L,.ref S.length] (S++[.lst<|srt.map .int])=.ok (.ref (S++[O.lst<|srt.map .int]).length) (S++[.lst<|srt.map .int]++[.lst<|([(ia:Int),ib,g,f]:ae).map .int]):=V;generalize hS2:S++[O.lst<|srt.map .int]=T at V N j es;have k1:mQ S T:=hS2 ▸ Kp.refl.lay;unfold iz j6 j4;dsimp[gf,bools,ko,Nat.reduceAdd,Nat.reduceSub,es,V];have g1:∀Y o2 Z,fh (T++[.lst<|([(ia:Int),ib,g,f]:ae).map .int]++[Y]++[o2]++[Z]) T.length=some (([(ia:Int),ib,g,f]:ae).map .int):=λY o2 Z=>jx<|jx<|jx fZ;refine⟨(decide (([2,3,0,1]:ae)=[(ia:Int),ib,g,f]) || (decide (([3,1,2,0]:ae)=[(ia:Int),ib,g,f]) || false)),T++[.lst<|([(ia:Int),ib,g,f]:ae).map .int]++[.lst [.int 2,.int 3,.int 0,.int 1]]++[.lst [.int 3,.int 1,.int 2,.int 0]]++[.lst [.ref (T++[O.lst<|([(ia:Int),ib,g,f]:ae).map .int]).length,.ref (T++[O.lst<|([(ia:Int),ib,g,f]:ae).map .int]++[O.lst [.int 2,.int 3,.int 0,.int 1]]).length]],?_,?_,?_⟩
 rotate_left
 ·exact k1.lay.lay.lay.lay
 ·have e1:=@CZ srt F;unfold Fo.P;dsimp[Bool.or_false,Bool.or_eq_true,decide_eq_true_eq,List.cons.injEq,and_true];have r1:∀{p q:Nat} {v w:Int},srt[p]?=some v->srt[q]?=some w->v≠w->p<q->v<w:=λ{p q v w} h h' hn hpq=>by
   rcases Int.lt_trichotomy v w with z|z|z
   ·exact z
   ·exact absurd z hn
   ·have:=CZ F h' h z;lia
  constructor
  ·rintro(⟨h1,M,K,h4⟩|⟨h1,M,K,h4⟩)
   ·exact .inl ⟨r1 G B n6 (),r1 B ya (dw n3) (),r1 ya C n1 ()⟩
   ·exact .inr ⟨r1 B C (dw n5) (),r1 C G n4 (),r1 G ya (dw n2) ()⟩
  ·rintro(⟨h1,M,K⟩|⟨h1,M,K⟩)
   ·have:=e1 G B h1;have:=e1 B ya M;have:=e1 ya C K;left;lia
   ·have:=e1 B C h1;have:=e1 C G M;have:=e1 G ya K;right;lia
 ·have e3:A.seq (T++[.lst<|([(ia:Int),ib,g,f]:ae).map .int]++[.lst [.int 2,.int 3,.int 0,.int 1]]++[.lst [.int 3,.int 1,.int 2,.int 0]]++[.lst [.ref (T++[O.lst<|([(ia:Int),ib,g,f]:ae).map .int]).length,.ref (T++[O.lst<|([(ia:Int),ib,g,f]:ae).map .int]++[O.lst [.int 2,.int 3,.int 0,.int 1]]).length]]) (.ref (T++[O.lst<|([(ia:Int),ib,g,f]:ae).map .int]++[O.lst [.int 2,.int 3,.int 0,.int 1]]++[O.lst [.int 3,.int 1,.int 2,.int 0]]).length)=some [.ref (T++[O.lst<|([(ia:Int),ib,g,f]:ae).map .int]).length,.ref (T++[O.lst<|([(ia:Int),ib,g,f]:ae).map .int]++[O.lst [.int 2,.int 3,.int 0,.int 1]]).length]:=fZ;have z1:fh (T++[O.lst<|([(ia:Int),ib,g,f]:ae).map .int]++[O.lst [.int 2,.int 3,.int 0,.int 1]]++[O.lst [.int 3,.int 1,.int 2,.int 0]]++[O.lst [.ref (T++[O.lst<|([(ia:Int),ib,g,f]:ae).map .int]).length,.ref (T++[O.lst<|([(ia:Int),ib,g,f]:ae).map .int]++[O.lst [.int 2,.int 3,.int 0,.int 1]]).length]]) (T++[O.lst<|([(ia:Int),ib,g,f]:ae).map .int]).length=some [.int 2,.int 3,.int 0,.int 1]:=jx<|jx fZ;have z2:fh (T++[O.lst<|([(ia:Int),ib,g,f]:ae).map .int]++[O.lst [.int 2,.int 3,.int 0,.int 1]]++[O.lst [.int 3,.int 1,.int 2,.int 0]]++[O.lst [.ref (T++[O.lst<|([(ia:Int),ib,g,f]:ae).map .int]).length,.ref (T++[O.lst<|([(ia:Int),ib,g,f]:ae).map .int]++[O.lst [.int 2,.int 3,.int 0,.int 1]]).length]]) (T++[O.lst<|([(ia:Int),ib,g,f]:ae).map .int]++[O.lst [.int 2,.int 3,.int 0,.int 1]]).length=some [.int 3,.int 1,.int 2,.int 0]:=jx fZ;have q1:=vL (xs:=[2,3,0,1]) z1<|g1 _ _ _;have q2:=vL (xs:=[3,1,2,0]) z2<|g1 _ _ _;unfold Ih;rw[e3,gK];unfold F0 F0 F0;rw[q1,q2];dsimp[dS,d7,gK,gf,bools];rfl
abbrev Res (S0:e_)(xs:ae)(r:RS)(Nx:ad->e_->Prop):Prop:=(∃d f,r=.nx d f/\Nx d f)\/(∃a f,r=.rt a f/\mQ S0 f/\Told xs a)
def uF{xs:ae}{i:Int}(h0:0<=i)(h1:i<xs.length):j7 (xs.map A.int) i=some (.int<|At xs<|i+1):=gT (k:=i.toNat) () (by have:=uc (xs:=xs) (i:=i+1) () ();rw[show(i+1-1).toNat=i.toNat by lia]at this;exact this)
def pO{xs:ae}(nd:xs.Nodup){i j:Int}(h0:0<=i)(hij:i<j)(h1:j<xs.length):At xs (i+1)≠At xs (j+1):=λe=>by
 have a1:=uc (xs:=xs) (i:=i+1) () ();have a2:=uc (xs:=xs) (i:=j+1) () ();rw[e]at a1;obtain⟨f,e1⟩:=aI.mp a1;obtain⟨d,e2⟩:=aI.mp a2;have:=(dP nd).mp (e1.trans e2.symm)
 lia
def G_{xs:ae}{i j k:Int}(nd:xs.Nodup)(hl:xs.length<=1000)(h0:0<=i)(h1:i<j)(h2:j<k)(h3:k<xs.length)(K0:mQ S0 S)(nb:NB xs i j k 0) :
  Res S0 xs (kc iL (gD 5) iC [.tup<|xs.map .int,.int xs.length,.int i,.int j,.int k,x5] S) (λτ' S'=>(∃x5,τ'=[.tup<|xs.map .int,.int xs.length,.int i,.int j,.int k,x5])/\mQ S0 S'/\NB xs i j (k+1) 0):=by
 refine iO (lo:=k+1) (hi:=xs.length) (S1:=S) (show iL _ _=_ from jS (S1:=S) (by dsimp[gf,bools]) (by dsimp[gf,bools]) (f_ () ())<|f_ () ())
  (λw τ S'=>(∃x5,τ=[.tup<|xs.map .int,.int xs.length,.int i,.int j,.int k,x5])/\mQ S0 S'/\NB xs i j k (k+1+w)) (λr=>Res S0 xs r _) ⟨⟨_,rfl⟩,K0,λm B z q f=>by have:=nb _ _ _ _ f;have:=f.2.2.1;lia⟩ ?_ ?_
 ·rintro w τ S1 hw ⟨⟨x5,rfl⟩,K,d⟩;have O:k+1+(w:Int)<xs.length:=()
  obtain⟨r,T,e2,V,M⟩:=sW (S:=S1++[.lst [.int<|At xs<|i+1,.int<|At xs<|j+1,.int<|At xs<|k+1,.int<|At xs<|k+1+w+1]]) (L:=S1.length) fZ (pO nd h0 h1 ()) (pO nd h0 () ()) (pO nd h0 () ()) (pO nd () h2 ()) (pO nd () () ())<|pO nd () () ();have N:mQ S0 T:=K.lay.trans V;unfold iC;dsimp[gf,bools,uF h0<|show i<xs.length by lia,uF (show 0<=j by lia)<|show j<xs.length by lia,uF (show 0<=k by lia)<|show k<xs.length by lia,uF (show 0<=k+1+(w:Int)by lia) O,e2];have J:((i.toNat:Nat):Int)=i:=()
  have F:((j.toNat:Nat):Int)=j:=()
  have C:((k.toNat:Nat):Int)=k:=()
  have G:(((k+1+w).toNat:Nat):Int)=k+1+w:=()
  have g:zc xs i.toNat j.toNat k.toNat (k+1+w).toNat ↔ Fo.P (At xs<|i+1) (At xs<|j+1) (At xs<|k+1) (At xs<|k+1+w+1):=by
   unfold zc;rw[J,F,C,G];constructor
   ·rintro⟨_,_,_,_,p⟩;exact p
   ·intro p;exact⟨(),(),(),(),p⟩
  cases r with
  | true=>
   right;dsimp[gf,bools,ni<|show([_,_,_,_]:ad).length<=16777216 by simp];refine⟨_,_,rfl,.inr ⟨_,_,rfl,N,.inr ⟨i.toNat,j.toNat,k.toNat,(k+1+w).toNat,by rw[J,F,C,G],g.mpr<|M.mp rfl,?_⟩⟩⟩;rw[J,F,C,G];exact d
  | false=>
   left;dsimp[gf,bools];refine⟨_,_,rfl,⟨_,rfl⟩,N,λm B z q f=>?_⟩;have:=d _ _ _ _ f;by_cases U:i=m/\j=B/\k=z/\k+1+(w:Int)=q
   ·obtain⟨Y,Z,q3,W⟩:=U;refine absurd (g.mp ?_) λp=>bf<|M.mpr p;rw[show i.toNat=m by lia,show j.toNat=B by lia,show k.toNat=z by lia,show(k+1+(w:Int)).toNat=q by lia];exact f
   ·lia
 ·rintro τ S1 ⟨⟨x5,rfl⟩,K,d⟩;refine .inl ⟨_,_,rfl,⟨_,rfl⟩,K,λm B z q f=>?_⟩;have:=d _ _ _ _ f;have:=f.2
  lia
def GF{xs:ae}{i j:Int}(nd:xs.Nodup)(hl:xs.length<=1000)(h0:0<=i)(h1:i<j)(h2:j<xs.length)(K0:mQ S0 S)(nb:NB xs i j 0 0) :
  Res S0 xs (kc iI (gD 4) iE [.tup<|xs.map .int,.int xs.length,.int i,.int j,x4,x5] S) (λτ' S'=>(∃x4 x5,τ'=[.tup<|xs.map .int,.int xs.length,.int i,.int j,x4,x5])/\mQ S0 S'/\NB xs i (j+1) 0 0):=by
 refine iO (lo:=j+1) (hi:=xs.length) (S1:=S) (show iI _ _=_ from jS (S1:=S) (by dsimp[gf,bools]) (by dsimp[gf,bools]) (f_ () ())<|f_ () ())
  (λw τ S'=>(∃x4 x5,τ=[.tup<|xs.map .int,.int xs.length,.int i,.int j,x4,x5])/\mQ S0 S'/\NB xs i j (j+1+w) 0) (λr=>Res S0 xs r _) ⟨⟨_,_,rfl⟩,K0,λm B z p f=>by have:=nb _ _ _ _ f;have:=f.2;lia⟩ ?_ ?_
 ·rintro w τ S1 hw ⟨⟨x4,x5,rfl⟩,k,d⟩;unfold iE
  rcases G_ (x5:=x5) nd hl h0 h1 (show j<j+1+(w:Int)by lia) () k d with⟨τ',S',e,⟨F,rfl⟩,C,g⟩|⟨a,S',e,q⟩
  ·exact .inl ⟨_,_,e,⟨_,_,rfl⟩,C,λm B z p f=>by have:=g _ _ _ _ f;lia⟩
  ·exact .inr ⟨_,_,e,.inr ⟨_,_,rfl,q⟩⟩
 ·rintro τ S1 ⟨⟨x4,x5,rfl⟩,k,d⟩;refine .inl ⟨_,_,rfl,⟨_,_,rfl⟩,k,λm B z p f=>?_⟩;have:=d _ _ _ _ f;have:=f.2
  lia
def uw{xs:ae}{i:Int}(nd:xs.Nodup)(hl:xs.length<=1000)(h0:0<=i)(h1:i<xs.length)(K0:mQ S0 S)(nb:NB xs i 0 0 0) :
  Res S0 xs (kc iH (gD 3) iK [.tup<|xs.map .int,.int xs.length,.int i,x3,x4,x5] S) (λτ' S'=>(∃x3 x4 x5,τ'=[.tup<|xs.map .int,.int xs.length,.int i,x3,x4,x5])/\mQ S0 S'/\NB xs (i+1) 0 0 0):=by
 refine iO (lo:=i+1) (hi:=xs.length) (S1:=S) (show iH _ _=_ from jS (S1:=S) (by dsimp[gf,bools]) (by dsimp[gf,bools]) (f_ () ())<|f_ () ())
  (λw τ S'=>(∃x3 x4 x5,τ=[.tup<|xs.map .int,.int xs.length,.int i,x3,x4,x5])/\mQ S0 S'/\NB xs i (i+1+w) 0 0) (λr=>Res S0 xs r _) ⟨⟨_,_,_,rfl⟩,K0,λk z p m d=>by have:=nb _ _ _ _ d;have:=d.2;have:=d.1;lia⟩ ?_ ?_
 ·rintro w τ S1 hw ⟨⟨x3,x4,x5,rfl⟩,j,f⟩;unfold iK
  rcases GF (x4:=x4) (x5:=x5) nd hl h0 (show i<i+1+(w:Int)by lia) () j f with⟨τ',S',e,⟨C,F,rfl⟩,B,g⟩|⟨a,S',e,q⟩
  ·exact .inl ⟨_,_,e,⟨_,_,_,rfl⟩,B,λk z p m d=>by have:=g _ _ _ _ d;lia⟩
  ·exact .inr ⟨_,_,e,.inr ⟨_,_,rfl,q⟩⟩
 ·rintro τ S1 ⟨⟨x3,x4,x5,rfl⟩,j,f⟩;refine .inl ⟨_,_,rfl,⟨_,_,_,rfl⟩,j,λk z p m d=>?_⟩;have:=f _ _ _ _ d;have:=d.2
  lia
def sj{xs:ae}(nd:xs.Nodup)(hl:xs.length<=1000):∃r S',gh [.tup<|xs.map .int] S=.ok r S'/\mQ S S'/\Told xs r:=by
 unfold gh jh jn;dsimp[gf,bools,ko,Nat.reduceAdd,Nat.reduceSub,aP];refine iO (lo:=0) (hi:=xs.length) (S1:=S) (show jR _ _=_ from ig (by dsimp[gf,bools])<|f_ () ())
  (λw τ S'=>(∃z x3 x4 x5,τ=[.tup<|xs.map .int,.int xs.length,z,x3,x4,x5])/\mQ S S'/\NB xs w 0 0 0) (λr=>∃C S',RS.end (RS.seq r _)=.ok C S'/\mQ S S'/\Told xs C) ⟨⟨_,_,_,_,rfl⟩,Kp.refl,λg p m j d=>by have:=d.1;lia⟩ ?_ ?_
 ·rintro w τ S1 hw ⟨⟨z,x3,x4,x5,rfl⟩,B,f⟩;unfold jY
  rcases uw (i:=0+(w:Int)) (x3:=x3) (x4:=x4) (x5:=x5) nd hl () () B (λg p m j d=>by have:=f _ _ _ _ d;lia)with⟨F,S',e,⟨L,J,K,rfl⟩,G,k⟩|⟨a,S',e,q⟩
  ·exact .inl ⟨_,_,e,⟨_,_,_,_,rfl⟩,G,λg p m j d=>by have:=k _ _ _ _ d;lia⟩
  ·exact .inr ⟨_,_,e,⟨_,_,by dsimp[gf,bools],q⟩⟩
 ·rintro τ S1 ⟨⟨z,x3,x4,x5,rfl⟩,B,f⟩;dsimp[gf,bools];refine⟨_,_,rfl,B,.inl ⟨rfl,λg p m j d=>?_⟩⟩;have:=f _ _ _ _ d;have:=d.2;have:=d.1
  lia
end K50
namespace K50
open PySem L2 Am
def kH{xs:ae}{i:Nat}:At xs ((i:Int)+1)=xs.getD i 0:=by
 unfold At;rw[show((i:Int)+1-1).toNat=i by lia]
def vQ{n:Nat}{xs:ae}(px:xs.Perm<|fj 1<|(n:Int)+1)(h1:1<=n)(h2:n<=20) :
  ∃τ' S',(f6 (gS (fR (f1 je)<|eX (eFn fX<|eX (eY 3) fE) fE)<|gD 4)
 (f6 (gS (eFn iM<|eX (eY 3) fE)<|gD 5)
 (f6 (sX (Ge (qQ<|fu Fb (eY 4)<|eY 5)<|qQ<|fu (uQ true) (fu (uQ false) (eY 4)<|eY 5)<|fu (sV false) (eFn gh<|eX (eY 3) fE)<|eC .non)
 (ie<|eC<|.bl false)
 mh)
 (sX (qQ<|fu (uQ true) (fR (f1 je)<|eX (eFn fX<|eX (eFn iG<|eX (eY 3) fE) fE) fE)<|eY 4)
 (ie<|eC<|.bl false)
 mh)))) [f0,t1,t2,.tup<|xs.map .int,t4,t5] S=.nx τ' S'/\∃a1 a2 a3 a4 a5:A,τ'=[f0,a1,a2,a3,a4,a5]:=by
 have f:xs.length=n:=by rw[px.length_eq,Kr.fS]
 obtain⟨P,S1,e1,M,k1,_⟩:=C5 (S:=S) px h1 h2;obtain⟨O,e2,k2⟩:=CH (S:=S1) (a:=xs) ();obtain⟨r,W,e3,k3,T⟩:=sj (S:=O) (xs:=xs) (px.nodup_iff.mpr<|iD _ _) ();obtain⟨ys,U,L,B,V,Z⟩:=BZ (S:=W) (xs:=xs) () (by rw[f];exact px);have N:=Cn px B ();obtain⟨P5,S5,J,C,k5,_⟩:=C5 (S:=U) N h1 h2;obtain⟨Y,K⟩:=Lk.many px;have G:=Lk.xB px N B;have F:decide ((Lk.cB n xs:Int)<(Iv.inv xs:Int))=false:=bz ()
 rcases T with⟨rfl,g⟩|⟨i,j,k,m,rfl,q,_⟩
 ·have e:Lk.cB n xs=Iv.inv xs:=K.mpr λi j k m a b c d z=>g i j k m ⟨a,b,c,(),by rw[kH,kH,kH,kH];exact z⟩;have p:((Lk.cB n xs:Int) == (Iv.inv xs:Int))=true:=by rw[e];exact bK _
  dsimp[gf,bools,e1,M,ym h1,e2,F,p,e3,L,J,C,G,bK,Bool.not_true];exact⟨_,_,rfl,_,_,_,_,_,rfl⟩
 ·obtain⟨a,b,c,d,z⟩:=q;rw[kH,kH,kH,kH]at z;have e:Lk.cB n xs≠Iv.inv xs:=λe=>K.mp e i j k m a b c () z;have p:((Lk.cB n xs:Int) == (Iv.inv xs:Int))=false:=beq_eq_false_iff_ne.mpr ();dsimp[gf,bools,e1,M,ym h1,e2,F,p,e3,L,J,C,G,bK,Bool.not_true];exact⟨_,_,rfl,_,_,_,_,_,rfl⟩
def E4(ns:ae)(hl:ns.length<=63):∃S',pP [.frz<|ns.map .int] []=.ok (.bl true) S':=by
 unfold pP yG Ad;dsimp[gf,bools,ko,Nat.reduceAdd,Nat.reduceSub];refine iO (lo:=0) (hi:=if (if 6<(ns.length:Int)then 6 else(ns.length:Int))>2 then(if 6<(ns.length:Int)then 6 else(ns.length:Int))else 2) (S1:=[]) (show ug _ _=_ from ig (by dsimp[gf,bools,aP])<|f_ (by split<;>split<;>lia)<|by split<;>split<;>lia)
  (λ_ τ _=>∃a1 a2 a3 f g:A,τ=[.frz<|ns.map .int,a1,a2,a3,f,g]) (λr=>∃S',RS.end (RS.seq r _)=.ok (.bl true) S') ⟨_,_,_,_,_,rfl⟩ ?_ ?_
 ·rintro i τ S hi ⟨a1,a2,a3,f,g,rfl⟩;left;have T:(i:Int)<6:=by split at hi<;>split at hi<;>lia
  obtain⟨P,e0⟩:=Cy (S:=S) (ns:=ns) (k:=0+(i:Int)) ();obtain⟨S1,e1,z,k1⟩:=BN (S:=S) (c:=P) (k:=1+(0+(i:Int))) () ();obtain⟨d,S2,e2,d0,d1,C,k2⟩:=digit (m:=9) z ⋯ ⋯;obtain⟨n,hn⟩:∃n:Nat,1+d=(n:Int):=⟨(1+d).toNat,()⟩;obtain⟨xs,S3,e3,W,B,k3⟩:=zm (n:=(n:Int)) C () ();obtain⟨q,O,Y,L,Z,p,k4⟩:=digit (m:=3) B ⋯ ⋯;unfold v_;dsimp[gf,bools,e0,e1,e2,hn,e3,Y];by_cases K:q=2
  ·rw[show(q == 2)=true by simpa using K];obtain⟨J,S5,U,N,d51,G,k5⟩:=digit (m:=19) p ⋯ ⋯;obtain⟨j,F⟩:∃j:Nat,2+J=(j:Int):=⟨(2+J).toNat,()⟩;obtain⟨ys,M,V,py⟩:=BS (n:=(j:Int)) G () ();dsimp[gf,bools,U,F,V];have:=vQ (S:=M) (n:=j) (f0:=.frz<|ns.map .int) (t1:=.int<|0+(i:Int)) (t2:=.ref S.length) (t4:=f) (t5:=g) py () ();simpa only [gf,bools]using this
  ·rw[show(q == 2)=false by simpa using K];dsimp[gf,bools];have:=vQ (S:=O) (n:=n) (f0:=.frz<|ns.map .int) (t1:=.int<|0+(i:Int)) (t2:=.ref S.length) (t4:=f) (t5:=g) W () ();simpa only [gf,bools]using this
 ·rintro τ S1 ⟨a1,a2,a3,f,g,rfl⟩;dsimp[gf,bools];exact⟨_,rfl⟩
end K50
namespace K50
open PySem L2 Am
def all_mk{l:PySem.W.OpenLaw}{w:af}{K:aA}{h:au}{mg:Str->aw}{fa:ak}(X:K.In h)(G:h.Ns mainGlobals mg)(hfa:mg "law" = some (.ref fa))
  (a1:Df K "plain_order" jD)
  (a2:Df K "need_pair" kM)
  (a3:Df K "exchanged_places" gX)
  (a4:Df K "place_pairs" jE)
  (a5:Df K "first_above_nought" gM)
  (a6:Df K "bar" AH)
  (a7:Df K "is_below" l7)
  (a8:Df K "pairs_below" jL)
  (a9:Df K "_law_cell" mw)
  (a10:Df K "_law_bag" ng)
  (a11:Df K "_law_mixed" kI)
  (a12:Df K "_law_digit" kQ)
  (a13:Df K "_law_order" kO)
  (a14:Df K "_law_exchanged" iX)
  (a15:Df K "_law_some" lO)
  (a16:Df K "_law_long" lG)
  (a17:Df K "_law_stands" kh)
  (a18:Df K "_law_has_four" jm)
  (a19:Df K "_law_back" lU)
  (a20:Df K "law" Bg)
  (KQ:PySem.W.nsIn K mainGlobals "tuple" = some none)
  (KR:PySem.W.nsIn K mainGlobals "range" = some none)
  (KS:PySem.W.nsIn K mainGlobals "len" = some none)
  (KU:PySem.W.nsIn K mainGlobals "list" = some none)
  (KW:PySem.W.nsIn K mainGlobals "max" = some none)
  (KY:PySem.W.nsIn K mainGlobals "abs" = some none)
  (KZ:PySem.W.nsIn K mainGlobals "sorted" = some none)
  (K3:PySem.W.nsIn K mainGlobals "min" = some none)
  : ∃fd:FuncData,(∀(s:aE) (v:aa),BindsTo s fd ⟨[v],[]⟩ [("_law_script",v)])/\∀base:au,K.In base->base.Ns mainGlobals mg->FnOk l.prog w K mg base l8 5 fa fd ["_law_script"] (nj K 1 pP):=by
 obtain⟨f,fd,a,F⟩:=a20;have e:=hfa.symm.trans (PySem.W.mg_of X G a)
 cases e
 have j:=bU X G KQ;have d:=bU X G KR;have g:=bU X G KS;have p:=bU X G KU;have m:=bU X G KW;have N:=bU X G KY;have C:=bU X G KZ;have J:=bU X G K3;refine⟨fd,λs v=>(by obtain⟨_,_,_,_,_,_,_,_,_,rfl,_,_⟩:=F.ex;exact .of_eq rfl),λbase _ _=>?_⟩;have E:En l.prog w K mg base:=⟨h,X,G⟩;have U:=a1.kA E (λF=>oB F j d)<|BE λ_ _ _ _ _ _ _=>rfl;have T:=a2.kA E (λF=>qB F g)<|Dw λ_ _ _ _ _ _ _ _=>rfl;have V:=a3.kA E (λF=>lC F p j)<|JJ λ_ _ _ _ _ _ _ _ _=>rfl;have O:=a4.kA E (λF=>oQ F d)<|BE λ_ _ _ _ _ _ _=>rfl;have L:=a5.kA E (λF=>kC F)<|BE λ_ _ _ _ _ _ _=>rfl;have Y:=a6.kA E (λF=>Ei F g d m T L)<|Dw λ_ _ _ _ _ _ _ _=>rfl;have P:=a7.kA E (λF=>sJ F Y)<|Dw λ_ _ _ _ _ _ _ _=>rfl;have z:=a8.kA E (λF=>oM F g U O P V)<|BE λ_ _ _ _ _ _ _=>rfl;have q:=a9.kA E (λF=>qV F g)<|Dw λ_ _ _ _ _ _ _ _=>rfl;have KH:=a10.kA E (λF=>ud F N)<|Dw λ_ _ _ _ _ _ _ _=>rfl;have M:=a11.kA E (λF=>qP F)<|BE λ_ _ _ _ _ _ _=>rfl;have k:=a12.kA E (λF=>qu F d M)<|Dw λ_ _ _ _ _ _ _ _=>rfl;have Z:=a13.kA E (λF=>qm F p d g j k)<|Dw λ_ _ _ _ _ _ _ _=>rfl;have KA:=a14.kA E (λF=>m8 F)<|Dw λ_ _ _ _ _ _ _ _=>rfl;have KL:=a15.kA E (λF=>sD F j d k KA)<|JJ λ_ _ _ _ _ _ _ _ _=>rfl;have KN:=a16.kA E (λF=>rH F d g)<|BE λ_ _ _ _ _ _ _=>rfl;have KD:=a17.kA E (λF=>pF F C)<|BE λ_ _ _ _ _ _ _=>rfl;have KO:=a18.kA E (λF=>nN F g d KD)<|BE λ_ _ _ _ _ _ _=>rfl;have B:=a19.kA E (λF=>rG F j d g)<|BE λ_ _ _ _ _ _ _=>rfl;exact EF F d m J g KH q Z k KL z KN KO B
def walk{l:PySem.W.OpenLaw}{q:aj}{XP:(Str->aw)->au->Prop}{YP:af->au->Prop}{d:DefRec}{K:Params->aA}(hn:l.most=some 63)(hdf:d.params.defaults=[])
  (hY:∀(w:af) (h:au),YP w h->(K w.params).In h)
  (F:∀(w:af) (mg:Str->aw) (fa:ak) (h:au),(K w.params).In h->h.Ns mainGlobals mg->mg d.name=some (.ref fa) ->
   ∃fd:FuncData,(∀(s:aE) (u:aa),BindsTo s fd ⟨[u],[]⟩ [("_law_script",u)])/\∀base:au,(K w.params).In base->base.Ns mainGlobals mg->FnOk l.prog w (K w.params) mg base l8 5 fa fd ["_law_script"] (nj (K w.params) 1 pP)) :
  PySem.W.WalkO q loose XP YP l.row.toRowW d [] (λf vs=>PySem.call f vs):=
 L2.BH (n:=63) (k:=5) (x := "_law_script") (CX:=λ_=>l8) (sp:=λw=>nj (K w.params) 1 pP) hn ⋯ hdf ⟨rfl,by decide,by decide⟩ hY F (λ_ H a m p j g=>xq j g<|E4 m p) λ_ _ _ _ _ z=>z
end K50
open PySem PySem.W PyProof.Rows
namespace PySem.W.Fast
def tw14388118064891178148:=Nat
def tw15915701257644873455:=Nat
def tw10628431203817155129:=Nat
def tw11565415228029879110:=Nat
def tw5751440311484943530:=Nat
def tw12069789798766854762:=Nat
def tw4602568462745086250:=Nat
def tw11420979261818764433:=Nat
def tw13877978243597738082:=Nat
def tw14925766354518287750:=Nat
def tw2384954134201195865:=Nat
def tw7627127055657340735:=Nat
def tw2272889253394976620:=Nat
def tw1258550202405197346:=Nat
def tw10615977189063803897:=Nat
def tw10141180878758460652:=Nat
def tw7892523687159335246:=Nat
def tw9456437569563527839:=Nat
def tw18224489914770946012:=Nat
def tw6955489211222722005:=Nat
def tw16103316970160991880:=Nat
def tw3510657801505715329:=Nat
def tw15551998567277368314:=Nat
def tw1229848789260169076:=Nat
def tw3588485456741928974:=Nat
def tw240375567728161797:=Nat
def tw7780165632647757870:=Nat
def tw15336872027527793259:=Nat
def tw17039604979659309881:=Nat
def tw11749453064739426745:=Nat
def tw18126278995329048951:=Nat
def tw15981738424244244816:=Nat
def tw8946302139131327449:=Nat
def tw4316365233486262345:=Nat
def tw17191526601094430576:=Nat
def tw2842871186635479231:=Nat
def tw18071133019503302003:=Nat
def tw12214755520114050429:=Nat
def tw2718144857379708004:=Nat
def tw5580689934306923890:=Nat
def tw6247673011681976779:=Nat
def tw10894911280444089591:=Nat
def tw8383892244254778378:=Nat
def tw17346189604639905704:=Nat
def tw11049561177207011469:=Nat
def tw16751226579275563970:=Nat
def tw5074731327967421728:=Nat
def tw10947982342585433047:=Nat
def tw15232333569050327134:=Nat
def tw3714278220120149287:=Nat
def tw9063964236255783774:=Nat
def tw3841107106124335321:=Nat
def tw15477311606065085227:=Nat
def tw7979389484690757057:=Nat
def tw11009943248264734825:=Nat
def tw14087279642087483636:=Nat
def tw4532152698518698980:=Nat
def tw4484541575744274225:=Nat
def tw10975292900572686207:=Nat
def tw4520792770776688706:=Nat
def tw8458116248924968140:=Nat
def tw735985878262510345:=Nat
def tw1371472717646504131:=Nat
def tw1720568711233100868:=Nat
def tw11406808865849181015:=Nat
def tw3761760239574702146:=Nat
def tw5845466644414055035:=Nat
def tw1600224728981926448:=Nat
def tw6372901787046672180:=Nat
def tw2381496930419193362:=Nat
def tw3046669959925687914:=Nat
def tw10289769659275322119:=Nat
def tw15403559347138592472:=Nat
def tw1583766874908459602:=Nat
def tw14347269772345015387:=Nat
def tw17236739949600959964:=Nat
def tw9861882278793204398:=Nat
def tw8721294811447834984:=Nat
def tw16529180277504866455:=Nat
def tw17027685317890373045:=Nat
def tw10777238534166017635:=Nat
def tw2970880108212580735:=Nat
def tw750768870427474936:=Nat
def tw8695060345102020743:=Nat
def tw10067235671326254580:=Nat
def tw10857657454541104488:=Nat
def tw15788389395778133674:=Nat
def tw9582825125534873533:=Nat
def tw15571613824412926251:=Nat
def tw6019286764197811383:=Nat
def tw1031250767803969531:=Nat
def tw1364925417637060687:=Nat
def tw15278752186172252024:=Nat
def tw7876589020065670754:=Nat
def tw14848531468695780349:=Nat
def tw4994496983149250524:=Nat
def tw14363217259573911085:=Nat
def tw1168840877580527103:=Nat
def tw9187204927438981648:=Nat
def tw3845878282521371261:=Nat
def tw15650168461613912677:=Nat
def tw15464506594499667265:=Nat
def tw5276239514234135343:=Nat
def tw921266016507263265:=Nat
def tw17766951325083804068:=Nat
def tw2172359882012716314:=Nat
def tw1143161283368601896:=Nat
def tw10530044197266830575:=Nat
def tw9255967718103689975:=Nat
def tw12688049344886470342:=Nat
def tw15458412529629363698:=Nat
def tw1450360091227925127:=Nat
def tw14535616522534673263:=Nat
def tw1524902012262141754:=Nat
def tw18246833271358422377:=Nat
def tw4219826894798392035:=Nat
def tw3771043835233581197:=Nat
def tw6929618789165541820:=Nat
def tw10119009051204317127:=Nat
def tw533062646742707260:=Nat
def tw321360159676965498:=Nat
def tw6167489580684885089:=Nat
def tw4386651853104110458:=Nat
def tw17297000775935212583:=Nat
def tw11576755605833169792:=Nat
def tw13497909392715775827:=Nat
def tw467211834547207425:=Nat
def tw13556831459822549732:=Nat
def tw522225769881067268:=Nat
def tw14990156917682936242:=Nat
def tw7841056645375354042:=Nat
def tw4679417244114774131:=Nat
def tw12386861028854544227:=Nat
def tw12706910695889907649:=Nat
def tw9035646161596026228:=Nat
def tw11192873620125892234:=Nat
def tw15010405869183543988:=Nat
def tw15994632391998744541:=Nat
def tw18184873780253092718:=Nat
def tw2160329505641924123:=Nat
end PySem.W.Fast
set_option maxRecDepth 100000 in
set_option maxHeartbeats 0 in
theorem PySem.Challenge.cw_undercells_k50_as_many_as_wrong_pairs_holds : PySem.Challenge.rw_undercells_k50_as_many_as_wrong_pairs.Holds := by
 w_on;o_law;k_head;(case hw=>w_witness2)
 k_fill
 refine K50.walk (l:=PySem.Challenge.rw_undercells_k50_as_many_as_wrong_pairs) rfl rfl (fun w h Y=>PySem.W.kIn_of Y) ?F
 case F=>
  intro w mg fa h KX G hmg;refine' K50.all_mk KX G hmg (.of ?_ ?_ ?_ ?_) (.of ?_ ?_ ?_ ?_) (.of ?_ ?_ ?_ ?_) (.of ?_ ?_ ?_ ?_) (.of ?_ ?_ ?_ ?_) (.of ?_ ?_ ?_ ?_) (.of ?_ ?_ ?_ ?_) (.of ?_ ?_ ?_ ?_) (.of ?_ ?_ ?_ ?_) (.of ?_ ?_ ?_ ?_) (.of ?_ ?_ ?_ ?_) (.of ?_ ?_ ?_ ?_) (.of ?_ ?_ ?_ ?_) (.of ?_ ?_ ?_ ?_) (.of ?_ ?_ ?_ ?_) (.of ?_ ?_ ?_ ?_) (.of ?_ ?_ ?_ ?_) (.of ?_ ?_ ?_ ?_) (.of ?_ ?_ ?_ ?_) (.of ?_ ?_ ?_ ?_) ?_ ?_ ?_ ?_ ?_ ?_ ?_ ?_
  any_goals first|k_is|kernel_rfl
