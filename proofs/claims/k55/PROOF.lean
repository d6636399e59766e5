import PyProof.Rows.All
import Wide.All
import OpenK.AllK
import Wide.FinOn
import Lean
import PyProof.EqAt
import PyProof.EqKinds
import PyProof.TupleCall
import PySem.Challenge.RW_undercells_k55_is_table
set_option autoImplicit true
set_option relaxedAutoImplicit true
set_option Elab.async false
set_option linter.all false
set_option maxRecDepth 100000
set_option compiler.extract_closed false
set_option maxHeartbeats 4000000
local macro_rules|`(command|abbrev $n:declId $s:optDeclSig $v:declVal)=>`(command|noncomputable def $n:declId $s:optDeclSig $v:declVal)|`(command|meta abbrev $n:declId $s:optDeclSig $v:declVal)=>`(command|@[reducible]noncomputable def $n:declId $s:optDeclSig $v:declVal)
local macro_rules|`(∅)=>`(by decide +kernel)
local macro_rules|`(⋯)=>`(by decide)
local macro_rules|`(tactic|dsimp[$l,*])=>`(tactic|simp only[$l,*])|`(tactic|dsimp[$l,*]$o:location)=>`(tactic|simp only[$l,*]$o:location)
local macro_rules(kind:=Lean.Parser.Term.structInst)|`({})=>`({cls:=.type "list",data:=.seq ([]:List PySem.Value).toArray})
set_option hygiene false
local macro_rules|`(tactic|room)=>`(tactic|exact⟨.ref M,S4,by dsimp[fO,bools,Int.reduceBEq,↓e4],rfl,o4,hb4,kk k4⟩)
local macro_rules|`(tactic|z_go)=>`(tactic|exact Kp.refl.lay)
local macro_rules|`(tactic|x_go)=>`(tactic|obtain⟨ρ,S,a,b,R,va,vb,h⟩:=h9)
local macro_rules|`(tactic|w_up)=>`(tactic|intro X hP hw hK hc i pins s σ H E I hf st hg)
local macro_rules|`(tactic|fin2)=>`(tactic|obtain⟨ρ,S,τ,R,r,h⟩:=h9)
local macro_rules|`(tactic|k_ne)=>`(tactic|intro pins s σ H Q I h)
local macro_rules|`(tactic|kt_k)=>`(tactic|obtain⟨B2,hB2⟩:∃B2,B2=B1++[O.lst [A.ref S.length]]:=⟨_,rfl⟩)
local macro_rules|`(tactic|kd_p)=>`(tactic|obtain⟨B3,hB3⟩:∃B3,B3=B2++[O.lst (qs.map A.ref++[A.ref S.length])]:=⟨_,rfl⟩)
local macro_rules|`(tactic|gn_on)=>`(tactic|intro pins s σ H x y v u Q I rx ry h)
local macro_rules|`(tactic|gp_on)=>`(tactic|obtain⟨f0,f1,f2,f3,f4,f5⟩:=hf it (by simp))
local macro_rules|`(tactic|kj_on)=>`(tactic|intro pins s σ H xs us Q I r h)
local macro_rules|`(tactic|kcf_m)=>`(tactic|obtain⟨xs,hn,h⟩:=fJ h)
local macro_rules|`(tactic|kcj_m)=>`(tactic|have yB1:=eB1.lst _ _ (λz=>z) xB1)
local macro_rules|`(tactic|kpc_g)=>`(tactic|have yB2:=eB2.lst _ _ (λz=>z) xB2)
local macro_rules|`(tactic|kpf_c)=>`(tactic|have yB3:=eB3.lst _ _ (λz=>z) xB3)
local macro_rules|`(tactic|ksr_p)=>`(tactic|obtain⟨w,rfl,ρ,S,x,R,hv,h⟩:=EH h0)
local macro_rules|`(tactic|kst_p)=>`(tactic|obtain⟨q1,q2,q3,q4,q5,q6⟩:=h.at (show T.length-1<T.length by lia))
local macro_rules|`(tactic|kln_w)=>`(tactic|obtain⟨ρ,S,τ,R,r,h⟩:=h)
local macro_rules|`(tactic|kl_no)=>`(tactic|obtain⟨r,hr',rfl⟩:=bg.mp hx)
local macro_rules|`(tactic|mg_lt)=>`(tactic|obtain⟨u,rfl,rx⟩:=vals1 r)
local macro_rules|`(tactic|cb_eq)=>`(tactic|obtain⟨t,rfl⟩:=rx)
local macro_rules|`(tactic|o_rec)=>`(tactic|obtain⟨i,hi,e⟩:=bG hr')
local macro_rules|`(tactic|f_are)=>`(tactic|obtain⟨q1,q2,q3,q4⟩:=nch b hch)
set_option hygiene true
local macro_rules|`(())=>`(by lia)
@[reducible]def ae:=List Int
@[reducible]def ag:=List Nat
@[reducible]def am:=List PySem.Str
@[reducible]def ar:=List PySem.Value
@[reducible]def ba:=List PySem.Addr
@[reducible]def be:=Option PySem.Value
@[reducible]def bi:=Option Int
@[reducible]def bj:=Option Bool
@[reducible]def bn:=Option Nat
@[reducible]def bo:=List<|PySem.Addr×PySem.Obj
def aE:=@List.getD_eq_getElem?_getD
def aF:=@List.getElem?_eq_getElem
def aG:=@List.length_map
def aH:=@List.mem_singleton
def aI:=@List.size_toArray
def aJ:=@PySem.wpAny_bind
def aK:=@List.mem_cons_of_mem
def aL:=@Nat.le_refl
def aM:=@List.getElem?_eq_some_iff
def aN:=@Option.some.inj
def aO:=@PySem.Heap.get?_push_of_some
def aP:=@Option.map_eq_some_iff
def aQ:=@PySem.Heap.lt_size
def aR:=@List.getElem?_map
def aS:=@List.mem_cons_self
def aT:=@PySem.wpAny_pure
def aU:=@List.length_append
def aV:=@decide_eq_true
def aW:=@decide_eq_false
def aX:=@List.getElem?_append_left
def aY:=@Option.bind_eq_some_iff
def aZ:=@if_pos
def a_:=@List.length_cons
def bf:=@List.mem_of_getElem?
def bg:=@List.mem_map
def bh:=@List.mem_append
def bq:=@List.mem_cons
def br:=@Nat.lt_of_lt_of_le
def bu:=@if_neg
def bw:=@List.mem_append_right
def bx:=@PySem.Heap.get?_push_size
def bz:=@List.nodup_cons
def bA:=@List.length_set
def bB:=@Option.bind_some
def bC:=@Nat.ne_of_lt
def bD:=@PySem.W.mg_none_of
def bE:=@Bool.false_ne_true
def bF:=@Nat.le_trans
def bG:=@List.getElem_of_mem
def bH:=@PyProof.Rows.slot_tuple_getitem
def bI:=@PySem.wpAny_newObj_type
def bJ:=@List.map_cons
def bK:=@PySem.W.kia_one
def bL:=@PySem.mem_of_lookup
def bM:=@List.forall_mem_cons
def bN:=@Bool.not_false
def bO:=@List.map_append
def bP:=@List.getElem?_set_self
def bQ:=@Bool.and_eq_true
def bR:=@beq_self_eq_true
def bT:=@Bool.not_true
def bU:=@List.getElem?_set_ne
def bV:=@PySem.sizeLine_eq
def bW:=@List.all_eq_true
def bX:=@List.getElem?_append_right
def bY:=@List.map_map
def bZ:=@List.replicate_succ
def b_:=@List.filter_eq_self
def cg:=@Nat.zero_le
def cj:=@Array.length_toList
def ck:=@List.length_reverse
def cy:=@PyProof.Rows.callWith_type1
def cz:=@List.lookup_cons
def cA:=@List.mem_range
def cB:=@Bool.false_and
def cC:=@List.getElem?_eq_none_iff
def cD:=@PySem.PassesOwn.never
def cE:=@Option.map_some
def cF:=@PySem.wpAny_truthy_bool
def cG:=@congrArg
def cH:=@List.reverse_cons
def cI:=@List.flatten_cons
def cJ:=@List.getElem?_set
def cK:=@Option.isSome_iff_exists
def cL:=@PySem.F.slot_list_append
def cM:=@PySem.F.type_list_append
def cN:=@Ne.symm
def cO:=@List.length_take
def cP:=@List.length_drop
def cQ:=@Nat.le_of_lt
def cR:=@PySem.W.cellsFrom_some
def cS:=@List.map_nil
def cT:=@Bool.true_and
def cU:=@List.getElem?_eq_none
def cV:=@decide_eq_true_eq
def cW:=@Bool.eq_false_iff
def cX:=@List.range_eq_range'
def cY:=@List.mem_iff_getElem
def cZ:=@Bool.and_false
def c8:=@Nat.succ_le_succ
def c9:=@List.getElem_mem
def c_:=@Int.zero_add
def dc:=@Nat.lt_irrefl
def dg:=@PySem.wpAny_holding
def dh:=@PySem.F.args_tuple_add_2
def di:=@PySem.wpAny_passesOwn
def dm:=@List.append_nil
def dw:=@List.filter_map
def dz:=@Nat.not_lt_zero
def dB:=@Int.emod_lt_of_pos
def dD:=@PySem.F.entry_tuple_add
def dF:=@List.set_eq_take_append_cons_drop
def dG:=@PySem.F.slot_tuple_add
def dH:=@if_true
def dI:=@List.append_assoc
def dJ:=@PySem.Heap.size_push
def dM:=@List.nodup_append
def dN:=@List.range_succ_eq_map
def dO:=@List.take_of_length_le
def dP:=@Option.getD_some
def dQ:=@Nat.lt_succ_self
def dR:=@List.prefix_refl
def dS:=@List.filter_cons
def dU:=@List.mem_append_left
def dW:=@if_false
def dX:=@PySem.wpAny_field
def dY:=@Int.emod_nonneg
def dZ:=@List.filterMap_cons
def d7:=@List.length_pos_iff
def d8:=@decide_false
def d9:=@PySem.wpAny_mono
def d_:=@PySem.wpAny_Call_Name_kw
def ee:=@PySem.Heap.IsSliceOf.new
def ef:=@Bool.false_eq_true
def eg:=@List.prefix_append
def eo:=@List.pairwise_cons
def er:=@PySem.slot_list_getitem
def eB:=@decide_true
def eF:=@PySem.evalPart_none
def eG:=@List.any_cons
def eK:=@PySem.codeAny_mono
def eL:=@PySem.call_meets
def eN:=@List.map_set
def eO:=@List.of_mem_zip
def eS:=@List.nil_append
@[reducible]def aa:=PySem.Value
@[reducible]def af:=PySem.World
@[reducible]def ah:=PySem.Program
@[reducible]def aj:=PySem.Addr
@[reducible]def ak:=PySem.Heap
@[reducible]def aq:=PySem.W.Frag
@[reducible]def au:=PySem.Around
@[reducible]def az:=PySem.Shared
@[reducible]def aA:=PySem.Expr
@[reducible]def aC:=PySem.Stmt
def anI{a b:Prop}(h:a)(k:b):a/\b:=⟨h,k⟩
open List (all_map sum_cons)
open Nat (lt_or_ge ne_of_gt not_lt)
open Option (getD_none)
namespace L2
open PySem PySem.Spec PyProof.Rows
meta abbrev Key:=Sum Int Str
abbrev DJ:Key->aa->Bool
 | .inl k,v=>Value.isInt k v
 | .inr x,v=>Value.isStrOf x v
abbrev JP (w:af):Key->Int
 | .inl k=>hashInt k
 | .inr x=>hashStr w x
def gA:∀{k:Key}{v:aa},DJ k v=true->(∃i t,k=Sum.inl i/\v=Value.int i t)\/(∃x t,k=Sum.inr x/\v=Value.str x t)
 | .inl i,v,h=>by
  obtain⟨t,e⟩:=Value.isInt_shape (k:=i) (v:=v) h;exact .inl ⟨i,t,rfl,e⟩
 | .inr x,v,h=>by
  obtain⟨t,e⟩:=Value.isStrOf_shape (x:=x) (v:=v) h;exact .inr ⟨x,t,rfl,e⟩
def E6(a b:Int):decide ((Sum.inl a:Key)=Sum.inl b)=(a == b):=by
 by_cases e:a=b
 ·subst e;simp
 ·have h:¬(Sum.inl a:Key)=Sum.inl b:=λq=>e<|Sum.inl.inj q;rw[aW h];exact(beq_eq_false_iff_ne.mpr e).symm
def FE(a b:Str):decide ((Sum.inr a:Key)=Sum.inr b)=decide (a=b):=by
 by_cases e:a=b
 ·subst e;simp
 ·have h:¬(Sum.inr a:Key)=Sum.inr b:=λq=>e<|Sum.inr.inj q;rw[aW h,aW e]
def Gi(a:Int)(b:Str):decide ((Sum.inl a:Key)=Sum.inr b)=false:=aW λq=>nomatch q
def Gg(a:Str)(b:Int):decide ((Sum.inr a:Key)=Sum.inl b)=false:=aW λq=>nomatch q
abbrev rm (prog:ah)(w:af):PySem.KeyKind prog w Key where
 is:=DJ
 hash:=JP w
 inj:=λv a b d c=>by
  rcases gA d with⟨i,t,rfl,rfl⟩|⟨x,t,rfl,rfl⟩
  ·rcases gA c with⟨j,u,rfl,e⟩|⟨y,u,rfl,e⟩
   ·injection e with e1 _;rw[e1]
   ·exact nomatch e
  ·rcases gA c with⟨j,u,rfl,e⟩|⟨y,u,rfl,e⟩
   ·exact nomatch e
   ·injection e with e1 _;rw[e1]
 byValue:=λk v h=>by
  rcases gA h with⟨i,t,rfl,rfl⟩|⟨x,t,rfl,rfl⟩<;>rfl
 pyHash:=λhv h=>by
  rcases gA hv with⟨i,t,rfl,rfl⟩|⟨x,t,rfl,rfl⟩
  ·exact wpAny_pyHash_int h
  ·exact wpAny_pyHash_str h
 eqBool:=λf hv h=>by
  rcases gA f with⟨i,t,rfl,rfl⟩|⟨x,t,rfl,rfl⟩
  ·rcases gA hv with⟨j,u,rfl,rfl⟩|⟨y,u,rfl,rfl⟩
   ·rw[E6]at h;exact wpAny_eqBool_int h
   ·rw[Gi]at h;exact SeqAt.EqAt.int_str i t y u _ _ _ _ h
  ·rcases gA hv with⟨j,u,rfl,rfl⟩|⟨y,u,rfl,rfl⟩
   ·rw[Gg]at h;exact SeqAt.EqAt.str_int x t j u _ _ _ _ h
   ·rw[FE]at h;exact wpAny_eqBool_str h
 «strs»:=λk x t v h=>by
  rcases gA h with⟨i,u,rfl,e⟩|⟨y,u,rfl,e⟩
  ·exact nomatch e
  ·injection e with e1 _
   subst e1
   cases v<;>rfl
inductive V where
 | f6|bl (b:Bool)|int (i:Int)|str (x:Str)|byt (b:Array UInt8)|flt (b:UInt64)|ref (a:aj)|ty (n:String)
 deriving DecidableEq
abbrev RelV:V->aa->Prop
 | .f6,u=>u=Value.none
 | .bl b,u=>u=Value.bool b
 | .int i,u=>∃t,u=Value.int i t
 | .str x,u=>∃t,u=Value.str x t
 | .byt b,u=>∃t,u=Value.bytes b t
 | .flt b,u=>∃t,u=Value.float b t
 | .ref a,u=>u=Value.ref a
 | .ty n,u=>u=Value.type n
meta abbrev Vals:List V->ar->Prop:=Paired RelV
def Vals.length{xs:List V}{us:ar}(r:Vals xs us):xs.length=us.length:=Paired.length r
theorem Vals.get:∀{xs:List V}{us:ar}{i:Nat}{x:V},Vals xs us->xs[i]?=some x->∃u,us[i]?=some u/\RelV x u
 | _,_,_,_,.nil,e=>by simp at e
 | _,_,0,_,.cons r _,e=>by simp at e;subst e;exact⟨_,rfl,r⟩
 | _,_,i+1,x,.cons _ t,e=>by
  obtain⟨u,h1,c⟩:=Vals.get (i:=i) (x:=x) t (by simpa using e);exact⟨u,by simpa using h1,c⟩
theorem Vals.set{x:V}(r:RelV x u):∀{xs:List V}{us:ar}(i:Nat),Vals xs us->Vals (xs.set i x) (us.set i u)
 | _,_,_,.nil=>.nil
 | _,_,0,.cons _ t=>.cons r t
 | _,_,i+1,.cons q t=>.cons q<|Vals.set r i t
theorem Vals.append:∀{xs ys:List V}{us ws:ar},Vals xs us->Vals ys ws->Vals (xs++ys) (us++ws)
 | _,_,_,_,.nil,s=>s
 | _,_,_,_,.cons r t,s=>.cons r<|Vals.append t s
theorem Vals.take:∀{xs:List V}{us:ar}(n:Nat),Vals xs us->Vals (xs.take n) (us.take n)
 | _,_,0,_=>.nil
 | _,_,_+1,.nil=>.nil
 | _,_,n+1,.cons r t=>.cons r<|Vals.take n t
theorem Vals.drop:∀{xs:List V}{us:ar}(n:Nat),Vals xs us->Vals (xs.drop n) (us.drop n)
 | _,_,0,r=>r
 | _,_,_+1,.nil=>.nil
 | _,_,n+1,.cons _ t=>Vals.drop n t
abbrev Gs:Option V->be->Prop
 | some v,some u=>RelV v u
 | none,none=>True
 | _,_=>False
abbrev KV {κ:Type}:List (κ×V)->List (κ×aa)->Prop:=Paired λ(p:κ×V) (q:κ×aa)=>p.1=q.1/\RelV p.2 q.2
abbrev kV:Key->V
 | .inl i=>.int i
 | .inr x=>.str x
inductive HO where
 | lst (xs:List V)
 | tup (xs:List V)
 | dK (kvs:List<|Key×V)|dT (kvs:List<|List Key×V)
 | set (S:Int->Bool) (n:Nat)
 | ins (C dx:aj) (fs:List<|Str×V)
 | own (x:aj)
 | xd (fs:List<|Str×V)
 | met (f x:aj)
 | rng (lo hi:Int)
 | frz (o:Obj) (u:HO)
 | tbl (ps:Array aa)
 | ext (φ:ak->Prop)
meta abbrev Hp:=aj->Option HO
abbrev upd (H:Hp)(a:aj)(o:HO):Hp:=λb=>if b=a then some o else H b
def h_{H:Hp}{a:aj}:upd H a o a=some o:=by unfold upd;rw[aZ rfl]
def fK{H:Hp}{a:aj}(h:b≠a):upd H a o b=H b:=by unfold upd;rw[bu h]
def fR{H:Hp}{a:aj}(h:H a=some o)(h':H b=none):a≠b:=by
 intro e;subst e;rw[h]at h';cases h'
abbrev iI (h:ak)(a:aj)(items:Array aa):Prop:=∃o,h.get? a=some o/\o.cls=.type "tuple" /\ o.dict=none/\∃n,o.data=.seq items n
def iI.tup{a:aj}:iI h a items->IsTup h a items:=λ⟨o,e,c,_,n,d⟩=>⟨o,e,c,n,d⟩
def iI.new(h:ak)(items:Array aa):iI (h.push { cls:=.type "tuple",data:=.seq items }) h.objs.size items:=⟨_,bx _ rfl,rfl,rfl,_,rfl⟩
def iI.lt{h:ak}{a:aj}(x:iI h a items):a<h.objs.size:=let⟨_,ho,_⟩:=x;aQ ho
section
variable (P:ah) (w:af)
abbrev iw (H:Hp)(h:ak)(a:aj):HO->Prop
 | .lst xs=>xs.length<=sizeLine/\∃(d:ar) (n:Nat),Vals xs d/\h.get? a=some { cls:=.type "list",data:=.seq d.toArray n }
 | .tup xs=>xs.length<=sizeLine/\∃d:ar,Vals xs d/\iI h a d.toArray
 | .dK c=>c.length<=sizeLine/\(a == sysModules)=false/\∃m,KV c m/\h.DictOf (rm P w) a m
 | .dT c=>c.length<=sizeLine/\(a == sysModules)=false/\∃xs:List<|List Key×aj×aa,
   Paired (λ(p:List Key×V) (q:List Key×aj×aa)=>p.1=q.1/\H q.2.1=some (.tup<|p.1.map kV)/\RelV p.2 q.2.2) c xs /\
   ∃o es B,h.get? a=some o/\o.ExactDict/\o.data=.dict es B/\es.toList=xs.map (entryOfKey<|tupleKind<|rm P w)/\(xs.map (·.1)).Nodup
 | .set S n=>h.SetOf (intKind P w) a S n
 | .ins C dx fs=>H dx=some (.own a)/\fs.length<=1000/\dx≠a/\h.get? a=some (PySem.W.instObj C dx) /\
   ∃g,h.Ns1 dx g/\(∀f,Gs (fs.lookup f)<|g f)/\PySem.Within g (fs.map (·.1))
 | .own _=>∃o,h.get? a=some o
 | .xd fs=>∃g,h.Ns1 a g/\∀f,Gs (fs.lookup f) (g f)
 | .rng lo hi=>∃t u v,h.get? a=some { cls:=.type "range",data:=.fields #[.int lo t,.int hi u,.int 1 v]}
 | .frz o u=>h.get? a=some o/\iw H h a u
 | .tbl ps=>h.get? a=some { cls:=.none,data:=.fields ps }
 | .met f x=>h.get? a=some (PySem.W.methodObj (.ref f)<|.ref x)
 | .ext j=>j h/\(∃o,h.get? a=some o)/\∀h1 k:ak,j h1->(∀o,h1.get? a=some o->k.get? a=some o)->j k
abbrev oB (H:Hp)(h:ak):Prop:=∀a o,H a=some o->iw P w H h a o
end
section
variable {P:ah}{w:af}{H H':Hp}{h h':ak}{a:aj}{o:HO}
def iw.lt(x:iw P w H h a o):a<h.objs.size:=by
 cases o with
 | lst xs=>obtain⟨_,_,_,_,e⟩:=x;exact aQ e
 | tup xs=>obtain⟨_,_,_,p⟩:=x;exact iI.lt p
 | dK c=>obtain⟨_,_,_,_,o,_,_,e,_⟩:=x;exact aQ e
 | dT c=>obtain⟨_,_,_,_,o,_,_,e,_⟩:=x;exact aQ e
 | set S n=>obtain⟨o,_,_,_,e,_⟩:=x;exact aQ e
 | ins C dx fs=>obtain⟨_,_,_,e,_⟩:=x;exact aQ e
 | own y=>obtain⟨_,e⟩:=x;exact aQ e
 | xd fs=>obtain⟨_,⟨_,_,_,e,_⟩,_⟩:=x;exact aQ e
 | rng lo hi=>obtain⟨_,_,_,e⟩:=x;exact aQ e
 | frz d u=>obtain⟨e,_⟩:=x;exact aQ e
 | tbl ps=>exact aQ (show h.get? a=some _ from x)
 | met f y=>exact aQ (show h.get? a=some _ from x)
 | ext g=>obtain⟨_,⟨_,e⟩,_⟩:=x;exact aQ e
theorem Paired.G2{α β:Type}{F G:α->β->Prop}:∀{l₁:List α}{l₂:List β},Paired F l₁ l₂->(∀a b,F a b->G a b)->Paired G l₁ l₂
 | _,_,.nil,_=>.nil
 | _,_,.cons r t,f=>.cons (f _ _ r)<|Paired.G2 t f
def iw.stay(x:iw P w H h a o)(k:∀b u,(b=a\/H b=some (.own a))->h.get? b=some u->h'.get? b=some u)
  (ho:∀b,H b=some (.own a)->H' b=some (.own a)) (ht:∀b xs,H b=some (.tup xs)->H' b=some (.tup xs)):iw P w H' h' a o:=by
 induction o with
 | lst xs=>obtain⟨z,m,n,r,e⟩:=x;exact⟨z,m,n,r,k _ _ (.inl rfl) e⟩
 | tup xs=>obtain⟨z,m,r,g,e,c⟩:=x;exact⟨z,m,r,g,k _ _ (.inl rfl) e,c⟩
 | dK D=>obtain⟨z,y,K,r,g,es,j,e,c⟩:=x;exact⟨z,y,K,r,g,es,j,k _ _ (.inl rfl) e,c⟩
 | dT D=>
  obtain⟨z,y,xs,r,g,es,j,e,c⟩:=x;exact⟨z,y,xs,Paired.G2 r λp q z=>⟨z.1,ht _ _ z.2.1,z.2.2⟩,g,es,j,k _ _ (.inl rfl) e,c⟩
 | set S n=>obtain⟨g,es,j,t,e,c⟩:=x;exact⟨g,es,j,t,k _ _ (.inl rfl) e,c⟩
 | ins C dx fs=>
  obtain⟨d,z,J,e,F,⟨B,es,j,e2,c⟩,r⟩:=x;exact⟨ho _ d,z,J,k _ _ (.inl rfl) e,F,⟨B,es,j,k _ _ (.inr d) e2,c⟩,r⟩
 | own y=>obtain⟨g,e⟩:=x;exact⟨g,k _ _ (.inl rfl) e⟩
 | xd fs=>obtain⟨F,⟨B,es,j,e,c⟩,r⟩:=x;exact⟨F,⟨B,es,j,k _ _ (.inl rfl) e,c⟩,r⟩
 | rng lo hi=>obtain⟨t,u,v,e⟩:=x;exact⟨t,u,v,k _ _ (.inl rfl) e⟩
 | frz g u G=>obtain⟨e,q⟩:=x;exact⟨k _ _ (.inl rfl) e,G q⟩
 | tbl ps=>
  have e:h.get? a=some { cls:=.none,data:=.fields ps }:=x
  skip
  exact k a _ (.inl rfl) e
 | met f y=>
  have e:h.get? a=some (PySem.W.methodObj (.ref f)<|.ref y):=x
  skip
  exact k a _ (.inl rfl) e
 | ext L=>obtain⟨p,⟨o,e⟩,st⟩:=x;exact⟨st _ _ p λo q=>k _ _ (.inl rfl) q,⟨o,k _ _ (.inl rfl) e⟩,st⟩
def oB.lt(x:oB P w H h)(e:H a=some o):a<h.objs.size:=(x a o e).lt
def oB.fresh(x:oB P w H h)(e:h.objs.size<=a):H a=none:=by
 cases q:H a with
 | none=>rfl
 | some u=>exact absurd (br (x.lt q) e)<|dc _
def oB.kept(x:oB P w H h)(k:∀b u,h.get? b=some u->h'.get? b=some u):oB P w H h':=λa o e=>
 (x a o e).stay (λb u _ q=>k b u q) (λ_ q=>q) λ_ _ q=>q
def oB.laid(x:oB P w H h)(k:∀b u,h.get? b=some u->h'.get? b=some u)(hp:h.objs.size<=a)(new:iw P w (upd H a o) h' a o):oB P w (upd H a o) h':=λb u e=>by
 have hn:=x.fresh hp;by_cases d:b=a
 ·subst d;rw[h_]at e;cases e;exact new
 ·rw[fK d]at e;exact(x b u e).stay (λc v _ q=>k c v q) (λc q=>by rw[fK<|fR q hn];exact q) λc xs q=>by rw[fK<|fR q hn];exact q
end
abbrev Rd (H:Hp)(a:aj)(u:HO):Prop:=H a=some u\/∃o,H a=some (.frz o u)
def Rd.ok{P:ah}{w:af}{H:Hp}{a:aj}(r:Rd H a u)(x:oB P w H h):iw P w H h a u:=by
 rcases r with r|⟨o,r⟩
 ·exact x a u r
 ·obtain⟨_,q⟩:=x a _ r;exact q
abbrev Iw:Option HO->Prop
 | some (.lst _)=>True
 | some (.dK _)=>True
 | some (.dT _)=>True
 | some (.set _ _)=>True
 | some (.ins _ _ _)=>True
 | some (.ext _)=>True
 | _=>False
section
variable {P:ah}{w:af}{H:Hp}{h h':ak}{x e:aj}{o':HO}
def oB.write(ok:oB P w H h)(mu:Iw<|H x)(he:e=x\/H e=some (.own x))(k:∀b u,b≠e->h.get? b=some u->h'.get? b=some u)(heo:∃u,h'.get? e=some u)
  (new:iw P w (upd H x o') h' x o'):oB P w (upd H x o') h':=λb u q=>by
 have f:∀c y,H c=some (.own y)->c≠x:=λc y r z=>by subst z;rw[r]at mu;exact mu
 have g:∀c xs,H c=some (.tup xs)->c≠x:=λc xs r z=>by subst z;rw[r]at mu;exact mu
 by_cases j:b=x
 ·subst j;rw[h_]at q;cases q;exact new
 ·rw[fK j]at q;by_cases d:b=e
  ·have m:H b=some (.own x):=by
    rcases he with z|z
    ·exact absurd (d.trans z) j
    ·rw[d];exact z
   rw[q]at m;cases m;obtain⟨v,hv⟩:=heo;exact⟨v,by rw[d];exact hv⟩
  ·refine(ok b u q).stay (λc v hc r=>k c v ?_ r) (λc r=>by rw[fK<|f c b r];exact r) λc xs r=>by rw[fK<|g c xs r];exact r
   rcases hc with rfl|hc
   ·exact d
   ·rintro rfl
    rcases he with z|z
    ·exact f c b hc z
    ·rw[hc]at z;cases z;exact j rfl
end
structure Un (fs ex:ba)(H H':Hp)(h h':ak):Prop where
 keep:∀b o,h.get? b=some o->H b=none->b∉fs->b∉ex->h'.get? b=some o
 slot:∀b o,h.get? b=some o->H b=none->b∈fs->b∉ex->∃sl,h'.get? b=some { o with slots:=sl }
 free:∀b o,h.get? b=some o->H b=none->b∉ex->H' b=none
 there:∀b o,h.get? b=some o->b∉ex->∃o',h'.get? b=some o'
 tups:∀b xs,H b=some (.tup xs)->H' b=some (.tup xs)
 frzs:∀b o u,H b=some (.frz o u)->H' b=some (.frz o u)
 tbls:∀b ps,H b=some (.tbl ps)->∃more,H' b=some (.tbl<|ps++more)
section
variable {fs ex:ba}{H H1:Hp}{h h1 h':ak}{a x e:aj}{o:HO}
def Un.any(u:Un fs ex H H1 h h1){ob:Obj}(q:h.get? b=some ob)(n:H b=none)(hx:b∉ex):∃sl,h1.get? b=some { ob with slots:=sl }:=by
 by_cases c:b∈fs
 ·exact u.slot b ob q n c hx
 ·exact⟨ob.slots,u.keep b ob q n c hx⟩
def Un.kept(k:∀b u,h.get? b=some u->h'.get? b=some u):Un fs ex H H h h':=
 ⟨λb c q _ _ _=>k b c q,λb c q _ _ _=>⟨c.slots,k b c q⟩,λ_ _ _ n _=>n,λb c q _=>⟨c,k b c q⟩,λ_ _ q=>q,λ_ _ _ q=>q,λ_ ps q=>⟨#[],by rw[q];simp⟩⟩
def Un.refl:Un fs ex H H h h:=Un.kept λ_ _ q=>q
def Un.laid(k:∀b u,h.get? b=some u->h'.get? b=some u)(hp:h.objs.size<=a)(hn:H a=none):Un fs ex H (upd H a o) h h' where
 keep:=λb u q _ _ _=>k b u q
 slot:=λb u q _ _ _=>⟨u.slots,k b u q⟩
 free:=λb u q n _=>by rw[fK<|bC<|br (aQ q) hp];exact n
 there:=λb u q _=>⟨u,k b u q⟩
 tups:=λb xs q=>by rw[fK<|fR q hn];exact q
 frzs:=λb u xs q=>by rw[fK<|fR q hn];exact q
 tbls:=λb ps q=>⟨#[],by rw[fK<|fR q hn,q];simp⟩
def Un.write(mu:Iw<|H x)(he:e=x\/H e=some (.own x))(k:∀b u,b≠e->h.get? b=some u->h'.get? b=some u)(heo:∃u,h'.get? e=some u):Un fs ex H (upd H x o) h h':=by
 have hx:∀b,H b=none->b≠x:=λb n z=>by subst z;rw[n]at mu;exact mu
 have f:∀b,H b=none->b≠e:=λb n z=>by
  subst z
  rcases he with r|r
  ·exact hx b n r
  ·rw[n]at r;cases r
 have d:∀b u,H b=some u->¬Iw (some u)->b≠x:=λb u q g z=>by subst z;rw[q]at mu;exact g mu
 refine⟨λb u q n _ _=>k b u (f b n) q,λb u q n _ _=>⟨u.slots,k b u (f b n) q⟩,λb u q n _=>by rw[fK<|hx b n];exact n,λb u q _=>?_,
  λb xs q=>by rw[fK<|d b _ q λz=>z];exact q,λb u xs q=>by rw[fK<|d b _ q λz=>z];exact q,λb ps q=>⟨#[],by rw[fK<|d b _ q λz=>z,q];simp⟩⟩
 by_cases c:b=e
 ·subst c;exact heo
 ·exact⟨u,k b u c q⟩
end
abbrev ID (h:ak)(H:Hp):ba:=(List.range h.objs.size).filter λa=>(H a).isSome
abbrev rj (h:ak)(H:Hp):ak:=PySem.W.hideAll h<|ID h H
def yp(h:ak)(H:Hp):(rj h H).objs.size=h.objs.size:=PySem.W.hideAll_size _ _
def Be{h:ak}{H:Hp}(e:h.get? b=some o)(n:H b=none):(rj h H).get? b=some o:=
 PySem.W.hideAll_get _ e λc=>by
  have q:(H b).isSome=true:=(List.mem_filter.mp c).2;rw[n]at q;simp at q
def Cs{h:ak}{H:Hp}(e:(rj h H).get? b=some o):h.get? b=some o/\H b=none:=by
 have c:h.get? b=some o:=PySem.W.of_hideAll (ID h H) e;refine⟨c,?_⟩
 cases q:H b with
 | none=>rfl
 | some x=>
  have d:b∈ID h H:=List.mem_filter.mpr ⟨cA.mpr<|aQ c,by simp[q]⟩;have z:(rj h H).get? b=none:=PySem.W.hideAll_none (ID h H) d;rw[z]at e;cases e
abbrev CT (g h:ak)(L:aj):bo:=(List.range h.objs.size).filterMap λa=>if a=L\/(g.get? a).isSome=true then none else(h.get? a).map λo=>(a,o)
abbrev rest (g h:ak)(L d:aj):bo:=(CT g h L).filter λp=>decide<|p.1≠d
structure Mod (K:aq)(mg:Str->be)(base:ak):Prop where
 kin:K.In base
 glob:base.Ns mainGlobals mg
 blt:∃mb,base.Ns builtinsNs mb/\∀x:Str,x ≠ "__name__" -> mb x=bootBuiltins x
 nolimit:base.NoLimit
structure Cx where
 prog:ah
 w:af
 K:aq
 mg:Str->be
 base:ak
 A:au
 N:am
 s₀:az
 H₀:Hp
 env:Env
 outer:List Env
 stack:List Env
 ex:ba
 fn:Str->Bool
 calm:Bool
 pn:bo
 xe:aa->az->Prop
abbrev frs (l:List Env):ba:=l.filterMap (·.frame)
meta abbrev Cx.fs (X:Cx):ba:=frs X.outer
abbrev IG (sc:Scope)(x:Str):Prop:=sc.names.lookup x=some .local\/sc.names.lookup x=some .cell\/sc.names.lookup x=some .free
abbrev Loc (sc:Scope)(x:Str):Prop:=sc.names.lookup x=some .local\/sc.names.lookup x=some .cell
abbrev Look (env:Env)(h:ak)(m:Str->be)(x:Str)(u:aa):Prop:=
 (env.kindOf x=some .local/\m x=some u)\/((env.kindOf x=some .cell\/env.kindOf x=some .free)/\∃c,env.cells.lookup x=some c/\h.IsCell c (some u))
structure Cx.Ok (X:Cx):Prop where
 mod:Mod X.K X.mg X.base
 kind:X.env.scope.kind=.function
 glob:X.env.globals=mainGlobals
 blt:X.env.builtins=builtinsNs
 above:X.s₀.heap.objs.size<=X.env.locals
 inj:∀x y c,X.env.cells.lookup x=some c->X.env.cells.lookup y=some c->x=y
 has:∀x,(X.env.kindOf x=some .cell\/X.env.kindOf x=some .free)->∃c,X.env.cells.lookup x=some c
 cab:∀x c,X.fn x=true->X.env.cells.lookup x=some c->X.s₀.heap.objs.size<=c
 hd:X.calm=true->X.A.handled=none
 frames:X.A.frames=some X.stack
 stk:X.stack=X.outer\/(X.stack=X.env::X.outer/\X.env.frame=some X.env.locals)
 exf:∀b∈X.ex,b≠X.env.locals/\∀x c,X.env.cells.lookup x=some c->c≠b
 bs:∀b o,X.base.get? b=some o->X.s₀.heap.get? b=some o/\X.H₀ b=none
 bsz:X.base.objs.size<=X.s₀.heap.objs.size
 noex:∀b o,X.base.get? b=some o->b∉X.ex
 exfs:∀b∈X.ex,b∉X.fs
 oV:X.s₀.heap.FunFrames X.base X.outer
 frf:∀b∈X.fs,X.H₀ b=none
structure Inv (X:Cx)(pins:bo)(σ:List (Option V))(H:Hp)(s:az):Prop where
 ok:X.Ok
 os:s.os=X.s₀.os
 bare:AllBare s.gens
 base:Un X.fs X.ex X.H₀ H X.s₀.heap s.heap
 loc:∃m,s.heap.Ns X.env.locals m/\∀(i:Nat) (x:Str) (v:V),X.N[i]?=some x->σ[i]?=some (some v)->IG X.env.scope x->∃u,RelV v u/\Look X.env s.heap m x u
 cell:∀x c,X.env.cells.lookup x=some c->∃v,s.heap.IsCell c v
 free:H X.env.locals=none
 freeC:∀x c,X.env.cells.lookup x=some c->H c=none
 pin:∀p∈X.pn++pins,s.heap.get? p.1=some p.2/\H p.1=none/\p.1≠X.env.locals/\p.1∉X.fs/\∀v,p.2.data≠.cell v
 hok:oB X.prog X.w H s.heap
 len:σ.length=X.N.length
section
variable {X:Cx}{pins:bo}{σ:List (Option V)}{H H':Hp}{s:az}{h':ak}
def Cx.Ok.Jz(ok:X.Ok)(e:X.base.get? b=some o):b∉X.fs:=λc=>by
 have:=(ok.oV.mem c).1;rw[e]at this;cases this
def Inv.bs(I:Inv X pins σ H s):∀b o,X.base.get? b=some o->s.heap.get? b=some o/\H b=none:=λb o e=>
 ⟨I.base.keep b o (I.ok.bs b o e).1 (I.ok.bs b o e).2 (I.ok.Jz e)<|I.ok.noex b o e,I.base.free b o (I.ok.bs b o e).1 (I.ok.bs b o e).2<|I.ok.noex b o e⟩
def Inv.bk(I:Inv X pins σ H s):∀b o,X.base.get? b=some o->s.heap.get? b=some o:=λb o e=>(I.bs b o e).1
def Inv.mod(I:Inv X pins σ H s):Mod X.K X.mg X.base:=I.ok.mod
def Inv.rA(I:Inv X pins σ H s):X.K.In s.heap:=I.ok.mod.kin.keeps I.bk
def Inv.lt(I:Inv X pins σ H s):X.env.locals<s.heap.objs.size:=let⟨_,hn,_⟩:=I.loc;hn.lt
def Inv.sz(I:Inv X pins σ H s):X.s₀.heap.objs.size<=s.heap.objs.size:=bF I.ok.above<|cQ I.lt
def Inv.Js(I:Inv X pins σ H s){a:aj}(h:s.heap.objs.size<=a):a∉X.fs:=λd=>by
 obtain⟨_,o,c,_⟩:=I.ok.oV.mem d;exact absurd (br (aQ c)<|bF I.sz h)<|dc _
def Inv.Gr(I:Inv X pins σ H s):∀x c,X.env.cells.lookup x=some c->c≠X.env.locals:=λx c e z=>by
 obtain⟨v,o,g,hd⟩:=I.cell x c e;obtain⟨m,⟨o',es,j,f,d,_⟩,_⟩:=I.loc;rw[z,f]at g;cases g;rw[d]at hd;cases hd
def Inv.oV(I:Inv X pins σ H s):s.heap.FunFrames X.base X.outer:=by
 have all:∀(l:List Env),(∀b∈frs l,b∈X.fs)->X.s₀.heap.FunFrames X.base l->s.heap.FunFrames X.base l:=by
  intro l
  induction l with
  | nil=>intro _ _;trivial
  | cons m r f=>
   intro hs g;obtain⟨k,⟨L,o,hf,hn,j,hd⟩,p⟩:=g;have d:L∈X.fs:=hs L (by unfold frs;rw[dZ,hf];exact aS);obtain⟨q,e⟩:=I.base.slot L o j (I.ok.frf L d) d λz=>I.ok.exfs L z d;exact⟨k,⟨L,_,hf,hn,e,hd⟩,f (λb c=>hs b<|by unfold frs;rw[dZ,hf];exact aK _ c) p⟩
 exact all X.outer (λ_ c=>c) I.ok.oV
def Inv.stack(I:Inv X pins σ H s):s.heap.FunFrames X.base X.stack:=by
 rcases I.ok.stk with e|⟨e,hf⟩
 ·rw[e];exact I.oV
 ·rw[e];obtain⟨m,hn,_⟩:=I.loc;refine .cons (by rw[I.ok.kind];decide) hf hn ?_ I.oV;exact Heap.get?_none_of_le<|bF I.ok.bsz I.ok.above
def Inv.uL(I:Inv X pins σ H s):∀b∈frs X.stack,b∈X.env.locals::X.fs:=λb c=>by
 rcases I.ok.stk with e|⟨e,hf⟩
 ·rw[e]at c;exact aK _ c
 ·rw[e]at c;unfold frs at c;rw[dZ,hf]at c;exact c
def Inv.wo(I:Inv X pins σ H s):∀b∈frs X.stack,H b=none:=λb c=>by
 rcases bq.mp (I.uL b c)with e|c
 ·rw[e];exact I.free
 ·obtain⟨_,o,d,_⟩:=I.ok.oV.mem c;exact I.base.free b o d (I.ok.frf b c) λz=>I.ok.exfs b z c
def Inv.step{g':Array GenState}{t':Nat}{d':Drawn}{ch:ba}(I:Inv X pins σ H s)
  (hch:∀b∈ch,(b∈X.ex\/X.s₀.heap.objs.size<=b)/\b≠X.env.locals/\(∀x c,X.env.cells.lookup x=some c->c≠b)/\∀p∈X.pn++pins,p.1≠b)
  (keep:∀b o,b≠X.env.locals->b∉X.fs->b∉ch->s.heap.get? b=some o->H b=none->h'.get? b=some o)
  (slot:∀b o,b≠X.env.locals->b∈X.fs->b∉ch->s.heap.get? b=some o->H b=none->∃sl,h'.get? b=some { o with slots:=sl }) (free:∀b o,b∉ch->s.heap.get? b=some o->H b=none->H' b=none)
  (there:∀b o,b∉ch->s.heap.get? b=some o->∃o',h'.get? b=some o')
  (tups:∀b xs,H b=some (.tup xs)->H' b=some (.tup xs)) (frzs:∀b o u,H b=some (.frz o u)->H' b=some (.frz o u)) (tbls:∀b ps,H b=some (.tbl ps)->∃more,H' b=some (.tbl<|ps++more))
  (ns:∀m,s.heap.Ns X.env.locals m->h'.Ns X.env.locals m) (hok:oB X.prog X.w H' h') (hg:AllBare g') :
  Inv X pins σ H' { s with heap:=h',gens:=g',drawn:=d',toks:=t' }:=by
 have C:∀b o,X.s₀.heap.get? b=some o->b≠X.env.locals:=λb o e=>bC<|br (aQ e) I.ok.above;have g:∀b o,X.s₀.heap.get? b=some o->b∉X.ex->b∉ch:=λb o e hx j=>by
  rcases(hch b j).1 with z|z
  ·exact hx z
  ·exact absurd (br (aQ e) z)<|dc _
 have f:∀x c,X.env.cells.lookup x=some c->∀v,s.heap.IsCell c v->h'.IsCell c v:=λx c e v ⟨o,B,hd⟩=>by
  have nch:c∉ch:=λz=>(hch c z).2.2.1 x c e rfl;by_cases hc:c∈X.fs
  ·obtain⟨sl,q⟩:=slot c o (I.Gr x c e) hc nch B<|I.freeC x c e;exact⟨_,q,hd⟩
  ·exact⟨o,keep c o (I.Gr x c e) hc nch B<|I.freeC x c e,hd⟩
 refine⟨I.ok,I.os,hg,⟨λb o e n j hx=>?_,λb o e n j hx=>?_,λb o e n hx=>?_,λb o e hx=>?_,λb xs e=>tups b xs<|I.base.tups b xs e,λb o xs e=>frzs b o xs<|I.base.frzs b o xs e,λb ps e=>?_⟩,?_,λx c e=>?_,?_,λx c e=>?_,λp F=>?_,hok,I.len⟩
 ·exact keep b o (C b o e) j (g b o e hx) (I.base.keep b o e n j hx) (I.base.free b o e n hx)
 ·obtain⟨sl,e1⟩:=I.base.slot b o e n j hx;obtain⟨D,e2⟩:=slot b _ (C b o e) j (g b o e hx) e1<|I.base.free b o e n hx;exact⟨D,e2⟩
 ·obtain⟨o',e1⟩:=I.base.there b o e hx;exact free b o' (g b o e hx) e1 (I.base.free b o e n hx)
 ·obtain⟨o',e1⟩:=I.base.there b o e hx;exact there b o' (g b o e hx) e1
 ·obtain⟨N,e1⟩:=I.base.tbls b ps e;obtain⟨P,e2⟩:=tbls b _ e1;exact⟨N++P,by rw[e2,Array.append_assoc]⟩
 ·obtain⟨m,hn,K⟩:=I.loc;refine⟨m,ns m hn,λi x v e1 e2 L=>?_⟩;obtain⟨u,r,l⟩:=K i x v e1 e2 L;refine⟨u,r,?_⟩
  rcases l with l|⟨k,c,e,z⟩
  ·exact .inl l
  ·exact .inr ⟨k,c,e,f x c e _ z⟩
 ·obtain⟨v,z⟩:=I.cell x c e;exact⟨v,f x c e v z⟩
 ·obtain⟨m,⟨o,_,_,B,_⟩,_⟩:=I.loc;exact free _ o (λz=>(hch _ z).2.1 rfl) B I.free
 ·obtain⟨v,o,B,hd⟩:=I.cell x c e;exact free c o (λz=>(hch c z).2.2.1 x c e rfl) B (I.freeC x c e)
 ·obtain⟨e,n,G,J,d⟩:=I.pin p F;have nch:p.1∉ch:=λz=>(hch p.1 z).2.2.2 p F rfl;exact⟨keep p.1 p.2 G J nch e n,free p.1 p.2 nch e n,G,J,d⟩
def Inv.un{t':Nat}(I:Inv X pins σ H s)(u:Un X.fs [] H H' s.heap h')(hok:oB X.prog X.w H' h'):Inv X pins σ H' { s with heap:=h',toks:=t' }:=by
 obtain⟨m,⟨o,es,B,j,r⟩,_⟩:=id I.loc;obtain⟨C,p⟩:=u.any j I.free (by simp);exact I.step (g':=s.gens) (d':=s.drawn) (ch:=[]) (nofun) (λb o _ d _ e n=>u.keep b o e n d<|by simp) (λb o _ d _ e n=>u.slot b o e n d<|by simp) (λb o _ e n=>u.free b o e n<|by simp) (λb o _ e=>u.there b o e<|by simp) u.tups u.frzs u.tbls (λD q=>by
  obtain⟨o',g,f,c,k⟩:=q;rw[j]at c;cases c;exact⟨_,g,f,p,k⟩) hok I.bare
def Inv.call{g':Array GenState}{t':Nat}{d':Drawn}{ch:ba}(I:Inv X pins σ H s)(u:Un (frs X.stack) ch H H' s.heap h')(hok:oB X.prog X.w H' h')(hg:AllBare g')
  (hch:∀b∈ch,(b∈X.ex\/X.s₀.heap.objs.size<=b)/\b≠X.env.locals/\(∀x c,X.env.cells.lookup x=some c->c≠b)/\∀p∈X.pn++pins,p.1≠b) :
  Inv X pins σ H' { s with heap:=h',gens:=g',drawn:=d',toks:=t' }:=by
 obtain⟨m,⟨o,es,D,k,r⟩,_⟩:=id I.loc;obtain⟨F,j⟩:=u.any k I.free λz=>(hch _ z).2.1 rfl;exact I.step (ch:=ch) hch (λb o j q hc e n=>u.keep b o e n (λz=>(bq.mp<|I.uL b z).elim j q) hc) (λb o _ _ hc e n=>u.any e n hc) (λb o hc e n=>u.free b o e n hc) (λb o hc e=>u.there b o e hc) u.tups u.frzs u.tbls (λG C=>by
  obtain⟨o',g,f,d,B⟩:=C;rw[k]at d;cases d;exact⟨_,g,f,j,B⟩) hok hg
def Inv.turned{t':Nat}{it:aj}(I:Inv X pins σ H s)(k:∀b o,b≠it->s.heap.get? b=some o->h'.get? b=some o)(hn:H it=none)(hL:it≠X.env.locals)
  (h1:it∈X.ex\/X.s₀.heap.objs.size<=it) (h2:∀x c,X.env.cells.lookup x=some c->c≠it) (h3:∀p∈X.pn++pins,p.1≠it):Inv X pins σ H { s with heap:=h',toks:=t' }:=by
 have d:∀b u,H b=some u->b≠it:=λb u e z=>by rw[z,hn]at e;cases e
 refine I.step (g':=s.gens) (d':=s.drawn) (ch:=[it]) (λb f=>?_) (λb o _ _ hc e _=>k b o (λz=>hc<|by simp[z]) e) (λb o _ _ hc e _=>⟨o.slots,k b o (λz=>hc<|by simp[z]) e⟩) (λ_ _ _ _ n=>n)
  (λb o hc e=>⟨o,k b o (λz=>hc<|by simp[z]) e⟩) (λ_ _ e=>e) (λ_ _ _ e=>e) (λb ps e=>⟨#[],by rw[e];simp⟩) (λm B=>?_) (λb u e=>?_) I.bare
 ·have e:b=it:=by simpa using f
  subst e;exact⟨h1,hL,h2,h3⟩
 ·obtain⟨o,es,j,g,r⟩:=B;exact⟨o,es,j,k _ o (cN hL) g,r⟩
 ·refine(I.hok b u e).stay (λc v hc q=>k c v ?_ q) (λ_ q=>q) λ_ _ q=>q
  rcases hc with z|z
  ·rw[z];exact d b u e
  ·exact d c _ z
def Inv.tok(I:Inv X pins σ H s)(t:Nat):Inv X pins σ H { s with toks:=t }:=I.un (h':=s.heap) (t':=t) Un.refl I.hok
def Inv.kept{t':Nat}(I:Inv X pins σ H s)(k:∀b u,s.heap.get? b=some u->h'.get? b=some u):Inv X pins σ H { s with heap:=h',toks:=t' }:=I.un (Un.kept k)<|I.hok.kept k
def Inv.laid{a:aj}{t':Nat}(I:Inv X pins σ H s)(k:∀b u,s.heap.get? b=some u->h'.get? b=some u)(hp:s.heap.objs.size<=a)(new:iw X.prog X.w (upd H a o) h' a o) :
  Inv X pins σ (upd H a o) { s with heap:=h',toks:=t' }:=I.un (Un.laid k hp<|I.hok.fresh hp)<|I.hok.laid k hp new
def Inv.write{x:aj}{t':Nat}(I:Inv X pins σ H s)(mu:Iw<|H x)(he:e=x\/H e=some (.own x))(k:∀b u,b≠e->s.heap.get? b=some u->h'.get? b=some u)(heo:∃u,h'.get? e=some u)
  (new:iw X.prog X.w (upd H x o) h' x o):Inv X pins σ (upd H x o) { s with heap:=h',toks:=t' }:=I.un (Un.write mu he k heo)<|I.hok.write mu he k heo new
def Inv.wJ{pins':bo}(I:Inv X pins σ H s)(h:∀p∈pins',s.heap.get? p.1=some p.2/\H p.1=none/\p.1≠X.env.locals/\p.1∉X.fs/\∀v,p.2.data≠.cell v):Inv X pins' σ H s:=
 ⟨I.ok,I.os,I.bare,I.base,I.loc,I.cell,I.free,I.freeC,λp c=>(bh.mp c).elim (λz=>I.pin p<|dU _ z)<|h p,I.hok,I.len⟩
def tP{N:am}(hN:N.Nodup){i j:Nat}{x:Str}(a:N[i]?=some x)(b:N[j]?=some x):i=j:=by
 obtain⟨h1,e1⟩:=aM.mp a;obtain⟨c,e2⟩:=aM.mp b;exact(List.getElem_inj hN).mp (e1.trans e2.symm)
def yu{A:au}{E:aa->az->Prop}{i:Nat}{x:Str}{v:V}{Q:Unit->az->Prop}(I:Inv X pins σ H s)(hN:X.N.Nodup)(hi:X.N[i]?=some x)(hx:Loc X.env.scope x)(r:RelV v u)
  (h:∀s',Inv X pins (σ.set i<|some v) H s'->(∃a,Heap.SameBut a s.heap s'.heap/\(a=X.env.locals\/X.env.cells.lookup x=some a))->Q Unit.unit s') (hf:X.fn x=true\/X.env.scope.names.lookup x=some .local:=by first|exact .inl rfl|exact .inr rfl|assumption):wpAny M A (storeName X.env x u) Q E s:=by
 obtain⟨m,hn,hl⟩:=id I.loc;have J:(X.env.scope.kind == .class || (X.env.scope.kind == .module && X.env.locals != X.env.globals))=false:=by rw[I.ok.kind];rfl
 have C:i<σ.length:=by rw[I.len];exact(aM.mp hi).1
 have Gr:=I.Gr;have f:∀{a:aj} {h':ak},(∃o,s.heap.get? a=some o/\H a=none)->Heap.SameBut a s.heap h'->oB X.prog X.w H h':=λ{a h'} ha hs b ob e=>by
  obtain⟨_,_,g⟩:=ha;refine(I.hok b ob e).stay (λc W hc q=>(hs.2 c ?_).trans q) (λ_ q=>q) λ_ _ q=>q;rintro rfl
  rcases hc with rfl|hc
  ·rw[g]at e;cases e
  ·rw[g]at hc;cases hc
 rcases hx with B|B
 ·refine wpAny_storeName_local B hn (λh' hn' hs=>?_) J;obtain⟨oL,_,_,hoL,_⟩:=id hn;refine h _ ⟨I.ok,I.os,I.bare,⟨λb o e n D hx=>?_,λb o e n D hx=>?_,I.base.free,λb o e hx=>?_,I.base.tups,I.base.frzs,I.base.tbls⟩,⟨_,hn',λj y v' e1 e2 e3=>?_⟩,λy c e=>?_,I.free,I.freeC,λp hp=>?_,f ⟨oL,hoL,I.free⟩ hs,by simpa using I.len⟩ ⟨_,hs,.inl rfl⟩
  ·exact(hs.2 b<|bC<|br (aQ e) I.ok.above).trans (I.base.keep b o e n D hx)
  ·obtain⟨sl,e1⟩:=I.base.slot b o e n D hx;exact⟨sl,(hs.2 b<|bC<|br (aQ e) I.ok.above).trans e1⟩
  ·obtain⟨o',e1⟩:=I.base.there b o e hx;exact⟨o',(hs.2 b<|bC<|br (aQ e) I.ok.above).trans e1⟩
  ·by_cases G:j=i
   ·subst G;rw[hi]at e1;cases e1;rw[bP C]at e2
    cases e2
    exact⟨u,r,.inl ⟨B,by simp⟩⟩
   ·rw[bU<|cN G]at e2;obtain⟨u',r',q⟩:=hl j y v' e1 e2 e3;refine⟨u',r',?_⟩
    rcases q with⟨k,e⟩|⟨k,c,e,z⟩
    ·refine .inl ⟨k,?_⟩;have:y≠x:=λe=>G<|tP hN e1<|e ▸ hi;simp[this,e]
    ·exact .inr ⟨k,c,e,z.sameBut hs<|Gr y c e⟩
  ·obtain⟨W,z⟩:=I.cell y c e;exact⟨W,z.sameBut hs<|Gr y c e⟩
  ·obtain⟨e,n,Y,nf,d⟩:=I.pin p hp;exact⟨(hs.2 p.1 Y).trans e,n,Y,nf,d⟩
 ·have F:X.fn x=true:=by
   rcases hf with z|z
   ·exact z
   ·rw[z]at B;cases B
  obtain⟨c,hc⟩:=I.ok.has x<|.inl B;obtain⟨W,z⟩:=I.cell x c hc;refine wpAny_storeName_cell I.ok.kind B hc z λh' L hs=>?_;obtain⟨oc,U,K⟩:=id z;refine h { s with heap:=h' } ⟨I.ok,I.os,I.bare,⟨λb o e n D hx=>?_,λb o e n D hx=>?_,I.base.free,λb o e hx=>?_,I.base.tups,I.base.frzs,I.base.tbls⟩,⟨m,hn.sameBut hs<|cN<|Gr x c hc,λj y v' e1 e2 e3=>?_⟩,λy Z e=>?_,I.free,I.freeC,λp hp=>?_,f ⟨oc,U,I.freeC x c hc⟩ hs,by simpa using I.len⟩ ⟨c,hs,.inr hc⟩
  ·exact(hs.2 b<|bC<|br (aQ e)<|I.ok.cab x c F hc).trans (I.base.keep b o e n D hx)
  ·obtain⟨sl,e1⟩:=I.base.slot b o e n D hx;exact⟨sl,(hs.2 b<|bC<|br (aQ e)<|I.ok.cab x c F hc).trans e1⟩
  ·obtain⟨o',e1⟩:=I.base.there b o e hx;exact⟨o',(hs.2 b<|bC<|br (aQ e)<|I.ok.cab x c F hc).trans e1⟩
  ·by_cases G:j=i
   ·subst G;rw[hi]at e1;cases e1;rw[bP C]at e2
    cases e2
    exact⟨u,r,.inr ⟨.inl B,c,hc,L⟩⟩
   ·rw[bU<|cN G]at e2;obtain⟨u',r',q⟩:=hl j y v' e1 e2 e3;refine⟨u',r',?_⟩
    rcases q with q|⟨k,Z,e,z'⟩
    ·exact .inl q
    ·refine .inr ⟨k,Z,e,z'.sameBut hs ?_⟩;rintro rfl;exact G<|tP hN e1<|I.ok.inj _ _ _ e hc ▸ hi
  ·by_cases P:Z=c
   ·subst P;exact⟨_,L⟩
   ·obtain⟨w2,z2⟩:=I.cell y Z e;exact⟨w2,z2.sameBut hs P⟩
  ·obtain⟨e,n,Y,nf,d⟩:=I.pin p hp;refine⟨(hs.2 p.1 ?_).trans e,n,Y,nf,d⟩;intro q;rw[q,U]at e;have q':oc=p.2:=aN e;exact d W<|by rw[<- q'];exact K
def rY{A:au}{E:aa->az->Prop}{i:Nat}{x:Str}{v:V}{Q:Unit->az->Prop}(I:Inv X pins σ H s)(hN:X.N.Nodup)(hi:X.N[i]?=some x)(hx:Loc X.env.scope x)(r:RelV v u)
  (h:∀s',Inv X pins (σ.set i<|some v) H s'->Q Unit.unit s') (hf:X.fn x=true\/X.env.scope.names.lookup x=some .local:=by first|exact .inl rfl|exact .inr rfl|assumption):wpAny M A (storeName X.env x u) Q E s:=
 yu I hN hi hx r (λs' c _=>h s' c) hf
def Inv.DR{s':az}{ch:ba}(I:Inv X pins σ H s)(ho:s'.os=s.os)(u:Un (frs X.stack) ch H H' s.heap s'.heap)(hok:oB X.prog X.w H' s'.heap)(hg:AllBare s'.gens)
  (hch:∀b∈ch,(b∈X.ex\/X.s₀.heap.objs.size<=b)/\b≠X.env.locals/\(∀x c,X.env.cells.lookup x=some c->c≠b)/\∀p∈X.pn++pins,p.1≠b):Inv X pins σ H' s':=by
 obtain⟨h',g',d',t',o'⟩:=s';have e:o'=s.os:=ho;subst e;exact I.call (g':=g') (t':=t') (d':=d') u hok hg hch
end
meta abbrev XK:=aa->Option aj->Hp->Prop
meta abbrev St:=List<|Option V
meta abbrev VK:=V->Hp->Prop
meta abbrev TE:=St->Hp->VK->Prop
meta abbrev TT:=St->Hp->(Bool->Hp->Prop)->Prop
meta abbrev TA:=St->Hp->(List V->Hp->Prop)->Prop
structure Ends where
 nx:St->Hp->Prop
 rt:VK
 bk:St->Hp->Prop:=λ_ _=>False
 ct:St->Hp->Prop:=λ_ _=>False
meta abbrev TS:=Ends->St->Hp->Prop
abbrev EP (X:Cx)(pins:bo)(σ:St)(Q:VK)(u:aa)(s':az):Prop:=∃v H',Inv X pins σ H' s'/\RelV v u/\Q v H'
abbrev TP (X:Cx)(pins:bo)(σ:St)(Q:Bool->Hp->Prop)(b:Bool)(s':az):Prop:=∃H',Inv X pins σ H' s'/\Q b H'
abbrev AP (X:Cx)(pins:bo)(σ:St)(Q:List V->Hp->Prop)(us:ar)(s':az):Prop:=∃c H',Inv X pins σ H' s'/\Vals c us/\Q c H'
abbrev SP (X:Cx)(pins:bo)(D:Ends)(f:Flow)(s':az):Prop:=
 match f with
 | .next=>∃c H',Inv X pins c H' s'/\D.nx c H'
 | .brk=>∃c H',Inv X pins c H' s'/\D.bk c H'
 | .cont=>∃c H',Inv X pins c H' s'/\D.ct c H'
 | .ret u=>∃v c H',Inv X pins c H' s'/\RelV v u/\D.rt v H'
abbrev PE (X:Cx)(e:aA)(t:TE):Prop:=
 ∀(pins:bo) (s:az) (σ:St) (H:Hp) (Q:VK),Inv X pins σ H s->t σ H Q->wpAny (model X.prog X.w) X.A (eval e X.env) (EP X pins σ Q) X.xe s
abbrev PT (X:Cx)(e:aA)(t:TT):Prop:=
 ∀(pins:bo) (s:az) (σ:St) (H:Hp) (Q:Bool->Hp->Prop),Inv X pins σ H s->t σ H Q->wpAny (model X.prog X.w) X.A (isTrue e X.env<|eval e X.env) (TP X pins σ Q) X.xe s
abbrev PW (X:Cx)(e:aA)(t:TT):Prop:=
 ∀(c:Sem aa) (pins:bo) (s:az) (σ:St) (H:Hp) (Q:Bool->Hp->Prop),Inv X pins σ H s->t σ H Q->wpAny (model X.prog X.w) X.A (isTrue e X.env c) (TP X pins σ Q) X.xe s
abbrev PA (X:Cx)(es:List aA)(t:TA):Prop:=
 ∀(pos:Pos) (pins:bo) (s:az) (σ:St) (H:Hp) (Q:List V->Hp->Prop),Inv X pins σ H s->t σ H Q->wpAny (model X.prog X.w) X.A (spliced<|backTo pos<|starEach es X.env) (AP X pins σ Q) X.xe s
abbrev PS (X:Cx)(st:aC)(t:TS):Prop:=
 ∀(pins:bo) (s:az) (σ:St) (H:Hp) (D:Ends),Inv X pins σ H s->t D σ H->wpAny (model X.prog X.w) X.A (exec st X.env) (SP X pins D) X.xe s
abbrev rB (X:Cx)(st:List aC)(t:TS):Prop:=
 ∀(pins:bo) (s:az) (σ:St) (H:Hp) (D:Ends),Inv X pins σ H s->t D σ H->wpAny (model X.prog X.w) X.A (execs st X.env) (SP X pins D) X.xe s
def gY{α:Type}{t:Sem α}{Q Q':α->az->Prop}{A:au}{E:aa->az->Prop}(h:wpAny M A t Q E s)(hQ:∀a s,Q a s->Q' a s):wpAny M A t Q' E s:=d9 h hQ λ_ _ x=>x
section
variable {X:Cx}
abbrev I0 (i:Nat):TE:=λσ H Q=>∃v,σ[i]?=some (some v)/\Q v H
abbrev tC (v:V):TE:=λ_ H Q=>Q v H
def Gx{i:Nat}{x:Str}(hN:X.N[i]?=some x)(hv:IG X.env.scope x)(hd:(x == ("__debug__" : Str))=false:=by decide)(hcd:(x == ("__classdict__" : Str))=false:=by decide):PE X (.Name x pos) (I0 i):=by
 k_ne;obtain⟨v,e,h⟩:=h;obtain⟨m,hn,j⟩:=I.loc;obtain⟨u,r,l⟩:=j i x v hN e hv;have g:EP X pins σ Q u s:=⟨v,H,I,r,h⟩
 rcases l with⟨f,k⟩|⟨f,c,hc,d⟩
 ·exact wpAny_Name (wpAny_loadName_local I.ok.kind f hn k g) hd
 ·rcases f with f|f
  ·exact wpAny_Name (wpAny_loadName_cell I.ok.kind f hc d g) hd
  ·exact wpAny_Name (wpAny_loadName_free I.ok.kind f hc d g hcd) hd
def uf{i j pos}:PE X (.Constant (.int i) j pos) (tC<|.int i):=λ_ _ _ H _ I h=>wpAny_Constant_int ⟨.int i,H,I.tok _,⟨_,rfl⟩,h⟩
def Hu{b j pos}:PE X (.Constant (.bool b) j pos) (tC<|.bl b):=λ_ _ _ H _ I h=>Constant_bool ⟨.bl b,H,I,rfl,h⟩
def FH{j pos}:PE X (.Constant .none j pos) (tC .f6):=λ_ _ _ H _ I h=>Constant_none ⟨.f6,H,I,rfl,h⟩
def GD{x j pos}:PE X (.Constant (.str x) j pos) (tC<|.str x):=λ_ _ _ H _ I h=>Calls.Constant_str ⟨.str x,H,I.tok _,⟨_,rfl⟩,h⟩
abbrev Gl (X:Cx)(x:Str):Prop:=X.env.kindOf x=some .globalImplicit
def uW{E:aa->az->Prop}{H:Hp}{x:Str}{Q:aa->az->Prop}(I:Inv X pins σ H s)(hg:Gl X x)(hm:X.mg x=some u)(h:Q u s)
  (hd:(x == ("__debug__" : Str))=false:=by decide):wpAny (model X.prog X.w) X.A (eval (.Name x pos) X.env) Q E s:=
 Calls.Name_function_global I.ok.kind hg (Calls.loadGlobal_global (by rw[I.ok.glob];exact I.mod.glob.keeps I.bk) hm h) hd
def ng{E:aa->az->Prop}{H:Hp}{x:Str}{Q:aa->az->Prop}(I:Inv X pins σ H s)(hg:Gl X x)(hm:X.mg x=none)(hv:bootBuiltins x=some u)(h:Q u s)
  (hn:x ≠ "__name__" := by decide) (hd:(x == ("__debug__" : Str))=false:=by decide):wpAny (model X.prog X.w) X.A (eval (.Name x pos) X.env) Q E s:=by
 obtain⟨d,h1,c⟩:=I.mod.blt;exact Calls.Name_function_global I.ok.kind hg (Calls.loadGlobal_builtin (by rw[I.ok.glob];exact I.mod.glob.keeps I.bk) hm (by rw[I.ok.blt];exact h1.keeps I.bk) ((c x hn).trans hv) h) hd
def Du{x:Str}{v:V}(hg:Gl X x)(hm:X.mg x=some u)(r:RelV v u)(hd:(x == ("__debug__" : Str))=false:=by decide):PE X (.Name x pos) (tC v):=
 λ_ _ _ H _ I h=>uW I hg hm ⟨v,H,I,r,h⟩ hd
def Cz{x:Str}{v:V}(hg:Gl X x)(hm:X.mg x=none)(hv:bootBuiltins x=some u)(r:RelV v u)(hn:x ≠ "__name__" := by decide)(hd:(x == ("__debug__" : Str))=false:=by decide):PE X (.Name x pos) (tC v):=
 λ_ _ _ H _ I h=>ng I hg hm hv ⟨v,H,I,r,h⟩ hn hd
variable {a b:aA}{ta tb:TE}{pos:Pos}
variable {tA tB':TT}{rest:List aA}
abbrev GQ (t u:TT):TT:=λσ H Q=>t σ H λc H1=>if c=true then u σ H1 Q else Q false H1
abbrev J8 (t u:TT):TT:=λσ H Q=>t σ H λc H1=>if c=true then Q true H1 else u σ H1 Q
abbrev JU (t:TT):TT:=λσ H Q=>t σ H λc H1=>Q (!c) H1
def CL(ha:PT X a tA):PW X (.BoolOp .And [a] pos) tA:=by
 intro wh pins s σ H Q I h;refine isTrue_and (gY (ha pins s σ H Q I h) λc d e=>?_)
 cases c with
 | true=>exact isTrue_and_nil e
 | false=>exact e
def EW(ha:PT X a tA):PW X (.BoolOp .Or [a] pos) tA:=by
 intro wh pins s σ H Q I h;refine isTrue_or (gY (ha pins s σ H Q I h) λc d e=>?_)
 cases c with
 | false=>exact isTrue_or_nil e
 | true=>exact e
def FT(ha:PT X a tA)(hb:PW X (.BoolOp .And (b::rest) pos) tB'):PW X (.BoolOp .And (a::b::rest) pos) (GQ tA tB'):=by
 intro wh pins s σ H Q I h;refine isTrue_and (gY (ha pins s σ H _ I h) λc f ⟨H1,d,q1⟩=>?_)
 cases c with
 | true=>exact hb wh pins f σ H1 Q d q1
 | false=>exact⟨H1,d,q1⟩
def GL(ha:PT X a tA)(hb:PW X (.BoolOp .Or (b::rest) pos) tB'):PW X (.BoolOp .Or (a::b::rest) pos) (J8 tA tB'):=by
 intro wh pins s σ H Q I h;refine isTrue_or (gY (ha pins s σ H _ I h) λc f ⟨H1,d,q1⟩=>?_)
 cases c with
 | true=>exact⟨H1,d,q1⟩
 | false=>exact hb wh pins f σ H1 Q d q1
def EJ(ha:PT X a tA):PT X (.UnaryOp .Not a pos) (JU tA):=by
 k_ne;exact isTrue_not<|ha pins s σ H (λc H1=>Q (!c) H1) I h
abbrev HY (ta tb:TE):TE:=λσ H Q=>ta σ H λx H1=>∃c,x=.bl c/\if c=true then tb σ H1 Q else Q (.bl false) H1
abbrev Hi (ta:TE):TE:=λσ H Q=>ta σ H λx H1=>∃c,x=.bl c/\Q (.bl<|!c) H1
def Gh{op}{t:TE}(h:PE X a t):PE X (.BoolOp op [a] pos) t:=λpins s σ H Q I hw=>BoolOp_one<|h pins s σ H Q I hw
def EL(ha:PE X a ta)(hb:PE X (.BoolOp .And (b::rest) pos) tb):PE X (.BoolOp .And (a::b::rest) pos) (HY ta tb):=by
 k_ne;refine BoolOp_and<|gY (ha pins s σ H _ I h) λv f ⟨x,H1,d,r1,q1⟩=>?_;obtain⟨c,rfl,q1⟩:=q1
 cases r1
 refine cF ?_
 cases c with
 | true=>exact hb pins f σ H1 Q d q1
 | false=>exact⟨.bl false,H1,d,rfl,q1⟩
def Fi(ha:PE X a ta):PE X (.UnaryOp .Not a pos) (Hi ta):=by
 k_ne;refine UnaryOp_<|gY (ha pins s σ H _ I h) λv f ⟨x,H1,d,r1,q1⟩=>?_;obtain⟨c,rfl,q1⟩:=q1
 cases r1
 exact not_of<|cF ⟨.bl<|!c,H1,d,rfl,q1⟩
end
abbrev iu (K:aq)(H:Hp)(a:aj)(xs:List V):Prop:=
 Rd H a (.lst xs) \/
  ∃(o:Obj) (c:Array aa) (n:Nat),K.lookup a=some o/\o.cls=.type "list" /\ o.dict=none/\o.data=.seq c n/\c.size<=sizeLine/\Vals xs c.toList
abbrev iR (K:aq)(H:Hp)(a:aj)(xs:List V):Prop:=
 Rd H a (.tup xs) \/
  ∃(o:Obj) (c:Array aa) (n:Nat),K.lookup a=some o/\o.cls=.type "tuple" /\ o.dict=none/\o.data=.seq c n/\c.size<=sizeLine/\Vals xs c.toList
abbrev JF:aa->Option V
 | .none=>some .f6
 | .bool b=>some (.bl b)
 | .int i _=>some (.int i)
 | .str x _=>some (.str x)
 | .bytes b _=>some (.byt b)
 | .float b _=>some (.flt b)
 | .ref a=>some (.ref a)
 | .type n=>some (.ty n)
 | _=>none
def RelV.abs{x:V}(r:RelV x u):JF u=some x:=by
 cases x with
 | f6=>cases r;rfl
 | bl _=>cases r;rfl
 | int _=>obtain⟨t,rfl⟩:=r;rfl
 | str _=>obtain⟨t,rfl⟩:=r;rfl
 | byt _=>obtain⟨t,rfl⟩:=r;rfl
 | flt _=>obtain⟨t,rfl⟩:=r;rfl
 | ref _=>cases r;rfl
 | ty _=>cases r;rfl
def RelV.inj{x:V}(r:RelV x u)(q:RelV y u):x=y:=aN<|r.abs.symm.trans q.abs
theorem Vals.inj:∀{xs ys:List V}{us:ar},Vals xs us->Vals ys us->xs=ys
 | _,_,_,.nil,.nil=>rfl
 | _,_,_,.cons r t,.cons d c=>by rw[r.inj d,Vals.inj t c]
section
variable {X:Cx}{pins:bo}{σ:St}{H:Hp}{s:az}{a:aj}{xs ys:List V}
def iu.of{K:aq}(h:H a=some (.lst xs)):iu K H a xs:=.inl<|.inl h
def iR.of{K:aq}(h:H a=some (.tup xs)):iR K H a xs:=.inl<|.inl h
def Inv.list(I:Inv X pins σ H s)(h:iu X.K H a xs):∃its:ar,Vals xs its/\PlainL s.heap a its.toArray/\xs.length<=sizeLine:=by
 rcases h with h|⟨o,its,n,c,hc,hd,hs,d,r⟩
 ·obtain⟨z,its,n,r,e⟩:=h.ok I.hok;exact⟨its,r,⟨_,n,e,rfl,rfl,rfl⟩,z⟩
 ·refine⟨its.toList,r,⟨o,n,I.rA a o c,hc,hd,by simpa using hs⟩,?_⟩;have e:=r.length;dsimp[cj]at e
  lia
def Inv.tuple(I:Inv X pins σ H s)(h:iR X.K H a xs):∃its:ar,Vals xs its/\IsTup s.heap a its.toArray/\xs.length<=sizeLine:=by
 rcases h with h|⟨o,its,n,c,hc,_,hs,d,r⟩
 ·obtain⟨z,its,r,p⟩:=h.ok I.hok;exact⟨its,r,p.tup,z⟩
 ·refine⟨its.toList,r,⟨o,I.rA a o c,hc,n,by simpa using hs⟩,?_⟩;have e:=r.length;dsimp[cj]at e
  lia
def Inv.pK(I:Inv X pins σ H s)(h:iu X.K H a xs)(h':iu X.K H a ys):xs=ys:=by
 obtain⟨f,r,⟨o,n,e,_,_,d⟩,_⟩:=I.list h;obtain⟨c,m,⟨o',p,g,_,_,j⟩,_⟩:=I.list h';rw[e]at g;cases g;rw[d]at j
 injection j with k _
 have:f=c:=by simpa using cG Array.toList k
 subst this;exact r.inj m
def Inv.pX(I:Inv X pins σ H s)(h:iR X.K H a xs)(h':iR X.K H a ys):xs=ys:=by
 obtain⟨f,r,⟨o,e,_,n,d⟩,_⟩:=I.tuple h;obtain⟨c,m,⟨o',g,_,p,j⟩,_⟩:=I.tuple h';rw[e]at g;cases g;rw[d]at j
 injection j with k _
 have:f=c:=by simpa using cG Array.toList k
 subst this;exact r.inj m
end
meta abbrev Cx.pQ (X:Cx)(E:aa->az->Prop):Cx:={ X with xe:=E }
meta abbrev Cx.Ht (X:Cx):Cx:=X.pQ λ_ _=>False
def Cx.Ok.pQ{X:Cx}(ok:X.Ok)(E:aa->az->Prop):(X.pQ E).Ok:=
 ⟨ok.mod,ok.kind,ok.glob,ok.blt,ok.above,ok.inj,ok.has,ok.cab,ok.hd,ok.frames,ok.stk,ok.exf,ok.bs,ok.bsz,ok.noex,ok.exfs,ok.oV,ok.frf⟩
def Cx.Ok.kK{X:Cx}{E:aa->az->Prop}(ok:(X.pQ E).Ok):X.Ok:=
 ⟨ok.mod,ok.kind,ok.glob,ok.blt,ok.above,ok.inj,ok.has,ok.cab,ok.hd,ok.frames,ok.stk,ok.exf,ok.bs,ok.bsz,ok.noex,ok.exfs,ok.oV,ok.frf⟩
section
variable {X:Cx}{pins:bo}{σ:St}{H:Hp}{s:az}{E:aa->az->Prop}
def Inv.pQ(I:Inv X pins σ H s)(E:aa->az->Prop):Inv (X.pQ E) pins σ H s:=⟨I.ok.pQ E,I.os,I.bare,I.base,I.loc,I.cell,I.free,I.freeC,I.pin,I.hok,I.len⟩
def Inv.kK(I:Inv (X.pQ E) pins σ H s):Inv X pins σ H s:=⟨I.ok.kK,I.os,I.bare,I.base,I.loc,I.cell,I.free,I.freeC,I.pin,I.hok,I.len⟩
def SP.kK{f:Flow}(h:SP (X.pQ E) pins D f s'):SP X pins D f s':=by
 cases f with
 | next=>obtain⟨c,H',I,q⟩:=h;exact⟨c,H',I.kK,q⟩
 | brk=>obtain⟨c,H',I,q⟩:=h;exact⟨c,H',I.kK,q⟩
 | cont=>obtain⟨c,H',I,q⟩:=h;exact⟨c,H',I.kK,q⟩
 | ret u=>obtain⟨v,c,H',I,r,q⟩:=h;exact⟨v,c,H',I.kK,r,q⟩
def rB.Ht{st:List aC}{t:TS}(h:rB X.Ht st t):rB X st t:=λpins s σ H D I hw=>
 d9 (h pins s σ H D (I.pQ _) hw) (λ_ _ q=>q.kK) λ_ _ z=>False.elim z
end
section
variable {X:Cx}{st:aC}{rest:List aC}{t u:TS}{e:aA}{te:TE}{pos:Pos}
abbrev HQ:TS:=λD σ H=>D.nx σ H
abbrev GS (t u:TS):TS:=λD σ H=>t { D with nx:=u D } σ H
def Dr:rB X [] HQ:=λ_ _ σ H _ I h=>wpAny_execs_nil ⟨σ,H,I,h⟩
def yN(h1:PS X st t)(h2:rB X rest u):rB X (st::rest) (GS t u):=by
 intro pins s σ H D I h;refine wpAny_execs_cons (gY (h1 pins s σ H { D with nx:=u D } I h) λf g q=>?_)
 cases f with
 | next=>
  obtain⟨c,H',d,q⟩:=q;exact h2 pins g c H' D d q
 | ret v=>exact q
 | brk=>exact q
 | cont=>exact q
def CV(h1:PS X st t):rB X [st] t:=by
 intro pins s σ H D I h;refine wpAny_execs_cons (gY (h1 pins s σ H D I h) λf c q=>?_)
 cases f with
 | next=>exact wpAny_execs_nil q
 | ret v=>exact q
 | brk=>exact q
 | cont=>exact q
def Inv.quiet{H:Hp}(I:Inv X pins σ H s):interactive X.env=false:=by simp[interactive,I.ok.kind]
abbrev HE (te:TE):TS:=λD σ H=>te σ H λ_ H1=>D.nx σ H1
def Ck(he:PE X e te)(hs:swapsWith e none pos.line X.env=pure false:=by rfl):PS X (.Expr e pos) (HE te):=by
 intro pins s σ H D I h;exact wpAny_Expr_any (gY (he pins s σ H _ I h) λv d ⟨x,H1,c,r1,q1⟩=>⟨σ,H1,c,q1⟩) I.quiet hs
abbrev IY (te:TE):TS:=λD σ H=>te σ H D.rt
def Fq(he:PE X e te):PS X (.Return (some e) pos) (IY te):=by
 intro pins s σ H D I h;exact wpAny_Return_some<|gY (he pins s σ H _ I h) λv d ⟨x,H1,c,r1,q1⟩=>⟨x,σ,H1,c,r1,q1⟩
abbrev Jh (c:TT)(t u:TS):TS:=λD σ H=>c σ H λb H1=>if b=true then t D σ H1 else u D σ H1
def G4{a:List aC}{tc:TT}(hc:PT X c tc)(ha:rB X a t)(hb:rB X b u):PS X (.If c a b pos) (Jh tc t u):=by
 intro pins s σ H D I h;refine wpAny_If (gY (hc pins s σ H _ I h) λd g ⟨H1,f,q1⟩=>?_)
 cases d with
 | true=>exact ha pins g σ H1 D f q1
 | false=>exact hb pins g σ H1 D f q1
end
meta abbrev TG:=V->St->Hp->(St->Hp->Prop)->Prop
meta abbrev D3:=List V->St->Hp->(St->Hp->Prop)->Prop
abbrev PG (X:Cx)(target:aA)(t:TG):Prop:=
 ∀(pins:bo) (s:az) (σ:St) (H:Hp) (v:V) (u:aa) (Q:St->Hp->Prop),Inv X pins σ H s->RelV v u->t v σ H Q ->
  wpAny (model X.prog X.w) X.A (assign target X.env u) (λ_ s'=>∃c H',Inv X pins c H' s'/\Q c H') X.xe s
abbrev HH (X:Cx)(ts:List aA)(t:D3):Prop:=
 ∀(pins:bo) (s:az) (σ:St) (H:Hp) (d:List V) (us:ar) (Q:St->Hp->Prop),Inv X pins σ H s->Vals d us->t d σ H Q ->
  wpAny (model X.prog X.w) X.A (assignInOrder ((assignEach ts X.env).map (·.2)) us) (λ_ s'=>∃c H',Inv X pins c H' s'/\Q c H') X.xe s
meta abbrev Dz:=V->V->V->Hp->(Hp->Prop)->Prop
abbrev Fb (X:Cx)(t:Dz):Prop:=
 ∀(pins:bo) (s:az) (σ:St) (H:Hp) (o i v:V) (d c u:aa) (Q:Hp->Prop),Inv X pins σ H s->RelV o d->RelV i c->RelV v u->t o i v H Q ->
  wpAny (model X.prog X.w) X.A (setItem d c u) (λ_ s'=>∃H',Inv X pins σ H' s'/\Q H') X.xe s
section
variable {X:Cx}{pos:Pos}
abbrev BA (i:Nat):TG:=λv σ H Q=>Q (σ.set i<|some v) H
def uZ{i:Nat}{x:Str}(hN:X.N.Nodup)(hi:X.N[i]?=some x)(hx:Loc X.env.scope x)(hf:X.fn x=true\/X.env.scope.names.lookup x=some .local:=by first|exact .inl rfl|exact .inr rfl|assumption):PG X (.Name x pos) (BA i):=by
 intro pins s σ H v u Q I r h;exact wpAny_assign_Name<|rY I hN hi hx r (λs' c=>⟨_,H,c,h⟩) hf
abbrev J2:D3:=λc σ H Q=>c=[]/\Q σ H
abbrev HK (t:TG)(u:D3):D3:=λd σ H Q=>∃v r,d=v::r/\t v σ H λc H'=>u r c H' Q
def Ct:HH X [] J2:=by
 intro pins s σ H c us Q I r h;obtain⟨e,h⟩:=h;subst e
 cases r
 exact assignInOrder_nil ⟨σ,H,I,h⟩
def BN{t:TG}{u:D3}(h1:PG X e t)(h2:HH X es u)
  (hs:(assignEach (e::es) X.env).map (·.2)=assign e X.env::(assignEach es X.env).map (·.2):=by rfl):HH X (e::es) (HK t u):=by
 intro pins s σ H k us Q I r h;obtain⟨v,j,e1,h⟩:=h;subst e1
 cases r with
 | cons r f=>
  rw[hs];refine assignInOrder_cons<|gY (h1 pins s σ H _ _ _ I r h) λ_ d ⟨c,H1,g,q1⟩=>?_;exact h2 pins d c H1 _ _ Q g f q1
abbrev JO (K:aq)(n:Nat)(t:D3):TG:=λv σ H Q=>∃a xs,v=.ref a/\iR K H a xs/\xs.length=n/\t xs σ H Q
def Gd{k:Nat}{t:D3}{n:Nat}(hc:X.calm=true)(h:HH X es t)
  (hn:(assignEach es X.env).length=n:=by rfl) (hst:(assignEach es X.env).findIdx? (·.1)=none:=by rfl):PG X (.Tuple es k pos) (JO X.K n t):=by
 intro pins s σ H v u Q I r hw;obtain⟨a,xs,e1,f,d,hw⟩:=hw;subst e1
 cases r
 obtain⟨m,c,g,p⟩:=I.tuple f;refine assign_Tuple_tuple (I.ok.hd hc) g (by simp[hn,<- d,c.length]) hst λh' hx=>?_;have j:Inv X pins σ H { s with heap:=h' }:=I.kept (t':=s.toks) λb o e=>hx b o (bC<|aQ e) e;exact h pins _ σ H xs _ Q j (by simpa using c) hw
abbrev J0 (to ti:TE)(t:Dz):TG:=λv σ H Q=>to σ H λo H1=>ti σ H1 λi H2=>t o i v H2 λc=>Q σ c
def EC{to ti:TE}{t:Dz}(ho:PE X o to)(hi:PE X i ti)(hs:Fb X t)
  (ha:∀v,assign (.Subscript o i pos) X.env v=(do
   let ov <- holding [v] (eval o X.env)
   let iv <- holding [v,ov] (eval i X.env)
   standAt pos
   holding [v,ov,iv] (setItem ov iv v)
   release [v,ov,iv] []):=by intro _;rfl):PG X (.Subscript o i pos) (J0 to ti t):=by
 intro pins s σ H v u Q I r h;rw[ha];refine aJ<|dg<|gY (ho pins s σ H _ I h) λov c ⟨x,H1,j,r1,q1⟩=>?_;refine aJ<|dg<|gY (hi pins c σ H1 _ j q1) λiv k ⟨y,H2,f,r2,q2⟩=>?_;refine aJ<|wpAny_standAt<|aJ<|dg<|gY (hs pins k σ H2 x y v ov iv u _ f r1 r2 r q2) λ_ m ⟨d,g,q3⟩=>?_;exact wpAny_release ⟨σ,d,g,q3⟩
abbrev Cf (te:TE)(g:TG):TS:=λD σ H=>te σ H λx H1=>g x σ H1 D.nx
def Gm{tg:aA}{te:TE}{g:TG}(he:PE X e te)(hg:PG X tg g)(hs:swapsWithSole [tg] e pos.line X.env=pure false:=by rfl)(hw:swappedStores [tg] e X.env=pure none:=by rfl)
  (h1:(assignEach [tg] X.env).map (·.2)=[assign tg X.env]:=by rfl):PS X (.Assign [tg] e pos) (Cf te g):=by
 intro pins s σ H D I h;refine wpAny_Assign_stores (gY (he pins s σ H _ I h) λv d ⟨x,H1,c,r1,q1⟩=>?_) hs hw;rw[h1];exact gY (hg pins d σ H1 x v _ c r1 q1) λ_ f q=>q
def F6{i:Nat}{x:Str}{te:TE}(hN:X.N.Nodup)(hi:X.N[i]?=some x)(hx:Loc X.env.scope x)(he:PE X e te)(hs:swapsWith e (some<|.Name x pos') pos.line X.env=pure false:=by rfl)(hf:X.fn x=true\/X.env.scope.names.lookup x=some .local:=by first|exact .inl rfl|exact .inr rfl|assumption) :
  PS X (.Assign [.Name x pos'] e pos) (Cf te<|BA i):=by
 intro pins s σ H D I h;refine wpAny_Assign_Name (gY (he pins s σ H _ I h) λv g ⟨y,H1,c,r1,q1⟩=>?_) hs;exact rY c hN hi hx r1 (λf d=>⟨_,H1,d,q1⟩) hf
end
structure It where
 go:Nat->Hp->Prop
 yld:Nat->Hp->V->Hp->Prop
 stop:Nat->Hp->Prop
abbrev m_ (X:Cx)(pins:bo)(H:Hp)(b:aj):Prop:=
 H b=none/\b≠X.env.locals/\b∉X.fs/\(b∈X.ex\/X.s₀.heap.objs.size<=b)/\(∀x c,X.env.cells.lookup x=some c->c≠b)/\∀p∈X.pn++pins,p.1≠b
def Inv.yt{H H':Hp}{s:az}(I:Inv X pins σ H s)(hb:s.heap.objs.size<=b)(hn:H' b=none):m_ X pins H' b:=by
 refine⟨hn,ne_of_gt<|br I.lt hb,I.Js hb,.inr<|bF I.sz hb,λx c e z=>?_,λp d z=>?_⟩
 ·obtain⟨v,q⟩:=I.cell x c e;exact absurd (br q.lt<|by rw[z];exact hb) (dc _)
 ·exact absurd (br (aQ (I.pin p d).1)<|by rw[z];exact hb)<|dc _
structure Turn (P:ah)(w:af)(K:aq)(tg:aA)(J:It)(fp:ba)(it:aj)(tn:Nat->ak->Prop):Prop where
 mem:it∈fp
 obj:∀i h,tn i h->∀b∈fp,∃o,h.get? b=some o/\∀v,o.data≠.cell v
 keep:∀i h h',tn i h->(∀b∈fp,∀o,h.get? b=some o->h'.get? b=some o)->tn i h'
 item:∀(X:Cx),X.prog=P->X.w=w->X.K=K->X.calm=true->∀(i:Nat) (pins:bo) (s:az) (σ:St) (H:Hp) (E:aa->az->Prop),Inv X pins σ H s->(∀b∈fp,m_ X pins H b)->tn i s.heap->J.go i H ->
  wpAny (model P w) X.A (pyNext<|.ref it) (λr s1=>∃u,r=some u /\
   wpAny (model P w) X.A (letOwnedTupleGo tg (.ref it) u) (λ_ s2=>∃x H',Inv X pins σ H' s2/\RelV x u/\J.yld i H x H'/\tn (i+1) s2.heap/\∀b∈fp,H' b=none) E s1) E s
 done:∀(X:Cx),X.prog=P->X.w=w->X.K=K->X.calm=true->∀(i:Nat) (pins:bo) (s:az) (σ:St) (H:Hp) (E:aa->az->Prop),Inv X pins σ H s->(∀b∈fp,m_ X pins H b)->tn i s.heap->J.stop i H ->
  wpAny (model P w) X.A (pyNext<|.ref it) (λr s1=>r=none/\Inv X pins σ H s1) E s
 self:∀(A:au) (i:Nat) (s:az) (Q:aa->az->Prop) (E:aa->az->Prop),tn i s.heap->Q (.ref it) s->wpAny (model P w) A (pyIter<|.ref it) Q E s
meta abbrev TI:=St->Hp->(It->Hp->Prop)->Prop
abbrev KL (X:Cx)(pins:bo)(σ:St)(tg:aA)(R:It->Hp->Prop)(itv:aa)(s2:az):Prop:=
 ∃(it:aj) (c:ba) (d:Nat->ak->Prop) (J:It) (H':Hp),itv=.ref it/\Inv X pins σ H' s2/\Turn X.prog X.w X.K tg J c it d/\d 0 s2.heap/\(∀b∈c,m_ X pins H' b)/\R J H'
abbrev PI (X:Cx)(tg iter:aA)(wi:TI):Prop:=
 ∀(pins:bo) (s:az) (σ:St) (H:Hp) (R:It->Hp->Prop),Inv X pins σ H s->wi σ H R ->
  wpAny (model X.prog X.w) X.A (eval iter X.env) (λv c=>wpAny (model X.prog X.w) X.A (pyIter v) (KL X pins σ tg R) X.xe c) X.xe s
def vv{A:au}{E:aa->az->Prop}{s:az}{o:Obj}{n:String}{Q:Unit->az->Prop}(ho:s.heap.get? it=some o)(hc:o.cls=.type n)(hd:o.data=.fields vs)
  (hn:["enumerate", "zip", "dict_itemiterator", "dict_reverseitemiterator", "odict_iterator", "itertools.zip_longest", "itertools.pairwise"].contains n=false) (hQ:Q Unit.unit s):wpAny M A (letOwnedTupleGo tg (.ref it) u) Q E s:=by
 unfold letOwnedTupleGo
 cases tg<;>first
  | exact aT hQ
  | (cases u<;>first
    | exact aT hQ
    | (refine aJ (wpAny_load ho ?_)
       rw[hc,hd];show wpAny M A (if (["enumerate", "zip", "dict_itemiterator", "dict_reverseitemiterator", "odict_iterator", "itertools.zip_longest", "itertools.pairwise"].contains n && vs[0]? == some (rawInt _))=true then _ else _) Q E s;rw[bu<|by intro h;rw[hn,cB]at h;cases h];exact aT hQ))
abbrev IK (K:aq)(a:aj):It:=
 ⟨λi H=>∃xs x,iu K H a xs/\xs[i]?=some x,λi H x H'=>H'=H/\∀xs,iu K H a xs->xs[i]?=some x,λi H=>∃xs,iu K H a xs/\xs.length<=i⟩
abbrev Jm (K:aq)(a:aj):It:=
 ⟨λi H=>∃xs x,iR K H a xs/\xs[i]?=some x,λi H x H'=>H'=H/\∀xs,iR K H a xs->xs[i]?=some x,λi H=>∃xs,iR K H a xs/\xs.length<=i⟩
abbrev Ig (lo:Int)(n:Nat):It:=⟨λi _=>i<n,λi H x H'=>H'=H/\x=.int (lo+i),λi _=>n<=i⟩
def yb{P:ah}{w:af}{K:aq}(a it:aj):Turn P w K tg (IK K a) [it] it (λi h=>h.IsListIter it a i) where
 mem:=by simp
 obj:=λi h st b f=>by
  have e:b=it:=by simpa using f
  subst e;obtain⟨o,e,c,d⟩:=st;exact⟨o,e,λv z=>by rw[d]at z;cases z⟩
 keep:=λi h h' st k=>st.at λo e=>k it (by simp) o e
 item:=by
  w_up;subst hP hw hK;obtain⟨xs,x,j,hx⟩:=hg;obtain⟨q,m,p,L⟩:=I.list j;obtain⟨u,G,F⟩:=m.get hx;gp_on;refine wpAny_pyNext_list_item st p.isList (x:=u) (by simpa using G) λh' g J=>?_;have D:Inv X pins σ H { s with heap:=h' }:=I.turned (t':=s.toks) (λb o f e=>(J.2 b f).trans e) f0 f1 f3 f4 f5;obtain⟨o,e,c,d⟩:=id g;exact⟨u,rfl,vv (s:={ s with heap:=h' }) e c d ⋯ ⟨x,H,D,F,⟨rfl,λys B=>by rw[I.pK B j];exact hx⟩,g,λb f=>(hf b f).1⟩⟩
 done:=by
  w_up;subst hP hw hK;obtain⟨xs,j,hx⟩:=hg;obtain⟨q,m,p,L⟩:=I.list j;gp_on;have N:=m.length;exact wpAny_pyNext_list_end (I.ok.hd hc) st p.isList (by simp;omega) λh' C=>⟨rfl,I.turned (t':=s.toks) (λb o f e=>C b o f e) f0 f1 f3 f4 f5⟩
 self:=λ_ _ _ _ _ st h=>wpAny_pyIter_listiter st h
def uE{P:ah}{w:af}{K:aq}(a it:aj):Turn P w K tg (Jm K a) [it] it (λi h=>h.IsTupleIter it a i) where
 mem:=by simp
 obj:=λi h st b f=>by
  have e:b=it:=by simpa using f
  subst e;obtain⟨o,e,c,d⟩:=st;exact⟨o,e,λv z=>by rw[d]at z;cases z⟩
 keep:=λi h h' st k=>st.at λo e=>k it (by simp) o e
 item:=by
  w_up;subst hP hw hK;obtain⟨xs,x,m,hx⟩:=hg;obtain⟨g,q,p,L⟩:=I.tuple m;obtain⟨u,G,F⟩:=q.get hx;gp_on;refine wpAny_pyNext_tuple_item st (show s.heap.IsTuple a g.toArray from p) (x:=u) (by simpa using G) λh' j J=>?_;have D:Inv X pins σ H { s with heap:=h' }:=I.turned (t':=s.toks) (λb o f e=>(J.2 b f).trans e) f0 f1 f3 f4 f5;obtain⟨o,e,c,d⟩:=id j;exact⟨u,rfl,vv (s:={ s with heap:=h' }) e c d ⋯ ⟨x,H,D,F,⟨rfl,λys B=>by rw[I.pX B m];exact hx⟩,j,λb f=>(hf b f).1⟩⟩
 done:=by
  w_up;subst hP hw hK;obtain⟨xs,m,hx⟩:=hg;obtain⟨g,q,p,L⟩:=I.tuple m;gp_on;have N:=q.length;exact wpAny_pyNext_tuple_end (I.ok.hd hc) st (show s.heap.IsTuple a g.toArray from p) (by simp;omega) λh' C=>⟨rfl,I.turned (t':=s.toks) (λb o f e=>C b o f e) f0 f1 f3 f4 f5⟩
 self:=λ_ _ _ _ _ st h=>wpAny_pyIter_tupleiter st h
def uq{P:ah}{w:af}{K:aq}(it:aj)(lo:Int)(n:Nat):Turn P w K tg (Ig lo n) [it] it (λi h=>IsRangeIter h it (lo+(i:Nat) * 1) ((n:Int)-(i:Nat)) 1) where
 mem:=by simp
 obj:=λi h st b c=>by
  have e:b=it:=by simpa using c
  subst e;exact⟨_,st,λv z=>by
   have m:Data.fields _=Data.cell v:=z
   cases m⟩
 keep:=λi h h' st k=>k it (by simp) _ st
 item:=by
  w_up;subst hP hw hK;gp_on;have W:=Walks.range (prog:=X.prog) (w:=X.w) (I.ok.hd hc) it lo 1 n;refine W.item i s _ _ hg st λv h' f hv d kk=>?_;obtain⟨t,rfl⟩:=hv;have j:Inv X pins σ H { s with heap:=h',toks:=f }:=I.turned (λb o c e=>kk b o (by simpa using c) e) f0 f1 f3 f4 f5;refine⟨_,rfl,vv (s:={ s with heap:=h',toks:=f }) (n := "range_iterator") d rfl rfl ⋯ ⟨.int<|lo+i,H,j,⟨t,?_⟩,⟨rfl,rfl⟩,d,λb c=>(hf b c).1⟩⟩;rw[Int.mul_one]
 done:=by
  w_up;subst hP hw hK;gp_on;exact wpAny_pyNext_range_end (I.ok.hd hc) st (by have:n<=i:=hg;lia) λh' g=>⟨rfl,I.turned (t':=s.toks) (λb o c e=>g b o c e) f0 f1 f3 f4 f5⟩
 self:=λ_ _ _ _ _ st h=>wpAny_pyIter_rangeiter st h
section
variable {X:Cx}{tg:aA}
abbrev Hf (K:aq)(tl:TE):TI:=λσ H R=>tl σ H λx H1=>∃a,x=.ref a/\(∃xs,iu K H1 a xs)/\R (IK K a) H1
abbrev Jg (K:aq)(tl:TE):TI:=λσ H R=>tl σ H λx H1=>∃a,x=.ref a/\(∃xs,iR K H1 a xs)/\R (Jm K a) H1
def uS{tl:TE}(hl:PE X l tl):PI X tg l (Hf X.K tl):=by
 intro pins s σ H R I h;refine gY (hl pins s σ H _ I h) λv c ⟨x,H1,d,r1,q1⟩=>?_;obtain⟨a,e,⟨xs,g⟩,q⟩:=q1;subst e
 cases r1
 obtain⟨j,k,p,m⟩:=d.list g;refine wpAny_pyIter_list p.isList ?_;refine⟨c.heap.objs.size,[c.heap.objs.size],_,_,H1,rfl,d.kept (t':=c.toks) λb o e=>aO _ e,yb a _,⟨_,bx _ rfl,rfl,rfl⟩,λb f=>?_,q⟩;have e:b=c.heap.objs.size:=by simpa using f
 subst e;exact d.yt (aL _)<|d.hok.fresh<|aL _
def Bg{tl:TE}(hl:PE X l tl):PI X tg l (Jg X.K tl):=by
 intro pins s σ H R I h;refine gY (hl pins s σ H _ I h) λv c ⟨x,H1,d,r1,q1⟩=>?_;obtain⟨a,e,⟨xs,j⟩,q⟩:=q1;subst e
 cases r1
 obtain⟨f,k,p,m⟩:=d.tuple j;refine wpAny_pyIter_tuple (show c.heap.IsTuple a f.toArray from p) ?_;refine⟨c.heap.objs.size,[c.heap.objs.size],_,_,H1,rfl,d.kept (t':=c.toks) λb o e=>aO _ e,uE a _,⟨_,bx _ rfl,rfl,rfl⟩,λb g=>?_,q⟩;have e:b=c.heap.objs.size:=by simpa using g
 subst e;exact d.yt (aL _)<|d.hok.fresh<|aL _
def r9{H:Hp}{s:az}{R:It->Hp->Prop}{E:aa->az->Prop}{lo hi:Int}{v:Tok}{tk:Nat}(I:Inv X pins σ H s)(h1:-(2 ^ 62)<=lo)(h2:lo<2 ^ 62)(h3:-(2 ^ 62)<=hi)(h4:hi<2 ^ 62)
  (q:R (Ig lo (hi-lo).toNat) H):wpAny (model X.prog X.w) X.A (pyIter<|.ref s.heap.objs.size) (KL X pins σ tg R) E { s with heap:=s.heap.push { cls:=.type "range",data:=.fields #[.int lo t,.int hi u,.int 1 v]},toks:=tk }:=by
 refine wpAny_pyIter_range (IsRange.new ..) (small_one h1 h2 h3 h4) ?_;have c:Inv X pins σ H { s with heap:=s.heap.push { cls:=.type "range",data:=.fields #[.int lo t,.int hi u,.int 1 v]},toks:=tk }:=I.kept λb o e=>aO _ e;refine⟨(s.heap.push { cls:=.type "range",data:=.fields #[.int lo t,.int hi u,.int 1 v]}).objs.size,[(s.heap.push { cls:=.type "range",data:=.fields #[.int lo t,.int hi u,.int 1 v]}).objs.size],_,_,H,rfl,
  c.kept (t':=tk) λb o e=>aO _ e,uq _ lo (hi-lo).toNat,?_,λb d=>?_,q⟩
 ·have e1:lo+((0:Nat):Int) * 1=lo:=by simp
  have e2:(((hi-lo).toNat:Nat):Int)-((0:Nat):Int)=Builtin.Range.rangeSize lo hi 1:=by rw[rangeSize_one];split<;>lia
  skip
  rw[e1,e2];exact bx _ rfl
 ·have e:b=(s.heap.push { cls:=.type "range",data:=.fields #[.int lo t,.int hi u,.int 1 v]}).objs.size:=by simpa using d
  subst e;exact c.yt (aL _)<|c.hok.fresh<|aL _
abbrev gX (ta:TA):TI:=λσ H R=>ta σ H λc H1=>∃j:Int,c=[.int j]/\-(2 ^ 62)<=j/\j<2 ^ 62/\R (Ig 0 j.toNat) H1
abbrev nV (ta:TA):TI:=λσ H R=>ta σ H λc H1=>∃i j:Int,c=[.int i,.int j]/\(-(2 ^ 62)<=i/\i<2 ^ 62/\-(2 ^ 62)<=j/\j<2 ^ 62)/\R (Ig i (j-i).toNat) H1
def yr{a:aA}{ta:TA}{p:Pos}(hg:Gl X "range")(hm:X.mg "range" = none)(ha:PA X [a] ta)(hs:starEach [a] X.env=[(false,eval a X.env)]:=by rfl):PI X tg (.Call (.Name "range" p) [a] [] pos) (gX ta):=by
 intro pins s σ H R I h;refine Call_<|ng I hg hm boot_range<|cy (gY (ha pos pins s σ H _ I h) λus f ⟨g,H1,c,r1,q1⟩=>?_) hs rfl;obtain⟨j,e,q1,q2,q⟩:=q1;subst e
 cases r1 with
 | cons r d=>
  cases d
  obtain⟨t,rfl⟩:=r;exact call_range_1<|r9 c () () q1 q2<|by simpa using q
def yc{a b:aA}{ta:TA}{p:Pos}(hg:Gl X "range")(hm:X.mg "range" = none)(ha:PA X [a,b] ta)(hs:starEach [a,b] X.env=[(false,eval a X.env),(false,eval b X.env)]:=by rfl)(hs2:starEach [b] X.env=[(false,eval b X.env)]:=by rfl) :
  PI X tg (.Call (.Name "range" p) [a,b] [] pos) (nV ta):=by
 intro pins s σ H R I h;refine Call_ (ng I hg hm boot_range<|cy (gY (ha pos pins s σ H _ I h) λus k ⟨m,H1,f,r1,q1⟩=>?_) (by rw[hs,hs2])<|by rw[hs2];rfl);obtain⟨i,j,e,⟨q1,q2,q3,q4⟩,q⟩:=q1;subst e
 cases r1 with
 | cons r c=>
  cases c with
  | cons d c=>
   cases c
   obtain⟨t,rfl⟩:=r;obtain⟨g,rfl⟩:=d;exact call_range_2<|r9 f q1 q2 q3 q4 q
abbrev JV (wi:TI)(g:TG)(tb:TS):TS:=λD σ H=>wi σ H λJ H1=>∃W:Nat->Nat->St->Hp->Prop,(∃m,W 0 m σ H1)/\∀i m σ H,W i m σ H ->
 (J.stop i H/\D.nx σ H)\/(J.go i H/\∃N:St->Hp->Prop,(∀c H',N c H'->∃f,f<m/\W (i+1) f c H')/\∀x H',J.yld i H x H'->g x σ H' λd H2=>tb { D with nx:=N,ct:=N,bk:=D.nx } d H2)
abbrev oJ (fp:ba)(h:ak):bo:=fp.filterMap λb=>(h.get? b).map λo=>(b,o)
def i7{fp:ba}{h:ak}{b:aj}(hb:b∈fp)(e:h.get? b=some o):(b,o)∈oJ fp h:=List.mem_filterMap.mpr ⟨b,hb,by rw[e];rfl⟩
def yv{fp:ba}{h:ak}{p:aj×Obj}(hp:p∈oJ fp h):p.1∈fp/\h.get? p.1=some p.2:=by
 obtain⟨b,c,e⟩:=List.mem_filterMap.mp hp
 cases q:h.get? b with
 | none=>rw[q]at e;cases e
 | some o=>
  rw[q]at e;have d:(b,o)=p:=aN e;subst d;exact⟨c,q⟩
def Inv.pinned{H:Hp}{s:az}{fp:ba}(I:Inv X pins σ H s)(hf:∀b∈fp,m_ X pins H b)(ho:∀b∈fp,∃o,s.heap.get? b=some o/\∀v,o.data≠.cell v):Inv X (pins++oJ fp s.heap) σ H s:=
 I.wJ λp g=>(bh.mp g).elim (λz=>I.pin p<|bw _ z) λz=>by
  obtain⟨c,e⟩:=yv z;obtain⟨f0,f1,f2,_⟩:=hf p.1 c;obtain⟨o,f,d⟩:=ho p.1 c;rw[e]at f;cases f;exact⟨e,f0,f1,f2,d⟩
def Inv.kU{H:Hp}(I:Inv X (pins++pl) σ H s):Inv X pins σ H s:=I.wJ λp c=>I.pin p<|bw _<|dU _ c
def F5{iter:aA}{wi:TI}{g:TG}{tb:TS}(hp:PassesOwn (model X.prog X.w) X.A X.env X.xe)(hc:X.calm=true)(hi:PI X tg iter wi)(hg:PG X tg g)(hb:rB X body tb)
  (hs:∀x,foldedSetIterable iter X.env x=pure x:=by intro _;rfl):PS X (.For tg iter body [] pos) (JV wi g tb):=by
 intro pins s σ H D I h;refine wpAny_For (gY (hi pins s σ H _ I h) λv s1 h1=>gY h1 λitv s2 h2=>?_) hs;obtain⟨it,K,tn,J,H2,e,I2,T,st2,f2,W,⟨m0,w0⟩,G⟩:=h2;subst e;have B:∀{H':Hp},(∀b∈K,H' b=none)->∀b∈K,m_ X pins H' b:=λhn b hb=>⟨hn b hb,(f2 b hb).2⟩;refine codeAny_forLoop_any (λn s'=>∃i k H',Inv X pins k H' s'/\tn i s'.heap/\(∀b∈K,H' b=none)/\W i n k H') ?_ m0 ⟨0,σ,H2,I2,st2,λb hb=>(f2 b hb).1,w0⟩;rintro n s3 ⟨i,q,Y,I3,U,P,w3⟩
 rcases G i n q Y w3 with⟨L,qn⟩|⟨go,N,hN,step⟩
 ·refine di hp<|gY (T.done X rfl rfl rfl hc i pins s3 q Y X.xe I3 (B P) U L) λr s4 ⟨hr,I4⟩=>?_;subst hr;exact wpAny_execs_nil ⟨q,Y,I4,qn⟩
 ·refine di hp<|gY (T.item X rfl rfl rfl hc i pins s3 q Y X.xe I3 (B P) U go) λr s4 ⟨u,hr,h4⟩=>?_;subst hr;refine di hp<|gY h4 λ_ s5 ⟨x,H5,I5,r5,y5,F,fr5⟩=>?_;have I5':=I5.pinned (B fr5)<|T.obj _ _ F;refine di hp<|gY (hg _ s5 q H5 x u _ I5' r5<|step x H5 y5) λ_ s6 ⟨Z,H6,I6,q6⟩=>?_;refine di hp<|gY (hb _ s6 Z H6 _ I6 q6) λf s7 C=>?_;have again:∀{c:St} {p:Hp},Inv X (pins++oJ K s5.heap) c p s7->N c p->∃m,m<n/\∃i k H',Inv X pins k H' s7/\tn i s7.heap/\(∀b∈K,H' b=none)/\W i m k H':=λ{c p} j V=>by
   obtain⟨m',hm,w7⟩:=hN c p V;refine⟨m',hm,i+1,c,p,j.kU,T.keep _ _ _ F λb hb o e=>(j.pin (b,o)<|bw _<|bw _<|i7 hb e).1,λb hb=>?_,w7⟩;obtain⟨o,e,d⟩:=T.obj _ _ F b hb;exact(j.pin (b,o)<|bw _<|bw _<|i7 hb e).2.1
  cases f with
  | next=>obtain⟨c,p,j,V⟩:=C;exact again j V
  | cont=>obtain⟨c,p,j,V⟩:=C;exact again j V
  | brk=>obtain⟨c,p,j,C⟩:=C;exact⟨c,p,j.kU,C⟩
  | ret v=>obtain⟨x7,c,p,j,r7,C⟩:=C;exact⟨x7,c,p,j.kU,r7,C⟩
end
meta abbrev R2:=V->V->Hp->VK->Prop
abbrev iP (X:Cx)(f:aa->aa->Sem aa)(r:R2):Prop:=
 ∀(pins:bo) (s:az) (σ:St) (H:Hp) (x y:V) (v u:aa) (Q:VK),Inv X pins σ H s->RelV x v->RelV y u->r x y H Q ->
  wpAny (model X.prog X.w) X.A (f v u) (EP X pins σ Q) X.xe s
abbrev IB (X:Cx)(f:aa->Sem aa)(r:V->Hp->VK->Prop):Prop:=
 ∀(pins:bo) (s:az) (σ:St) (H:Hp) (x:V) (v:aa) (Q:VK),Inv X pins σ H s->RelV x v->r x H Q ->
  wpAny (model X.prog X.w) X.A (f v) (EP X pins σ Q) X.xe s
abbrev gi (X:Cx)(f:aa)(r:List V->Hp->VK->Prop):Prop:=
 ∀(pins:bo) (s:az) (σ:St) (H:Hp) (xs:List V) (us:ar) (Q:VK),Inv X pins σ H s->Vals xs us->r xs H Q ->
  wpAny (model X.prog X.w) X.A (call f us) (EP X pins σ Q) X.xe s
abbrev J3 (X:Cx)(r:V->Hp->(Bool->Hp->Prop)->Prop):Prop:=
 ∀(pins:bo) (s:az) (σ:St) (H:Hp) (x:V) (v:aa) (Q:Bool->Hp->Prop),Inv X pins σ H s->RelV x v->r x H Q ->
  wpAny (model X.prog X.w) X.A (truthy v) (TP X pins σ Q) X.xe s
abbrev Hw (r:R2)(ta tb:TE):TE:=λσ H Q=>ta σ H λx H1=>tb σ H1 λy H2=>r x y H2 Q
abbrev Ko (r:V->Hp->VK->Prop)(ta:TE):TE:=λσ H Q=>ta σ H λx H1=>r x H1 Q
abbrev rI (C:Int->Int->Prop)(g:Int->Int->V):R2:=λx y H Q=>∃i j,x=.int i/\y=.int j/\C i j/\Q (g i j) H
abbrev Ey (g:Int->Int->V):R2:=λx y H Q=>∃i j,x=.int i/\y=.int j/\Q (g i j) H
abbrev rU (g:Int->V):V->Hp->VK->Prop:=λx H Q=>∃i,x=.int i/\Q (g i) H
section
variable {X:Cx}{a b:aA}{ta tb:TE}{pos:Pos}
def E1(ha:PE X a ta)(hb:PE X b tb){H:Hp}{R:V->V->Hp->Prop}(I:Inv X pins σ H s)
  (h:ta σ H λx H1=>tb σ H1 λy H2=>R x y H2) {Q:aa->az->Prop} {f:aa->aa->Sem aa}
  (hf:∀v u s2 x y H2,Inv X pins σ H2 s2->RelV x v->RelV y u->R x y H2->wpAny (model X.prog X.w) X.A (f v u) Q X.xe s2) :
  wpAny (model X.prog X.w) X.A (eval a X.env) (λv s₁=>wpAny (model X.prog X.w) X.A (eval b X.env) (λu s₂=>wpAny (model X.prog X.w) X.A (f v u) Q X.xe s₂) X.xe s₁) X.xe s:=by
 refine gY (ha pins s σ H _ I h) λv d ⟨x,H1,c,r1,q1⟩=>?_;refine gY (hb pins d σ H1 _ c q1) λu s2 ⟨y,H2,g,r2,q2⟩=>?_;exact hf v u s2 x y H2 g r1 r2 q2
def G0{r:R2}(ho:iP X (binaryOp op) r)(ha:PE X a ta)(hb:PE X b tb):PE X (.BinOp a op b pos) (Hw r ta tb):=by
 k_ne;exact wpAny_BinOp<|E1 ha hb I h λv u c x y H2 d rx ry q=>ho pins c σ H2 x y v u Q d rx ry q
def zP{r:V->Hp->VK->Prop}(ho:IB X (unaryOp op) r)(ha:PE X a ta):PE X (.UnaryOp op a pos) (Ko r ta):=by
 k_ne;exact UnaryOp_<|gY (ha pins s σ H _ I h) λv d ⟨x,H1,c,r1,q1⟩=>ho pins d σ H1 x v Q c r1 q1
def Iu{f:aa->aa->Sem aa}{C:Int->Int->Prop}{g:Int->Int->Int}
  (rule:∀(i j:Int) (t u:Tok) (s:az) (Q:aa->az->Prop) (E:aa->az->Prop),C i j->Q (.int (g i j) s.toks) { s with toks:=s.toks+1 }->wpAny (model X.prog X.w) X.A (f (.int i t)<|.int j u) Q E s) :
  iP X f (rI C λi j=>.int<|g i j):=by
 gn_on;obtain⟨i,j,rfl,rfl,hc,q⟩:=h;cb_eq;obtain⟨c,rfl⟩:=ry;exact rule i j t c s _ _ hc ⟨.int<|g i j,H,I.tok _,⟨_,rfl⟩,q⟩
def HW{f:aa->aa->Sem aa}{g:Int->Int->Int}
  (rule:∀(i j:Int) (t u:Tok) (s:az) (Q:aa->az->Prop) (E:aa->az->Prop),Q (.int (g i j) s.toks) { s with toks:=s.toks+1 }->wpAny (model X.prog X.w) X.A (f (.int i t)<|.int j u) Q E s) :
  iP X f (Ey λi j=>.int<|g i j):=by
 gn_on;obtain⟨i,j,rfl,rfl,q⟩:=h;cb_eq;obtain⟨c,rfl⟩:=ry;exact rule i j t c s _ _ ⟨.int<|g i j,H,I.tok _,⟨_,rfl⟩,q⟩
def CA{f:aa->aa->Sem aa}{g:Int->Int->Bool}
  (rule:∀(i j:Int) (t u:Tok) (s:az) (Q:aa->az->Prop) (E:aa->az->Prop),Q (.bool<|g i j) s->wpAny (model X.prog X.w) X.A (f (.int i t)<|.int j u) Q E s) :
  iP X f (Ey λi j=>.bl<|g i j):=by
 gn_on;obtain⟨i,j,rfl,rfl,q⟩:=h;cb_eq;obtain⟨c,rfl⟩:=ry;exact rule i j t c s _ _ ⟨.bl<|g i j,H,I,rfl,q⟩
abbrev IZ (i j:Int):Prop:=0<=j/\j<=1000000/\i.natAbs<2 ^ 64
abbrev CZ (i j:Int):Prop:=(-(2 ^ 64)<i/\i<2 ^ 64)\/(-(2 ^ 64)<j/\j<2 ^ 64)
def CZ.ok{i j:Int}(h:CZ i j):IntMulOk i j:=by
 rcases h with⟨h1,c⟩|⟨h1,c⟩
 ·exact .of_left (intBits_le_64 h1 c)
 ·exact .of_right<|intBits_le_64 h1 c
def Ga:iP X (binaryOp .Add) (Ey λi j=>.int<|i+j):=HW λ_ _ _ _ _ _ _ q=>add_int q
def Fe:iP X (binaryOp .Sub) (Ey λi j=>.int<|i-j):=HW λ_ _ _ _ _ _ _ q=>sub_int q
def EG:iP X (binaryOp .Mult) (rI CZ λi j=>.int<|i * j):=Iu λ_ _ _ _ _ _ _ hc q=>mul_int q hc.ok
def FG:iP X (binaryOp .Mod) (rI (λ_ j=>0<j) λi j=>.int<|i % j):=Iu λi j _ _ _ _ _ hc q=>by
 have h1:(0:Int)<j:=hc;exact mod_int' ()<|by rw[Int.fmod_eq_emod_of_nonneg i ()];exact q
def EY:iP X (binaryOp .Pow) (rI IZ λi j=>.int<|i ^ j.toNat):=Iu λ_ _ _ _ _ _ _ hc q=>pow_int_small hc.1 hc.2.1 hc.2.2 q
def KU{f:aa->Sem aa}{g:Int->Int}
  (rule:∀(i:Int) (t:Tok) (s:az) (Q:aa->az->Prop) (E:aa->az->Prop),Q (.int (g i) s.toks) { s with toks:=s.toks+1 }->wpAny (model X.prog X.w) X.A (f<|.int i t) Q E s) :
  IB X f (rU λi=>.int<|g i):=by
 intro pins s σ H x v Q I rx h;obtain⟨i,rfl,q⟩:=h;cb_eq;exact rule i t s _ _ ⟨.int<|g i,H,I.tok _,⟨_,rfl⟩,q⟩
def uO:IB X (unaryOp .USub) (rU λi=>.int<|-i):=KU λ_ _ _ _ _ q=>neg_int q
end
section
variable {X:Cx}{a b c:aA}{ta tb tc:TE}{pos:Pos}
def F0{H:Hp}{Q:VK}{k:Bool}(I:Inv X pins σ H s)(q:Q (.bl k) H)(e:k=k'):EP X pins σ Q (.bool k') s:=by
 subst e;exact⟨.bl k,H,I,rfl,q⟩
def GX:iP X (compareOp .Lt) (Ey λi j=>.bl<|decide<|i<j):=CA λ_ _ _ _ _ _ _ q=>lt_int q
def GK:iP X (compareOp .LtE) (Ey λi j=>.bl<|decide<|i<=j):=CA λ_ _ _ _ _ _ _ q=>le_int q
def HZ:iP X (compareOp .Gt) (Ey λi j=>.bl<|decide<|j<i):=CA λ_ _ _ _ _ _ _ q=>gt_int q
def G8:iP X (compareOp .GtE) (Ey λi j=>.bl<|decide<|j<=i):=CA λ_ _ _ _ _ _ _ q=>ge_int q
def Dm:iP X (compareOp .IsNot) (λx y H Q=>y=.f6/\Q (.bl<|!decide (x=.f6)) H):=by
 gn_on;obtain⟨rfl,q⟩:=h
 cases ry
 refine isnot_none_gen (F0 I q ?_)
 cases x<;>first
  | (cases rx;rfl)
  | (obtain⟨t,rfl⟩:=rx;rfl)
def zd(b:aA)(h:op≠.In:=by decide)(h2:op≠.NotIn:=by decide):behindInMarks op b=false:=by
 have e1:(op == CmpOp.In)=false:=by cases op<;>first|rfl|exact absurd rfl h
 have e2:(op == CmpOp.NotIn)=false:=by cases op<;>first|rfl|exact absurd rfl h2
 cases b<;>simp[behindInMarks,e1,e2]
def Dh{op:CmpOp}{r:R2}(ho:iP X (compareOp op) r)(ha:PE X a ta)(hb:PE X b tb)(hm:behindInMarks op b=false):PE X (.Compare a [op] [b] pos) (Hw r ta tb):=by
 k_ne;exact wpAny_Compare1 (E1 ha hb I h λv u c x y H2 d rx ry q=>ho pins c σ H2 x y v u Q d rx ry q) hm
abbrev G6 (t:TE):TT:=λσ H Q=>t σ H λx H'=>∃k,x=.bl k/\Q k H'
def Ci{op:CmpOp}{r:R2}(ho:iP X (compareOp op) r)(ha:PE X a ta)(hb:PE X b tb)(hm:behindInMarks op b=false):PT X (.Compare a [op] [b] pos) (G6<|Hw r ta tb):=by
 k_ne;refine wpAny_isTrue_Compare1 (gY (ha pins s σ H _ I h) λv d ⟨x,H1,p,r1,q1⟩=>gY (hb pins d σ H1 _ p q1) λu q ⟨y,H2,g,r2,q2⟩=>
  gY (ho pins q σ H2 x y v u _ g r1 r2 q2) λc B ⟨z,f,m,j,k,e,q3⟩=>?_) hm
 subst e
 cases j
 exact cF ⟨f,m,q3⟩
abbrev zQ (r r':R2)(ta tb tc:TE):TE:=λσ H Q=>ta σ H λx H1=>tb σ H1 λy H2=>r x y H2 λz c=>∃k,z=.bl k /\
 (if k=true then tc σ c λf d=>r' y f d Q else Q (.bl false) c)
def yY{r r':R2}(ho:iP X (compareOp op) r)(ho':iP X (compareOp op') r')(ha:PE X a ta)(hb:PE X b tb)(hc:PE X c tc)
  (hm:lastMarks [op,op'] [b,c]=false:=by with_unfolding_all rfl):PE X (.Compare a [op,op'] [b,c] pos) (zQ r r' ta tb tc):=by
 k_ne;refine Compare_chain (gY (ha pins s σ H _ I h) λv j ⟨x,H1,G,r1,q1⟩=>chain_link (gY (hb pins j σ H1 _ G q1) λu K ⟨y,H2,B,r2,q2⟩=>
  gY (ho pins K σ H2 x y v u _ B r1 r2 q2) λd p ⟨z,f,g,C,k,e,q3⟩=>?_)) hm
 subst e
 cases C
 refine cF ?_
 cases k with
 | false=>exact ite_ff ⟨.bl false,f,g,rfl,q3⟩
 | true=>exact ite_tt<|chain_last<|gY (hc pins p σ f _ g q3) λq m ⟨L,D,F,J,q4⟩=>ho' pins m σ D y L u q Q F r2 J q4
abbrev EU (K:aq)(x:V)(H:Hp)(k:Bool):Prop:=
 match x with
 | .f6=>k=false
 | .bl b=>k=b
 | .int i=>k=(i != 0)
 | .str y=>y.length<=sizeLine/\k=((y.length:Int) != 0)
 | .byt y=>y.size<=sizeLine/\k=((y.size:Int) != 0)
 | .ref p=>(∃xs,iu K H p xs/\k=!xs.isEmpty)\/(∃xs,iR K H p xs/\k=!xs.isEmpty)\/∃c,H p=some (.dK c)/\k=!c.isEmpty
 | _=>False
def uM{κ:Type}{kvs:List<|κ×V}{vs:List<|κ×aa}(r:KV kvs vs):(!vs.isEmpty)=!kvs.isEmpty:=by
 cases r<;>rfl
def pq{xs:List V}{its:ar}(r:Vals xs its):(!its.toArray.isEmpty)=!xs.isEmpty:=by
 cases r<;>simp
def nc:(sizeLine:Nat)<2 ^ 63:=by rw[bV];decide
def Gk:J3 X (λx H Q=>∃k,EU X.K x H k/\Q k H):=by
 intro pins s σ H x v Q I rx h;obtain⟨k,e,q⟩:=h;have G:=nc;have hs:sizeLine=16777216:=bV
 cases x with
 | f6=>
  cases rx
  have c:k=false:=e;subst c;exact truthy_none ⟨H,I,q⟩
 | bl b=>
  cases rx
  have c:k=b:=e;subst c;exact cF ⟨H,I,q⟩
 | int i=>
  cb_eq;have c:k=(i != 0):=e;subst c;exact PySem.P.truthy_int ⟨H,I,q⟩
 | str y=>
  cb_eq;obtain⟨D,c⟩:y.length<=sizeLine/\k=((y.length:Int) != 0):=e;subst c;exact PySem.P.truthy_str () ⟨H,I.tok _,q⟩
 | byt y=>
  cb_eq;obtain⟨D,c⟩:y.size<=sizeLine/\k=((y.size:Int) != 0):=e;subst c;exact PySem.W.truthy_bytes () ⟨H,I.tok _,q⟩
 | ref p=>
  cases rx
  have c:(∃xs,iu X.K H p xs/\k=!xs.isEmpty)\/(∃xs,iR X.K H p xs/\k=!xs.isEmpty)\/∃d,H p=some (.dK d)/\k=!d.isEmpty:=e
  rcases c with⟨xs,hx,c⟩|⟨xs,hx,c⟩|⟨d,hx,c⟩
  ·subst c;obtain⟨B,r,j,C⟩:=I.list hx;have f:=r.length;exact wpAny_truthy_list j.isList (by dsimp[aI];lia) ⟨H,I.tok _,by rw[pq r];exact q⟩
  ·subst c;obtain⟨B,r,j,C⟩:=I.tuple hx;have f:=r.length;exact truthy_tuple j (by dsimp[aI];lia) ⟨H,I.tok _,by rw[pq r];exact q⟩
  ·subst c;obtain⟨C,F,g,r,m⟩:d.length<=sizeLine/\(p == sysModules)=false/\∃g,KV d g/\s.heap.DictOf (rm X.prog X.w) p g:=I.hok p _ hx;have f:d.length=g.length:=Paired.length r;exact wpAny_truthy_dict F m () ⟨H,I.tok _,by rw[uM r];exact q⟩
 | _=>exact(show False from e).elim
def BR(ha:PE X a ta)(he:∀whole,isTrue a X.env whole=(do let v <- whole;standAt a.pos;holding [v] (truthy v))) :
  PT X a (λσ H Q=>ta σ H λx H'=>∃k,EU X.K x H' k/\Q k H'):=by
 k_ne;exact isTrue_plain (gY (ha pins s σ H _ I h) λv d ⟨x,H1,c,r1,q1⟩=>Gk pins d σ H1 x v Q c r1 q1)<|he _
def uJ:iP X (binaryOp .Add) (λx y H Q=>∃i j,x=.str i/\y=.str j/\i.length+j.length<=sizeLine/\Q (.str<|i++j) H):=by
 gn_on;obtain⟨i,j,rfl,rfl,d,q⟩:=h;cb_eq;obtain⟨c,rfl⟩:=ry;exact add_str (λc f=>⟨.str<|i++j,H,I.tok _,⟨_,rfl⟩,q⟩) d
def vals1{x:V}(r:Vals [x] us):∃u,us=[u]/\RelV x u:=by
 cases r with
 | cons r1 r2=>cases r2;exact⟨_,rfl,r1⟩
def vals2{x:V}(r:Vals [x,y] us):∃u w',us=[u,w']/\RelV x u/\RelV y w':=by
 cases r with
 | cons r1 r2=>
  cases r2 with
  | cons d c=>cases c;exact⟨_,_,rfl,r1,d⟩
def xW(hc:X.calm=true):gi X (.builtin "max") (λxs H Q=>∃i j,xs=[.int i,.int j]/\Q (.int<|if j>i then j else i) H):=by
 kj_on;obtain⟨i,j,rfl,q⟩:=h;obtain⟨u,g,rfl,⟨t,rfl⟩,⟨d,rfl⟩⟩:=vals2 r;refine max_two_ints (I.ok.hd hc) λh' f k=>⟨_,H,I.kept k,?_,q⟩;by_cases c:j>i
 ·rw[aZ c,aZ c];exact⟨_,rfl⟩
 ·rw[bu c,bu c];exact⟨_,rfl⟩
def yk(hc:X.calm=true):gi X (.builtin "min") (λxs H Q=>∃i j,xs=[.int i,.int j]/\Q (.int<|if j<i then j else i) H):=by
 kj_on;obtain⟨i,j,rfl,q⟩:=h;obtain⟨u,g,rfl,⟨t,rfl⟩,⟨d,rfl⟩⟩:=vals2 r;refine min_two_ints (I.ok.hd hc) λh' f k=>⟨_,H,I.kept k,?_,q⟩;by_cases c:j<i
 ·rw[aZ c,aZ c];exact⟨_,rfl⟩
 ·rw[bu c,bu c];exact⟨_,rfl⟩
def qf:gi X (.type "int") (λxs H Q=>(∃i,xs=[.int i]/\Q (.int i) H)\/∃k,xs=[.bl k]/\Q (.int<|if k then 1 else 0) H):=by
 kj_on
 rcases h with⟨i,rfl,q⟩|⟨k,rfl,q⟩
 ·obtain⟨u,rfl,t,rfl⟩:=vals1 r;exact call_int_int ⟨.int i,H,I,⟨_,rfl⟩,q⟩
 ·obtain⟨u,rfl,r1⟩:=vals1 r
  cases r1
  exact call_int_bool ⟨.int<|if k then 1 else 0,H,I.tok _,⟨_,rfl⟩,q⟩
abbrev IV (K:aq)(x:V)(H:Hp)(n:Nat):Prop:=
 match x with
 | .str y=>y.length<=sizeLine/\n=y.length
 | .byt y=>y.size<=sizeLine/\n=y.size
 | .ref p=>(∃xs,iu K H p xs/\n=xs.length)\/∃xs,iR K H p xs/\n=xs.length
 | _=>False
def zJ:gi X (.builtin "len") (λxs H Q=>∃x n,xs=[x]/\IV X.K x H n/\Q (.int n) H):=by
 kj_on;obtain⟨x,n,rfl,e,q⟩:=h;mg_lt;have B:=nc;have hs:sizeLine=16777216:=bV
 cases x with
 | str y=>
  cb_eq;obtain⟨k,d⟩:y.length<=sizeLine/\n=y.length:=e;subst d;exact len_str () ⟨.int _,H,I.tok _,⟨_,rfl⟩,q⟩
 | byt y=>
  cb_eq;obtain⟨k,d⟩:y.size<=sizeLine/\n=y.size:=e;subst d;exact PySem.W.len_bytes () ⟨.int _,H,I.tok _,⟨_,rfl⟩,q⟩
 | ref p=>
  cases rx
  have d:(∃xs,iu X.K H p xs/\n=xs.length)\/∃xs,iR X.K H p xs/\n=xs.length:=e
  rcases d with⟨xs,hx,d⟩|⟨xs,hx,d⟩
  ·subst d;obtain⟨j,f,g,m⟩:=I.list hx;have c:=f.length;exact Calls.call_len_list g.isList (by dsimp[aI];lia) ⟨.int xs.length,H,I.tok _,⟨_,by dsimp[aI];rw[c]⟩,q⟩
  ·subst d;obtain⟨j,f,g,m⟩:=I.tuple hx;have c:=f.length;exact len_tuple g (by dsimp[aI];lia) ⟨.int xs.length,H,I.tok _,⟨_,by dsimp[aI];rw[c]⟩,q⟩
 | _=>exact(show False from e).elim
end
structure ObjM (h:ak)(x dx C:aj)(mA:Str->be):Prop where
 obj:h.get? x=some (PySem.W.instObj C dx)
 ns:h.Ns1 dx mA
 ne:dx≠x
def xY{h:ak}{mA:Str->be}(n:h.Ns1 dx mA):∃od,h.get? dx=some od/\∀name,PySem.W.lookIn name od=some (mA name):=by
 obtain⟨o,es,m,d,hd,g,_,k⟩:=n;refine⟨o,d,λname=>?_⟩;have e:=k name;unfold nsFind findBy at e;rw[<- Array.find?_toList]at e;unfold PySem.W.lookIn;rw[hd];dsimp only;split
 ·rename_i y q;rw[q]at e;exact cG some e
 ·rename_i q;rw[q]at e;have a:es.toList.any (·.refKey)=false:=by
   rw[List.any_eq_false];intro y f;obtain⟨z,t,c⟩:=g y<|Array.mem_toList_iff.mp f;simp[DictEntry.refKey,c]
  have j:¬es.toList.any (·.refKey)=true:=by rw[a];exact bE
  rw[bu j];exact cG some e
def ObjM.look{x:aj}{mA:Str->be}(I:ObjM h x dx C mA):∃od,PySem.W.InstAt h x (PySem.W.instObj C dx) C (some od)/\∀name,PySem.W.lookIn name od=some (mA name):=
 let⟨od,ho,hl⟩:=xY I.ns
 ⟨od,⟨I.obj,rfl,rfl,ho⟩,hl⟩
section
variable {P:ah}{w:af}{H:Hp}{h:ak}{a C dx:aj}{fs:List (Str×V)}
def CD(hok:oB P w H h)(e:H a=some (.ins C dx fs)):∃mA,ObjM h a dx C mA/\(∀f,Gs (fs.lookup f)<|mA f)/\PySem.Within mA (fs.map (·.1))/\fs.length<=1000/\H dx=some (.own a):=by
 obtain⟨d,z,c,g,mA,n,r,q⟩:=(show iw P w H h a (.ins C dx fs)from hok a _ e);exact⟨mA,⟨g,n,c⟩,r,q,z,d⟩
end
structure Cls (K:aq)(C:aj):Prop where
 pg:PySem.W.plainGet K C Str.empty=true
 hd:PySem.W.hasDictIn K C=true
 po:PySem.W.plainOver K C=true
 sa:PySem.W.findIn K (.ref C) "__setattr__" = some (some<|.builtin "object.__setattr__")
def Cls.get{K:aq}(c:Cls K C)(f:Str):PySem.W.plainGet K C f=true:=c.pg
structure Con (K:aq)(C:aj)(f:Str)(v:V)(u:aa):Prop where
 at_:PySem.W.findIn K (.ref C) f=some (some u)
 rel:RelV v u
 get:PySem.W.specialIn K u "__get__" = some none
 cp:PySem.W.copiedNames.contains f=false
structure Meth (K:aq)(C:aj)(m:Str)(f:aj):Prop where
 at_:PySem.W.findIn K (.ref C) m=some (some<|.ref f)
 fn:PySem.W.isFn K (.ref f)=true
 kp:PySem.W.keepIn K (.ref f)=true
section
variable {X:Cx}{pins:bo}{σ:St}{H:Hp}{s:az}{A:au}{E:aa->az->Prop}{Q:aa->az->Prop}{c:aa}{b:Bool}
inductive TyOf (K:aq) (H:Hp):V->aa->Prop where
 | f6:TyOf K H .f6 (.type "NoneType")
 | bl (x:Bool):TyOf K H (.bl x) (.type "bool")
 | int (i:Int):TyOf K H (.int i) (.type "int")
 | str (x:Str):TyOf K H (.str x) (.type "str")
 | flt (x:UInt64):TyOf K H (.flt x) (.type "float")
 | lst {a:aj} {xs:List V} (e:H a=some (.lst xs)):TyOf K H (.ref a) (.type "list")
 | frz {a:aj} {o:Obj} {xs:List V} (e:H a=some (.frz o<|.lst xs)):TyOf K H (.ref a) (.type "list")
 | tup {a:aj} {xs:List V} (e:H a=some (.tup xs)):TyOf K H (.ref a) (.type "tuple")
 | dK {a:aj} {kvs:List<|Key×V} (e:H a=some (.dK kvs)):TyOf K H (.ref a) (.type "dict")
 | dT {a:aj} {kvs:List<|List Key×V} (e:H a=some (.dT kvs)):TyOf K H (.ref a) (.type "dict")
 | ins {a C dx:aj} {fs:List<|Str×V} (e:H a=some (.ins C dx fs)) (cl:Cls K C) (ha:PySem.W.findIn K (.ref C) "__class__" = some (some<|.builtin "object.__class__"))
   (hn:PySem.W.specialIn K (.builtin "object.__class__") "__get__" = some (some<|.builtin "getset_descriptor.__get__")) (htk:PySem.W.takesIn K (.builtin "object.__class__")=some true)
   (hm:PySem.W.mroIn K C (.type "object")=some true):TyOf K H (.ref a)<|.ref C
def xV{x:V}(I:Inv X pins σ H s)(rx:RelV x u)(ty:TyOf X.K H x t)(e:PySem.W.kitOne X.K t c=some b)(h:∀tk,Q (.bool b) { s with toks:=tk }) :
  wpAny (model X.prog X.w) A (call (.builtin "isinstance") [u,c]) Q E s:=by
 cases ty with
 | f6=>cases(show u=Value.none from rx);exact bK PySem.W.kitx_none I.rA True.intro e (λz=>nomatch z) h
 | bl y=>cases(show u=Value.bool y from rx);exact bK PySem.W.kitx_bool I.rA True.intro e (λz=>nomatch z) h
 | int i=>obtain⟨t,q⟩:=(show ∃t,u=Value.int i t from rx);cases q;exact bK PySem.W.kitx_int I.rA True.intro e (λz=>nomatch z) h
 | str y=>obtain⟨t,q⟩:=(show ∃t,u=Value.str y t from rx);cases q;exact bK PySem.W.kitx_str I.rA True.intro e (λz=>nomatch z) h
 | flt y=>obtain⟨t,q⟩:=(show ∃t,u=Value.float y t from rx);cases q;exact bK PySem.W.kitx_float I.rA True.intro e (λz=>nomatch z) h
 | @lst a xs d=>
  cases(show u=Value.ref a from rx)
  obtain⟨_,_,n,_,h1⟩:=(show iw X.prog X.w H s.heap a (.lst xs)from I.hok a _ d);exact bK PySem.W.kitx_list I.rA ⟨_,h1,rfl⟩ e (λz=>nomatch z) h
 | @frz a D xs d=>
  cases(show u=Value.ref a from rx)
  obtain⟨_,_,_,n,_,h1⟩:=(show iw X.prog X.w H s.heap a (.frz D<|.lst xs)from I.hok a _ d);exact bK PySem.W.kitx_list I.rA ⟨_,h1,rfl⟩ e (λz=>nomatch z) h
 | @tup a xs d=>
  cases(show u=Value.ref a from rx)
  obtain⟨_,_,_,p⟩:=(show iw X.prog X.w H s.heap a (.tup xs)from I.hok a _ d);obtain⟨o,h1,g,_⟩:=p;exact bK PySem.W.kitx_tuple I.rA ⟨o,h1,g⟩ e (λz=>nomatch z) h
 | @dK a f d=>
  cases(show u=Value.ref a from rx)
  obtain⟨_,_,N,_,p⟩:=(show iw X.prog X.w H s.heap a (.dK f)from I.hok a _ d);obtain⟨o,es,m,h1,g,_⟩:=p;exact bK PySem.W.kitx_dict I.rA ⟨o,h1,g.1⟩ e (λz=>nomatch z) h
 | @dT a f d=>
  cases(show u=Value.ref a from rx)
  obtain⟨_,_,xs,_,o,es,m,h1,g,_⟩:=(show iw X.prog X.w H s.heap a (.dT f)from I.hok a _ d);exact bK PySem.W.kitx_dict I.rA ⟨o,h1,g.1⟩ e (λz=>nomatch z) h
 | @ins a C dx fs d k B hn j F=>
  cases(show u=Value.ref a from rx)
  obtain⟨L,O,_⟩:=CD I.hok d;obtain⟨G,J,_⟩:=O.look;exact bK (PySem.W.kitx_own (k.get _) k.hd B hn j F) I.rA J e (λz=>nomatch z) h
end
structure Room (k:Nat)(A:au):Prop where
 hd:A.handled=none
 dp:A.depth+3 * k+5<recursionLimit
 un:A.units+16 * k+200<cLine
 gs:A.guards=some []
def Room.mono{k:Nat}{A:au}(r:Room k A)(h:j<=k):Room j A:=⟨r.hd,by have:=r.dp;lia,by have:=r.un;lia,r.gs⟩
def Room.deeper{k:Nat}{A:au}(r:Room (k+1) A)(env:Env):Room k (A.deeper env):=
 ⟨r.hd,by have:=r.dp;show A.depth+1+3 * k+5<_;lia,by have:=r.un;show A.units+3+16 * k+200<_;lia,r.gs⟩
def Room.depth{k:Nat}{A:au}(r:Room k A):A.depth<recursionLimit:=by have:=r.dp;lia
def Room.units{k:Nat}{A:au}(r:Room k A):A.units+64<cLine:=by have:=r.un;lia
abbrev JT:TA:=λ_ H Q=>Q [] H
abbrev GR (ta:TE)(tr:TA):TA:=λσ H Q=>ta σ H λx H1=>tr σ H1 λxs H2=>Q (x::xs) H2
section
variable {X:Cx}{e:aA}{es:List aA}{te:TE}{t:TA}{pos:Pos}
def qD:PA X [] JT:=λ_ _ _ _ H Q I h=>Calls.spliced_nil ⟨[],H,I,.nil,h⟩
def lE(ha:PE X e te)(hr:PA X es t)(hs:starEach (e::es) X.env=(false,eval e X.env)::starEach es X.env:=by rfl):PA X (e::es) (GR te t):=by
 intro pos pins s σ H Q I h;rw[hs]
 skip
 refine Calls.spliced_cons<|gY (ha pins s σ H _ I h) λu c ⟨x,H1,f,r1,q1⟩=>?_;exact gY (hr pos pins c σ H1 _ f q1) λus g ⟨xs,H2,d,r2,q2⟩=>⟨x::xs,H2,d,.cons r1 r2,q2⟩
abbrev JC (t:TA):TE:=λσ H Q=>t σ H λxs H1=>xs.length<=sizeLine/\∀p,H1 p=none->Q (.ref p) (upd H1 p<|.tup xs)
abbrev JW (t:TA):TE:=λσ H Q=>t σ H λxs H1=>xs.length<=sizeLine/\∀p,H1 p=none->Q (.ref p) (upd H1 p<|.lst xs)
def E2{x1}(h:PA X es t):PE X (.Tuple es x1 pos) (JC t):=by
 intro pins s σ H Q I f;refine wpAny_Tuple_spliced (gY (h pos pins s σ H _ I f) λus c ⟨xs,H1,d,r,z,q⟩=>⟨by rw[<- r.length];exact z,?_⟩);have hf:H1 c.heap.objs.size=none:=d.hok.fresh<|aL _;refine⟨.ref c.heap.objs.size,upd H1 c.heap.objs.size<|.tup xs,d.laid (t':=c.toks) (λb u e=>aO _ e) (aL _) ?_,rfl,q _ hf⟩;exact⟨z,us,r,⟨_,bx _ rfl,rfl,rfl,_,rfl⟩⟩
def E7(h:PA X es t):PE X (.List es pos) (JW t):=by
 intro pins s σ H Q I f;refine wpAny_List_spliced (gY (h pos pins s σ H _ I f) λus c ⟨xs,H1,d,r,z,q⟩=>⟨by rw[<- r.length];exact z,?_⟩);have hf:H1 c.heap.objs.size=none:=d.hok.fresh<|aL _;refine⟨.ref c.heap.objs.size,upd H1 c.heap.objs.size<|.lst xs,d.laid (t':=c.toks) (λb u e=>aO _ e) (aL _) ?_,rfl,q _ hf⟩;exact⟨z,us,0,r,bx _ rfl⟩
end
meta abbrev Sp:=List V->Hp->VK->XK->Prop
meta abbrev B0:=List Env->Hp->az->XK->aa->az->Prop
structure Env0 (P:ah)(w:af)(K:aq)(mg:Str->be)(base:ak)(A:au)(outer:List Env)(s:az)(H:Hp):Prop where
 frames:A.frames=some outer
 mod:Mod K mg base
 bs:∀b o,base.get? b=some o->s.heap.get? b=some o/\H b=none
 bsz:base.objs.size<=s.heap.objs.size
 oV:s.heap.FunFrames base outer
 frf:∀b∈frs outer,H b=none
 hok:oB P w H s.heap
 bare:AllBare s.gens
abbrev CE (outer:List Env)(P:ah)(w:af)(H:Hp)(s:az)(Q:VK)(u:aa)(s':az):Prop:=
 ∃v H',s'.os=s.os/\AllBare s'.gens/\Un (frs outer) [] H H' s.heap s'.heap/\oB P w H' s'.heap/\RelV v u/\Q v H'
abbrev CR (CX:B0)(outer:List Env)(P:ah)(w:af)(H:Hp)(s:az)(Q:VK)(E:XK)(r:Result)(s':az):Prop:=
 match r with
 | .ok (.ret u)=>CE outer P w H s Q u s'
 | .ok _=>False
 | .error e=>CX outer H s E e s'
structure FnOk (P:ah)(w:af)(K:aq)(mg:Str->be)(base:ak)(CX:B0)(k:Nat)(f:aj)(fd:FuncData)(ps:am)(sp:Sp):Prop where
 len:∀vs H Q E,sp vs H Q E->vs.length=ps.length
 run:∀(A:au) (outer:List Env) (s:az) (H:Hp) (args:Args) (us:ar) (vs:List V) (Q:VK) (E:XK),Room k A->Env0 P w K mg base A outer s H->BindsTo s fd args (ps.zip us)->Vals vs us->sp vs H Q E ->
  codeAny (model P w) A (.call (.ref f) args) (CR CX outer P w H s Q E) s
section
variable {X:Cx}{pins:bo}{σ:St}{H:Hp}{s s':az}
def Inv.IU(I:Inv X pins σ H s):Env0 X.prog X.w X.K X.mg X.base X.A X.stack s H:=
 ⟨I.ok.frames,I.ok.mod,I.bs,bF I.ok.bsz I.sz,I.stack,I.wo,I.hok,I.bare⟩
def Inv.after{Q:VK}(I:Inv X pins σ H s)(h:CE X.stack X.prog X.w H s Q u s'):EP X pins σ Q u s':=by
 obtain⟨v,H',os,c,un,f,r,q⟩:=h;obtain⟨k,g,d,t,j⟩:=s';obtain rfl:j=s.os:=os;exact⟨v,H',I.call (h':=k) (g':=g) (d':=d) (t':=t) (ch:=[]) un f c λb z=>absurd z<|by simp,r,q⟩
end
abbrev Ew (sp:Sp)(dvs:List V)(E:XK)(t:TA):TE:=λσ H Q=>t σ H λc H1=>sp (c++dvs) H1 Q E
abbrev Binds (K:aq)(fd:FuncData)(ps:am)(ds:ar):Prop:=
 ∀(s:az) (us:ar),K.In s.heap->(us++ds).length=ps.length->BindsTo s fd ⟨us,[]⟩ (ps.zip<|us++ds)
def Binds.all{K:aq}{ps:am}(h:∀us:ar,us.length=ps.length->bindArgs fd ⟨us,[]⟩=pure (ps.zip us)):Binds K fd ps []:=λs us _ c=>by
 rw[dm]at c ⊢;exact .of_eq<|h us c
abbrev Passes (CX:B0)(X:Cx)(E:XK):Prop:=∀(pins:bo) (σ:St) (H:Hp) (s:az) (e:aa) (s':az),Inv X pins σ H s->CX X.stack H s E e s'->X.xe e s'
section
variable {X:Cx}{CX:B0}{k:Nat}{f C:aj}{fd:FuncData}{ps:am}{sp:Sp}{dvs:List V}{ds:ar}{E:XK}{x:Str}{p pos:Pos}{e:aA}{es:List aA}{t:TA}
def Ge{H:Hp}{Q:VK}(F:FnOk X.prog X.w X.K X.mg X.base CX k f fd ps sp)(hr:Room k X.A)(hb:Binds X.K fd ps ds)(hd:Vals dvs ds)(hx:Passes CX X E)
  (I:Inv X pins σ H s) (r:Vals vs us) (h:sp (vs++dvs) H Q E):wpAny (model X.prog X.w) X.A (call (.ref f) us) (EP X pins σ Q) X.xe s:=by
 have r2:Vals (vs++dvs) (us++ds):=r.append hd;have g:(us++ds).length=ps.length:=by rw[<- r2.length];exact F.len _ _ _ _ h
 refine wpAny_call (eK (F.run X.A X.stack s H ⟨us,[]⟩ (us++ds) (vs++dvs) Q E hr I.IU (hb s us I.rA g) r2 h) λr s' c=>?_)
 cases r with
 | error e=>exact hx pins σ H s e s' I c
 | ok d=>
  cases d with
  | ret u=>exact I.after c
  | next=>exact False.elim c
  | brk=>exact False.elim c
  | cont=>exact False.elim c
def Cm(F:FnOk X.prog X.w X.K X.mg X.base CX k f fd ps sp)(hr:Room k X.A)(hg:Gl X x)(hm:X.mg x=some (.ref f))(hk:PySem.W.keepIn X.K (.ref f)=true)(hb:Binds X.K fd ps ds)(hd:Vals dvs ds)(hx:Passes CX X E)
  (ha:PA X (e::es) t) (hdb:(x == ("__debug__" : Str))=false:=by decide) (he:starEach (e::es) X.env=(false,eval e X.env)::starEach es X.env:=by rfl) (hpl:(backTo pos<|starEach es X.env).any (·.1)=false:=by rfl) :
  PE X (.Call (.Name x p) (e::es) [] pos) (Ew sp dvs E t):=by
 k_ne;refine d_<|uW I hg hm ?_ hdb;refine PySem.W.callWith_K (h₀:=X.base) I.ok.mod.kin hk (gY (ha pos pins s σ H _ I h) λus d ⟨g,H1,c,r,q⟩=>⟨c.rA,?_⟩) he hpl;exact Ge F hr hb hd hx c r q
structure Mk (K:aq)(C f:aj):Prop where
 makes:PySem.W.makesIn K C=true
 init:PySem.W.findIn K (.ref C) "__init__" = some (some<|.ref f)
 fn:PySem.W.isFn K (.ref f)=true
 kp:PySem.W.keepIn K (.ref C)=true
end
section
variable {fd:FuncData}{ps ks:am}
structure KBinds (K:aq)(fd:FuncData)(ps ks:am)(g:ar->ar->ar)(gV:List V->List V->List V):Prop where
 to:∀(s:az) (us ws:ar),K.In s.heap->(g us ws).length=ps.length->BindsTo s fd ⟨us,ks.zip ws⟩ (ps.zip<|g us ws)
 rel:∀{vs:List V} {us:ar} {zs:List V} {ws:ar},Vals vs us->Vals zs ws->Vals (gV vs zs) (g us ws)
end
structure FnScope (N P:am)(sc:Scope):Prop where
 kind:sc.kind=.function
 co:sc.isCoroutine=false
 gen:sc.isGenerator=false
 nd:N.Nodup
 pre:N.take P.length=P
 par:∀x∈P,sc.names.lookup x=some .local\/sc.names.lookup x=some .cell
 nofree:∀y∈sc.names,y.2≠.free
theorem qj{kindOf:Str->Option NameKind}{x:Str}:∀{binds:List<|Str×aa}{m:Str->be},(∀v,(x,v)∉binds)->bindL kindOf binds m x=m x
 | [],_,_=>rfl
 | (n,v)::r,m,h=>by
  unfold bindL;rw[qj λw hw=>h w<|aK _ hw];split
  ·have:x≠n:=by rintro rfl;exact h v aS
   simp[this]
  ·rfl
theorem qh{kindOf:Str->Option NameKind}{x:Str}:∀{binds:List<|Str×aa}{m:Str->be},(∀v,(x,v)∉binds)->bindC kindOf binds m x=m x
 | [],_,_=>rfl
 | (n,v)::r,m,h=>by
  unfold bindC;rw[qh λw hw=>h w<|aK _ hw];split
  ·rfl
  ·have:x≠n:=by rintro rfl;exact h v aS
   simp[this]
theorem p6{kindOf:Str->Option NameKind}{x:Str}{v:aa}:∀{P:am}{vs:ar}{i:Nat}{m:Str->be},P.Nodup->P[i]?=some x->vs[i]?=some v->kindOf x=some .local ->
  bindL kindOf (P.zip vs) m x=some v
 | [],_,_,_,_,h,_,_=>by simp at h
 | _::_,[],_,_,_,_,h,_=>by simp at h
 | p::P,w::vs,0,m,nd,h1,h2,hk=>by
  simp at h1 h2;subst h1;subst h2;show bindL kindOf ((p,w)::P.zip vs) m p=_;unfold bindL;rw[qj λv hv=>(bz.mp nd).1 (eO hv).1,aZ hk];simp
 | p::P,w::vs,i+1,m,nd,h1,h2,hk=>by
  skip
  unfold bindL;exact p6 (i:=i) (bz.mp nd).2 (by simpa using h1) (by simpa using h2) hk
theorem p8{kindOf:Str->Option NameKind}{x:Str}{v:aa}:∀{P:am}{vs:ar}{i:Nat}{m:Str->be},P.Nodup->P[i]?=some x->vs[i]?=some v->kindOf x≠some .local ->
  bindC kindOf (P.zip vs) m x=some v
 | [],_,_,_,_,h,_,_=>by simp at h
 | _::_,[],_,_,_,_,h,_=>by simp at h
 | p::P,w::vs,0,m,nd,h1,h2,hk=>by
  simp at h1 h2;subst h1;subst h2;show bindC kindOf ((p,w)::P.zip vs) m p=_;unfold bindC;rw[qh λv hv=>(bz.mp nd).1 (eO hv).1,bu hk];simp
 | p::P,w::vs,i+1,m,nd,h1,h2,hk=>by
  skip
  unfold bindC;exact p8 (i:=i) (bz.mp nd).2 (by simpa using h1) (by simpa using h2) hk
abbrev start (N:am)(vs:List V):St:=vs.map some++List.replicate (N.length-vs.length) none
abbrev uA (CX:B0)(P:ah)(w:af)(K:aq)(mg:Str->be)(base:ak)(N:am)(qual:Str)(scope:Scope)(f:aj)(cd:aa)(A:au)(outer:List Env)(s:az)(H:Hp)(E:XK):Cx where
 prog:=P
 w:=w
 K:=K
 mg:=mg
 base:=base
 A:=A.deeper (envOfC qual scope s.heap.objs.size f cd)
 N:=N
 s₀:=s
 H₀:=H
 env:=envOfC qual scope s.heap.objs.size f cd
 outer:=outer
 stack:=envOfC qual scope s.heap.objs.size f cd::outer
 ex:=[]
 calm:=true
 fn:=λ_=>true
 pn:=[]
 xe:=λe s'=>wpAny (model P w) (A.deeper<|envOfC qual scope s.heap.objs.size f cd) (leaving (envOfC qual scope s.heap.objs.size f cd) e) (λ_ c=>CX outer H s E e c) (λd c=>CX outer H s E d c) s'
def sE{sc:Scope}{n:Nat}{x:Str}(h:sc.names.lookup x=some .cell):∃c,(cellsFrom n sc.names []).lookup x=some c:=by
 have q:=cR sc.names n []<|.inl h;exact cK.mp q
def xX{CX:B0}{P:ah}{w:af}{K:aq}{mg:Str->be}{base:ak}{N ps:am}{scope:Scope}{f:aj}{A:au}{outer:List Env}{s:az}{H:Hp}{E:XK}{vs:List V}
  (S:FnScope N ps scope) (hd:A.handled=none) (e0:Env0 P w K mg base A outer s H) (hl:vs.length=ps.length) (r:Vals vs us)
  (x:InCallC s s.heap.objs.size (bindL (envOfC qual scope s.heap.objs.size f cd).kindOf (ps.zip us) λ_=>none) (cellsFrom (s.heap.objs.size+1) scope.names []) (bindC (envOfC qual scope s.heap.objs.size f cd).kindOf (ps.zip us) λ_=>none) s1) :
  Inv (uA CX P w K mg base N qual scope f cd A outer s H E) [] (start N vs) H s1:=by
 have J:ps.length<=N.length:=by have:=cG List.length S.pre;rw[cO]at this;lia
 obtain⟨h1,L,rfl,C⟩:=x.done;have j:∀b:aj,b∉(uA CX P w K mg base N qual scope f cd A outer s H E).ex:=λb z=>absurd (show b∈([]:ba)from z) (by simp);refine⟨⟨e0.mod,S.kind,rfl,rfl,aL _,λy z c h1 d=>?_,λy g=>?_,λy c _ h=>?_,λ_=>hd,Around.frames_deeper e0.frames,.inr ⟨rfl,rfl⟩,λb z=>absurd z<|j b,e0.bs,e0.bsz,λb _ _=>j b,λb z=>absurd z<|j b,e0.oV,e0.frf⟩,
  rfl,e0.bare,Un.kept C,⟨_,x.toInCall.ns,λi y v h1 d U=>?_⟩,λy c h=>⟨_,x.cell y c h⟩,e0.hok.fresh<|aL _,λy c h=>?_,λp m=>absurd (show p∈([]:bo)from m)<|by simp,e0.hok.kept C,?_⟩
 ·exact name_of_addr x.apart (bL h1) (bL d)
 ·have g:scope.names.lookup y=some .cell\/scope.names.lookup y=some .free:=g
  rcases g with g|g
  ·exact sE g
  ·exact absurd rfl<|S.nofree _<|bL g
 ·exact cQ (x.above y c<|bL h)
 ·have hi:i<vs.length:=by
   unfold start at d;by_cases hi:i<vs.length
   ·exact hi
   ·rw[bX<|by simpa using hi]at d;rw[List.getElem?_replicate]at d;split at d<;>cases d
  have G:vs[i]?=some v:=by
   unfold start at d;rw[aX<|by simpa using hi,aR]at d
   cases e:vs[i]? with
   | none=>rw[e]at d;cases d
   | some a=>rw[e]at d;cases d;rfl
  obtain⟨u,D,F⟩:=r.get G;have m:ps[i]?=some y:=by
   rw[<- S.pre,List.getElem?_take_of_lt ()];exact h1
  have B:ps.Nodup:=by rw[<- S.pre];exact S.nd.sublist (List.take_sublist _ _)
  refine⟨u,F,?_⟩
  rcases S.par y (bf m)with k|k
  ·exact .inl ⟨k,p6 B m D k⟩
  ·obtain⟨c,e⟩:=sE (n:=s.heap.objs.size+1) k;refine .inr ⟨.inl k,c,e,?_⟩;have q:=x.cell y c e;rw[p8 B m D<|by show scope.names.lookup y≠_;rw[k];decide]at q;exact q
 ·exact e0.hok.fresh (cQ<|x.above y c<|bL h)
 ·unfold start;show _=N.length;rw[aU,aG,List.length_replicate]
  lia
def HV{CX:B0}{P:ah}{w:af}{K:aq}{mg:Str->be}{base:ak}{k:Nat}{f:aj}{kV ct:aa}
  {osl:Array<|be} {N ps:am} {sp:Sp} (lk:K.lookup f=some ⟨oc,od,.func<|PySem.W.fnOf name qual params body scope dV kV doc pm an cdv ct,osl⟩) (hcd:PySem.W.codeIn K cdv qual=true) (S:FnScope N ps scope)
  (len:∀vs H Q E,sp vs H Q E->vs.length=ps.length)
  (hbody:∀(A:au) (outer:List Env) (s:az) (H:Hp) (vs:List V) (Q:VK) (E:XK),Room k (A.deeper<|envOfC qual scope s.heap.objs.size f cdv)->sp vs H Q E ->
   ∃t,rB (uA CX P w K mg base N qual scope f cdv A outer s H E) body t/\t { nx:=λ_ H'=>Q .f6 H',rt:=Q } (start N vs) H) :
  FnOk P w K mg base CX (k+1) f (PySem.W.fnOf name qual params body scope dV kV doc pm an cdv ct) ps sp:=by
 refine⟨len,λA outer s H D us vs Q E B e0 G r g=>?_⟩;have L:=len _ _ _ _ g;have F:K.In s.heap:=e0.mod.kin.keeps λb o e=>(e0.bs b o e).1;have p:s.heap.NoLimit:=e0.mod.nolimit.keeps λb o e=>(e0.bs b o e).1;have d:∀y∈ps.zip us,scope.names.lookup y.1=some .local\/(scope.names.lookup y.1=some .cell/\((cellsFrom (s.heap.objs.size+1) scope.names []).lookup y.1).isSome=true):=λ⟨n,v⟩ U=>by
  rcases S.par n (eO U).1 with q|q
  ·exact .inl q
  ·exact .inr ⟨q,cR _ _ _<|.inl q⟩
 refine codeAny_call_function B.depth (F _ _ lk) rfl S.co S.gen rfl (PySem.W.codeRec_of F hcd)<|G _ _ _ _ ?_;refine wpAny_newFunctionEnv_cells S.kind d λenv he C x=>?_;subst he;refine⟨p.keeps x.toInCall.keep,codeAny_func ?_⟩;obtain⟨t,Z,Y⟩:=hbody A outer s H vs Q E (B.deeper _) g;have I:Inv (uA CX P w K mg base N qual scope f cdv A outer s H E) [] (start N vs) H C:=xX S B.hd e0 L r x;refine d9 (Z [] C (start N vs) H _ I Y) (λfl s' hs=>?_) λe s' hs=>hs;have j:∀{c:St} {H':Hp} {v:V} {u:aa},Inv (uA CX P w K mg base N qual scope f cdv A outer s H E) [] c H' s'->RelV v u->Q v H'->CE outer P w H s Q u s':=
  λ{c H' v u} J m q=>⟨v,H',J.os,J.bare,J.base,J.hok,m,q⟩
 cases fl with
 | ret u=>
  obtain⟨v,c,H',J,m,q⟩:=hs;exact j J m q
 | next=>
  obtain⟨c,H',J,q⟩:=hs;exact j (v:=V.f6) (u:=Value.none) J rfl q
 | brk=>
  obtain⟨_,_,_,q⟩:=hs;exact False.elim q
 | cont=>
  obtain⟨_,_,_,q⟩:=hs;exact False.elim q
section
variable {X:Cx}{x:Str}{p pos:Pos}{e:aA}{es:List aA}{t:TA}{id T:String}{r:List V->Hp->VK->Prop}
abbrev JS (r:List V->Hp->VK->Prop)(t:TA):TE:=λσ H Q=>t σ H λc H1=>r c H1 Q
def BU(hc:gi X (.builtin id) r)(hg:Gl X x)(hm:X.mg x=none)(hv:bootBuiltins x=some (.builtin id))(ha:PA X (e::es) t)(hn:x ≠ "__name__" := by decide)(hdb:(x == ("__debug__" : Str))=false:=by decide)
  (he:starEach (e::es) X.env=(false,eval e X.env)::starEach es X.env:=by rfl) (hpl:(backTo pos<|starEach es X.env).any (·.1)=false:=by rfl):PE X (.Call (.Name x p) (e::es) [] pos) (JS r t):=by
 k_ne;refine d_<|ng I hg hm hv ?_ hn hdb;exact PyProof.Rows.callWith_builtin1 (gY (ha pos pins s σ H _ I h) λus d ⟨f,H1,c,r1,q1⟩=>hc pins d σ H1 f us Q c r1 q1) he hpl
def ym(hc:gi X (.type T) r)(hg:Gl X x)(hm:X.mg x=none)(hv:bootBuiltins x=some (.type T))(ha:PA X (e::es) t)(hn:x ≠ "__name__" := by decide)(hdb:(x == ("__debug__" : Str))=false:=by decide)
  (he:starEach (e::es) X.env=(false,eval e X.env)::starEach es X.env:=by rfl) (hpl:(backTo pos<|starEach es X.env).any (·.1)=false:=by rfl):PE X (.Call (.Name x p) (e::es) [] pos) (JS r t):=by
 k_ne;refine d_<|ng I hg hm hv ?_ hn hdb;exact cy (gY (ha pos pins s σ H _ I h) λus d ⟨f,H1,c,r1,q1⟩=>hc pins d σ H1 f us Q c r1 q1) he hpl
end
end L2
namespace HT
open PySem PyProof.Rows
section
variable {prog:ah}{w:af}{A:au}{E:aa->az->Prop}{s:az}
def CB{vs ws:ar}{Q:aa->az->Prop}(ht:IsTup s.heap t vs.toArray)(hb:IsTup s.heap b ws.toArray)(hv:vs≠[])
  (h1:ws=[]->Q (.ref t) s) (h2:ws≠[]->Q (.ref s.heap.objs.size) { s with heap:=s.heap.push { cls:=.type "tuple",data:=.seq (vs++ws).toArray }})
  (hsz:vs.length+ws.length<=sizeLine):wpAny (model prog w) A (binaryOp .Add (.ref t)<|.ref b) Q E s:=by
 obtain⟨⟨cls,C,data,q⟩,k,hc,n,hd⟩:=id ht;obtain⟨⟨p,g,m,d⟩,c,f,B,j⟩:=id hb;simp only at hc hd f j;subst hc hd f j;have e:vs.toArray++ws.toArray=(vs++ws).toArray:=by simp
 by_cases hw:ws=[]
 ·exact concat_meets ⟨_,k,rfl⟩ ⟨_,c,rfl⟩ noFill_tuple_add seq_tuple_add dG dD (dh _ _)
   (tuple_addW1 t b vs.toArray ws.toArray n B C g q d (by simpa using hv)<|by simp[hw]) ⟨k,c,h1 hw⟩
 ·refine concat_meets ⟨_,k,rfl⟩ ⟨_,c,rfl⟩ noFill_tuple_add seq_tuple_add dG dD (dh _ _)
   (tuple_addW2 t b vs.toArray ws.toArray n B C g q d (by simpa using hv) (by simpa using hw)<|by rw[aI,aI];exact hsz) ⟨k,c,?_⟩
  rw[e];exact h2 hw
abbrev iC (n d:Nat):bi->Nat
 | none=>d
 | some v=>if v<0 then(v+(n:Int)).toNat else min v.toNat n
def yR(n d:Nat):iC n d none=d:=rfl
def CO(n d k:Nat):iC n d (some (k:Int))=min k n:=by
 show(if (k:Int)<0 then((k:Int)+(n:Int)).toNat else min (k:Int).toNat n)=min k n;rw[bu (),Int.toNat_natCast]
def Fj(n d:Nat)(hd:d<=n)(o:bi):iC n d o<=n:=by
 cases o with
 | none=>exact hd
 | some v=>
  show(if v<0 then(v+(n:Int)).toNat else min v.toNat n)<=n;by_cases hv:v<0
  ·rw[aZ hv];lia
  ·rw[bu hv];exact Nat.min_le_right _ _
def vI(v:Int)(n d:Nat):(if v<0 then max (v+(n:Int)) 0 else min v (n:Int))=((iC n d (some v):Nat):Int):=by
 show(if v<0 then max (v+(n:Int)) 0 else min v (n:Int))=(((if v<0 then(v+(n:Int)).toNat else min v.toNat n):Nat):Int);by_cases hv:v<0
 ·dsimp[aZ hv];lia
 ·dsimp[bu hv];lia
def uy(lo hi:bi)(n:Nat):Builtin.Slice.sliceAdjust lo hi 1 (n:Int)=(((iC n 0 lo:Nat):Int),((iC n n hi:Nat):Int)):=by
 have h1:¬((1:Int)<0):=()
 unfold Builtin.Slice.sliceAdjust;dsimp[h1,dW];refine Prod.ext ?_ ?_
 ·cases lo with
  | none=>rfl
  | some v=>exact vI v n 0
 ·cases hi with
  | none=>rfl
  | some v=>exact vI v n n
def uN(i j:Nat):Builtin.Slice.slicePlaces (i:Int) (j:Int) 1=j-i:=by
 unfold Builtin.Slice.slicePlaces;have h1:(1:Int)>0:=()
 dsimp[h1,dH,Int.ediv_one];split<;>lia
def oH{v:aa}{Q:bi->az->Prop}(p:IsPart v o)(h:Q o s):wpAny (model prog w) A (Builtin.Slice.slicePartIndex v) Q E s:=by
 cases p with
 | none=>exact slicePart_none h
 | int i t=>exact slicePart_int h
def nI{lo:bi}{n:Nat}{Q:Int×Int×Nat->az->Prop}(hs:s.heap.IsSliceOf sl vl vu .none)(pl:IsPart vl lo)(pu:IsPart vu hi)
  (h:Q (((iC n 0 lo:Nat):Int),1,iC n n hi-iC n 0 lo) s):wpAny (model prog w) A (Builtin.Slice.sliceApplied (.ref sl)<|pure (n:Int)) Q E s:=by
 obtain⟨g,c,f,d⟩:=id hs;unfold Builtin.Slice.sliceApplied Builtin.Slice.sliceFields;refine aJ<|aJ<|dX c d (x:=vl) rfl<|aJ<|dX c d (x:=vu) rfl<|aJ<|dX c d (x:=.none) rfl<|aT ?_;refine aJ (slicePart_none ?_)
 skip
 rw[bu ⋯];refine aJ<|oH pl<|aJ<|oH pu<|aJ<|aT ?_;show wpAny _ _ (match Builtin.Slice.sliceAdjust lo hi 1 (n:Int)with|(lo,hi)=>pure (lo,(1:Int),Builtin.Slice.slicePlaces lo hi 1)) _ _ s;rw[uy lo hi n];show wpAny _ _ (pure (((iC n 0 lo:Nat):Int),(1:Int),Builtin.Slice.slicePlaces ((iC n 0 lo:Nat):Int) ((iC n n hi:Nat):Int) 1)) _ _ s;rw[uN];exact aT h
def zH(xs:Array aa)(i k:Nat):((List.range k).filterMap λ(m:Nat)=>xs[((i:Int)+(m:Int) * 1).toNat]?).toArray=((xs.toList.drop i).take k).toArray:=by
 have e:(λ(m:Nat)=>xs[((i:Int)+(m:Int) * 1).toNat]?)=λm=>xs[i+m]?:=by
  funext m
  have:((i:Int)+(m:Int) * 1).toNat=i+m:=()
  rw[this]
 rw[e];have:=pick_run xs i k;rw[List.filterMap_map]at this;have e2:((λx=>xs[x]?) ∘ λx=>i+x)=λm=>xs[i+m]?:=rfl;rw[e2]at this;rw[this]
def mQ{items:Array aa}{lo:bi}{Q:aa->az->Prop}(ht:IsTup s.heap t items)(hs:s.heap.IsSliceOf sl vl vu .none)(pl:IsPart vl lo)(pu:IsPart vu hi)
  (hw:¬(iC items.size 0 lo=0/\iC items.size items.size hi=items.size))
  (h:Q (.ref s.heap.objs.size) { s with heap:=s.heap.push { cls:=.type "tuple",data:=.seq ((items.toList.drop<|iC items.size 0 lo).take<|iC items.size items.size hi-iC items.size 0 lo).toArray }})
  (hsz:items.size<=sizeLine):wpAny (model prog w) A (getItem (.ref t)<|.ref sl) Q E s:=by
 have c:sizeOk (.seq ((items.toList.drop<|iC items.size 0 lo).take<|iC items.size items.size hi-iC items.size 0 lo).toArray):=by
  show((items.toList.drop<|iC items.size 0 lo).take<|iC items.size items.size hi-iC items.size 0 lo).toArray.size<=sizeLine;rw[aI,cO,cP,cj];omega
 have B:iC items.size items.size hi<=items.size:=Fj _ _ (aL _) hi;obtain⟨k,g,j,p⟩:=id hs;have d:s.TypeIs (.ref sl) "slice" := ⟨k,g,j⟩;unfold getItem
 try with_reducible refine dg ?_
 first|refine aJ (aT ?_)|skip
 refine aJ<|wpAny_sequenceKey ht.typeIs ⋯ ?_;refine aJ (wpAny_callSpecial?_slot (name:=Str.ofString "__getitem__") ht.typeIs bH
  (wpAny_call_entry bH ht.typeIs entry_tuple_getitem ?_<|args_tuple_getitem _ _))
 show wpAny _ _ (Builtin.Tuple.tupleItemsOf (.ref t) >>= _) _ _ s;refine aJ<|tupleItemsOf_ ht ?_;refine aJ<|wpAny_typeOf d ?_;rw[aZ ⋯];refine aJ<|nI hs pl pu ?_;have f:¬((((iC items.size 0 lo:Nat):Int) == 0 && (1:Int) == 1 && (iC items.size items.size hi-iC items.size 0 lo) == items.size)=true):=by
  intro q;rw[bQ,bQ]at q;have q1:((iC items.size 0 lo:Nat):Int)=0:=eq_of_beq q.1.1;have q2:iC items.size items.size hi-iC items.size 0 lo=items.size:=eq_of_beq q.2;exact hw ⟨by omega,by omega⟩
 show wpAny _ _ (if (((iC items.size 0 lo:Nat):Int) == 0 && (1:Int) == 1 && (iC items.size items.size hi-iC items.size 0 lo) == items.size)=true then _ else _) _ _ s;rw[bu f,zH]
 first
  | exact aJ (m:=Builtin.Tuple.tupleExact _) (bI (aT ⟨_,rfl,aT h⟩) c)
  | exact aJ (m:=Builtin.Tuple.tupleExact _) (bI (aJ<|aT<|aT ⟨_,rfl,aT h⟩) c)
  | exact aJ (aJ (m:=Builtin.Tuple.tupleExact _)<|bI (aT<|aT ⟨_,rfl,aT h⟩) c)
  | exact aJ<|aJ (m:=Builtin.Tuple.tupleExact _)<|bI (aT ⟨_,rfl,aT h⟩) c
end
end HT
namespace L2
open PySem PySem.Spec PyProof.Rows
meta abbrev TO:=St->Hp->(bi->Hp->Prop)->Prop
abbrev PO (X:Cx)(e:Option aA)(t:TO):Prop:=
 ∀(pins:bo) (s:az) (σ:St) (H:Hp) (Q:bi->Hp->Prop),Inv X pins σ H s->t σ H Q ->
  wpAny (model X.prog X.w) X.A (evalPart e X.env) (λu s'=>∃o H',Inv X pins σ H' s'/\IsPart u o/\Q o H') X.xe s
abbrev Cd:TO:=λ_ H Q=>Q none H
abbrev HX (t:TE):TO:=λσ H Q=>t σ H λx H1=>∃i,x=.int i/\Q (some i) H1
def intsAre_of{ns:ae}:∀{us:ar},Vals (ns.map V.int) us->IntsAre us ns:=by
 induction ns with
 | nil=>intro us r;rw[cS]at r;cases r;exact .nil
 | cons n ns c=>
  intro us r;rw[bJ]at r
  cases r with
  | cons r1 r2=>
   obtain⟨t,e⟩:=r1;subst e;exact .cons n t<|c r2
section
variable {X:Cx}{e:aA}{te:TE}{lo hi:Option aA}{tl th:TO}{pos p2:Pos}
def Cp:PO X none Cd:=by
 k_ne;rw[eF];exact aT ⟨none,H,I,.none,h⟩
def CF(h:PE X e te):PO X (some e) (HX te):=by
 intro pins s σ H Q I hw;rw[evalPart_some];refine gY (h pins s σ H _ I hw) λu d ⟨x,H1,c,r1,q1⟩=>?_;obtain⟨i,rfl,q⟩:=q1;obtain⟨t,rfl⟩:=r1;exact⟨some i,H1,c,.int i t,q⟩
abbrev IP (X:Cx)(r:V->bi->bi->Hp->VK->Prop):Prop:=
 ∀(pins:bo) (s:az) (σ:St) (H:Hp) (x:V) (v f d:aa) (lo hi:bi) (c:aj) (Q:VK),Inv X pins σ H s->RelV x v->s.heap.IsSliceOf c f d .none->IsPart f lo->IsPart d hi->r x lo hi H Q ->
  ∃T id,typeLookup (.type T) "__getitem__" = pure (some<|.builtin id)/\s.TypeIs v T/\wpAny (model X.prog X.w) X.A (getItem v<|.ref c) (EP X pins σ Q) X.xe s
abbrev KY (r:V->bi->bi->Hp->VK->Prop)(te:TE)(tl th:TO):TE:=λσ H Q=>te σ H λx H1=>tl σ H1 λl H2=>th σ H2 λu c=>r x l u c Q
def Bh{r:V->bi->bi->Hp->VK->Prop}(hr:IP X r)(he:PE X e te)(hl:PO X lo tl)(hu:PO X hi th):PE X (.Subscript e (.Slice lo hi none p2) pos) (KY r te tl th):=by
 k_ne;refine Subscript_<|gY (he pins s σ H _ I h) λv j ⟨x,H1,B,r1,q1⟩=>?_;refine wpAny_Slice<|gY (hl pins j σ H1 _ B q1) λf C ⟨l,H2,k,D,q2⟩=>gY (hu pins C σ H2 _ k q2) λd c ⟨u,g,m,F,q3⟩=>?_;rw[eF];refine aT ?_;have p:Inv X pins σ g { c with heap:=c.heap.push { cls:=.type "slice",data:=.fields #[f,d,.none]}}:=m.kept (t':=c.toks) λb G q=>aO _ q;obtain⟨T,id,hT,ht,hg⟩:=hr pins { c with heap:=c.heap.push { cls:=.type "slice",data:=.fields #[f,d,.none]}} σ g x v f d l u c.heap.objs.size Q p r1 (ee ..) D F q3
 skip
 exact tail_any (ops:=[.ref c.heap.objs.size,v]) ht hT hg<|by with_unfolding_all rfl
abbrev sZ (xs:List V)(lo hi:bi):List V:=(xs.drop<|HT.iC xs.length 0 lo).take<|HT.iC xs.length xs.length hi-HT.iC xs.length 0 lo
def nR(xs:List V)(lo hi:bi):(sZ xs lo hi).length<=xs.length:=by
 unfold sZ;rw[cO,cP]
 lia
abbrev JA (K:aq):V->bi->bi->Hp->VK->Prop:=λx lo hi H Q=>∃a xs,x=.ref a/\iR K H a xs /\
 ¬(HT.iC xs.length 0 lo=0/\HT.iC xs.length xs.length hi=xs.length)/\∀p,H p=none->Q (.ref p) (upd H p<|.tup<|sZ xs lo hi)
def F8:IP X (JA X.K):=by
 intro pins s σ H x v C p lo hi m Q I rx hs j k h;obtain⟨a,xs,rfl,hx,hw,q⟩:=h
 cases rx
 obtain⟨d,r,g,f⟩:=I.tuple hx;have c:d.toArray.size=xs.length:=by rw[aI];exact r.length.symm
 refine⟨"tuple",_,bH.lookup,g.typeIs,?_⟩;refine HT.mQ g hs j k (by rw[c];exact hw) ?_ (by rw[c];exact f);rw[c];refine⟨.ref s.heap.objs.size,_,I.laid (t':=s.toks) (o:=.tup<|sZ xs lo hi) (λb B q=>aO _ q) (aL _) ?_,rfl,q _<|I.hok.fresh<|aL _⟩;exact⟨bF (nR xs lo hi) f,_,(r.drop<|HT.iC xs.length 0 lo).take<|HT.iC xs.length xs.length hi-HT.iC xs.length 0 lo,iI.new _ _⟩
abbrev GZ (K:aq):R2:=λx y H Q=>∃a b xs ys,x=.ref a/\y=.ref b/\iR K H a xs/\iR K H b ys/\xs≠[]/\xs.length+ys.length<=sizeLine /\
 (ys=[]->Q (.ref a) H)/\(ys≠[]->∀p,H p=none->Q (.ref p) (upd H p<|.tup<|xs++ys))
def Vals.qR(r:Vals xs us):us=[] ↔ xs=[]:=by
 cases r with
 | nil=>simp
 | cons _ _=>simp
def CG:iP X (binaryOp .Add) (GZ X.K):=by
 gn_on;obtain⟨a,b,xs,ys,rfl,rfl,g,f,hx,d,q1,q2⟩:=h
 cases rx
 cases ry
 obtain⟨j,r1,p1,_⟩:=I.tuple g;obtain⟨c,r2,p2,_⟩:=I.tuple f;refine HT.CB p1 p2 (λz=>hx<|r1.qR.mp z) (λz=>⟨.ref a,H,I,rfl,q1<|r2.qR.mp z⟩) (λz=>?_) (by rw[<- r1.length,<- r2.length];exact d);refine⟨.ref s.heap.objs.size,_,I.laid (t':=s.toks) (o:=.tup<|xs++ys) (λb k q=>aO _ q) (aL _) ?_,rfl,q2 (λw=>z<|r2.qR.mpr w) _<|I.hok.fresh<|aL _⟩;exact⟨by rw[aU];exact d,_,r1.append r2,iI.new _ _⟩
end
abbrev pC (n:Nat)(i:Int):bn:=if 0<=i then(if i<n then some i.toNat else none)else if -(n:Int)<=i then some (i+n).toNat else none
abbrev iN {α:Type}(xs:List α)(i:Int):Option α:=(pC xs.length i).bind λj=>xs[j]?
def vM{n:Nat}{i:Int}(h:pC n i=some j):seqIndex? i n=some j/\j<n/\-(n:Int)<=i/\i<n:=by
 unfold pC at h;by_cases h0:0<=i
 ·rw[aZ h0]at h;by_cases h1:i<n
  ·rw[aZ h1]at h;have e:i.toNat=j:=aN h;exact⟨by rw[seqIndex_of h0 h1,e],(),(),h1⟩
  ·rw[bu h1]at h;cases h
 ·rw[bu h0]at h;by_cases h1:-(n:Int)<=i
  ·rw[aZ h1]at h;have e:(i+n).toNat=j:=aN h;exact⟨by rw[seqIndex_neg () h1,e],(),h1,()⟩
  ·rw[bu h1]at h;cases h
def qU{α:Type}{xs:List α}{i:Int}{v:α}(h:iN xs i=some v):∃j,seqIndex? i xs.length=some j/\xs[j]?=some v/\j<xs.length/\-(xs.length:Int)<=i/\i<xs.length:=by
 unfold iN at h
 cases e:pC xs.length i with
 | none=>rw[e]at h;cases h
 | some j=>
  rw[e]at h;obtain⟨h1,c,f,d⟩:=vM e;exact⟨j,h1,h,c,f,d⟩
def DA{α:Type}{xs:List α}{j:Nat}{v:α}(h:xs[j]?=some v):iN xs (j:Int)=some v:=by
 have c:j<xs.length:=(aM.mp h).1;have e:pC xs.length (j:Int)=some j:=by
  unfold pC;rw[aZ (),aZ ()];simp
 unfold iN;rw[e];exact h
abbrev xJ (b:aA):Prop:=∀o i,subscripted b false o i=operate [o,i] (getItem o i)
abbrev HN (X:Cx)(r:R2):Prop:=
 ∀(d c:aA) (pins:bo) (s:az) (σ:St) (H:Hp) (x y:V) (v u:aa) (Q:VK),Inv X pins σ H s->RelV x v->RelV y u->r x y H Q ->
  subscripted c false v u=operate [v,u] (getItem v u)->wpAny (model X.prog X.w) X.A (subscriptTail d c v u) (EP X pins σ Q) X.xe s
abbrev Hl (X:Cx)(id:String)(r:V->List V->Hp->VK->Prop):Prop:=
 ∀(pins:bo) (s:az) (σ:St) (H:Hp) (x:V) (xs:List V) (v:aa) (us:ar) (Q:VK),Inv X pins σ H s->RelV x v->Vals xs us->r x xs H Q ->
  wpAny (model X.prog X.w) X.A (call (.builtin id) (v::us)) (EP X pins σ Q) X.xe s
section
variable {X:Cx}{a b:aA}{ta tb:TE}{pos:Pos}
def Im{r:R2}(hr:HN X r)(ha:PE X a ta)(hb:PE X b tb)(hs:xJ b):PE X (.Subscript a b pos) (Hw r ta tb):=by
 k_ne;exact Subscript_<|E1 ha hb I h λv u c x y H2 d rx ry q=>hr a b pins c σ H2 x y v u Q d rx ry q<|hs _ _
abbrev JK (K:aq):R2:=λx y H Q=>∃p xs i v,x=.ref p/\y=.int i/\iu K H p xs/\iN xs i=some v/\Q v H
abbrev JQ (K:aq):R2:=λx y H Q=>∃p xs i v,x=.ref p/\y=.int i/\iR K H p xs/\iN xs i=some v/\Q v H
abbrev JH:R2:=λx y H Q=>∃z i c,x=.str z/\y=.int i/\z.length<=sizeLine/\iN z.cps.toList i=some c/\Q (.str ⟨#[c]⟩) H
def v8:HN X (JK X.K):=by
 intro d f pins s σ H x y v u Q I rx ry h hs;obtain⟨p,xs,i,z,rfl,rfl,J,L,q⟩:=h
 cases rx
 obtain⟨t,rfl⟩:=ry;obtain⟨B,r,k,P⟩:=I.list J;obtain⟨j,h1,F,U,G,N⟩:=qU L;obtain⟨w,C,m⟩:=r.get F;have D:=r.length;have hn:=nc;have c:EP X pins σ Q w s:=⟨z,H,I,m,q⟩;by_cases h0:0<=i
 ·have g:i.toNat=j:=by
   rw[seqIndex_of h0 N]at h1;exact aN h1
  exact item_listR k.isList h0 () (by rw[g];simpa using C) c hs
 ·have g:(i+(B.toArray.size:Int)).toNat=j:=by
   rw[seqIndex_neg () G]at h1;rw[aI,<- D];exact aN h1
  exact subscriptTail_builtinR (x:=w) k.isList.typeIs er.lookup
   (wpAny_getItem_list_neg (Q:=λr s'=>r=w/\EP X pins σ Q r s') k.isList () (by rw[aI]<;>lia) () (by rw[g];simpa using C) ⟨rfl,c⟩) hs
def EF:HN X (JQ X.K):=by
 intro c f pins s σ H x y v u Q I rx ry h hs;obtain⟨p,xs,i,z,rfl,rfl,D,F,q⟩:=h
 cases rx
 obtain⟨t,rfl⟩:=ry;obtain⟨G,r,k,J⟩:=I.tuple D;obtain⟨j,h1,C,P,L,N⟩:=qU F;obtain⟨w,m,g⟩:=r.get C;have B:=r.length;have hn:=nc;have d:EP X pins σ Q w s:=⟨z,H,I,g,q⟩;exact subscriptTail_builtinR (x:=w) k.typeIs slot_tuple_getitem.lookup
  (getItem_tuple (j:=j) (Q:=λr s'=>r=w/\EP X pins σ Q r s') k () () (by rw[aI,<- B];exact h1) (by simpa using m) ⟨rfl,d⟩) hs
def Gv:HN X JH:=by
 intro d f pins s σ H x y v u Q I rx ry h hs;obtain⟨z,i,c,rfl,rfl,C,p,q⟩:=h;cb_eq;obtain⟨D,rfl⟩:=ry;obtain⟨j,h1,k,F,m,B⟩:=qU p;have g:z.cps.toList.length=z.length:=by simp[Str.length]
 rw[g]at h1 m B;have hn:=nc;exact tail_any (typeIs_str s z t) slot_str_getitem.lookup (getItem_str (c:=c) (by
  have e1:decide (i < -(2 ^ 63:Int))=false:=aW ();have e2:decide (i>=2 ^ 63)=false:=aW ();rw[e1,e2,Bool.or_false]) (by rw[h1];simpa using k) ⟨.str ⟨#[c]⟩,H,I.tok _,⟨_,rfl⟩,q⟩) hs
def uz(its:ar)(n j:Nat)(u:aa):Obj.mapSeq (·.setIfInBounds j u) { cls:=.type "list",data:=.seq its.toArray n }={ cls:=.type "list",data:=.seq (its.set j u).toArray n }:=by
 simp[Obj.mapSeq]
def Inv.lst{H:Hp}{s:az}{p:aj}{xs:List V}(I:Inv X pins σ H s)(h:H p=some (.lst xs)) :
  ∃(its:ar) (n:Nat),Vals xs its/\s.heap.get? p=some { cls:=.type "list",data:=.seq its.toArray n }/\xs.length<=sizeLine:=by
 obtain⟨z,its,n,r,e⟩:=I.hok p _ h;exact⟨its,n,r,e,z⟩
def Inv.Fx{H:Hp}{s:az}{p:aj}{ys:List V}{its its':ar}{n:Nat}{f:Obj->Obj}(I:Inv X pins σ H s)(h:H p=some (.lst xs))
  (ho:s.heap.get? p=some { cls:=.type "list",data:=.seq its.toArray n }) (hf:f { cls:=.type "list",data:=.seq its.toArray n }={ cls:=.type "list",data:=.seq its'.toArray n' }) (r:Vals ys its') (hz:ys.length<=sizeLine) (t:Nat) :
  Inv X pins σ (upd H p<|.lst ys) { s with heap:=s.heap.update p f,toks:=t }:=by
 have e:(s.heap.update p f).get? p=some { cls:=.type "list",data:=.seq its'.toArray n' }:=by
  rw[Heap.get?_update_self f ho<|by rw[hf]<;>rfl,hf]
 refine I.write (x:=p) (e:=p) (by rw[h];trivial) (.inl rfl) (λb u c q=>(Heap.get?_update_other _ _<|cN c).trans q) ⟨_,e⟩ ?_;exact⟨hz,its',n',r,e⟩
abbrev HP:V->V->V->Hp->(Hp->Prop)->Prop:=λo i v H Q=>∃p xs k j,o=.ref p/\i=.int k/\H p=some (.lst xs)/\pC xs.length k=some j/\Q (upd H p<|.lst<|xs.set j v)
def set_list:Fb X HP:=by
 intro pins s σ H o i v U N u Q I J G F h;obtain⟨p,xs,k,j,rfl,rfl,m,K,q⟩:=h
 cases J
 obtain⟨t,rfl⟩:=G;obtain⟨c,n,r,d,L⟩:=I.lst m;obtain⟨h1,P,D,B⟩:=vM K;have f:=r.length;have hn:=nc;have C:Inv X pins σ (upd H p<|.lst<|xs.set j v) { s with heap:=s.heap.update p<|Obj.mapSeq (·.setIfInBounds j u)}:=
  I.Fx m d (uz c n j u) (r.set F j) (by rw[bA];exact L) s.toks
 by_cases h0:0<=k
 ·have g:k.toNat=j:=by
   rw[seqIndex_of h0 B]at h1;exact aN h1
  exact PySem.W.ki_setAt d h0 () (by rw[aI,<- f];exact B)<|by rw[g];exact⟨_,C,q⟩
 ·have g:(k+(c.toArray.size:Int)).toNat=j:=by
   rw[seqIndex_neg () D]at h1;rw[aI,<- f];exact aN h1
  exact PySem.W.ki_setBack d () (by rw[aI,<- f];exact D) ()<|by rw[g];exact⟨_,C,q⟩
def qY(lo hi:bi)(n:Nat):(sliceBounds lo hi none n).1=((HT.iC n 0 lo:Nat):Int)/\(sliceBounds lo hi none n).2.1=((HT.iC n n hi:Nat):Int)/\(sliceBounds lo hi none n).2.2=1:=by
 refine⟨?_,?_,rfl⟩
 ·cases lo with
  | none=>simp[sliceBounds,HT.iC]
  | some i=>
   dsimp[sliceBounds,HT.iC,getD_none,show(1:Int)>0 by decide,dH];by_cases h:i<0
   ·dsimp[h,dH]<;>lia
   ·dsimp[h,dW]<;>lia
 ·cases hi with
  | none=>simp[sliceBounds,HT.iC]
  | some i=>
   dsimp[sliceBounds,HT.iC,getD_none,show(1:Int)>0 by decide,dH];by_cases h:i<0
   ·dsimp[h,dH]<;>lia
   ·dsimp[h,dW]<;>lia
def pP(its:ar)(lo hi:bi):slicePick its.toArray lo hi none=((its.drop<|HT.iC its.length 0 lo).take<|HT.iC its.length its.length hi-HT.iC its.length 0 lo).toArray:=by
 obtain⟨h1,d,c⟩:=qY lo hi its.toArray.size;unfold slicePick;rw[h1,d,c];dsimp[sliceRange_one,pick_run,aI]<;>rfl
abbrev JY (K:aq):V->bi->bi->Hp->VK->Prop:=λx lo hi H Q=>∃a xs,x=.ref a/\iu K H a xs/\∀p,H p=none->Q (.ref p) (upd H p<|.lst<|sZ xs lo hi)
def vc:IP X (JY X.K):=by
 intro pins s σ H x v C p lo hi m Q I rx hs g j h;obtain⟨a,xs,rfl,hx,q⟩:=h
 cases rx
 obtain⟨k,r,d,f⟩:=I.list hx;have c:=r.length;refine⟨"list",_,er.lookup,d.isList.typeIs,?_⟩;refine wpAny_getItem_list_slice d.isList hs g j .none (by simp) ?_ (by rw[aI]<;>lia);rw[pP,<- c];refine⟨.ref s.heap.objs.size,_,I.laid (t':=s.toks) (o:=.lst<|sZ xs lo hi) (λb B q=>aO _ q) (aL _) ?_,rfl,q _<|I.hok.fresh<|aL _⟩;exact⟨bF (nR xs lo hi) f,_,0,(r.drop<|HT.iC xs.length 0 lo).take<|HT.iC xs.length xs.length hi-HT.iC xs.length 0 lo,bx _ rfl⟩
def j6:gi X (.type "list") (λxs H Q=>∃p ys,xs=[.ref p]/\(iu X.K H p ys\/iR X.K H p ys)/\∀l,H l=none->Q (.ref l) (upd H l<|.lst ys)):=by
 kj_on;obtain⟨p,ys,rfl,j,q⟩:=h;mg_lt
 cases rx
 have k:∀(c:ar),Vals ys c->ys.length<=sizeLine->∀(h':ak) (f:Nat),(∀b o',s.heap.get? b=some o'->h'.get? b=some o') ->
   h'.get? s.heap.objs.size=some { cls:=.type "list",dict:=none,data:=.seq c.toArray f,slots:=#[]}->EP X pins σ Q (.ref s.heap.objs.size) { s with heap:=h' }:=λc d g h' f kp e=>
  ⟨.ref s.heap.objs.size,_,I.laid (t':=s.toks) kp (aL _)<|show iw X.prog X.w _ h' _ (.lst ys)from⟨g,c,f,d,e⟩,rfl,q _<|I.hok.fresh<|aL _⟩
 rcases j with j|j
 ·obtain⟨c,d,C,g⟩:=I.list j;have m:=d.length;obtain⟨o,B,hc,n,hd⟩:=C.isList;exact call_list_seq p (.inl rfl) B hc hd (λh' f kp e=>k c d g h' f kp e) (by dsimp[aI]<;>lia)
 ·obtain⟨c,d,C,g⟩:=I.tuple j;have m:=d.length;obtain⟨o,B,hc,n,hd⟩:=C;exact call_list_seq p (.inr rfl) B hc hd (λh' f kp e=>k c d g h' f kp e)<|by dsimp[aI]<;>lia
def jN:gi X (.type "tuple") (λxs H Q=>∃p ys,xs=[.ref p]/\((iu X.K H p ys/\∀l,H l=none->Q (.ref l) (upd H l<|.tup ys))\/(iR X.K H p ys/\Q (.ref p) H))):=by
 kj_on;obtain⟨p,ys,rfl,h⟩:=h;mg_lt
 cases rx
 rcases h with⟨d,q⟩|⟨d,q⟩
 ·obtain⟨c,f,g,j⟩:=I.list d;have m:=f.length;refine call_tuple_list g.isList (λh' kp=>?_) (by dsimp[aI]<;>lia);have k:Inv X pins σ H { s with heap:=h' }:=I.kept (t':=s.toks) kp;have B:Inv X pins σ (upd H h'.objs.size<|.tup ys) { s with heap:=h'.push { cls:=.type "tuple",data:=.seq c.toArray }}:=
   k.laid (t':=s.toks) (λb o e=>aO _ e) (aL _) (show iw X.prog X.w _ _ _ (.tup ys)from⟨j,c,f,iI.new _ _⟩)
  exact⟨.ref h'.objs.size,_,B,rfl,q _<|k.hok.fresh<|aL _⟩
 ·obtain⟨c,f,g,j⟩:=I.tuple d;exact call_tuple_same g ⟨.ref p,H,I,rfl,q⟩
abbrev Je (K:aq)(T:String)(x:V)(H:Hp):Prop:=match x with
 | .str _=>T = "str"
 | .int _=>T = "int"
 | .ref p=>(T = "list" /\ ∃xs,iu K H p xs)\/(T = "tuple" /\ ∃o,K.lookup p=some o/\o.cls=.type "tuple" /\ o.dict=none) \/
   (T = "dict" /\ ((∃c,H p=some (.dK c))\/∃c,H p=some (.dT c)))\/(T = "set" /\ ∃S n,H p=some (.set S n))
 | _=>False
def FW{H:Hp}{s:az}{x:V}{v:aa}(I:Inv X pins σ H s)(r:RelV x v)(ty:Je X.K T x H) :
  s.TypeIs v T/\∀a,v=.ref a->∃ob,s.heap.get? a=some ob/\ob.dict=none:=by
 cases x with
 | str z=>
  obtain⟨t,rfl⟩:=r
  cases(show T = "str" from ty)
  exact⟨typeIs_str s z t,nofun⟩
 | int i=>
  obtain⟨t,rfl⟩:=r
  cases(show T = "int" from ty)
  exact⟨typeIs_int s i t,nofun⟩
 | ref p=>
  cases r
  rcases ty with⟨rfl,xs,j⟩|⟨rfl,o,d,hc,hd⟩|⟨rfl,d⟩|⟨rfl,S,n,d⟩
  ·obtain⟨k,_,g,_⟩:=I.list j;refine⟨g.isList.typeIs,λa e=>?_⟩
   cases e
   obtain⟨o,n,e,c,hd,_⟩:=g;exact⟨o,e,hd⟩
  ·refine⟨⟨o,I.rA p o d,hc⟩,λa e=>?_⟩
   cases e
   exact⟨o,I.rA _ o d,hd⟩
  ·have z:∃o,s.heap.get? p=some o/\o.ExactDict:=by
    rcases d with⟨f,d⟩|⟨f,d⟩
    ·obtain⟨_,_,_,_,o,_,_,e,ex,_⟩:=I.hok p _ d;exact⟨o,e,ex⟩
    ·obtain⟨_,_,_,_,o,_,_,e,ex,_⟩:=I.hok p _ d;exact⟨o,e,ex⟩
   obtain⟨o,e,ex⟩:=z;refine⟨⟨o,e,ex.1⟩,λa e2=>?_⟩
   cases e2
   exact⟨o,e,ex.2.1⟩
  ·obtain⟨o,_,_,_,e,ex,_⟩:=I.hok p _ d;refine⟨⟨o,e,ex.1⟩,λa e2=>?_⟩
   cases e2
   exact⟨o,e,ex.2.1⟩
 | _=>exact False.elim ty
abbrev KR (K:aq)(T:String)(r:V->List V->Hp->VK->Prop)(to:TE)(t:TA):TE:=λσ H Q=>to σ H λx H1=>Je K T x H1/\t σ H1 λxs H2=>r x xs H2 Q
variable {o e:aA}{es:List aA}{to:TE}{t:TA}{name:Str}{apos cpos:Pos}{T id:String}{r:V->List V->Hp->VK->Prop}
def G9(pa:PlainAttrs T)(slot:Slot T name id)(hty:typeOf (.builtin id)=pure (.type "method_descriptor"))(hm:Hl X id r)(ho:PE X o to)(ha:PA X (e::es) t)
  (hbase:attributeBase o name X.env (eval o X.env)=eval o X.env:=by rfl)
  (hfew:((backTo cpos<|starEach (e::es) X.env).all (λx=>!x.1) && (backToKw cpos<|keywordEach [] X.env).all (λx=>x.1.isSome)
   && decide ((e::es).length+([]:List Keyword).length+(if ([]:List Keyword).isEmpty then 0 else 1)<30))=true:=by rfl)
  (hline:(apos.endLine == cpos.line)=true:=by rfl) (hs:starEach (e::es) X.env=(false,eval e X.env)::starEach es X.env:=by rfl) (hplain:(backTo cpos<|starEach es X.env).any (·.1)=false:=by rfl) :
  PE X (.Call (.Attribute o name apos) (e::es) [] cpos) (KR X.K T r to t):=by
 k_ne;refine wpAny_Call_method_late hbase hfew hline rfl<|gY (ho pins s σ H _ I h) λv j ⟨x,H1,c,r1,ty,q1⟩=>?_;obtain⟨h1,g⟩:=FW c r1 ty;refine⟨T,id,pa,slot,hty,h1,g,?_⟩;have d:=ha cpos pins j σ H1 _ c q1;rw[hs]at d ⊢;refine Calls.callWith_builtin (by show(false || (backTo cpos<|starEach es X.env).any (·.1))=false;rw[hplain]<;>rfl)<|Calls.evalArgs_plain ?_;exact gY d λus f ⟨k,H2,m,r2,q2⟩=>hm pins f σ H2 x k v us Q m r1 r2 q2
end
abbrev Kr (X:Cx)(id:String)(r:V->List V->Hp->VK->Prop):Prop:=
 ∀(pins:bo) (s:az) (σ:St) (H:Hp) (x:V) (xs:List V) (v:aa) (us:ar) (Q:VK),Inv X pins σ H s->RelV x v->Vals xs us->r x xs H Q ->
  wpAny (model X.prog X.w) X.A (call (.builtin id) (v::us)) (EP X pins σ Q) X.xe s
def Vals.one:∀{x:V}{us:ar},Vals [x] us->∃u,us=[u]/\RelV x u
 | _,_,.cons r .nil=>⟨_,rfl,r⟩
theorem Vals.eraseIdx:∀{xs:List V}{us:ar}(i:Nat),Vals xs us->Vals (xs.eraseIdx i) (us.eraseIdx i)
 | _,_,_,.nil=>.nil
 | _,_,0,.cons _ t=>t
 | _,_,i+1,.cons r t=>.cons r<|Vals.eraseIdx i t
def Vals.reverse{xs:List V}{us:ar}(h:Vals xs us):Vals xs.reverse us.reverse:=by
 induction h with
 | nil=>exact .nil
 | cons r t c=>rw[cH,cH];exact Vals.append c<|.cons r .nil
theorem Vals.rep(h:Vals xs us):∀k:Nat,Vals (List.replicate k xs).flatten (List.replicate k us).flatten
 | 0=>.nil
 | k+1=>by
  rw[bZ,bZ,cI,cI];exact Vals.append h<|Vals.rep h k
theorem qt{α:Type}:∀(l:List α) (i:Nat),(l.eraseIdx i).length<=l.length
 | [],_=>aL _
 | _::_,0=>Nat.le_succ _
 | _::r,i+1=>c8<|qt r i
theorem foldl_rep(its:ar):∀(k:Nat) (acc:ar),
  List.foldl (λx1 x2=>x1++x2) acc.toArray (List.replicate k its.toArray)=(acc++(List.replicate k its).flatten).toArray
 | 0,acc=>by simp
 | k+1,acc=>by
  have e:acc.toArray++its.toArray=(acc++its).toArray:=by simp
  have e2:(acc++its)++(List.replicate k its).flatten=acc++(List.replicate (k+1) its).flatten:=by
   rw[bZ,cI,dI]
  rw[<- e2,<- foldl_rep its k (acc++its),<- e,bZ,List.foldl_cons]
section
variable {X:Cx}{pins:bo}{σ:St}{H:Hp}{s:az}{l:aj}{xs ys:List V}
def Inv.ED{its its':ar}{n:Nat}{f:Array aa->Array aa}{t':Nat}(I:Inv X pins σ H s)(hH:H l=some (.lst xs))
  (e:s.heap.get? l=some { cls:=.type "list",data:=.seq its.toArray n }) (hf:f its.toArray=its'.toArray) (hv:Vals ys its') (hz:ys.length<=sizeLine) :
  Inv X pins σ (upd H l<|.lst ys) { s with heap:=s.heap.update l<|Obj.mapSeq f,toks:=t' }:=by
 have q:=PySem.IsL.update e f;rw[hf]at q;refine I.write (x:=l) (e:=l) (by rw[hH];exact trivial) (.inl rfl) (λg u c d=>(Heap.get?_update_other s.heap (Obj.mapSeq f)<|cN c).trans d) ⟨_,q⟩ ?_;exact⟨hz,its',_,hv,q⟩
def Inv.Cn{its:ar}{t':Nat}(I:Inv X pins σ H s)(hv:Vals ys its)(hz:ys.length<=sizeLine) :
  Inv X pins σ (upd H s.heap.objs.size<|.lst ys) { s with heap:=s.heap.push { cls:=.type "list",data:=.seq its.toArray },toks:=t' }:=
 I.laid (λ_ _ q=>aO _ q) (aL _) ⟨hz,its,0,hv,bx _ rfl⟩
def Inv.fresh(I:Inv X pins σ H s):H s.heap.objs.size=none:=I.hok.fresh<|aL _
def Inv.yh(I:Inv X pins σ H s)(hH:H l=some (.lst xs)):xs.length<=sizeLine/\∃(its:ar) (n:Nat),Vals xs its/\xs.length=its.length/\s.heap.get? l=some { cls:=.type "list",data:=.seq its.toArray n }:=by
 obtain⟨z,its,n,r,e⟩:=I.hok l _ hH;exact⟨z,its,n,r,r.length,e⟩
def z6{n:Nat}(h:n<=sizeLine):Builtin.List.listTooLong n=false:=by
 unfold Builtin.List.listTooLong;exact aW ()
end
section
variable {X:Cx}
abbrev CN:V->List V->Hp->VK->Prop:=λx c H Q=>∃l xs y,x=.ref l/\c=[y]/\H l=some (.lst xs)/\xs.length<sizeLine/\Q .f6 (upd H l<|.lst<|xs++[y])
def qB:Kr X "list.append" CN:=by
 intro pins s σ H x k v us Q I rx f h;obtain⟨l,xs,y,rfl,rfl,d,m,q⟩:=h
 cases rx
 obtain⟨u,rfl,g⟩:=f.one;obtain⟨z,c,n,r,j,e⟩:=I.yh d;refine eL F.slot_list_append ⟨_,e,rfl⟩ F.entry_list_append (F.args_list_append_2 _ _) (PySem.list_append l c.toArray n u<|by rw[aI];lia) ⟨e,?_⟩;refine⟨.f6,_,I.ED (its':=c++[u]) d e (by simp) (r.append<|.cons g .nil) ?_,rfl,q⟩;rw[aU,List.length_singleton]
 lia
abbrev GB:V->List V->Hp->VK->Prop:=λx c H Q=>∃l xs i k y,x=.ref l/\c=[.int i]/\H l=some (.lst xs)/\-(2 ^ 63)<=i/\i<2 ^ 63/\seqIndex? i xs.length=some k/\xs[k]?=some y/\Q y (upd H l<|.lst<|xs.eraseIdx k)
def zZ:Kr X "list.pop" GB:=by
 intro pins s σ H x D v us Q I rx g h;obtain⟨l,xs,i,k,y,rfl,rfl,f,h1,p,B,j,q⟩:=h
 cases rx
 obtain⟨u,rfl,C⟩:=g.one;obtain⟨t,rfl⟩:=C;obtain⟨z,c,n,r,m,e⟩:=I.yh f;obtain⟨w,hw,d⟩:=r.get j;refine eL F.slot_list_pop ⟨_,e,rfl⟩ F.entry_list_pop (F.args_list_pop_2 _ _)
  (MeetsSeq.list_pop_at l c.toArray n i t k w (fitsIndex_both h1 p) (by rw[aI,<- m];exact B) (by rw[<- Array.getElem?_toList];exact hw)<|by rw[aI];lia) ⟨e,?_⟩
 refine⟨y,_,I.ED (its':=c.eraseIdx k) f e ?_ (r.eraseIdx k) ?_,d,q⟩
 ·skip
  rw[List.eraseIdxIfInBounds_toArray]
 ·have:=qt xs k
  lia
abbrev JN:R2:=λx y H Q=>∃l b xs zs,x=.ref l/\y=.ref b/\H l=some (.lst xs)/\H b=some (.lst zs)/\xs.length+zs.length<=sizeLine/\∀p,H p=none->Q (.ref p) (upd H p<|.lst<|xs++zs)
def EM:iP X (binaryOp .Add) JN:=by
 gn_on;obtain⟨l,b,xs,zs,rfl,rfl,k,f,C,q⟩:=h
 cases rx
 cases ry
 obtain⟨z,d,n,r,m,e⟩:=I.yh k;obtain⟨p,c,B,r2,g,e2⟩:=I.yh f;refine PySem.P.add_list e e2 ?_ (by rw[aI,aI];lia);have j:d.toArray++c.toArray=(d++c).toArray:=by simp
 rw[j];exact⟨.ref _,_,I.Cn (t':=s.toks) (r.append r2)<|by rw[aU];lia,rfl,q _ I.fresh⟩
abbrev Jj:R2:=λx y H Q=>∃l k xs,x=.ref l/\y=.int k/\H l=some (.lst xs)/\-(2 ^ 63)<=k/\k<2 ^ 63/\xs.length * k.toNat<=sizeLine /\
 ∀p,H p=none->Q (.ref p) (upd H p<|.lst (List.replicate k.toNat xs).flatten)
def len_rep{α:Type}(xs:List α)(k:Nat):(List.replicate k xs).flatten.length=k * xs.length:=by
 induction k with
 | zero=>simp
 | succ k c=>rw[bZ,cI,aU,c,Nat.succ_mul,Nat.add_comm]
def F7:iP X (binaryOp .Mult) Jj:=by
 gn_on;obtain⟨l,k,xs,rfl,rfl,K,h1,J,D,q⟩:=h
 cases rx
 obtain⟨t,rfl⟩:=ry;obtain⟨z,c,n,r,G,e⟩:=I.yh K;have p:c.toArray.size * k.toNat<=sizeLine:=by rw[aI,<- G];exact D
 have j:¬c.toArray.size * k.toNat>(2 ^ 63-1) / 8:=by
  have:(sizeLine:Nat)<=(2 ^ 63-1) / 8:=by decide
  omega
 have g:¬(!Builtin.List.listFitsIndex k)=true:=by
  rw[fitsIndex_both h1 J];exact bE
 have d:¬Builtin.List.listTooLong (c.toArray.size * k.toNat)=true:=by
  rw[z6 p];exact bE
 have f:List.foldl (λC B=>C++B) #[] (List.replicate (if c.toArray.isEmpty=true then 0 else k.toNat) c.toArray)=(List.replicate k.toNat c).flatten.toArray:=by
  have f0:∀m:Nat,List.foldl (λC B=>C++B) #[] (List.replicate m c.toArray)=(List.replicate m c).flatten.toArray:=λm=>by
   have:=foldl_rep c m [];rw[eS]at this;exact this
  rw[f0]
  cases c with
  | nil=>simp
  | cons a L=>rw[bu<|by simp]
 refine wpAny_binaryOp_repeat_ref (T := "list") (U := "int") ⋯ ⟨_,e,rfl⟩ (λs'=>typeIs_int s' k t) noFill_list_mul F.fills_int_mul F.slot_int_rmul repeat_list F.slot_int_index.lookup
  (eL F.slot_int_rmul (typeIs_int s k t) F.entry_int_rmul (F.args_int_rmul_2 _ _) (int___rmul___int_list k t l c.toArray n)
   ⟨e,rfl,⟨_,e,rfl⟩,eL F.slot_list_mul ⟨_,e,rfl⟩ F.entry_list_mul (F.args_list_mul_2 _ _) (AutoListH.list___mul___list_int_3 l c.toArray n k t g j d) ⟨e,?_⟩⟩)
 rw[f];exact⟨.ref _,_,I.Cn (t':=s.toks) (r.rep k.toNat)<|by rw[len_rep,Nat.mul_comm];exact D,rfl,q _ I.fresh⟩
end
end L2
namespace Att
open PySem PySem.W PySem.Calls PyProof.Rows
def nX{P:Params}:∀(ns:ae) (vs:ar),WellAll P h vs (ns.map WData.int)->IntsAre vs ns:=by
 intro ns
 induction ns with
 | nil=>
  intro vs w;rw[cS]at w
  cases w
  exact .nil
 | cons n ns c=>
  intro vs w;rw[bJ]at w
  cases w with
  | cons a b=>
   cases a
   exact .cons _ _<|c _ b
def yq{l:OpenLaw}{n:Nat}(hn:l.most=some n){P:Params}{h:ak}
  (hpre:l.row.toRowW.claim.pre args=true) (hwl:WellAll P h vals args) :
  ∃a vs ns,vals=[Value.ref a]/\args=[WData.list<|ns.map WData.int]/\h.get? a=some { cls:=.type "list",data:=.seq vs.toArray }/\IntsAre vs ns/\ns.length<=n:=by
 have k:WShape.hasAll [] args [.list .int]=true:=(pre_splitW hpre).1;have hc:l.pre.holds [] { args:=args }=true:=(pre_splitW hpre).2;obtain⟨d,r,rfl,h1,p⟩:=hasAllW_cons k;obtain rfl:=hasAllW_nil p;obtain⟨xs,rfl,D⟩:=hasW_list h1;obtain⟨ns,rfl⟩:=items_int D;have f:ns.length<=n:=by
  unfold OpenLaw.pre at hc;have g:(WTm.not<|.lt (.lit<|.int (n:Int))<|.len<|.arg 0).holds [] { args:=[.list<|ns.map .int]}=true:=by
   have g:=(holds_andW hc).1;rw[hn]at g;exact g
  have j:=condW_of g<|w_not<|w_lt w_lit<|w_len_list<|w_arg rfl;rw[aG]at j;refine Nat.le_of_not_lt λq=>?_;have C:(n:Int)<((ns.length:Nat):Int):=by omega
  first
   | (rw[aV C]at j;exact absurd j ⋯)
   | (simp at j;omega)
 cases hwl with
 | cons B F=>
  cases F
  cases B with
  | list m c=>exact⟨_,_,ns,rfl,rfl,m,nX ns _ c,f⟩
def yd(l:OpenLaw)(args:List WData):l.row.toRowW.claim.post args (.bool true) args=true:=
 postW_of (r:=l.row.toRowW) (X:=(true == true))
  (show WShape.has [] (.bool true) .bool=true by first|rfl|decide|simp[WShape.has,WShape.arms,WShape.armsAll])
  (show(WTm.eq .res<|.lit<|.bool true).value [] { args:=args,res:=some<|.bool true,after:=args }=some (.bool<|true == true)from w_eq_bool (w_res rfl) w_lit) rfl
def sO{l:OpenLaw}{n:Nat}{q:ah}{XP:(Str->be)->ak->Prop}{YP:af->ak->Prop}{d:DefRec}
  (hn:l.most=some n) (hdf:d.params.defaults=[])
  (call:∀(w:af) (s₀ s₁:az) (mg mb:Str->be) (fa:aj) (o:Obj) (pm cd doc:aa) (a:aj) (vs:ar) (ns:ae),
   Ground q loose [] XP w s₀ mg mb s₁.heap->YP w s₁.heap ->
   s₁.heap.get? fa=some o->o.data=.func (docDef d.name d.params d.body d.scope pm cd doc)->s₁.heap.CodeRec cd d.name->mg d.name=some (.ref fa) ->
   s₁.heap.get? a=some { cls:=.type "list",data:=.seq vs.toArray }->IntsAre vs ns->ns.length<=n->s₁.gens=#[] ->
   codeAny (model l.prog w) callerA (.call (.ref fa) ⟨[.ref a],[]⟩) (λr s'=>r=.ok (.ret<|.bool true)/\OldK s₁.heap s'.heap/\s'.os=s₁.os/\AllBare s'.gens) s₁) :
  WalkO q loose XP YP l.row.toRowW d [] (λf vs=>PySem.call f vs):=by
 intro w s₀ s₁ mg mb G Y fa o pm cd doc N kV K hd B F m hg C D as k J P p hlo;obtain rfl:N=.none:=Dflts.none F hdf;obtain rfl:kV=.none:=Dflts.noKw F;obtain⟨a,vs,ns,rfl,rfl,j,c,g⟩:=yq hn k p;refine enter_call<|eK (call w s₀ s₁ mg mb fa o pm cd doc a vs ns G Y K (fd_plain hd) B m j c g hg) λr s' U=>?_;obtain⟨rfl,L,Z,V⟩:=U;exact⟨.inl ⟨.bool true,.bool true,[],rfl,λ_=>rfl,.bool true,yd l _,λ_=>⟨List.Pairwise.nil,λ_ W=>(nomatch W)⟩⟩,L,Z,V⟩
end Att
namespace L2
open PySem PySem.Spec PyProof.Rows
theorem m9:∀{vs:ar}{ns:ae},IntsAre vs ns->Vals (ns.map V.int) vs
 | _,_,.nil=>.nil
 | _,_,.cons n t h=>.cons ⟨t,rfl⟩<|m9 h
abbrev DG (H:Hp):Prop:=∀b,H b=none\/∃o xs,H b=some (.frz o<|.lst xs)
def Ai{P:ah}{w:af}{K:aq}{mg mb:Str->be}{CX:B0}{k:Nat}{fa a:aj}{x:Str}{sp:Sp}{s₁:az}{vs:ar}{ns:ae}
  (KX:K.In s₁.heap) (hns:s₁.heap.Ns mainGlobals mg) (hb:s₁.heap.Ns builtinsNs mb) (hbb:∀x:Str,x ≠ "__name__" -> mb x=bootBuiltins x) (hlim:s₁.heap.NoLimit) (hg:s₁.gens=#[])
  (ha:s₁.heap.get? a=some { cls:=.type "list",data:=.seq vs.toArray }) (hi:IntsAre vs ns) (hl:ns.length<=sizeLine) (hr:Room k callerA)
  (F:∀base:ak,K.In base->base.Ns mainGlobals mg->FnOk P w K mg base CX k fa fd [x] sp) (hbind:∀(s:az) (u:aa),BindsTo s fd ⟨[u],[]⟩ [(x,u)])
  (hsp:∀H:Hp,DG H->iu K H a (ns.map V.int)->sp [.ref a] H (λv _=>v=.bl true) λ_ _ _=>False)
  (hCX:∀H e s',CX [] H s₁ (λ_ _ _=>False) e s'->False) :
  codeAny (model P w) callerA (.call (.ref fa) ⟨[.ref a],[]⟩) (λr s'=>r=.ok (.ret<|.bool true)/\OldK s₁.heap s'.heap/\s'.os=s₁.os/\AllBare s'.gens) s₁:=by
 have W:=m9 hi;have j:=hi.length;have g:∀H:Hp,DG H->iu K H a (ns.map V.int)->oB P w H s₁.heap->(∀b,H b≠none->b=a)->(H a≠none->K.lookup a=none) ->
   codeAny (model P w) callerA (.call (.ref fa) ⟨[.ref a],[]⟩) (λr s'=>r=.ok (.ret<|.bool true)/\OldK s₁.heap s'.heap/\s'.os=s₁.os/\AllBare s'.gens) s₁:=by
  intro H Y hS C Z hK;have c:∀{b:aj} {o:Obj},s₁.heap.get? b=some o->H b=none->(rj s₁.heap H).get? b=some o:=λe n=>Be e n;have L:∀{b:aj} {o:Obj} {es:Array DictEntry} {p:Nat},s₁.heap.get? b=some o->o.data=.dict es p->H b=none:=λ{b o es p} e d=>by
   cases q:H b with
   | none=>rfl
   | some u=>
    have N:b=a:=Z b (by rw[q];simp);subst N;rw[ha]at e;cases e;have d':Data.seq vs.toArray _=Data.dict es p:=d
    cases d'
  have f:∀{b:aj} {m:Str->be},s₁.heap.Ns b m->(rj s₁.heap H).Ns b m:=λ{b m} ⟨o,es,p,e,d,r⟩=>⟨o,es,p,c e<|L e d,d,r⟩;have D:K.In (rj s₁.heap H):=λb o e=>c (KX b o e) (by
   cases q:H b with
   | none=>rfl
   | some u=>
    have N:b=a:=Z b (by rw[q];simp);subst N;rw[hK<|by rw[q];simp]at e;cases e)
  have hM:Mod K mg (rj s₁.heap H):=⟨D,f hns,⟨mb,f hb,hbb⟩,let⟨mc,h1,h2⟩:=hlim;⟨mc,f h1,h2⟩⟩;have e0:Env0 P w K mg (rj s₁.heap H) callerA [] s₁ H:=⟨rfl,hM,λb o e=>Cs e,Nat.le_of_eq<|yp _ _,trivial,λb hb=>absurd (show b∈([]:ba)from hb)<|by simp,C,.of_eq hg⟩;refine eK ((F _ D<|f hns).run callerA [] s₁ H ⟨[.ref a],[]⟩ [.ref a] [.ref a] _ _ hr e0 (hbind s₁<|.ref a) (.cons rfl .nil)<|hsp H Y hS) λr s' h=>?_
  cases r with
  | error e=>exact(hCX H e s' h).elim
  | ok fl=>
   cases fl with
   | next=>exact False.elim h
   | brk=>exact False.elim h
   | cont=>exact False.elim h
   | ret u=>
    obtain⟨v,H',os,B,un,G,r',q⟩:=h;have q':v=.bl true:=q;subst q';obtain rfl:u=Value.bool true:=r';refine⟨rfl,OldK.of_keep λb o e=>?_,os,B⟩
    cases q:H b with
    | none=>exact un.keep b o e q (by intro z;exact absurd (show b∈([]:ba)from z)<|by simp) (by simp)
    | some u=>
     rcases Y b with z|⟨ob,xs,z⟩
     ·rw[q]at z;cases z
     ·have z2:=un.frzs b ob _ z;obtain⟨e1,_⟩:=C b _ z;obtain⟨e2,_⟩:=G b _ z2;rw[e]at e1;cases e1;exact e2
 cases U:K.lookup a with
 | some o=>
  have e:=KX a o U;rw[ha]at e
  cases e
  refine g (λ_=>none) (λ_=>.inl rfl) (.inr ⟨_,vs.toArray,_,U,rfl,rfl,rfl,by rw[aI,j];exact hl,by simpa using W⟩) (λb u z=>by have J:(none:Option HO)=some u:=z;cases J) (λb z=>absurd rfl z) λz=>absurd rfl z
 | none=>
  refine g (λb=>if b=a then some (.frz { cls:=.type "list",data:=.seq vs.toArray } (.lst<|ns.map V.int))else none) (λb=>?_) (.inl<|.inr ⟨{ cls:=.type "list",data:=.seq vs.toArray },aZ rfl⟩) (λb u z=>?_) (λb z=>?_) λ_=>U
  ·by_cases hb:b=a
   ·exact .inr ⟨_,_,aZ hb⟩
   ·exact .inl<|bu hb
  ·by_cases hb:b=a
   ·have J:=(aZ hb).symm.trans z
    cases J
    subst hb;exact⟨ha,by rw[aG];exact hl,vs,_,W,ha⟩
   ·have J:=(bu hb).symm.trans z
    cases J
  ·by_cases hb:b=a
   ·exact hb
   ·exact absurd (bu hb) z
def CK{l:PySem.W.OpenLaw}{n k:Nat}{q:ah}{XP:(Str->be)->ak->Prop}{YP:af->ak->Prop}{d:DefRec}{K:Params->aq}{CX:af->B0}{sp:af->Sp}{x:Str}
  (hn:l.most=some n) (hn2:n<=sizeLine) (hdf:d.params.defaults=[]) (hr:Room k callerA)
  (hY:∀(w:af) (h:ak),YP w h->(K w.params).In h)
  (F:∀(w:af) (mg:Str->be) (fa:aj) (h:ak),(K w.params).In h->h.Ns mainGlobals mg->mg d.name=some (.ref fa) ->
   ∃fd:FuncData,(∀(s:az) (u:aa),BindsTo s fd ⟨[u],[]⟩ [(x,u)]) /\
    ∀base:ak,(K w.params).In base->base.Ns mainGlobals mg->FnOk l.prog w (K w.params) mg base (CX w) k fa fd [x] (sp w))
  (hsp:∀(w:af) (H:Hp) (a:aj) (ns:ae),ns.length<=n->DG H->iu (K w.params) H a (ns.map V.int)->sp w [.ref a] H (λv _=>v=.bl true) λ_ _ _=>False)
  (hCX:∀(w:af) (H:Hp) (s:az) (e:aa) (s':az),CX w [] H s (λ_ _ _=>False) e s'->False) :
  PySem.W.WalkO q loose XP YP l.row.toRowW d [] (λf vs=>PySem.call f vs):=by
 refine Att.sO hn hdf λw D p mg mb fa o pm cd P a vs ns G Y ho hd Z B m j c hg=>?_;have C:=hY w _ Y;obtain⟨fd,J,N⟩:=F w mg fa _ C G.T.g B;exact Ai C G.T.g G.T.b G.T.builtins G.T.nolimit hg m j (bF c hn2) hr N J (λH L U=>hsp w H a ns c L U) λH e s'=>hCX w H p e s'
abbrev lC (s:aC):Arguments:=match s with
 | .FunctionDef _ a _ _ _ _ _ _ _ _=>a
 | _=>{ posonlyargs:=[],args:=[],vararg:=none,kwonlyargs:=[],kw_defaults:=[],kwarg:=none,defaults:=[]}
abbrev jz (s:aC):List aC:=match s with
 | .FunctionDef _ _ b _ _ _ _ _ _ _=>b
 | _=>[]
abbrev fN (s:aC):Scope:=match s with
 | .FunctionDef _ _ _ _ _ _ c _ _ _=>c
 | _=>{ kind:=.function,names:=[],isGenerator:=false,isCoroutine:=false }
meta abbrev nL:B0:=λ_ _ _ _ _ _=>False
meta abbrev E0:XK:=λ_ _ _=>False
def GP:Passes nL X E0:=λ_ _ _ _ _ _ _ h=>h.elim
structure Fun (K:aq)(x qual:Str)(st:aC)(f:aj)(fd:FuncData):Prop where
 ex:∃(oc:aa) (od:Option aj) (kV doc pm:aa) (an:Option aj) (cdv ct:aa) (osl:Array<|be),
  fd=PySem.W.fnOf x qual (lC st) (jz st) (fN st) .none kV doc pm an cdv ct/\K.lookup f=some ⟨oc,od,.func fd,osl⟩/\PySem.W.codeIn K cdv qual=true
 kp:PySem.W.keepIn K (.ref f)=true
section
variable {P:ah}{w:af}{K:aq}{mg:Str->be}{base:ak}
def Fun.ok{x:Str}{st:aC}{f:aj}{N ps:am}{k:Nat}{sp:Sp}(F:Fun K x qual st f fd)(S:FnScope N ps<|fN st)(len:∀vs H Q E,sp vs H Q E->vs.length=ps.length)
  (hbody:∀(cdv:aa) (A:au) (outer:List Env) (s:az) (H:Hp) (vs:List V) (Q:VK) (E:XK),Room k (A.deeper<|envOfC qual (fN st) s.heap.objs.size f cdv)->sp vs H Q E ->
   ∃t,rB (uA nL P w K mg base N qual (fN st) f cdv A outer s H E).Ht (jz st) t/\t { nx:=λ_ H'=>Q .f6 H',rt:=Q } (start N vs) H):FnOk P w K mg base nL (k+1) f fd ps sp:=by
 obtain⟨B,C,kV,m,G,D,cdv,ct,j,rfl,g,d⟩:=F.ex;refine HV g d S len λA outer s H vs Q E p c=>?_;obtain⟨t,h,q⟩:=hbody cdv A outer s H vs Q E p c;exact⟨t,h.Ht,q⟩
def Fun.binds{x:Str}{st:aC}{f:aj}{ps:am}(F:Fun K x qual st f fd)
  (h:∀(kV doc pm:aa) (an:Option aj) (cdv ct:aa) (us:ar),us.length=ps.length->bindArgs (PySem.W.fnOf x qual (lC st) (jz st) (fN st) .none kV doc pm an cdv ct) ⟨us,[]⟩=pure (ps.zip us)):Binds K fd ps []:=by
 obtain⟨g,k,kV,doc,pm,an,cdv,ct,c,rfl,j,d⟩:=F.ex;exact .all<|h kV doc pm an cdv ct
def FJ{x:Str}{st:aC}{f:aj}{kV ct:aa}(l:K.lookup f=some ⟨oc,od,.func<|PySem.W.fnOf x qual (lC st) (jz st) (fN st) .none kV doc pm an cdv ct,osl⟩)
  (c:PySem.W.codeIn K cdv qual=true) (k:PySem.W.keepIn K (.ref f)=true):Fun K x qual st f (PySem.W.fnOf x qual (lC st) (jz st) (fN st) .none kV doc pm an cdv ct):=⟨⟨oc,od,kV,doc,pm,an,cdv,ct,osl,rfl,l,c⟩,k⟩
end
set_option maxHeartbeats 4000000
abbrev Fv (σ:St):bn->Option V
 | some j=>(σ[j]?).getD none
 | none=>none
abbrev mU (env:Env):List (Str×NameKind)->List (Str×aj)->List (Str×aj)
 | [],cs=>cs
 | (n,k)::r,cs=>mU env r (if k == .free then(n,(env.cells.lookup n).getD 0)::cs else cs)
def ug{scope:Scope}{env:Env}(h:∀y∈scope.names,y.2=.free->∃c,env.cells.lookup y.1=some c):closureFor scope env=pure (mU env scope.names []):=by
 have f:∀(l:List<|Str×NameKind) (d:List<|Str×aj),(∀y∈l,y.2=.free->∃c,env.cells.lookup y.1=some c) ->
   (forIn l d (λ(x:Str×NameKind) (r:List<|Str×aj)=>(match x with
    | (name,kind)=>if (kind == NameKind.free)=true then(do let c <- cellOf env name;pure (ForInStep.yield ((name,c)::r)))else pure (ForInStep.yield r):Sem<|ForInStep<|List<|Str×aj)))=(pure (mU env l d):Sem<|List<|Str×aj):=by
  intro l
  induction l with
  | nil=>intro d _;rfl
  | cons y r m=>
   intro d g;obtain⟨n,k⟩:=y;rw[List.forIn_cons];by_cases q:k=.free
   ·subst q;obtain⟨c,hc⟩:=g (n,.free) aS rfl;have e1:cellOf env n=pure c:=by
     unfold cellOf;rw[hc]
    dsimp[bR,dH,e1,pure_bind];rw[m _ λz j=>g z<|aK _ j];dsimp[mU,bR,dH,hc,dP]
   ·have p:(k == NameKind.free)=false:=by simpa using q
    dsimp[p,ef,dW,pure_bind];rw[m _ λz j=>g z<|aK _ j];dsimp[mU,p,ef,dW]
 have:=f scope.names [] h;exact(cG (λz=>z >>= λd=>(pure d:Sem<|List<|Str×aj)) this).trans (pure_bind _ _)
theorem oF:∀{l:List<|Str×NameKind}{x:Str}{k:NameKind},l.lookup x=some k->(x,k)∈l
 | [],_,_,h=>nomatch h
 | (n,k')::r,x,k,h=>by
  rw[cz]at h
  cases hx:x == n with
  | true=>
   rw[hx]at h;have e:x=n:=by simpa using hx
   subst e
   cases h
   exact aS
  | false=>rw[hx]at h;exact aK _<|oF h
theorem qv{env:Env}{x:Str}:∀{l:List<|Str×NameKind}{cs:List<|Str×aj},(∀y∈l,y.2=.free->∃c,env.cells.lookup y.1=some c)->(mU env l cs).lookup x=some c->env.cells.lookup x=some c\/cs.lookup x=some c
 | [],cs,_,h=>.inr h
 | (n,k)::r,cs,hl,h=>by
  have h':=qv (l:=r) (λz g=>hl z<|aK _ g) h
  rcases h' with h'|h'
  ·exact .inl h'
  ·by_cases d:k=.free
   ·subst d;dsimp[bR,dH]at h';obtain⟨j,hc⟩:=hl (n,.free) aS rfl;rw[hc,dP,cz]at h'
    cases hx:x == n with
    | true=>
     rw[hx]at h';have e:x=n:=by simpa using hx
     subst e;left;rw[hc];exact h'
    | false=>rw[hx]at h';exact .inr h'
   ·have f:(k == NameKind.free)=false:=by simpa using d
    dsimp[f,ef,dW]at h';exact .inr h'
theorem p5{env:Env}{x:Str}:∀{l:List<|Str×NameKind}{cs:List<|Str×aj},(cs.lookup x).isSome=true->((mU env l cs).lookup x).isSome=true
 | [],cs,h=>h
 | (n,k)::r,cs,h=>by
  skip
  refine p5 (l:=r) ?_;by_cases c:(k == NameKind.free)=true
  ·rw[aZ c,cz]
   cases hx:x == n with
   | true=>rfl
   | false=>exact h
  ·rw[bu c];exact h
theorem pe{env:Env}{x:Str}:∀{l:List<|Str×NameKind}{cs:List<|Str×aj},(x,NameKind.free)∈l->((mU env l cs).lookup x).isSome=true
 | [],_,h=>nomatch h
 | (n,k)::r,cs,h=>by
  rcases bq.mp h with e|h
  ·cases e
   skip
   refine p5 (l:=r) ?_;rw[aZ<|by rfl,cz];simp
  ·exact pe (l:=r) h
theorem lS:∀(names:List<|Str×NameKind) (n:Nat) (acc:List<|Str×aj),cellsFrom n names acc=cellsFrom n names []++acc
 | [],_,_=>rfl
 | (x,k)::r,n,acc=>by
  unfold cellsFrom;split
  ·rw[lS r (n+1) ((x,n)::acc),lS r (n+1) [(x,n)],dI];rfl
  ·exact lS r n acc
theorem uF:∀(names:List<|Str×NameKind) (n:Nat) {x:Str}{c:aj},(x,c)∈cellsFrom n names []->(x,NameKind.cell)∈names
 | [],_,_,_,h=>nomatch h
 | (y,k)::r,n,x,c,h=>by
  unfold cellsFrom at h;split at h
  ·rename_i d;rw[lS]at h
   rcases bh.mp h with z|z
   ·exact aK _ (uF r _ z)
   ·rw[aH]at z
    cases z
    have:k=.cell:=by simpa using d
    rw[this];exact aS
  ·exact aK _<|uF r _ h
theorem mP{α:Type}{x:Str}:∀{l m:List<|Str×α},(l++m).lookup x=match l.lookup x with|some c=>some c|none=>m.lookup x
 | [],_=>rfl
 | (y,c)::l,m=>by
  rw[List.cons_append,cz,cz]
  cases x == y with
  | true=>rfl
  | false=>exact mP
def Cu{n:Nat}{acc:List<|Str×aj}{x:Str}(h:(cellsFrom n names acc).lookup x=some c):(cellsFrom n names []).lookup x=some c\/((cellsFrom n names []).lookup x=none/\acc.lookup x=some c):=by
 rw[lS,mP]at h
 cases e:(cellsFrom n names []).lookup x with
 | some d=>rw[e]at h;exact .inl h
 | none=>rw[e]at h;exact .inr ⟨rfl,h⟩
def Gq{n:Nat}{acc:List<|Str×aj}{x:Str}(h:(x,NameKind.cell)∉names):(cellsFrom n names acc).lookup x=acc.lookup x:=by
 rw[lS,mP]
 cases e:(cellsFrom n names []).lookup x with
 | some d=>exact absurd (uF names n<|bL e) h
 | none=>rfl
def CC{A:au}{E:aa->az->Prop}{s:az}{scope:Scope}{globals:aj}{cl:List<|Str×aj}{env:Env}{Q:Env->az->Prop}
  (hQ:∀h':ak,h'.Ns s.heap.objs.size (λ_=>none)->(∀b o,s.heap.get? b=some o->h'.get? b=some o)->CellsOk h' (s.heap.objs.size+1) (cellsFrom (s.heap.objs.size+1) scope.names []) ->
   Q (newEnv scope s.heap.objs.size globals (cellsFrom (s.heap.objs.size+1) scope.names cl) qual none .none (some env) builtinsNs) { s with heap:=h',toks:=s.toks+([]:List<|Str×aa).length }) :
  wpAny M A (newFunctionEnv scope globals cl [] qual none .none<|some env) Q E s:=by
 dsimp[newFunctionEnv,Option.isSome_some,dH];refine aJ<|wpAny_alloc ?_;refine aJ (wpAny_layCells _ (λname kind c=>by cases d:kind == NameKind.cell<;>simp[d]) _ _ _ _ ?_);have ok:=cellsFrom_ok scope.names (s.heap.push { cls:=.type "dict",data:=.dict #[]}) (s.heap.objs.size+1) [] ⟨λ_ _ f=>(nomatch f),List.Pairwise.nil⟩ (by rw[dJ];exact aL _);rw[dJ]at ok;rw[show({ s with heap:=s.heap.push { cls:=.type "dict",data:=.dict #[]}}:az).heap.objs.size=s.heap.objs.size+1 from dJ ..];rw[List.forIn_nil];refine aJ<|aT<|aT ?_;exact hQ _ ((Heap.Ns.new s.heap<|.type "dict").keeps<|pushCells_keeps _ _) (λb o e=>pushCells_keeps _ _ b o<|aO _ e) ok
abbrev iM (X:Cx)(scope:Scope)(N:am)(C:aj)(s₀:az)(H₀:Hp)(ex:ba):Cx where
 prog:=X.prog
 w:=X.w
 K:=X.K
 mg:=X.mg
 base:=X.base
 A:=X.A
 N:=N
 s₀:=s₀
 H₀:=H₀
 env:=compEnvC scope (cellsFrom (C+1) scope.names<|mU X.env scope.names []) C X.env
 outer:=X.stack
 stack:=X.stack
 ex:=ex
 fn:=λx=>scope.names.lookup x == some .cell
 calm:=X.calm
 pn:=[]
 xe:=λ_ _=>False
structure CpScope (X:Cx)(scope:Scope)(N:am)(cap:List (bn)):Prop where
 kind:scope.kind=.function
 nocf:∀x,(x,NameKind.free)∈scope.names->(x,NameKind.cell)∉scope.names
 nm:∀y∈scope.names,y.2=.local->scope.names.lookup y.1=some .local
 fr:∀y∈scope.names,y.2=.free->X.env.kindOf y.1=some .cell\/X.env.kindOf y.1=some .free
 rl:∀y,((relabel scope X.env).names.lookup y=some .cell\/(relabel scope X.env).names.lookup y=some .free)->(y,NameKind.free)∈scope.names\/scope.names.lookup y=some .cell
 len:cap.length=N.length
 nolf:∀x,(x,NameKind.free)∈scope.names->scope.names.lookup x≠some .local
 cp:∀(i j:Nat) (x:Str),N[i]?=some x->cap[i]?=some (some j)->X.N[j]?=some x/\(x,NameKind.free)∈scope.names
def F9{scope:Scope}{N:am}{cap:List<|bn}{H:Hp}{s:az}{fp:ba}{h₁:ak}{m:Str->be}{tk:Nat}(S:CpScope X scope N cap)(I:Inv X pins σ H s)
  (hf:∀b∈fp,m_ X pins H b) (ho:∀b∈fp,∃o,s.heap.get? b=some o) (hn:h₁.Ns s.heap.objs.size m) (hC:CellsOk h₁ (s.heap.objs.size+1)<|cellsFrom (s.heap.objs.size+1) scope.names []) (hk:∀b o,s.heap.get? b=some o->h₁.get? b=some o) :
  Inv (iM X scope N s.heap.objs.size s H fp) [] (cap.map<|Fv σ) H { s with heap:=h₁,toks:=tk }:=by
 have D:∀y∈scope.names,y.2=.free->∃c,X.env.cells.lookup y.1=some c:=λy hy e=>I.ok.has _<|S.fr y hy e;have lk:∀x c,(mU X.env scope.names []).lookup x=some c->X.env.cells.lookup x=some c:=λx c e=>by
  rcases qv D e with z|z
  ·exact z
  ·cases z
 have f:∀x c,(cellsFrom (s.heap.objs.size+1) scope.names<|mU X.env scope.names []).lookup x=some c->((x,c)∈cellsFrom (s.heap.objs.size+1) scope.names []/\h₁.IsCell c none/\s.heap.objs.size+1<=c)\/X.env.cells.lookup x=some c:=λx c e=>by
  rcases Cu e with z|z
  ·exact .inl ⟨bL z,hC.empty x c<|bL z⟩
  ·exact .inr<|lk x c z.2
 have old:∀x c,X.env.cells.lookup x=some c->c<s.heap.objs.size:=λx c e=>by
  obtain⟨v,z⟩:=I.cell x c e;exact z.lt
 have lt:∀b o,s.heap.get? b=some o->b≠s.heap.objs.size:=λb o e=>bC<|aQ e;refine⟨⟨I.ok.mod,?_,I.ok.glob,I.ok.blt,aL _,?_,?_,?_,I.ok.hd,I.ok.frames,.inl rfl,?_,I.bs,bF I.ok.bsz I.sz,?_,?_,I.stack,I.wo⟩,rfl,I.bare,Un.kept hk,?_,?_,I.hok.fresh<|aL _,?_,?_,I.hok.kept hk,?_⟩
 ·exact S.kind
 ·intro x y c e1 e2
  rcases f x c e1 with a|a
  ·rcases f y c e2 with b|b
   ·exact name_of_addr hC.apart a.1 b.1
   ·exact absurd (old y c b)<|not_lt.mpr<|cQ a.2.2
  ·rcases f y c e2 with b|b
   ·exact absurd (old x c a) (not_lt.mpr<|cQ b.2.2)
   ·exact I.ok.inj x y c a b
 ·intro x e;refine cK.mp (cR _ _ _ ?_)
  rcases S.rl x e with B|B
  ·exact .inr (pe (env:=X.env) (cs:=[]) B)
  ·exact .inl B
 ·intro x c e J;have e:scope.names.lookup x=some .cell:=by
   have e:(scope.names.lookup x == some .cell)=true:=e;simpa using e
  obtain⟨d,hd⟩:=cK.mp<|cR scope.names (s.heap.objs.size+1) []<|.inl e;have J:(cellsFrom (s.heap.objs.size+1) scope.names<|mU X.env scope.names []).lookup x=some c:=J;rw[lS,mP,hd]at J
  cases J
  exact cQ (hC.empty x c<|bL hd).2
 ·intro b G;obtain⟨o,e⟩:=ho b G;refine⟨lt b o e,λx c e2=>?_⟩
  rcases f x c e2 with z|z
  ·exact ne_of_gt (Nat.lt_trans (aQ e) z.2.2)
  ·exact(hf b G).2.2.2.2.1 x c z
 ·intro b o e G;obtain⟨_,_,_,h3,_⟩:=hf b G
  rcases h3 with z|z
  ·exact I.ok.noex b o e z
  ·exact absurd (br (aQ (I.ok.bs b o e).1) z)<|dc _
 ·intro b G hz;obtain⟨_,h1,U,_⟩:=hf b G
  rcases bq.mp (I.uL b hz)with z|z
  ·exact h1 z
  ·exact U z
 ·refine⟨m,hn,λi x v e1 e2 e3=>?_⟩;rw[aR]at e2
  cases hc:cap[i]? with
  | none=>rw[hc]at e2;cases e2
  | some oj=>
   rw[hc]at e2
   cases oj with
   | none=>cases e2
   | some j=>
    have g:(σ[j]?).getD none=some v:=aN e2;obtain⟨hj,B⟩:=S.cp i j x e1 hc;obtain⟨m0,hn0,W⟩:=I.loc;have V:σ[j]?=some (some v):=by
     cases h:σ[j]? with
     | none=>rw[h]at g;cases g
     | some z=>rw[h,dP]at g;rw[g]
    have P:=S.fr (x,.free) B rfl;have hv:IG X.env.scope x:=.inr P;obtain⟨u,ru,lo⟩:=W j x v hj V hv;refine⟨u,ru,?_⟩
    rcases lo with⟨lo,_⟩|⟨_,c,J,ic⟩
    ·rcases P with z|z<;>(rw[z]at lo;cases lo)
    ·have U:=pe (env:=X.env) (cs:=[]) B;obtain⟨Z,C⟩:=cK.mp U;have:Z=c:=aN<|(lk x Z C).symm.trans J;subst this;refine .inr ⟨?_,Z,(Gq<|S.nocf x B).trans C,?_⟩
     ·rcases e3 with z|z|z
      ·exfalso;have:(relabel scope X.env).names.lookup x=some .local:=z;have L:scope.names.lookup x=some .local:=by
        have K:∃k,(x,k)∈(relabel scope X.env).names/\k=.local:=by
         clear C U;have:=oF this;exact⟨_,this,rfl⟩
        obtain⟨k,Y,rfl⟩:=K;obtain⟨⟨n',k'⟩,hm1,q⟩:=bg.mp Y;dsimp only at q;split at q
        ·cases q
        ·cases q
         exact S.nm (x,.local) hm1 rfl
       exact False.elim<|S.nolf x B L
      ·exact .inl z
      ·exact .inr z
     ·obtain⟨o,F,hd⟩:=ic;exact⟨o,hk _ _ F,hd⟩
 ·intro x c e
  rcases f x c e with z|z
  ·exact⟨_,z.2.1⟩
  ·obtain⟨v,o,F,hd⟩:=I.cell x c z;exact⟨v,o,hk _ _ F,hd⟩
 ·intro x c e
  rcases f x c e with z|z
  ·exact I.hok.fresh (cQ z.2.2)
  ·exact I.freeC x c z
 ·intro p hp
  cases hp
 ·rw[aG,S.len];rfl
abbrev EN (X:Cx)(ifs:List aA)(t:TT):Prop:=
 ∀(pins:bo) (s:az) (σ:St) (H:Hp) (Q:Bool->Hp->Prop),Inv X pins σ H s->t σ H Q ->
  wpAny (model X.prog X.w) X.A (forIn ifs true λc r=>if r=true then do let ok <- isTrue c X.env (eval c X.env);pure (ForInStep.yield ok)else pure (ForInStep.yield r)) (TP X pins σ Q) X.xe s
abbrev Jo:TT:=λ_ H Q=>Q true H
def DC:EN X [] Jo:=λ_ _ _ H _ I h=>wpAny_tests_nil ⟨H,I,h⟩
def Dk{c:aA}{t:TT}(h:PT X c t):EN X [c] t:=λpins s σ H Q I q=>wpAny_tests_one<|h pins s σ H Q I q
abbrev EO (cap:List<|bn)(g:TG)(tc:TT)(te:TE)(σ:St)(Q:VK)(J:It)(H1:Hp):Prop:=∀D,H1 D=none ->
 ∃W:Nat->Nat->St->Hp->Prop,(∃m,W 0 m (cap.map<|Fv σ)<|upd H1 D<|.lst [])/\∀i m d H',W i m d H' ->
  (J.stop i H'/\Q (.ref D) H')\/(J.go i H'/\∀x H2,J.yld i H' x H2->g x d H2 λc p=>tc c p λb k=>
   if b=true then te c k λy j=>∃ys,j D=some (.lst ys)/\ys.length<sizeLine/\∃f,f<m/\W (i+1) f c (upd j D<|.lst<|ys++[y])
   else ∃f,f<m/\W (i+1) f c k)
abbrev GW (cap:List<|bn)(wi:TI)(g:TG)(tc:TT)(te:TE):TE:=λσ H Q=>wi σ H<|EO cap g tc te σ Q
def Ds{α:Type}{t:Sem α}{Q Q':α->az->Prop}{A:au}{E:aa->az->Prop}(h:wpAny M A t Q (λ_ _=>False) s)(hQ:∀a s,Q a s->Q' a s):wpAny M A t Q' E s:=
 d9 h hQ λ_ _ f=>f.elim
structure TurnG (ok:Cx->Prop)(P:ah)(w:af)(K:aq)(tg:aA)(J:It)(fp:ba)(it:aj)(tn:Nat->ak->Prop):Prop where
 obj:∀i h,tn i h->∀b∈fp,∃o,h.get? b=some o/\∀v,o.data≠.cell v
 keep:∀i h h',tn i h->(∀b∈fp,∀o,h.get? b=some o->h'.get? b=some o)->tn i h'
 item:∀(X:Cx),X.prog=P->X.w=w->X.K=K->ok X->∀(i:Nat) (pins:bo) (s:az) (σ:St) (H:Hp) (E:aa->az->Prop),Inv X pins σ H s->(∀b∈fp,m_ X pins H b)->tn i s.heap->J.go i H ->
  wpAny (model P w) X.A (pyNext<|.ref it) (λr s1=>∃u,r=some u /\
   wpAny (model P w) X.A (letOwnedTupleGo tg (.ref it) u) (λ_ s2=>∃x H',Inv X pins σ H' s2/\RelV x u/\J.yld i H x H'/\tn (i+1) s2.heap/\∀b∈fp,H' b=none) E s1) E s
 done:∀(X:Cx),X.prog=P->X.w=w->X.K=K->ok X->∀(i:Nat) (pins:bo) (s:az) (σ:St) (H:Hp) (E:aa->az->Prop),Inv X pins σ H s->(∀b∈fp,m_ X pins H b)->tn i s.heap->J.stop i H ->
  wpAny (model P w) X.A (pyNext<|.ref it) (λr s1=>r=none/\Inv X pins σ H s1) E s
 self:∀(A:au) (i:Nat) (s:az) (Q:aa->az->Prop) (E:aa->az->Prop),tn i s.heap->Q (.ref it) s->wpAny (model P w) A (pyIter<|.ref it) Q E s
abbrev JG (ok:Cx->Prop)(X:Cx)(pins:bo)(σ:St)(tg:aA)(R:It->Hp->Prop)(itv:aa)(s2:az):Prop:=
 ∃(it:aj) (c:ba) (d:Nat->ak->Prop) (J:It) (H':Hp),itv=.ref it/\Inv X pins σ H' s2/\TurnG ok X.prog X.w X.K tg J c it d/\d 0 s2.heap/\(∀b∈c,m_ X pins H' b)/\R J H'
abbrev Jl (ok:Cx->Prop)(X:Cx)(tg iter:aA)(wi:TI):Prop:=
 ∀(pins:bo) (s:az) (σ:St) (H:Hp) (R:It->Hp->Prop),Inv X pins σ H s->wi σ H R ->
  wpAny (model X.prog X.w) X.A (eval iter X.env) (λv c=>wpAny (model X.prog X.w) X.A (pyIter v) (JG ok X pins σ tg R) X.xe c) X.xe s
def PI.g{iter:aA}{wi:TI}(h:PI X tg iter wi):Jl (λY=>Y.calm=true) X tg iter wi:=λpins s σ H R I q=>
 gY (h pins s σ H R I q) λv m h1=>gY h1 λf p ⟨it,j,k,J,H',e,d,T,a,b,c⟩=>⟨it,j,k,J,H',e,d,⟨T.obj,T.keep,T.item,T.done,T.self⟩,a,b,c⟩
def wZ{ok:Cx->Prop}{X:Cx}{use:Option<|aa->Sem Unit}{Q':aa->az->Prop}{iter:aA}{N:am}{wi:TI}{g:TG}{tc:TT}{te:TE}(S:CpScope X scope N cap)(hok:∀C s₀ H₀ ex,(∀a o u,X.H₀ a=some (.frz o u)->H₀ a=some (.frz o u))->ok (iM X scope N C s₀ H₀ ex))(hi:Jl ok X tg iter wi)
  (hg:∀C s₀ H₀ ex,PG (iM X scope N C s₀ H₀ ex) tg g) (ht:∀C s₀ H₀ ex,EN (iM X scope N C s₀ H₀ ex) ifs tc) (he:∀C s₀ H₀ ex,PE (iM X scope N C s₀ H₀ ex) elt te)
  (hs:∀x,foldedSetIterable iter X.env x=pure x:=by intro _;rfl):∀(pins:bo) (s:az) (σ:St) (H:Hp) (Q:VK),Inv X pins σ H s->GW cap wi g tc te σ H Q ->
  (∀(s6:az) (C D:aj) (H5:Hp) (m:Str->be),s6.heap.Ns C m->m_ X pins H5 C->(∀h',Heap.SameBut C s6.heap h'->Inv X pins σ H5 { s6 with heap:=h' })->Q (.ref D) H5->∀v,compPost (model X.prog X.w) X.A X.xe use Q' (.ref D) C (.ok v) s6) ->
  wpAny (model X.prog X.w) X.A (comprehension (.ListComp elt [⟨tg,iter,ifs,0⟩] scope pos) scope X.env (firstIterPos [⟨tg,iter,ifs,0⟩] pos) (newList []) (firstAsync [⟨tg,iter,ifs,0⟩]) (firstIter [⟨tg,iter,ifs,0⟩] X.env) use) Q' X.xe s:=by
 intro pins s σ H Q I h hfin;have hfree:∀y∈scope.names,y.2=.free->∃c,X.env.cells.lookup y.1=some c:=λy hy e=>I.ok.has _<|S.fr y hy e;refine wpAny_comprehension_free (use:=use) rfl hs (ug hfree) S.kind S.nm<|gY (hi pins s σ H _ I h) λxv s1 h1=>gY h1 λitv f h2=>?_;obtain⟨it,fp,tn,J,H2,rfl,I2,T,st2,f2,h2⟩:=h2;refine bI<|CC λY F old B=>?_;obtain⟨W,⟨m0,w0⟩,turn⟩:=h2 f.heap.objs.size I2.fresh;dsimp only at F old B ⊢;have I3:Inv X pins σ (upd H2 f.heap.objs.size<|.lst []) { f with heap:=f.heap.push {}}:=I2.Cn (t':=f.toks) (its:=[]) .nil<|cg _;have hfp:∀b∈fp,∃o,f.heap.get? b=some o:=λb j=>by
  obtain⟨o,e,_⟩:=T.obj 0 _ st2 b j;exact⟨o,e⟩
 have neD:∀b∈fp,b≠f.heap.objs.size:=λb j=>by
  obtain⟨o,e⟩:=hfp b j;exact bC<|aQ e
 have f3:∀b∈fp,m_ X pins (upd H2 f.heap.objs.size<|.lst []) b:=λb j=>⟨by rw[fK<|neD b j];exact(f2 b j).1,(f2 b j).2⟩;have hDC:f.heap.objs.size≠(f.heap.push {}).objs.size:=by rw[dJ];exact bC (dQ _)
 have I4:=F9 (tk:=f.toks+([]:List<|Str×aa).length) (fp:=fp) S I3 f3 (λb j=>by
  obtain⟨o,e⟩:=hfp b j;exact⟨o,aO _ e⟩) F B old
 have st4:tn 0 Y:=T.keep _ _ _ st2 λb j o e=>old b o<|aO _ e;have hc:=hok (f.heap.push {}).objs.size { f with heap:=f.heap.push {}} (upd H2 f.heap.objs.size<|.lst []) fp λa o u e=>by
  have z:=I2.base.frzs a o u e;rw[fK λq=>by rw[q,I2.fresh]at z;cases z];exact z
 have U:∀{H':Hp},(∀b∈fp,H' b=none)->∀b∈fp,m_ (iM X scope N (f.heap.push {}).objs.size { f with heap:=f.heap.push {}} (upd H2 f.heap.objs.size<|.lst []) fp) [] H' b:=λhn b j=>by
  have ok:=I4.ok;refine⟨hn b j,(ok.exf b j).1,ok.exfs b j,.inl j,λx c e=>(ok.exf b j).2 x c e,λp hp=>nomatch hp⟩
 have Z:∀s4:az,s4={ f with heap:=Y,toks:=f.toks+([]:List<|Str×aa).length } ->
   codeAny (model X.prog X.w) X.A (.compLoop (.ListComp elt [⟨tg,iter,ifs,0⟩] scope pos) 0 (.ref it) (.ref f.heap.objs.size)<|compEnvC scope (cellsFrom ((f.heap.push {}).objs.size+1) scope.names<|mU X.env scope.names []) (f.heap.push {}).objs.size X.env)
    (compPost (model X.prog X.w) X.A X.xe use Q' (.ref f.heap.objs.size) (f.heap.push {}).objs.size) s4:=by
  rintro s4 rfl;refine codeAny_loop rfl (λn s'=>∃i L H',Inv (iM X scope N (f.heap.push {}).objs.size { f with heap:=f.heap.push {}} (upd H2 f.heap.objs.size<|.lst []) fp) [] L H' s'/\tn i s'.heap/\(∀b∈fp,H' b=none)/\W i n L H') (λn s5 hI=>?_) m0 ⟨0,_,_,I4,st4,λb j=>(f3 b j).1,w0⟩;obtain⟨i,V,H5,I5,st5,fr5,w5⟩:=hI;show wpAny _ X.A ((compTurn (.ListComp elt [⟨tg,iter,ifs,0⟩] scope pos) 0 (.ref it) (.ref f.heap.objs.size)<|compEnvC scope (cellsFrom ((f.heap.push {}).objs.size+1) scope.names<|mU X.env scope.names []) (f.heap.push {}).objs.size X.env).onRaise λx=>do noteFrame x _;theTreesLotGoes x) _ _ s5;refine wpAny_noted ?_;rw[compTurn_list];refine aJ (wpAny_standAt<|aJ ?_)
  rcases turn i n V H5 w5 with⟨stop,q⟩|⟨go,step⟩
  ·refine gY (T.done (iM X scope N (f.heap.push {}).objs.size { f with heap:=f.heap.push {}} (upd H2 f.heap.objs.size<|.lst []) fp) rfl rfl rfl hc i [] s5 V H5 _ I5 (U fr5) st5 stop) λr s6 h9=>?_;obtain⟨hr,I6⟩:=h9;subst hr;obtain⟨m6,hn6,_⟩:=I6.loc;refine aT<|hfin s6 _ _ H5 m6 hn6 (I3.yt (aL _) I6.free) (λh' sb=>?_) q _;have u6:=I6.base;have nC:∀b o,(f.heap.push {}).get? b=some o->b≠(f.heap.push {}).objs.size:=λb o e=>bC<|aQ e;refine I3.DR (ch:=fp) I6.os ⟨λb o e n j hx=>?_,λb o e n j hx=>?_,λb o e n hx=>?_,λb o e hx=>?_,u6.tups,u6.frzs,u6.tbls⟩ ?_ I6.bare ?_
   ·exact sb.extBut b o (nC b o e) (u6.keep b o e n j hx)
   ·obtain⟨sl,z⟩:=u6.slot b o e n j hx;exact⟨sl,sb.extBut b _ (nC b o e) z⟩
   ·exact u6.free b o e n hx
   ·obtain⟨o',z⟩:=u6.there b o e hx;exact⟨o',sb.extBut b _ (nC b o e) z⟩
   ·intro b o e;have j:∀c v,H5 c=some v->c≠(f.heap.push {}).objs.size:=λc v e z=>by
     rw[z]at e;have:=I6.free;rw[show H5 (f.heap.push {}).objs.size=none from this]at e
     cases e
    refine(I6.hok b o e).stay (λc v hc q=>sb.extBut c v ?_ q) (λ_ q=>q) λ_ _ q=>q
    rcases hc with z|z
    ·rw[z];exact j b o e
    ·exact j c _ z
   ·intro b j;obtain⟨_,z1,_,z3,z4,z5⟩:=f3 b j;exact⟨z3,z1,z4,z5⟩
  ·refine gY (T.item (iM X scope N (f.heap.push {}).objs.size { f with heap:=f.heap.push {}} (upd H2 f.heap.objs.size<|.lst []) fp) rfl rfl rfl hc i [] s5 V H5 _ I5 (U fr5) st5 go) λr s6 h9=>?_;obtain⟨u,hr,h6⟩:=h9;subst hr;refine aJ<|gY h6 λ_ s7 ⟨x,H7,I7,r7,y7,st7,fr7⟩=>?_;have I7':=I7.pinned (U fr7)<|T.obj _ _ st7;refine aJ<|Ds (hg _ _ _ fp _ s7 V H7 x u _ I7' r7<|step x H7 y7) λ_ s8 ⟨G,H8,I8,q8⟩=>?_;refine aJ<|Ds (ht _ _ _ fp _ s8 G H8 _ I8 q8) λok s9 ⟨H9,I9,q9⟩=>?_;have again:∀{K:az} {k:Hp},Inv (iM X scope N (f.heap.push {}).objs.size { f with heap:=f.heap.push {}} (upd H2 f.heap.objs.size<|.lst []) fp) ([]++oJ fp s7.heap) G k K->(∃m',m'<n/\W (i+1) m' G k) ->
     ∃m,m<n/\∃i L H',Inv (iM X scope N (f.heap.push {}).objs.size { f with heap:=f.heap.push {}} (upd H2 f.heap.objs.size<|.lst []) fp) [] L H' K/\tn i K.heap/\(∀b∈fp,H' b=none)/\W i m L H':=λ{K k} P h9=>by
    obtain⟨m',hm,w10⟩:=h9;refine⟨m',hm,i+1,G,k,P.kU,T.keep _ _ _ st7 λb j o e=>(P.pin (b,o)<|bw _<|bw _<|i7 j e).1,λb j=>?_,w10⟩;obtain⟨o,e,d⟩:=T.obj _ _ st7 b j;exact(P.pin (b,o)<|bw _<|bw _<|i7 j e).2.1
   cases ok with
   | false=>
    rw[bu bE]at q9;exact aT ⟨rfl,again I9 q9⟩
   | true=>
    rw[aZ rfl]at q9;refine aJ<|aJ<|Ds (he _ _ _ fp _ s9 G H9 _ I9 q9) λy K ⟨v10,k,P,r10,ys,hD,hz,w10⟩=>?_;refine aJ<|Ds (qB _ K G k (.ref f.heap.objs.size) [v10] _ [y] (λ_ H'=>H'=upd k f.heap.objs.size (.lst<|ys++[v10])) P rfl (.cons r10 .nil) ⟨_,ys,v10,rfl,rfl,hD,hz,rfl⟩) λ_ s11 ⟨_,H11,I11,_,e11⟩=>?_;subst e11;exact aT<|aT ⟨rfl,again I11 w10⟩
 exact codeAny_compStart_list (Z _ rfl)<|T.self _ 0 _ _ _ st4<|Z _ rfl
def FO{ok:Cx->Prop}{X:Cx}{iter:aA}{N:am}{wi:TI}{g:TG}{tc:TT}{te:TE}(S:CpScope X scope N cap)(hok:∀C s₀ H₀ ex,(∀a o u,X.H₀ a=some (.frz o u)->H₀ a=some (.frz o u))->ok (iM X scope N C s₀ H₀ ex))(hi:Jl ok X tg iter wi)
  (hg:∀C s₀ H₀ ex,PG (iM X scope N C s₀ H₀ ex) tg g) (ht:∀C s₀ H₀ ex,EN (iM X scope N C s₀ H₀ ex) ifs tc) (he:∀C s₀ H₀ ex,PE (iM X scope N C s₀ H₀ ex) elt te)
  (hs:∀x,foldedSetIterable iter X.env x=pure x:=by intro _;rfl):PE X (.ListComp elt [⟨tg,iter,ifs,0⟩] scope pos) (GW cap wi g tc te):=by
 k_ne;rw[eval_ListComp];exact wZ (use:=none) (Q':=EP X pins σ Q) S hok hi hg ht he hs pins s σ H Q I h λj C D d m hn k c q v=>⟨m,hn,λh' f=>⟨.ref D,d,c h' f,rfl,q⟩⟩
def Ho{X:Cx}{iter:aA}{N:am}{wi:TI}{g:TG}{tc:TT}{te:TE}(hc:X.calm=true)(S:CpScope X scope N cap)(hi:PI X tg iter wi)
  (hg:∀C s₀ H₀ ex,PG (iM X scope N C s₀ H₀ ex) tg g) (ht:∀C s₀ H₀ ex,EN (iM X scope N C s₀ H₀ ex) ifs tc) (he:∀C s₀ H₀ ex,PE (iM X scope N C s₀ H₀ ex) elt te)
  (hs:∀x,foldedSetIterable iter X.env x=pure x:=by intro _;rfl):PE X (.ListComp elt [⟨tg,iter,ifs,0⟩] scope pos) (GW cap wi g tc te):=
 FO S (λ_ _ _ _ _=>hc) hi.g hg ht he hs
section
variable {X:Cx}
def BB{bs:List Bool}:∀{us:ar},Vals (bs.map V.bl) us->LSm.BoolsAre us bs:=by
 induction bs with
 | nil=>intro us r;cases r;exact .nil
 | cons b bs c=>
  intro us r
  cases r with
  | cons h t=>
   have e:_=Value.bool b:=h;subst e;exact .cons b<|c t
def ye(hc:X.calm=true):gi X (.builtin "all") (λxs H Q=>∃(p:aj) (bs:List Bool),xs=[.ref p]/\iu X.K H p (bs.map V.bl)/\Q (.bl<|bs.all id) H):=by
 kj_on;obtain⟨p,bs,rfl,m,q⟩:=h;mg_lt
 cases rx
 obtain⟨c,k,B,D⟩:=I.list m;have g:=BB k;have d:=B.isList;have f:p<s.heap.objs.size:=by obtain⟨_,e,_⟩:=d;exact aQ e
 refine call_all_walk<|wpAny_pyIter_list d ?_;refine⟨s.heap.objs.size,[s.heap.objs.size,p],[s.heap.objs.size],c.toArray.size,_,_,λi=>(bs[i]?).getD true,rfl,Walks.list (A:=X.A.in1) (I.ok.hd hc) _ p (bC f) c.toArray,
  ⟨⟨_,bx _ rfl,rfl,rfl⟩,d.push _⟩,λi v s' J F hP j=>?_,λh' G C=>?_⟩
 ·obtain⟨b,e,rfl⟩:=g.get i v (by simpa using hP);dsimp[e,dP]at j;exact cF j
 ·have e:((List.range c.toArray.size).all λi=>(bs[i]?).getD true)=bs.all id:=by
   rw[aI,g.length];exact LSm.range_all bs
  rw[e];exact⟨.bl _,H,I.kept<|LSm.kept_iter C,rfl,q⟩
def qK:gi X (.builtin "sorted") (λxs H Q=>∃(p:aj) (ns:ae),xs=[.ref p]/\(iu X.K H p (ns.map V.int)\/iR X.K H p (ns.map V.int))/\ns.length<64 /\
  ∀l (ns':ae),H l=none->ns'.Perm ns->ns'.Pairwise (·<=·)->Q (.ref l) (upd H l<|.lst<|ns'.map V.int)):=by
 kj_on;obtain⟨p,ns,rfl,k,h64,q⟩:=h;mg_lt
 cases rx
 have N:∀(c:ar) (T:String) (o:Obj) (n:Nat),(T = "list" \/ T = "tuple")->s.heap.get? p=some o->o.cls=.type T->o.data=.seq c.toArray n->Vals (ns.map V.int) c ->
   wpAny (model X.prog X.w) X.A (call (.builtin "sorted") [.ref p]) (EP X pins σ Q) X.xe s:=by
  intro c T o n W j d hd g;have P:=intsAre_of g;have B:c.length=ns.length:=by have:=g.length;rw[aG]at this;exact this.symm
  refine Calls.call_function_entry kind_sorted plain_sorted entry_sorted (args_sorted1 _) ?_;unfold Builtin.«sorted»;refine aJ (m:=checkCount "sorted" 1 1 _)<|aT ?_;refine aJ (wpAny_collect_seq p W j d hd (λh' hk=>?_)<|by rw[aI,B,bV];lia);refine aJ<|wpAny_newList ?_;have f:(h'.push<|seqObj "list" c.toArray 0).get? h'.objs.size=some (seqObj "list" c.toArray 0):=bx _ rfl
  skip
  refine aJ<|dg<|wpAny_call_entry slot_list_sort ⟨_,f,rfl⟩ entry_list_sort (list_sort_tree f P () λout ns' Y J Z=>⟨_,rfl,?_⟩)<|args_list_sort _;obtain⟨e,he⟩:=sortedHeap_at (out:=out) f;have D:ns'.length=ns.length:=J.length_eq;have L:Inv X pins σ H { s with heap:=h' }:=I.kept (t':=s.toks) hk;have old:∀b F,h'.get? b=some F->(sortedHeap (h'.push<|seqObj "list" c.toArray 0) h'.objs.size c out).get? b=some F:=λb F C=>by
   rw[sortedHeap_old (bC<|aQ C)<|by rw[dJ];exact Nat.lt_succ_of_lt<|aQ C];exact aO _ C
  refine aT ⟨_,rfl,.ref h'.objs.size,_,L.laid (t':=s.toks) (o:=.lst<|ns'.map V.int) old (aL _) ?_,rfl,q _ ns' (L.hok.fresh<|aL _) J Z⟩;refine⟨by rw[aG,D,bV];lia,out.toList,e,m9 Y,?_⟩;rw[he]
 rcases k with k|k
 ·obtain⟨c,g,G,U⟩:=I.list k;obtain⟨o,j,d,n,hd⟩:=G.isList;exact N c "list" o n (.inl rfl) j d hd g
 ·obtain⟨c,g,G,U⟩:=I.tuple k;obtain⟨o,j,d,n,hd⟩:=G;exact N c "tuple" o n (.inr rfl) j d hd g
def xT:iP X (compareOp .IsNot) (λx y H Q=>∃a b,x=.bl a/\y=.bl b/\Q (.bl<|a != b) H):=by
 gn_on;obtain⟨a,b,rfl,rfl,q⟩:=h
 cases rx;cases ry
 exact isnot_bool ⟨.bl _,H,I,rfl,q⟩
def qM:gi X (.type "range") (λxs H Q=>∃i j,xs=[.int i,.int j]/\∀p,H p=none->Q (.ref p) (upd H p<|.rng i j)):=by
 kj_on;obtain⟨i,j,rfl,q⟩:=h;obtain⟨u,d,rfl,⟨t,rfl⟩,⟨c,rfl⟩⟩:=vals2 r;refine call_range_2 ⟨.ref s.heap.objs.size,_,I.laid (o:=.rng i j) (λb o e=>aO _ e) (aL _) ?_,rfl,q _ I.fresh⟩;exact⟨t,c,s.toks,bx _ rfl⟩
abbrev iS (i j:Int):ae:=(List.range (j-i).toNat).map λk:Nat=>i+(k:Int)
def kJ(i j:Int):(iS i j).length=(j-i).toNat:=by unfold iS;rw[aG,List.length_range]
def oZ{i:Int}{n:Nat}{acc:Array aa}(h:ItemsOf (λk v=>∃t,v=Value.int (i+(k:Int) * 1) t) acc n):Vals (((List.range n).map λk:Nat=>i+(k:Int)).map V.int) acc.toList:=by
 obtain⟨hs,hv⟩:=h;have c:∀(l:ar) (b:Nat),(∀j v,l[j]?=some v->∃t,v=Value.int (i+((b+j:Nat):Int)) t)->Vals (((List.range' b l.length).map λk:Nat=>i+(k:Int)).map V.int) l:=by
  intro l
  induction l with
  | nil=>intro b _;exact .nil
  | cons v l f=>
   intro b d;rw[a_,List.range'_succ,bJ,bJ];refine .cons ?_ ?_
   ·obtain⟨t,e⟩:=d 0 v rfl;exact⟨t,by rw[e];simp⟩
   ·refine f (b+1) λj w hw=>?_;obtain⟨t,e⟩:=d (j+1) w hw;exact⟨t,by rw[e,show b+(j+1)=b+1+j by lia]⟩
 have:=c acc.toList 0 λj v g=>by
  obtain⟨t,e⟩:=hv j v (by simpa using g);exact⟨t,by rw[e,Nat.zero_add,Int.mul_one]⟩
 rw[cj,hs,<- cX]at this;exact this
def yU{i j:Int}:Builtin.Range.rangeSize i j 1=(((j-i).toNat:Nat):Int):=by rw[rangeSize_one];split<;>omega
def pT(hc:X.calm=true):gi X (.type "list") (λxs H Q=>∃p i j,xs=[.ref p]/\H p=some (.rng i j)/\(-(2 ^ 62)<=i/\i<2 ^ 62/\-(2 ^ 62)<=j/\j<2 ^ 62)/\(j-i).toNat<=1000/\∀l,H l=none->Q (.ref l) (upd H l<|.lst<|(iS i j).map V.int)):=by
 kj_on;obtain⟨p,i,j,rfl,f,⟨k,F,m,C⟩,hn,q⟩:=h;mg_lt
 cases rx
 obtain⟨t,G,v,e⟩:=I.hok p _ f;refine call_list_range (n:=(j-i).toNat) (I.ok.hd hc) e (small_one k F m C) yU () λh' J c B g D d=>?_;refine⟨.ref s.heap.objs.size,_,I.laid (o:=.lst<|(iS i j).map V.int) g (aL _) ⟨?_,c.toList,B,oZ d,by rw[D]⟩,rfl,q _ I.fresh⟩;rw[aG,kJ,bV];lia
end
section
variable {X:Cx}
def sX{prog:ah}{w:af}{A:au}{E:aa->az->Prop}{s:az}{Q:ar->az->Prop}{r:aj}{a b c:Int}{v:Tok}{n:Nat}(hh:A.handled=none)(hr:IsRange s.heap r a b c t u v)(hsmall:Builtin.Range.small a b c=true)
  (hn:Builtin.Range.rangeSize a b c=n) (hlen:n<=2 ^ 24)
  (hQ:∀h' tk (acc':Array aa),(∀b o,s.heap.get? b=some o->h'.get? b=some o)->ItemsOf (λi v=>∃t,v=.int (a+i * c) t) acc' n->Q acc'.toList { s with heap:=h',toks:=tk }) :
  wpAny (model prog w) A (collect<|.ref r) Q E s:=by
 unfold collect;refine aJ<|wpAny_runValue<|codeAny_builtin F.entry_proto_collect ?_;rw[Around.under_plainId F.plain_proto_collect _]
 skip
 refine aJ<|bI ?_;refine aT ⟨plainId_quiet F.plain_list_iadd _,codeAny_builtin F.entry_list_iadd ?_⟩;rw[Around.under_plainId F.plain_list_iadd _]
 skip
 have C:(s.heap.push {}).get? s.heap.objs.size=some { cls:=.type "list",data:=.seq #[] 0 }:=bx _ rfl;have k:∀(h':ak) (tk:Nat) (acc':Array aa) (j:Nat),(∀b o,b≠s.heap.objs.size->(s.heap.push {}).get? b=some o->h'.get? b=some o) ->
   h'.get? s.heap.objs.size=some { cls:=.type "list",dict:=none,data:=.seq acc' j,slots:=#[]}->ItemsOf (λi v=>∃t,v=.int (a+i * c) t) acc' n ->
   wpAny (model prog w) A (match Value.ref s.heap.objs.size with
   | Value.ref a=>do
    match (<- load a).data with
     | Data.seq xs _=>pure xs.toList
     | _=>unsupported "internal:collect"
   | _=>unsupported "internal:collect") Q E { s with heap:=h',toks:=tk }:=by
  intro h' tk acc' j m g d
  skip
  refine aJ<|wpAny_load g ?_;refine aT ?_;exact hQ h' tk acc' (λb o e=>m b o (bC<|aQ e)<|aO _ e) d
 refine d9 (wpAny_extend_range (A:=A) (R:=λB s'=>B=.ok (.ret<|.ref s.heap.objs.size)/\∃h' tk acc' j,s'={ s with heap:=h',toks:=tk }/\(∀b o,b≠s.heap.objs.size->(s.heap.push {}).get? b=some o->h'.get? b=some o) /\
   h'.get? s.heap.objs.size=some { cls:=.type "list",dict:=none,data:=.seq acc' j,slots:=#[]}/\ItemsOf (λi v=>∃t,v=.int (a+i * c) t) acc' n)
  (s:={ s with heap:=s.heap.push {}}) hh (aO _ hr) hsmall hn hlen s.heap.objs.size (.ref s.heap.objs.size) 0 C
  (λh' tk acc' j m g d=>⟨rfl,h',tk,acc',j,rfl,m,g,d⟩)) (λp s' h=>?_) λe s' h=>?_
 ·cases p with
  | done f=>
   obtain⟨e,h',tk,acc',j,rfl,m,g,d⟩:=h
   cases e
   exact k h' tk acc' j m g d
  | again j=>exact⟨h.1,eK h.2 λr q hr=>by
    obtain⟨rfl,h',tk,acc',j,rfl,m,g,d⟩:=hr;exact k h' tk acc' j m g d⟩
 ·exact absurd h.1<|by simp
def lF(l:aj){a b:Int}{v:Tok}{n:Nat}(hsmall:Builtin.Range.small a b 1=true)
  (hn:Builtin.Range.rangeSize a b 1=n) (hlen:n<=1000) :
  Meets (Builtin.«tuple.__new__» ⟨[.type "tuple",.ref l],[]⟩)
   (λA R s=>A.handled=none/\IsRange s.heap l a b 1 t u v/\∀(h':ak) (tk:Nat) (acc':Array aa),(∀b o',s.heap.get? b=some o'->h'.get? b=some o')->ItemsOf (λi v=>∃t,v=.int (a+i * 1) t) acc' n->R (.ok<|.ret<|.ref h'.objs.size) { s with heap:=h'.push { cls:=.type "tuple",data:=.seq acc' },toks:=tk }):=
 .of_wp λprog w A R s h=>by
  obtain⟨B,g,d,tk,D⟩:=s;obtain⟨F,k,h⟩:=h;have p:=sub_tuple_self;have m:=init_tuple_lookup;have G:=madeHere_tuple;have q:Shared.TypeIs ⟨B,g,d,tk,D⟩ (.ref l) "range" := ⟨_,k,rfl⟩;have f:A.in1.handled=none:=F
  wp_walk using AutoSeq1.wpAny_loadPart' k,wpAny_typeOf q,sX (A:=A.in1) f k hsmall hn (by omega)
  intro h' j acc' C c;show wpAny _ _ (Builtin.Tuple.tupleExact acc'.toList.toArray >>= λv=>ret v) _ _ _;unfold Builtin.Tuple.tupleExact;have e:acc'.toList.toArray=acc':=by simp
  refine aJ (bI ?_<|by show acc'.toList.toArray.size<=sizeLine;rw[e,c.1,bV];omega);refine aT ⟨_,rfl,?_⟩;rw[e];exact h h' j acc' C c
def pB(hc:X.calm=true):gi X (.type "tuple") (λxs H Q=>∃p i j,xs=[.ref p]/\H p=some (.rng i j)/\(-(2 ^ 62)<=i/\i<2 ^ 62/\-(2 ^ 62)<=j/\j<2 ^ 62)/\(j-i).toNat<=1000/\∀l,H l=none->Q (.ref l) (upd H l<|.tup<|(iS i j).map V.int)):=by
 kj_on;obtain⟨p,i,j,rfl,m,⟨C,J,D,G⟩,hn,q⟩:=h;mg_lt
 cases rx
 obtain⟨t,K,v,e⟩:=I.hok p _ m;refine callType_new F.called_tuple ⋯ (F.typeCall_tuple_1 _) (F.newCall_tuple_1 _) (λf=>F.args_object_init_2 f _) F.entry_tuple_new
  (lF (n:=(j-i).toNat) p (small_one C J D G) yU hn) ⟨I.ok.hd hc,e,λh' k c B d=>⟨⟨_,bx _ rfl,rfl⟩,?_⟩⟩
 have g:Inv X pins σ H { s with heap:=h',toks:=k }:=I.kept B;refine⟨.ref h'.objs.size,_,g.laid (t':=k) (o:=.tup<|(iS i j).map V.int) (λb o e=>aO _ e) (aL _) ⟨?_,c.toList,oZ d,?_⟩,rfl,q _<|g.hok.fresh<|aL _⟩
 ·rw[aG,kJ,bV];lia
 ·have e:c.toList.toArray=c:=by simp
  rw[e];exact iI.new _ _
abbrev IW (K:aq)(te:TE):TE:=λσ H Q=>te σ H λx H1=>∃a xs,x=.ref a/\iu K H1 a xs/\∀p,H1 p=none->Q (.ref p) (upd H1 p<|.lst xs.reverse)
def CS{te:TE}{cp:Pos}(he:PE X e te):PE X (.Subscript e (.Slice none none (some<|.UnaryOp .USub (.Constant (.int 1) kk cp) up) p2) pos) (IW X.K te):=by
 k_ne;refine Subscript_<|gY (he pins s σ H _ I h) λv j ⟨x,H1,D,r1,a,xs,ex,C,q⟩=>?_;subst ex
 cases r1
 refine wpAny_Slice ?_;rw[eF];refine aT ?_;refine aT ?_;rw[evalPart_some];refine gY ((zP (a:=.Constant (.int 1) kk cp) uO uf) pins j σ H1 (λv H'=>v=.int (-1)/\H'=H1) D ⟨1,rfl,rfl,rfl⟩) λL c h9=>?_;obtain⟨y,k,B,p,m,F⟩:=h9;subst m F;obtain⟨t,rfl⟩:=p;have I4:Inv X pins σ k { c with heap:=c.heap.push { cls:=.type "slice",data:=.fields #[.none,.none,.int (-1) t]}}:=B.kept (t':=c.toks) λb J q=>aO _ q;obtain⟨its,d,g,G⟩:=I4.list C
 skip
 refine tail_any (ops:=[.ref a,.ref c.heap.objs.size]) g.isList.typeIs er.lookup ?_ (by with_unfolding_all rfl);have f:=d.length;refine wpAny_getItem_list_slice g.isList (ee ..) .none .none (.int (-1) t) ⋯ ?_ (by rw[aI]<;>lia);rw[PySem.W.krv_pick];refine⟨.ref _,_,I4.Cn (t':=c.toks) (ys:=xs.reverse) (its:=its.reverse) d.reverse<|by rw[ck];exact G,rfl,q _ I4.fresh⟩
def sV:gi X (.builtin "isinstance") (λxs H Q=>∃x t b,xs=[x,.ty c]/\TyOf X.K H x t/\PySem.W.kitOne X.K t (.type c)=some b/\Q (.bl b) H):=by
 kj_on;obtain⟨x,t,b,rfl,ty,e,q⟩:=h;obtain⟨u,g,rfl,rx,d⟩:=vals2 r
 cases d
 exact xV I rx ty e λf=>⟨.bl b,H,I.tok f,rfl,q⟩
abbrev FA (K:aq):R2:=λx y H Q=>∃a b ys,x=.ref a/\y=.ref b/\iR K H a []/\iR K H b ys/\Q (.ref b) H
def Bo:iP X (binaryOp .Add) (FA X.K):=by
 gn_on;obtain⟨a,b,ys,rfl,rfl,h1,C,q⟩:=h
 cases rx
 cases ry
 obtain⟨us,r1,p1,_⟩:=I.tuple h1;obtain⟨B,r2,p2,_⟩:=I.tuple C
 cases r1
 obtain⟨⟨cls,F,data,D⟩,m,hc,n,hd⟩:=id p1;obtain⟨⟨p,k,g,j⟩,d,c,G,f⟩:=id p2;simp only at hc hd c f;subst hc hd c f;exact concat_meets ⟨_,m,rfl⟩ ⟨_,d,rfl⟩ noFill_tuple_add seq_tuple_add dG dD (dh _ _)
   (tuple_addW0 a b _ B.toArray n G F k D j<|by simp) ⟨m,d,⟨.ref b,H,I,rfl,q⟩⟩
end
def gr:bootBuiltins "len" = some (.builtin "len"):=by decide +kernel
def nM:bootBuiltins "all" = some (.builtin "all"):=by decide +kernel
def FN:bootBuiltins "max" = some (.builtin "max"):=by decide +kernel
def Fy:bootBuiltins "min" = some (.builtin "min"):=by decide +kernel
def qb:bootBuiltins "sorted" = some (.builtin "sorted"):=by decide +kernel
def gk:bootBuiltins "isinstance" = some (.builtin "isinstance"):=by decide +kernel
def t6:bootBuiltins "int" = some (.type "int"):=by decide +kernel
def q_:bootBuiltins "bool" = some (.type "bool"):=by decide +kernel
def iB:bootBuiltins "list" = some (.type "list"):=by decide +kernel
def rJ:bootBuiltins "tuple" = some (.type "tuple"):=by decide +kernel
def BO:bootBuiltins "range" = some (.type "range"):=by decide +kernel
structure Blt (mg:Str->be):Prop where
 len:mg "len" = none
 abs:mg "abs" = none
 all:mg "all" = none
 any:mg "any" = none
 max:mg "max" = none
 min:mg "min" = none
 sorted:mg "sorted" = none
 isinstance:mg "isinstance" = none
 int:mg "int" = none
 bool:mg "bool" = none
 str:mg "str" = none
 list:mg "list" = none
 tuple:mg "tuple" = none
 range:mg "range" = none
def CP:∀{a b:ae},a.Perm b->a.Pairwise (·<=·)->b.Pairwise (·<=·)->a=b:=λp f c=>
 List.Perm.eq_of_pairwise (λx y _ _ h1 d=>Int.le_antisymm h1 d) f c p
def sP{i j k:Int}:k∈iS i j ↔ i<=k/\k<j:=by
 unfold iS;rw[bg];constructor
 ·rintro⟨a,c,rfl⟩;have:=cA.mp c;omega
 ·rintro⟨h1,d⟩;exact⟨(k-i).toNat,cA.mpr<|by omega,by omega⟩
abbrev Kn (P:ah)(w:af)(K:aq)(mg:Str->be)(base:ak)(k:Nat)(x:Str)(ps:am)(sp:Sp):Prop:=
 ∃(f:aj) (fd:FuncData),FnOk P w K mg base nL k f fd ps sp/\mg x=some (.ref f)/\PySem.W.keepIn K (.ref f)=true/\Binds K fd ps []
def Hs{X:Cx}{k:Nat}{x:Str}{sp:Sp}{t:TA}{p:Pos}(G:Kn X.prog X.w X.K X.mg X.base k x ps sp)(hr:Room k X.A)(ha:PA X (e::es) t)(hg:Gl X x:=by rfl)
  (hdb:(x == ("__debug__" : Str))=false:=by decide) (hs:starEach (e::es) X.env=(false,eval e X.env)::starEach es X.env:=by rfl) (hplain:(backTo pos<|starEach es X.env).any (·.1)=false:=by rfl) :
  PE X (.Call (.Name x p) (e::es) [] pos) (Ew sp [] E0 t):=by
 obtain⟨f,fd,F,g,d,c⟩:=G;exact Cm F hr hg g d c .nil GP ha hdb hs hplain
abbrev pF (XN fs:am):am->List (bn)->Prop
 | [],[]=>True
 | _::N,none::c=>pF XN fs N c
 | x::N,some j::c=>XN[j]?=some x/\x∈fs/\pF XN fs N c
 | _,_=>False
theorem pF.len{fs:am}:∀{N:am}{c:List<|bn},pF XN fs N c->c.length=N.length
 | [],[],_=>rfl
 | _::N,none::c,h=>cG (·+1) (pF.len (N:=N) (c:=c) h)
 | _::N,some j::c,h=>cG (·+1) (pF.len (N:=N) (c:=c) h.2.2)
 | [],_::_,h=>h.elim
 | _::_,[],h=>h.elim
theorem pF.cp{fs:am}:∀{N:am}{c:List<|bn},pF XN fs N c->∀(i j:Nat) (x:Str),N[i]?=some x->c[i]?=some (some j)->XN[j]?=some x/\x∈fs
 | [],[],_,i,j,x,h1,_=>by simp at h1
 | y::N,none::c,h,i,j,x,h1,h2=>by
  cases i with
  | zero=>simp at h2
  | succ i=>exact pF.cp (N:=N) (c:=c) h i j x (by simpa using h1)<|by simpa using h2
 | y::N,some k::c,h,i,j,x,h1,h2=>by
  cases i with
  | zero=>
   simp at h1 h2;subst h1 h2;exact⟨h.1,h.2.1⟩
  | succ i=>exact pF.cp (N:=N) (c:=c) h.2.2 i j x (by simpa using h1)<|by simpa using h2
 | [],_::_,h,_,_,_,_,_=>h.elim
 | _::_,[],h,_,_,_,_,_=>h.elim
def jk{X:Cx}{scope:Scope}{N:am}(fs:am)(kind:scope.kind=.function)(nocf:∀y∈scope.names,y.2=.cell->scope.names.lookup y.1=some .cell/\(y.1,NameKind.free)∉scope.names)(nm:∀y∈scope.names,y.2=.local->scope.names.lookup y.1=some .local)
  (nolf:∀y∈scope.names,y.2=.free->scope.names.lookup y.1≠some .local) (hf:∀y∈scope.names,y.2=.free->y.1∈fs) (hfs:∀x∈fs,(x,NameKind.free)∈scope.names) (hk:∀x∈fs,X.env.kindOf x=some .cell\/X.env.kindOf x=some .free) (cp:pF X.N fs N cap):CpScope X scope N cap where
 kind:=kind
 nocf:=λx hf hc=>(nocf (x,.cell) hc rfl).2 hf
 nm:=nm
 fr:=λy g e=>hk _ (hf y g e)
 rl:=λy h=>by
  have f:∀k,(k=NameKind.cell\/k=NameKind.free)->(relabel scope X.env).names.lookup y=some k->(y,NameKind.free)∈scope.names\/scope.names.lookup y=some .cell:=λk hk e=>by
   obtain⟨⟨q,p⟩,d,c⟩:=bg.mp<|oF e;dsimp only at c;split at c
   ·rename_i hc
    cases c
    have:p=.free:=by
     dsimp[bQ]at hc;simpa using hc.1.1
    subst this;exact .inl d
   ·cases c
    rcases hk with rfl|rfl
    ·exact .inr (nocf _ d rfl).1
    ·exact .inl d
  rcases h with h|h
  ·exact f _ (.inl rfl) h
  ·exact f _ (.inr rfl) h
 len:=cp.len
 nolf:=λx hx=>nolf (x,.free) hx rfl
 cp:=λi j x h1 m=>by
  obtain⟨a,b⟩:=cp.cp i j x h1 m;exact⟨a,hfs x b⟩
inductive Kd where
 | f6|bl|int|str|lst|tup
 deriving DecidableEq
abbrev Kd.ty:Kd->aa
 | .f6=>.type "NoneType" | .bl=>.type "bool" | .int=>.type "int" | .str=>.type "str" | .lst=>.type "list" | .tup=>.type "tuple"
abbrev F4 (H:Hp)(x:V):Kd->Prop
 | .f6=>x=.f6
 | .bl=>∃b,x=.bl b
 | .int=>∃i,x=.int i
 | .str=>∃s,x=.str s
 | .lst=>∃a xs,x=.ref a/\H a=some (.lst xs)
 | .tup=>∃a xs,x=.ref a/\H a=some (.tup xs)
def F4.Jt{K:aq}{H:Hp}{x:V}{k:Kd}(h:F4 H x k):TyOf K H x k.ty:=by
 cases k with
 | f6=>cases h;exact .f6
 | bl=>obtain⟨b,rfl⟩:=h;exact .bl b
 | int=>obtain⟨b,rfl⟩:=h;exact .int b
 | str=>obtain⟨b,rfl⟩:=h;exact .str b
 | lst=>obtain⟨a,xs,rfl,e⟩:=h;exact .lst e
 | tup=>obtain⟨a,xs,rfl,e⟩:=h;exact .tup e
def Dl{K:aq}(k:Kd):PySem.W.kitOne K k.ty (.type "int")=some (decide<|k=.int\/k=.bl):=by cases k<;>rfl
def BL{K:aq}(k:Kd):PySem.W.kitOne K k.ty (.type "bool")=some (decide<|k=.bl):=by cases k<;>rfl
def kit_tuple{K:aq}(k:Kd):PySem.W.kitOne K k.ty (.type "tuple")=some (decide<|k=.tup):=by cases k<;>rfl
def Aq{K:aq}(k:Kd):PySem.W.kitOne K k.ty (.type "list")=some (decide<|k=.lst):=by cases k<;>rfl
section
variable {prog:ah}{w:af}{A:au}{E:aa->az->Prop}{s:az}
def uD(n:Nat):Builtin.Slice.sliceAdjust none none (-1) (n:Int)=((n:Int)-1,-1):=by
 unfold Builtin.Slice.sliceAdjust;rfl
def uh(n:Nat):Builtin.Slice.slicePlaces ((n:Int)-1) (-1) (-1)=n:=by
 unfold Builtin.Slice.slicePlaces;have h1:¬((-1:Int)>0):=by decide
 dsimp[h1,dW];by_cases h:n=0
 ·subst h;simp
 ·rw[aZ ()];rw[show(- -1:Int)=1 by decide,Int.ediv_one]
  lia
def ni{n:Nat}{Q:Int×Int×Nat->az->Prop}(hs:s.heap.IsSliceOf sl .none .none<|.int (-1) t)
  (h:Q ((n:Int)-1,-1,n) s):wpAny (model prog w) A (Builtin.Slice.sliceApplied (.ref sl)<|pure (n:Int)) Q E s:=by
 obtain⟨g,c,f,d⟩:=id hs;unfold Builtin.Slice.sliceApplied Builtin.Slice.sliceFields;refine aJ<|aJ<|dX c d (x:=.none) rfl<|aJ<|dX c d (x:=.none) rfl<|aJ<|dX c d (x:=.int (-1) t) rfl<|aT ?_;refine aJ (slicePart_int ?_)
 skip
 rw[bu ⋯];refine aJ<|slicePart_none<|aJ<|slicePart_none<|aJ<|aT ?_;show wpAny _ _ (match Builtin.Slice.sliceAdjust none none (-1) (n:Int)with|(lo,hi)=>pure (lo,(-1:Int),Builtin.Slice.slicePlaces lo hi<|-1)) _ _ s;rw[uD n];show wpAny _ _ (pure ((n:Int)-1,(-1:Int),Builtin.Slice.slicePlaces ((n:Int)-1) (-1)<|-1)) _ _ s;rw[uh];exact aT h
def Ax(xs:Array aa):((List.range xs.size).filterMap λ(m:Nat)=>xs[((xs.size:Int)-1+(m:Int) * (-1)).toNat]?).toArray=xs.toList.reverse.toArray:=by
 have e:(λ(m:Nat)=>xs[((xs.size:Int)-1+(m:Int) * (-1)).toNat]?)=(λx=>xs[x]?) ∘ λk=>xs.size-1-k:=by
  funext m
  have:((xs.size:Int)-1+(m:Int) * (-1)).toNat=xs.size-1-m:=()
  show xs[((xs.size:Int)-1+(m:Int) * (-1)).toNat]?=xs[xs.size-1-m]?;rw[this]
 rw[e,<- List.filterMap_map,PySem.W.krv_range,List.filterMap_reverse,PySem.W.krv_all]
def mY{items:Array aa}{Q:aa->az->Prop}(ht:IsTup s.heap t items)(hs:s.heap.IsSliceOf sl .none .none<|.int (-1) tk)
  (h:Q (.ref s.heap.objs.size) { s with heap:=s.heap.push { cls:=.type "tuple",data:=.seq items.toList.reverse.toArray }})
  (hsz:items.size<=sizeLine):wpAny (model prog w) A (getItem (.ref t)<|.ref sl) Q E s:=by
 have c:sizeOk (.seq items.toList.reverse.toArray):=by
  show items.toList.reverse.toArray.size<=sizeLine;rw[aI,ck,cj];exact hsz
 obtain⟨k,g,j,p⟩:=id hs;have d:s.TypeIs (.ref sl) "slice" := ⟨k,g,j⟩;unfold getItem
 try with_reducible refine dg ?_
 first|refine aJ (aT ?_)|skip
 refine aJ<|wpAny_sequenceKey ht.typeIs ⋯ ?_;refine aJ (wpAny_callSpecial?_slot (name:=Str.ofString "__getitem__") ht.typeIs bH
  (wpAny_call_entry bH ht.typeIs entry_tuple_getitem ?_<|args_tuple_getitem _ _))
 show wpAny _ _ (Builtin.Tuple.tupleItemsOf (.ref t) >>= _) _ _ s;refine aJ<|tupleItemsOf_ ht ?_;refine aJ<|wpAny_typeOf d ?_;rw[aZ ⋯];refine aJ<|ni hs ?_;have f:¬((((items.size:Int)-1) == 0 && (-1:Int) == 1 && items.size == items.size)=true):=by
  intro q;rw[bQ,bQ]at q;exact absurd q.1.2 ⋯
 show wpAny _ _ (if (((items.size:Int)-1) == 0 && (-1:Int) == 1 && items.size == items.size)=true then _ else _) _ _ s;rw[bu f,Ax]
 first
  | exact aJ (m:=Builtin.Tuple.tupleExact _) (bI (aT ⟨_,rfl,aT h⟩) c)
  | exact aJ (m:=Builtin.Tuple.tupleExact _) (bI (aJ<|aT<|aT ⟨_,rfl,aT h⟩) c)
  | exact aJ (aJ (m:=Builtin.Tuple.tupleExact _)<|bI (aT<|aT ⟨_,rfl,aT h⟩) c)
  | exact aJ<|aJ (m:=Builtin.Tuple.tupleExact _)<|bI (aT ⟨_,rfl,aT h⟩) c
end
section
variable {X:Cx}
abbrev Hh (K:aq)(te:TE):TE:=λσ H Q=>te σ H λx H1=>∃a xs,x=.ref a/\iR K H1 a xs/\∀p,H1 p=none->Q (.ref p) (upd H1 p<|.tup xs.reverse)
def xB{te:TE}{cp:Pos}(he:PE X e te):PE X (.Subscript e (.Slice none none (some<|.UnaryOp .USub (.Constant (.int 1) kk cp) up) p2) pos) (Hh X.K te):=by
 k_ne;refine Subscript_<|gY (he pins s σ H _ I h) λv m ⟨x,H1,G,r1,a,xs,ex,F,q⟩=>?_;subst ex
 cases r1
 refine wpAny_Slice ?_;rw[eF];refine aT ?_;refine aT ?_;rw[evalPart_some];refine gY ((zP (a:=.Constant (.int 1) kk cp) uO uf) pins m σ H1 (λv H'=>v=.int (-1)/\H'=H1) G ⟨1,rfl,rfl,rfl⟩) λP c h9=>?_;obtain⟨y,p,D,C,B,J⟩:=h9;subst B J;obtain⟨t,rfl⟩:=C;have d:Inv X pins σ p { c with heap:=c.heap.push { cls:=.type "slice",data:=.fields #[.none,.none,.int (-1) t]}}:=D.kept (t':=c.toks) λb N q=>aO _ q;obtain⟨f,g,k,L⟩:=d.tuple F
 skip
 refine tail_any (ops:=[.ref a,.ref c.heap.objs.size]) k.typeIs bH.lookup ?_ (by with_unfolding_all rfl);have j:=g.length;refine mY k (ee ..) ?_ (by rw[aI]<;>lia);refine⟨.ref _,_,d.laid (t':=c.toks) (o:=.tup xs.reverse) (λb o e=>aO _ e) (aL _) ⟨by rw[ck];exact L,f.reverse,g.reverse,?_⟩,rfl,q _ d.fresh⟩;exact iI.new _ _
end
end L2
namespace L2
open PySem PySem.Spec PyProof.Rows
open PySem.SeqAt
open PySem.AutoSeq1 (wpAny_loadPart')
open PySem.MeetsSeq PySem.MeetsSeq2 PySem.MeetsSeq3 PySem.SeqAt
section
variable {X:Cx}
def A_:iP X (binaryOp .FloorDiv) (rI (λ_ j=>0<j/\j<18446744073709551616) λi j=>.int<|i / j):=Iu λi j _ _ _ _ _ hc q=>by
 have h1:(0:Int)<j:=hc.1;have c:j<18446744073709551616:=hc.2;refine floordiv_int (by omega) (by rw[Int.fdiv_eq_ediv_of_nonneg i<|by omega];exact q)<|.inl<|PyProof.noPylong_of_log2 ?_;exact br ((Nat.log2_lt<|by omega).mpr<|show j.natAbs<2 ^ 64 by omega) ⋯
end
end L2
namespace L2
open PySem PySem.Spec PyProof.Rows
abbrev JZ (x:Str):It:=⟨λi _=>i<x.cps.size,λi H v H'=>H'=H/\∃c,x.cps[i]?=some c/\v=.str ⟨#[c]⟩,λi _=>i=x.cps.size⟩
def Au{P:ah}{w:af}{K:aq}(x:Str)(t:Tok)(it:aj):Turn P w K tg (JZ x) [it] it (λi h=>h.IsStrIter it "str_ascii_iterator" x t i) where
 mem:=by simp
 obj:=λi h st b f=>by
  have e:b=it:=by simpa using f
  subst e;obtain⟨o,e,c,d⟩:=st;exact⟨o,e,λv z=>by rw[d]at z;cases z⟩
 keep:=λi h h' st k=>let⟨o,ho,r⟩:=st;⟨o,k it (by simp) o ho,r⟩
 item:=by
  w_up;subst hP hw hK;gp_on;have W:=Walks.strAscii (prog:=X.prog) (w:=X.w) (I.ok.hd hc) it x t;refine W.item i s _ _ hg st λv h' m hv g kk=>?_;obtain⟨c,u,j,rfl⟩:=hv;have q:Inv X pins σ H { s with heap:=h',toks:=m }:=I.turned (λb o f e=>kk b o (by simpa using f) e) f0 f1 f3 f4 f5;obtain⟨o,e,p,d⟩:=id g;exact⟨_,rfl,vv (s:={ s with heap:=h',toks:=m }) e p d ⋯ ⟨.str ⟨#[c]⟩,H,q,⟨u,rfl⟩,⟨rfl,c,j,rfl⟩,g,λb f=>(hf b f).1⟩⟩
 done:=by
  w_up;subst hP hw hK;gp_on;have hg:i=x.cps.size:=hg;subst hg;have W:=Walks.strAscii (prog:=X.prog) (w:=X.w) (I.ok.hd hc) it x t;exact W.done s _ _ st λh' m kk=>⟨rfl,I.turned (λb o f e=>kk b o (by simpa using f) e) f0 f1 f3 f4 f5⟩
 self:=λ_ _ _ _ _ st h=>wpAny_pyIter_striter_ascii st h
section
variable {X:Cx}{tg:aA}
abbrev Jc (tl:TE):TI:=λσ H R=>tl σ H λx H1=>∃y:Str,x=.str y/\y.cps.all (· < 128)=true/\R (JZ y) H1
def E4{tl:TE}(hl:PE X l tl):PI X tg l (Jc tl):=by
 intro pins s σ H R I h;refine gY (hl pins s σ H _ I h) λv c h9=>?_;obtain⟨x,H1,d,r1,q1⟩:=h9;obtain⟨y,e,g,q⟩:=q1;subst e;obtain⟨t,rfl⟩:=r1;refine wpAny_pyIter_ascii g ?_;refine⟨c.heap.objs.size,[c.heap.objs.size],_,_,H1,rfl,d.kept (t':=c.toks) λb o e=>aO _ e,Au y t _,⟨_,bx _ rfl,rfl,rfl⟩,λb f=>?_,q⟩;have e:b=c.heap.objs.size:=by simpa using f
 subst e;exact d.yt (aL _)<|d.hok.fresh<|aL _
def yj:gi X (.type "int") (λxs H Q=>∃(y:Str) (n:Int),xs=[.str y]/\y.length<=640/\PySem.intText? y=some n/\Q (.int n) H):=by
 intro pins s σ H xs us Q I d h;obtain⟨y,n,rfl,f,hn,q⟩:=h;obtain⟨w,rfl,c⟩:=vals1 d;obtain⟨u,rfl⟩:=c;exact PySem.W.KIN.call_text hn f ⟨.int n,H,I.tok _,⟨_,rfl⟩,q⟩
end
structure M1 (X:Cx)(o:aA)(m:Str)(apos:Pos)(e:aA)(cpos:Pos):Prop where
 base:attributeBase o m X.env (eval o X.env)=eval o X.env
 few:((backTo cpos<|starEach [e] X.env).all (λx=>!x.1) && (backToKw cpos<|keywordEach [] X.env).all (λx=>x.1.isSome)
  && decide (([e]:List aA).length+([]:List Keyword).length+(if ([]:List Keyword).isEmpty then 0 else 1)<30))=true
 line:(apos.endLine == cpos.line)=true
 trees:backTo cpos (starEach [e] X.env)=[(false,eval e X.env)]
structure M2 (X:Cx)(o:aA)(m:Str)(apos:Pos)(e f:aA)(cpos:Pos):Prop where
 base:attributeBase o m X.env (eval o X.env)=eval o X.env
 few:((backTo cpos<|starEach [e,f] X.env).all (λx=>!x.1) && (backToKw cpos<|keywordEach [] X.env).all (λx=>x.1.isSome)
  && decide (([e,f]:List aA).length+([]:List Keyword).length+(if ([]:List Keyword).isEmpty then 0 else 1)<30))=true
 line:(apos.endLine == cpos.line)=true
 trees:backTo cpos (starEach [e,f] X.env)=[(false,eval e X.env),(false,eval f X.env)]
meta abbrev yy:=ae×ae
abbrev Eb (x:ae):Int:=reduceHash<|Builtin.Tuple.tupleHashOf<|x.map hashInt
abbrev GN (k:yy):Int:=reduceHash<|Builtin.Tuple.tupleHashOf [Eb k.1,Eb k.2]
abbrev K3 (x:(yy×aj×aa)):DictEntry:=⟨GN x.1,.ref x.2.1,x.2.2⟩
abbrev Jv (a:aj)(xs:List<|yy×aj×aa)(h:ak):Prop:=(a == sysModules)=false/\xs.length<=sizeLine/\∃o es c,h.get? a=some o/\o.ExactDict/\o.data=.dict es c/\es.toList=xs.map K3/\(xs.map (·.1)).Nodup
abbrev tD (H:Hp)(b:aj)(k:yy):Prop:=∃r1 r2,H b=some (.tup [.ref r1,.ref r2])/\H r1=some (.tup<|k.1.map V.int)/\H r2=some (.tup<|k.2.map V.int)
abbrev C0 (e:aj)(h:ak):Prop:=∃o c,h.get? e=some o/\o.data=.fields c/\c[2]?=some .none/\o.dict=none
structure Fly (l:List Env)(g:ak)(pn:bo)(H:Hp)(e:aj)(cls:aa)(h:ak):Prop where
 ex:∃(B:ak) (a0:aa),Heap.FlyingW B l e cls a0 h/\(∀a u,H a=some u->∃o,B.get? a=some o)/\(∀b o,g.get? b=some o->b∉frs l->∃o',B.get? b=some o')/\(∀p∈pn,∃o',B.get? p.1=some o')/\C0 e h
structure Made (X:Cx)(H:Hp)(e:aj)(cls:aa)(g:ak)(h:ak):Prop where
 ex:∃(g':ak) (vs:ar),Heap.MadeExcOf g' h e cls vs/\g'.FunFrames X.base X.stack/\(∀a u,H a=some u->∃o,g'.get? a=some o)/\(∀b o,g.get? b=some o->∃o',g'.get? b=some o')/\(∀p∈X.pn,∃o',g'.get? p.1=some o')
abbrev FL (X:Cx)(H:Hp)(e:aj)(cls:aa)(s':az):Prop:=Made X H e cls X.s₀.heap s'.heap\/Fly X.stack X.s₀.heap X.pn H e cls s'.heap
section
abbrev EX (X:Cx):XK:=λcls _ H'=>X.ex=[]/\∀pins c s' e,Inv X pins c H' s'->FL X H' e cls s'->X.xe (.ref e) s'
end
inductive FParts (X:Cx):List aA->List (Str ⊕ TE)->Prop
 | nil:FParts X [] []
 | txt {x:Str} {j pos} {es:List aA} {ps:List<|Str ⊕ TE} (h:FParts X es ps):FParts X (.Constant (.str x) j pos::es) (.inl x::ps)
 | val {e:aA} {pos:Pos} {t:TE} {es:List aA} {ps:List<|Str ⊕ TE} (he:PE X e t) (h:FParts X es ps):FParts X (.FormattedValue e (-1) none pos::es) (.inr t::ps)
abbrev xu:HO:=.ext λ_=>True
structure XO (C:aj)(o:Obj):Prop where
 cls:o.cls=.ref C
 dict:o.dict=none
 ctx:∃vs,o.data=.fields vs/\vs[2]?=some .none
structure Fr0 (X:Cx)(e:aj):Prop where
 no:∀o,X.s₀.heap.get? e≠some o
 tup:∀xs,X.H₀ e≠some (.tup xs)
 frz:∀o u,X.H₀ e≠some (.frz o u)
 tbl:∀ps,X.H₀ e≠some (.tbl ps)
abbrev mroIn (K:aq)(C:aj):Option (ar):=match K.lookup C with
 | some ⟨.type "type",_,.cls cd,sl⟩=>(match cd.mro,sl.toList with
  | .ref C'::bm,[_,_,_,_,some<|.builtin _,_]=>if C'=C/\cd.hasDel=false then some bm else none
  | _,_=>none)
 | _=>none
structure ClsAt (h:ak)(C:aj)(bm:ar):Prop where
 ex:∃nm q N bs hdct sn sub ab col dd k0 k1 k2 k3 k5 newId,h.get? C=some (excClassObj nm q C N bs bm hdct sn sub ab col dd k0 k1 k2 k3 k5 newId)
open PySem.W in
structure XCls (K:aq)(C:aj):Prop where
 ga:findIn K (.ref C) "__getattribute__" = some (some<|.builtin "BaseException.__getattribute__")
 gt:findIn K (.ref C) "__getattr__" = some none
 fc:findObj K C none "__class__" = some (.bind (.builtin "getset_descriptor.__get__")<|.builtin "object.__class__")
 ob:PySem.W.mroIn K C (.type "object")=some true
 bs:subIn K (.ref C) (.type "BaseException")=some true
abbrev EV (A:au):au:={ A with handled:=none }
abbrev Hx (k:Nat)(A:au):Prop:=Room k<|EV A
structure Hnd (A:au)(H:Hp)(e:aj)(oe:Obj)(C:aj):Prop where
 hh:A.handled=some (.ref e)
 h0:H e=some (.frz oe xu)
 xo:XO C oe
structure FnOkH (P:ah)(w:af)(K:aq)(mg:Str->be)(base:ak)(k:Nat)(f:aj)(fd:FuncData)(ps:am)(sp:Sp):Prop where
 len:∀vs H Q E,sp vs H Q E->vs.length=ps.length
 run:∀(A:au) (outer:List Env) (s:az) (H:Hp) (args:Args) (us:ar) (vs:List V) (Q:VK) (e:aj) (oe:Obj) (C:aj),Hx k A->Hnd A H e oe C->Env0 P w K mg base A outer s H->BindsTo s fd args (ps.zip us)->Vals vs us->sp vs H Q E0 ->
  codeAny (model P w) A (.call (.ref f) args) (CR nL outer P w H s Q E0) s
end L2
namespace L2
open PySem PySem.Spec PyProof.Rows PySem.SeqAt
def E_:bootBuiltins "zip" = some (.type "zip"):=by decide +kernel
abbrev Jq (K:aq)(l1 l2:aj):It:=
 ⟨λi H=>∃xs ys x y,iu K H l1 xs/\iu K H l2 ys/\xs[i]?=some x/\ys[i]?=some y,
  λi H v H'=>∃T,H T=none/\v=.ref T/\∀xs ys x y,iu K H l1 xs->iu K H l2 ys->xs[i]?=some x->ys[i]?=some y->H'=upd H T (.tup [x,y]),
  λi H=>∃xs ys,iu K H l1 xs/\iu K H l2 ys/\(xs[i]?=none\/ys[i]?=none)⟩
def yZ{P:ah}{w:af}{K:aq}{TI TO l1 l2:aj}(D:ZipApart z TI TO i1 i2 l1 l2) :
  Turn P w K (.Tuple elts x1 tpos) (Jq K l1 l2) [z,TI,TO,i1,i2] z (λi h=>IsZip h z TI TO .none/\IsPair h TI (.ref i1) (.ref i2)/\(∃a b,IsPair h TO a b)/\h.IsListIter i1 l1 i/\h.IsListIter i2 l2 i) where
 mem:=by simp
 obj:=λi h st b C=>by
  obtain⟨W,N,⟨a,b',Y⟩,⟨o4,e4,c4,d4⟩,⟨o5,e5,c5,d5⟩⟩:=st;have p:b=z\/b=TI\/b=TO\/b=i1\/b=i2:=by simpa using C
  rcases p with rfl|rfl|rfl|rfl|rfl
  ·exact⟨_,W,λv z=>by cases z⟩
  ·exact⟨_,N,λv z=>by cases z⟩
  ·exact⟨_,Y,λv z=>by cases z⟩
  ·exact⟨o4,e4,λv z=>by rw[d4]at z;cases z⟩
  ·exact⟨o5,e5,λv z=>by rw[d5]at z;cases z⟩
 keep:=λi h h' st k=>by
  obtain⟨W,N,⟨a,b',Y⟩,s4,s5⟩:=st;exact⟨k z (by simp) _ W,k TI (by simp) _ N,⟨a,b',k TO (by simp) _ Y⟩,s4.at λo B=>k i1 (by simp) o B,s5.at λo B=>k i2 (by simp) o B⟩
 item:=by
  w_up;subst hP hw hK;obtain⟨W,N,⟨a,b',Y⟩,s4,s5⟩:=st;obtain⟨xs,ys,x,y,U,L,hx,hy⟩:=hg;obtain⟨Z,rv1,p1,hz1⟩:=I.list U;obtain⟨V,rv2,p2,hz2⟩:=I.list L;obtain⟨u1,hu1,ru1⟩:=rv1.get hx;obtain⟨u2,hu2,ru2⟩:=rv2.get hy;refine wpAny_pyNext_zip_item D W N Y s4 s5 p1.isList p2.isList (x:=u1) (y:=u2) (by simpa using hu1) (by simpa using hu2) λh' hz' hTO' h1' h2' hT hsz hk=>?_;refine⟨_,rfl,wpAny_letOwnedTupleGo_zip hz' λh2 he2 G=>?_⟩;have fT:H s.heap.objs.size=none:=I.hok.fresh<|aL _;have lz:z<s.heap.objs.size:=aQ W;have lTI:TI<s.heap.objs.size:=aQ N;have lTO:TO<s.heap.objs.size:=aQ Y;have li1:i1<s.heap.objs.size:=by obtain⟨o,B,_⟩:=s4;exact aQ B
  have li2:i2<s.heap.objs.size:=by obtain⟨o,B,_⟩:=s5;exact aQ B
  have k2:∀b o,b≠z->b≠TO->b≠i1->b≠i2->s.heap.get? b=some o->h2.get? b=some o:=λb o q1 q2 q3 q4 q=>G.extBut b o q1<|hk b o q1 q2 q3 q4 q;have hT2:IsPair h2 s.heap.objs.size u1 u2:=G.extBut _ _ (ne_of_gt lz) hT;have fz:=hf z (by simp);have fTI:=hf TI (by simp);have d:=hf TO (by simp);have f:=hf i1 (by simp);have g:=hf i2 (by simp);have nT:∀b o,s.heap.get? b=some o->b≠s.heap.objs.size:=λb o q=>bC<|aQ q;have j:∀c v,H c=some v->c≠z/\c≠TO/\c≠i1/\c≠i2:=λc v q=>⟨(λw=>by rw[w,fz.1]at q;cases q),(λw=>by rw[w,d.1]at q;cases q),(λw=>by rw[w,f.1]at q;cases q),(λw=>by rw[w,g.1]at q;cases q)⟩;have nch:∀b,b∉[z,TO,i1,i2]->b≠z/\b≠TO/\b≠i1/\b≠i2:=λb C=>by simpa using C
  have I2:Inv X pins σ (upd H s.heap.objs.size<|.tup [x,y]) { s with heap:=h2,toks:=s.toks }:=by
   refine I.step (g':=s.gens) (d':=s.drawn) (ch:=[z,TO,i1,i2]) (λb C=>?_) (λb o _ _ hch q _=>?_) (λb o _ _ hch q _=>?_) (λb o hch q n=>?_) (λb o hch q=>?_) (λb ys q=>?_) (λb o u' q=>?_) (λb ps q=>?_) (λm hm=>?_) (λb u' q=>?_) I.bare
   ·have p:b=z\/b=TO\/b=i1\/b=i2:=by simpa using C
    rcases p with rfl|rfl|rfl|rfl
    ·exact⟨fz.2.2.2.1,fz.2.1,fz.2.2.2.2.1,fz.2.2.2.2.2⟩
    ·exact⟨d.2.2.2.1,d.2.1,d.2.2.2.2.1,d.2.2.2.2.2⟩
    ·exact⟨f.2.2.2.1,f.2.1,f.2.2.2.2.1,f.2.2.2.2.2⟩
    ·exact⟨g.2.2.2.1,g.2.1,g.2.2.2.2.1,g.2.2.2.2.2⟩
   ·f_are;exact k2 b o q1 q2 q3 q4 q
   ·f_are;exact⟨o.slots,k2 b o q1 q2 q3 q4 q⟩
   ·rw[fK<|nT b o q];exact n
   ·f_are;exact⟨o,k2 b o q1 q2 q3 q4 q⟩
   ·rw[fK<|fR q fT];exact q
   ·rw[fK<|fR q fT];exact q
   ·exact⟨#[],by rw[fK<|fR q fT,q];simp⟩
   ·obtain⟨o,es,ep,B,r⟩:=hm;exact⟨o,es,ep,k2 _ o (cN fz.2.1) (cN d.2.1) (cN f.2.1) (cN g.2.1) B,r⟩
   ·by_cases C:b=s.heap.objs.size
    ·subst C;rw[h_]at q
     cases q
     exact⟨by show 2<=sizeLine;decide,[u1,u2],.cons ru1<|.cons ru2 .nil,⟨_,hT2,rfl,rfl,0,rfl⟩⟩
    ·rw[fK C]at q;refine(I.hok b u' q).stay (λc v hc F=>?_) (λc F=>?_) λc ys F=>?_
     ·have J:c≠z/\c≠TO/\c≠i1/\c≠i2:=by
       rcases hc with w|w
       ·rw[w];exact j b u' q
       ·exact j c _ w
      exact k2 c v J.1 J.2.1 J.2.2.1 J.2.2.2 F
     ·rw[fK<|fR F fT];exact F
     ·rw[fK<|fR F fT];exact F
  refine⟨.ref s.heap.objs.size,_,I2,rfl,⟨s.heap.objs.size,fT,rfl,λxs' ys' x' y' hy1 hy2 e1 e2=>?_⟩,⟨he2,?_,⟨u1,u2,?_⟩,?_,?_⟩,λb C=>?_⟩
  ·rw[I.pK hy1 U,hx]at e1;rw[I.pK hy2 L,hy]at e2
   cases e1;cases e2;rfl
  ·exact k2 TI _ D.TIz D.TITO D.TIi1 D.TIi2 N
  ·exact G.extBut TO _ D.TOz hTO'
  ·exact h1'.at λo B=>G.extBut i1 o D.i1z B
  ·exact h2'.at λo B=>G.extBut i2 o D.i2z B
  ·have p:b=z\/b=TI\/b=TO\/b=i1\/b=i2:=by simpa using C
   rcases p with rfl|rfl|rfl|rfl|rfl
   ·rw[fK<|bC lz];exact fz.1
   ·rw[fK<|bC lTI];exact fTI.1
   ·rw[fK<|bC lTO];exact d.1
   ·rw[fK<|bC li1];exact f.1
   ·rw[fK<|bC li2];exact g.1
 done:=by
  w_up;subst hP hw hK;obtain⟨W,N,⟨a,b',Y⟩,s4,s5⟩:=st;obtain⟨xs,ys,U,L,hend⟩:=hg;obtain⟨Z,rv1,p1,hz1⟩:=I.list U;obtain⟨V,rv2,p2,hz2⟩:=I.list L;have hl1:=rv1.length;have hl2:=rv2.length;have fz:=hf z (by simp);have d:=hf TO (by simp);have f:=hf i1 (by simp);have g:=hf i2 (by simp);have hend':Z.toArray[i]?=none\/V.toArray[i]?=none:=by
   rcases hend with q|q
   ·left;rw[cC]at q;simp;lia
   ·right;rw[cC]at q;simp;lia
  refine wpAny_pyNext_zip_end (I.ok.hd hc) D W N Y s4 s5 p1.isList p2.isList hend' λh' hk=>⟨rfl,?_⟩;have nch:∀b,b∉[z,TO,i1,i2]->b≠z/\b≠TO/\b≠i1/\b≠i2:=λb C=>by simpa using C
  have j:∀c v,H c=some v->c≠z/\c≠TO/\c≠i1/\c≠i2:=λc v q=>⟨(λw=>by rw[w,fz.1]at q;cases q),(λw=>by rw[w,d.1]at q;cases q),(λw=>by rw[w,f.1]at q;cases q),(λw=>by rw[w,g.1]at q;cases q)⟩;refine I.step (g':=s.gens) (d':=s.drawn) (t':=s.toks) (ch:=[z,TO,i1,i2]) (λb C=>?_) (λb o _ _ hch q _=>?_) (λb o _ _ hch q _=>?_) (λb o hch q n=>n) (λb o hch q=>?_) (λb ys q=>q) (λb o u' q=>q) (λb ps q=>⟨#[],by rw[q];simp⟩) (λm hm=>?_) (λb u' q=>?_) I.bare
  ·have p:b=z\/b=TO\/b=i1\/b=i2:=by simpa using C
   rcases p with rfl|rfl|rfl|rfl
   ·exact⟨fz.2.2.2.1,fz.2.1,fz.2.2.2.2.1,fz.2.2.2.2.2⟩
   ·exact⟨d.2.2.2.1,d.2.1,d.2.2.2.2.1,d.2.2.2.2.2⟩
   ·exact⟨f.2.2.2.1,f.2.1,f.2.2.2.2.1,f.2.2.2.2.2⟩
   ·exact⟨g.2.2.2.1,g.2.1,g.2.2.2.2.1,g.2.2.2.2.2⟩
  ·f_are;exact hk b o q1 q2 q3 q4 q
  ·f_are;exact⟨o.slots,hk b o q1 q2 q3 q4 q⟩
  ·f_are;exact⟨o,hk b o q1 q2 q3 q4 q⟩
  ·obtain⟨o,es,ep,B,r⟩:=hm;exact⟨o,es,ep,hk _ o (cN fz.2.1) (cN d.2.1) (cN f.2.1) (cN g.2.1) B,r⟩
  ·refine(I.hok b u' q).stay (λc v hc F=>?_) (λc F=>F) λc ys F=>F;have J:c≠z/\c≠TO/\c≠i1/\c≠i2:=by
    rcases hc with w|w
    ·rw[w];exact j b u' q
    ·exact j c _ w
   exact hk c v J.1 J.2.1 J.2.2.1 J.2.2.2 F
 self:=λ_ _ _ _ _ st h=>wpAny_pyIter_zip st.1 h
section
variable {X:Cx}
abbrev IS (K:aq)(ta:TA):TI:=λσ H R=>ta σ H λc H1=>∃a b xs ys,c=[.ref a,.ref b]/\iu K H1 a xs/\iu K H1 b ys/\R (Jq K a b) H1
def EZ{a b:aA}{ta:TA}{p:Pos}(hg:Gl X "zip")(hm:X.mg "zip" = none)(ha:PA X [a,b] ta)(hs:starEach [a,b] X.env=(false,eval a X.env)::starEach [b] X.env:=by rfl)(hpl:(backTo pos<|starEach [b] X.env).any (·.1)=false:=by rfl):PI X (.Tuple elts x1 tpos) (.Call (.Name "zip" p) [a,b] [] pos) (IS X.K ta):=by
 intro pins s σ H R I h;refine Call_<|ng I hg hm E_<|cy (gY (ha pos pins s σ H _ I h) λus c ⟨vs,H1,f,r1,q1⟩=>?_) hs hpl;obtain⟨Z,Y,xs,ys,e,J,F,q⟩:=q1;subst e;obtain⟨u1,d,rfl,g,r2⟩:∃u d,us=u::d/\RelV (.ref Z) u/\Vals [.ref Y] d:=by
  cases r1 with|cons h t=>exact⟨_,_,rfl,h,t⟩
 obtain⟨u2,rfl,P⟩:=vals1 r2
 cases g
 cases P
 obtain⟨W,rv1,p1,hz1⟩:=f.list J;obtain⟨V,rv2,p2,hz2⟩:=f.list F;refine call_zip_2 p1.isList p2.isList λh' hz D L G C hsz hk=>?_;have I2:Inv X pins σ H1 { c with heap:=h' }:=f.kept (t':=c.toks) hk;have m:Z<c.heap.objs.size:=by obtain⟨o,j,_⟩:=p1.isList;exact aQ j
 have B:Y<c.heap.objs.size:=by obtain⟨o,j,_⟩:=p2.isList;exact aQ j
 have fr:∀k,H1 (c.heap.objs.size+k)=none:=λk=>f.hok.fresh<|Nat.le_add_right _ k;refine wpAny_pyIter_zip hz ⟨_,[c.heap.objs.size+4,c.heap.objs.size+2,c.heap.objs.size+3,c.heap.objs.size,c.heap.objs.size+1],_,_,H1,rfl,I2,yZ<|zipApart_new m B,⟨hz,D,⟨_,_,L⟩,G,C⟩,λb U=>?_,q⟩;have N:∃k,b=c.heap.objs.size+k:=by
  dsimp[bq,List.not_mem_nil,or_false]at U
  rcases U with rfl|rfl|rfl|rfl|rfl
  ·exact⟨4,rfl⟩
  ·exact⟨2,rfl⟩
  ·exact⟨3,rfl⟩
  ·exact⟨0,rfl⟩
  ·exact⟨1,rfl⟩
 obtain⟨k,rfl⟩:=N;exact f.yt (Nat.le_add_right _ k)<|fr k
end
end L2
namespace L2
open PySem PySem.Spec PyProof.Rows
def AU{X:Cx}{i:Nat}{spos:Pos}{iter:aA}{N:am}{wi:TI}{g:TG}{tc:TT}{te:TE}
  (hN:X.N.Nodup) (hi':X.N[i]?=some y) (hx:Loc X.env.scope y) (hc:X.calm=true) (S:CpScope X scope N cap) (hi:PI X tg iter wi)
  (hg:∀C s₀ H₀ ex,PG (iM X scope N C s₀ H₀ ex) tg g) (ht:∀C s₀ H₀ ex,EN (iM X scope N C s₀ H₀ ex) ifs tc) (he:∀C s₀ H₀ ex,PE (iM X scope N C s₀ H₀ ex) elt te)
  (hsw:swapsWith (.ListComp elt [⟨tg,iter,ifs,0⟩] scope pos) (some<|.Name y py) spos.line X.env=pure true)
  (hf:X.fn y=true\/X.env.scope.names.lookup y=some .local) (hs:∀x,foldedSetIterable iter X.env x=pure x:=by intro _;rfl) :
  PS X (.Assign [.Name y py] (.ListComp elt [⟨tg,iter,ifs,0⟩] scope pos) spos) (Cf (GW cap wi g tc te)<|BA i):=by
 intro pins s σ H D I h;rw[exec_Assign_Name_used _ _ _ _ hsw];refine aJ (wpAny_standAt<|aJ ?_)
 skip
 refine aJ<|d9 (wZ (ok:=λY=>Y.calm=true) (Q':=λ_ s'=>SP X pins D .next s') S (λ_ _ _ _ _=>hc) (PI.g hi) hg ht he hs pins s σ H _ I h ?_) (λ_ s' hq=>aT<|aT hq) λ_ _ e=>e;intro J C V H5 m hn k G q v;have Ia:=G J.heap<|Heap.SameBut.refl _ _;obtain⟨P,j⟩:∃o,J.heap.get? C=some o/\∀v,o.data≠.cell v:=by
  obtain⟨o,es,ep,e,d,_⟩:=hn;exact⟨o,e,λv z=>by rw[d]at z;cases z⟩
 have W:=Ia.pinned (fp:=[C]) (λb f=>by rw[aH]at f;rw[f];exact k) (λb f=>by rw[aH]at f;rw[f];exact⟨P,j⟩)
 skip
 refine gY (uZ hN hi' hx hf _ J σ H5 (.ref V) (.ref V) _ W rfl q) λ_ s7 h9=>?_;obtain⟨F,U,p,Z⟩:=h9;have L:=p.pin (C,P)<|bw _<|bw _<|i7 (aH.mpr rfl) j.1;refine⟨m,hn.at' λo e=>by rw[j.1]at e;cases e;exact L.1,λh' B=>?_⟩;have K:∀c v,U c=some v->c≠C:=λc v e z=>by rw[z,L.2.1]at e;cases e
 refine⟨F,U,?_,Z⟩;refine p.kU.DR (ch:=[C]) rfl ⟨λb o e n f hx=>?_,λb o e n f hx=>?_,λb o e n hx=>n,λb o e hx=>?_,λ_ _ e=>e,λ_ _ _ e=>e,λ_ _ e=>⟨#[],by rw[Array.append_empty];exact e⟩⟩ ?_ p.bare ?_
 ·exact B.extBut b o (by simpa using hx) e
 ·exact⟨o.slots,B.extBut b o (by simpa using hx) e⟩
 ·exact⟨o,B.extBut b o (by simpa using hx) e⟩
 ·intro b o e;refine(p.hok b o e).stay (λc v hc q=>B.extBut c v ?_ q) (λ_ q=>q) λ_ _ q=>q
  rcases hc with z|z
  ·rw[z];exact K b o e
  ·exact K c _ z
 ·intro b f;rw[aH]at f;rw[f];exact⟨k.2.2.2.1,k.2.1,k.2.2.2.2.1,k.2.2.2.2.2⟩
end L2
namespace Sx
open PySem PyProof.Rows
structure Ord where
 lt:Nat->Nat->Bool
 irr:∀i,lt i i=false
 tr:∀i j k,lt i j=true->lt j k=true->lt i k=true
 neg:∀i j k,lt i k=true->lt i j=true\/lt j k=true
abbrev P (o:Ord)(i j:Nat):Prop:=o.lt i j=true\/(o.lt j i=false/\i<j)
abbrev So (o:Ord)(g:Nat->Nat)(a b:Nat):Prop:=∀i j,a<=i->i<j->j<b->P o (g i) (g j)
abbrev Cl (g:Nat->Nat)(a b:Nat):Prop:=∀i,a<=i->i<b->a<=g i/\g i<b
abbrev rev (g:Nat->Nat)(i j:Nat):Nat->Nat:=λk=>if i<=k/\k<j then g (i+j-1-k)else g k
section
variable {o:Ord}{N:Nat}{f:Nat->Keyed}{kd:SortKind}{g:Nat->Nat}{p:Array (Nat×Nat×Nat)}{st:SortSt}
structure Sg (N:Nat)(f:Nat->Keyed)(kd:SortKind)(g:Nat->Nat)(p:Array (Nat×Nat×Nat))(st:SortSt):Prop where
 size:(arrOf st).size=N
 get:∀i,i<N->(arrOf st)[i]?=some (f<|g i)
 lt:∀i,i<N->g i<N
 kind:kindOf st=kd
 failed:failedOf st=none
 pend:pendingOf st=p
structure Rn (o:Ord)(g0 g:Nat->Nat)(a b:Nat):Prop where
 out:∀i,i<a\/b<=i->g i=g0 i
 cl:Cl g a b
 so:So o g a b
end
section
variable {o:Ord}{g g0:Nat->Nat}
structure Dc (o:Ord)(g0 g:Nat->Nat)(a b q:Nat):Prop where
 out:∀i,i<a\/b<=i->g i=g0 i
 cl:Cl g a b
 few:a+(q+1)<=b
 dn:∀i j,a<=i->i<j->j<b->i<b-(q+1)->P o (g j) (g i)
 id:∀i,b-(q+1)<=i->i<b->g i=i
 al:∀i j,b-(q+1)<=i->i<b->b-(q+1)<=j->j<b->o.lt i j=false
end
section
variable {o:Ord}{N:Nat}{f:Nat->Keyed}{A B hs:ag}{ia ib:Nat}
abbrev fa (f:Nat->Keyed)(l:ag):Array Keyed:=(l.map f).toArray
structure Ab (o:Ord)(N:Nat)(A B:ag):Prop where
 sa:A.Pairwise (P o)
 sb:B.Pairwise (P o)
 lt:∀x∈A,∀y∈B,x<y
 nb:∀y∈B,y<N
 na:∀x∈A,x<N
structure Mg (o:Ord)(A B hs:ag)(ia ib:Nat):Prop where
 la:ia<=A.length
 lb:ib<=B.length
 len:hs.length=ia+ib
 so:hs.Pairwise (P o)
 mem:∀x∈hs,x∈A\/x∈B
 ua:∀x∈hs,∀y∈A.drop ia,P o x y
 ub:∀x∈hs,∀y∈B.drop ib,P o x y
abbrev Res (o:Ord)(f:Nat->Keyed)(A B:ag)(out:Array Keyed):Prop:=∃hs:ag,out=fa f hs/\hs.length=A.length+B.length/\hs.Pairwise (P o)/\∀x∈hs,x∈A\/x∈B
end
structure Sm (st st':SortSt):Prop where
 a:arrOf st'=arrOf st
 k:kindOf st'=kindOf st
 p:pendingOf st'=pendingOf st
 f:failedOf st'=failedOf st
meta abbrev G:=Option (Array Keyed)×Array Keyed×Nat×Nat×Nat×Nat×Nat
section
variable {o:Ord}{A B ts:ag}{na nb:Nat}
structure Mh (o:Ord)(A B ts:ag)(na nb:Nat):Prop where
 la:na<=A.length
 lb:nb<=B.length
 len:ts.length+na+nb=A.length+B.length
 so:ts.Pairwise (P o)
 mem:∀x∈ts,x∈A\/x∈B
 ua:∀y∈A.take na,∀x∈ts,P o y x
 ub:∀y∈B.take nb,∀x∈ts,P o y x
end
meta abbrev H:=Option (Array Keyed)×Nat×Nat×Array Keyed×Nat×Nat×Nat
section
variable {o:Ord}{f:Nat->Keyed}{st0:SortSt}{X Y ts:ag}{na nb:Nat}
abbrev Oh (o:Ord)(X Y:ag)(n:Nat)(ts:ag)(na nb:Nat):Prop:=Mh o X Y ts na nb/\1<=na/\2<=nb/\na+nb+n<=X.length+Y.length
abbrev H2 (o:Ord)(f:Nat->Keyed)(X Y:ag)(n:Nat)(st0:SortSt):ForInStep H->SortSt->Prop:=λr g=>Sm st0 g/\match r with
 | .done c=>(∃r z,c=(some r,z)/\Res o f X Y r)\/∃ts na nb mg j d,c=(none,na,nb,fa f ts.reverse,mg,j,d)/\Oh o X Y n ts na nb
 | .yield c=>∃ts na nb mg j d,c=(none,na,nb,fa f ts.reverse,mg,j,d)/\Oh o X Y n ts na nb
end
meta abbrev pr (x:Nat×Nat×Nat):Nat×Nat:=(x.1,x.2.1)
abbrev G1 (o:Ord)(g:Nat->Nat):List (Nat×Nat)->Nat->Nat->Prop
 | [],a,b=>a=b
 | x::l,a,b=>x.1=a/\1<=x.2/\Cl g a (a+x.2)/\So o g a (a+x.2)/\G1 o g l (a+x.2) b
abbrev PA (o:Ord)(g:Nat->Nat)(p:Array<|Nat×Nat×Nat)(b:Nat):Prop:=G1 o g (p.toList.map pr) 0 b
end Sx
namespace Am
open PySem
inductive A where
 | unb|f6|bl (b:Bool)|int (i:Int)|str (x:Str)|tup (xs:List A)|frz (xs:List A)|rng (lo hi:Int)|ref (n:Nat)|exn (c:Str)|ty (n:String)|ktu (xs:List A)
@[reducible]def ad:=List A
inductive O where
 | lst (xs:ad)|dct (kvs:List<|ae×A)|dki (kvs:List<|Int×A)|dcp (kvs:List<|L2.yy×A)|ins (c:Str) (fs:List<|Str×A)
meta abbrev fj:=List O
inductive R (α:Type) where
 | ok (a:α) (S:fj)|ex (c:Str) (S:fj)|no
abbrev R.bind {α β:Type}(r:R α)(f:α->fj->R β):R β:=match r with
 | .ok a S=>f a S
 | .ex c S=>.ex c S
 | .no=>.no
abbrev R.post {α:Type}(r:R α)(P:α->fj->Prop)(E:Str->fj->Prop):Prop:=match r with
 | .ok a S=>P a S
 | .ex c S=>E c S
 | .no=>False
def fE{α β:Type}{r:R α}{f:α->fj->R β}{P:β->fj->Prop}{E:Str->fj->Prop}(h:(r.bind f).post P E):r.post (λa S=>(f a S).post P E) E:=by
 cases r<;>exact h
def yf{α:Type}{r:R α}{P P':α->fj->Prop}{E E':Str->fj->Prop}(h:r.post P E)(hp:∀a S,P a S->P' a S)(he:∀c S,E c S->E' c S):r.post P' E':=by
 cases r with
 | ok a S=>exact hp _ _ h
 | ex c S=>exact he _ _ h
 | no=>exact h.elim
abbrev gd {α:Type}(c:Prop)[Decidable c](r:R α):R α:=if c then r else .no
abbrev opt {α β:Type}(o:Option β)(f:β->R α):R α:=match o with
 | some b=>f b
 | none=>.no
def fS{α:Type}{c:Prop}[Decidable c]{r:R α}{P:α->fj->Prop}{E:Str->fj->Prop}(h:(gd c r).post P E):c/\r.post P E:=by
 unfold gd at h;by_cases hc:c
 ·rw[aZ hc]at h;exact⟨hc,h⟩
 ·rw[bu hc]at h;exact h.elim
def fJ{α β:Type}{o:Option β}{f:β->R α}{P:α->fj->Prop}{E:Str->fj->Prop}(h:(opt o f).post P E):∃b,o=some b/\(f b).post P E:=by
 cases o with
 | none=>exact h.elim
 | some b=>exact⟨b,rfl,h⟩
def Jp{α:Type}{c:Prop}[Decidable c]{r:R α}(h:c):gd c r=r:=aZ h
def HM{α β:Type}{o:Option β}{f:β->R α}{b:β}(h:o=some b):opt o f=f b:=by rw[h];rfl
abbrev eX (S:fj)(n:Nat):Option (ad):=match S[n]? with
 | some (.lst xs)=>some xs
 | _=>none
def fF{n:Nat}(h:eX S n=some xs):S[n]?=some (.lst xs):=by
 unfold eX at h;split at h
 ·rename_i e;cases h;exact e
 ·cases h
def mC{S:fj}{n:Nat}(h:S[n]?=some (.lst xs)):eX S n=some xs:=by
 unfold eX;rw[h]
inductive RS where
 | nx (τ:ad) (S:fj)|rt (a:A) (S:fj)|bk (τ:ad) (S:fj)|ct (τ:ad) (S:fj)|ex (c:Str) (S:fj)|no
meta abbrev Ex:=ad->fj->R A
meta abbrev kF:=ad->fj->R (ad)
meta abbrev Te:=ad->fj->R Bool
meta abbrev Sm:=ad->fj->RS
meta abbrev Tg:=A->ad->fj->R (ad)
end Am
namespace Am
open PySem L2
section
variable (K:aq) (ρ:ba) (H:Hp)
abbrev Ji (K:aq)(c:Str)(C:aj):Prop:=PySem.W.nsIn K mainGlobals c=some (some<|.ref C)
abbrev Fz (K:aq)(H:Hp)(a:aj)(vs:List V):Prop:=
 (∃o,H a=some (.frz o<|.lst vs))\/∃(o:Obj) (c:Array aa) (n:Nat),K.lookup a=some o/\o.cls=.type "list" /\ o.dict=none/\o.data=.seq c n/\c.size<=sizeLine/\Vals vs c.toList
abbrev KS (K:aq)(a:aj)(vs:List V):Prop:=∃(o:Obj) (c:Array aa) (n:Nat),K.lookup a=some o/\o.cls=.type "tuple" /\ o.dict=none/\o.data=.seq c n/\c.size<=sizeLine/\Vals vs c.toList
mutual
inductive AV:A->V->Prop
 | f6:AV .f6 .f6
 | bl (b:Bool):AV (.bl b) (.bl b)
 | int (i:Int):AV (.int i) (.int i)
 | str (x:Str):AV (.str x) (.str x)
 | ty (n:String):AV (.ty n) (.ty n)
 | tup {a:aj} {xs:ad} {vs:List V} (h:H a=some (.tup vs)) (r:AVs xs vs):AV (.tup xs) (.ref a)
 | frz {a:aj} {xs:ad} {vs:List V} (h:Fz K H a vs) (r:AVs xs vs):AV (.frz xs) (.ref a)
 | rng {a:aj} {lo hi:Int} (h:H a=some (.rng lo hi)):AV (.rng lo hi) (.ref a)
 | ref {a:aj} {n:Nat} (h:ρ[n]?=some a):AV (.ref n) (.ref a)
 | exn {a C:aj} {c:Str} {oe:Obj} (n:Ji K c C) (h:H a=some (.frz oe xu)) (x:XO C oe):AV (.exn c) (.ref a)
 | ktu {a:aj} {xs:ad} {vs:List V} (h:KS K a vs) (r:AVs xs vs):AV (.ktu xs)<|.ref a
inductive AVs:ad->List V->Prop
 | nil:AVs [] []
 | cons {x:A} {v:V} {xs:ad} {vs:List V} (h:AV x v) (t:AVs xs vs):AVs (x::xs) (v::vs)
end
abbrev DV:List (ae×A)->List (List Key×V)->Prop
 | [],[]=>True
 | p::r,q::r'=>(q.1=p.1.map Sum.inl/\AV K ρ H p.2 q.2)/\DV r r'
 | _,_=>False
abbrev DI:List (Int×A)->List (Key×V)->Prop
 | [],[]=>True
 | p::r,q::r'=>(q.1=Sum.inl p.1/\AV K ρ H p.2 q.2)/\DI r r'
 | _,_=>False
abbrev DP:List (L2.yy×A)->List (L2.yy×aj×aa)->Prop
 | [],[]=>True
 | p::r,q::r'=>(q.1=p.1/\L2.tD H q.2.1 q.1/\∃v,RelV v q.2.2/\AV K ρ H p.2 v)/\DP r r'
 | _,_=>False
abbrev OR (a:aj):O->Prop
 | .lst xs=>∃d,H a=some (.lst d)/\AVs K ρ H xs d
 | .dct c=>∃ks,H a=some (.dT ks)/\DV K ρ H c ks
 | .dki c=>∃ks,H a=some (.dK ks)/\DI K ρ H c ks
 | .dcp c=>∃xs,H a=some (.ext<|L2.Jv a xs)/\DP K ρ H c xs
 | .ins _ _=>∃o u,H a=some (.frz o u)
structure Rel (S:fj):Prop where
 len:ρ.length=S.length
 nd:ρ.Nodup
 «at»:∀(n:Nat) (a:aj) (o:O),ρ[n]?=some a->S[n]?=some o->OR K ρ H a o
end
abbrev KQ:HO->Prop
 | .tup _=>True
 | .rng _ _=>True
 | .frz _ _=>True
 | _=>False
structure Ext0 (ρ ρ':ba)(H H':Hp):Prop where
 pre:ρ <+: ρ'
 im:∀a u,KQ u->H a=some u->H' a=some u
structure Ext (ρ ρ':ba)(H H':Hp):Prop extends Ext0 ρ ρ' H H' where
 fr:∀a u,H a=some u->a∉ρ->H' a=some u
 nw:∀a,a∈ρ'->a∈ρ\/H a=none
def Ext.refl{H:Hp}:Ext ρ ρ H H:=⟨⟨dR _,λ_ _ _ h=>h⟩,λ_ _ h _=>h,λ_ h=>.inl h⟩
def Ext.trans{H H1 H2:Hp}(a:Ext ρ ρ1 H H1)(b:Ext ρ1 ρ2 H1 H2):Ext ρ ρ2 H H2:=⟨⟨a.pre.trans b.pre,λx u i h=>b.im x u i<|a.im x u i h⟩,λx u h n=>b.fr x u (a.fr x u h n) λz=>(a.nw x z).elim n λz=>by(rw[z]at h;cases h),λx h=>by
 by_cases hx:x∈ρ
 ·exact .inl hx
 ·right
  cases q:H x with
  | none=>rfl
  | some u=>
   rcases b.nw x h with z|z
   ·exact((a.nw x z).elim hx λz=>by(rw[z]at q;cases q)).elim
   ·rw[a.fr x u q hx]at z;cases z⟩
def Ext0.get{H H':Hp}(e:Ext0 ρ ρ' H H'){n:Nat}{a:aj}(h:ρ[n]?=some a):ρ'[n]?=some a:=by
 obtain⟨t,rfl⟩:=e.pre;rw[aX (aM.mp h).1];exact h
section
variable {K:aq}{ρ ρ':ba}{H H':Hp}
def Ext0.KI(e:Ext0 ρ ρ' H H'){a:aj}(h:iR K H a vs):iR K H' a vs:=by
 rcases h with(h|⟨o,h⟩)|h
 ·exact .inl (.inl<|e.im _ _ trivial h)
 ·exact .inl (.inr ⟨o,e.im _ _ trivial h⟩)
 ·exact .inr h
def Ext0.fz(e:Ext0 ρ ρ' H H'){a:aj}(h:Fz K H a vs):Fz K H' a vs:=by
 rcases h with⟨o,h⟩|h
 ·exact .inl ⟨o,e.im _ _ trivial h⟩
 ·exact .inr h
def Fz.BW{a:aj}(h:Fz K H a vs):iu K H a vs:=by
 rcases h with⟨o,h⟩|h
 ·exact .inl (.inr ⟨o,h⟩)
 ·exact .inr h
mutual
theorem AV.gS(e:Ext0 ρ ρ' H H'):∀{x:A}{v:V},AV K ρ H x v->AV K ρ' H' x v
 | _,_,.f6=>.f6
 | _,_,.bl b=>.bl b
 | _,_,.int i=>.int i
 | _,_,.str x=>.str x
 | _,_,.ty x=>.ty x
 | _,_,.tup h r=>.tup (e.im _ _ trivial h) (AVs.gS e r)
 | _,_,.frz h r=>.frz (e.fz h) (AVs.gS e r)
 | _,_,.rng h=>.rng (e.im _ _ trivial h)
 | _,_,.ref h=>.ref (e.get h)
 | _,_,.exn n h x=>.exn n (e.im _ _ trivial h) x
 | _,_,.ktu h r=>.ktu h<|AVs.gS e r
theorem AVs.gS(e:Ext0 ρ ρ' H H'):∀{xs:ad}{vs:List V},AVs K ρ H xs vs->AVs K ρ' H' xs vs
 | _,_,.nil=>.nil
 | _,_,.cons h t=>.cons (AV.gS e h)<|AVs.gS e t
end
theorem DV.gS(e:Ext0 ρ ρ' H H'):∀{xs:List<|ae×A}{vs:List<|List Key×V},DV K ρ H xs vs->DV K ρ' H' xs vs
 | [],[],_=>trivial
 | _::_,_::_,⟨⟨a,b⟩,r⟩=>⟨⟨a,AV.gS e b⟩,DV.gS e r⟩
def DV.ext{x:List<|ae×A}{v:List<|List Key×V}(h:DV K ρ H x v)(e:Ext ρ ρ' H H'):DV K ρ' H' x v:=DV.gS e.toExt0 h
theorem DI.gS(e:Ext0 ρ ρ' H H'):∀{xs:List<|Int×A}{vs:List<|Key×V},DI K ρ H xs vs->DI K ρ' H' xs vs
 | [],[],_=>trivial
 | _::_,_::_,⟨⟨a,b⟩,r⟩=>⟨⟨a,AV.gS e b⟩,DI.gS e r⟩
def DI.ext{x:List<|Int×A}{v:List<|Key×V}(h:DI K ρ H x v)(e:Ext ρ ρ' H H'):DI K ρ' H' x v:=DI.gS e.toExt0 h
def tD.gS{k:L2.yy}(e:Ext0 ρ ρ' H H'):L2.tD H b k->L2.tD H' b k:=λ⟨r1,r2,h1,c,d⟩=>⟨r1,r2,e.im _ _ trivial h1,e.im _ _ trivial c,e.im _ _ trivial d⟩
theorem DP.gS(e:Ext0 ρ ρ' H H'):∀{xs:List<|L2.yy×A}{vs:List<|L2.yy×aj×aa},DP K ρ H xs vs->DP K ρ' H' xs vs
 | [],[],_=>trivial
 | _::_,_::_,⟨⟨a,k,v,c,b⟩,r⟩=>⟨⟨a,tD.gS e k,v,c,AV.gS e b⟩,DP.gS e r⟩
def DP.ext{x:List<|L2.yy×A}{v:List<|L2.yy×aj×aa}(h:DP K ρ H x v)(e:Ext ρ ρ' H H'):DP K ρ' H' x v:=DP.gS e.toExt0 h
def AV.ext{x:A}{v:V}(h:AV K ρ H x v)(e:Ext ρ ρ' H H'):AV K ρ' H' x v:=AV.gS e.toExt0 h
def AVs.ext{x:ad}{v:List V}(h:AVs K ρ H x v)(e:Ext ρ ρ' H H'):AVs K ρ' H' x v:=AVs.gS e.toExt0 h
theorem AVs.length:∀{xs:ad}{vs:List V},AVs K ρ H xs vs->xs.length=vs.length
 | _,_,.nil=>rfl
 | _,_,.cons _ t=>cG (·+1)<|AVs.length t
theorem AVs.append:∀{xs ys:ad}{vs ws:List V},AVs K ρ H xs vs->AVs K ρ H ys ws->AVs K ρ H (xs++ys) (vs++ws)
 | _,_,_,_,.nil,s=>s
 | _,_,_,_,.cons h t,s=>.cons h<|AVs.append t s
theorem AVs.take:∀{xs:ad}{vs:List V}(n:Nat),AVs K ρ H xs vs->AVs K ρ H (xs.take n) (vs.take n)
 | _,_,0,_=>.nil
 | _,_,_+1,.nil=>.nil
 | _,_,n+1,.cons h t=>.cons h<|AVs.take n t
theorem AVs.drop:∀{xs:ad}{vs:List V}(n:Nat),AVs K ρ H xs vs->AVs K ρ H (xs.drop n) (vs.drop n)
 | _,_,0,r=>r
 | _,_,_+1,.nil=>.nil
 | _,_,n+1,.cons _ t=>AVs.drop n t
theorem AVs.reverse:∀{xs:ad}{vs:List V},AVs K ρ H xs vs->AVs K ρ H xs.reverse vs.reverse
 | _,_,.nil=>.nil
 | _,_,.cons h t=>by rw[cH,cH];exact(AVs.reverse t).append (.cons h .nil)
theorem AVs.get:∀{xs:ad}{vs:List V}{i:Nat}{x:A},AVs K ρ H xs vs->xs[i]?=some x->∃v,vs[i]?=some v/\AV K ρ H x v
 | _,_,_,_,.nil,e=>by simp at e
 | _,_,0,_,.cons h _,e=>by simp at e;subst e;exact⟨_,rfl,h⟩
 | _,_,i+1,x,.cons _ t,e=>by
  obtain⟨u,h1,c⟩:=AVs.get (i:=i) (x:=x) t (by simpa using e);exact⟨u,by simpa using h1,c⟩
theorem AVs.set{x:A}{v:V}(h:AV K ρ H x v):∀{xs:ad}{vs:List V}(i:Nat),AVs K ρ H xs vs->AVs K ρ H (xs.set i x) (vs.set i v)
 | _,_,_,.nil=>.nil
 | _,_,0,.cons _ t=>.cons h t
 | _,_,i+1,.cons q t=>.cons q<|AVs.set h i t
def AVs.one{x:A}{v:V}(h:AV K ρ H x v):AVs K ρ H [x] [v]:=.cons h .nil
theorem AVs.eraseIdx:∀{xs:ad}{vs:List V}(i:Nat),AVs K ρ H xs vs->AVs K ρ H (xs.eraseIdx i) (vs.eraseIdx i)
 | _,_,_,.nil=>.nil
 | _,_,0,.cons _ t=>t
 | _,_,i+1,.cons q t=>.cons q<|AVs.eraseIdx i t
theorem kI:∀(ns:ae),AVs K ρ H (ns.map .int) (ns.map .int)
 | []=>.nil
 | n::ns=>.cons (.int n)<|kI ns
def Rel.lay{S:fj}{p:aj}(R:Rel K ρ H S)(hp:H p=none)(r:AVs K ρ H xs vs):Ext ρ (ρ++[p]) H (upd H p<|.lst vs)/\Rel K (ρ++[p]) (upd H p<|.lst vs) (S++[.lst xs])/\(ρ++[p])[S.length]?=some p:=by
 have ex:Ext ρ (ρ++[p]) H (upd H p<|.lst vs):=⟨⟨eg _ _,λa u _ h=>by rw[fK<|fR h hp];exact h⟩,λa u h _=>by rw[fK<|fR h hp];exact h,λa h=>by
  rcases bh.mp h with z|z
  ·exact .inl z
  ·have e:a=p:=by simpa using z
   rw[e];exact .inr hp⟩
 have d:∀(n:Nat) (a:aj),ρ[n]?=some a->a≠p:=by
  intro n a e z;subst z;have hn:n<S.length:=by rw[<- R.len];exact(aM.mp e).1
  have:=R.at n a S[n] e (aF hn)
  cases f:S[n]with
  | lst xs=>rw[f]at this;obtain⟨vs,h,_⟩:=this;rw[hp]at h;cases h
  | dct _|dki _|dcp _=>rw[f]at this;obtain⟨vs,h,_⟩:=this;rw[hp]at h;cases h
  | ins _ _=>rw[f]at this;obtain⟨_,_,h⟩:=this;rw[hp]at h;cases h
 have last:(ρ++[p])[S.length]?=some p:=by rw[<- R.len];simp
 refine⟨ex,⟨by simp[R.len],?_,?_⟩,last⟩
 ·rw[dM];refine⟨R.nd,by simp,λa m b j e=>?_⟩;have:b=p:=by simpa using j
  obtain⟨n,hn,k⟩:=cY.mp m;exact d n a (by rw[aF hn,k])<|e.trans this
 ·intro n a o h1 c;by_cases hn:n<S.length
  ·rw[aX<|by rw[R.len];exact hn]at h1;rw[aX hn]at c;have:=R.at n a o h1 c
   cases o with
   | lst ys=>obtain⟨g,e,q⟩:=this;exact⟨g,by rw[fK<|d n a h1];exact e,q.ext ex⟩
   | dct _|dki _|dcp _=>obtain⟨g,e,q⟩:=this;exact⟨g,by rw[fK<|d n a h1];exact e,q.ext ex⟩
   | ins _ _=>obtain⟨B,C,e⟩:=this;exact⟨B,C,by rw[fK<|d n a h1];exact e⟩
  ·have e:n=S.length:=by
    have:=(aM.mp c).1;simp at this
    lia
   subst e;rw[last]at h1
   cases h1
   simp at c;subst c;exact⟨vs,h_,r.ext ex⟩
def Rel.im{p:aj}(R:Rel K ρ H S)(hp:H p=none):Ext ρ ρ H (upd H p u)/\Rel K ρ (upd H p u) S:=by
 have ex:Ext ρ ρ H (upd H p u):=⟨⟨dR _,λa u _ h=>by rw[fK<|fR h hp];exact h⟩,λa u h _=>by rw[fK<|fR h hp];exact h,λ_ h=>.inl h⟩;refine⟨ex,R.len,R.nd,λn a o h1 d=>?_⟩;have:=R.at n a o h1 d
 cases o with
 | lst ys=>obtain⟨c,e,q⟩:=this;exact⟨c,by rw[fK<|fR e hp];exact e,q.ext ex⟩
 | dct _|dki _|dcp _=>obtain⟨c,e,q⟩:=this;exact⟨c,by rw[fK<|fR e hp];exact e,q.ext ex⟩
 | ins _ _=>obtain⟨f,g,e⟩:=this;exact⟨f,g,by rw[fK<|fR e hp];exact e⟩
def Rel.put{S:fj}{n:Nat}{a:aj}(R:Rel K ρ H S)(ha:ρ[n]?=some a)(hS:S[n]?=some (.lst xs))(r:AVs K ρ H ys ws):Ext ρ ρ H (upd H a<|.lst ws)/\Rel K ρ (upd H a<|.lst ws) (S.set n<|.lst ys):=by
 obtain⟨C,e,_⟩:=R.at n a _ ha hS;have ex:Ext ρ ρ H (upd H a<|.lst ws):=⟨⟨dR _,λb u i h=>by
  have:b≠a:=by
   intro z;subst z;rw[e]at h;cases h;exact i
  rw[fK this];exact h⟩,λb u h n=>by
  rw[fK λz=>n<|by rw[z];exact bf ha];exact h,λ_ h=>.inl h⟩
 refine⟨ex,by rw[bA];exact R.len,R.nd,λm b o h1 f=>?_⟩;by_cases g:m=n
 ·subst g;rw[ha]at h1;cases h1;rw[bP (aM.mp hS).1]at f
  cases f
  exact⟨ws,h_,r.ext ex⟩
 ·rw[bU<|cN g]at f;have nb:b≠a:=λz=>by
   subst z;obtain⟨p,e1⟩:=aM.mp ha;obtain⟨B,e2⟩:=aM.mp h1;exact g<|(List.getElem_inj R.nd).mp<|e2.trans e1.symm
  have:=R.at m b o h1 f
  cases o with
  | lst ys=>obtain⟨c,d,q⟩:=this;exact⟨c,by rw[fK nb];exact d,q.ext ex⟩
  | dct _|dki _|dcp _=>obtain⟨c,d,q⟩:=this;exact⟨c,by rw[fK nb];exact d,q.ext ex⟩
  | ins _ _=>obtain⟨j,k,d⟩:=this;exact⟨j,k,by rw[fK nb];exact d⟩
def Rel.lst{n:Nat}{a:aj}(R:Rel K ρ H S)(ha:ρ[n]?=some a)(hS:S[n]?=some (.lst xs)):∃vs,H a=some (.lst vs)/\AVs K ρ H xs vs:=R.at n a _ ha hS
structure SR (K:aq)(ρ:ba)(H:Hp)(τ:ad)(σ:St):Prop where
 len:τ.length=σ.length
 «at»:∀(i:Nat) (a:A),τ[i]?=some a->a=.unb\/∃v,σ[i]?=some (some v)/\AV K ρ H a v
def SR.gS(s:SR K ρ H τ σ)(e:Ext0 ρ ρ' H H'):SR K ρ' H' τ σ:=⟨s.len,λi a h=>by
 rcases s.at i a h with z|⟨v,h1,c⟩
 ·exact .inl z
 ·exact .inr ⟨v,h1,AV.gS e c⟩⟩
def SR.ext(s:SR K ρ H τ σ)(e:Ext ρ ρ' H H'):SR K ρ' H' τ σ:=s.gS e.toExt0
def Rel.out(R:Rel K ρ H S)(hD:H D=some (.lst vs))(hn:D∉ρ):Ext0 ρ ρ H (upd H D<|.lst ws)/\Rel K ρ (upd H D<|.lst ws) S:=by
 have ex:Ext0 ρ ρ H (upd H D<|.lst ws):=⟨dR _,λb u i h=>by
  have:b≠D:=by
   intro z;subst z;rw[hD]at h;cases h;exact i
  rw[fK this];exact h⟩
 refine⟨ex,R.len,R.nd,λn a o h1 d=>?_⟩;have na:a≠D:=λz=>hn (by rw[<- z];exact bf h1);have:=R.at n a o h1 d
 cases o with
 | lst ys=>obtain⟨c,e,q⟩:=this;exact⟨c,by rw[fK na];exact e,AVs.gS ex q⟩
 | dct _|dki _|dcp _=>obtain⟨c,e,q⟩:=this;exact⟨c,by rw[fK na];exact e,q.gS ex⟩
 | ins _ _=>obtain⟨f,g,e⟩:=this;exact⟨f,g,by rw[fK na];exact e⟩
def Rel.take{S:fj}{D:aj}(R:Rel K ρ H S)(hD:H D=some (.lst vs))(hn:D∉ρ)(r:AVs K ρ H xs vs):Rel K (ρ++[D]) H (S++[.lst xs])/\(ρ++[D])[S.length]?=some D:=by
 have ex:Ext0 ρ (ρ++[D]) H H:=⟨eg _ _,λ_ _ _ h=>h⟩;have last:(ρ++[D])[S.length]?=some D:=by rw[<- R.len];simp
 refine⟨⟨by simp[R.len],?_,λn a o h1 c=>?_⟩,last⟩
 ·rw[dM];refine⟨R.nd,by simp,λa j b f e=>?_⟩;have:b=D:=by simpa using f
  exact hn<|by rw[<- this,<- e];exact j
 ·by_cases hs:n<S.length
  ·rw[aX<|by rw[R.len];exact hs]at h1;rw[aX hs]at c;have:=R.at n a o h1 c
   cases o with
   | lst ys=>obtain⟨d,e,q⟩:=this;exact⟨d,e,AVs.gS ex q⟩
   | dct _|dki _|dcp _=>obtain⟨d,e,q⟩:=this;exact⟨d,e,q.gS ex⟩
   | ins _ _=>obtain⟨g,k,e⟩:=this;exact⟨g,k,e⟩
  ·have e:n=S.length:=by
    have:=(aM.mp c).1;simp at this
    lia
   subst e;rw[last]at h1
   cases h1
   simp at c;subst c;exact⟨vs,hD,AVs.gS ex r⟩
def SR.set{τ:ad}{σ:St}{a:A}{v:V}(s:SR K ρ H τ σ)(h:AV K ρ H a v):SR K ρ H (τ.set i a) (σ.set i<|some v):=by
 refine⟨by simp[s.len],λj b e=>?_⟩;by_cases c:j=i
 ·subst c;have d:j<τ.length:=by
   have:=(aM.mp e).1;simpa using this
  rw[bP d]at e
  cases e
  exact .inr ⟨v,bP<|by rw[<- s.len];exact d,h⟩
 ·rw[bU<|cN c]at e;rw[bU<|cN c];exact s.at j b e
end
end Am
namespace Am
open PySem PySem.Spec PyProof.Rows L2
abbrev XE (X:Cx)(ρ:ba)(H:Hp):Str->fj->Prop:=λc d=>∀(C:aj) (ρ':ba) (H':Hp),Ji X.K c C->Ext ρ ρ' H H'->Rel X.K ρ' H' d->EX X (.ref C) none H'
def XE.ext{H H':Hp}(h:XE X ρ H c S)(e:Ext ρ ρ' H H'):XE X ρ' H' c S:=λC d H2 n e2=>h C d H2 n<|e.trans e2
abbrev qz (X:Cx)(ρ:ba)(H:Hp)(Q:VK):A->fj->Prop:=λa c=>∀ρ' H' v,Ext ρ ρ' H H'->Rel X.K ρ' H' c->AV X.K ρ' H' a v->Q v H'
abbrev II (X:Cx)(ρ:ba)(H:Hp)(Q:Bool->Hp->Prop):Bool->fj->Prop:=λb c=>∀ρ' H',Ext ρ ρ' H H'->Rel X.K ρ' H' c->Q b H'
abbrev KZ (X:Cx)(ρ:ba)(H:Hp)(Q:List V->Hp->Prop):ad->fj->Prop:=λf d=>∀ρ' H' c,Ext ρ ρ' H H'->Rel X.K ρ' H' d->AVs X.K ρ' H' f c->Q c H'
def qz.ext{H H':Hp}{Q:VK}{a:A}(h:qz X ρ H Q a S)(e:Ext ρ ρ' H H'):qz X ρ' H' Q a S:=λc H2 v e2=>h c H2 v<|e.trans e2
def II.ext{H H':Hp}{Q:Bool->Hp->Prop}{a:Bool}(h:II X ρ H Q a S)(e:Ext ρ ρ' H H'):II X ρ' H' Q a S:=λc H2 e2=>h c H2<|e.trans e2
def fC{α:Type}{H H':Hp}{r:R α}{P P':α->fj->Prop}(h:r.post P<|XE X ρ H)(e:Ext ρ ρ' H H')(hp:∀a S,P a S->P' a S):r.post P' (XE X ρ' H'):=yf h hp λ_ _ z=>z.ext e
abbrev tE (X:Cx)(c:Ex):TE:=λσ H Q=>∃ρ S τ,Rel X.K ρ H S/\SR X.K ρ H τ σ/\(c τ S).post (qz X ρ H Q) (XE X ρ H)
abbrev tT (X:Cx)(c:Te):TT:=λσ H Q=>∃ρ S τ,Rel X.K ρ H S/\SR X.K ρ H τ σ/\(c τ S).post (II X ρ H Q) (XE X ρ H)
abbrev tL (X:Cx)(c:kF):TA:=λσ H Q=>∃ρ S τ,Rel X.K ρ H S/\SR X.K ρ H τ σ/\(c τ S).post (KZ X ρ H Q) (XE X ρ H)
abbrev AE (X:Cx)(e:aA)(c:Ex):Prop:=PE X e<|tE X c
abbrev AT (X:Cx)(e:aA)(c:Te):Prop:=PT X e<|tT X c
abbrev AW (X:Cx)(e:aA)(c:Te):Prop:=PW X e<|tT X c
abbrev AL (X:Cx)(es:List aA)(c:kF):Prop:=PA X es<|tL X c
def PE.imp{t t':TE}(h:PE X e t)(i:∀σ H Q,t' σ H Q->t σ H Q):PE X e t':=λpins s σ H Q I q=>h pins s σ H Q I<|i σ H Q q
def PT.imp{t t':TT}(h:PT X e t)(i:∀σ H Q,t' σ H Q->t σ H Q):PT X e t':=λpins s σ H Q I q=>h pins s σ H Q I<|i σ H Q q
def PW.imp{t t':TT}(h:PW X e t)(i:∀σ H Q,t' σ H Q->t σ H Q):PW X e t':=λw pins s σ H Q I q=>h w pins s σ H Q I<|i σ H Q q
def PA.imp{t t':TA}(h:PA X e t)(i:∀σ H Q,t' σ H Q->t σ H Q):PA X e t':=λp pins s σ H Q I q=>h p pins s σ H Q I<|i σ H Q q
def AW.at{c:Te}(h:AW X e c):AT X e c:=h _
abbrev A.gW:A->Bool
 | .unb=>true
 | _=>false
abbrev eW (i:Nat):Ex:=λτ S=>if (τ.getD i .unb).gW then .no else .ok (τ.getD i .unb) S
abbrev eC (a:A):Ex:=λ_ S=>.ok a S
section
variable {X:Cx}{pos:Pos}{a b:aA}
def eT(i:Nat){x:Str}(hN:X.N[i]?=some x:=by rfl)(hv:IG X.env.scope x:=by first|exact Or.inl rfl|exact Or.inr (Or.inl rfl)|exact Or.inr<|Or.inr rfl)(hd:(x == ("__debug__" : Str))=false:=by decide)
  (hcd:(x == ("__classdict__" : Str))=false:=by decide):AE X (.Name x pos) (eW i):=PE.imp (Gx hN hv hd hcd) λσ H Q h9=>by
 fin2;unfold eW at h
 cases hi:τ[i]? with
 | none=>
  rw[aE,hi]at h;exact h.elim
 | some x=>
  rw[aE,hi]at h
  rcases r.at i x hi with z|⟨v,e,q⟩
  ·subst z;exact h.elim
  ·refine⟨v,e,?_⟩
   cases x<;>first|(exact h ρ H v .refl R q)|exact h.elim
def eY{i:Int}{j pos}:AE X (.Constant (.int i) j pos) (eC<|.int i):=PE.imp uf λσ H Q ⟨ρ,S,τ,R,r,h⟩=>h ρ H _ .refl R<|.int i
def iF{j pos}:AE X (.Constant (.bool i) j pos) (eC<|.bl i):=PE.imp Hu λσ H Q ⟨ρ,S,τ,R,r,h⟩=>h ρ H _ .refl R<|.bl i
def qJ{j pos}:AE X (.Constant .none j pos) (eC .f6):=PE.imp FH λσ H Q ⟨ρ,S,τ,R,r,h⟩=>h ρ H _ .refl R .f6
def qW{x:Str}{j pos}:AE X (.Constant (.str x) j pos) (eC<|.str x):=PE.imp GD λσ H Q ⟨ρ,S,τ,R,r,h⟩=>h ρ H _ .refl R<|.str x
def Bu{x:Str}{i:Int}(hm:X.mg x=some (.int i t))(hg:Gl X x:=by rfl)(hd:(x == ("__debug__" : Str))=false:=by decide):AE X (.Name x pos) (eC<|.int i):=
 PE.imp (Du (v:=.int i) hg hm ⟨t,rfl⟩ hd) λσ H Q ⟨ρ,S,τ,R,r,h⟩=>h ρ H _ .refl R<|.int i
abbrev eZ (f:A->A->fj->R A)(ca cb:Ex):Ex:=λτ S=>(ca τ S).bind λa S1=>(cb τ S1).bind λb c=>f a b c
abbrev r2 (X:Cx)(f:A->A->fj->R A):R2:=λx y H Q=>∃ρ S a b,Rel X.K ρ H S/\AV X.K ρ H a x/\AV X.K ρ H b y/\(f a b S).post (qz X ρ H Q) (XE X ρ H)
abbrev r1 (X:Cx)(f:A->fj->R A):V->Hp->VK->Prop:=λx H Q=>∃ρ S a,Rel X.K ρ H S/\AV X.K ρ H a x/\(f a S).post (qz X ρ H Q) (XE X ρ H)
abbrev rN (X:Cx)(f:ad->fj->R A):List V->Hp->VK->Prop:=λxs H Q=>∃ρ S c,Rel X.K ρ H S/\AVs X.K ρ H c xs/\(f c S).post (qz X ρ H Q) (XE X ρ H)
def iP.imp{f:aa->aa->Sem aa}{r r':R2}(h:iP X f r)(i:∀x y H Q,r' x y H Q->r x y H Q):iP X f r':=λpins s σ H x y v u Q I rx ry q=>h pins s σ H x y v u Q I rx ry<|i _ _ _ _ q
def gi.imp{f:aa}{r r':List V->Hp->VK->Prop}(h:gi X f r)(i:∀x H Q,r' x H Q->r x H Q):gi X f r':=λpins s σ H x v Q I rx q=>h pins s σ H x v Q I rx<|i _ _ _ q
def oq{f:A->A->fj->R A}{ca cb:Ex}{H:Hp}{Q:VK}(h:tE X (eZ f ca cb) σ H Q):Hw (r2 X f) (tE X ca) (tE X cb) σ H Q:=by
 kln_w;refine⟨ρ,S,τ,R,r,fC (fE h) .refl λa S1 h1 ρ1 H1 x e1 p m=>⟨ρ1,S1,τ,p,r.ext e1,fC (fE h1) e1 λb k g d H2 y e2 R2 j=>?_⟩⟩;exact⟨d,k,a,b,R2,m.ext e2,j,fC g (e1.trans e2) λc B q=>q.ext<|e1.trans e2⟩
def fH{f:A->A->fj->R A}{ca cb:Ex}(ho:iP X (binaryOp op)<|r2 X f)(ha:AE X a ca)(hb:AE X b cb):AE X (.BinOp a op b pos) (eZ f ca cb):=
 PE.imp (G0 ho ha hb) λσ H Q h=>oq h
def m8{op:CmpOp}{f:A->A->fj->R A}{ca cb:Ex}(ho:iP X (compareOp op)<|r2 X f)(ha:AE X a ca)(hb:AE X b cb)(hm:behindInMarks op b=false:=by first|exact zd _|with_unfolding_all rfl):AE X (.Compare a [op] [b] pos) (eZ f ca cb):=
 PE.imp (Dh ho ha hb hm) λσ H Q h=>oq h
abbrev A.Ik:A->fj->bj
 | .f6,_=>some false
 | .bl b,_=>some b
 | .int i,_=>some (i != 0)
 | .str x,_=>if x.length<=sizeLine then some ((x.length:Int) != 0)else none
 | .tup xs,_=>some (!xs.isEmpty)
 | .frz xs,_=>some (!xs.isEmpty)
 | .ref n,S=>(eX S n).map λxs=>!xs.isEmpty
 | _,_=>none
abbrev qT (c:Ex):Te:=λτ S=>(c τ S).bind λa S1=>opt (a.Ik S1) λb=>.ok b S1
abbrev j5 (c:Ex):Te:=λτ S=>(c τ S).bind λa S1=>match a with
 | .bl b=>.ok b S1
 | _=>.no
def s_{K:aq}{H:Hp}{b:Bool}{v:V}(h:AV K ρ H (.bl b) v):v=.bl b:=by cases h;rfl
def fX{op:CmpOp}{f:A->A->fj->R A}{ca cb:Ex}(ho:iP X (compareOp op)<|r2 X f)(ha:AE X a ca)(hb:AE X b cb)(hm:behindInMarks op b=false:=by first|exact zd _|with_unfolding_all rfl):AT X (.Compare a [op] [b] pos) (j5<|eZ f ca cb):=
 PT.imp (Ci ho ha hb hm) λσ H Q h9=>by
  fin2;refine oq ⟨ρ,S,τ,R,r,fC (fE h) .refl λc S1 h1 ρ1 H1 x e1 g d=>?_⟩
  cases c with
  | bl k=>cases s_ d;exact⟨k,rfl,h1 ρ1 H1 e1 g⟩
  | _=>exact h1.elim
def E5{K:aq}{H:Hp}{x:A}{v:V}{b:Bool}(R:Rel K ρ H S)(h:AV K ρ H x v)(e:x.Ik S=some b):EU K v H b:=by
 have c:∀{xs:ad} {d:List V},AVs K ρ H xs d->(!xs.isEmpty)=!d.isEmpty:=λr=>by cases r<;>rfl
 cases h with
 | f6=>exact(aN e).symm
 | bl b=>exact(aN e).symm
 | int i=>exact(aN e).symm
 | str x=>
  by_cases hx:x.length<=sizeLine
  ·exact⟨hx,by have:=(aZ hx).symm.trans e;exact(aN this).symm⟩
  ·have:=(bu hx).symm.trans e;cases this
 | tup h r=>exact .inr (.inl ⟨_,iR.of h,by rw[<- c r];exact(aN e).symm⟩)
 | frz h r=>exact .inl ⟨_,h.BW,by rw[<- c r];exact(aN e).symm⟩
 | rng h=>cases e
 | ty n=>cases e
 | exn n h x=>cases e
 | ktu h r=>cases e
 | @ref a n h=>
  have e:(eX S n).map (λxs=>!xs.isEmpty)=some b:=e;obtain⟨xs,hn,e⟩:=aP.mp e;obtain⟨d,h1,f⟩:=R.lst h<|fF hn;exact .inl ⟨d,iu.of h1,by rw[<- c f];exact e.symm⟩
def lP{ca:Ex}(ha:AE X a ca)(he:∀whole,isTrue a X.env whole=(do let v <- whole;standAt a.pos;holding [v] (truthy v)):=by intro _;rfl):AT X a (qT ca):=
 PT.imp (BR ha he) λσ H Q ⟨ρ,S,τ,R,r,h⟩=>⟨ρ,S,τ,R,r,fC (fE h) .refl λc S1 h1 ρ1 H1 x e1 d g=>by
  obtain⟨b,f,h1⟩:=fJ h1;exact⟨b,E5 d g f,h1 ρ1 H1 e1 d⟩⟩
abbrev qF (c:Te):Te:=λτ S=>(c τ S).bind λb S1=>.ok (!b) S1
abbrev DB (c d:Te):Te:=λτ S=>(c τ S).bind λb S1=>match b with|true=>d τ S1|false=>.ok false S1
abbrev As (c d:Te):Te:=λτ S=>(c τ S).bind λb S1=>match b with|true=>.ok true S1|false=>d τ S1
def l9{c:Te}(h:AT X a c):AT X (.UnaryOp .Not a pos) (qF c):=PT.imp (EJ h) λσ H Q ⟨ρ,S,τ,R,r,h⟩=>⟨ρ,S,τ,R,r,fC (fE h) .refl λb S1 h1=>h1⟩
def and_imp{c d:Te}{H:Hp}{Q:Bool->Hp->Prop}(h:tT X (DB c d) σ H Q):GQ (tT X c) (tT X d) σ H Q:=by
 kln_w;refine⟨ρ,S,τ,R,r,fC (fE h) .refl λb S1 h1 ρ1 H1 e1 f=>?_⟩
 cases b with
 | true=>
  rw[aZ rfl];exact⟨ρ1,S1,τ,f,r.ext e1,fC h1 e1 λ_ _ z=>z.ext e1⟩
 | false=>
  rw[bu bE];exact h1 ρ1 H1 e1 f
def or_imp{c d:Te}{H:Hp}{Q:Bool->Hp->Prop}(h:tT X (As c d) σ H Q):J8 (tT X c) (tT X d) σ H Q:=by
 kln_w;refine⟨ρ,S,τ,R,r,fC (fE h) .refl λb S1 h1 ρ1 H1 e1 f=>?_⟩
 cases b with
 | false=>
  rw[bu bE];exact⟨ρ1,S1,τ,f,r.ext e1,fC h1 e1 λ_ _ z=>z.ext e1⟩
 | true=>
  rw[aZ rfl];exact h1 ρ1 H1 e1 f
variable {rest:List aA}
def Cc{c:Te}(h:AT X a c):AW X (.BoolOp .And [a] pos) c:=CL h
def nh{c:Te}(h:AT X a c):AW X (.BoolOp .Or [a] pos) c:=EW h
def E9{c d:Te}(h:AT X a c)(h2:AW X (.BoolOp .And (b::rest) pos) d):AW X (.BoolOp .And (a::b::rest) pos) (DB c d):=PW.imp (FT h h2) λ_ _ _ q=>and_imp q
def pG{c d:Te}(h:AT X a c)(h2:AW X (.BoolOp .Or (b::rest) pos) d):AW X (.BoolOp .Or (a::b::rest) pos) (As c d):=PW.imp (GL h h2) λ_ _ _ q=>or_imp q
abbrev nZ (c d:Ex):Ex:=λτ S=>(c τ S).bind λa S1=>match a with | .bl true=>d τ S1 | .bl false=>.ok (.bl false) S1|_=>.no
abbrev Kh (c d:Ex):Ex:=λτ S=>(c τ S).bind λa S1=>match a with | .bl true=>.ok (.bl true) S1 | .bl false=>d τ S1|_=>.no
abbrev B_ (c:Ex):Ex:=λτ S=>(c τ S).bind λa S1=>match a with | .bl b=>.ok (.bl !b) S1|_=>.no
def l_{op}{c:Ex}(h:AE X a c):AE X (.BoolOp op [a] pos) c:=Gh h
def kO{c d:Ex}(h:AE X a c)(h2:AE X (.BoolOp .And (b::rest) pos) d):AE X (.BoolOp .And (a::b::rest) pos) (nZ c d):=PE.imp (EL h h2) λσ H Q h9=>by
 fin2;refine⟨ρ,S,τ,R,r,fC (fE h) .refl λb S1 h1 ρ1 H1 x e1 f g=>?_⟩
 cases b with
 | bl k=>
  cases s_ g
  refine⟨k,rfl,?_⟩
  cases k with
  | true=>
   rw[aZ rfl];exact⟨ρ1,S1,τ,f,r.ext e1,fC h1 e1 λ_ _ z=>z.ext e1⟩
  | false=>
   rw[bu bE];exact h1 ρ1 H1 _ e1 f<|.bl false
 | _=>exact h1.elim
def BE{c:Ex}(h:AE X a c):AE X (.UnaryOp .Not a pos) (B_ c):=PE.imp (Fi h) λσ H Q h9=>by
 fin2;refine⟨ρ,S,τ,R,r,fC (fE h) .refl λb S1 h1 ρ1 H1 x e1 f d=>?_⟩
 cases b with
 | bl k=>
  cases s_ d
  exact⟨k,rfl,h1 ρ1 H1 _ e1 f<|.bl _⟩
 | _=>exact h1.elim
abbrev K1 (t:Te)(c d:Ex):Ex:=λτ S=>(t τ S).bind λb S1=>match b with|true=>c τ S1|false=>d τ S1
abbrev ff:kF:=λ_ S=>.ok [] S
abbrev eU (c:Ex)(d:kF):kF:=λτ S=>(c τ S).bind λa S1=>(d τ S1).bind λg f=>.ok (a::g) f
def e_:AL X [] ff:=PA.imp qD λσ H Q ⟨ρ,S,τ,R,r,h⟩=>h ρ H _ .refl R .nil
def eV{c:Ex}{d:kF}(ha:AE X e c)(hr:AL X es d)(hs:starEach (e::es) X.env=(false,eval e X.env)::starEach es X.env:=by rfl):AL X (e::es) (eU c d):=
 PA.imp (lE ha hr hs) λσ H Q h9=>by
  fin2;refine⟨ρ,S,τ,R,r,fC (fE h) .refl λa S1 h1 ρ1 H1 x e1 m k=>⟨ρ1,S1,τ,m,r.ext e1,fC (fE h1) e1 λp q g f H2 xs e2 R2 j=>?_⟩⟩;exact g f H2 _ (e1.trans e2) R2<|.cons (k.ext e2) j
abbrev qN (d:kF):Ex:=λτ S=>(d τ S).bind λc S1=>gd (c.length<=sizeLine)<|.ok (.tup c) S1
abbrev newL (as:ad)(S:fj):R A:=gd (as.length<=sizeLine)<|.ok (.ref S.length)<|S++[.lst as]
abbrev fU (d:kF):Ex:=λτ S=>(d τ S).bind λc S1=>newL c S1
def ki{H H0:Hp}{Q:VK}(R:Rel X.K ρ H S)(r:AVs X.K ρ H as vs)(e:Ext ρ0 ρ H0 H)(h:qz X ρ0 H0 Q (.tup as) S):∀p,H p=none->Q (.ref p) (upd H p<|.tup vs):=λp d=>by
 obtain⟨ex,c⟩:=R.im (u:=.tup vs) d;exact h ρ _ _ (e.trans ex) c<|.tup h_<|r.ext ex
def iz{H H0:Hp}{S:fj}{Q:VK}(R:Rel X.K ρ H S)(r:AVs X.K ρ H as vs)(e:Ext ρ0 ρ H0 H)(h:qz X ρ0 H0 Q (.ref S.length)<|S++[.lst as]):∀p,H p=none->Q (.ref p) (upd H p<|.lst vs):=λp d=>by
 obtain⟨ex,c,g⟩:=R.lay d r;exact h _ _ _ (e.trans ex) c<|.ref g
def CH{H H0:Hp}{vs:List V}{Q:VK}(R:Rel X.K ρ H S)(r:AVs X.K ρ H as vs)(e:Ext ρ0 ρ H0 H)(h:(newL as S).post (qz X ρ0 H0 Q)<|XE X ρ0 H0):vs.length<=sizeLine/\∀p,H p=none->Q (.ref p) (upd H p<|.lst vs):=by
 obtain⟨c,h⟩:=fS h;exact⟨by rw[<- r.length];exact c,iz R r e h⟩
def oN{d:kF}{x1}(h:AL X es d):AE X (.Tuple es x1 pos) (qN d):=PE.imp (E2 h) λσ H Q h9=>by
 fin2;refine⟨ρ,S,τ,R,r,fC (fE h) .refl λj S1 h1 ρ1 H1 xs e1 g c=>?_⟩;obtain⟨f,h1⟩:=fS h1;exact⟨by rw[<- c.length];exact f,ki g c e1 h1⟩
def fM{d:kF}(h:AL X es d):AE X (.List es pos) (fU d):=PE.imp (E7 h) λσ H Q ⟨ρ,S,τ,R,r,h⟩=>
 ⟨ρ,S,τ,R,r,fC (fE h) .refl λg S1 h1 ρ1 H1 xs e1 f c=>CH f c e1 h1⟩
end
section
variable {X:Cx}{pos:Pos}{a b:aA}
abbrev aSub (a b:A)(S:fj):R A:=match a,b with
 | .int i,.int j=>.ok (.int<|i-j) S
 | _,_=>.no
def tR:iP X (binaryOp .Sub) (r2 X aSub):=iP.imp Fe λx y H Q h9=>by
 x_go
 cases va<;>first|exact h.elim|(cases vb<;>first|exact h.elim|exact⟨_,_,rfl,rfl,h _ _ _ .refl R<|.int _⟩)
abbrev xR (i j:Int):Bool:=(decide (-(2 ^ 64)<i) && decide (i<2 ^ 64)) || (decide (-(2 ^ 64)<j) && decide (j<2 ^ 64))
def mulOk_of{i j:Int}(h:xR i j=true):CZ i j:=by
 unfold xR at h;dsimp[Bool.or_eq_true,bQ,cV]at h;exact h
abbrev uI (a b:A)(S:fj):R A:=match a,b with
 | .int i,.int j=>gd (xR i j) (.ok (.int<|i * j) S)
 | .ref n,.int k=>opt (eX S n) λxs=>gd (-(2 ^ 63)<=k/\k<2 ^ 63/\xs.length * k.toNat<=sizeLine) (.ok (.ref S.length)<|S++[.lst (List.replicate k.toNat xs).flatten])
 | _,_=>.no
theorem AVs.rep{K:aq}{H:Hp}(r:AVs K ρ H xs vs):∀k:Nat,AVs K ρ H (List.replicate k xs).flatten (List.replicate k vs).flatten
 | 0=>.nil
 | k+1=>by rw[bZ,bZ,cI,cI];exact r.append<|AVs.rep r k
def By:iP X (binaryOp .Mult) (r2 X uI):=λpins s σ H x y v u Q I rx ry h9=>by
 x_go
 cases va with
 | int i=>
  cases vb with
  | int j=>
   obtain⟨g,h⟩:=fS h;exact EG pins s σ H _ _ v u Q I rx ry ⟨i,j,rfl,rfl,mulOk_of g,h _ _ _ .refl R<|.int _⟩
  | _=>exact h.elim
 | @ref p n f=>
  cases vb with
  | int k=>
   kcf_m;obtain⟨hc,h⟩:=fS h;obtain⟨d,h1,c⟩:=R.lst f<|fF hn;exact F7 pins s σ H _ _ v u Q I rx ry ⟨p,k,d,rfl,rfl,h1,hc.1,hc.2.1,by rw[<- c.length];exact hc.2.2,iz R (c.rep _) .refl h⟩
  | _=>exact h.elim
 | _=>exact h.elim
abbrev u7 (a b:A)(S:fj):R A:=match a,b with
 | .int i,.int j=>gd (0<j/\j<18446744073709551616) (.ok (.int<|i / j) S)
 | _,_=>.no
def yL:iP X (binaryOp .FloorDiv) (r2 X u7):=iP.imp A_ λx y H Q h9=>by
 x_go
 cases va<;>first|exact h.elim|(cases vb<;>first|exact h.elim|exact⟨_,_,rfl,rfl,(fS h).1,(fS h).2 _ _ _ .refl R<|.int _⟩)
abbrev qH (a b:A)(S:fj):R A:=match a,b with
 | .int i,.int j=>gd (0<j) (.ok (.int<|i % j) S)
 | _,_=>.no
def rX:iP X (binaryOp .Mod) (r2 X qH):=iP.imp FG λx y H Q h9=>by
 x_go
 cases va<;>first|exact h.elim|(cases vb<;>first|exact h.elim|exact⟨_,_,rfl,rfl,(fS h).1,(fS h).2 _ _ _ .refl R<|.int _⟩)
abbrev iK (a b:A)(S:fj):R A:=match a,b with
 | .int i,.int j=>gd (0<=j/\j<=1000000/\i.natAbs<2 ^ 64) (.ok (.int<|i ^ j.toNat) S)
 | _,_=>.no
def kY:iP X (binaryOp .Pow) (r2 X iK):=iP.imp EY λx y H Q h9=>by
 x_go
 cases va<;>first|exact h.elim|(cases vb<;>first|exact h.elim|exact⟨_,_,rfl,rfl,(fS h).1,(fS h).2 _ _ _ .refl R<|.int _⟩)
abbrev fW (a b:A)(S:fj):R A:=match a,b with
 | .int i,.int j=>.ok (.int<|i+j) S
 | .tup xs,.tup ys=>gd (xs.length+ys.length<=sizeLine) (.ok (.tup<|xs++ys) S)
 | .str x,.str y=>gd (x.length+y.length<=sizeLine) (.ok (.str<|x++y) S)
 | .ref n,.ref m=>opt (eX S n) λxs=>opt (eX S m) λys=>gd (xs.length+ys.length<=sizeLine) (.ok (.ref S.length)<|S++[.lst<|xs++ys])
 | _,_=>.no
def AVs.nil_inv{K:aq}{H:Hp}(r:AVs K ρ H xs vs):xs=[] ↔ vs=[]:=by cases r<;>simp
def gw:iP X (binaryOp .Add) (r2 X fW):=λpins s σ H x y v u Q I rx ry h9=>by
 x_go
 cases va with
 | int i=>
  cases vb with
  | int j=>exact Ga pins s σ H _ _ v u Q I rx ry ⟨i,j,rfl,rfl,h _ _ _ .refl R<|.int _⟩
  | _=>exact h.elim
 | str x=>
  cases vb with
  | str y=>
   obtain⟨hc,h⟩:=fS h;exact uJ pins s σ H _ _ v u Q I rx ry ⟨x,y,rfl,rfl,hc,h _ _ _ .refl R<|.str _⟩
  | _=>exact h.elim
 | @tup p xs f h1 r1=>
  cases vb with
  | @tup q ys d c r2=>
   obtain⟨hc,h⟩:=fS h;by_cases hv:f=[]
   ·have hx:=r1.nil_inv.mpr hv;subst hv hx;exact Bo pins s σ H _ _ v u Q I rx ry ⟨p,q,d,rfl,rfl,iR.of h1,iR.of c,h _ _ _ .refl R<|.tup c r2⟩
   ·refine CG pins s σ H _ _ v u Q I rx ry ⟨p,q,f,d,rfl,rfl,iR.of h1,iR.of c,hv,by rw[<- r1.length,<- r2.length];exact hc,λe=>?_,λ_=>ki R (r1.append r2) .refl h⟩;have k:=r2.nil_inv.mpr e;subst k;rw[dm]at h;exact h _ _ _ .refl R<|.tup h1 r1
  | _=>exact h.elim
 | @ref p n B=>
  cases vb with
  | @ref q m C=>
   kcf_m;obtain⟨ys,D,h⟩:=fJ h;obtain⟨hc,h⟩:=fS h;obtain⟨f,h1,c⟩:=R.lst B<|fF hn;obtain⟨d,F,g⟩:=R.lst C<|fF D;exact EM pins s σ H _ _ v u Q I rx ry ⟨p,q,f,d,rfl,rfl,h1,F,by rw[<- c.length,<- g.length];exact hc,iz R (c.append g) .refl h⟩
  | _=>exact h.elim
 | _=>exact h.elim
abbrev A.ints:ad->Option (ae)
 | []=>some []
 | .int i::xs=>(A.ints xs).map (i::·)
 | _=>none
def FD{x:A}{bs:ae}(e:A.ints (x::xs)=some bs):∃b cs,x=.int b/\A.ints xs=some cs/\bs=b::cs:=by
 unfold A.ints at e;split at e
 ·rename_i z;cases z
 ·rename_i i ys z
  cases z
  obtain⟨cs,h1,c⟩:=aP.mp e;exact⟨i,cs,rfl,h1,c.symm⟩
 ·cases e
def Cr{K:aq}{H:Hp}:∀{xs:ad}{vs:List V}{bs:ae},AVs K ρ H xs vs->A.ints xs=some bs->vs=bs.map V.int:=by
 intro xs
 induction xs with
 | nil=>
  intro vs bs h e
  cases h
  cases e
  rfl
 | cons x xs c=>
  intro vs bs h e;obtain⟨b,d,rfl,e1,rfl⟩:=FD e
  cases h with
  | cons h t=>
   cases h
   rw[c t e1];rfl
abbrev DH (a b:A)(S:fj):R A:=match a,b with
 | .int i,.int j=>.ok (.bl<|decide<|i<j) S
 | _,_=>.no
def Dt(hu:X.A.units+64<cLine):iP X (compareOp .Lt) (r2 X DH):=λpins s σ H x y v u Q I rx ry h9=>by
 x_go
 cases va with
 | int i=>
  cases vb with
  | int j=>exact GX pins s σ H _ _ v u Q I rx ry ⟨i,j,rfl,rfl,h _ _ _ .refl R<|.bl _⟩
  | _=>exact h.elim
 | _=>exact h.elim
abbrev uG (a b:A)(S:fj):R A:=match a,b with
 | .int i,.int j=>.ok (.bl<|decide<|i<=j) S
 | _,_=>.no
def zo:iP X (compareOp .LtE) (r2 X uG):=iP.imp GK λx y H Q h9=>by
 x_go
 cases va<;>first|exact h.elim|(cases vb<;>first|exact h.elim|exact⟨_,_,rfl,rfl,h _ _ _ .refl R<|.bl _⟩)
abbrev Cj (a b:A)(S:fj):R A:=match a,b with
 | .int i,.int j=>.ok (.bl<|decide<|j<i) S
 | _,_=>.no
def yE(hu:X.A.units+64<cLine):iP X (compareOp .Gt) (r2 X Cj):=λpins s σ H x y v u Q I rx ry h9=>by
 x_go
 cases va with
 | int i=>
  cases vb with
  | int j=>exact HZ pins s σ H _ _ v u Q I rx ry ⟨i,j,rfl,rfl,h _ _ _ .refl R<|.bl _⟩
  | _=>exact h.elim
 | _=>exact h.elim
abbrev IC (a b:A)(S:fj):R A:=match a,b with
 | .int i,.int j=>.ok (.bl<|decide<|j<=i) S
 | _,_=>.no
def IX:iP X (compareOp .GtE) (r2 X IC):=iP.imp G8 λx y H Q h9=>by
 x_go
 cases va<;>first|exact h.elim|(cases vb<;>first|exact h.elim|exact⟨_,_,rfl,rfl,h _ _ _ .refl R<|.bl _⟩)
abbrev t_ (neg:Bool)(a b:A)(S:fj):R A:=match a,b with
 | .bl i,.bl j=>.ok (.bl<|if neg then i != j else i == j) S
 | .f6,.f6=>.ok (.bl<|!neg) S
 | .unb,.f6=>.no
 | .exn _,.f6=>.no
 | _,.f6=>.ok (.bl neg) S
 | _,_=>.no
def Gy{n:Bool}{a b:A}(h1:b≠.f6)(h2:∀j,b≠.bl j):t_ n a b S=.no:=by
 unfold t_;split<;>first|rfl|exact absurd rfl h1|exact absurd rfl<|h2 _
def E8{n:Bool}{a b:A}{F:A->fj->Prop}{G:Str->fj->Prop}(h:(t_ n a b S).post F G)(h1:b≠.f6)(h2:∀j,b≠.bl j):False:=by
 rw[Gy h1 h2]at h;exact h
def rz:iP X (compareOp .IsNot) (r2 X<|t_ true):=λpins s σ H x y v u Q I rx ry h9=>by
 x_go
 cases vb with
 | f6=>
  refine Dm pins s σ H _ _ v u Q I rx ry ⟨rfl,?_⟩
  cases va<;>first|exact h _ _ _ .refl R (.bl _)|exact h.elim
 | bl j=>
  cases va with
  | bl i=>exact xT pins s σ H _ _ v u Q I rx ry ⟨i,j,rfl,rfl,h _ _ _ .refl R<|.bl _⟩
  | _=>exact h.elim
 | _=>
  exact(E8 h (λz=>nomatch z) nofun).elim
abbrev rC (f:A->fj->R A)(c:Ex):Ex:=λτ S=>(c τ S).bind λa S1=>f a S1
abbrev l8 (a:A)(S:fj):R A:=match a with
 | .int i=>.ok (.int<|-i) S
 | _=>.no
def G7:IB X (unaryOp .USub) (r1 X l8):=λpins s σ H x v Q I rx h9=>by
 obtain⟨ρ,S,a,R,va,h⟩:=h9
 cases va with
 | int i=>exact uO pins s σ H _ v Q I rx ⟨i,rfl,h _ _ _ .refl R<|.int _⟩
 | _=>exact h.elim
def FP{f:A->fj->R A}{c:Ex}{H:Hp}{Q:VK}(h:tE X (rC f c) σ H Q):Ko (r1 X f) (tE X c) σ H Q:=by
 kln_w;exact⟨ρ,S,τ,R,r,fC (fE h) .refl λa S1 h1 ρ1 H1 x e1 d j=>⟨ρ1,S1,a,d,j,fC h1 e1 λc k g=>g.ext e1⟩⟩
def oK{c:Ex}(h:AE X a c):AE X (.UnaryOp .USub a pos) (rC l8 c):=PE.imp (zP G7 h) λ_ _ _ q=>FP q
abbrev gx (a b:A)(S:fj):R A:=match a,b with
 | .tup xs,.int i=>opt (iN xs i) λx=>.ok x S
 | .frz xs,.int i=>opt (iN xs i) λx=>.ok x S
 | .ref n,.int i=>opt (eX S n) λxs=>opt (iN xs i) λx=>.ok x S
 | .str z,.int i=>gd (z.length<=sizeLine) (opt (iN z.cps.toList i) λc=>.ok (.str ⟨#[c]⟩) S)
 | _,_=>.no
def AVs.iN{K:aq}{H:Hp}{i:Int}{x:A}(r:AVs K ρ H xs vs)(h:L2.iN xs i=some x):∃v,L2.iN vs i=some v/\AV K ρ H x v:=by
 unfold L2.iN at h ⊢;rw[<- r.length]
 cases c:pC xs.length i with
 | none=>rw[c]at h;cases h
 | some j=>
  rw[c]at h;exact r.get h
def Ib:HN X (r2 X gx):=λd f pins s σ H x y v u Q I rx ry ⟨ρ,S,a,b,R,va,vb,h⟩ hs=>by
 cases va with
 | @tup p xs g h1 r1=>
  cases vb with
  | int i=>
   obtain⟨x,hx,h⟩:=fJ h;obtain⟨z,e,q⟩:=r1.iN hx;exact EF d f pins s σ H _ _ v u Q I rx ry ⟨p,g,i,z,rfl,rfl,iR.of h1,e,h _ _ _ .refl R q⟩ hs
  | _=>exact h.elim
 | @frz p xs g h1 r1=>
  cases vb with
  | int i=>
   obtain⟨x,hx,h⟩:=fJ h;obtain⟨z,e,q⟩:=r1.iN hx;exact v8 d f pins s σ H _ _ v u Q I rx ry ⟨p,g,i,z,rfl,rfl,h1.BW,e,h _ _ _ .refl R q⟩ hs
  | _=>exact h.elim
 | @ref p n k=>
  cases vb with
  | int i=>
   kcf_m;obtain⟨x,hx,h⟩:=fJ h;obtain⟨g,h1,r1⟩:=R.lst k<|fF hn;obtain⟨z,e,q⟩:=r1.iN hx;exact v8 d f pins s σ H _ _ v u Q I rx ry ⟨p,g,i,z,rfl,rfl,iu.of h1,e,h _ _ _ .refl R q⟩ hs
  | _=>exact h.elim
 | str z=>
  cases vb with
  | int i=>
   obtain⟨j,h⟩:=fS h;obtain⟨c,hc,h⟩:=fJ h;exact Gv d f pins s σ H _ _ v u Q I rx ry ⟨z,i,c,rfl,rfl,j,hc,h _ _ _ .refl R<|.str _⟩ hs
  | _=>exact h.elim
 | _=>exact h.elim
def fL{ca cb:Ex}(ha:AE X a ca)(hb:AE X b cb)(hs:xJ b:=by exact λ_ _=>rfl):AE X (.Subscript a b pos) (eZ gx ca cb):=PE.imp (Im Ib ha hb hs) λσ H Q h=>oq h
end
abbrev lY (f:A->A->bj):ad->ad->bj
 | [],[]=>some true
 | x::xs,y::ys=>(f x y).bind λp=>(lY f xs ys).map λq=>p && q
 | _,_=>some false
inductive Sh
 | f6
 | bl (b:Bool)
 | int (i:Int)
 | str (x:Str)
 | tup (xs:ad)
 | lst
abbrev Gn (S:fj):A->Option Sh
 | .f6=>some .f6
 | .bl b=>some (.bl b)
 | .int i=>some (.int i)
 | .str x=>some (.str x)
 | .tup xs=>some (.tup xs)
 | .ref i=>(eX S i).map λ_=>.lst
 | _=>none
abbrev Dq (f:A->A->bj):Sh->Sh->bj
 | .f6,.f6=>some true
 | .bl x,.bl y=>some (x == y)
 | .bl x,.int y=>some ((if x then 1 else 0) == y)
 | .int x,.bl y=>some (x == (if y then 1 else 0))
 | .int x,.int y=>some (x == y)
 | .str x,.str y=>some (x == y)
 | .tup xs,.tup ys=>lY f xs ys
 | .lst,.lst=>none
 | _,_=>some false
abbrev nQ (S:fj):Nat->A->A->bj
 | 0,_,_=>none
 | n+1,a,b=>match a,b with
  | .ref i,.ref j=>(eX S i).bind λxs=>(eX S j).bind λys=>lY (nQ S n) xs ys
  | _,_=>(Gn S a).bind λx=>(Gn S b).bind λy=>Dq (nQ S n) x y
section
variable {X:Cx}{pins:bo}{σ:L2.St}{H:Hp}{s:az}{ρ:ba}{S:fj}
inductive KdV (s:az):Sh->aa->Prop
 | f6:KdV s .f6 .none
 | bl (b:Bool):KdV s (.bl b) (.bool b)
 | int (i:Int) (t:Tok):KdV s (.int i) (.int i t)
 | str (x:Str) (t:Tok):KdV s (.str x) (.str x t)
 | tup {p:aj} {us:ar} (xs:ad) (h:s.heap.IsTuple p us.toArray):KdV s (.tup xs) (.ref p)
 | lst {p:aj} {us:ar} (h:s.heap.IsList p us.toArray):KdV s .lst<|.ref p
def uU{p:aj}(h:s.heap.IsTuple p us)(h':s.heap.IsList p ws):False:=by
 obtain⟨o,e,c,_⟩:=h;obtain⟨o',d,f,_⟩:=h';rw[e]at d
 cases d
 exact absurd (c.symm.trans f) ⋯
def xg(I:Inv X pins σ H s)(R:Rel X.K ρ H S){a:A}{x:V}(ha:AV X.K ρ H a x)(r:RelV x u)(e:Gn S a=some h):KdV s h u:=by
 cases ha with
 | f6=>cases e;cases(show u=Value.none from r);exact .f6
 | bl b=>cases e;cases(show u=Value.bool b from r);exact .bl b
 | int i=>cases e;obtain⟨t,rfl⟩:∃t,u=Value.int i t:=r;exact .int i t
 | str i=>cases e;obtain⟨t,rfl⟩:∃t,u=Value.str i t:=r;exact .str i t
 | tup h1 r1=>cases e;cases(show u=Value.ref _ from r);obtain⟨us,_,p,_⟩:=I.tuple<|iR.of h1;exact .tup _ p
 | ref h1=>
  obtain⟨xs,e1,rfl⟩:=aP.mp e
  cases(show u=Value.ref _ from r)
  obtain⟨d,c,r1⟩:=R.lst h1<|fF e1;obtain⟨us,_,p,_⟩:=I.list<|iu.of c;exact .lst p.isList
 | _=>cases e
abbrev Al (B:au)(s:az)(u v:aa)(k:Bool):Prop:=SeqAt.RcAt B s u v k/\SeqAt.EqAt B s u v k/\SeqAt.RcNeAt B s u v (!k)
def Hy{B:au}(hu:B.units<cLine){f:A->A->bj}{v:aa}{k:Bool}(d:KdV s h u)(d':KdV s h' v)(nt:∀xs ys,h=.tup xs->h'≠.tup ys)(e:Dq f h h'=some k):Al B s u v k:=by
 cases d with
 | f6=>cases d' with
  | f6=>cases e;exact⟨.none_none,.same _,.none_none⟩
  | bl b=>cases e;exact⟨.none_bool _,.none_bool _,.none_bool _⟩
  | int i t=>cases e;exact⟨.none_int _ _,.none_int _ _,.none_int _ _⟩
  | str x t=>cases e;exact⟨.none_str _ _,.none_str _ _,.none_str _ _⟩
  | tup xs p=>cases e;exact⟨.none_tuple p hu,.none_tuple p hu,.none_tuple p hu⟩
  | lst p=>cases e;exact⟨.none_list p hu,.none_list p hu,.none_list p hu⟩
 | bl c=>cases d' with
  | f6=>cases e;exact⟨.bool_none _,.bool_none _,.bool_none _⟩
  | bl b=>cases e;exact⟨.bool_bool _ _,.bool_bool _ _,.bool_bool _ _⟩
  | int i t=>cases e;exact⟨.bool_int _ _ _,.bool_int _ _ _,.bool_int _ _ _⟩
  | str x t=>cases e;exact⟨.bool_str _ _ _,.bool_str _ _ _,.bool_str _ _ _⟩
  | tup xs p=>cases e;exact⟨.bool_tuple _ p hu,.bool_tuple _ p hu,.bool_tuple _ p hu⟩
  | lst p=>cases e;exact⟨.bool_list _ p hu,.bool_list _ p hu,.bool_list _ p hu⟩
 | int c j=>cases d' with
  | f6=>cases e;exact⟨.int_none _ _,.int_none _ _,.int_none _ _⟩
  | bl b=>cases e;exact⟨.int_bool _ _ _,.int_bool _ _ _,.int_bool _ _ _⟩
  | int i t=>cases e;exact⟨.int_int _ _ _ _,.int_int _ _ _ _,.int_int _ _ _ _⟩
  | str x t=>cases e;exact⟨.int_str _ _ _ _,.int_str _ _ _ _,.int_str _ _ _ _⟩
  | tup xs p=>cases e;exact⟨.int_tuple _ _ p hu,.int_tuple _ _ p hu,.int_tuple _ _ p hu⟩
  | lst p=>cases e;exact⟨.int_list _ _ p hu,.int_list _ _ p hu,.int_list _ _ p hu⟩
 | str c j=>cases d' with
  | f6=>cases e;exact⟨.str_none _ _,.str_none _ _,.str_none _ _⟩
  | bl b=>cases e;exact⟨.str_bool _ _ _,.str_bool _ _ _,.str_bool _ _ _⟩
  | int i t=>cases e;exact⟨.str_int _ _ _ _,.str_int _ _ _ _,.str_int _ _ _ _⟩
  | str x t=>cases e;exact⟨.str_str _ _ _ _,.str_str _ _ _ _,.str_str _ _ _ _⟩
  | tup xs p=>cases e;exact⟨.str_tuple _ _ p hu,.str_tuple _ _ p hu,.str_tuple _ _ p hu⟩
  | lst p=>cases e;exact⟨.str_list _ _ p hu,.str_list _ _ p hu,.str_list _ _ p hu⟩
 | tup zs g=>cases d' with
  | f6=>cases e;exact⟨.tuple_none g hu,.tuple_none g hu,.tuple_none g hu⟩
  | bl b=>cases e;exact⟨.tuple_bool _ g hu,.tuple_bool _ g hu,.tuple_bool _ g hu⟩
  | int i t=>cases e;exact⟨.tuple_int _ _ g hu,.tuple_int _ _ g hu,.tuple_int _ _ g hu⟩
  | str x t=>cases e;exact⟨.tuple_str _ _ g hu,.tuple_str _ _ g hu,.tuple_str _ _ g hu⟩
  | tup xs p=>exact absurd rfl (nt _ _ rfl)
  | lst p=>cases e;exact⟨.tuple_list g p hu,.of_refs (λz=>by subst z;exact uU g p)<|.tuple_list g p hu,.tuple_list g p hu⟩
 | lst g=>cases d' with
  | f6=>cases e;exact⟨.list_none g hu,.list_none g hu,.list_none g hu⟩
  | bl b=>cases e;exact⟨.list_bool _ g hu,.list_bool _ g hu,.list_bool _ g hu⟩
  | int i t=>cases e;exact⟨.list_int _ _ g hu,.list_int _ _ g hu,.list_int _ _ g hu⟩
  | str x t=>cases e;exact⟨.list_str _ _ g hu,.list_str _ _ g hu,.list_str _ _ g hu⟩
  | tup xs p=>cases e;exact⟨.list_tuple g p hu,.of_refs (λz=>by subst z;exact uU p g)<|.list_tuple g p hu,.list_tuple g p hu⟩
  | lst p=>cases e
def qE{a:A}{x:V}(h:AV X.K ρ H a x)(e:Gn S a=some (.tup xs)):a=.tup xs/\∃p vs,x=.ref p/\H p=some (.tup vs)/\AVs X.K ρ H xs vs:=by
 cases h with
 | tup h r=>cases e;exact⟨rfl,_,_,rfl,h,r⟩
 | ref h=>obtain⟨_,_,z⟩:=aP.mp e;cases z
 | _=>cases e
theorem rf{i:Nat}{x:V}(h:AV X.K ρ H (.ref i) x):∃p,x=.ref p/\ρ[i]?=some p:=by
 cases h with
 | ref h=>exact⟨_,rfl,h⟩
def BF{a:A}(e:Gn S a=some .lst):∃i,a=.ref i:=by
 cases a with
 | ref i=>exact⟨i,rfl⟩
 | _=>cases e
def BV{n:Nat}{a:A}{k:Bool}(e:nQ S (n+1) a b=some k):(∃i j xs ys,a=.ref i/\b=.ref j/\eX S i=some xs/\eX S j=some ys/\lY (nQ S n) xs ys=some k)\/(∃h h',Gn S a=some h/\Gn S b=some h'/\Dq (nQ S n) h h'=some k/\(h=.lst->h'≠.lst)):=by
 unfold nQ at e;split at e
 ·obtain⟨xs,e1,e⟩:=aY.mp e;obtain⟨ys,e2,e⟩:=aY.mp e;exact .inl ⟨_,_,xs,ys,rfl,rfl,e1,e2,e⟩
 ·rename_i d;obtain⟨h,e1,e⟩:=aY.mp e;obtain⟨h',e2,e⟩:=aY.mp e;refine .inr ⟨h,h',e1,e2,e,λc f=>?_⟩;subst c f;obtain⟨i,rfl⟩:=BF e1;obtain⟨j,rfl⟩:=BF e2;exact d i j rfl rfl
def Cv{f:A->A->bj}{k:Bool}(d:KdV s h u)(d':KdV s h' u)(nt:∀xs ys,h=.tup xs->h'≠.tup ys)(e:Dq f h h'=some k):k=true:=by
 cases d with
 | f6=>cases d';exact(aN e).symm
 | bl b=>cases d';exact(aN e).symm.trans (bR b)
 | int b=>cases d';exact(aN e).symm.trans (bR b)
 | str b=>cases d';exact(aN e).symm.trans (bR b)
 | tup xs p=>cases d' with
  | tup=>exact absurd rfl (nt _ _ rfl)
  | lst q=>exact(uU p q).elim
 | lst p=>cases d' with
  | tup _ q=>exact(uU q p).elim
  | lst q=>cases e
def rL{f:A->A->bj}(hf:∀a b x u k,AV X.K ρ H a x->AV X.K ρ H b x->RelV x u->f a b=some k->k=true):∀{xs ys:ad}{vs:List V}{us:ar}{k:Bool},AVs X.K ρ H xs vs->AVs X.K ρ H ys vs->Vals vs us->lY f xs ys=some k->k=true:=by
 intro xs ys vs us k h1 c q e
 induction q generalizing xs ys k with
 | nil=>cases h1;cases c;exact(aN e).symm
 | cons d _ g=>
  cases h1 with
  | cons h t=>cases c with
   | cons h' j=>
    obtain⟨p,e1,e⟩:=aY.mp e;obtain⟨q,e2,m⟩:=aP.mp e;rw[<- m,hf _ _ _ _ p h h' d e1,g t j e2];rfl
def vY(h h':Sh):(∃xs ys,h=.tup xs/\h'=.tup ys)\/(∀xs ys,h=.tup xs->h'≠.tup ys):=by
 cases h with
 | tup xs=>cases h' with
  | tup ys=>exact .inl ⟨xs,ys,rfl,rfl⟩
  | _=>exact .inr λ_ _ _ z=>nomatch z
 | _=>exact .inr λ_ _ z=>nomatch z
theorem qZ(I:Inv X pins σ H s)(R:Rel X.K ρ H S):∀(n:Nat) (a b:A) (x:V) (u:aa) (k:Bool),AV X.K ρ H a x->AV X.K ρ H b x->RelV x u->nQ S n a b=some k->k=true
 | 0,_,_,_,_,_,_,_,_,e=>nomatch e
 | n+1,a,b,x,u,k,ha,hb,ru,e=>by
  rcases BV e with⟨i,j,xs,ys,rfl,rfl,e1,e2,e⟩|⟨h,h',e1,e2,e,_⟩
  ·obtain⟨p,rfl,h1⟩:=rf ha;obtain⟨q,z,g⟩:=rf hb
   cases z
   obtain⟨B,c,r1⟩:=R.lst h1<|fF e1;obtain⟨f,d,r2⟩:=R.lst g<|fF e2;rw[c]at d
   cases d
   obtain⟨us,q,_⟩:=I.list<|iu.of c;exact rL (λa b x u k=>qZ I R n a b x u k) r1 r2 q e
  ·rcases vY h h' with⟨xs,ys,rfl,rfl⟩|m
   ·obtain⟨rfl,p,B,rfl,c,r1⟩:=qE ha e1;obtain⟨rfl,q,f,z,d,r2⟩:=qE hb e2
    cases z
    have:=I.pX (iR.of c)<|iR.of d;subst this;obtain⟨us,q,_⟩:=I.tuple<|iR.of c;exact rL (λa b x u k=>qZ I R n a b x u k) r1 r2 q e
   ·exact Cv (xg I R ha ru e1) (xg I R hb ru e2) m e
abbrev pR (f:A->A->bj)(xs ys:ad)(j:Nat):Bool:=match xs[j]?,ys[j]? with
 | some x,some y=>(f x y).getD true
 | _,_=>true
theorem om{f:A->A->bj}:∀{xs ys:ad}{k:Bool},lY f xs ys=some k->k=((List.range<|min xs.length ys.length).all (pR f xs ys) && xs.length == ys.length)/\∀j x y,xs[j]?=some x->ys[j]?=some y->f x y=some (pR f xs ys j)
 | [],[],k,e=>⟨(aN e).symm,λj x y h=>by simp at h⟩
 | [],_::_,k,e=>⟨(aN e).symm,λj x y h=>by simp at h⟩
 | _::_,[],k,e=>⟨(aN e).symm,λj x y _ h=>by simp at h⟩
 | x::xs,y::ys,k,e=>by
  unfold lY at e
  cases e1:f x y with
  | none=>rw[e1]at e;cases e
  | some p=>
   rw[e1]at e;obtain⟨q,e2,B⟩:=aP.mp e;obtain⟨h1,m⟩:=om e2;have g:pR f (x::xs) (y::ys) 0=p:=by simp[pR,e1]
   have ps:∀j,pR f (x::xs) (y::ys) (j+1)=pR f xs ys j:=λj=>by simp[pR]
   refine⟨?_,λj a b d c=>?_⟩
   ·rw[<- B,h1,a_,a_,Nat.succ_min_succ,dN,List.all_cons,all_map,g];have:(pR f (x::xs) (y::ys) ∘ Nat.succ)=pR f xs ys:=funext ps;rw[this,Bool.and_assoc];simp
   ·cases j with
    | zero=>
     simp at d c;subst d c;rw[g];exact e1
    | succ j=>rw[ps];exact m j a b (by simpa using d)<|by simpa using c
def ou{f:A->A->bj}(hf:∀a b x y u v k,AV X.K ρ H a x->AV X.K ρ H b y->RelV x u->RelV y v->f a b=some k->SeqAt.EqAt B s u v k){us ts:ar}{k:Bool}
  (r1:AVs X.K ρ H xs vs) (r2:AVs X.K ρ H ys ws) (q1:Vals vs us) (q2:Vals ws ts) (e:lY f xs ys=some k):∀j (h1:j<us.toArray.size) (h2:j<ts.toArray.size),SeqAt.EqAt B s us.toArray[j] ts.toArray[j] (pR f xs ys j):=by
 intro j h1 h2;have G:=r1.length;have J:=r2.length;have N:=q1.length;have L:=q2.length;have hx:j<xs.length:=by simp at h1;lia
 have c:j<ys.length:=by simp at h2;lia
 have e1:xs[j]?=some xs[j]:=aF hx;have e2:ys[j]?=some ys[j]:=aF c;obtain⟨x,ex,D⟩:=r1.get e1;obtain⟨y,g,p⟩:=r2.get e2;obtain⟨u,q,C⟩:=q1.get ex;obtain⟨t,d,rt⟩:=q2.get g;have m:us.toArray[j]=u:=by
  have:us[j]?=some us.toArray[j]:=by simp at h1;simp[h1]
  rw[q]at this;exact(aN this).symm
 have F:ts.toArray[j]=t:=by
  have:ts[j]?=some ts.toArray[j]:=by simp at h2;simp[h2]
  rw[d]at this;exact(aN this).symm
 rw[m,F];exact hf _ _ x y u t _ D p C rt<|(om e).2 j _ _ e1 e2
def in1_units(B:au):B.in1.units=B.units+1:=rfl
theorem vP(I:Inv X pins σ H s)(R:Rel X.K ρ H S):∀(n:Nat) (B:au) (a b:A) (x y:V) (u v:aa) (k:Bool),B.units+n<cLine->AV X.K ρ H a x->AV X.K ρ H b y->RelV x u->RelV y v->nQ S n a b=some k->Al B s u v k
 | 0,_,_,_,_,_,_,_,_,_,_,_,_,_,e=>nomatch e
 | n+1,B,a,b,x,y,u,v,k,hu,ha,hb,rx,ry,e=>by
  have d:B.units<cLine:=()
  have c:∀a b x y u v k,AV X.K ρ H a x->AV X.K ρ H b y->RelV x u->RelV y v->nQ S n a b=some k->SeqAt.EqAt B.in1 s u v k:=λa b x y u v k h1 L D G Y=>(vP I R n B.in1 a b x y u v k (by rw[in1_units];lia) h1 L D G Y).2.1;have same:=λ(z:y=x)=>qZ I R (n+1) a b x u k ha (z ▸ hb) rx e;have g:∀{p q:aj},x=.ref p->y=.ref q->u=.ref p->v=.ref q->SeqAt.RcAt B s u v k->SeqAt.EqAt B s u v k:=λ{p q} f m z3 z4 h=>by
   subst z3 z4;by_cases P:p=q
   ·subst P;rw[same<|m.trans f.symm];exact .same _
   ·exact .of_refs P h
  rcases BV e with⟨i,j,xs,ys,rfl,rfl,e1,e2,e⟩|⟨h,h',e1,e2,e,_⟩
  ·obtain⟨p,rfl,h1⟩:=rf ha;obtain⟨q,rfl,L⟩:=rf hb;obtain⟨vs,D,r1⟩:=R.lst h1<|fF e1;obtain⟨Z,G,r2⟩:=R.lst L<|fF e2;obtain⟨us,q1,p1,_⟩:=I.list<|iu.of D;obtain⟨ts,q2,p2,_⟩:=I.list<|iu.of G;have J:=g rfl rfl rx ry
   cases(show u=Value.ref p from rx)
   cases(show v=Value.ref q from ry)
   have U:=r1.length;have l2:=r2.length;have l3:=q1.length;have l4:=q2.length;have C:=(om e).1;by_cases N:xs.length=ys.length
   ·rw[<- N,Nat.min_self,bR,Bool.and_true]at C;have F:us.toArray.size=ts.toArray.size:=by simp;lia
    have f:=SeqAt.RcAt.lists p1.isList p2.isList F d<|ou c r1 r2 q1 q2 e;have m:=SeqAt.RcNeAt.lists p1.isList p2.isList F d<|ou c r1 r2 q1 q2 e;rw[aI,<- l3,<- U,<- C]at f m;exact⟨f,J f,m⟩
   ·have:(xs.length == ys.length)=false:=by simpa using N
    rw[this,cZ]at C;subst C;have F:(us.toArray.size != ts.toArray.size)=true:=by simp;lia
    have f:=SeqAt.RcAt.lists_lengths p1.isList p2.isList F d;exact⟨f,J f,SeqAt.RcNeAt.lists_lengths p1.isList p2.isList F d⟩
  ·rcases vY h h' with⟨xs,ys,rfl,rfl⟩|W
   ·obtain⟨rfl,p,vs,rfl,D,r1⟩:=qE ha e1;obtain⟨rfl,q,Z,rfl,G,r2⟩:=qE hb e2;have J:=g rfl rfl rx ry
    cases(show u=Value.ref p from rx)
    cases(show v=Value.ref q from ry)
    obtain⟨us,q1,p1,_⟩:=I.tuple<|iR.of D;obtain⟨ts,q2,p2,_⟩:=I.tuple<|iR.of G;have C:=(om e).1;have f:=SeqAt.RcAt.tuples p1 p2 d<|ou c r1 r2 q1 q2 e;have m:=SeqAt.RcNeAt.tuples p1 p2 d<|ou c r1 r2 q1 q2 e;rw[aI,aI,<- q1.length,<- q2.length,<- r1.length,<- r2.length,<- C]at f m;exact⟨f,J f,m⟩
   ·exact Hy d (xg I R ha rx e1) (xg I R hb ry e2) W e
end
section
variable {X:Cx}
abbrev kG (neg:Bool)(a b:A)(S:fj):R A:=opt (nQ S 12 a b) λk=>.ok (.bl<|if neg then !k else k) S
def jP(hu:X.A.units+64<cLine):iP X (compareOp .Eq) (r2 X<|kG false):=λpins s σ H x y v u Q I rx ry h9=>by
 x_go;obtain⟨k,e,h⟩:=fJ h;exact(vP I R 12 X.A a b x y v u k (by omega) va vb rx ry e).1 _ _ _ _ ⟨.bl _,H,I,rfl,h _ _ _ .refl R<|.bl _⟩
def Dy(hu:X.A.units+64<cLine):iP X (compareOp .NotEq) (r2 X<|kG true):=λpins s σ H x y v u Q I rx ry h9=>by
 x_go;obtain⟨k,e,h⟩:=fJ h;exact(vP I R 12 X.A a b x y v u k (by omega) va vb rx ry e).2.2 _ _ _ _ ⟨.bl _,H,I,rfl,h _ _ _ .refl R<|.bl _⟩
end
section
variable {X:Cx}{pos:Pos}{a b:aA}
meta abbrev Pt:=ad->fj->R (bi)
abbrev uR:Pt:=λ_ S=>.ok none S
abbrev xw (c:Ex):Pt:=λτ S=>(c τ S).bind λa S1=>match a with
 | .int i=>.ok (some i) S1
 | _=>.no
abbrev tO (X:Cx)(c:Pt):TO:=λσ H Q=>∃ρ S τ,Rel X.K ρ H S/\SR X.K ρ H τ σ/\(c τ S).post (λo d=>∀ρ' H',Ext ρ ρ' H H'->Rel X.K ρ' H' d->Q o H') (XE X ρ H)
abbrev AO (X:Cx)(e:Option aA)(c:Pt):Prop:=PO X e<|tO X c
def CY:AO X none uR:=λpins s σ H Q I ⟨ρ,S,τ,R,r,h⟩=>Cp pins s σ H Q I<|h ρ H .refl R
def Cy{c:Ex}(ha:AE X a c):AO X (some a) (xw c):=λpins s σ H Q I ⟨ρ,S,τ,R,r,h⟩=>CF ha pins s σ H Q I ⟨ρ,S,τ,R,r,fC (fE h) .refl λx S1 h1 ρ1 H1 v e1 f d=>by
 cases d<;>first|exact h1.elim|exact⟨_,rfl,h1 ρ1 H1 e1 f⟩⟩
abbrev qI (xs:ad)(lo hi:bi):ad:=(xs.drop<|HT.iC xs.length 0 lo).take<|HT.iC xs.length xs.length hi-HT.iC xs.length 0 lo
def AVs.cut{K:aq}{H:Hp}(r:AVs K ρ H xs vs)(lo hi:bi):AVs K ρ H (qI xs lo hi) (sZ vs lo hi):=by
 unfold qI sZ;rw[r.length];exact(r.drop _).take _
abbrev HF (a:A)(lo hi:bi)(S:fj):R A:=match a with
 | .ref n=>opt (eX S n) λxs=>.ok (.ref S.length) (S++[.lst<|qI xs lo hi])
 | .frz xs=>.ok (.ref S.length) (S++[.lst<|qI xs lo hi])
 | .tup xs=>gd (¬(HT.iC xs.length 0 lo=0/\HT.iC xs.length xs.length hi=xs.length)) (.ok (.tup<|qI xs lo hi) S)
 | _=>.no
abbrev IJ (c:Ex)(lo hi:Pt):Ex:=λτ S=>(c τ S).bind λa S1=>(lo τ S1).bind λl d=>(hi τ d).bind λu f=>HF a l u f
abbrev rS (X:Cx):V->bi->bi->Hp->VK->Prop:=λx lo hi H Q=>∃ρ S a,Rel X.K ρ H S/\AV X.K ρ H a x/\(HF a lo hi S).post (qz X ρ H Q) (XE X ρ H)
def Fg:IP X (rS X):=λpins s σ H x v j f lo hi d Q I rx hs g k h9=>by
 obtain⟨ρ,S,a,R,va,h⟩:=h9
 cases va with
 | @tup p xs c h1 r1=>
  obtain⟨hc,h⟩:=fS h;exact F8 pins s σ H _ v j f lo hi d Q I rx hs g k ⟨p,c,rfl,(iR.of h1),by rw[<- r1.length];exact hc,ki R (r1.cut lo hi) .refl h⟩
 | @frz p xs c h1 r1=>exact vc pins s σ H _ v j f lo hi d Q I rx hs g k ⟨p,c,rfl,h1.BW,iz R (r1.cut lo hi) .refl h⟩
 | @ref p n m=>
  kcf_m;obtain⟨c,h1,r1⟩:=R.lst m<|fF hn;exact vc pins s σ H _ v j f lo hi d Q I rx hs g k ⟨p,c,rfl,iu.of h1,iz R (r1.cut lo hi) .refl h⟩
 | _=>exact h.elim
def G5{lo:Option aA}{c:Ex}{cl ch:Pt}(he:AE X e c)(hl:AO X lo cl)(hh:AO X hi ch):AE X (.Subscript e (.Slice lo hi none p2) pos) (IJ c cl ch):=PE.imp (Bh Fg he hl hh) λσ H Q h9=>by
 fin2;refine⟨ρ,S,τ,R,r,fC (fE h) .refl λa S1 h1 ρ1 H1 x e1 B q=>⟨ρ1,S1,τ,B,r.ext e1,fC (fE h1) e1 λl m j g H2 e2 R2=>⟨g,m,τ,R2,r.ext<|e1.trans e2,fC (fE j) (e1.trans e2) λu k C d D f p=>?_⟩⟩⟩;exact⟨d,k,a,p,q.ext<|e2.trans f,fC C (e1.trans<|e2.trans f) λ_ _ z=>z.ext<|e1.trans<|e2.trans f⟩
abbrev yo (a:A)(S:fj):R A:=match a with
 | .ref n=>opt (eX S n) λxs=>.ok (.ref S.length) (S++[.lst xs.reverse])
 | .tup xs=>.ok (.tup xs.reverse) S
 | _=>.no
def Fo{cp:Pos}{c:Ex}(he:AE X e c):AE X (.Subscript e (.Slice none none (some<|.UnaryOp .USub (.Constant (.int 1) kk cp) up) p2) pos) (rC yo c):=λpins s σ H Q I h9=>by
 fin2;have d:=fE h
 cases hc:c τ S with
 | no=>rw[hc]at d;exact d.elim
 | ex x S1=>
  rw[hc]at d;exact xB he pins s σ H Q I ⟨ρ,S,τ,R,r,by rw[hc];exact d⟩
 | ok a S1=>
  rw[hc]at d;have d:(yo a S1).post (qz X ρ H Q) (XE X ρ H):=d
  cases a with
  | tup xs=>
   refine xB he pins s σ H Q I ⟨ρ,S,τ,R,r,?_⟩;rw[hc];intro ρ1 H1 x e1 f g
   cases g with
   | tup h1 r1=>exact⟨_,_,rfl,(iR.of h1),ki f r1.reverse e1 d⟩
  | ref n=>
   refine CS he pins s σ H Q I ⟨ρ,S,τ,R,r,?_⟩;rw[hc];intro ρ1 H1 x e1 f g;obtain⟨xs,hn,h⟩:=fJ d
   cases g with
   | ref j=>
    obtain⟨k,h1,r1⟩:=f.lst j<|fF hn;exact⟨_,_,rfl,iu.of h1,iz f r1.reverse e1 h⟩
  | _=>exact d.elim
abbrev fG (f:ad->fj->R A)(d:kF):Ex:=λτ S=>(d τ S).bind λc S1=>f c S1
def tu{f:ad->fj->R A}{d:kF}{H:Hp}{Q:VK}(h:tE X (fG f d) σ H Q):JS (rN X f) (tL X d) σ H Q:=by
 kln_w;exact⟨ρ,S,τ,R,r,fC (fE h) .refl λg S1 h1 ρ1 H1 k e1 c j=>⟨ρ1,S1,g,c,j,fC h1 e1 λ_ _ z=>z.ext e1⟩⟩
variable {x:Str}{p:Pos}{e:aA}{es:List aA}{id T:String}{f:ad->fj->R A}{d:kF}
def fD(hc:gi X (.builtin id)<|rN X f)(hm:X.mg x=none)(hv:bootBuiltins x=some (.builtin id))(ha:AL X (e::es) d)(hg:Gl X x:=by rfl)(hn:x ≠ "__name__" := by decide)(hdb:(x == ("__debug__" : Str))=false:=by decide)
  (he:starEach (e::es) X.env=(false,eval e X.env)::starEach es X.env:=by rfl) (hpl:(backTo pos<|starEach es X.env).any (·.1)=false:=by rfl):AE X (.Call (.Name x p) (e::es) [] pos) (fG f d):=
 PE.imp (BU hc hg hm hv ha hn hdb he hpl) λ_ _ _ h=>tu h
def gQ(hc:gi X (.type T)<|rN X f)(hm:X.mg x=none)(hv:bootBuiltins x=some (.type T))(ha:AL X (e::es) d)(hg:Gl X x:=by rfl)(hn:x ≠ "__name__" := by decide)(hdb:(x == ("__debug__" : Str))=false:=by decide)
  (he:starEach (e::es) X.env=(false,eval e X.env)::starEach es X.env:=by rfl) (hpl:(backTo pos<|starEach es X.env).any (·.1)=false:=by rfl):AE X (.Call (.Name x p) (e::es) [] pos) (fG f d):=
 PE.imp (ym hc hg hm hv ha hn hdb he hpl) λ_ _ _ h=>tu h
def mW(hm:X.mg x=none)(hv:bootBuiltins x=some (.type T))(hg:Gl X x:=by rfl)(hn:x ≠ "__name__" := by decide)(hdb:(x == ("__debug__" : Str))=false:=by decide):AE X (.Name x pos) (eC<|.ty T):=
 PE.imp (Cz (v:=.ty T) hg hm hv rfl hn hdb) λσ H Q ⟨ρ,S,τ,R,r,h⟩=>h ρ H _ .refl R<|.ty T
abbrev A.seq (S:fj):A->Option (ad)
 | .tup xs=>some xs
 | .frz xs=>some xs
 | .ref n=>eX S n
 | _=>none
def zS{K:aq}{H:Hp}{x:A}{v:V}(R:Rel K ρ H S)(h:AV K ρ H x v)(e:x.seq S=some xs):∃p vs,v=.ref p/\(iu K H p vs\/iR K H p vs)/\AVs K ρ H xs vs:=by
 cases h with
 | tup h r=>cases aN e;exact⟨_,_,rfl,.inr<|iR.of h,r⟩
 | frz h r=>cases aN e;exact⟨_,_,rfl,.inl h.BW,r⟩
 | ref h=>
  obtain⟨vs,h1,r1⟩:=R.lst h<|fF e;exact⟨_,vs,rfl,.inl<|iu.of h1,r1⟩
 | _=>cases e
def CU{K:aq}{H:Hp}{x:A}(h:AVs K ρ H [x] vs):∃v,vs=[v]/\AV K ρ H x v:=by
 cases h with
 | cons h t=>cases t;exact⟨_,rfl,h⟩
def HG{K:aq}{H:Hp}{x:A}(h:AVs K ρ H [x,y] vs):∃v w,vs=[v,w]/\AV K ρ H x v/\AV K ρ H y w:=by
 cases h with
 | cons h t=>obtain⟨w,rfl,h'⟩:=CU t;exact⟨_,_,rfl,h,h'⟩
abbrev f1 (g:A->fj->R A):ad->fj->R A:=λc S=>match c with
 | [x]=>g x S
 | _=>.no
abbrev f2 (g:A->A->fj->R A):ad->fj->R A:=λc S=>match c with
 | [x,y]=>g x y S
 | _=>.no
def CI{g:A->fj->R A}{P:A->fj->Prop}{E:Str->fj->Prop}(h:(f1 g as S).post P E):∃x,as=[x]/\(g x S).post P E:=by
 match as,h with
 | [],h=>exact h.elim
 | [x],h=>exact⟨x,rfl,h⟩
 | _::_::_,h=>exact h.elim
def Dj{g:A->A->fj->R A}{P:A->fj->Prop}{E:Str->fj->Prop}(h:(f2 g as S).post P E):∃x y,as=[x,y]/\(g x y S).post P E:=by
 match as,h with
 | [],h=>exact h.elim
 | [_],h=>exact h.elim
 | [x,y],h=>exact⟨x,y,rfl,h⟩
 | _::_::_::_,h=>exact h.elim
def EH{g:A->fj->R A}{H:Hp}{Q:VK}(h:rN X (f1 g) vs H Q):∃v,vs=[v]/\∃ρ S x,Rel X.K ρ H S/\AV X.K ρ H x v/\(g x S).post (qz X ρ H Q) (XE X ρ H):=by
 obtain⟨ρ,S,c,R,v,h⟩:=h;obtain⟨x,rfl,h⟩:=CI h;obtain⟨w,rfl,hv⟩:=CU v;exact⟨w,rfl,ρ,S,x,R,hv,h⟩
def Iv{g:A->A->fj->R A}{H:Hp}{Q:VK}(h:rN X (f2 g) vs H Q):∃v w,vs=[v,w]/\∃ρ S x y,Rel X.K ρ H S/\AV X.K ρ H x v/\AV X.K ρ H y w/\(g x y S).post (qz X ρ H Q) (XE X ρ H):=by
 obtain⟨ρ,S,f,R,v,h⟩:=h;obtain⟨x,y,rfl,h⟩:=Dj h;obtain⟨w,d,rfl,hv,c⟩:=HG v;exact⟨w,d,rfl,ρ,S,x,y,R,hv,c,h⟩
abbrev gH (x:A)(S:fj):R A:=match x with
 | .str x=>gd (x.length<=sizeLine) (.ok (.int x.length) S)
 | .tup xs=>.ok (.int xs.length) S
 | .frz xs=>.ok (.int xs.length) S
 | .ref n=>opt (eX S n) λxs=>.ok (.int xs.length) S
 | _=>.no
def gO:gi X (.builtin "len") (rN X<|f1 gH):=gi.imp zJ λf H Q h0=>by
 ksr_p;clear h0
 cases hv with
 | str z=>
  obtain⟨d,h⟩:=fS h;exact⟨_,_,rfl,⟨d,rfl⟩,h _ _ _ .refl R<|.int _⟩
 | @tup p xs us h1 r=>exact⟨_,us.length,rfl,.inr ⟨us,(iR.of h1),rfl⟩,by rw[<- r.length];exact h _ _ _ .refl R<|.int _⟩
 | @frz p xs us h1 r=>exact⟨_,us.length,rfl,.inl ⟨us,h1.BW,rfl⟩,by rw[<- r.length];exact h _ _ _ .refl R<|.int _⟩
 | ref c=>
  kcf_m;obtain⟨us,h1,r⟩:=R.lst c<|fF hn;exact⟨_,us.length,rfl,.inl ⟨us,iu.of h1,rfl⟩,by rw[<- r.length];exact h _ _ _ .refl R<|.int _⟩
 | _=>exact h.elim
abbrev I_ (x:A)(S:fj):R A:=match x with
 | .int i=>.ok (.int<|if i<0 then -i else i) S
 | _=>.no
abbrev AJ (x y:A)(S:fj):R A:=match x,y with
 | .int i,.int j=>.ok (.int<|if j>i then j else i) S
 | _,_=>.no
def ES(hc:X.calm=true):gi X (.builtin "max") (rN X<|f2 AJ):=gi.imp (xW hc) λf H Q h0=>by
 obtain⟨w,d,rfl,ρ,S,x,y,R,hv,c,h⟩:=Iv h0;clear h0
 cases hv<;>first|exact h.elim|(cases c<;>first|exact h.elim|exact⟨_,_,rfl,h _ _ _ .refl R<|.int _⟩)
abbrev zV (x y:A)(S:fj):R A:=match x,y with
 | .int i,.int j=>.ok (.int<|if j<i then j else i) S
 | _,_=>.no
def EK(hc:X.calm=true):gi X (.builtin "min") (rN X<|f2 zV):=gi.imp (yk hc) λf H Q h0=>by
 obtain⟨w,d,rfl,ρ,S,x,y,R,hv,c,h⟩:=Iv h0;clear h0
 cases hv<;>first|exact h.elim|(cases c<;>first|exact h.elim|exact⟨_,_,rfl,h _ _ _ .refl R<|.int _⟩)
abbrev xQ (x:A)(S:fj):R A:=match x with
 | .int i=>.ok (.int i) S
 | .bl k=>.ok (.int<|if k then 1 else 0) S
 | .str y=>opt (PySem.intText? y) λn=>gd (y.length<=640) (.ok (.int n) S)
 | _=>.no
def FU:gi X (.type "int") (rN X<|f1 xQ):=λpins s σ H xs us Q I c h0=>by
 ksr_p;clear h0
 cases hv with
 | int i=>exact qf pins s σ H _ us Q I c (.inl ⟨i,rfl,h _ _ _ .refl R<|.int _⟩)
 | bl k=>exact qf pins s σ H _ us Q I c (.inr ⟨k,rfl,h _ _ _ .refl R<|.int _⟩)
 | str y=>
  obtain⟨n,hn,h⟩:=fJ h;obtain⟨d,h⟩:=fS h;exact yj pins s σ H _ us Q I c ⟨y,n,rfl,d,hn,h _ _ _ .refl R<|.int _⟩
 | _=>exact h.elim
abbrev ow (x y:A)(S:fj):R A:=match x,y with
 | .int i,.int j=>.ok (.rng i j) S
 | _,_=>.no
def yD:gi X (.type "range") (rN X<|f2 ow):=gi.imp qM λk H Q h0=>by
 obtain⟨w,g,rfl,ρ,S,x,y,R,hv,c,h⟩:=Iv h0;clear h0
 cases hv with
 | int i=>
  cases c with
  | int j=>
   refine⟨i,j,rfl,λp d=>?_⟩;obtain⟨ex,f⟩:=R.im (u:=.rng i j) d;exact h ρ _ _ ex f<|.rng h_
  | _=>exact h.elim
 | _=>exact h.elim
abbrev tM (i j:Int):Prop:=(-(2 ^ 62)<=i/\i<2 ^ 62/\-(2 ^ 62)<=j/\j<2 ^ 62)/\(j-i).toNat<=1000
instance (i j:Int):Decidable (tM i j):=by unfold tM;infer_instance
abbrev iQ (x:A)(S:fj):R A:=match x with
 | .rng i j=>gd (tM i j) (.ok (.ref S.length)<|S++[.lst<|(iS i j).map .int])
 | .tup xs=>.ok (.ref S.length) (S++[.lst xs])
 | .frz xs=>.ok (.ref S.length) (S++[.lst xs])
 | .ref n=>opt (eX S n) λxs=>.ok (.ref S.length) (S++[.lst xs])
 | _=>.no
def lJ(hc:X.calm=true):gi X (.type "list") (rN X<|f1 iQ):=λpins s σ H c us Q I rx h0=>by
 ksr_p;clear h0
 cases hv with
 | @rng p i j f=>
  obtain⟨d,h⟩:=fS h;exact pT hc pins s σ H _ us Q I rx ⟨p,i,j,rfl,f,d.1,d.2,iz R (kI _) .refl h⟩
 | @tup p xs c h1 r=>exact j6 pins s σ H _ us Q I rx ⟨p,c,rfl,.inr<|iR.of h1,iz R r .refl h⟩
 | @frz p xs c h1 r=>exact j6 pins s σ H _ us Q I rx ⟨p,c,rfl,.inl h1.BW,iz R r .refl h⟩
 | @ref p n f=>
  kcf_m;obtain⟨c,h1,r⟩:=R.lst f<|fF hn;exact j6 pins s σ H _ us Q I rx ⟨p,c,rfl,.inl<|iu.of h1,iz R r .refl h⟩
 | _=>exact h.elim
abbrev lO (x:A)(S:fj):R A:=match x with
 | .rng i j=>gd (tM i j) (.ok (.tup<|(iS i j).map .int) S)
 | .tup xs=>.ok (.tup xs) S
 | .frz xs=>.ok (.tup xs) S
 | .ref n=>opt (eX S n) λxs=>.ok (.tup xs) S
 | _=>.no
def uX(hc:X.calm=true):gi X (.type "tuple") (rN X<|f1 lO):=λpins s σ H c us Q I rx h0=>by
 ksr_p;clear h0
 cases hv with
 | @rng p i j f=>
  obtain⟨d,h⟩:=fS h;exact pB hc pins s σ H _ us Q I rx ⟨p,i,j,rfl,f,d.1,d.2,ki R (kI _) .refl h⟩
 | @tup p xs c h1 r=>exact jN pins s σ H _ us Q I rx ⟨p,c,rfl,.inr ⟨(iR.of h1),h _ _ _ .refl R<|.tup h1 r⟩⟩
 | @frz p xs c h1 r=>exact jN pins s σ H _ us Q I rx ⟨p,c,rfl,.inl ⟨h1.BW,ki R r .refl h⟩⟩
 | @ref p n f=>
  kcf_m;obtain⟨c,h1,r⟩:=R.lst f<|fF hn;exact jN pins s σ H _ us Q I rx ⟨p,c,rfl,.inl ⟨iu.of h1,ki R r .refl h⟩⟩
 | _=>exact h.elim
abbrev A.Co:ad->Option (List Bool)
 | []=>some []
 | .bl b::xs=>(A.Co xs).map (b::·)
 | _=>none
theorem BD{K:aq}{H:Hp}:∀{xs:ad}{vs:List V}{bs:List Bool},AVs K ρ H xs vs->A.Co xs=some bs->vs=bs.map V.bl
 | _,_,_,.nil,e=>by cases e;rfl
 | x::xs,_,bs,.cons h t,e=>by
  cases x with
  | bl b=>
   obtain⟨c,e1,rfl⟩:=aP.mp (show(A.Co xs).map (b::·)=some bs from e)
   cases h
   rw[BD t e1];rfl
  | _=>cases e
abbrev sG (x:A)(S:fj):R A:=match x with
 | .ref n=>opt (eX S n) λxs=>opt (A.Co xs) λbs=>.ok (.bl<|bs.all λb=>b) S
 | _=>.no
def qo(hc:X.calm=true):gi X (.builtin "all") (rN X<|f1 sG):=gi.imp (ye hc) λd H Q h0=>by
 ksr_p;clear h0
 cases hv with
 | @ref p n f=>
  kcf_m;obtain⟨bs,c,h⟩:=fJ h;obtain⟨d,h1,r⟩:=R.lst f<|fF hn;rw[BD r c]at h1;exact⟨p,bs,rfl,iu.of h1,h _ _ _ .refl R<|.bl _⟩
 | _=>exact h.elim
abbrev insI (x:Int):ae->ae
 | []=>[x]
 | y::ys=>if x<=y then x::y::ys else y::insI x ys
abbrev sortI:ae->ae
 | []=>[]
 | x::xs=>insI x<|sortI xs
theorem insI_perm(x:Int):∀ys:ae,(insI x ys).Perm (x::ys)
 | []=>List.Perm.refl _
 | y::ys=>by
  unfold insI;by_cases h:x<=y
  ·rw[aZ h]
  ·rw[bu h];exact((insI_perm x ys).cons y).trans (List.Perm.swap x y ys)
theorem sortI_perm:∀xs:ae,(sortI xs).Perm xs
 | []=>List.Perm.refl _
 | x::xs=>(insI_perm x<|sortI xs).trans<|(sortI_perm xs).cons x
theorem xO(x:Int):∀ys:ae,ys.Pairwise (·<=·)->(insI x ys).Pairwise (·<=·)
 | [],_=>List.pairwise_singleton _ _
 | y::ys,h=>by
  unfold insI;obtain⟨h1,d⟩:=eo.mp h;by_cases hx:x<=y
  ·rw[aZ hx];exact eo.mpr ⟨λz c=>(bq.mp c).elim (λe=>e ▸ hx) λc=>Int.le_trans hx<|h1 z c,h⟩
  ·rw[bu hx];refine eo.mpr ⟨λz c=>?_,xO x ys d⟩
   rcases bq.mp ((insI_perm x ys).mem_iff.mp c)with e|c
   ·subst e;lia
   ·exact h1 z c
theorem mL:∀xs:ae,(sortI xs).Pairwise (·<=·)
 | []=>List.Pairwise.nil
 | x::xs=>xO x _<|mL xs
abbrev pJ (x:A)(S:fj):R A:=opt (x.seq S) λxs=>opt (A.ints xs) λc=>gd (c.length<64)<|.ok (.ref S.length)<|S++[.lst<|(sortI c).map .int]
def w_:gi X (.builtin "sorted") (rN X<|f1 pJ):=gi.imp qK λm H Q h0=>by
 ksr_p;clear h0;kcf_m;obtain⟨c,g,h⟩:=fJ h;obtain⟨j,h⟩:=fS h;obtain⟨p,us,rfl,hs,r⟩:=zS R hv hn;rw[Cr r g]at hs;refine⟨p,c,rfl,hs,j,λl d f k hw=>?_⟩;have:d=sortI c:=CP (k.trans (sortI_perm c).symm) hw<|mL c;rw[this];exact iz R (kI _) .refl h l f
abbrev A.kd:A->fj->Option Kd
 | .f6,_=>some .f6
 | .bl _,_=>some .bl
 | .int _,_=>some .int
 | .str _,_=>some .str
 | .tup _,_=>some .tup
 | .ref n,S=>(eX S n).map λ_=>.lst
 | _,_=>none
def Dv{K:aq}(k:Kd):PySem.W.kitOne K k.ty (.type "str")=some (decide<|k=.str):=by cases k<;>rfl
abbrev ig (k:Kd)(c:String):bj:=if c = "int" then some (decide<|k=.int\/k=.bl)else if c = "bool" then some (decide<|k=.bl)else if c = "tuple" then some (decide<|k=.tup)else if c = "list" then some (decide<|k=.lst)else if c = "str" then some (decide<|k=.str)else none
def xq{K:aq}{k:Kd}{b:Bool}(h:ig k c=some b):PySem.W.kitOne K k.ty (.type c)=some b:=by
 unfold ig at h;split at h
 ·rename_i e;subst e;rw[<- h];exact Dl k
 ·split at h
  ·rename_i e;subst e;rw[<- h];exact BL k
  ·split at h
   ·rename_i e;subst e;rw[<- h];exact kit_tuple k
   ·split at h
    ·rename_i e;subst e;rw[<- h];exact Aq k
    ·split at h
     ·rename_i e;subst e;rw[<- h];exact Dv k
     ·cases h
abbrev oR (x y:A)(S:fj):R A:=match y with
 | .ty c=>opt (x.kd S) λk=>opt (ig k c) λb=>.ok (.bl b) S
 | _=>.no
def HB{K:aq}{H:Hp}{x:A}{v:V}{k:Kd}(R:Rel K ρ H S)(h:AV K ρ H x v)(e:x.kd S=some k):(∃p vs,v=.ref p/\iR K H p vs/\k=.tup)\/F4 H v k:=by
 cases h with
 | f6=>cases e;exact .inr rfl
 | bl b=>cases e;exact .inr ⟨b,rfl⟩
 | int i=>cases e;exact .inr ⟨i,rfl⟩
 | str i=>cases e;exact .inr ⟨i,rfl⟩
 | tup h r=>cases e;exact .inl ⟨_,_,rfl,(iR.of h),rfl⟩
 | ref h=>
  obtain⟨xs,e1,e2⟩:=aP.mp e;obtain⟨vs,h1,_⟩:=R.lst h (fF e1)
  cases e2
  exact .inr ⟨_,vs,rfl,h1⟩
 | _=>cases e
def mE:gi X (.builtin "isinstance") (rN X<|f2 oR):=λpins s σ H C us Q I rx h0=>by
 obtain⟨w,F,rfl,ρ,S,x,y,R,hv,f,h⟩:=Iv h0;clear h0
 cases f with
 | ty c=>
  obtain⟨k,B,h⟩:=fJ h;obtain⟨b,g,d⟩:=fJ h;have d:qz X ρ H Q (.bl b) S:=d;clear h
  rcases HB R hv B with⟨p,C,rfl,m,rfl⟩|hd
  ·obtain⟨G,J,rfl,r1,r2⟩:=vals2 rx;obtain⟨D,q,⟨o,h1,j,_⟩,_⟩:=I.tuple m
   cases(show _=Value.ref p from r1)
   cases(show _=Value.type c from r2)
   exact bK PySem.W.kitx_tuple I.rA ⟨o,h1,j⟩ (xq g) (λz=>nomatch z) λK=>⟨.bl b,H,I.tok _,rfl,d _ _ _ .refl R<|.bl _⟩
  ·exact sV (c:=c) pins s σ H _ us Q I rx ⟨w,_,b,rfl,hd.Jt,xq g,d _ _ _ .refl R<|.bl _⟩
 | _=>exact h.elim
end
abbrev RS.post (r:RS)(N:ad->fj->Prop)(T:A->fj->Prop)(B C:ad->fj->Prop)(E:Str->fj->Prop):Prop:=match r with
 | .nx τ S=>N τ S
 | .rt a S=>T a S
 | .bk τ S=>B τ S
 | .ct τ S=>C τ S
 | .ex c S=>E c S
 | .no=>False
abbrev RS.of {α:Type}(r:R α)(f:α->fj->RS):RS:=match r with
 | .ok a S=>f a S
 | .ex c S=>.ex c S
 | .no=>.no
def of_post{α:Type}{r:R α}{f:α->fj->RS}{N B C:ad->fj->Prop}{T:A->fj->Prop}{E:Str->fj->Prop}(h:(RS.of r f).post N T B C E):r.post (λa S=>(f a S).post N T B C E) E:=by
 cases r<;>exact h
def RS.mono{r:RS}{N B C N' B' C':ad->fj->Prop}{T T':A->fj->Prop}{E E':Str->fj->Prop}(h:r.post N T B C E)(hn:∀τ S,N τ S->N' τ S)(ht:∀a S,T a S->T' a S)(hb:∀τ S,B τ S->B' τ S)(hc:∀τ S,C τ S->C' τ S)(he:∀c S,E c S->E' c S):r.post N' T' B' C' E':=by
 cases r with
 | nx τ S=>exact hn _ _ h
 | rt a S=>exact ht _ _ h
 | bk τ S=>exact hb _ _ h
 | ct τ S=>exact hc _ _ h
 | ex c S=>exact he _ _ h
 | no=>exact h.elim
abbrev BZ (X:Cx)(ρ:ba)(H:Hp)(N:L2.St->Hp->Prop):ad->fj->Prop:=λd f=>∀ρ' H' c,Ext ρ ρ' H H'->Rel X.K ρ' H' f->SR X.K ρ' H' d c->N c H'
def BZ.ext{H H':Hp}{N:L2.St->Hp->Prop}(h:BZ X ρ H N τ S)(e:Ext ρ ρ' H H'):BZ X ρ' H' N τ S:=λd H2 c e2=>h d H2 c<|e.trans e2
abbrev w9 (X:Cx)(ρ:ba)(H:Hp)(D:Ends)(r:RS):Prop:=r.post (BZ X ρ H D.nx) (qz X ρ H D.rt) (BZ X ρ H D.bk) (BZ X ρ H D.ct)<|XE X ρ H
def w9.ext{H H':Hp}{r:RS}(h:w9 X ρ H D r)(e:Ext ρ ρ' H H'):w9 X ρ' H' D r:=RS.mono h (λ_ _ z=>z.ext e) (λ_ _ z=>z.ext e) (λ_ _ z=>z.ext e) (λ_ _ z=>z.ext e) λ_ _ z=>z.ext e
abbrev tS (X:Cx)(c:Sm):TS:=λD σ H=>∃ρ S τ,Rel X.K ρ H S/\SR X.K ρ H τ σ/\w9 X ρ H D (c τ S)
abbrev AS (X:Cx)(st:aC)(c:Sm):Prop:=PS X st<|tS X c
abbrev DN (X:Cx)(sts:List aC)(c:Sm):Prop:=rB X sts<|tS X c
abbrev tG (X:Cx)(g:Tg):TG:=λv σ H Q=>∃ρ S τ a,Rel X.K ρ H S/\SR X.K ρ H τ σ/\AV X.K ρ H a v/\(g a τ S).post (BZ X ρ H Q) (XE X ρ H)
abbrev AG (X:Cx)(e:aA)(g:Tg):Prop:=PG X e<|tG X g
meta abbrev BX:=ad->ad->fj->R (ad)
abbrev KP (X:Cx)(g:BX):D3:=λd σ H Q=>∃ρ S τ c,Rel X.K ρ H S/\SR X.K ρ H τ σ/\AVs X.K ρ H c d/\(g c τ S).post (BZ X ρ H Q) (XE X ρ H)
abbrev IE (X:Cx)(es:List aA)(g:BX):Prop:=HH X es<|KP X g
section
variable {X:Cx}{pos:Pos}{a b e:aA}{st:aC}{rest:List aC}{c d:Sm}
def PS.imp{t t':TS}(h:PS X st t)(i:∀D σ H,t' D σ H->t D σ H):PS X st t':=λpins s σ H D I q=>h pins s σ H D I<|i D σ H q
def rB.imp{t t':TS}(h:rB X rest t)(i:∀D σ H,t' D σ H->t D σ H):rB X rest t':=λpins s σ H D I q=>h pins s σ H D I<|i D σ H q
def PG.imp{t t':TG}(h:PG X e t)(i:∀v σ H Q,t' v σ H Q->t v σ H Q):PG X e t':=λpins s σ H v u Q I r q=>h pins s σ H v u Q I r<|i _ _ _ _ q
abbrev gf (i:Nat):Tg:=λa τ S=>.ok (τ.set i a) S
def f9{i:Nat}{x:Str}(hN:X.N.Nodup)(hi:X.N[i]?=some x:=by rfl)(hx:Loc X.env.scope x:=by first|exact Or.inl rfl|exact Or.inr rfl)(hf:X.fn x=true\/X.env.scope.names.lookup x=some .local:=by first|exact .inl rfl|exact .inr rfl|assumption):AG X (.Name x pos) (gf i):=
 PG.imp (uZ hN hi hx hf) λv σ H Q ⟨ρ,S,τ,a,R,r,va,h⟩=>h ρ H _ .refl R<|r.set va
abbrev Gj:BX:=λc τ S=>match c with
 | []=>.ok τ S
 | _=>.no
abbrev yz (g:Tg)(gs:BX):BX:=λd τ S=>match d with
 | a::d=>(g a τ S).bind λc S1=>gs d c S1
 | []=>.no
def qQ:IE X [] Gj:=λpins s σ H c us Q I r ⟨ρ,S,τ,f,R,d,va,h⟩=>Ct pins s σ H c us Q I r (by
 cases va with
 | nil=>exact⟨rfl,h ρ H σ .refl R d⟩
 | cons _ _=>exact h.elim)
def j0{g:Tg}{gs:BX}(h1:AG X e g)(h2:IE X es gs)(hs:(assignEach (e::es) X.env).map (·.2)=assign e X.env::(assignEach es X.env).map (·.2):=by rfl):IE X (e::es) (yz g gs):=
 λpins s σ H f us Q I r ⟨ρ,S,τ,B,R,k,va,h⟩=>BN h1 h2 hs pins s σ H f us Q I r (by
  cases va with
  | nil=>exact h.elim
  | cons j q=>exact⟨_,_,rfl,ρ,S,τ,_,R,k,j,fC (fE h) .refl λc S1 h1 ρ1 H1 m e1 p d=>⟨ρ1,S1,c,_,p,d,q.ext e1,fC h1 e1 λ_ _ z=>z.ext e1⟩⟩)
abbrev Gu (n:Nat)(gs:BX):Tg:=λa τ S=>match a with
 | .tup xs | .ktu xs=>gd (xs.length=n) (gs xs τ S)
 | _=>.no
def uo{k n:Nat}{gs:BX}(hc:X.calm=true)(h:IE X es gs)(hn:(assignEach es X.env).length=n:=by rfl)(hst:(assignEach es X.env).findIdx? (·.1)=none:=by rfl):AG X (.Tuple es k pos) (Gu n gs):=
 PG.imp (Gd hc h hn hst) λv σ H Q h9=>by
  obtain⟨ρ,S,τ,a,R,r,va,h⟩:=h9
  cases va with
  | tup h1 r1=>
   obtain⟨c,h⟩:=fS h;exact⟨_,_,rfl,iR.of h1,by rw[<- r1.length];exact c,ρ,S,τ,_,R,r,r1,h⟩
  | ktu h1 r1=>
   obtain⟨c,h⟩:=fS h;exact⟨_,_,rfl,.inr h1,by rw[<- r1.length];exact c,ρ,S,τ,_,R,r,r1,h⟩
  | _=>exact h.elim
abbrev sJ (o i v:A)(S:fj):R Unit:=match o,i with
 | .ref n,.int k=>opt (eX S n) λxs=>opt (pC xs.length k) λj=>.ok Unit.unit (S.set n<|.lst<|xs.set j v)
 | _,_=>.no
abbrev KW (X:Cx):Dz:=λo i v H Q=>∃ρ S c f d,Rel X.K ρ H S/\AV X.K ρ H c o/\AV X.K ρ H f i/\AV X.K ρ H d v/\(sJ c f d S).post (λ_ g=>∀ρ' H',Ext ρ ρ' H H'->Rel X.K ρ' H' g->Q H') (XE X ρ H)
def CM:Fb X (KW X):=λpins s σ H o i v G g u Q I q f d h9=>by
 obtain⟨ρ,S,J,K,L,R,h1,m,F,h⟩:=h9
 cases h1 with
 | @ref p n c=>
  cases m with
  | int k=>
   kcf_m;obtain⟨j,B,h⟩:=fJ h;obtain⟨C,e,r⟩:=R.lst c<|fF hn;obtain⟨ex,D⟩:=R.put c (fF hn)<|r.set F j;exact set_list pins s σ H _ _ v G g u Q I q f d ⟨p,C,k,j,rfl,rfl,e,by rw[<- r.length];exact B,h _ _ ex D⟩
  | _=>exact h.elim
 | _=>exact h.elim
abbrev wM (co ci:Ex):Tg:=λa τ S=>(co τ S).bind λo S1=>(ci τ S1).bind λi c=>(sJ o i a c).bind λ_ d=>.ok τ d
def kr{co ci:Ex}(ho:AE X o co)(hi:AE X i ci)
  (ha:∀v,assign (.Subscript o i pos) X.env v=(do
   let ov <- holding [v] (eval o X.env)
   let iv <- holding [v,ov] (eval i X.env)
   standAt pos
   holding [v,ov,iv] (setItem ov iv v)
   release [v,ov,iv] []):=by intro _;rfl):AG X (.Subscript o i pos) (wM co ci):=PG.imp (EC ho hi CM ha) λv σ H Q h9=>by
 obtain⟨ρ,S,τ,a,R,r,va,h⟩:=h9;refine⟨ρ,S,τ,R,r,fC (fE h) .refl λo S1 h1 ρ1 H1 x e1 B q=>⟨ρ1,S1,τ,B,r.ext e1,fC (fE h1) e1 λi m g d H2 y e2 R2 k=>?_⟩⟩;refine⟨d,m,o,i,a,R2,q.ext e2,k,va.ext<|e1.trans e2,fC (fE g) (e1.trans e2) λ_ D C c j f p=>?_⟩;exact C c j σ ((e1.trans e2).trans f) p<|r.ext<|(e1.trans e2).trans f
abbrev jv:Sm:=λτ S=>.nx τ S
abbrev fZ (c d:Sm):Sm:=λτ S=>match c τ S with
 | .nx f g=>d f g
 | r=>r
def gz:DN X [] jv:=rB.imp Dr λD σ H ⟨ρ,S,τ,R,r,h⟩=>h ρ H σ .refl R r
def CW{H:Hp}(h:tS X (fZ c d) D σ H):GS (tS X c) (tS X d) D σ H:=by
 kln_w;refine⟨ρ,S,τ,R,r,?_⟩;unfold fZ at h
 cases hc:c τ S with
 | nx f S1=>
  rw[hc]at h;exact λρ1 H1 g e1 j r1=>⟨ρ1,S1,f,j,r1,w9.ext h e1⟩
 | rt a S1=>rw[hc]at h;exact h
 | bk f S1=>rw[hc]at h;exact h
 | ct f S1=>rw[hc]at h;exact h
 | ex x S1=>rw[hc]at h;exact h
 | no=>rw[hc]at h;exact h
def fy(h1:AS X st c)(h2:DN X rest d):DN X (st::rest) (fZ c d):=rB.imp (yN h1 h2) λD σ H h=>CW h
def fB(h1:AS X st c):DN X [st] c:=CV h1
abbrev Fl:Sm:=λτ S=>.bk τ S
abbrev Ii:Sm:=λτ S=>.ct τ S
abbrev nP (e:Ex):Sm:=λτ S=>.of (e τ S) λ_ S1=>.nx τ S1
def lA{f:Ex}(he:AE X e f)(hs:swapsWith e none pos.line X.env=pure false:=by rfl):AS X (.Expr e pos) (nP f):=PS.imp (Ck he hs) λD σ H ⟨ρ,S,τ,R,r,h⟩=>
 ⟨ρ,S,τ,R,r,fC (of_post h) .refl λa S1 h1 ρ1 H1 x e1 c d=>h1 ρ1 H1 σ e1 c<|r.ext e1⟩
abbrev g8 (e:Ex):Sm:=λτ S=>.of (e τ S) λa S1=>.rt a S1
theorem f_{f:Ex}(he:AE X e f):AS X (.Return (some e) pos) (g8 f):=PS.imp (Fq he) λD σ H ⟨ρ,S,τ,R,r,h⟩=>⟨ρ,S,τ,R,r,fC (of_post h) .refl λa S1 h1=>h1⟩
abbrev HJ:Sm:=λτ S=>.rt .f6 S
abbrev lu (t:Te)(c d:Sm):Sm:=λτ S=>.of (t τ S) λb S1=>match b with|true=>c τ S1|false=>d τ S1
def gy{t:Te}(ht:AT X e t)(ha:DN X ca c)(hb:DN X cb d):AS X (.If e ca cb pos) (lu t c d):=PS.imp (G4 ht ha hb) λD σ H h9=>by
 fin2;refine⟨ρ,S,τ,R,r,fC (of_post h) .refl λb S1 h1 ρ1 H1 e1 f=>?_⟩
 cases b with
 | true=>rw[aZ rfl];exact⟨ρ1,S1,τ,f,r.ext e1,w9.ext h1 e1⟩
 | false=>rw[bu bE];exact⟨ρ1,S1,τ,f,r.ext e1,w9.ext h1 e1⟩
abbrev fV (e:Ex)(g:Tg):Sm:=λτ S=>.of (e τ S) λa S1=>.of (g a τ S1) λc d=>.nx c d
def CJ{f:Ex}{g:Tg}{H:Hp}(h:tS X (fV f g) D σ H):Cf (tE X f) (tG X g) D σ H:=by
 kln_w;exact⟨ρ,S,τ,R,r,fC (of_post h) .refl λa S1 h1 ρ1 H1 x e1 d k=>⟨ρ1,S1,τ,a,d,r.ext e1,k,fC (of_post h1) e1 λc m j=>BZ.ext j e1⟩⟩
def kQ{tg:aA}{f:Ex}{g:Tg}(he:AE X e f)(hg:AG X tg g)(hs:swapsWithSole [tg] e pos.line X.env=pure false:=by rfl)(hw:swappedStores [tg] e X.env=pure none:=by rfl)
  (h1:(assignEach [tg] X.env).map (·.2)=[assign tg X.env]:=by rfl):AS X (.Assign [tg] e pos) (fV f g):=PS.imp (Gm he hg hs hw h1) λD σ H h=>CJ h
def fQ{i:Nat}{x:Str}{f:Ex}(hN:X.N.Nodup)(he:AE X e f)(hi:X.N[i]?=some x:=by rfl)(hx:Loc X.env.scope x:=by first|exact Or.inl rfl|exact Or.inr rfl)(hs:swapsWith e (some<|.Name x pos') pos.line X.env=pure false:=by rfl)(hf:X.fn x=true\/X.env.scope.names.lookup x=some .local:=by first|exact .inl rfl|exact .inr rfl|assumption) :
  AS X (.Assign [.Name x pos'] e pos) (fV f<|gf i):=PS.imp (F6 hN hi hx he hs hf) λD σ H ⟨ρ,S,τ,R,r,h⟩=>
 ⟨ρ,S,τ,R,r,fC (of_post h) .refl λa S1 h1 ρ1 H1 x e1 d c=>h1 ρ1 H1 _ e1 d<|(r.ext e1).set c⟩
abbrev JM (i j:Nat)(c:kF):Sm:=λτ S=>.of (c τ S) λd S1=>match d with
 | [a,b]=>.nx ((τ.set i a).set j b) S1
 | _=>.no
abbrev Ja (a b:A)(S:fj):R A:=match a,b with
 | .int i,.int j=>.ok (.int<|i+j) S
 | _,_=>.no
abbrev G3 (i:Nat)(f:A->A->fj->R A)(e:Ex):Sm:=λτ S=>if (τ.getD i .unb).gW then .no else .of (e τ S) λb S1=>.of (f (τ.getD i .unb) b S1) λc d=>.nx (τ.set i c) d
abbrev Ca (a b:A)(S:fj):R A:=match a,b with
 | .ref n,.int i=>opt (eX S n) λxs=>gd (0<=i) (opt (xs[i.toNat]?) λx=>.ok x S)
 | _,_=>.no
abbrev HU (co ci ce:Ex)(f:A->A->fj->R A):Sm:=λτ S=>.of (co τ S) λo S1=>.of (ci τ S1) λi c=>.of (Ca o i c) λx g=>.of (ce τ g) λy S4=>.of (f x y S4) λz d=>.of (sJ o i z d) λ_ j=>.nx τ j
end
structure Src where
 k:Nat
 get:Nat->fj->Option A
 fin:fj->Bool
structure JR (K:aq)(s:Src)(J:It)(ρ0:ba)(H0:Hp):Prop where
 go:∀(i:Nat) (S:fj) (H:Hp) (ρ:ba) (x:A),Ext0 ρ0 ρ H0 H->Rel K ρ H S->s.get i S=some x->J.go i H/\∀v H',J.yld i H v H'->Ext ρ ρ H H'/\Rel K ρ H' S/\AV K ρ H' x v
 stop:∀(S:fj) (H:Hp) (ρ:ba),Ext0 ρ0 ρ H0 H->Rel K ρ H S->s.fin S=true->J.stop s.k H
meta abbrev Ic:=ad->fj->R Src
abbrev tI (X:Cx)(c:Ic):TI:=λσ H Q=>∃ρ S τ,Rel X.K ρ H S/\SR X.K ρ H τ σ/\(c τ S).post (λs d=>∀ρ' H' J,Ext ρ ρ' H H'->Rel X.K ρ' H' d->JR X.K s J ρ' H'->Q J H') (XE X ρ H)
abbrev AI (X:Cx)(tg iter:aA)(c:Ic):Prop:=PI X tg iter<|tI X c
abbrev m7 (xs:ad):Src:=⟨xs.length,λi _=>xs[i]?,λ_=>true⟩
abbrev jo (n k:Nat):Src:=⟨k,λi S=>(eX S n).bind (·[i]?),λS=>match eX S n with
 | some ys=>decide (ys.length<=k)
 | none=>false⟩
abbrev iT (lo hi:Int):Src:=⟨(hi-lo).toNat,λi _=>if i<(hi-lo).toNat then some (.int<|lo+i)else none,λ_=>true⟩
abbrev jI (c:Ex):Ic:=λτ S=>(c τ S).bind λa S1=>match a with
 | .tup xs=>.ok (m7 xs) S1
 | .frz xs=>.ok (m7 xs) S1
 | .ref n=>opt (eX S1 n) λxs=>.ok (jo n xs.length) S1
 | .str x=>gd (x.cps.all (· < 128)=true) (.ok (m7<|x.cps.toList.map λc=>.str ⟨#[c]⟩) S1)
 | _=>.no
section
variable {X:Cx}{pos:Pos}{tg e a b:aA}
def Ff{K:aq}{H0:Hp}{p:aj}(h:iR K H0 p vs)(r:AVs K ρ0 H0 xs vs):JR K (m7 xs) (Jm K p) ρ0 H0 where
 go:=λi S H ρ x e R g=>by
  obtain⟨v,c,d⟩:=(AVs.gS e r).get g;have hs:=e.KI h;refine⟨⟨vs,v,hs,c⟩,λw H' ⟨e1,y⟩=>?_⟩;subst e1;have:=y vs hs;rw[c]at this
  cases this
  exact⟨.refl,R,d⟩
 stop:=λS H ρ e R _=>⟨vs,e.KI h,by rw[<- r.length];exact aL _⟩
def Fc{K:aq}{H0:Hp}{p:aj}(h:Fz K H0 p vs)(r:AVs K ρ0 H0 xs vs):JR K (m7 xs) (IK K p) ρ0 H0 where
 go:=λi S H ρ x e R g=>by
  obtain⟨v,c,d⟩:=(AVs.gS e r).get g;have hs:=(e.fz h).BW;refine⟨⟨vs,v,hs,c⟩,λw H' ⟨e1,y⟩=>?_⟩;subst e1;have:=y vs hs;rw[c]at this
  cases this
  exact⟨.refl,R,d⟩
 stop:=λS H ρ e R _=>⟨vs,(e.fz h).BW,by rw[<- r.length];exact aL _⟩
def ET{K:aq}{ρ0:ba}{H0:Hp}{p:aj}{n k:Nat}(h:ρ0[n]?=some p):JR K (jo n k) (IK K p) ρ0 H0 where
 go:=λi S H ρ x e R g=>by
  obtain⟨ys,hn,hx⟩:=aY.mp<|show(eX S n).bind (·[i]?)=some x from g;obtain⟨c,h1,r⟩:=R.lst (e.get h)<|fF hn;obtain⟨v,d,f⟩:=r.get hx;refine⟨⟨c,v,iu.of h1,d⟩,λw H' ⟨e1,y⟩=>?_⟩;subst e1;have:=y c<|iu.of h1;rw[d]at this
  cases this
  exact⟨.refl,R,f⟩
 stop:=λS H ρ e R g=>by
  have g:(match eX S n with
   | some ys=>decide (ys.length<=k)
   | none=>false)=true:=g
  cases hn:eX S n with
  | none=>rw[hn]at g;cases g
  | some ys=>
   rw[hn]at g;obtain⟨c,h1,r⟩:=R.lst (e.get h)<|fF hn;exact⟨c,iu.of h1,by rw[<- r.length];exact of_decide_eq_true g⟩
def zB{K:aq}{H0:Hp}{lo hi:Int}:JR K (iT lo hi) (Ig lo (hi-lo).toNat) ρ0 H0 where
 go:=λi S H ρ x e R g=>by
  have g:(if i<(hi-lo).toNat then some (A.int<|lo+i)else none)=some x:=g;by_cases c:i<(hi-lo).toNat
  ·rw[aZ c]at g
   cases g
   refine⟨c,λw H' ⟨e1,y⟩=>?_⟩;subst e1 y;exact⟨.refl,R,.int _⟩
  ·rw[bu c]at g;cases g
 stop:=λS H ρ e R _=>aL _
def F3{K:aq}{H0:Hp}{x:Str}:JR K (m7<|x.cps.toList.map λc=>A.str ⟨#[c]⟩) (JZ x) ρ0 H0 where
 go:=λi S H ρ y e R g=>by
  have g:(x.cps.toList.map λc=>A.str ⟨#[c]⟩)[i]?=some y:=g;rw[aR]at g;obtain⟨c,hc,rfl⟩:=aP.mp g;rw[Array.getElem?_toList]at hc;refine⟨(Array.getElem?_eq_some_iff.mp hc).1,λw H' ⟨e1,j,d,f⟩=>?_⟩;rw[hc]at d
  cases d
  subst e1 f;exact⟨.refl,R,.str _⟩
 stop:=λS H ρ e R _=>by
  show(x.cps.toList.map λc=>A.str ⟨#[c]⟩).length=x.cps.size;rw[aG,cj]
def jG{c:Ex}(he:AE X e c):AI X tg e (jI c):=λpins s σ H Q I h9=>by
 fin2;have d:=fE h
 cases hc:c τ S with
 | no=>rw[hc]at d;exact d.elim
 | ex x S1=>
  rw[hc]at d;exact Bg he pins s σ H Q I ⟨ρ,S,τ,R,r,by rw[hc];exact d⟩
 | ok a S1=>
  rw[hc]at d
  cases a with
  | tup xs=>
   refine Bg he pins s σ H Q I ⟨ρ,S,τ,R,r,?_⟩;rw[hc];intro ρ1 H1 x e1 f g
   cases g with
   | tup h1 r1=>exact⟨_,rfl,⟨_,(iR.of h1)⟩,d ρ1 H1 _ e1 f<|Ff (iR.of h1) r1⟩
  | frz xs=>
   refine uS he pins s σ H Q I ⟨ρ,S,τ,R,r,?_⟩;rw[hc];intro ρ1 H1 x e1 f g
   cases g with
   | frz h1 r1=>exact⟨_,rfl,⟨_,h1.BW⟩,d ρ1 H1 _ e1 f<|Fc h1 r1⟩
  | ref n=>
   obtain⟨xs,hn,d⟩:=fJ d;refine uS he pins s σ H Q I ⟨ρ,S,τ,R,r,?_⟩;rw[hc];intro ρ1 H1 x e1 f g
   cases g with
   | ref j=>
    obtain⟨m,h1,r1⟩:=f.lst j<|fF hn;exact⟨_,rfl,⟨_,iu.of h1⟩,d ρ1 H1 _ e1 f<|ET j⟩
  | str x=>
   obtain⟨k,d⟩:=fS d;refine E4 he pins s σ H Q I ⟨ρ,S,τ,R,r,?_⟩;rw[hc];intro ρ1 H1 v e1 f g
   cases g with
   | str=>exact⟨x,rfl,k,d ρ1 H1 _ e1 f F3⟩
  | _=>exact d.elim
abbrev bnd (i:Int):Prop:=-(2 ^ 62)<=i/\i<2 ^ 62
instance (i:Int):Decidable (bnd i):=by unfold bnd;infer_instance
abbrev gX (c:Ex):Ic:=λτ S=>(c τ S).bind λa S1=>match a with
 | .int j=>gd (bnd j) (.ok (iT 0 j) S1)
 | _=>.no
abbrev nV (c d:Ex):Ic:=λτ S=>(c τ S).bind λa S1=>(d τ S1).bind λb f=>match a,b with
 | .int i,.int j=>gd (bnd i/\bnd j) (.ok (iT i j) f)
 | _,_=>.no
def gT{p:Pos}{c:Ex}(hm:X.mg "range" = none)(ha:AE X a c)(hg:Gl X "range" := by rfl)(hs:starEach [a] X.env=[(false,eval a X.env)]:=by rfl):AI X tg (.Call (.Name "range" p) [a] [] pos) (gX c):=λpins s σ H Q I h9=>by
 fin2;refine yr hg hm (lE ha qD hs) hs pins s σ H Q I ⟨ρ,S,τ,R,r,fC (fE h) .refl λx S1 h1 ρ1 H1 v e1 g f=>?_⟩
 cases f with
 | int j=>
  obtain⟨d,h1⟩:=fS h1;exact⟨_,rfl,d.1,d.2,by have:=h1 ρ1 H1 _ e1 g zB;rwa [Int.sub_zero]at this⟩
 | _=>exact h1.elim
def qe{p:Pos}{c d:Ex}(hm:X.mg "range" = none)(ha:AE X a c)(hb:AE X b d)(hg:Gl X "range" := by rfl)(hs:starEach [a,b] X.env=[(false,eval a X.env),(false,eval b X.env)]:=by rfl)(hs2:starEach [b] X.env=[(false,eval b X.env)]:=by rfl):AI X tg (.Call (.Name "range" p) [a,b] [] pos) (nV c d):=λpins s σ H Q I h9=>by
 fin2;refine yc hg hm (lE ha (lE hb qD hs2)<|by rw[hs,hs2]) hs hs2 pins s σ H Q I ⟨ρ,S,τ,R,r,fC (fE h) .refl λx S1 h1 ρ1 H1 v e1 q m=>⟨ρ1,S1,τ,q,r.ext e1,fC (fE h1) e1 λy B f g H2 w e2 R2 k=>?_⟩⟩
 cases m with
 | int i=>
  cases k with
  | int j=>
   obtain⟨hb,f⟩:=fS f;exact⟨_,_,rfl,⟨hb.1.1,hb.1.2,hb.2.1,hb.2.2⟩,f g H2 _ (e1.trans e2) R2 zB⟩
  | _=>exact f.elim
 | _=>exact f.elim
abbrev jy (s:Src)(g:Tg)(c:Sm):Nat->Nat->Sm
 | 0,_=>λτ S=>if s.fin S then .nx τ S else .no
 | k+1,i=>λτ S=>match s.get i S with
  | none=>.no
  | some x=>.of (g x τ S) λj S1=>match c j S1 with
   | .nx d f=>jy s g c k (i+1) d f
   | .ct d f=>jy s g c k (i+1) d f
   | .bk d f=>.nx d f
   | r=>r
abbrev n5 (src:Ic)(g:Tg)(c:Sm):Sm:=λτ S=>.of (src τ S) λs S1=>jy s g c s.k 0 τ S1
def lN{iter:aA}{src:Ic}{g:Tg}{c:Sm}(hp:PassesOwn (model X.prog X.w) X.A X.env X.xe)(hc:X.calm=true)(hi:AI X tg iter src)(hg:AG X tg g)(hb:DN X body c)
  (hs:∀x,foldedSetIterable iter X.env x=pure x:=by intro _;rfl):AS X (.For tg iter body [] pos) (n5 src g c):=PS.imp (F5 hp hc hi hg hb hs) λD σ H h9=>by
 fin2;refine⟨ρ,S,τ,R,r,fC (of_post h) .refl λs S1 h1 ρ1 H1 J e1 R1 jr=>?_⟩;refine⟨λi m L H'=>m+i=s.k/\∃ρ' C d,Ext ρ1 ρ' H1 H'/\Rel X.K ρ' H' C/\SR X.K ρ' H' d L/\w9 X ρ' H' D (jy s g c m i d C),⟨s.k,rfl,ρ1,S1,τ,.refl,R1,r.ext e1,w9.ext h1 e1⟩,?_⟩;rintro i m Z H2 ⟨hm,j,G,N,e2,R2,r2,q⟩
 cases m with
 | zero=>
  left;have q:w9 X j H2 D (if s.fin G then .nx N G else .no):=q
  cases hf:s.fin G with
  | false=>rw[hf]at q;exact q.elim
  | true=>
   rw[hf]at q;refine⟨by rw[show i=s.k by lia];exact jr.stop G H2 j e2.toExt0 R2 hf,q j H2 Z .refl R2 r2⟩
 | succ m=>
  right;have q:w9 X j H2 D (match s.get i G with
   | none=>.no
   | some x=>.of (g x N G) λτ1 S1=>match c τ1 S1 with
    | .nx d C=>jy s g c m (i+1) d C
    | .ct d C=>jy s g c m (i+1) d C
    | .bk d C=>.nx d C
    | r=>r):=q
  cases hx:s.get i G with
  | none=>rw[hx]at q;exact q.elim
  | some x=>
   rw[hx]at q;obtain⟨hgo,hy⟩:=jr.go i G H2 j x e2.toExt0 R2 hx;refine⟨hgo,λL H'=>m+(i+1)=s.k/\∃ρ' C d,Ext ρ1 ρ' H1 H'/\Rel X.K ρ' H' C/\SR X.K ρ' H' d L/\w9 X ρ' H' D (jy s g c m (i+1) d C),λL H' z=>⟨m,dQ _,z⟩,λv H3 y=>?_⟩;obtain⟨e3,R3,v3⟩:=hy v H3 y;refine⟨j,G,N,x,R3,r2.ext e3,v3,fC (of_post q) e3 λW S4 B ρ4 H4 σ4 e4 R4 r4=>⟨ρ4,S4,W,R4,r4,?_⟩⟩;have f:=e3.trans e4
   cases p:c W S4 with
   | nx F U=>rw[p]at B;exact λP H5 σ5 V R5 Y=>⟨(),P,U,F,(e2.trans f).trans V,R5,Y,w9.ext B<|f.trans V⟩
   | ct F U=>rw[p]at B;exact λP H5 σ5 V R5 Y=>⟨(),P,U,F,(e2.trans f).trans V,R5,Y,w9.ext B<|f.trans V⟩
   | bk F U=>rw[p]at B;exact BZ.ext B f
   | rt x5 U=>rw[p]at B;exact qz.ext B f
   | ex x5 U=>rw[p]at B;exact XE.ext B f
   | no=>rw[p]at B;exact B
end
abbrev R.jf {α β:Type}(r:R α)(f:α->fj->R β):R β:=match r with
 | .ok a S=>f a S
 | _=>.no
def mR{α β:Type}{r:R α}{f:α->fj->R β}{b:β}(h:r.jf f=.ok b S2):∃a S,r=.ok a S/\f a S=.ok b S2:=by
 cases r with
 | ok a S=>exact⟨a,S,rfl,h⟩
 | ex _ _=>cases h
 | no=>cases h
def um{α β:Type}{r:R α}{f:α->fj->R β}{P:β->fj->Prop}{E:Str->fj->Prop}(h:(r.jf f).post P E):∃a S,r=.ok a S/\(f a S).post P E:=by
 cases r with
 | ok a S=>exact⟨a,S,rfl,h⟩
 | ex _ _=>exact h.elim
 | no=>exact h.elim
def Gz{α β:Type}{o:Option β}{f:β->R α}{a:α}(h:opt o f=.ok a S):∃b,o=some b/\f b=.ok a S:=by
 cases o with
 | none=>cases h
 | some b=>exact⟨b,rfl,h⟩
abbrev gB (s:Src)(g:Tg)(t:Te)(e:Ex):Nat->Nat->ad->fj->R (ad)
 | 0,_=>λ_ S=>if s.fin S then .ok [] S else .no
 | k+1,i=>λτ S=>opt (s.get i S) λx=>(g x τ S).jf λc S1=>(t c S1).jf λb d=>match b with
  | true=>(e c d).jf λy f=>(gB s g t e k (i+1) c f).jf λys S4=>.ok (y::ys) S4
  | false=>gB s g t e k (i+1) c d
abbrev jw (cap:List<|bn)(τ:ad):ad:=cap.map λo=>match o with
 | some j=>τ.getD j .unb
 | none=>.unb
abbrev gp (cap:List<|bn)(src:Ic)(g:Tg)(t:Te)(e:Ex):Ex:=λτ S=>(src τ S).bind λs S1=>(gB s g t e s.k 0 (jw cap τ) S1).jf λys c=>newL ys c
abbrev gZ:Te:=λ_ S=>.ok true S
def sS{s:Src}{g:Tg}{t:Te}{e:Ex}{k:Nat}{T:Prop}(h:gB s g t e (k+1) i τ S=.ok zs S')
  (q:∀x τ1 S1 b S2,s.get i S=some x->g x τ S=.ok τ1 S1->t τ1 S1=.ok b S2->(b=true->∃y S3 ws,e τ1 S2=.ok y S3/\gB s g t e k (i+1) τ1 S3=.ok ws S'/\zs=y::ws)->(b=false->gB s g t e k (i+1) τ1 S2=.ok zs S')->T):T:=by
 obtain⟨x,hx,h⟩:=Gz h;obtain⟨τ1,S1,h1,h⟩:=mR h;obtain⟨b,S2,d,h⟩:=mR h;refine q x τ1 S1 b S2 hx h1 d (λc=>?_) λc=>?_
 ·subst c;obtain⟨y,S3,j,h⟩:=mR h;obtain⟨ws,S4,f,h⟩:=mR h
  cases h
  exact⟨y,S3,ws,j,f,rfl⟩
 ·subst c;exact h
structure Out (ρ1:ba)(H1:Hp)(D:aj)(accV:List V)(ρ:ba)(H:Hp):Prop where
 e0:Ext0 ρ1 ρ H1 H
 fr:∀a u,a≠D->H1 a=some u->a∉ρ1->H a=some u
 nw:∀a∈ρ,a∈ρ1\/H1 a=none
 nD:D∉ρ
 hD:H D=some (.lst accV)
def Out.stay{H1 H3 H7:Hp}(o:Out ρ1 H1 D accV ρ3 H3)(hD1:H1 D=none)(e7:Ext ρ3 ρ7 H3 H7):Out ρ1 H1 D accV ρ7 H7:=by
 refine⟨⟨o.e0.pre.trans e7.pre,λa u i h=>e7.im a u i<|o.e0.im a u i h⟩,λa u na c f=>e7.fr a u (o.fr a u na c f) λz=>(o.nw a z).elim f λz=>by(rw[z]at c;cases c),λa j=>?_,λz=>(e7.nw D z).elim o.nD λz=>by(rw[o.hD]at z;cases z),e7.fr D _ o.hD o.nD⟩;by_cases d:a∈ρ1
 ·exact .inl d
 ·right
  cases q:H1 a with
  | none=>rfl
  | some u=>
   have g:a≠D:=fR q hD1
   rcases e7.nw a j with z|z
   ·exact((o.nw a z).elim d λz=>by(rw[z]at q;cases q)).elim
   ·rw[o.fr a u g q d]at z;cases z
def Out.put{H1 H:Hp}(o:Out ρ1 H1 D accV ρ H)(ex:Ext0 ρ ρ H<|upd H D<|.lst vs):Out ρ1 H1 D vs ρ (upd H D<|.lst vs):=
 ⟨⟨o.e0.pre,λa u i h=>ex.im a u i<|o.e0.im a u i h⟩,λa u na d c=>by rw[fK na];exact o.fr a u na d c,o.nw,o.nD,h_⟩
def Out.end{H1 H:Hp}{D:aj}(o:Out ρ1 H1 D accV ρ H)(hD:H1 D=none):Ext ρ1 (ρ++[D]) H1 H:=by
 refine⟨⟨o.e0.pre.trans<|eg _ _,o.e0.im⟩,λa u c na=>o.fr a u (fR c hD) c na,λa d=>?_⟩
 rcases bh.mp d with z|z
 ·exact o.nw a z
 ·have:a=D:=by simpa using z
  rw[this];exact .inr hD
abbrev Cq (K:aq)(ρ1:ba)(H1:Hp)(D:aj)(ys:ad)(k:Nat)(E:ba->Hp->Prop)(P:Nat->Nat->ad->fj->ad->Prop)(i m:Nat)(σ:L2.St)(H:Hp):Prop:=
 m+i=k/\∃ρ S τ acc zs accV,Out ρ1 H1 D accV ρ H/\E ρ H/\Rel K ρ H S/\SR K ρ H τ σ/\AVs K ρ H acc accV/\P m i τ S zs/\acc++zs=ys
section
variable {K:aq}{ρ1 ρ:ba}{H1 H:Hp}{D:aj}{ys acc zs:ad}{accV:List V}{k i m:Nat}{E:ba->Hp->Prop}{P:Nat->Nat->ad->fj->ad->Prop}{σ:L2.St}{S:fj}{τ:ad}
def Cq.el{T:Prop}(h:Cq K ρ1 H1 D ys k E P i m σ H)(q:∀ρ S τ acc zs accV,m+i=k->Out ρ1 H1 D accV ρ H->E ρ H->Rel K ρ H S->SR K ρ H τ σ->AVs K ρ H acc accV->P m i τ S zs->acc++zs=ys->T):T:=by
 obtain⟨B,ρ,S,τ,acc,zs,accV,h1,f,p,g,j,c,d⟩:=h;exact q ρ S τ acc zs accV B h1 f p g j c d
def Cq.of(hm:m+i=k)(o:Out ρ1 H1 D accV ρ H)(e:E ρ H)(R:Rel K ρ H S)(r:SR K ρ H τ σ)(v:AVs K ρ H acc accV)(p:P m i τ S zs)(q:acc++zs=ys):Cq K ρ1 H1 D ys k E P i m σ H:=⟨hm,ρ,S,τ,acc,zs,accV,o,e,R,r,v,p,q⟩
end
abbrev Iz (K:aq)(c:Ex):TE:=λσ H Q=>∃ρ S τ a d,Rel K ρ H S/\SR K ρ H τ σ/\c τ S=.ok a d/\∀ρ' H' v,Ext ρ ρ' H H'->Rel K ρ' H' d->AV K ρ' H' a v->Q v H'
abbrev Ir (K:aq)(c:Te):TT:=λσ H Q=>∃ρ S τ a d,Rel K ρ H S/\SR K ρ H τ σ/\c τ S=.ok a d/\∀ρ' H',Ext ρ ρ' H H'->Rel K ρ' H' d->Q a H'
abbrev IM (K:aq)(g:Tg):TG:=λv σ H Q=>∃ρ S τ a c f,Rel K ρ H S/\SR K ρ H τ σ/\AV K ρ H a v/\g a τ S=.ok c f/\∀ρ' H' d,Ext ρ ρ' H H'->Rel K ρ' H' f->SR K ρ' H' c d->Q d H'
section
variable {X:Cx}{pos:Pos}{tg iter elt e:aA}{ifs:List aA}{scope:Scope}{N:am}{cap:List (bn)}{src:Ic}{g:Tg}{t:Te}{c:Ex}
def AE.e0{K:aq}(hK:X.K=K)(h:AE X e c):PE X e (Iz K c):=PE.imp h λσ H Q ⟨ρ,S,τ,a,g,R,r,hc,q⟩=>⟨ρ,S,τ,by rw[hK];exact R,by rw[hK];exact r,by rw[hc];exact λρ' H' v e d f=>q ρ' H' v e (by rw[<- hK];exact d)<|by rw[<- hK];exact f⟩
def AT.t0{K:aq}(hK:X.K=K)(h:AT X e t):PT X e (Ir K t):=PT.imp h λσ H Q ⟨ρ,S,τ,a,d,R,r,hc,q⟩=>⟨ρ,S,τ,by rw[hK];exact R,by rw[hK];exact r,by rw[hc];exact λρ' H' e c=>q ρ' H' e<|by rw[<- hK];exact c⟩
def AG.g0{K:aq}(hK:X.K=K)(h:AG X e g):PG X e (IM K g):=by
 subst hK;refine PG.imp h λv σ H Q h9=>?_;obtain⟨ρ,S,τ,a,c,d,R,r,va,hc,q⟩:=h9;exact⟨ρ,S,τ,a,R,r,va,by rw[hc];exact q⟩
abbrev IF (X:Cx)(ifs:List aA)(t:Te):Prop:=EN X ifs<|Ir X.K t
def gU:IF X [] gZ:=λpins s σ H Q I ⟨ρ,S,τ,a,c,R,r,hc,q⟩=>DC pins s σ H Q I<|by cases hc;exact q ρ H .refl R
def vB(h:AT X e t):IF X [e] t:=Dk<|h.t0 rfl
def GJ{K:aq}{H:Hp}(r:SR K ρ H τ σ)(cap:List<|bn):SR K ρ H (jw cap τ) (cap.map<|Fv σ):=by
 refine⟨by simp[jw],λi a h=>?_⟩;unfold jw at h;rw[aR]at h;obtain⟨o,d,e⟩:=aP.mp h
 cases o with
 | none=>exact .inl e.symm
 | some j=>
  have e:τ.getD j .unb=a:=e
  cases c:τ[j]? with
  | none=>rw[aE,c]at e;exact .inl e.symm
  | some b=>
   rw[aE,c]at e;have e:b=a:=e;subst e
   rcases r.at j b c with z|⟨v,h1,f⟩
   ·exact .inl z
   ·exact .inr ⟨v,by rw[aR,d];show some ((σ[j]?).getD none)=_;rw[h1];rfl,f⟩
def Rel.HD{K:aq}{H:Hp}{p:aj}(R:Rel K ρ H S)(hp:H p=none):p∉ρ:=λg=>by
 obtain⟨n,hn,e⟩:=cY.mp g;have d:n<S.length:=by rw[<- R.len];exact hn
 have:=R.at n p S[n] (by rw[aF hn,e]) (aF d)
 cases c:S[n]with
 | lst xs=>rw[c]at this;obtain⟨f,h,_⟩:=this;rw[hp]at h;cases h
 | dct _|dki _|dcp _=>rw[c]at this;obtain⟨f,h,_⟩:=this;rw[hp]at h;cases h
 | ins _ _=>rw[c]at this;obtain⟨_,_,h⟩:=this;rw[hp]at h;cases h
def rH(σ:L2.St)(H:Hp)(Q:VK)(h:tE X (gp cap src g t c) σ H Q):GW cap (tI X src) (IM X.K g) (Ir X.K t) (Iz X.K c) σ H Q:=by
 kln_w;refine⟨ρ,S,τ,R,r,fC (fE h) .refl λs S1 h1 ρ1 H1 J e1 R1 jr D hD=>?_⟩;obtain⟨ys,W,hcg,h1⟩:=um h1;obtain⟨L,h1⟩:=fS h1;have h1:qz X ρ H Q (.ref W.length) (W++[.lst ys]):=h1;obtain⟨eD,RD⟩:=R1.im (u:=.lst []) hD;refine⟨Cq X.K ρ1 H1 D ys s.k (λ_ _=>True) λm i τ S zs=>gB s g t c m i τ S=.ok zs W,⟨s.k,.of rfl ⟨eD.toExt0,λa u na hu _=>by rw[fK na];exact hu,λa ha=>.inl ha,R1.HD hD,h_⟩ trivial RD (GJ ((r.ext e1).ext eD) cap) .nil hcg rfl⟩,?_⟩;intro i m σ3 H3 hw;refine hw.el λj G τ3 acc zs accV hm B _ R3 r3 q d f=>?_;clear hw
 cases m with
 | zero=>
  left;have d:(if s.fin G then Am.R.ok [] G else .no)=.ok zs W:=d
  cases hf:s.fin G with
  | false=>rw[hf]at d;cases d
  | true=>
   rw[hf]at d
   cases d
   rw[dm]at f;subst f;refine⟨by rw[show i=s.k by lia];exact jr.stop _ H3 j B.e0 R3 hf,?_⟩;obtain⟨RT,gt⟩:=R3.take B.hD B.nD q;exact h1 (j++[D]) H3 _ (e1.trans<|B.end hD) RT<|.ref gt
 | succ m=>
  right;refine sS d λx C S4 b S5 hx hg4 Z hT hF=>?_;have jg:=jr.go i G H3 j x B.e0 R3 hx;refine⟨jg.1,λv H4 y=>?_⟩;obtain⟨e4,R4,v4⟩:=jg.2 v H4 y;refine⟨j,G,τ3,x,C,S4,R4,r3.ext e4,v4,hg4,λρ5 H5 σ5 e5 R5 U=>⟨ρ5,S4,C,b,S5,R5,U,Z,λρ6 H6 P R6=>?_⟩⟩;have p:=(e4.trans e5).trans P
  cases b with
  | false=>
   dsimp only;rw[bu bE];exact⟨m,dQ _,.of () (B.stay hD p) trivial R6 (U.ext P) (q.ext p) (hF rfl) f⟩
  | true=>
   dsimp only;rw[aZ rfl];obtain⟨y,S6,ws,Y,cg6,N⟩:=hT rfl;refine⟨ρ6,S5,C,y,S6,R6,U.ext P,Y,λρ7 H7 w e7 R7 v7=>?_⟩;have V:=B.stay hD<|p.trans e7;obtain⟨F,R8⟩:=R7.out (ws:=accV++[w]) V.hD V.nD;have l1:=q.length;refine⟨accV,V.hD,?_,m,dQ _,.of () (V.put F) trivial R8 ((U.ext<|P.trans e7).gS F) (AVs.gS F<|(q.ext<|p.trans e7).append<|.one v7) cg6 ?_⟩
   ·have:(acc++zs).length<=sizeLine:=by rw[f];exact L
    rw[N,aU,a_]at this
    lia
   ·rw[dI,<- f,N];rfl
def iO(hc:X.calm=true)(Sc:CpScope X scope N cap)(hi:AI X tg iter src)(hg:∀C s₀ H₀ ex,AG (iM X scope N C s₀ H₀ ex) tg g)(ht:∀C s₀ H₀ ex,IF (iM X scope N C s₀ H₀ ex) ifs t)(he:∀C s₀ H₀ ex,AE (iM X scope N C s₀ H₀ ex) elt c)
  (hs:∀x,foldedSetIterable iter X.env x=pure x:=by intro _;rfl):AE X (.ListComp elt [⟨tg,iter,ifs,0⟩] scope pos) (gp cap src g t c):=
 PE.imp (Ho hc Sc hi (g:=IM X.K g) (tc:=Ir X.K t) (te:=Iz X.K c) (λC s₀ H₀ ex=>(hg C s₀ H₀ ex).g0 rfl) (λC s₀ H₀ ex=>ht C s₀ H₀ ex) (λC s₀ H₀ ex=>(he C s₀ H₀ ex).e0 rfl) hs) rH
def mF{i:Nat}{x:Str}{spos:Pos}(hN:X.N.Nodup)(hc:X.calm=true)(Sc:CpScope X scope N cap)(hi:AI X tg iter src)(hg:∀C s₀ H₀ ex,AG (iM X scope N C s₀ H₀ ex) tg g)(ht:∀C s₀ H₀ ex,IF (iM X scope N C s₀ H₀ ex) ifs t)(he:∀C s₀ H₀ ex,AE (iM X scope N C s₀ H₀ ex) elt c)
  (hi':X.N[i]?=some x:=by rfl) (hx:Loc X.env.scope x:=by first|exact Or.inl rfl|exact Or.inr rfl)
  (hsw:swapsWith (.ListComp elt [⟨tg,iter,ifs,0⟩] scope pos) (some<|.Name x pos') spos.line X.env=pure true:=by rfl) (hf:X.fn x=true\/X.env.scope.names.lookup x=some .local:=by first|exact .inl rfl|exact .inr rfl|assumption)
  (hs:∀x,foldedSetIterable iter X.env x=pure x:=by intro _;rfl):AS X (.Assign [.Name x pos'] (.ListComp elt [⟨tg,iter,ifs,0⟩] scope pos) spos) (fV (gp cap src g t c)<|gf i):=
 PS.imp (AU hN hi' hx hc Sc hi (g:=IM X.K g) (tc:=Ir X.K t) (te:=Iz X.K c) (λC s₀ H₀ ex=>(hg C s₀ H₀ ex).g0 rfl) (λC s₀ H₀ ex=>ht C s₀ H₀ ex) (λC s₀ H₀ ex=>(he C s₀ H₀ ex).e0 rfl) hsw hf hs) λD σ H ⟨ρ,S,τ,R,r,h⟩=>
  rH σ H _ ⟨ρ,S,τ,R,r,fC (of_post h) .refl λa S1 h1 ρ1 H1 x e1 f d=>h1 ρ1 H1 _ e1 f<|(r.ext e1).set d⟩
end
abbrev A.lst? (S:fj):A->Option (ad)
 | .ref n=>eX S n
 | _=>none
abbrev EA (f:A->ad->fj->R A)(co:Ex)(d:kF):Ex:=λτ S=>(co τ S).bind λo S1=>opt (o.lst? S1) λ_=>(d τ S1).bind λg c=>f o g c
abbrev JB (f:A->ad->fj->R A)(co:Ex):Ex:=λτ S=>(co τ S).bind λo S1=>opt (o.lst? S1) λ_=>f o [] S1
abbrev rM (X:Cx)(f:A->ad->fj->R A):V->List V->Hp->VK->Prop:=λx d H Q=>∃ρ S o c,Rel X.K ρ H S/\AV X.K ρ H o x/\AVs X.K ρ H c d/\(f o c S).post (qz X ρ H Q) (XE X ρ H)
section
variable {X:Cx}{apos cpos:Pos}{o e:aA}{es:List aA}{name:Str}{id:String}{f:A->ad->fj->R A}{co:Ex}{d:kF}
def lst?_ty{K:aq}{H:Hp}{x:A}{v:V}(R:Rel K ρ H S)(h:AV K ρ H x v)(e:x.lst? S=some xs):Je K "list" v H:=by
 cases h with
 | ref h=>
  obtain⟨c,h1,_⟩:=R.lst h<|fF e;exact .inl ⟨rfl,c,iu.of h1⟩
 | _=>cases e
def qp(slot:Slot "list" name id)(hty:typeOf (.builtin id)=pure (.type "method_descriptor"))(hm:Hl X id<|rM X f)(ho:AE X o co)(ha:AL X (e::es) d)
  (hbase:attributeBase o name X.env (eval o X.env)=eval o X.env:=by rfl)
  (hfew:((backTo cpos<|starEach (e::es) X.env).all (λx=>!x.1) && (backToKw cpos<|keywordEach [] X.env).all (λx=>x.1.isSome)
   && decide ((e::es).length+([]:List Keyword).length+(if ([]:List Keyword).isEmpty then 0 else 1)<30))=true:=by rfl)
  (hline:(apos.endLine == cpos.line)=true:=by rfl) (hs:starEach (e::es) X.env=(false,eval e X.env)::starEach es X.env:=by rfl) (hplain:(backTo cpos<|starEach es X.env).any (·.1)=false:=by rfl) :
  AE X (.Call (.Attribute o name apos) (e::es) [] cpos) (EA f co d):=PE.imp (G9 PySem.F.plainAttrs_list slot hty hm ho ha hbase hfew hline hs hplain) λσ H Q h9=>by
 fin2;refine⟨ρ,S,τ,R,r,fC (fE h) .refl λx S1 h1 ρ1 H1 v e1 j g=>?_⟩;obtain⟨xs,hx,h1⟩:=fJ h1;refine⟨lst?_ty j g hx,ρ1,S1,τ,j,r.ext e1,fC (fE h1) e1 λm q k c H2 B e2 R2 p=>?_⟩;exact⟨c,q,x,m,R2,g.ext e2,p,fC k (e1.trans e2) λ_ _ z=>z.ext<|e1.trans e2⟩
abbrev lB (o:A)(as:ad)(S:fj):R A:=match o,as with
 | .ref n,[x]=>opt (eX S n) λxs=>gd (xs.length<sizeLine) (.ok .f6<|S.set n<|.lst<|xs++[x])
 | _,_=>.no
def mT:Hl X "list.append" (rM X lB):=λpins s σ H x q v us Q I rx d h9=>by
 obtain⟨ρ,S,o,j,R,k,va,h⟩:=h9
 cases k with
 | @ref p n c=>
  match j,va,h with
  | [],_,h=>exact h.elim
  | _::_::_,_,h=>exact h.elim
  | [y],va,h=>
   obtain⟨w,rfl,hw⟩:=CU va;kcf_m;obtain⟨f,h⟩:=fS h;obtain⟨g,h1,r⟩:=R.lst c<|fF hn;obtain⟨ex,m⟩:=R.put c (fF hn)<|r.append<|.one hw;exact qB pins s σ H _ _ v us Q I rx d ⟨p,g,w,rfl,rfl,h1,by rw[<- r.length];exact f,h _ _ _ ex m .f6⟩
 | _=>exact h.elim
abbrev uQ (o:A)(as:ad)(S:fj):R A:=match o,as with
 | .ref n,[.int i]=>opt (eX S n) λxs=>gd (-(2 ^ 63)<=i/\i<2 ^ 63) (opt (seqIndex? i xs.length) λk=>opt (xs[k]?) λx=>.ok x<|S.set n<|.lst<|xs.eraseIdx k)
 | _,_=>.no
def Cw:Hl X "list.pop" (rM X uQ):=λpins s σ H x D v us Q I rx d h9=>by
 obtain⟨ρ,S,o,j,R,m,va,h⟩:=h9
 cases m with
 | @ref p n c=>
  match j,va,h with
  | [],_,h=>exact h.elim
  | y::_::_,_,h=>exact(by cases y<;>exact h.elim)
  | [y],va,h=>
   obtain⟨w,rfl,hw⟩:=CU va
   cases hw with
   | int i=>
    kcf_m;obtain⟨hi,h⟩:=fS h;obtain⟨k,q,h⟩:=fJ h;obtain⟨y,f,h⟩:=fJ h;obtain⟨g,h1,r⟩:=R.lst c<|fF hn;obtain⟨w,hw,C⟩:=r.get f;obtain⟨ex,B⟩:=R.put c (fF hn)<|r.eraseIdx k;exact zZ pins s σ H _ _ v us Q I rx d ⟨p,g,i,k,w,rfl,rfl,h1,hi.1,hi.2,by rw[<- r.length];exact q,hw,h _ _ _ ex B<|C.ext ex⟩
   | _=>exact h.elim
 | _=>exact h.elim
end
abbrev jW (N:am)(m:Sm)(as:ad)(S:fj):R A:=match m (as++List.replicate (N.length-as.length) .unb) S with
 | .rt a d=>.ok a d
 | .nx _ d=>.ok .f6 d
 | .ex c d=>.ex c d
 | _=>.no
abbrev pI (K:aq)(n:Nat)(F:ad->fj->R A):Sp:=λf H Q _=>f.length=n/\∃ρ S d a c,Rel K ρ H S/\AVs K ρ H d f/\F d S=.ok a c/\∀ρ' H' v,Ext ρ ρ' H H'->Rel K ρ' H' c->AV K ρ' H' a v->Q v H'
def CQ{K:aq}{H:Hp}{as:ad}(r:AVs K ρ H as vs)(N:am):SR K ρ H (as++List.replicate (N.length-as.length) .unb) (L2.start N vs):=by
 have c:=r.length;refine⟨by unfold L2.start;simp[c],λi a h=>?_⟩;by_cases hi:i<as.length
 ·rw[aX hi]at h;obtain⟨v,hv,d⟩:=r.get h;exact .inr ⟨v,by unfold L2.start;rw[aX<|by simp;lia,aR,hv];rfl,d⟩
 ·rw[bX (),List.getElem?_replicate]at h;split at h
  ·exact .inl (aN h).symm
  ·cases h
section
variable {P:ah}{w:af}{K:aq}{mg:Str->be}{base:ak}
def tY{x:Str}{st:aC}{f:aj}{N ps:am}{k:Nat}{m:Sm}(F:Fun K x qual st f fd)(Sc:FnScope N ps<|fN st)
  (body:∀(cdv:aa) (A:au) (outer:List Env) (s:az) (H:Hp) (E:XK),Room k (A.deeper<|envOfC qual (fN st) s.heap.objs.size f cdv)->DN (uA nL P w K mg base N qual (fN st) f cdv A outer s H E).Ht (jz st) m) :
  FnOk P w K mg base nL (k+1) f fd ps (pI K ps.length<|jW N m):=by
 refine F.ok Sc (λD H Q E h=>h.1) λcdv B outer s H D Q E J ⟨L,ρ,S,p,a,U,R,va,d,q⟩=>⟨_,body cdv B outer s H E J,ρ,S,_,R,CQ va N,?_⟩;unfold jW at d
 cases g:m (p++List.replicate (N.length-p.length) .unb) S with
 | rt b j=>rw[g]at d;cases d;exact q
 | nx τ j=>rw[g]at d;cases d;exact λρ' H' C e G _=>q ρ' H' _ e G .f6
 | bk τ j=>rw[g]at d;cases d
 | ct τ j=>rw[g]at d;cases d
 | ex c j=>rw[g]at d;cases d
 | no=>rw[g]at d;cases d
end
meta abbrev pM (P:ah)(w:af)(K:aq)(mg:Str->be)(base:ak)(k:Nat)(x:Str)(ps:am)(F:ad->fj->R A):Prop:=Kn P w K mg base k x ps<|pI K ps.length F
abbrev eFn (F:ad->fj->R A)(d:kF):Ex:=λτ S=>(d τ S).bind λf S1=>match F f S1 with
 | .ok a c=>.ok a c
 | _=>.no
section
variable {X:Cx}{pos p:Pos}{e:aA}{es:List aA}{x:Str}{ps:am}{k:Nat}{F:ad->fj->R A}{d:kF}
def D9(G:pM X.prog X.w X.K X.mg X.base k x ps F)(hr:Room k X.A)(ha:AL X (e::es) d)(hl:∀τ S as S',d τ S=.ok as S'->as.length=ps.length)(hg:Gl X x:=by rfl)(hdb:(x == ("__debug__" : Str))=false:=by decide)
  (hs:starEach (e::es) X.env=(false,eval e X.env)::starEach es X.env:=by rfl) (hplain:(backTo pos<|starEach es X.env).any (·.1)=false:=by rfl):AE X (.Call (.Name x p) (e::es) [] pos) (eFn F d):=
 PE.imp (Hs G hr ha hg hdb hs hplain) λσ H Q h9=>by
  fin2;refine⟨ρ,S,τ,R,r,?_⟩;have f:=fE h
  cases hd:d τ S with
  | no=>rw[hd]at f;exact f
  | ex c S1=>rw[hd]at f;exact f
  | ok as S1=>
   rw[hd]at f;intro ρ1 H1 C e1 B q;rw[dm];refine⟨by rw[<- q.length];exact hl τ S as S1 hd,ρ1,S1,as,?_⟩;have f:Am.R.post (match F as S1 with
    | .ok a g=>.ok a g
    | _=>.no) (qz X ρ H Q) (XE X ρ H):=f
   cases m:F as S1 with
   | ok a g=>rw[m]at f;exact⟨a,g,B,q,rfl,λj H2 v e2=>f j H2 v<|e1.trans e2⟩
   | ex c g=>rw[m]at f;exact f.elim
   | no=>rw[m]at f;exact f.elim
def vQ:∀τ S as S',ff τ S=.ok as S'->as.length=0:=λτ S as S' h=>by cases h;rfl
def oQ{c:Ex}{d:kF}{n:Nat}(h:∀τ S as S',d τ S=.ok as S'->as.length=n):∀τ S as S',eU c d τ S=.ok as S'->as.length=n+1:=λτ S as S' e=>by
 unfold eU at e
 cases hc:c τ S with
 | ok a S1=>
  rw[hc]at e
  cases hd:d τ S1 with
  | ok bs f=>
   have e:R.bind (d τ S1) (λas f=>.ok (a::as) f)=.ok as S':=e;rw[hd]at e;cases e;rw[a_,h τ S1 bs _ hd]
  | ex _ _=>
   have e:R.bind (d τ S1) (λas f=>.ok (a::as) f)=.ok as S':=e;rw[hd]at e;cases e
  | no=>
   have e:R.bind (d τ S1) (λas f=>.ok (a::as) f)=.ok as S':=e;rw[hd]at e;cases e
 | ex _ _=>rw[hc]at e;cases e
 | no=>rw[hc]at e;cases e
end
section
variable {X:Cx}{pos:Pos}{a b c:aA}
abbrev Ks (f':A->A->fj->R A)(cc:Ex)(τ:ad)(b k:A)(S:fj):R A:=match k with
 | .bl true=>(cc τ S).bind λc S4=>f' b c S4
 | .bl false=>.ok (.bl false) S
 | _=>.no
abbrev BY (f f':A->A->fj->R A)(ca cb cc:Ex):Ex:=λτ S=>(ca τ S).bind λa S1=>(cb τ S1).bind λb c=>(f a b c).bind λk d=>Ks f' cc τ b k d
def Fw{f f':A->A->fj->R A}{ca cb cc:Ex}{H:Hp}{Q:VK}(h:tE X (BY f f' ca cb cc) σ H Q):zQ (r2 X f) (r2 X f') (tE X ca) (tE X cb) (tE X cc) σ H Q:=by
 kln_w;refine⟨ρ,S,τ,R,r,fC (fE h) .refl λa S1 h1 ρ1 H1 x e1 Y W=>⟨ρ1,S1,τ,Y,r.ext e1,fC (fE h1) e1 λb V G m H2 y e2 R2 D=>?_⟩⟩;have j:=e1.trans e2;refine⟨m,V,a,b,R2,W.ext e2,D,fC (fE G) j λk J B g K z C F L=>?_⟩;have d:=j.trans C
 cases k with
 | bl k=>
  cases s_ L
  refine⟨k,rfl,?_⟩
  cases k with
  | true=>
   rw[aZ rfl];exact⟨g,J,τ,F,r.ext d,fC (fE B) d λc S4 N p Z w e4 P U=>⟨p,S4,b,c,P,D.ext<|C.trans e4,U,fC N (d.trans e4) λ_ _ q=>q.ext<|d.trans e4⟩⟩
  | false=>
   rw[bu bE];exact B g K _ d F<|.bl false
 | _=>exact B.elim
def Er{f f':A->A->fj->R A}{ca cb cc:Ex}(ho:iP X (compareOp op)<|r2 X f)(ho':iP X (compareOp op')<|r2 X f')(ha:AE X a ca)(hb:AE X b cb)(hc:AE X c cc)(hm:lastMarks [op,op'] [b,c]=false:=by with_unfolding_all rfl) :
  AE X (.Compare a [op,op'] [b,c] pos) (BY f f' ca cb cc):=PE.imp (yY ho ho' ha hb hc hm) λ_ _ _ h=>Fw h
abbrev Hg (S:fj)(x:A):ad->bj
 | []=>some false
 | z::zs=>(nQ S 12 z x).bind λp=>(Hg S x zs).map λq=>p || q
abbrev J1 (neg:Bool)(x y:A)(S:fj):R A:=opt (y.seq S) λys=>opt (Hg S x ys) λb=>.ok (.bl<|if neg then !b else b) S
def wW{H:Hp}{x:A}{v:aa}(I:Inv X pins σ H s)(R:Rel X.K ρ H S)(hu:X.A.units+64<cLine)(hx:AV X.K ρ H x vx)(rx:RelV vx v) :
  ∀{ys:ad} {us:List V} {its:ar} {b:Bool},AVs X.K ρ H ys us->Vals us its->Hg S x ys=some b->∃e:aa->Bool,(∀w∈its,SeqAt.EqAt X.A.in1 s w v<|e w)/\its.any e=b:=by
 intro ys
 induction ys with
 | nil=>
  intro us its b h1 k h
  cases h1
  cases k
  exact⟨λ_=>false,(λw hw=>by cases hw),aN h⟩
 | cons z zs j=>
  intro us its b h1 k h
  cases h1 with
  | cons L B=>
   rename_i u us
   cases k with
   | cons r J=>
    rename_i f its
    classical
    obtain⟨p,F,h⟩:=aY.mp h;obtain⟨q,G,h⟩:=aP.mp h;obtain⟨e,g,m⟩:=j B J G;have h0:=(vP I R 12 X.A.in1 z x u vx f v p (by rw[in1_units];omega) L hx r rx F).2.1;subst h
    cases p with
    | true=>
     refine⟨λw=>if w=f then true else e w,λw hw=>?_,?_⟩
     ·by_cases d:w=f
      ·dsimp[d,dH];exact h0
      ·dsimp[d,dW]
       rcases bq.mp hw with z|z
       ·exact absurd z d
       ·exact g w z
     ·simp
    | false=>
     by_cases C:f∈its
     ·refine⟨e,λw hw=>?_,?_⟩
      ·rcases bq.mp hw with z|z
       ·rw[z];exact g f C
       ·exact g w z
      ·rw[eG,m,Bool.false_or]
       cases q with
       | true=>simp
       | false=>
        have:=List.any_eq_false.mp m f C;simpa using this
     ·refine⟨λw=>if w=f then false else e w,λw hw=>?_,?_⟩
      ·by_cases d:w=f
       ·dsimp[d,dH];exact h0
       ·dsimp[d,dW]
        rcases bq.mp hw with z|z
        ·exact absurd z d
        ·exact g w z
      ·rw[eG,<- m];dsimp[dH,Bool.false_or];have:∀l:ar,(∀w∈l,w≠f)->l.any (λw=>if w=f then false else e w)=l.any e:=λl D=>by
        induction l with
        | nil=>rfl
        | cons c l j=>rw[eG,eG,j λw hw=>D w<|aK _ hw,bu<|D c<|aS ..]
       exact this its λw hw z=>C<|z ▸ hw
def Jw(hu:X.A.units+64<cLine):iP X (compareOp .In) (r2 X<|J1 false):=λpins s σ H x y v u Q I rx ry h9=>by
 x_go;obtain⟨ys,B,h⟩:=fJ h;obtain⟨k,m,h⟩:=fJ h;obtain⟨p,us,rfl,hs,r⟩:=zS R vb B
 cases ry
 rcases hs with hs|hs
 ·obtain⟨c,d,g,q⟩:=I.list hs;obtain⟨e,j,f⟩:=wW I R hu va rx r d m;refine SeqAt.in_listAt e g.isList (λw hw=>j w<|by simpa using hw) ⟨.bl _,H,I,rfl,?_⟩;rw[show c.toArray.any e=c.any e by simp,f];exact h _ _ _ .refl R (.bl _)
 ·obtain⟨c,d,g,q⟩:=I.tuple hs;obtain⟨e,j,f⟩:=wW I R hu va rx r d m;refine SeqAt.in_tupleAt e g (λw hw=>j w<|by simpa using hw) ⟨.bl _,H,I,rfl,?_⟩;rw[show c.toArray.any e=c.any e by simp,f];exact h _ _ _ .refl R<|.bl _
end
section
variable {X:Cx}{pos:Pos}{a b:aA}
abbrev qg (n m k:Nat):Src:=⟨k,λi S=>(eX S n).bind λxs=>(eX S m).bind λys=>(xs[i]?).bind λx=>(ys[i]?).map λy=>.tup [x,y],λS=>match eX S n,eX S m with
 | some xs,some ys=>decide (xs.length<=k) || decide (ys.length<=k)
 | _,_=>false⟩
abbrev Jy (a b:A)(S:fj):R Src:=match a,b with
 | .ref n,.ref m=>opt (eX S n) λxs=>opt (eX S m) λys=>.ok (qg n m<|min xs.length ys.length) S
 | _,_=>.no
abbrev qy (c d:Ex):Ic:=λτ S=>(c τ S).bind λa S1=>(d τ S1).bind λb f=>Jy a b f
def Gp{K:aq}{ρ0:ba}{H0:Hp}{p q:aj}{n m k:Nat}(hp:ρ0[n]?=some p)(hq:ρ0[m]?=some q):JR K (qg n m k) (Jq K p q) ρ0 H0 where
 go:=λi S H ρ x e R g=>by
  obtain⟨xs,hn,g⟩:=aY.mp g;obtain⟨ys,c,g⟩:=aY.mp g;obtain⟨V,hx,g⟩:=aY.mp g;obtain⟨U,F,rfl⟩:=aP.mp g;obtain⟨j,h1,r1⟩:=R.lst (e.get hp)<|fF hn;obtain⟨d,f,r2⟩:=R.lst (e.get hq)<|fF c;obtain⟨v,D,L⟩:=r1.get hx;obtain⟨w,C,J⟩:=r2.get F;refine⟨⟨j,d,v,w,iu.of h1,iu.of f,D,C⟩,λu H' z=>?_⟩;obtain⟨T,G,rfl,P⟩:=z;have B:=P j d v w (iu.of h1) (iu.of f) D C;subst B;obtain⟨ex,N⟩:=R.im (u:=.tup [v,w]) G;exact⟨ex,N,.tup h_<|.cons (L.ext ex)<|.cons (J.ext ex) .nil⟩
 stop:=λS H ρ e R hf=>by
  have hf:(match eX S n,eX S m with
   | some xs,some ys=>decide (xs.length<=k) || decide (ys.length<=k)
   | _,_=>false)=true:=hf
  cases hn:eX S n with
  | none=>rw[hn]at hf;cases hf
  | some xs=>
   cases c:eX S m with
   | none=>rw[hn,c]at hf;cases hf
   | some ys=>
    rw[hn,c]at hf;obtain⟨j,h1,r1⟩:=R.lst (e.get hp)<|fF hn;obtain⟨d,f,r2⟩:=R.lst (e.get hq)<|fF c;refine⟨j,d,iu.of h1,iu.of f,?_⟩;rw[cC,cC,<- r1.length,<- r2.length];have hf:(decide (xs.length<=k) || decide (ys.length<=k))=true:=hf;rw[Bool.or_eq_true,cV,cV]at hf;exact hf
def Gb{p:Pos}{c d:Ex}(hm:X.mg "zip" = none)(ha:AE X a c)(hb:AE X b d)(hg:Gl X "zip" := by rfl)(hs:starEach [a,b] X.env=(false,eval a X.env)::starEach [b] X.env:=by rfl)(hs2:starEach [b] X.env=[(false,eval b X.env)]:=by rfl)(hpl:(backTo pos<|starEach [b] X.env).any (·.1)=false:=by rfl) :
  AI X (.Tuple elts x1 tpos) (.Call (.Name "zip" p) [a,b] [] pos) (qy c d):=λpins s σ H Q I h9=>by
 fin2;refine EZ hg hm (lE ha (lE hb qD hs2) hs) hs hpl pins s σ H Q I ⟨ρ,S,τ,R,r,fC (fE h) .refl λx S1 h1 ρ1 H1 v e1 L J=>⟨ρ1,S1,τ,L,r.ext e1,fC (fE h1) e1 λy P f j H2 w e2 R2 F=>?_⟩⟩;have k:=J.ext e2
 cases k with
 | @ref p n B=>
  cases F with
  | @ref q m C=>
   obtain⟨xs,hn,f⟩:=fJ f;obtain⟨ys,g,f⟩:=fJ f;obtain⟨K,G,r1⟩:=R2.lst B<|fF hn;obtain⟨D,N,r2⟩:=R2.lst C<|fF g;exact⟨_,_,K,D,rfl,iu.of G,iu.of N,f j H2 _ (e1.trans e2) R2<|Gp B C⟩
  | _=>exact f.elim
 | _=>exact f.elim
def yI{c d:Ex}{n:Nat}{xs ys:ad}(h1:c τ S=.ok (.ref n) S1)(h2:d τ S1=.ok (.ref m) S2)(hn:eX S2 n=some xs)(hm:eX S2 m=some ys):qy c d τ S=.ok (qg n m<|min xs.length ys.length) S2:=by
 unfold qy;rw[h1];show(d τ S1).bind _=_;rw[h2];show opt (eX S2 n) _=_;rw[hn]
 skip
 rw[hm];rfl
end
abbrev Jk (F:ad->fj->R A)(d:kF):Ex:=λτ S=>(d τ S).bind λc S1=>F c S1
abbrev J4:ar:=[.type "ValueError",.type "Exception",.type "BaseException",.type "object"]
abbrev Di:List (Str ⊕ Ex)->ad->fj->R Unit
 | [],_,S=>.ok Unit.unit S
 | .inl _::ps,τ,S=>Di ps τ S
 | .inr e::ps,τ,S=>(e τ S).bind λv S1=>match v with
  | .int i=>gd (i.natAbs.log2<64) (Di ps τ S1)
  | _=>.no
abbrev FF (c:Str)(ps:List<|Str ⊕ Ex):Sm:=λτ S=>.of (Di ps τ S) λ_ S1=>.ex c S1
abbrev Ef (i:Nat):RS->RS
 | .nx τ S=>.nx (τ.set i .unb) S
 | .bk τ S=>.bk (τ.set i .unb) S
 | .ct τ S=>.ct (τ.set i .unb) S
 | .rt a S=>.rt a S
 | _=>.no
abbrev Ie (i n:Nat)(cs:am)(c d:Sm):Sm:=λτ S=>match c τ S with
 | .ex x S1=>if x∈cs then Ef i (d ((List.replicate n .unb).set i<|.exn x) S1)else .no
 | r=>r
abbrev Jr (f:Str->bj)(c:Ex):Ex:=λτ S=>(c τ S).bind λv S1=>match v with
 | .exn x=>opt (f x) λb=>.ok (.bl b) S1
 | _=>.no
structure ExcK (K:aq)(U:aj)(c:Str)(C:aj):Prop where
 n:Ji K c C
 q:PySem.W.excIn K C J4 "ValueError.__new__" = true
 r:L2.mroIn K C=some (.ref U::J4)
 x:XCls K C
 cl:(PySem.W.clsIn K C).isSome=true
 v:PySem.W.kitOne K (.ref C) (.type "ValueError")=some true
abbrev K2 (tb:List<|Str×Bool):Str->bj:=λx=>tb.lookup x
abbrev Ih (F:ad->fj->R A)(d:kF):Ex:=λτ S=>match d τ S with
 | .ok c S1=>F c S1
 | _=>.no
section
variable {d:kF}
abbrev Iq (t:Te)(c d:Sm):Sm:=λτ S=>match t τ S with
 | .ok true S1=>c τ S1
 | .ok false S1=>d τ S1
 | _=>.no
end
abbrev Ej (i:Nat)(cs:am)(c d:Sm):Sm:=λτ S=>match c τ S with
 | .ex x S1=>if x∈cs then Ef i (d (τ.set i<|.exn x) S1)else .no
 | r=>r
def yg{K:aq}{H:Hp}{a:aj}{ns:ae}{F:ad->fj->R A}(hO:DG H)(hS:iu K H a<|ns.map V.int)(h:∃S',F [.frz<|ns.map .int] []=.ok (.bl true) S'):pI K 1 F [.ref a] H (λv _=>v=.bl true) λ_ _ _=>False:=by
 obtain⟨S',h⟩:=h;have fz:Fz K H a (ns.map V.int):=by
  rcases hS with(h|⟨o,h⟩)|h
  ·rcases hO a with z|⟨c,xs,z⟩
   ·rw[h]at z;cases z
   ·rw[h]at z;cases z
  ·exact .inl ⟨o,h⟩
  ·exact .inr h
 exact⟨rfl,[],[],_,_,S',⟨rfl,List.nodup_nil,λn a o h=>by simp at h⟩,.cons (.frz fz<|kI ns) .nil,h,λρ' H' v _ _ hv=>s_ hv⟩
def yw{P:ar->Prop}(h:∀a0,P [a0]):∀us:ar,us.length=1->P us
 | [_],_=>h _
def Fd{P:ar->Prop}(h:∀a0 a1,P [a0,a1]):∀us:ar,us.length=2->P us
 | [_,_],_=>h _ _
end Am
namespace Am
open PySem L2
section
variable {α β:Type}{a b:A}{S S1:fj}{τ:ad}{x:α}
@[simp]def R.gP {f:α->fj->R β}:(R.ok x S).bind f=f x S:=rfl
@[simp]def R.vX {f:α->fj->R β}{c:Str}:(R.ex c S:R α).bind f=.ex c S:=rfl
@[simp]def R.gj {f:α->fj->R β}:(R.ok x S).jf f=f x S:=rfl
@[simp]def RS.of_ok {f:α->fj->RS}:RS.of (R.ok x S) f=f x S:=rfl
@[simp]def RS.EB {f:α->fj->RS}{c:Str}:RS.of (R.ex c S:R α) f=.ex c S:=rfl
@[simp]def gq {f:β->R α}{y:β}:opt (some y) f=f y:=rfl
@[simp]def vz {r:R α}:gd True r=r:=aZ trivial
theorem ie{c:Prop}[Decidable c]{r:R α}(h:c):gd c r=r:=aZ h
@[simp]def iZ {i:Nat}:eW i τ S=bif (τ.getD i .unb).gW then .no else .ok (τ.getD i .unb) S:=by unfold eW;cases(τ.getD i .unb).gW<;>rfl
@[simp]def vR {xs:ad}:A.gW (.tup xs)=false:=rfl
@[simp]def vD {xs:ad}:A.gW (.frz xs)=false:=rfl
@[simp]def wA {i:Int}:A.gW (.int i)=false:=rfl
@[simp]def z8 {i:Bool}:A.gW (.bl i)=false:=rfl
@[simp]def u_ {i:Str}:A.gW (.str i)=false:=rfl
@[simp]def vO {i:Nat}:A.gW (.ref i)=false:=rfl
@[simp]def wL:A.gW .f6=false:=rfl
@[simp]def xF {i j:Int}:A.gW (.rng i j)=false:=rfl
@[simp]def u9 {c:Str}:A.gW (.exn c)=false:=rfl
@[simp]def DZ:eC a τ S=.ok a S:=rfl
abbrev H_ (f:A->A->fj->R A)(cb:Ex)(τ:ad)(a:A)(S:fj):R A:=(cb τ S).bind<|f a
@[simp]def vq {f:A->A->fj->R A}{cb:Ex}:H_ f cb τ a S=(cb τ S).bind (f a):=rfl
@[simp]def wk {f:A->A->fj->R A}{ca cb:Ex}:eZ f ca cb τ S=(ca τ S).bind (H_ f cb τ):=rfl
@[simp]def zO {f:A->fj->R A}{ca:Ex}:rC f ca τ S=(ca τ S).bind f:=rfl
@[simp]def wK {c:Ex}:qT c τ S=(c τ S).bind λa S1=>opt (a.Ik S1) λb=>.ok b S1:=rfl
abbrev aB (a:A)(S:fj):R Bool:=match a with
 | .bl b=>.ok b S
 | _=>.no
@[simp]def Ea {b:Bool}:aB (.bl b) S=.ok b S:=rfl
@[simp]def zI {c:Ex}:j5 c τ S=(c τ S).bind aB:=rfl
@[simp]def w6 {c:Te}:qF c τ S=(c τ S).bind λb S1=>.ok (!b) S1:=rfl
abbrev FQ (d:Te)(τ:ad)(b:Bool)(S:fj):R Bool:=match b with|true=>d τ S|false=>.ok false S
abbrev Jb (d:Te)(τ:ad)(b:Bool)(S:fj):R Bool:=match b with|true=>.ok true S|false=>d τ S
@[simp]def yT {d:Te}:FQ d τ true S=d τ S:=rfl
@[simp]def BP {d:Te}:FQ d τ false S=.ok false S:=rfl
@[simp]def D5 {d:Te}:Jb d τ true S=.ok true S:=rfl
@[simp]def DY {d:Te}:Jb d τ false S=d τ S:=rfl
@[simp]def xK {c d:Te}:DB c d τ S=(c τ S).bind (FQ d τ):=rfl
@[simp]def Bd {c d:Te}:As c d τ S=(c τ S).bind (Jb d τ):=rfl
@[simp]def vA:gZ τ S=.ok true S:=rfl
abbrev z_ (d:Ex)(τ:ad)(a:A)(S:fj):R A:=match a with | .bl true=>d τ S | .bl false=>.ok (.bl false) S|_=>.no
abbrev Gf (d:Ex)(τ:ad)(a:A)(S:fj):R A:=match a with | .bl true=>.ok (.bl true) S | .bl false=>d τ S|_=>.no
@[simp]def wI {d:Ex}:z_ d τ (.bl true) S=d τ S:=rfl
@[simp]def uY {d:Ex}:z_ d τ (.bl false) S=.ok (.bl false) S:=rfl
@[simp]def Bf {d:Ex}:Gf d τ (.bl true) S=.ok (.bl true) S:=rfl
@[simp]def zp {d:Ex}:Gf d τ (.bl false) S=d τ S:=rfl
@[simp]def xM {c d:Ex}:nZ c d τ S=(c τ S).bind (z_ d τ):=by
 unfold nZ
 cases c τ S with
 | ok a S1=>cases a<;>first|rfl|(rename_i b;cases b<;>rfl)
 | _=>rfl
@[simp]def Bl {c d:Ex}:Kh c d τ S=(c τ S).bind (Gf d τ):=by
 unfold Kh
 cases c τ S with
 | ok a S1=>cases a<;>first|rfl|(rename_i b;cases b<;>rfl)
 | _=>rfl
abbrev Eo (a:A)(S:fj):R A:=match a with | .bl b=>.ok (.bl !b) S|_=>.no
@[simp]def tV {b:Bool}:Eo (.bl b) S=.ok (.bl !b) S:=rfl
@[simp]def vE {c:Ex}:B_ c τ S=(c τ S).bind Eo:=rfl
abbrev EE (c d:Ex)(τ:ad)(b:Bool)(S:fj):R A:=match b with|true=>c τ S|false=>d τ S
@[simp]def Bk {c d:Ex}:EE c d τ true S=c τ S:=rfl
@[simp]def yF {c d:Ex}:EE c d τ false S=d τ S:=rfl
@[simp]def zx {t:Te}{c d:Ex}:K1 t c d τ S=(t τ S).bind (EE c d τ):=rfl
@[simp]def vh:ff τ S=.ok [] S:=rfl
abbrev uB (a:A)(as:ad)(S:fj):R (ad):=.ok (a::as) S
abbrev Eh (d:kF)(τ:ad)(a:A)(S:fj):R (ad):=(d τ S).bind<|uB a
@[simp]def qx {as:ad}:uB a as S=.ok (a::as) S:=rfl
@[simp]def tH {d:kF}:Eh d τ a S=(d τ S).bind (uB a):=rfl
@[simp]def se {c:Ex}{d:kF}:eU c d τ S=(c τ S).bind (Eh d τ):=rfl
@[simp]def xP {d:kF}:qN d τ S=(d τ S).bind λas S1=>gd (as.length<=sizeLine) (.ok (.tup as) S1):=rfl
@[simp]def xj {d:kF}:fU d τ S=(d τ S).bind newL:=rfl
theorem gc{as:ad}(h:as.length<=16777216):newL as S=.ok (.ref S.length) (S++[.lst as]):=ie<|by rw[bV];exact h
@[simp]def sU {f:ad->fj->R A}{d:kF}:fG f d τ S=(d τ S).bind f:=rfl
abbrev Jx (r:R A):R A:=match r with
 | .ok a S=>.ok a S
 | _=>.no
@[simp]def zy:Jx (.ok a S)=.ok a S:=rfl
abbrev Ky (f:ad->fj->R A)(as:ad)(S:fj):R A:=Jx<|f as S
@[simp]def A5 {f:ad->fj->R A}{as:ad}:Ky f as S=Jx (f as S):=rfl
@[simp]def AN {f:ad->fj->R A}{d:kF}:eFn f d τ S=(d τ S).bind (Ky f):=rfl
@[simp]def D_ {g:A->fj->R A}:f1 g [a] S=g a S:=rfl
@[simp]def DT {g:A->A->fj->R A}:f2 g [a,b] S=g a b S:=rfl
abbrev FY (h:Pt)(τ:ad)(a:A)(l:bi)(S:fj):R A:=(h τ S).bind<|HF a l
abbrev J5 (l h:Pt)(τ:ad)(a:A)(S:fj):R A:=(l τ S).bind<|FY h τ a
@[simp]def vG {h:Pt}{l:bi}:FY h τ a l S=(h τ S).bind (HF a l):=rfl
@[simp]def Aa {l h:Pt}:J5 l h τ a S=(l τ S).bind (FY h τ a):=rfl
@[simp]def zl {c:Ex}{l h:Pt}:IJ c l h τ S=(c τ S).bind (J5 l h τ):=rfl
@[simp]def tU:uR τ S=.ok none S:=rfl
abbrev Ka (a:A)(S:fj):R (bi):=match a with
 | .int i=>.ok (some i) S
 | _=>.no
@[simp]def wC {i:Int}:Ka (.int i) S=.ok (some i) S:=rfl
@[simp]def rV {c:Ex}:xw c τ S=(c τ S).bind Ka:=rfl
abbrev Gw (f:A->ad->fj->R A)(d:kF)(τ:ad)(o:A)(S:fj)(_:ad):R A:=(d τ S).bind<|f o
abbrev Kg (f:A->ad->fj->R A)(d:kF)(τ:ad)(o:A)(S:fj):R A:=opt (o.lst? S)<|Gw f d τ o S
@[simp]def wQ {f:A->ad->fj->R A}{d:kF}{xs:ad}:Gw f d τ a S xs=(d τ S).bind (f a):=rfl
@[simp]def zM {f:A->ad->fj->R A}{d:kF}:Kg f d τ a S=opt (a.lst? S) (Gw f d τ a S):=rfl
@[simp]def AH {f:A->ad->fj->R A}{c:Ex}{d:kF}:EA f c d τ S=(c τ S).bind (Kg f d τ):=rfl
@[simp]def vp {f:A->ad->fj->R A}{c:Ex}:JB f c τ S=(c τ S).bind λo S1=>opt (o.lst? S1) λ_=>f o [] S1:=rfl
@[simp]def lst?_ref {n:Nat}:A.lst? S (.ref n)=eX S n:=rfl
abbrev RS.seq (r:RS)(d:Sm):RS:=match r with
 | .nx τ S=>d τ S
 | r=>r
@[simp]def RS.zA {d:Sm}:RS.seq (.nx τ S) d=d τ S:=rfl
@[simp]def RS.zD {d:Sm}:RS.seq (.rt a S) d=.rt a S:=rfl
@[simp]def RS.AK {d:Sm}{c:Str}:RS.seq (.ex c S) d=.ex c S:=rfl
@[simp]def RS.yC {d:Sm}:RS.seq (.bk τ S) d=.bk τ S:=rfl
@[simp]def RS.zk {d:Sm}:RS.seq (.ct τ S) d=.ct τ S:=rfl
@[simp]def vn {c d:Sm}:fZ c d τ S=RS.seq (c τ S) d:=by unfold fZ RS.seq;cases c τ S<;>rfl
@[simp]def wG:jv τ S=.nx τ S:=rfl
@[simp]def p7:Fl τ S=.bk τ S:=rfl
@[simp]def sL:Ii τ S=.ct τ S:=rfl
@[simp]def rG {e:Ex}:nP e τ S=RS.of (e τ S) λ_ S1=>.nx τ S1:=rfl
@[simp]def vd {e:Ex}:g8 e τ S=RS.of (e τ S) .rt:=rfl
@[simp]def sI:HJ τ S=.rt .f6 S:=rfl
abbrev GO (c d:Sm)(τ:ad)(b:Bool)(S:fj):RS:=match b with|true=>c τ S|false=>d τ S
@[simp]def Ed {c d:Sm}:GO c d τ true S=c τ S:=rfl
@[simp]def DO {c d:Sm}:GO c d τ false S=d τ S:=rfl
@[simp]def AZ {t:Te}{c d:Sm}:lu t c d τ S=RS.of (t τ S) (GO c d τ):=rfl
abbrev GH (g:Tg)(τ:ad)(a:A)(S:fj):RS:=RS.of (g a τ S) .nx
@[simp]def ve {g:Tg}:GH g τ a S=RS.of (g a τ S) .nx:=rfl
@[simp]def wV {e:Ex}{g:Tg}:fV e g τ S=RS.of (e τ S) (GH g τ):=rfl
@[simp]def IQ {i:Nat}:gf i a τ S=.ok (τ.set i a) S:=rfl
abbrev ER (a o:A)(τ:ad)(i:A)(S:fj):R (ad):=(sJ o i a S).bind λ_ c=>.ok τ c
abbrev KN (ci:Ex)(τ:ad)(a o:A)(S:fj):R (ad):=(ci τ S).bind<|ER a o τ
@[simp]def vJ {o i:A}:ER a o τ i S=(sJ o i a S).bind λ_ S3=>.ok τ S3:=rfl
@[simp]def Ad {ci:Ex}{o:A}:KN ci τ a o S=(ci τ S).bind (ER a o τ):=rfl
@[simp]def yH {co ci:Ex}:wM co ci a τ S=(co τ S).bind (KN ci τ a):=rfl
@[simp]def zR {n:Nat}{gs:BX}{xs:ad}:Gu n gs (.tup xs) τ S=gd (xs.length=n) (gs xs τ S):=rfl
@[simp]def yO:Gj [] τ S=.ok τ S:=rfl
@[simp]def Aw {g:Tg}{gs:BX}{as:ad}:yz g gs (a::as) τ S=(g a τ S).bind (gs as):=rfl
abbrev KC (i j:Nat)(τ:ad)(as:ad)(S:fj):RS:=match as with
 | [a,b]=>.nx ((τ.set i a).set j b) S
 | _=>.no
@[simp]def ze {i j:Nat}:KC i j τ [a,b] S=.nx ((τ.set i a).set j b) S:=rfl
@[simp]def xA {i j:Nat}{c:kF}:JM i j c τ S=RS.of (c τ S) (KC i j τ):=rfl
abbrev zm (i:Nat)(τ:ad)(c:A)(S:fj):RS:=.nx (τ.set i c) S
abbrev GY (i:Nat)(f:A->A->fj->R A)(τ:ad)(b:A)(S:fj):RS:=.of (f (τ.getD i .unb) b S)<|zm i τ
@[simp]def sD {i:Nat}:zm i τ a S=.nx (τ.set i a) S:=rfl
@[simp]def wD {i:Nat}{f:A->A->fj->R A}:GY i f τ a S=.of (f (τ.getD i .unb) a S) (zm i τ):=rfl
@[simp]def wY {i:Nat}{f:A->A->fj->R A}{e:Ex}:G3 i f e τ S=bif (τ.getD i .unb).gW then .no else .of (e τ S) (GY i f τ):=by
 unfold G3;cases(τ.getD i .unb).gW<;>rfl
abbrev JX (o i:A)(τ:ad)(z:A)(S:fj):RS:=.of (sJ o i z S) λ_ c=>.nx τ c
abbrev JJ (f:A->A->fj->R A)(o i x:A)(τ:ad)(y:A)(S:fj):RS:=.of (f x y S)<|JX o i τ
abbrev JE (ce:Ex)(f:A->A->fj->R A)(o i:A)(τ:ad)(x:A)(S:fj):RS:=.of (ce τ S)<|JJ f o i x τ
abbrev JI (ce:Ex)(f:A->A->fj->R A)(o:A)(τ:ad)(i:A)(S:fj):RS:=.of (Ca o i S)<|JE ce f o i τ
abbrev Kx (ci ce:Ex)(f:A->A->fj->R A)(τ:ad)(o:A)(S:fj):RS:=.of (ci τ S)<|JI ce f o τ
@[simp]def A6 {o i:A}:JX o i τ a S=.of (sJ o i a S) λ_ S6=>.nx τ S6:=rfl
@[simp]def Az {f:A->A->fj->R A}{o i x:A}:JJ f o i x τ a S=.of (f x a S) (JX o i τ):=rfl
@[simp]def zw {ce:Ex}{f:A->A->fj->R A}{o i:A}:JE ce f o i τ a S=.of (ce τ S) (JJ f o i a τ):=rfl
@[simp]def Ah {ce:Ex}{f:A->A->fj->R A}{o:A}:JI ce f o τ a S=.of (Ca o a S) (JE ce f o a τ):=rfl
@[simp]def Bt {ci ce:Ex}{f:A->A->fj->R A}:Kx ci ce f τ a S=.of (ci τ S) (JI ce f a τ):=rfl
@[simp]def rT {co ci ce:Ex}{f:A->A->fj->R A}:HU co ci ce f τ S=RS.of (co τ S) (Kx ci ce f τ):=rfl
abbrev RS.end (r:RS):R A:=match r with
 | .rt a d=>.ok a d
 | .nx _ d=>.ok .f6 d
 | .ex c d=>.ex c d
 | _=>.no
@[simp]def RS.Bw:RS.end (.rt a S)=.ok a S:=rfl
@[simp]def RS.Bj:RS.end (.nx τ S)=.ok .f6 S:=rfl
@[simp]def RS.A9 {c:Str}:RS.end (.ex c S)=.ex c S:=rfl
theorem oz {N:am}{m:Sm}{as:ad}:jW N m as S=RS.end (m (as++List.replicate (N.length-as.length) .unb) S):=by
 unfold jW RS.end;cases m (as++List.replicate (N.length-as.length) .unb) S<;>rfl
@[simp]def Af {i j:Int}:fW (.int i) (.int j) S=.ok (.int<|i+j) S:=rfl
@[simp]def zE {i j:Int}:aSub (.int i) (.int j) S=.ok (.int<|i-j) S:=rfl
@[simp]def zF {i j:Int}:Ja (.int i) (.int j) S=.ok (.int<|i+j) S:=rfl
theorem Ao{i j:Int}(h:-18446744073709551616<i)(h':i<18446744073709551616):uI (.int i) (.int j) S=.ok (.int<|i * j) S:=ie<|by unfold xR;simp;left;exact⟨by omega,by omega⟩
def Bp{i j:Int}(h:0<j)(h':j<1073741824):u7 (.int i) (.int j) S=.ok (.int<|i / j) S:=ie ⟨h,()⟩
def tF{i j:Int}(h:0<j):qH (.int i) (.int j) S=.ok (.int<|i % j) S:=ie h
@[simp]def Et {i j:Int}:DH (.int i) (.int j) S=.ok (.bl<|decide<|i<j) S:=rfl
@[simp]def D4 {i j:Int}:uG (.int i) (.int j) S=.ok (.bl<|decide<|i<=j) S:=rfl
@[simp]def DU {i j:Int}:Cj (.int i) (.int j) S=.ok (.bl<|decide<|j<i) S:=rfl
@[simp]def DL {i j:Int}:IC (.int i) (.int j) S=.ok (.bl<|decide<|j<=i) S:=rfl
@[simp]def Ek {i j:Bool}:t_ false (.bl i) (.bl j) S=.ok (.bl<|i == j) S:=rfl
@[simp]def Ac {i j:Bool}:t_ true (.bl i) (.bl j) S=.ok (.bl<|i != j) S:=rfl
@[simp]def zh {i:Int}:l8 (.int i) S=.ok (.int<|-i) S:=rfl
@[simp]def An {xs:ad}:gH (.tup xs) S=.ok (.int xs.length) S:=rfl
@[simp]def zG {xs:ad}:gH (.frz xs) S=.ok (.int xs.length) S:=rfl
@[simp]def AY {n:Nat}:gH (.ref n) S=opt (eX S n) λxs=>.ok (.int xs.length) S:=rfl
@[simp]def BG {i:Int}:I_ (.int i) S=.ok (.int<|if i<0 then -i else i) S:=rfl
@[simp]def xm {i j:Int}:AJ (.int i) (.int j) S=.ok (.int<|if j>i then j else i) S:=rfl
@[simp]def we {i j:Int}:zV (.int i) (.int j) S=.ok (.int<|if j<i then j else i) S:=rfl
@[simp]def wB {i:Int}:xQ (.int i) S=.ok (.int i) S:=rfl
@[simp]def vV {i:Bool}:xQ (.bl i) S=.ok (.int<|if i then 1 else 0) S:=rfl
@[simp]def qc {i j:Int}:ow (.int i) (.int j) S=.ok (.rng i j) S:=rfl
@[simp]def Em {xs:ad}{i:Int}:gx (.tup xs) (.int i) S=opt (iN xs i) λx=>.ok x S:=rfl
@[simp]def Eg {xs:ad}{i:Int}:gx (.frz xs) (.int i) S=opt (iN xs i) λx=>.ok x S:=rfl
@[simp]def Eu {n:Nat}{i:Int}:gx (.ref n) (.int i) S=opt (eX S n) λxs=>opt (iN xs i) λx=>.ok x S:=rfl
@[simp]def AX {n:Nat}{k:Int}:sJ (.ref n) (.int k) a S=opt (eX S n) λxs=>opt (pC xs.length k) λj=>.ok Unit.unit (S.set n<|.lst<|xs.set j a):=rfl
@[simp]def AR {n:Nat}{i:Int}:Ca (.ref n) (.int i) S=opt (eX S n) λxs=>gd (0<=i) (opt (xs[i.toNat]?) λx=>.ok x S):=rfl
theorem xZ{i j:Int}(h:tM i j):iQ (.rng i j) S=.ok (.ref S.length) (S++[.lst<|(iS i j).map .int]):=ie h
@[simp]def vW {xs:ad}:iQ (.tup xs) S=.ok (.ref S.length) (S++[.lst xs]):=rfl
@[simp]def vF {xs:ad}:iQ (.frz xs) S=.ok (.ref S.length) (S++[.lst xs]):=rfl
@[simp]def xS {n:Nat}:iQ (.ref n) S=opt (eX S n) λxs=>.ok (.ref S.length) (S++[.lst xs]):=rfl
@[simp]def sF {xs:ad}:lO (.tup xs) S=.ok (.tup xs) S:=rfl
@[simp]def tN {n:Nat}:lO (.ref n) S=opt (eX S n) λxs=>.ok (.tup xs) S:=rfl
@[simp]def Ak {xs:ad}:yo (.tup xs) S=.ok (.tup xs.reverse) S:=rfl
@[simp]def z7 {n:Nat}:yo (.ref n) S=opt (eX S n) λxs=>.ok (.ref S.length) (S++[.lst xs.reverse]):=rfl
@[simp]def El {n:Nat}{l u:bi}:HF (.ref n) l u S=opt (eX S n) λxs=>.ok (.ref S.length) (S++[.lst<|qI xs l u]):=rfl
@[simp]def o9 {n:Nat}:lB (.ref n) [a] S=opt (eX S n) λxs=>gd (xs.length<sizeLine) (.ok .f6<|S.set n<|.lst<|xs++[a]):=rfl
@[simp]def yS {b:Bool}:A.Ik (.bl b) S=some b:=rfl
@[simp]def wg {i:Int}:A.Ik (.int i) S=some (i != 0):=rfl
theorem Ft{o:O}:(S++[o])[S.length]?=some o:=by simp
@[simp]def fu {xs:ad}:eX (S++[.lst xs]) S.length=some xs:=mC Ft
theorem gh{o:O}{n:Nat}(h:eX S n=some xs):eX (S++[o]) n=some xs:=by
 have h':=fF h;exact mC<|by rw[aX (aM.mp h').1];exact h'
def kC{n:Nat}(h:eX S n=some xs):n<S.length:=(aM.mp<|fF h).1
def jA{n:Nat}(h:n<S.length):eX (S.set n<|.lst ys) n=some ys:=mC<|bP h
def gv{n:Nat}(h:n≠m):eX (S.set n<|.lst ys) m=eX S m:=by unfold eX;rw[bU h]
def i_{xs:ad}{i:Int}{k:Nat}{x:A}(h:i=k)(hx:xs[k]?=some x):iN xs i=some x:=by rw[h];exact DA hx
def kT{n:Nat}{i:Int}{k:Nat}(h:i=k)(hk:k<n):pC n i=some k:=by
 subst h;unfold pC;rw[aZ (),aZ ()];simp
end
structure Kp (b:Nat->Prop)(S S':fj):Prop where
 len:S.length<=S'.length
 obj:∀(n:Nat) (o:O),¬b n->S[n]?=some o->S'[n]?=some o
meta abbrev fY:=Kp λ_=>False
def Kp.lst{b:Nat->Prop}(h:Kp b S S')(n:Nat)(xs:ad)(hb:¬b n)(e:eX S n=some xs):eX S' n=some xs:=mC<|h.obj n _ hb<|fF e
def Kp.refl{b:Nat->Prop}:Kp b S S:=⟨aL _,λ_ _ _ h=>h⟩
def Kp.trans{b:Nat->Prop}(h:Kp b S S1)(h':Kp b S1 S2):Kp b S S2:=⟨bF h.len h'.len,λn xs c e=>h'.obj n xs c<|h.obj n xs c e⟩
def qG{S:fj}{n:Nat}(e:S[n]?=some o):n<S.length:=(aM.mp e).1
def Kp.lay{b:Nat->Prop}{o:O}(h:Kp b S S1):Kp b S (S1++[o]):=⟨bF h.len<|by simp,λn xs c e=>by
 have:=h.obj n xs c e;rw[aX<|qG this];exact this⟩
def Kp.Jd{b:Nat->Prop}{S S1:fj}(h:Kp b S S1)(hm:b m\/S.length<=m):Kp b S (S1.set m o):=⟨by rw[bA];exact h.len,λn xs c e=>by
 have:m≠n:=λz=>by
  subst z
  rcases hm with z|z
  ·exact c z
  ·exact absurd (qG e) ()
 rw[bU this];exact h.obj n xs c e⟩
def Kp.set{b:Nat->Prop}{S S1:fj}(h:Kp b S S1)(hm:b m\/S.length<=m):Kp b S (S1.set m<|.lst ys):=h.Jd hm
def Kp.mono{b c:Nat->Prop}{S:fj}(h:Kp b S S1)(hb:∀n,n<S.length->b n->c n):Kp c S S1:=⟨h.len,λn xs hc e=>h.obj n xs (λz=>hc<|hb n (qG e) z) e⟩
def Kp.of0{b:Nat->Prop}(h:fY S S1):Kp b S S1:=h.mono λ_ _ z=>z.elim
def Kp.old{b c:Nat->Prop}{S:fj}(h:Kp b S S1)(h':Kp c S1 S2)(hc:∀n,n<S.length->¬b n->¬c n):Kp b S S2:=⟨bF h.len h'.len,λn xs d e=>h'.obj n xs (hc n (qG e) d)<|h.obj n xs d e⟩
theorem uH{s:Src}{g:Tg}{c:Sm}(Inv:Nat->ad->fj->Prop)(Post:RS->Prop)
  (step:∀i τ S,i<s.k->Inv i τ S->∃x τ1 S1,s.get i S=some x/\g x τ S=.ok τ1 S1/\((∃τ' S',c τ1 S1=.nx τ' S'/\Inv (i+1) τ' S')\/(∃a S',c τ1 S1=.rt a S'/\Post (.rt a S'))))
  (fin:∀τ S,Inv s.k τ S->s.fin S=true/\Post (.nx τ S)):∀k i τ S,k+i=s.k->Inv i τ S->Post (jy s g c k i τ S)
 | 0,i,τ,S,hk,hi=>by
  have:i=s.k:=()
  subst this;obtain⟨hf,q⟩:=fin τ S hi;unfold jy;rw[aZ hf];exact q
 | k+1,i,τ,S,hk,hi=>by
  obtain⟨x,τ1,S1,hx,hg,h⟩:=step i τ S () hi;unfold jy;rw[hx];show Post (RS.of (g x τ S) λτ1 S1=>match c τ1 S1 with
   | .nx τ' S'=>jy s g c k (i+1) τ' S'
   | .ct τ' S'=>jy s g c k (i+1) τ' S'
   | .bk τ' S'=>.nx τ' S'
   | r=>r)
  rw[hg];show Post (match c τ1 S1 with
   | .nx τ' S'=>jy s g c k (i+1) τ' S'
   | .ct τ' S'=>jy s g c k (i+1) τ' S'
   | .bk τ' S'=>.nx τ' S'
   | r=>r)
  rcases h with⟨τ',S',e,d⟩|⟨a,S',e,q⟩
  ·rw[e];exact uH Inv Post step fin k (i+1) τ' S' () d
  ·rw[e];exact q
def mG{lo hi:Int}{c:Sm}{src:Ic}{τ:ad}(hs:src τ S=.ok (iT lo hi) S1)(Inv:Nat->ad->fj->Prop)(Post:RS->Prop)(h0:Inv 0 τ S1)
  (step:∀(i:Nat) τ S,(i:Int)<hi-lo->Inv i τ S->(∃τ' S',c (τ.set j<|.int<|lo+i) S=.nx τ' S'/\Inv (i+1) τ' S')\/(∃a S',c (τ.set j<|.int<|lo+i) S=.rt a S'/\Post (.rt a S')))
  (fin:∀τ S,Inv (hi-lo).toNat τ S->Post (.nx τ S)):Post (n5 src (gf j) c τ S):=by
 unfold n5;rw[hs];refine uH (s:=iT lo hi) Inv Post (λi τ S d h=>?_) (λτ S h=>⟨rfl,fin τ S h⟩) _ 0 τ S1 rfl h0;have d:i<(hi-lo).toNat:=d;exact⟨.int<|lo+i,_,S,aZ d,rfl,step i τ S (by omega) h⟩
def xC{n:Nat}{xs:ad}{g:Tg}{c:Sm}{src:Ic}(hs:src τ S=.ok (jo n xs.length) S1)(Inv:Nat->ad->fj->Prop)(Post:RS->Prop)(h0:Inv 0 τ S1)(hl:∀i τ S,Inv i τ S->eX S n=some xs)
  (step:∀(i:Nat) x τ S,xs[i]?=some x->Inv i τ S->∃τ1 S1,g x τ S=.ok τ1 S1/\((∃τ' S',c τ1 S1=.nx τ' S'/\Inv (i+1) τ' S')\/(∃a S',c τ1 S1=.rt a S'/\Post (.rt a S'))))
  (fin:∀τ S,Inv xs.length τ S->Post (.nx τ S)):Post (n5 src g c τ S):=by
 unfold n5;rw[hs];refine uH (s:=jo n xs.length) Inv Post (λi τ S d h=>?_) (λτ S h=>⟨?_,fin τ S h⟩) _ 0 τ S1 rfl h0
 ·have d:i<xs.length:=d;obtain⟨τ1,S1,e,q⟩:=step i xs[i] τ S (aF d) h;exact⟨xs[i],τ1,S1,by show(eX S n).bind _=_;rw[hl i τ S h];exact aF d,e,q⟩
 ·show(match eX S n with
   | some ys=>decide (ys.length<=xs.length)
   | none=>false)=true
  rw[hl _ τ S h];exact aV<|aL _
@[simp]def iA {c:Ex}{τ:ad}{S S1:fj}{j:Int}(h:c τ S=.ok (.int j) S1)(hb:bnd j):gX c τ S=.ok (iT 0 j) S1:=by
 unfold gX;rw[h];exact ie hb
def rF{c d:Ex}{i j:Int}(h:c τ S=.ok (.int i) S1)(h':d τ S1=.ok (.int j) S2)(hb:bnd i)(hb':bnd j):nV c d τ S=.ok (iT i j) S2:=by
 unfold nV;rw[h];show(d τ S1).bind _=_;rw[h'];exact ie ⟨hb,hb'⟩
def jE{c:Ex}{n:Nat}{xs:ad}(h:c τ S=.ok (.ref n) S1)(hl:eX S1 n=some xs):jI c τ S=.ok (jo n xs.length) S1:=by
 unfold jI;rw[h];show opt (eX S1 n) _=_;rw[hl];rfl
theorem ly{s:Src}{g:Tg}{t:Te}{e:Ex}{P:fj->Prop}{T:ad->Prop}(it:Nat->A)(p:Nat->Bool)(f:Nat->A)
  (hget:∀i S,i<s.k->P S->s.get i S=some (it i)) (hfin:∀S,P S->s.fin S=true)
  (step:∀i τ S,i<s.k->T τ->P S->∃τ1 S1 S2,g (it i) τ S=.ok τ1 S1/\t τ1 S1=.ok (p i) S2/\T τ1/\(p i=false->P S2)/\(p i=true->∃S3,e τ1 S2=.ok (f i) S3/\P S3)) :
  ∀k i τ S,k+i=s.k->T τ->P S->∃S',gB s g t e k i τ S=.ok (((List.range' i k).filter p).map f) S'/\P S'
 | 0,i,τ,S,hk,hT,hP=>⟨S,by unfold gB;rw[aZ<|hfin S hP];rfl,hP⟩
 | k+1,i,τ,S,hk,hT,hP=>by
  obtain⟨τ1,S1,S2,hg,D,c,C,m⟩:=step i τ S (by omega) hT hP;unfold gB;rw[hget i S (by omega) hP,gq,hg,R.gj,D,R.gj,List.range'_succ,dS]
  cases q:p i with
  | false=>
   obtain⟨S',h1,j⟩:=ly it p f hget hfin step k (i+1) τ1 S2 (by omega) c<|C q;exact⟨S',by simpa using h1,j⟩
  | true=>
   obtain⟨S3,B,d⟩:=m q;obtain⟨S',h1,j⟩:=ly it p f hget hfin step k (i+1) τ1 S3 (by omega) c d;refine⟨S',?_,j⟩
   skip
   rw[B,R.gj,h1];rfl
def qq{s:Src}{src:Ic}{t:Te}{e:Ex}{S1:fj}(hs:src τ S=.ok s S1)(it:Nat->A)(p:Nat->Bool)(f:Nat->A)(hget:∀i,i<s.k->s.get i S1=some (it i))(hfin:s.fin S1=true)
  (ht:∀i,i<s.k->t (it i::jw cap τ) S1=.ok (p i) S1) (he:∀i,i<s.k->p i=true->e (it i::jw cap τ) S1=.ok (f i) S1) (hl:s.k<=16777216) :
  gp (none::cap) src (gf 0) t e τ S=.ok (.ref S1.length) (S1++[.lst<|((List.range s.k).filter p).map f]):=by
 unfold gp;rw[hs,R.gP];obtain⟨q,h1,j⟩:=ly (s:=s) (g:=gf 0) (t:=t) (e:=e) (P:=λS=>S=S1) (T:=λc=>∃y,c=y::jw cap τ) it p f (λi S hi h=>by subst h;exact hget i hi) (λS h=>by subst h;exact hfin)
  (λi c S hi ⟨y,d⟩ h=>by
   subst h d;exact⟨it i::jw cap τ,S,S,rfl,ht i hi,⟨_,rfl⟩,λ_=>rfl,λm=>⟨S,he i hi m,rfl⟩⟩) s.k 0 (jw (none::cap) τ) S1 rfl ⟨_,rfl⟩ rfl
 subst j;rw[h1,R.gj,cX];refine gc ?_;rw[aG];refine bF (List.length_filter_le _ _) ?_;rw[List.length_range'];exact hl
def nN{α β:Type}(xs:List α)(p:α->Bool)(f:α->β):∀(d:α) ,(((List.range xs.length).filter λi=>p<|xs.getD i d).map λi=>f<|xs.getD i d)=(xs.filter p).map f:=by
 intro d
 induction xs with
 | nil=>rfl
 | cons x xs g=>
  rw[a_,dN,dS,dS];have e:((List.filter (λi=>p<|(x::xs).getD i d)<|List.map Nat.succ<|List.range xs.length).map λi=>f<|(x::xs).getD i d)=(xs.filter p).map f:=by
   rw[dw,bY];rw[<- g];rfl
  show List.map _ (if p x=true then _ else _)=List.map f (if p x=true then _ else _);by_cases c:p x=true
  ·rw[aZ c,aZ c,bJ,bJ,e];rfl
  ·rw[bu c,bu c,e]
def mD{lo hi:Int}{src:Ic}{t:Te}{e:Ex}{S1:fj}(hs:src τ S=.ok (iT lo hi) S1)(p:Int->Bool)(f:Int->A)
  (ht:∀k,lo<=k->k<hi->t (.int k::jw cap τ) S1=.ok (p k) S1) (he:∀k,lo<=k->k<hi->p k=true->e (.int k::jw cap τ) S1=.ok (f k) S1) (hl:(hi-lo).toNat<=16777216) :
  gp (none::cap) src (gf 0) t e τ S=.ok (.ref S1.length) (S1++[.lst<|((iS lo hi).filter p).map f]):=by
 rw[qq hs (λi=>.int<|lo+i) (λi=>p<|lo+i) (λi=>f<|lo+i) (λi c=>aZ c) rfl (λi c=>ht _ () (by have:i<(hi-lo).toNat:=c;lia)) (λi c=>he _ () (by have:i<(hi-lo).toNat:=c;lia)) hl];unfold iS;rw[dw,bY];rfl
@[simp]def zc {cap:List<|bn}{τ:ad}:jw (none::cap) τ=.unb::jw cap τ:=rfl
@[simp]def BS {cap:List<|bn}{τ:ad}{j:Nat}:jw (some j::cap) τ=τ.getD j .unb::jw cap τ:=rfl
@[simp]def tX {τ:ad}:jw [] τ=[]:=rfl
theorem sW{x:A}:iN (x::xs) 0=some x:=i_ (k:=0) rfl rfl
def Ep{x:A}:iN (x::y::xs) 1=some y:=i_ (k:=1) rfl rfl
def wu{ns:ae}{i:Int}{k:Nat}{x:Int}(h:i=k)(hx:ns[k]?=some x):iN (ns.map A.int) i=some (.int x):=i_ h<|by rw[aR,hx];rfl
def iG{j:Int}(h:-4611686018427387904<=j)(h':j<4611686018427387904):bnd j:=⟨(),()⟩
theorem ints_map:∀(ns:ae),A.ints (ns.map .int)=some ns
 | []=>rfl
 | n::ns=>by show(A.ints<|ns.map .int).map (n::·)=_;rw[ints_map ns];rfl
def xU(xs:ad)(j:Nat)(h:j<xs.length):qI xs (some<|(j:Int)+1) none=xs.drop (j+1):=by
 unfold qI;rw[show((j:Int)+1)=((j+1:Nat):Int)by lia,HT.CO,HT.yR,Nat.min_eq_left ()];exact dO<|by rw[cP];exact aL _
theorem nF{n:Nat}:∀(xs ys:ae),lY (nQ S<|n+1) (xs.map .int) (ys.map .int)=some (decide<|xs=ys)
 | [],[]=>rfl
 | [],_::_=>rfl
 | _::_,[]=>rfl
 | x::xs,y::ys=>by
  skip
  skip
  show Option.map _ (lY (nQ S<|n+1) (xs.map .int)<|ys.map .int)=_;rw[nF xs ys]
  skip
  by_cases h1:x=y<;>by_cases c:xs=ys<;>simp[h1,c]
@[simp]def DW {S:fj}{x y:Bool}:kG false (.bl x) (.bl y) S=.ok (.bl<|x == y) S:=rfl
@[simp]def D8 {S:fj}{x y:Bool}:kG true (.bl x) (.bl y) S=.ok (.bl<|!(x == y)) S:=rfl
@[simp]def Ez {S:fj}{x y:Int}:kG false (.int x) (.int y) S=.ok (.bl<|x == y) S:=rfl
@[simp]def Ei {S:fj}{x y:Int}:kG true (.int x) (.int y) S=.ok (.bl<|!(x == y)) S:=rfl
@[simp]def wm {S:fj}:t_ false .f6 .f6 S=.ok (.bl true) S:=rfl
@[simp]def vH {S:fj}{xs:ad}:t_ false (.tup xs) .f6 S=.ok (.bl false) S:=rfl
@[simp]def vg {S:fj}{n:Nat}:t_ false (.ref n) .f6 S=.ok (.bl false) S:=rfl
@[simp]def sM {S:fj}:t_ true .f6 .f6 S=.ok (.bl false) S:=rfl
@[simp]def rW {S:fj}{xs:ad}:t_ true (.tup xs) .f6 S=.ok (.bl true) S:=rfl
@[simp]def tB {S:fj}{n:Nat}:t_ true (.ref n) .f6 S=.ok (.bl true) S:=rfl
@[simp]def xH {S:fj}{x:A}{c:String}:oR x (.ty c) S=opt (x.kd S) λk=>opt (ig k c) λb=>.ok (.bl b) S:=rfl
@[simp]def D0 {S:fj}{b:Bool}:A.kd (.bl b) S=some .bl:=rfl
@[simp]def zg {S:fj}{b:Int}:A.kd (.int b) S=some .int:=rfl
@[simp]def zK {S:fj}{b:ad}:A.kd (.tup b) S=some .tup:=rfl
@[simp]def Ar {S:fj}:A.kd .f6 S=some .f6:=rfl
@[simp]def zT {S:fj}{b:Str}:A.kd (.str b) S=some .str:=rfl
@[simp]def Av {S:fj}{n:Nat}:A.kd (.ref n) S=(eX S n).map λ_=>.lst:=rfl
@[simp]def yW {S:fj}:newL [] S=.ok (.ref S.length) (S++[.lst []]):=gc<|by simp
@[simp]def yP {S:fj}{x0:A}:newL [x0] S=.ok (.ref S.length) (S++[.lst [x0]]):=gc<|by simp
@[simp]def yM {S:fj}{x0 x1:A}:newL [x0,x1] S=.ok (.ref S.length) (S++[.lst [x0,x1]]):=gc<|by simp
@[simp]def AB {S:fj}{x0 x1 x2:A}:newL [x0,x1,x2] S=.ok (.ref S.length) (S++[.lst [x0,x1,x2]]):=gc<|by simp
@[simp]def AQ {S:fj}{x0 x1 x2 x3:A}:newL [x0,x1,x2,x3] S=.ok (.ref S.length) (S++[.lst [x0,x1,x2,x3]]):=gc<|by simp
@[simp]def AM {S:fj}{x0 x1 x2 x3 x4:A}:newL [x0,x1,x2,x3,x4] S=.ok (.ref S.length) (S++[.lst [x0,x1,x2,x3,x4]]):=gc<|by simp
@[simp]def zU {S:fj}{x0 x1 x2 x3 x4 x5:A}:newL [x0,x1,x2,x3,x4,x5] S=.ok (.ref S.length) (S++[.lst [x0,x1,x2,x3,x4,x5]]):=gc<|by simp
@[simp]def zY {S:fj}{x0 x1 x2 x3 x4 x5 x6:A}:newL [x0,x1,x2,x3,x4,x5,x6] S=.ok (.ref S.length) (S++[.lst [x0,x1,x2,x3,x4,x5,x6]]):=gc<|by simp
@[simp]def yV {S:fj}{x0 x1 x2 x3 x4 x5 x6 x7:A}:newL [x0,x1,x2,x3,x4,x5,x6,x7] S=.ok (.ref S.length) (S++[.lst [x0,x1,x2,x3,x4,x5,x6,x7]]):=gc<|by simp
@[simp]def yK {S:fj}{x0 x1 x2 x3 x4 x5 x6 x7 x8:A}:newL [x0,x1,x2,x3,x4,x5,x6,x7,x8] S=.ok (.ref S.length) (S++[.lst [x0,x1,x2,x3,x4,x5,x6,x7,x8]]):=gc<|by simp
@[simp]def vj {S:fj}{x0 x1 x2 x3 x4 x5 x6 x7 x8 x9:A}:newL [x0,x1,x2,x3,x4,x5,x6,x7,x8,x9] S=.ok (.ref S.length) (S++[.lst [x0,x1,x2,x3,x4,x5,x6,x7,x8,x9]]):=gc<|by simp
theorem oY{α:Type}{n:Nat}{r:R α}(h:n<=16777216):gd (n<=sizeLine) r=r:=ie<|by rw[bV];exact h
def sQ{α:Type}{n:Nat}{r:R α}(h:n<16777216):gd (n<sizeLine) r=r:=ie<|by rw[bV];exact h
def DK {x:A}{xs:ad}:(x::xs).getD 0 .unb=x:=rfl
def D7 {x:A}{xs:ad}{n:Nat}:(x::xs).getD (n+1) .unb=xs.getD n .unb:=rfl
def Il {x y:A}{xs:ad}:(x::xs).set 0 y=y::xs:=rfl
def sets {x y:A}{xs:ad}{n:Nat}:(x::xs).set (n+1) y=x::xs.set n y:=rfl
def rep0 {x:A}:List.replicate 0 x=[]:=rfl
def reps {x:A}{n:Nat}:List.replicate (n+1) x=x::List.replicate n x:=rfl
def GV {x:A}{xs ys:ad}:(x::xs)++ys=x::(xs++ys):=rfl
def Hv {ys:ad}:[]++ys=ys:=rfl
def kE{S:fj}{n:Nat}{xs ys:ad}(h:eX S n=some xs)(h':eX S m=some ys)(hl:xs.length+ys.length<=16777216):fW (.ref n) (.ref m) S=.ok (.ref S.length) (S++[.lst<|xs++ys]):=by
 show opt (eX S n) _=_;rw[h,gq,h',gq];exact ie<|by rw[bV];exact hl
abbrev uV (x:A)(S:fj):R A:=bif x.gW then .no else .ok x S
def wj{x:A}(h:x.gW=false):uV x S=.ok x S:=by unfold uV;rw[h];rfl
def y_ {xs:ad}{S:fj}:uV (.tup xs) S=.ok (.tup xs) S:=rfl
def Bx {xs:ad}{S:fj}:uV (.frz xs) S=.ok (.frz xs) S:=rfl
def zf {i:Int}{S:fj}:uV (.int i) S=.ok (.int i) S:=rfl
def Ec {b:Bool}{S:fj}:uV (.bl b) S=.ok (.bl b) S:=rfl
def BK {s:Str}{S:fj}:uV (.str s) S=.ok (.str s) S:=rfl
def BI {n:Nat}{S:fj}:uV (.ref n) S=.ok (.ref n) S:=rfl
def yQ  {S:fj}:uV (.f6) S=.ok (.f6) S:=rfl
def A8 {i j:Int}{S:fj}:uV (.rng i j) S=.ok (.rng i j) S:=rfl
def zX {s:Str}{S:fj}:uV (.exn s) S=.ok (.exn s) S:=rfl
def Kv {x0:A}{xs:ad}{S:fj}:eW 0 (x0::xs) S=uV x0 S:=iZ
def Ku {x0 x1:A}{xs:ad}{S:fj}:eW 1 (x0::x1::xs) S=uV x1 S:=iZ
def KA {x0 x1 x2:A}{xs:ad}{S:fj}:eW 2 (x0::x1::x2::xs) S=uV x2 S:=iZ
def J_ {x0 x1 x2 x3:A}{xs:ad}{S:fj}:eW 3 (x0::x1::x2::x3::xs) S=uV x3 S:=iZ
def Kc {x0 x1 x2 x3 x4:A}{xs:ad}{S:fj}:eW 4 (x0::x1::x2::x3::x4::xs) S=uV x4 S:=iZ
def J7 {x0 x1 x2 x3 x4 x5:A}{xs:ad}{S:fj}:eW 5 (x0::x1::x2::x3::x4::x5::xs) S=uV x5 S:=iZ
def Kz {x0 x1 x2 x3 x4 x5 x6:A}{xs:ad}{S:fj}:eW 6 (x0::x1::x2::x3::x4::x5::x6::xs) S=uV x6 S:=iZ
def KH {x0 x1 x2 x3 x4 x5 x6 x7:A}{xs:ad}{S:fj}:eW 7 (x0::x1::x2::x3::x4::x5::x6::x7::xs) S=uV x7 S:=iZ
def Kq {x0 x1 x2 x3 x4 x5 x6 x7 x8:A}{xs:ad}{S:fj}:eW 8 (x0::x1::x2::x3::x4::x5::x6::x7::x8::xs) S=uV x8 S:=iZ
def Kl {a x0:A}{xs:ad}{S:fj}:gf 0 a (x0::xs) S=.ok (a::xs) S:=rfl
def J6 {a x0 x1:A}{xs:ad}{S:fj}:gf 1 a (x0::x1::xs) S=.ok (x0::a::xs) S:=rfl
def KJ {a x0 x1 x2:A}{xs:ad}{S:fj}:gf 2 a (x0::x1::x2::xs) S=.ok (x0::x1::a::xs) S:=rfl
def J9 {a x0 x1 x2 x3:A}{xs:ad}{S:fj}:gf 3 a (x0::x1::x2::x3::xs) S=.ok (x0::x1::x2::a::xs) S:=rfl
def Kw {a x0 x1 x2 x3 x4:A}{xs:ad}{S:fj}:gf 4 a (x0::x1::x2::x3::x4::xs) S=.ok (x0::x1::x2::x3::a::xs) S:=rfl
def KG {a x0 x1 x2 x3 x4 x5:A}{xs:ad}{S:fj}:gf 5 a (x0::x1::x2::x3::x4::x5::xs) S=.ok (x0::x1::x2::x3::x4::a::xs) S:=rfl
def KD {a x0 x1 x2 x3 x4 x5 x6:A}{xs:ad}{S:fj}:gf 6 a (x0::x1::x2::x3::x4::x5::x6::xs) S=.ok (x0::x1::x2::x3::x4::x5::a::xs) S:=rfl
def Kf {a x0 x1 x2 x3 x4 x5 x6 x7:A}{xs:ad}{S:fj}:gf 7 a (x0::x1::x2::x3::x4::x5::x6::x7::xs) S=.ok (x0::x1::x2::x3::x4::x5::x6::a::xs) S:=rfl
def Km {a x0 x1 x2 x3 x4 x5 x6 x7 x8:A}{xs:ad}{S:fj}:gf 8 a (x0::x1::x2::x3::x4::x5::x6::x7::x8::xs) S=.ok (x0::x1::x2::x3::x4::x5::x6::x7::a::xs) S:=rfl
def fO:type_of% (anI @R.gP<|anI @R.vX<|anI @R.gj<|anI @RS.of_ok<|anI @RS.EB<|anI @gq<|anI @vz<|anI @Kv<|anI @Ku<|anI @KA<|anI @J_<|anI @Kc<|anI @J7<|anI @Kz<|anI @KH<|anI @Kq<|anI @y_<|anI @Bx<|anI @zf<|anI @Ec<|anI @BK<|anI @BI<|anI @yQ<|anI @A8<|anI @zX<|anI @vR<|anI @vD<|anI @wA<|anI @z8<|anI @u_<|anI @vO<|anI @wL<|anI @xF<|anI @u9<|anI @DZ<|anI @wk<|anI @zO<|anI @wK<|anI @Ea<|anI @zI<|anI @w6<|anI @xK<|anI @Bd<|anI @vA<|anI @wI<|anI @uY<|anI @Bf<|anI @zp<|anI @xM<|anI @Bl<|anI @tV<|anI @vE<|anI @zx<|anI @vh<|anI @se<|anI @xP<|anI @xj<|anI @sU<|anI @zy<|anI @AN<|anI @D_<|anI @DT<|anI @zl<|anI @tU<|anI @wC<|anI @rV<|anI @AH<|anI @vp<|anI @lst?_ref<|anI @RS.zA<|anI @RS.zD<|anI @RS.AK<|anI @RS.yC<|anI @RS.zk<|anI @vn<|anI @wG<|anI @p7<|anI @sL<|anI @rG<|anI @vd<|anI @sI<|anI @AZ<|anI @wV<|anI @Kl<|anI @J6<|anI @KJ<|anI @J9<|anI @Kw<|anI @KG<|anI @KD<|anI @Kf<|anI @Km<|anI @yH<|anI @zR<|anI @yO<|anI @Aw<|anI @ze<|anI @xA<|anI @wY<|anI @rT<|anI @RS.Bw<|anI @RS.Bj<|anI @RS.A9<|anI @Af<|anI @zE<|anI @zF<|anI @Et<|anI @D4<|anI @DU<|anI @DL<|anI @Ek<|anI @Ac<|anI @zh<|anI @An<|anI @zG<|anI @AY<|anI @BG<|anI @xm<|anI @we<|anI @wB<|anI @vV<|anI @qc<|anI @Em<|anI @Eg<|anI @Eu<|anI @AX<|anI @AR<|anI @vW<|anI @vF<|anI @xS<|anI @sF<|anI @tN<|anI @Ak<|anI @z7<|anI @El<|anI @o9<|anI @yS<|anI @wg<|anI @fu<|anI @zc<|anI @BS<|anI @tX<|anI @DW<|anI @D8<|anI @Ez<|anI @Ei<|anI @wm<|anI @vH<|anI @vg<|anI @sM<|anI @rW<|anI @tB<|anI @xH<|anI @D0<|anI @zg<|anI @zK<|anI @Ar<|anI @zT<|anI @Av<|anI @yW<|anI @yP<|anI @yM<|anI @AB<|anI @AQ<|anI @AM<|anI @zU<|anI @zY<|anI @yV<|anI @yK<|anI @vj<|anI @DK<|anI @D7<|anI @Il<|anI @sets<|anI @rep0<|anI @reps<|anI @GV<|anI @Hv<|anI @oz<|anI @vq<|anI @yT<|anI @BP<|anI @D5<|anI @DY<|anI @Bk<|anI @yF<|anI @qx<|anI @tH<|anI @A5<|anI @vG<|anI @Aa<|anI @wQ<|anI @zM<|anI @Ed<|anI @DO<|anI @ve<|anI @vJ<|anI @Ad<|anI @sD<|anI @wD<|anI @Bt<|anI @Ah<|anI @zw<|anI @Az<|@A6):=anI @R.gP<|anI @R.vX<|anI @R.gj<|anI @RS.of_ok<|anI @RS.EB<|anI @gq<|anI @vz<|anI @Kv<|anI @Ku<|anI @KA<|anI @J_<|anI @Kc<|anI @J7<|anI @Kz<|anI @KH<|anI @Kq<|anI @y_<|anI @Bx<|anI @zf<|anI @Ec<|anI @BK<|anI @BI<|anI @yQ<|anI @A8<|anI @zX<|anI @vR<|anI @vD<|anI @wA<|anI @z8<|anI @u_<|anI @vO<|anI @wL<|anI @xF<|anI @u9<|anI @DZ<|anI @wk<|anI @zO<|anI @wK<|anI @Ea<|anI @zI<|anI @w6<|anI @xK<|anI @Bd<|anI @vA<|anI @wI<|anI @uY<|anI @Bf<|anI @zp<|anI @xM<|anI @Bl<|anI @tV<|anI @vE<|anI @zx<|anI @vh<|anI @se<|anI @xP<|anI @xj<|anI @sU<|anI @zy<|anI @AN<|anI @D_<|anI @DT<|anI @zl<|anI @tU<|anI @wC<|anI @rV<|anI @AH<|anI @vp<|anI @lst?_ref<|anI @RS.zA<|anI @RS.zD<|anI @RS.AK<|anI @RS.yC<|anI @RS.zk<|anI @vn<|anI @wG<|anI @p7<|anI @sL<|anI @rG<|anI @vd<|anI @sI<|anI @AZ<|anI @wV<|anI @Kl<|anI @J6<|anI @KJ<|anI @J9<|anI @Kw<|anI @KG<|anI @KD<|anI @Kf<|anI @Km<|anI @yH<|anI @zR<|anI @yO<|anI @Aw<|anI @ze<|anI @xA<|anI @wY<|anI @rT<|anI @RS.Bw<|anI @RS.Bj<|anI @RS.A9<|anI @Af<|anI @zE<|anI @zF<|anI @Et<|anI @D4<|anI @DU<|anI @DL<|anI @Ek<|anI @Ac<|anI @zh<|anI @An<|anI @zG<|anI @AY<|anI @BG<|anI @xm<|anI @we<|anI @wB<|anI @vV<|anI @qc<|anI @Em<|anI @Eg<|anI @Eu<|anI @AX<|anI @AR<|anI @vW<|anI @vF<|anI @xS<|anI @sF<|anI @tN<|anI @Ak<|anI @z7<|anI @El<|anI @o9<|anI @yS<|anI @wg<|anI @fu<|anI @zc<|anI @BS<|anI @tX<|anI @DW<|anI @D8<|anI @Ez<|anI @Ei<|anI @wm<|anI @vH<|anI @vg<|anI @sM<|anI @rW<|anI @tB<|anI @xH<|anI @D0<|anI @zg<|anI @zK<|anI @Ar<|anI @zT<|anI @Av<|anI @yW<|anI @yP<|anI @yM<|anI @AB<|anI @AQ<|anI @AM<|anI @zU<|anI @zY<|anI @yV<|anI @yK<|anI @vj<|anI @DK<|anI @D7<|anI @Il<|anI @sets<|anI @rep0<|anI @reps<|anI @GV<|anI @Hv<|anI @oz<|anI @vq<|anI @yT<|anI @BP<|anI @D5<|anI @DY<|anI @Bk<|anI @yF<|anI @qx<|anI @tH<|anI @A5<|anI @vG<|anI @Aa<|anI @wQ<|anI @zM<|anI @Ed<|anI @DO<|anI @ve<|anI @vJ<|anI @Ad<|anI @sD<|anI @wD<|anI @Bt<|anI @Ah<|anI @zw<|anI @Az<|@A6
def bools:(∀b:Bool,cond false b b=b)/\(∀(α:Type) (x y:α),cond false x y=y)/\(∀(α:Type) (x y:α),cond true x y=x):=⟨λ_=>rfl,λ_ _ _=>rfl,λ_ _ _=>rfl⟩
def gD:(∀(x:Str) (xs:am),(x::xs).length=xs.length+1)/\([]:am).length=0/\(∀(x:A) (xs:ad),(x::xs).length=xs.length+1)/\([]:ad).length=0:=⟨λ_ _=>rfl,rfl,λ_ _=>rfl,rfl⟩
section
variable {τ:ad}{S:fj}
def w4 {f:ad->fj->R A}{d:kF}:Jk f d τ S=(d τ S).bind f:=rfl
abbrev Ke (c:Str):Unit->fj->RS:=λ_ S1=>.ex c S1
def z9 {c:Str}{u:Unit}:Ke c u S=.ex c S:=rfl
def p9 {c:Str}{ps:List<|Str ⊕ Ex}:FF c ps τ S=RS.of (Di ps τ S) (Ke c):=rfl
def wO:Di [] τ S=.ok Unit.unit S:=rfl
def wU {x:Str}{ps:List<|Str ⊕ Ex}:Di (.inl x::ps) τ S=Di ps τ S:=rfl
abbrev KO (ps:List<|Str ⊕ Ex)(τ:ad):A->fj->R Unit:=λv S1=>match v with
 | .int i=>gd (i.natAbs.log2<64) (Di ps τ S1)
 | _=>.no
def vt {e:Ex}{ps:List<|Str ⊕ Ex}:Di (.inr e::ps) τ S=(e τ S).bind (KO ps τ):=rfl
abbrev RS.try (i n:Nat)(cs:am)(d:Sm):RS->RS
 | .ex x S1=>if x∈cs then Ef i (d ((List.replicate n .unb).set i<|.exn x) S1)else .no
 | r=>r
def vf {i n:Nat}{cs:am}{c d:Sm}:Ie i n cs c d τ S=RS.try i n cs d (c τ S):=by
 unfold Ie RS.try;cases c τ S<;>rfl
def y9 {i n:Nat}{cs:am}{d:Sm}:RS.try i n cs d (.nx τ S)=.nx τ S:=rfl
def Bv {i n:Nat}{cs:am}{d:Sm}{a:A}:RS.try i n cs d (.rt a S)=.rt a S:=rfl
def Ag {i n:Nat}{x:Str}{cs:am}{d:Sm}:RS.try i n (x::cs) d (.ex x S)=Ef i (d ((List.replicate n .unb).set i<|.exn x) S):=aZ<|.head _
def AD {i:Nat}{a:A}:Ef i (.rt a S)=.rt a S:=rfl
def Ae {i:Nat}:Ef i (.nx τ S)=.nx (τ.set i .unb) S:=rfl
abbrev G_ (f:Str->bj):A->fj->R A:=λv S1=>match v with
 | .exn x=>opt (f x) λb=>.ok (.bl b) S1
 | _=>.no
def xD {f:Str->bj}{c:Ex}:Jr f c τ S=(c τ S).bind (G_ f):=rfl
def zj {x:Str}{b:Bool}{tb:List<|Str×Bool}:G_ (K2 ((x,b)::tb)) (.exn x) S=.ok (.bl b) S:=by
 show opt (List.lookup x ((x,b)::tb)) _=_;rw[cz,bR];rfl
abbrev R.Aj {α β:Type}(r:R α)(f:α->fj->R β):R β:=match r with
 | .ok a S=>f a S
 | _=>.no
def sq {α β:Type}{a:α}{f:α->fj->R β}:R.Aj (.ok a S) f=f a S:=rfl
def vZ {f:ad->fj->R A}{d:kF}:Ih f d τ S=R.Aj (d τ S) f:=by unfold Ih R.Aj;cases d τ S<;>rfl
abbrev RS.JD {α:Type}(r:R α)(f:α->fj->RS):RS:=match r with
 | .ok a S=>f a S
 | _=>.no
def BC {α:Type}{a:α}{f:α->fj->RS}:RS.JD (.ok a S) f=f a S:=rfl
def wR {t:Te}{c d:Sm}:Iq t c d τ S=RS.JD (t τ S) (GO c d τ):=by
 unfold Iq RS.JD
 cases t τ S with
 | ok b S1=>cases b<;>rfl
 | ex _ _=>rfl
 | no=>rfl
abbrev RS.Bq (i:Nat)(cs:am)(d:Sm)(τ:ad):RS->RS
 | .ex x S1=>if x∈cs then Ef i (d (τ.set i<|.exn x) S1)else .no
 | r=>r
def tW {i:Nat}{cs:am}{c d:Sm}:Ej i cs c d τ S=RS.Bq i cs d τ (c τ S):=by
 unfold Ej RS.Bq;cases c τ S<;>rfl
def wH {i:Nat}{cs:am}{d:Sm}{τ':ad}:RS.Bq i cs d τ (.nx τ' S)=.nx τ' S:=rfl
def wc {i:Nat}{cs:am}{d:Sm}{a:A}:RS.Bq i cs d τ (.rt a S)=.rt a S:=rfl
def u5 {i:Nat}{x:Str}{cs:am}{d:Sm}:RS.Bq i (x::cs) d τ (.ex x S)=Ef i (d (τ.set i<|.exn x) S):=aZ<|.head _
def r8:A.Co []=some []:=rfl
def qk {b:Bool}{xs:ad}:A.Co (.bl b::xs)=(A.Co xs).map (b::·):=rfl
end
def lq:type_of% (anI @w4<|anI @p9<|anI @z9<|anI @wO<|anI @wU<|anI @vt<|anI @vf<|anI @y9<|anI @Bv<|anI @Ag<|anI @AD<|anI @Ae<|anI @xD<|anI @zj<|anI @r8<|anI @qk<|anI @sq<|anI @vZ<|anI @BC<|anI @wR<|anI @tW<|anI @wH<|anI @wc<|anI @u5<|trivial):=anI @w4<|anI @p9<|anI @z9<|anI @wO<|anI @wU<|anI @vt<|anI @vf<|anI @y9<|anI @Bv<|anI @Ag<|anI @AD<|anI @Ae<|anI @xD<|anI @zj<|anI @r8<|anI @qk<|anI @sq<|anI @vZ<|anI @BC<|anI @wR<|anI @tW<|anI @wH<|anI @wc<|anI @u5<|trivial
end Am
namespace Am
open PySem PySem.Spec PyProof.Rows L2
abbrev Df (K:aq)(x:Str)(st:aC):Prop:=∃(f:aj) (fd:FuncData),PySem.W.nsIn K mainGlobals x=some (some<|.ref f)/\Fun K x x st f fd
inductive En (P:ah) (w:af) (K:aq) (mg:Str->be) (base:ak):Prop
 | mk (h:ak) (X:K.In h) (G:h.Ns mainGlobals mg)
section
variable {P:ah}{w:af}{K:aq}{mg:Str->be}{base:ak}{x:Str}{st:aC}{ps:am}{k:Nat}{F:ad->fj->R A}
def En.at(E:En P w K mg base){f:aj}(h:PySem.W.nsIn K mainGlobals x=some (some<|.ref f)):mg x=some (.ref f):=by
 obtain⟨_,X,G⟩:=E;exact PySem.W.mg_of X G h
def Df.of{f:aj}{kV ct:aa}(a:PySem.W.nsIn K mainGlobals x=some (some<|.ref f))(l:K.lookup f=some ⟨oc,od,.func<|PySem.W.fnOf x x (lC st) (jz st) (fN st) .none kV doc pm an cdv ct,osl⟩)(c:PySem.W.codeIn K cdv x=true)(k:PySem.W.keepIn K (.ref f)=true):Df K x st:=⟨f,_,a,FJ l c k⟩
meta abbrev Bi (x:Str)(st:aC)(ps:am):Prop:=∀us:ar,us.length=ps.length->∀(kV d g:aa) (f:Option aj) (c ct:aa),bindArgs (PySem.W.fnOf x x (lC st) (jz st) (fN st) .none kV d g f c ct) ⟨us,[]⟩=pure (ps.zip us)
def Df.get(d:Df K x st)(E:En P w K mg base)(b:Bi x st ps):∃f fd,Fun K x x st f fd/\mg x=some (.ref f)/\PySem.W.keepIn K (.ref f)=true/\Binds K fd ps []:=by
 obtain⟨f,fd,a,F⟩:=d;exact⟨f,fd,F,E.at a,F.kp,F.binds λkV c m k g ct us j=>b us j kV c m k g ct⟩
def Df.kA(d:Df K x st)(E:En P w K mg base)(h:∀{f fd},Fun K x x st f fd->FnOk P w K mg base nL k f fd ps (pI K ps.length F))(b:Bi x st ps):pM P w K mg base k x ps F:=by
 obtain⟨f,fd,a,c,e,g⟩:=d.get E b;exact⟨f,fd,h a,c,e,g⟩
end
section
variable {X:Cx}{pos p:Pos}{e1 e2:aA}{x p1 p2:Str}{k K0:Nat}{F:ad->fj->R A}{c1 c2:Ex}
def yx(G:pM X.prog X.w X.K X.mg X.base k x [p1] F)(hr:Room K0 X.A)(h1:AE X e1 c1)(hk:k<=K0:=by decide)(hg:Gl X x:=by rfl)(hdb:(x == ("__debug__" : Str))=false:=by decide)(s1:starEach [e1] X.env=(false,eval e1 X.env)::starEach [] X.env:=by rfl)(hp:(backTo pos<|starEach [] X.env).any (·.1)=false:=by rfl):AE X (.Call (.Name x p) [e1] [] pos) (eFn F<|eU c1 ff):=D9 G (hr.mono hk) (eV h1 e_ s1) (oQ vQ) hg hdb s1 hp
def mV(G:pM X.prog X.w X.K X.mg X.base k x [p1,p2] F)(hr:Room K0 X.A)(h1:AE X e1 c1)(h2:AE X e2 c2)(hk:k<=K0:=by decide)(hg:Gl X x:=by rfl)(hdb:(x == ("__debug__" : Str))=false:=by decide)(s1:starEach [e1,e2] X.env=(false,eval e1 X.env)::starEach [e2] X.env:=by rfl)(s2:starEach [e2] X.env=(false,eval e2 X.env)::starEach [] X.env:=by rfl)(hp:(backTo pos<|starEach [e2] X.env).any (·.1)=false:=by rfl):AE X (.Call (.Name x p) [e1,e2] [] pos) (eFn F<|eU c1<|eU c2 ff):=D9 G (hr.mono hk) (eV h1 (eV h2 e_ s2) s1) (oQ<|oQ vQ) hg hdb s1 hp
def tZ{N P:am}{sc:Scope}(a:sc.kind=.function)(b:sc.isCoroutine=false)(c:sc.isGenerator=false)(h:N.Nodup/\N.take P.length=P/\(∀x∈P,sc.names.lookup x=some .local\/sc.names.lookup x=some .cell)/\∀y∈sc.names,y.2≠.free):FnScope N P sc:=⟨a,b,c,h.1,h.2.1,h.2.2.1,h.2.2.2⟩
end
section
@[irreducible] noncomputable def big:Nat:=2 ^ 4096
end
abbrev kA (p:Int×Int):A:=.ktu [.int p.1,.int p.2]
abbrev je (f:A->Option PyData):ad->Option (List PyData)
 | []=>some []
 | x::xs=>(f x).bind λd=>(je f xs).map λds=>d::ds
abbrev jS (S:fj):Nat->A->Option PyData
 | 0,_=>none
 | n+1,a=>match a with
  | .f6=>some .none
  | .bl b=>some (.bool b)
  | .int i=>some (.int i)
  | .str x=>some (.str x)
  | .tup xs=>(je (jS S n) xs).map λds=>.tuple ds
  | .ref i=>(eX S i).bind λxs=>(je (jS S n) xs).map λds=>.list ds
  | _=>none
mutual
abbrev iE:PyData->Nat
 | .none | .bool _=>5
 | .int _=>1921
 | .str x=>(reprText x).length
 | .list xs | .tuple xs=>nS xs+3
 | .dict _=>0
abbrev nS:List PyData->Nat
 | []=>0
 | x::xs=>iE x+2+nS xs
end
def kj{f:A->Option PyData}{x:A}(h:je f (x::xs)=some ds):∃d es,f x=some d/\je f xs=some es/\ds=d::es:=by
 obtain⟨d,e1,h⟩:=aY.mp h;obtain⟨es,e2,rfl⟩:=aP.mp h;exact⟨d,es,e1,e2,rfl⟩
theorem oX{f:A->Option PyData}(hf:∀x d,f x=some d->d.hasDict=false):∀{xs:ad}{ds:List PyData},je f xs=some ds->PyData.hasDictAll ds=false
 | [],ds,h=>by cases h;dsimp[PyData.hasDictAll]
 | x::xs,ds,h=>by
  obtain⟨d,es,e1,e2,rfl⟩:=kj h;dsimp[PyData.hasDictAll,hf x d e1,oX hf e2,Bool.or_self]
theorem pH:∀(n:Nat) (a:A) (d:PyData),jS S n a=some d->d.hasDict=false
 | 0,a,d,h=>nomatch h
 | n+1,a,d,h=>by
  cases a with
  | f6=>cases h;dsimp[PyData.hasDict]
  | bl b=>cases h;dsimp[PyData.hasDict]
  | int i=>cases h;dsimp[PyData.hasDict]
  | str x=>cases h;dsimp[PyData.hasDict]
  | tup xs=>obtain⟨ds,e,rfl⟩:=aP.mp h;dsimp[PyData.hasDict];exact oX (pH n) e
  | ref i=>
   obtain⟨xs,_,h⟩:=aY.mp h;obtain⟨ds,e,rfl⟩:=aP.mp h;dsimp[PyData.hasDict];exact oX (pH n) e
  | _=>cases h
theorem pL{f:A->Option PyData}{n:Nat}(hf:∀x d,f x=some d->d.depth<=n):∀{xs:ad}{ds:List PyData},je f xs=some ds->PyData.depthAll ds<=n
 | [],ds,h=>by cases h;dsimp[PyData.depthAll];exact cg _
 | x::xs,ds,h=>by
  obtain⟨d,es,e1,e2,rfl⟩:=kj h;dsimp[PyData.depthAll];exact Nat.max_le.mpr ⟨hf x d e1,pL hf e2⟩
theorem pA:∀(n:Nat) (a:A) (d:PyData),jS S n a=some d->d.depth<=n
 | 0,a,d,h=>nomatch h
 | n+1,a,d,h=>by
  cases a with
  | f6=>cases h;dsimp[PyData.depth];exact cg _
  | bl b=>cases h;dsimp[PyData.depth];exact cg _
  | int i=>cases h;dsimp[PyData.depth];exact cg _
  | str x=>cases h;dsimp[PyData.depth];exact cg _
  | tup xs=>obtain⟨ds,e,rfl⟩:=aP.mp h;dsimp[PyData.depth];exact c8 (pL (pA n) e)
  | ref i=>
   obtain⟨xs,_,h⟩:=aY.mp h;obtain⟨ds,e,rfl⟩:=aP.mp h;dsimp[PyData.depth];exact c8<|pL (pA n) e
  | _=>cases h
mutual
theorem oG:∀d:PyData,d.showable=true->d.hasDict=false->d.shown.length<=iE d
 | .none,_,_=>by dsimp[PyData.shown,iE];decide
 | .bool true,_,_=>by dsimp[PyData.shown,iE];decide
 | .bool false,_,_=>by dsimp[PyData.shown,iE];decide
 | .int i,h,_=>by
  have h:i.natAbs.log2<1920:=by simpa[PyData.showable]using h
  dsimp[PyData.shown,iE];exact PyProof.Rows.int_text_len_1921 h
 | .str x,_,_=>by dsimp[PyData.shown,iE];exact aL _
 | .list xs,h,h'=>by
  have h:PyData.showableAll xs=true:=by simpa[PyData.showable]using h
  have h':PyData.hasDictAll xs=false:=by simpa[PyData.hasDict]using h'
  obtain⟨l,e⟩:=kH xs h h';dsimp[PyData.shown,iE];have:=listText_len_le<|PyData.shownAll xs;rw[l]at this
  lia
 | .tuple xs,h,h'=>by
  have h:PyData.showableAll xs=true:=by simpa[PyData.showable]using h
  have h':PyData.hasDictAll xs=false:=by simpa[PyData.hasDict]using h'
  obtain⟨l,e⟩:=kH xs h h';dsimp[PyData.shown,iE];have:=tupleText_len_le<|PyData.shownAll xs;rw[l]at this
  lia
 | .dict c,_,h=>by simp[PyData.hasDict]at h
theorem kH:∀xs:List PyData,PyData.showableAll xs=true->PyData.hasDictAll xs=false->(PyData.shownAll xs).length=xs.length/\((PyData.shownAll xs).map (·.length)).sum+2 * xs.length<=nS xs
 | [],_,_=>by dsimp[PyData.shownAll,nS];exact⟨rfl,aL _⟩
 | x::xs,h,h'=>by
  have h:x.showable=true/\PyData.showableAll xs=true:=by simpa[PyData.showableAll]using h
  have h':x.hasDict=false/\PyData.hasDictAll xs=false:=by simpa[PyData.hasDictAll]using h'
  have a:=oG x h.1 h'.1;obtain⟨l,b⟩:=kH xs h.2 h'.2;dsimp[PyData.shownAll,nS,bJ,sum_cons,a_]
  lia
end
section
variable {X:Cx}{pins:bo}{σ:L2.St}{H:Hp}{s:az}{ρ:ba}{S:fj}
theorem nO{f:A->Option PyData}(hf:∀a x u d,AV X.K ρ H a x->RelV x u->f a=some d->∃as,Reads s.heap u d as):∀{xs:ad}{vs:List V}{us:ar}{ds:List PyData},AVs X.K ρ H xs vs->Vals vs us->je f xs=some ds->∃as,ReadsAll s.heap us ds as
 | [],vs,us,ds,h1,h2,h=>by cases h1;cases h2;cases h;exact⟨_,.nil⟩
 | x::xs,vs,us,ds,h1,h2,h=>by
  cases h1 with
  | cons a b=>
   cases h2 with
   | cons r t=>
    obtain⟨d,es,e1,e2,rfl⟩:=kj h;obtain⟨as,q⟩:=hf _ _ _ _ a r e1;obtain⟨bs,c⟩:=nO hf b t e2;exact⟨_,.cons q c⟩
theorem oU(I:Inv X pins σ H s)(R:Rel X.K ρ H S):∀(n:Nat) (a:A) (x:V) (u:aa) (d:PyData),AV X.K ρ H a x->RelV x u->jS S n a=some d->∃as,Reads s.heap u d as
 | 0,a,x,u,d,_,_,h=>nomatch h
 | n+1,a,x,u,d,ha,r,h=>by
  cases ha with
  | f6=>cases h;cases(show u=Value.none from r);exact⟨_,.none⟩
  | bl b=>cases h;cases(show u=Value.bool b from r);exact⟨_,.bool b⟩
  | int i=>cases h;obtain⟨t,rfl⟩:∃t,u=Value.int i t:=r;exact⟨_,.int i t⟩
  | str i=>cases h;obtain⟨t,rfl⟩:∃t,u=Value.str i t:=r;exact⟨_,.str i t⟩
  | tup h1 r1=>
   cases(show u=Value.ref _ from r)
   obtain⟨ds,e,rfl⟩:=aP.mp h;obtain⟨us,c,p,_⟩:=I.tuple<|iR.of h1;obtain⟨o,f,hc,k,hd⟩:=p;obtain⟨as,q⟩:=nO (oU I R n) r1 c e;exact⟨_,.tuple f hc hd q⟩
  | ref h1=>
   cases(show u=Value.ref _ from r)
   obtain⟨xs,e1,h⟩:=aY.mp h;obtain⟨ds,e,rfl⟩:=aP.mp h;obtain⟨j,g,r1⟩:=R.lst h1<|fF e1;obtain⟨us,c,p,_⟩:=I.list<|iu.of g;obtain⟨o,k,f,hc,_,hd⟩:=p;obtain⟨as,q⟩:=nO (oU I R n) r1 c e;exact⟨_,.list f hc hd q⟩
  | _=>cases h
def xG:bootBuiltins "repr" = some (.builtin "repr"):=by decide +kernel
abbrev sC (x:A)(S:fj):R A:=opt (jS S 9 x) λd=>gd (d.showable=true/\iE d<=sizeLine)<|.ok (.str d.shown) S
def zN(hu:X.A.units+64<cLine)(hg:X.A.guards=some []):gi X (.builtin "repr") (rN X<|f1 sC):=λpins s σ H xs us Q I r h0=>by
 ksr_p;clear h0;mg_lt;obtain⟨d,e,h⟩:=fJ h;obtain⟨⟨hs,hc⟩,h⟩:=fS h;have j:=pH _ _ _ e;have C:=pA _ _ _ e;have sz:=bF (oG d hs j) hc;obtain⟨B,q⟩:=oU I R 9 x w u d hv rx e;have c:∀h' v p,(∀b o,s.heap.get? b=some o->h'.get? b=some o)->EP X pins σ Q (.str d.shown v) { s with heap:=h',toks:=p }:=λh' v p k=>⟨.str d.shown,H,I.kept k,⟨v,rfl⟩,h _ _ _ .refl R<|.str _⟩
 cases q with
 | none=>exact P.repr_of_none (by have:=c s.heap s.toks (s.toks+1) λ_ _ z=>z;simpa only [PyData.shown]using this)
 | bool b=>exact P.repr_of_bool (by have:=c s.heap s.toks (s.toks+1) λ_ _ z=>z;simpa only [PyData.shown]using this)
 | int i t=>exact P.repr_of_int (by simpa[PyData.showable]using hs) (by have:=c s.heap s.toks (s.toks+1) λ_ _ z=>z;simpa only [PyData.shown]using this)
 | str y t=>exact P.repr_of_str (by have:=c s.heap s.toks (s.toks+1) λ_ _ z=>z;simpa only [PyData.shown]using this) (by simpa only [PyData.shown]using sz)
 | list h1 f m g=>exact repr_of_reads' (.list h1 f m g) hs (PyData.noDict_hsm j) hg () (λ_ _ z=>z) c sz
 | tuple h1 f m g=>exact repr_of_reads' (.tuple h1 f m g) hs (PyData.noDict_hsm j) hg () (λ_ _ z=>z) c sz
 | dict h1 f m g D=>simp[PyData.hasDict]at j
end
theorem l5{f g:A->Option PyData}(h:∀x d,f x=some d->g x=some d):∀{xs:ad}{ds:List PyData},je f xs=some ds->je g xs=some ds
 | [],ds,e=>e
 | x::xs,ds,e=>by
  obtain⟨d,es,e1,e2,rfl⟩:=kj e;unfold je;rw[h x d e1,bB,l5 h e2];rfl
theorem lH(h:∀n xs,eX S n=some xs->eX S' n=some xs):∀(n:Nat) (a:A) (d:PyData),jS S n a=some d->jS S' n a=some d
 | 0,a,d,e=>nomatch e
 | n+1,a,d,e=>by
  cases a with
  | f6=>exact e
  | bl b=>exact e
  | int i=>exact e
  | str x=>exact e
  | tup xs=>
   obtain⟨ds,e1,rfl⟩:=aP.mp e;show(je (jS S' n) xs).map _=_;rw[l5 (lH h n) e1];rfl
  | ref i=>
   obtain⟨xs,e0,e⟩:=aY.mp e;obtain⟨ds,e1,rfl⟩:=aP.mp e;show(eX S' i).bind _=_;rw[h i xs e0,bB,l5 (lH h n) e1];rfl
  | _=>cases e
abbrev IL (S:fj)(x:A):Prop:=∃d,jS S 9 x=some d/\d.showable=true/\iE d<=sizeLine
def IL.tell{x:A}(h:IL S x):∃t,∀S',(∀n xs,eX S n=some xs->eX S' n=some xs)->sC x S'=.ok (.str t) S':=by
 obtain⟨d,e,h1,c⟩:=h;refine⟨d.shown,λS' k=>?_⟩;unfold sC;rw[lH k _ _ _ e,HM rfl,Jp ⟨h1,c⟩]
section
variable {X:Cx}
abbrev qC (o:A)(as:ad)(S:fj):R A:=match o,as with
 | .ref n,[.int i,x]=>opt (eX S n) λxs=>gd (0<=i/\i<=1000000/\i.toNat<=xs.length/\xs.length<sizeLine) (.ok .f6<|S.set n<|.lst (xs.take i.toNat++x::xs.drop i.toNat))
 | _,_=>.no
def Cb{α:Type}(l:List α)(y:α)(k:Nat)(hk:k<=l.length):((l.toArray.extract 0 k).push y++l.toArray.extract k)=(l.take k++y::l.drop k).toArray:=by
 apply Array.ext';simp;exact dO<|by rw[cP];lia
def zq:Hl X "list.insert" (rM X qC):=λpins s σ H x Y v us Q I rx B h9=>by
 obtain⟨ρ,S,o,J,R,K,va,h⟩:=h9
 cases K with
 | @ref p n m=>
  match J,va,h with
  | [],_,h=>exact h.elim
  | [y],_,h=>exact(by cases y<;>exact h.elim)
  | y::_::_::_,_,h=>exact(by cases y<;>exact h.elim)
  | [y,z],va,h=>
   obtain⟨Z,D,rfl,G,C⟩:=HG va
   cases G with
   | int i=>
    kcf_m;obtain⟨hi,h⟩:=fS h;obtain⟨P,h1,r⟩:=R.lst m<|fF hn;have U:=r.length;obtain⟨ex,N⟩:=R.put m (fF hn) ((r.take i.toNat).append<|.cons C<|r.drop i.toNat)
    cases rx
    obtain⟨d,yw,rfl,L,g⟩:∃d yw,us=d::yw/\RelV (.int i) d/\Vals [D] yw:=by cases B with|cons a b=>exact⟨_,_,rfl,a,b⟩
    obtain⟨t,rfl⟩:∃t,d=Value.int i t:=L;obtain⟨f,rfl,j⟩:=g.one;obtain⟨V,c,k,q,W,e⟩:=I.yh h1;refine eL F.slot_list_insert ⟨_,e,rfl⟩ F.entry_list_insert (F.args_list_insert_3 _ _ _) (AutoListH.list_insert_list_int_val_1 p c.toArray k i t f (by
     simp[Builtin.List.listFitsIndex];lia)<|by rw[aI];lia) ⟨e,?_⟩
    refine⟨.f6,_,I.ED (its':=c.take i.toNat++f::c.drop i.toNat) h1 e ?_ ((q.take i.toNat).append<|.cons j<|q.drop i.toNat) ?_,rfl,h _ _ _ ex N .f6⟩
    ·show((c.toArray.extract 0<|if i<0 then _ else min i.toNat c.toArray.size).push f++c.toArray.extract (if i<0 then _ else min i.toNat c.toArray.size))=_;rw[bu (),show min i.toNat c.toArray.size=i.toNat by rw[aI];lia];exact Cb c f i.toNat ()
    ·dsimp[aU,a_,cO,cP]
     lia
   | _=>exact h.elim
 | _=>exact h.elim
end
end Am
namespace K55
open PySem L2 Am
abbrev top (i:Nat):aC:=PySem.Challenge.pw_undercells_k55_is_table.main.body.getD i<|.Pass ⟨0,0,0,0⟩
meta abbrev mh:aC:=top 1
meta abbrev lI:am:=["thing"]
meta abbrev lZ:am:=["thing"]
abbrev l7:Sm:=
 g8 (nZ (fG (f2 oR)<|eU (eW 0)<|eU (eC<|.ty "int") ff)<|B_<|fG (f2 oR)<|eU (eW 0)<|eU (eC<|.ty "bool") ff)
abbrev jb:ad->fj->R A:=jW lI l7
meta abbrev kN:aC:=top 4
meta abbrev kM:am:=["thing"]
meta abbrev k_:am:=["thing"]
abbrev kP:Sm:=
 g8 (nZ (eFn jb<|eU (eW 0) ff)<|BY uG uG (eC<|.int 1) (eW 0)<|eC<|.int 1000000000)
abbrev ir:ad->fj->R A:=jW kM kP
meta abbrev ku:aC:=top 5
meta abbrev iY:am:=["thing"]
meta abbrev kh:am:=["thing"]
abbrev iW:Sm:=
 g8 (nZ (fG (f2 oR)<|eU (eW 0)<|eU (eC<|.ty "list") ff)<|fG (f1 sG)<|eU (gp [none] (jI<|eW 0) (gf 0) gZ<|eFn ir<|eU (eW 0) ff) ff)
abbrev gJ:ad->fj->R A:=jW iY iW
meta abbrev i6:aC:=top 6
meta abbrev gG:am:=["thing"]
meta abbrev i9:am:=["thing"]
abbrev gE:Sm:=
 g8 (nZ (eFn gJ<|eU (eW 0) ff)<|nZ (eZ Cj (fG (f1 gH)<|eU (eW 0) ff)<|eC<|.int 0)<|eZ (kG false) (eW 0)<|fG (f1 pJ)<|eU (eW 0) ff)
abbrev fP:ad->fj->R A:=jW gG gE
meta abbrev kc:aC:=top 7
meta abbrev kg:am:=["row", "above"]
meta abbrev ko:am:=["row", "above"]
abbrev j8:Sm:=
 g8 (nZ (eZ uG (fG (f1 gH)<|eU (eW 0) ff)<|fG (f1 gH)<|eU (eW 1) ff)<|fG (f1 sG)<|eU (gp [none,none] (qy (eW 1)<|eW 0) (Gu 2<|yz (gf 0)<|yz (gf 1) Gj) gZ<|eZ DH (eW 0)<|eW 1) ff)
abbrev gI:ad->fj->R A:=jW kg j8
meta abbrev lU:aC:=top 8
meta abbrev iJ:am:=["thing"]
meta abbrev lG:am:=["thing"]
abbrev iH:Sm:=
 fZ (lu (As (qF<|qT<|fG (f2 oR)<|eU (eW 0)<|eU (eC<|.ty "list") ff)<|qF<|qT<|fG (f1 sG)<|eU (gp [none] (jI<|eW 0) (gf 0) gZ<|eFn fP<|eU (eW 0) ff) ff)
 (g8<|eC<|.bl false)
 jv)
 (g8<|fG (f1 sG)<|eU (gp [none,some 0] (nV (eC<|.int 1)<|fG (f1 gH)<|eU (eW 0) ff) (gf 0) gZ<|eFn gI<|eU (eZ gx (eW 1)<|eW 0)<|eU (eZ gx (eW 1)<|eZ aSub (eW 0)<|eC<|.int 1) ff) ff)
abbrev gb:ad->fj->R A:=jW iJ iH
meta abbrev nB:aC:=top 10
meta abbrev nH:am:=["_law_script", "_law_at", "_law_cell", "_law_great"]
meta abbrev nj:am:=["_law_script", "_law_at"]
abbrev nG:Sm:=
 fZ (fV (eC<|.int 0)<|gf 2)
 (fZ (lu (j5<|eZ DH (eW 1)<|fG (f1 gH)<|eU (eW 0) ff)
 (fV (eZ gx (eW 0)<|eW 1)<|gf 2)
 jv)
 (fZ (fV (eC<|.int 0)<|gf 3)
 (fZ (lu (j5<|eZ IC (eW 2)<|eZ iK (eC<|.int 10)<|eC<|.int 18)
 (fV (eW 2)<|gf 3)
 jv)
 (g8<|fU<|eU (eW 3)<|eU (eZ qH (eZ fW (eZ fW (eW 2)<|eZ uI (eC<|.int 7919)<|eW 1)<|eC<|.int 13)<|eC<|.int 2147483647) ff))))
abbrev jR:ad->fj->R A:=jW nH nG
meta abbrev kW:aC:=top 11
meta abbrev jC:am:=["_law_bag_here", "_law_many", "_law_found"]
meta abbrev iy:am:=["_law_bag_here", "_law_many"]
abbrev jB:Sm:=
 fZ (lu (j5<|eZ Cj (eZ gx (eW 0)<|eC<|.int 0)<|eC<|.int 0)
 (fZ (fV (eZ qH (eZ gx (eW 0)<|eC<|.int 0)<|eW 1)<|gf 2)
 (fZ (fV (eZ u7 (eZ gx (eW 0)<|eC<|.int 0)<|eW 1)<|wM (eW 0)<|eC<|.int 0)
 (g8<|eW 2)))
 jv)
 (fZ (fV (eZ qH (eZ fW (eZ uI (eZ gx (eW 0)<|eC<|.int 1)<|eC<|.int 48271)<|eC<|.int 11)<|eC<|.int 2147483647)<|wM (eW 0)<|eC<|.int 1)
 (g8<|eZ qH (eZ qH (eZ uI (eZ u7 (eZ gx (eW 0)<|eC<|.int 1)<|eC<|.int 8)<|eC<|.int 69621)<|eC<|.int 2147483629)<|eW 1))
abbrev fh:ad->fj->R A:=jW jC jB
meta abbrev jJ:aC:=top 12
meta abbrev jH:am:=["_law_bag_here", "_law_most", "_law_many", "_law_way", "_law_base", "_law_made", "_law_k", "_law_letter"]
meta abbrev jK:am:=["_law_bag_here", "_law_most"]
abbrev nW:Ic:=
 gX (eW 2)
abbrev kD:Sm:=
 fZ (fV (eZ fW (eC<|.int 1)<|eFn fh<|eU (eW 0)<|eU (eW 4) ff)<|gf 7)
 (fZ (lu (DB (j5<|eZ (kG false) (eW 3)<|eC<|.int 3)<|j5<|eZ (J1 false) (eW 7)<|eW 5)
 (fV (eZ fW (eC<|.int 41)<|eW 6)<|gf 7)
 jv)
 (nP<|EA lB (eW 5)<|eU (eW 7) ff))
abbrev jQ:Sm:=
 fZ (fV (eFn fh<|eU (eW 0)<|eU (eZ fW (eW 1)<|eC<|.int 1) ff)<|gf 2)
 (fZ (fV (eFn fh<|eU (eW 0)<|eU (eC<|.int 4) ff)<|gf 3)
 (fZ (fV (eZ gx (fU<|eU (eC<|.int 3)<|eU (eC<|.int 6)<|eU (eZ iK (eC<|.int 10)<|eC<|.int 9)<|eU (eC<|.int 40) ff)<|eW 3)<|gf 4)
 (fZ (fV (fU ff)<|gf 5)
 (fZ (n5 nW (gf 6)
 kD)
 (g8<|eW 5)))))
abbrev g_:ad->fj->R A:=jW jH jQ
meta abbrev mZ:aC:=top 13
meta abbrev m5:am:=["_law_rows", "_law_letter", "_law_made", "_law_row", "_law_greater"]
meta abbrev nK:am:=["_law_rows", "_law_letter"]
abbrev tQ:Ic:=
 jI (eW 2)
abbrev nU:Sm:=
 fZ (fV (gp [none,some 1,some 3] (gX<|fG (f1 gH)<|eU (eW 3) ff) (gf 0) (j5<|eZ Cj (eZ gx (eW 2)<|eW 0)<|eW 1)<|eW 0)<|gf 4)
 (fZ (lu (j5<|eZ (kG false) (eW 4)<|fU ff)
 (fZ (nP<|EA lB (eW 3)<|eU (eW 1) ff)
 (g8<|eW 2))
 jv)
 (fV (qN<|eU (eW 1)<|eU (eZ gx (eW 3)<|eZ gx (eW 4)<|eC<|.int 0) ff)<|Gu 2<|yz (wM (eW 3)<|eZ gx (eW 4)<|eC<|.int 0)<|yz (gf 1) Gj))
abbrev nJ:Sm:=
 fZ (fV (gp [none] (jI<|eW 0) (gf 0) gZ<|fG (f1 iQ)<|eU (eW 0) ff)<|gf 2)
 (fZ (n5 tQ (gf 3)
 nU)
 (g8<|eZ fW (eW 2)<|fU<|eU (fU<|eU (eW 1) ff) ff))
abbrev jV:ad->fj->R A:=jW m5 nJ
meta abbrev kB:aC:=top 14
meta abbrev j9:am:=["_law_letters_here", "_law_first", "_law_second", "_law_k", "_law_more", "_law_at"]
meta abbrev j7:am:=["_law_letters_here"]
abbrev pD:Ic:=
 gX (fG (f1 gH)<|eU (eW 0) ff)
abbrev kR:Sm:=
 fZ (fV (eFn jV<|eU (eW 1)<|eU (eZ gx (eW 0)<|eW 3) ff)<|gf 4)
 (fZ (fV (eZ gx (gp [none,some 1,some 4] (gX<|fG (f1 gH)<|eU (eW 4) ff) (gf 0) (As (j5<|eZ (kG false) (eW 0)<|fG (f1 gH)<|eU (eW 1) ff)<|j5<|eZ DH (fG (f1 gH)<|eU (eZ gx (eW 1)<|eW 0) ff)<|fG (f1 gH)<|eU (eZ gx (eW 2)<|eW 0) ff)<|eW 0)<|eC<|.int 0)<|gf 5)
 (fZ (lu (j5<|eZ (kG false) (eW 5)<|fG (f1 gH)<|eU (eW 2) ff)
 (nP<|EA lB (eW 2)<|eU (fU ff) ff)
 jv)
 (fZ (nP<|EA lB (eZ gx (eW 2)<|eW 5)<|eU (eZ fW (eW 3)<|eC<|.int 1) ff)
 (fV (eW 4)<|gf 1))))
abbrev j_:Sm:=
 fZ (fV (fU ff)<|gf 1)
 (fZ (fV (fU ff)<|gf 2)
 (fZ (n5 pD (gf 3)
 kR)
 (g8<|qN<|eU (eW 1)<|eU (eW 2) ff)))
abbrev gK:ad->fj->R A:=jW j9 j_
meta abbrev nA:aC:=top 15
meta abbrev nv:am:=["_law_bag_here", "_law_rows", "_law_made", "_law_at", "_law_way"]
meta abbrev nk:am:=["_law_bag_here", "_law_rows"]
abbrev ny:Sm:=
 fZ (fV (gp [none] (jI<|eW 1) (gf 0) gZ<|fG (f1 iQ)<|eU (eW 0) ff)<|gf 2)
 (fZ (fV (eFn fh<|eU (eW 0)<|eU (fG (f1 gH)<|eU (eW 2) ff) ff)<|gf 3)
 (fZ (fV (eFn fh<|eU (eW 0)<|eU (eC<|.int 12) ff)<|gf 4)
 (fZ (lu (j5<|eZ (kG false) (eW 4)<|eC<|.int 0)
 (g8<|eZ gx (fU<|eU (fG (f1 lO)<|eU (eW 2) ff)<|eU (eC .f6)<|eU (eC<|.int 7)<|eU (eC<|.str<|PySem.Str.ofString "1 2")<|eU (eC<|.bl true)<|eU (qN ff)<|eU (eZ iK (eC<|.int 10)<|eC<|.int 29) ff)<|eFn fh<|eU (eW 0)<|eU (eC<|.int 7) ff)
 jv)
 (fZ (lu (j5<|eZ (kG false) (eW 4)<|eC<|.int 1)
 (fV (eZ gx (fU<|eU (fG (f1 lO)<|eU (eZ gx (eW 2)<|eW 3) ff)<|eU (eC .f6)<|eU (eC<|.int 5)<|eU (eC<|.str<|PySem.Str.ofString "1")<|eU (qN ff)<|eU (fU<|eU (eC .f6) ff)<|eU (fU<|eU (eC<|.str<|PySem.Str.ofString "1") ff)<|eU (fU<|eU (fU<|eU (eC<|.int 1) ff) ff) ff)<|eFn fh<|eU (eW 0)<|eU (eC<|.int 8) ff)<|wM (eW 2)<|eW 3)
 (lu (j5<|eZ (kG false) (eW 4)<|eC<|.int 2)
 (fV (eZ gx (fU<|eU (eZ fW (eW 2)<|fU<|eU (fU ff) ff)<|eU (fU<|eU (fU ff) ff)<|eU (eZ fW (fU<|eU (fU ff) ff)<|eW 2)<|eU (fU<|eU (fU<|eU (eC<|.int 1) ff)<|eU (fU ff) ff) ff)<|eFn fh<|eU (eW 0)<|eU (eC<|.int 4) ff)<|gf 2)
 (lu (j5<|eZ (kG false) (eW 4)<|eC<|.int 3)
 (fV (eZ gx (fU<|eU (eC<|.bl true)<|eU (eC<|.bl false)<|eU (eC<|.int 0)<|eU (rC l8<|eC<|.int 1)<|eU (eC .f6)<|eU (eZ fW (eZ iK (eC<|.int 10)<|eC<|.int 9)<|eC<|.int 1)<|eU (eC<|.str<|PySem.Str.ofString "2") ff)<|eFn fh<|eU (eW 0)<|eU (eC<|.int 7) ff)<|wM (eZ gx (eW 2)<|eW 3)<|eFn fh<|eU (eW 0)<|eU (fG (f1 gH)<|eU (eZ gx (eW 2)<|eW 3) ff) ff)
 (lu (j5<|eZ (kG false) (eW 4)<|eC<|.int 4)
 (fV (eZ fW (eZ fW (fU<|eU (eZ iK (eC<|.int 10)<|eC<|.int 9) ff)<|IJ (eZ gx (eW 2)<|eW 3) (xw<|eC<|.int 1) uR)<|fU<|eU (eC<|.int 1) ff)<|wM (eW 2)<|eW 3)
 (lu (j5<|eZ (kG false) (eW 4)<|eC<|.int 5)
 (fV (eZ fW (eW 2)<|fU<|eU (gp [none] (gX<|eZ fW (fG (f1 gH)<|eU (eZ gx (eW 2)<|rC l8<|eC<|.int 1) ff)<|eC<|.int 1) (gf 0) gZ<|eZ aSub (eZ iK (eC<|.int 10)<|eC<|.int 9)<|eW 0) ff)<|gf 2)
 (lu (j5<|eZ (kG false) (eW 4)<|eC<|.int 6)
 (fV (eZ fW (eW 2)<|fU<|eU (fU<|eU (eZ gx (eZ gx (eW 2)<|rC l8<|eC<|.int 1)<|eC<|.int 0) ff) ff)<|gf 2)
 (lu (j5<|eZ (kG false) (eW 4)<|eC<|.int 7)
 (fV (eZ fW (eW 2)<|fU<|eU (fG (f1 iQ)<|eU (eZ gx (eW 2)<|rC l8<|eC<|.int 1) ff) ff)<|gf 2)
 (lu (j5<|eZ (kG false) (eW 4)<|eC<|.int 8)
 (fV (eZ fW (fU<|eU (fU<|eU (eZ fW (eZ gx (eZ gx (eW 2)<|eC<|.int 0)<|eC<|.int 0)<|eC<|.int 1) ff) ff)<|eW 2)<|gf 2)
 (lu (j5<|eZ (kG false) (eW 4)<|eC<|.int 9)
 (fV (eZ fW (eW 2)<|fU<|eU (fG (f1 iQ)<|eU (fG (f2 ow)<|eU (eZ iK (eC<|.int 10)<|eC<|.int 8)<|eU (eZ fW (eZ fW (eZ iK (eC<|.int 10)<|eC<|.int 8)<|fG (f1 gH)<|eU (eZ gx (eW 2)<|rC l8<|eC<|.int 1) ff)<|eC<|.int 1) ff) ff) ff)<|gf 2)
 (lu (j5<|eZ (kG false) (eW 4)<|eC<|.int 10)
 (fV (eZ fW (rC yo<|eW 2)<|fU<|eU (fU<|eU (eC<|.int 1) ff) ff)<|gf 2)
 (fV (fU<|eU (eW 2) ff)<|gf 2)))))))))))
 (g8<|eW 2)))))
abbrev jT:ad->fj->R A:=jW nv ny
meta abbrev ja:aC:=top 16
meta abbrev jq:am:=["_law_thing"]
meta abbrev jn:am:=["_law_thing"]
abbrev jh:Sm:=
 g8 (nZ (fG (f2 oR)<|eU (eW 0)<|eU (eC<|.ty "int") ff)<|B_<|fG (f2 oR)<|eU (eW 0)<|eU (eC<|.ty "bool") ff)
abbrev gF:ad->fj->R A:=jW jq jh
meta abbrev jj:aC:=top 17
meta abbrev jc:am:=["_law_thing", "_law_row", "_law_k"]
meta abbrev ji:am:=["_law_thing"]
abbrev nE:Ic:=
 jI (eW 0)
abbrev j4:Sm:=
 fZ (lu (As (qF<|qT<|fG (f2 oR)<|eU (eW 1)<|eU (eC<|.ty "list") ff)<|j5<|eZ (kG false) (eW 1)<|fU ff)
 (g8<|eC<|.bl false)
 jv)
 (fZ (lu (qF<|qT<|fG (f1 sG)<|eU (gp [none] (jI<|eW 1) (gf 0) gZ<|nZ (eFn gF<|eU (eW 0) ff)<|BY uG uG (eC<|.int 1) (eW 0)<|eZ iK (eC<|.int 10)<|eC<|.int 9) ff)
 (g8<|eC<|.bl false)
 jv)
 (lu (j5<|eZ (kG true) (fG (f1 pJ)<|eU (eW 1) ff)<|eW 1)
 (g8<|eC<|.bl false)
 jv))
abbrev jY:Ic:=
 nV (eC<|.int 1) (fG (f1 gH)<|eU (eW 0) ff)
abbrev jZ:Sm:=
 fZ (lu (j5<|eZ Cj (fG (f1 gH)<|eU (eZ gx (eW 0)<|eW 2) ff)<|fG (f1 gH)<|eU (eZ gx (eW 0)<|eZ aSub (eW 2)<|eC<|.int 1) ff)
 (g8<|eC<|.bl false)
 jv)
 (lu (qF<|qT<|fG (f1 sG)<|eU (gp [none,some 0,some 2] (gX<|fG (f1 gH)<|eU (eZ gx (eW 0)<|eW 2) ff) (gf 0) gZ<|eZ Cj (eZ gx (eZ gx (eW 1)<|eW 2)<|eW 0)<|eZ gx (eZ gx (eW 1)<|eZ aSub (eW 2)<|eC<|.int 1)<|eW 0) ff)
 (g8<|eC<|.bl false)
 jv)
abbrev jd:Sm:=
 fZ (lu (qF<|qT<|fG (f2 oR)<|eU (eW 0)<|eU (eC<|.ty "list") ff)
 (g8<|eC<|.bl false)
 jv)
 (fZ (n5 nE (gf 1)
 j4)
 (fZ (n5 jY (gf 2)
 jZ)
 (g8<|eC<|.bl true)))
abbrev gR:ad->fj->R A:=jW jc jd
meta abbrev jM:aC:=top 18
meta abbrev jD:am:=["_law_bag_here", "_law_rows", "_law_made", "_law_at", "_law_place", "_law_letter", "_law_other", "_law_spot", "_law_way"]
meta abbrev jO:am:=["_law_bag_here", "_law_rows"]
abbrev jF:Sm:=
 fZ (fV (gp [none] (jI<|eW 1) (gf 0) gZ<|fG (f1 iQ)<|eU (eW 0) ff)<|gf 2)
 (fZ (fV (eFn fh<|eU (eW 0)<|eU (fG (f1 gH)<|eU (eW 2) ff) ff)<|gf 3)
 (fZ (fV (eFn fh<|eU (eW 0)<|eU (fG (f1 gH)<|eU (eZ gx (eW 2)<|eW 3) ff) ff)<|gf 4)
 (fZ (fV (eZ gx (eZ gx (eW 2)<|eW 3)<|eW 4)<|gf 5)
 (fZ (fV (eFn fh<|eU (eW 0)<|eU (fG (f1 gH)<|eU (eW 2) ff) ff)<|gf 6)
 (fZ (fV (eFn fh<|eU (eW 0)<|eU (fG (f1 gH)<|eU (eZ gx (eW 2)<|eW 6) ff) ff)<|gf 7)
 (fZ (fV (eFn fh<|eU (eW 0)<|eU (eC<|.int 5) ff)<|gf 8)
 (fZ (lu (j5<|eZ DH (eW 8)<|eC<|.int 2)
 (fV (eZ gx (fU<|eU (eZ aSub (eW 5)<|eC<|.int 1)<|eU (eZ fW (eW 5)<|eC<|.int 1)<|eU (eZ gx (eZ gx (eW 2)<|eW 6)<|eW 7)<|eU (eZ iK (eC<|.int 10)<|eC<|.int 9)<|eU (eZ fW (eZ iK (eC<|.int 10)<|eC<|.int 9)<|eC<|.int 1)<|eU (eC<|.int 0) ff)<|eFn fh<|eU (eW 0)<|eU (eC<|.int 6) ff)<|wM (eZ gx (eW 2)<|eW 3)<|eW 4)
 (lu (j5<|eZ (kG false) (eW 8)<|eC<|.int 2)
 (nP<|EA uQ (eZ gx (eW 2)<|eW 3)<|eU (eW 4) ff)
 (lu (j5<|eZ (kG false) (eW 8)<|eC<|.int 3)
 (nP<|EA qC (eZ gx (eW 2)<|eW 3)<|eU (eZ fW (eW 4)<|eFn fh<|eU (eW 0)<|eU (eC<|.int 2) ff)<|eU (eZ gx (fU<|eU (eW 5)<|eU (eZ fW (eW 5)<|eC<|.int 1)<|eU (eZ gx (eZ gx (eW 2)<|eW 6)<|eW 7) ff)<|eFn fh<|eU (eW 0)<|eU (eC<|.int 3) ff) ff)
 (fV (qN<|eU (eZ gx (eZ gx (eW 2)<|eW 6)<|eW 7)<|eU (eW 5) ff)<|Gu 2<|yz (wM (eZ gx (eW 2)<|eW 3)<|eW 4)<|yz (wM (eZ gx (eW 2)<|eW 6)<|eW 7) Gj))))
 (g8<|eW 2))))))))
abbrev g5:ad->fj->R A:=jW jD jF
meta abbrev zL:aC:=top 19
meta abbrev zW:am:=["_law_script", "_law_k", "_law_bag_here", "_law_rows", "_law_handed", "_law_step", "_law_odd_here", "_law_kept", "_law_some", "_law_found"]
meta abbrev DQ:am:=["_law_script"]
abbrev wF:Ic:=
 gX (eC<|.int 8)
abbrev vL:Sm:=
 fZ (fV (eFn jT<|eU (eW 2)<|eU (eW 3) ff)<|gf 6)
 (fZ (fV (fG (f1 sC)<|eU (eW 6) ff)<|gf 7)
 (fZ (lu (As (j5<|eZ (t_ true) (eFn gb<|eU (eW 6) ff)<|eC<|.bl false)<|j5<|eZ (kG true) (fG (f1 sC)<|eU (eW 6) ff)<|eW 7)
 (g8<|eC<|.bl false)
 jv)
 (fZ (fV (eFn g5<|eU (eW 2)<|eU (eW 3) ff)<|gf 8)
 (fZ (fV (eFn gb<|eU (gp [none] (jI<|eW 8) (gf 0) gZ<|fG (f1 iQ)<|eU (eW 0) ff) ff)<|gf 9)
 (lu (As (qF<|qT<|fG (f2 oR)<|eU (eW 9)<|eU (eC<|.ty "bool") ff)<|j5<|eZ (kG true) (eW 9)<|eFn gR<|eU (eW 8) ff)
 (g8<|eC<|.bl false)
 jv)))))
abbrev uT:Ic:=
 gX (fG (f2 AJ)<|eU (eC<|.int 2)<|eU (fG (f2 zV)<|eU (fG (f1 gH)<|eU (eW 0) ff)<|eU (eC<|.int 6) ff) ff)
abbrev v_:Sm:=
 fZ (fV (eFn jR<|eU (eW 0)<|eU (eW 1) ff)<|gf 2)
 (fZ (fV (eZ gx (eFn gK<|eU (eZ fW (fU<|eU (eZ fW (eC<|.int 1)<|eFn fh<|eU (eW 2)<|eU (eC<|.int 9) ff) ff)<|eFn g_<|eU (eW 2)<|eU (eZ gx (fU<|eU (eC<|.int 12)<|eU (eC<|.int 39) ff)<|fG (f1 xQ)<|eU (eZ (kG false) (eFn fh<|eU (eW 2)<|eU (eC<|.int 4) ff)<|eC<|.int 2) ff) ff) ff)<|eC<|.int 0)<|gf 3)
 (fZ (lu (j5<|eZ (kG false) (eFn fh<|eU (eW 2)<|eU (eC<|.int 8) ff)<|eC<|.int 7)
 (fV (eZ gx (eFn gK<|eU (gp [none,some 2] (gX<|eZ fW (eC<|.int 41)<|eFn fh<|eU (eW 2)<|eU (eC<|.int 20) ff) (gf 0) gZ<|eZ fW (eC<|.int 1)<|eFn fh<|eU (eW 1)<|eU (eC<|.int 9) ff) ff)<|eC<|.int 0)<|gf 3)
 jv)
 (fZ (fV (gp [none] (jI<|eW 3) (gf 0) gZ<|fG (f1 iQ)<|eU (eW 0) ff)<|gf 4)
 (fZ (lu (As (j5<|eZ (t_ true) (eFn gb<|eU (eW 4) ff)<|eC<|.bl true)<|As (j5<|eZ (kG true) (eW 4)<|eW 3)<|j5<|eZ (t_ true) (eFn gb<|eU (fU ff) ff)<|eC<|.bl true)
 (g8<|eC<|.bl false)
 jv)
 (n5 wF (gf 5)
 vL)))))
abbrev zb:Sm:=
 fZ (n5 uT (gf 1)
 v_)
 (g8<|eC<|.bl true)
abbrev p_:ad->fj->R A:=jW zW zb
section
variable {P:ah}{w:af}{K:aq}{mg:Str->be}{base:ak}{f:aj}{fd:FuncData}
def sR:FnScope lI lZ (fN mh):=tZ rfl rfl rfl ∅
def rP(F:Fun K "is_whole" "is_whole" mh f fd)(K8:mg "isinstance" = none)(K_:mg "bool" = none)(La:mg "int" = none):FnOk P w K mg base nL 1 f fd lZ (pI K 1 jb):=tY (m:=l7) F sR λd B c s H E g=>
 fB (f_<|kO (fD mE K8 gk<|eV (eT 0)<|eV (mW La t6) e_)<|l_<|BE<|fD mE K8 gk<|eV (eT 0)<|eV (mW K_ q_) e_)
def qX:FnScope kM k_ (fN kN):=tZ rfl rfl rfl ∅
def qO(F:Fun K "is_letter" "is_letter" kN f fd)(Lg:∃t,mg "GREATEST_LETTER" = some (.int 1000000000 t))(Lh:pM P w K mg base 1 "is_whole" lZ jb):FnOk P w K mg base nL 2 f fd k_ (pI K 1 ir):=tY (m:=kP) F qX λg B c s H E d=>
 fB (f_<|kO (yx Lh d<|eT 0)<|l_<|Er zo zo eY (eT 0)<|Bu Lg.choose_spec)
def pU:FnScope iY kh (fN ku):=tZ rfl rfl rfl ∅
def pV(F:Fun K "is_letters" "is_letters" ku f fd)(K9:mg "all" = none)(K8:mg "isinstance" = none)(K7:mg "list" = none)(Li:pM P w K mg base 2 "is_letter" k_ ir):FnOk P w K mg base nL 3 f fd kh (pI K 1 gJ):=tY (m:=iW) F pU λg B c s H E d=>
 fB (f_<|kO (fD mE K8 gk<|eV (eT 0)<|eV (mW K7 iB) e_)<|l_<|fD (qo rfl) K9 nM<|eV (iO (N:=["part"]) (cap:=[none]) rfl (jk [] rfl ∅ ∅ ∅ ∅ ∅ (nofun) trivial) (jG<|eT 0) (λ_ _ _ _=>f9 (i:=0) (show(["part"]:am).Nodup by decide +kernel) rfl (Or.inl rfl)<|.inr rfl) (λ_ _ _ _=>gU) λ_ _ _ _=>yx Li d<|eT 0) e_)
def n_:FnScope gG i9 (fN i6):=tZ rfl rfl rfl ∅
def nY(F:Fun K "is_table_row" "is_table_row" i6 f fd)(Lb:mg "sorted" = none)(K4:mg "len" = none)(Lj:pM P w K mg base 3 "is_letters" kh gJ):FnOk P w K mg base nL 4 f fd i9 (pI K 1 fP):=tY (m:=gE) F n_ λg B d s H E c=>
 fB (f_<|kO (yx Lj c<|eT 0)<|kO (m8 (yE c.units) (fD gO K4 gr<|eV (eT 0) e_) eY)<|l_<|m8 (jP c.units) (eT 0)<|fD w_ Lb qb<|eV (eT 0) e_)
def pN:FnScope kg ko (fN kc):=tZ rfl rfl rfl ∅
def pO(F:Fun K "fits_under" "fits_under" kc f fd)(K9:mg "all" = none)(Lk:mg "zip" = none)(K4:mg "len" = none):FnOk P w K mg base nL 1 f fd ko (pI K 2 gI):=tY (m:=j8) F pN λg B c s H E d=>
 fB (f_<|kO (m8 zo (fD gO K4 gr<|eV (eT 0) e_)<|fD gO K4 gr<|eV (eT 1) e_)<|l_<|fD (qo rfl) K9 nM<|eV (iO (N:=["high", "low"]) (cap:=[none,none]) rfl (jk [] rfl ∅ ∅ ∅ ∅ ∅ (nofun) trivial) (Gb Lk (eT 1)<|eT 0) (λ_ _ _ _=>uo rfl<|j0 (f9 (i:=0) (show(["high", "low"]:am).Nodup by decide +kernel) rfl (Or.inl rfl)<|.inr rfl)<|j0 (f9 (i:=1) (show(["high", "low"]:am).Nodup by decide +kernel) rfl (Or.inl rfl)<|.inr rfl) qQ) (λ_ _ _ _=>gU) λ_ _ _ _=>m8 (Dt d.units) (eT 0)<|eT 1) e_)
def sA:FnScope iJ lG (fN lU):=tZ rfl rfl rfl ∅
def rZ(F:Fun K "is_table" "is_table" lU f fd)(K9:mg "all" = none)(K8:mg "isinstance" = none)(K7:mg "list" = none)(K6:mg "range" = none)(K4:mg "len" = none)(Ll:pM P w K mg base 4 "is_table_row" i9 fP)(Lm:pM P w K mg base 1 "fits_under" ko gI):FnOk P w K mg base nL 5 f fd lG (pI K 1 gb):=tY (m:=iH) F sA λg B c s H E d=>
 fy (gy (AW.at<|pG (l9<|lP<|fD mE K8 gk<|eV (eT 0)<|eV (mW K7 iB) e_)<|nh<|l9<|lP<|fD (qo rfl) K9 nM<|eV (iO (N:=["row"]) (cap:=[none]) rfl (jk [] rfl ∅ ∅ ∅ ∅ ∅ (nofun) trivial) (jG<|eT 0) (λ_ _ _ _=>f9 (i:=0) (show(["row"]:am).Nodup by decide +kernel) rfl (Or.inl rfl)<|.inr rfl) (λ_ _ _ _=>gU) λ_ _ _ _=>yx Ll d<|eT 0) e_)
 (fB<|f_ iF)
 gz)
 (fB<|f_<|fD (qo rfl) K9 nM<|eV (iO (N:=["at", "thing"]) (cap:=[none,some 0]) rfl (jk ["thing"] rfl ∅ ∅ ∅ ∅ ∅ (bM.mpr ⟨by first|exact Or.inl rfl|exact Or.inr rfl,(nofun)⟩) ⟨rfl,by decide +kernel,trivial⟩) (qe K6 eY<|fD gO K4 gr<|eV (eT 0) e_) (λ_ _ _ _=>f9 (i:=0) (show(["at", "thing"]:am).Nodup by decide +kernel) rfl (Or.inl rfl)<|.inr rfl) (λ_ _ _ _=>gU) λ_ _ _ _=>mV Lm d (fL (eT 1)<|eT 0)<|fL (eT 1)<|fH tR (eT 0) eY) e_)
def jl:FnScope nH nj (fN nB):=tZ rfl rfl rfl ∅
def uc(F:Fun K "_law_bag" "_law_bag" nB f fd)(K4:mg "len" = none):FnOk P w K mg base nL 1 f fd nj (pI K 2 jR):=tY (m:=nG) F jl λg B c s H E d=>
 fy (fQ (i:=2) jl.nd eY)
 (fy (gy (fX (Dt d.units) (eT 1)<|fD gO K4 gr<|eV (eT 0) e_)
 (fB<|fQ (i:=2) jl.nd<|fL (eT 0)<|eT 1)
 gz)
 (fy (fQ (i:=3) jl.nd eY)
 (fy (gy (fX IX (eT 2)<|fH kY eY eY)
 (fB<|fQ (i:=3) jl.nd<|eT 2)
 gz)
 (fB<|f_<|fM<|eV (eT 3)<|eV (fH rX (fH gw (fH gw (eT 2)<|fH By eY<|eT 1) eY) eY) e_))))
def mH:FnScope jC iy (fN kW):=tZ rfl rfl rfl ∅
def rq(F:Fun K "_law_digit" "_law_digit" kW f fd):FnOk P w K mg base nL 1 f fd iy (pI K 2 fh):=tY (m:=jB) F mH λg B c s H E d=>
 fy (gy (fX (yE d.units) (fL (eT 0) eY) eY)
 (fy (fQ (i:=2) mH.nd<|fH rX (fL (eT 0) eY)<|eT 1)
 (fy (kQ (fH yL (fL (eT 0) eY)<|eT 1)<|kr (eT 0) eY)
 (fB<|f_<|eT 2)))
 gz)
 (fy (kQ (fH rX (fH gw (fH By (fL (eT 0) eY) eY) eY) eY)<|kr (eT 0) eY)
 (fB<|f_<|fH rX (fH rX (fH By (fH yL (fL (eT 0) eY) eY) eY) eY)<|eT 1))
def gm:FnScope jH jK (fN jJ):=tZ rfl rfl rfl ∅
def oO(F:Fun K "_law_letters" "_law_letters" jJ f fd)(K6:mg "range" = none)(K5:pM P w K mg base 1 "_law_digit" iy fh):FnOk P w K mg base nL 2 f fd jK (pI K 2 g_):=tY (m:=jQ) F gm λg B d s H E c=>
 fy (fQ (i:=2) gm.nd<|mV K5 c (eT 0)<|fH gw (eT 1) eY)
 (fy (fQ (i:=3) gm.nd<|mV K5 c (eT 0) eY)
 (fy (fQ (i:=4) gm.nd<|fL (fM<|eV eY<|eV eY<|eV (fH kY eY eY)<|eV eY e_)<|eT 3)
 (fy (fQ (i:=5) gm.nd<|fM e_)
 (fy (lN cD rfl (gT K6<|eT 2) (f9 (i:=6) gm.nd)
 (fy (fQ (i:=7) gm.nd<|fH gw eY<|mV K5 c (eT 0)<|eT 4)
 (fy (gy (AW.at<|E9 (fX (jP c.units) (eT 3) eY)<|Cc<|fX (Jw c.units) (eT 7)<|eT 5)
 (fB<|fQ (i:=7) gm.nd<|fH gw eY<|eT 6)
 gz)
 (fB<|lA<|qp cL cM mT (eT 5)<|eV (eT 7) e_))))
 (fB<|f_<|eT 5)))))
def jm:FnScope m5 nK (fN mZ):=tZ rfl rfl rfl ∅
def uw(F:Fun K "_law_put" "_law_put" mZ f fd)(K7:mg "list" = none)(K6:mg "range" = none)(K4:mg "len" = none):FnOk P w K mg base nL 1 f fd nK (pI K 2 jV):=tY (m:=nJ) F jm λg B c s H E d=>
 fy (mF (i:=2) (N:=["_law_row"]) (cap:=[none]) jm.nd rfl (jk [] rfl ∅ ∅ ∅ ∅ ∅ (nofun) trivial) (jG<|eT 0) (λ_ _ _ _=>f9 (i:=0) (show(["_law_row"]:am).Nodup by decide +kernel) rfl (Or.inl rfl)<|.inr rfl) (λ_ _ _ _=>gU) λ_ _ _ _=>gQ (lJ rfl) K7 iB<|eV (eT 0) e_)
 (fy (lN cD rfl (jG<|eT 2) (f9 (i:=3) jm.nd)
 (fy (mF (i:=4) (N:=["_law_k", "_law_letter", "_law_row"]) (cap:=[none,some 1,some 3]) jm.nd rfl (jk ["_law_letter", "_law_row"] rfl ∅ ∅ ∅ ∅ ∅ (bM.mpr ⟨by first|exact Or.inl rfl|exact Or.inr rfl,(bM.mpr ⟨by first|exact Or.inl rfl|exact Or.inr rfl,(nofun)⟩)⟩) ⟨rfl,by decide +kernel,⟨rfl,by decide +kernel,trivial⟩⟩) (gT K6<|fD gO K4 gr<|eV (eT 3) e_) (λ_ _ _ _=>f9 (i:=0) (show(["_law_k", "_law_letter", "_law_row"]:am).Nodup by decide +kernel) rfl (Or.inl rfl)<|.inr rfl) (λ_ _ _ _=>vB<|fX (yE d.units) (fL (eT 2)<|eT 0)<|eT 1) λ_ _ _ _=>eT 0)
 (fy (gy (fX (jP d.units) (eT 4)<|fM e_)
 (fy (lA<|qp cL cM mT (eT 3)<|eV (eT 1) e_)
 (fB<|f_<|eT 2))
 gz)
 (fB<|kQ (oN<|eV (eT 1)<|eV (fL (eT 3)<|fL (eT 4) eY) e_)<|uo rfl<|j0 (kr (eT 3)<|fL (eT 4) eY)<|j0 (f9 (i:=1) jm.nd) qQ))))
 (fB<|f_<|fH gw (eT 2)<|fM<|eV (fM<|eV (eT 1) e_) e_))
def gC:FnScope j9 j7 (fN kB):=tZ rfl rfl rfl ∅
def pW(F:Fun K "_law_tables" "_law_tables" kB f fd)(K6:mg "range" = none)(K4:mg "len" = none)(Ln:pM P w K mg base 1 "_law_put" nK jV):FnOk P w K mg base nL 2 f fd j7 (pI K 1 gK):=tY (m:=j_) F gC λg B d s H E c=>
 fy (fQ (i:=1) gC.nd<|fM e_)
 (fy (fQ (i:=2) gC.nd<|fM e_)
 (fy (lN cD rfl (gT K6<|fD gO K4 gr<|eV (eT 0) e_) (f9 (i:=3) gC.nd)
 (fy (fQ (i:=4) gC.nd<|mV Ln c (eT 1)<|fL (eT 0)<|eT 3)
 (fy (fQ (i:=5) gC.nd<|fL (iO (N:=["_law_j", "_law_first", "_law_more"]) (cap:=[none,some 1,some 4]) rfl (jk ["_law_first", "_law_more"] rfl ∅ ∅ ∅ ∅ ∅ (bM.mpr ⟨by first|exact Or.inl rfl|exact Or.inr rfl,(bM.mpr ⟨by first|exact Or.inl rfl|exact Or.inr rfl,(nofun)⟩)⟩) ⟨rfl,by decide +kernel,⟨rfl,by decide +kernel,trivial⟩⟩) (gT K6<|fD gO K4 gr<|eV (eT 4) e_) (λ_ _ _ _=>f9 (i:=0) (show(["_law_j", "_law_first", "_law_more"]:am).Nodup by decide +kernel) rfl (Or.inl rfl)<|.inr rfl) (λ_ _ _ _=>vB<|AW.at<|pG (fX (jP c.units) (eT 0)<|fD gO K4 gr<|eV (eT 1) e_)<|nh<|fX (Dt c.units) (fD gO K4 gr<|eV (fL (eT 1)<|eT 0) e_)<|fD gO K4 gr<|eV (fL (eT 2)<|eT 0) e_) λ_ _ _ _=>eT 0) eY)
 (fy (gy (fX (jP c.units) (eT 5)<|fD gO K4 gr<|eV (eT 2) e_)
 (fB<|lA<|qp cL cM mT (eT 2)<|eV (fM e_) e_)
 gz)
 (fy (lA<|qp cL cM mT (fL (eT 2)<|eT 5)<|eV (fH gw (eT 3) eY) e_)
 (fB<|fQ (i:=1) gC.nd<|eT 4))))))
 (fB<|f_<|oN<|eV (eT 1)<|eV (eT 2) e_)))
def gu:FnScope nv nk (fN nA):=tZ rfl rfl rfl ∅
def uC(F:Fun K "_law_odd" "_law_odd" nA f fd)(K7:mg "list" = none)(K4:mg "len" = none)(Ld:mg "tuple" = none)(K6:mg "range" = none)(K5:pM P w K mg base 1 "_law_digit" iy fh):FnOk P w K mg base nL 2 f fd nk (pI K 2 jT):=tY (m:=ny) F gu λg B d s H E c=>
 fy (mF (i:=2) (N:=["_law_row"]) (cap:=[none]) gu.nd rfl (jk [] rfl ∅ ∅ ∅ ∅ ∅ (nofun) trivial) (jG<|eT 1) (λ_ _ _ _=>f9 (i:=0) (show(["_law_row"]:am).Nodup by decide +kernel) rfl (Or.inl rfl)<|.inr rfl) (λ_ _ _ _=>gU) λ_ _ _ _=>gQ (lJ rfl) K7 iB<|eV (eT 0) e_)
 (fy (fQ (i:=3) gu.nd<|mV K5 c (eT 0)<|fD gO K4 gr<|eV (eT 2) e_)
 (fy (fQ (i:=4) gu.nd<|mV K5 c (eT 0) eY)
 (fy (gy (fX (jP c.units) (eT 4) eY)
 (fB<|f_<|fL (fM<|eV (gQ (uX rfl) Ld rJ<|eV (eT 2) e_)<|eV (qJ)<|eV eY<|eV qW<|eV iF<|eV (oN e_)<|eV (fH kY eY eY) e_)<|mV K5 c (eT 0) eY)
 gz)
 (fy (gy (fX (jP c.units) (eT 4) eY)
 (fB<|kQ (fL (fM<|eV (gQ (uX rfl) Ld rJ<|eV (fL (eT 2)<|eT 3) e_)<|eV (qJ)<|eV eY<|eV qW<|eV (oN e_)<|eV (fM<|eV (qJ) e_)<|eV (fM<|eV qW e_)<|eV (fM<|eV (fM<|eV eY e_) e_) e_)<|mV K5 c (eT 0) eY)<|kr (eT 2)<|eT 3)
 (fB (gy (fX (jP c.units) (eT 4) eY)
 (fB<|fQ (i:=2) gu.nd<|fL (fM<|eV (fH gw (eT 2)<|fM<|eV (fM e_) e_)<|eV (fM<|eV (fM e_) e_)<|eV (fH gw (fM<|eV (fM e_) e_)<|eT 2)<|eV (fM<|eV (fM<|eV eY e_)<|eV (fM e_) e_) e_)<|mV K5 c (eT 0) eY)
 (fB (gy (fX (jP c.units) (eT 4) eY)
 (fB<|kQ (fL (fM<|eV iF<|eV iF<|eV eY<|eV (oK eY)<|eV (qJ)<|eV (fH gw (fH kY eY eY) eY)<|eV qW e_)<|mV K5 c (eT 0) eY)<|kr (fL (eT 2)<|eT 3)<|mV K5 c (eT 0)<|fD gO K4 gr<|eV (fL (eT 2)<|eT 3) e_)
 (fB (gy (fX (jP c.units) (eT 4) eY)
 (fB<|kQ (fH gw (fH gw (fM<|eV (fH kY eY eY) e_)<|G5 (fL (eT 2)<|eT 3) (Cy eY) CY)<|fM<|eV eY e_)<|kr (eT 2)<|eT 3)
 (fB (gy (fX (jP c.units) (eT 4) eY)
 (fB<|fQ (i:=2) gu.nd<|fH gw (eT 2)<|fM<|eV (iO (N:=["_law_k"]) (cap:=[none]) rfl (jk [] rfl ∅ ∅ ∅ ∅ ∅ (nofun) trivial) (gT K6<|fH gw (fD gO K4 gr<|eV (fL (eT 2)<|oK eY) e_) eY) (λ_ _ _ _=>f9 (i:=0) (show(["_law_k"]:am).Nodup by decide +kernel) rfl (Or.inl rfl)<|.inr rfl) (λ_ _ _ _=>gU) λ_ _ _ _=>fH tR (fH kY eY eY)<|eT 0) e_)
 (fB (gy (fX (jP c.units) (eT 4) eY)
 (fB<|fQ (i:=2) gu.nd<|fH gw (eT 2)<|fM<|eV (fM<|eV (fL (fL (eT 2)<|oK eY) eY) e_) e_)
 (fB (gy (fX (jP c.units) (eT 4) eY)
 (fB<|fQ (i:=2) gu.nd<|fH gw (eT 2)<|fM<|eV (gQ (lJ rfl) K7 iB<|eV (fL (eT 2)<|oK eY) e_) e_)
 (fB (gy (fX (jP c.units) (eT 4) eY)
 (fB<|fQ (i:=2) gu.nd<|fH gw (fM<|eV (fM<|eV (fH gw (fL (fL (eT 2) eY) eY) eY) e_) e_)<|eT 2)
 (fB (gy (fX (jP c.units) (eT 4) eY)
 (fB<|fQ (i:=2) gu.nd<|fH gw (eT 2)<|fM<|eV (gQ (lJ rfl) K7 iB<|eV (gQ yD K6 BO<|eV (fH kY eY eY)<|eV (fH gw (fH gw (fH kY eY eY)<|fD gO K4 gr<|eV (fL (eT 2)<|oK eY) e_) eY) e_) e_) e_)
 (fB (gy (fX (jP c.units) (eT 4) eY)
 (fB<|fQ (i:=2) gu.nd<|fH gw (Fo<|eT 2)<|fM<|eV (fM<|eV eY e_) e_)
 (fB<|fQ (i:=2) gu.nd<|fM<|eV (eT 2) e_))))))))))))))))))))
 (fB<|f_<|eT 2)))))
def oh:FnScope jq jn (fN ja):=tZ rfl rfl rfl ∅
def n9(F:Fun K "_law_is_whole" "_law_is_whole" ja f fd)(K8:mg "isinstance" = none)(K_:mg "bool" = none)(La:mg "int" = none):FnOk P w K mg base nL 1 f fd jn (pI K 1 gF):=tY (m:=jh) F oh λd B c s H E g=>
 fB (f_<|kO (fD mE K8 gk<|eV (eT 0)<|eV (mW La t6) e_)<|l_<|BE<|fD mE K8 gk<|eV (eT 0)<|eV (mW K_ q_) e_)
def iU:FnScope jc ji (fN jj):=tZ rfl rfl rfl ∅
def oi(F:Fun K "_law_is_table" "_law_is_table" jj f fd)(K8:mg "isinstance" = none)(K7:mg "list" = none)(K9:mg "all" = none)(Lb:mg "sorted" = none)(K6:mg "range" = none)(K4:mg "len" = none)(Lo:pM P w K mg base 1 "_law_is_whole" jn gF):FnOk P w K mg base nL 2 f fd ji (pI K 1 gR):=tY (m:=jd) F iU λg B d s H E c=>
 fy (gy (l9<|lP<|fD mE K8 gk<|eV (eT 0)<|eV (mW K7 iB) e_)
 (fB<|f_ iF)
 gz)
 (fy (lN cD rfl (jG<|eT 0) (f9 (i:=1) iU.nd)
 (fy (gy (AW.at<|pG (l9<|lP<|fD mE K8 gk<|eV (eT 1)<|eV (mW K7 iB) e_)<|nh<|fX (jP c.units) (eT 1)<|fM e_)
 (fB<|f_ iF)
 gz)
 (fy (gy (l9<|lP<|fD (qo rfl) K9 nM<|eV (iO (N:=["_law_letter"]) (cap:=[none]) rfl (jk [] rfl ∅ ∅ ∅ ∅ ∅ (nofun) trivial) (jG<|eT 1) (λ_ _ _ _=>f9 (i:=0) (show(["_law_letter"]:am).Nodup by decide +kernel) rfl (Or.inl rfl)<|.inr rfl) (λ_ _ _ _=>gU) λ_ _ _ _=>kO (yx Lo c<|eT 0)<|l_<|Er zo zo eY (eT 0)<|fH kY eY eY) e_)
 (fB<|f_ iF)
 gz)
 (fB (gy (fX (Dy c.units) (fD w_ Lb qb<|eV (eT 1) e_)<|eT 1)
 (fB<|f_ iF)
 gz)))))
 (fy (lN cD rfl (qe K6 eY<|fD gO K4 gr<|eV (eT 0) e_) (f9 (i:=2) iU.nd)
 (fy (gy (fX (yE c.units) (fD gO K4 gr<|eV (fL (eT 0)<|eT 2) e_)<|fD gO K4 gr<|eV (fL (eT 0)<|fH tR (eT 2) eY) e_)
 (fB<|f_ iF)
 gz)
 (fB (gy (l9<|lP<|fD (qo rfl) K9 nM<|eV (iO (N:=["_law_j", "_law_thing", "_law_k"]) (cap:=[none,some 0,some 2]) rfl (jk ["_law_thing", "_law_k"] rfl ∅ ∅ ∅ ∅ ∅ (bM.mpr ⟨by first|exact Or.inl rfl|exact Or.inr rfl,(bM.mpr ⟨by first|exact Or.inl rfl|exact Or.inr rfl,(nofun)⟩)⟩) ⟨rfl,by decide +kernel,⟨rfl,by decide +kernel,trivial⟩⟩) (gT K6<|fD gO K4 gr<|eV (fL (eT 0)<|eT 2) e_) (λ_ _ _ _=>f9 (i:=0) (show(["_law_j", "_law_thing", "_law_k"]:am).Nodup by decide +kernel) rfl (Or.inl rfl)<|.inr rfl) (λ_ _ _ _=>gU) λ_ _ _ _=>m8 (yE c.units) (fL (fL (eT 1)<|eT 2)<|eT 0)<|fL (fL (eT 1)<|fH tR (eT 2) eY)<|eT 0) e_)
 (fB<|f_ iF)
 gz))))
 (fB<|f_ iF)))
def gn:FnScope jD jO (fN jM):=tZ rfl rfl rfl ∅
def oW(F:Fun K "_law_changed" "_law_changed" jM f fd)(K7:mg "list" = none)(K4:mg "len" = none)(K5:pM P w K mg base 1 "_law_digit" iy fh):FnOk P w K mg base nL 2 f fd jO (pI K 2 g5):=tY (m:=jF) F gn λg B d s H E c=>
 fy (mF (i:=2) (N:=["_law_row"]) (cap:=[none]) gn.nd rfl (jk [] rfl ∅ ∅ ∅ ∅ ∅ (nofun) trivial) (jG<|eT 1) (λ_ _ _ _=>f9 (i:=0) (show(["_law_row"]:am).Nodup by decide +kernel) rfl (Or.inl rfl)<|.inr rfl) (λ_ _ _ _=>gU) λ_ _ _ _=>gQ (lJ rfl) K7 iB<|eV (eT 0) e_)
 (fy (fQ (i:=3) gn.nd<|mV K5 c (eT 0)<|fD gO K4 gr<|eV (eT 2) e_)
 (fy (fQ (i:=4) gn.nd<|mV K5 c (eT 0)<|fD gO K4 gr<|eV (fL (eT 2)<|eT 3) e_)
 (fy (fQ (i:=5) gn.nd<|fL (fL (eT 2)<|eT 3)<|eT 4)
 (fy (fQ (i:=6) gn.nd<|mV K5 c (eT 0)<|fD gO K4 gr<|eV (eT 2) e_)
 (fy (fQ (i:=7) gn.nd<|mV K5 c (eT 0)<|fD gO K4 gr<|eV (fL (eT 2)<|eT 6) e_)
 (fy (fQ (i:=8) gn.nd<|mV K5 c (eT 0) eY)
 (fy (gy (fX (Dt c.units) (eT 8) eY)
 (fB<|kQ (fL (fM<|eV (fH tR (eT 5) eY)<|eV (fH gw (eT 5) eY)<|eV (fL (fL (eT 2)<|eT 6)<|eT 7)<|eV (fH kY eY eY)<|eV (fH gw (fH kY eY eY) eY)<|eV eY e_)<|mV K5 c (eT 0) eY)<|kr (fL (eT 2)<|eT 3)<|eT 4)
 (fB (gy (fX (jP c.units) (eT 8) eY)
 (fB<|lA<|qp PySem.F.slot_list_pop PySem.F.type_list_pop Cw (fL (eT 2)<|eT 3)<|eV (eT 4) e_)
 (fB (gy (fX (jP c.units) (eT 8) eY)
 (fB<|lA<|qp PySem.F.slot_list_insert PySem.F.type_list_insert zq (fL (eT 2)<|eT 3)<|eV (fH gw (eT 4)<|mV K5 c (eT 0) eY)<|eV (fL (fM<|eV (eT 5)<|eV (fH gw (eT 5) eY)<|eV (fL (fL (eT 2)<|eT 6)<|eT 7) e_)<|mV K5 c (eT 0) eY) e_)
 (fB<|kQ (oN<|eV (fL (fL (eT 2)<|eT 6)<|eT 7)<|eV (eT 5) e_)<|uo rfl<|j0 (kr (fL (eT 2)<|eT 3)<|eT 4)<|j0 (kr (fL (eT 2)<|eT 6)<|eT 7) qQ))))))
 (fB<|f_<|eT 2))))))))
def jt:FnScope zW DQ (fN zL):=tZ rfl rfl rfl ∅
set_option smartUnfolding false in
theorem F1(F:Fun K "law" "law" zL f fd)(K6:mg "range" = none)(Lp:mg "max" = none)(Lq:mg "min" = none)(K4:mg "len" = none)(La:mg "int" = none)(K7:mg "list" = none)(Le:mg "repr" = none)(K8:mg "isinstance" = none)(K_:mg "bool" = none)(Lr:pM P w K mg base 1 "_law_bag" nj jR)(Lf:pM P w K mg base 2 "_law_tables" j7 gK)(K5:pM P w K mg base 1 "_law_digit" iy fh)(Ls:pM P w K mg base 2 "_law_letters" jK g_)(Lc:pM P w K mg base 5 "is_table" lG gb)(Lu:pM P w K mg base 2 "_law_odd" nk jT)(Lv:pM P w K mg base 2 "_law_changed" jO g5)(Lw:pM P w K mg base 2 "_law_is_table" ji gR):FnOk P w K mg base nL 6 f fd DQ (pI K 1 p_):=tY (m:=zb) F jt λg B d s H E c=>
 fy (lN cD rfl (gT K6<|fD (ES rfl) Lp FN<|eV eY<|eV (fD (EK rfl) Lq Fy<|eV (fD gO K4 gr<|eV (eT 0) e_)<|eV eY e_) e_) (f9 (i:=1) jt.nd)
 (fy (fQ (i:=2) jt.nd<|mV Lr c (eT 0)<|eT 1)
 (fy (fQ (i:=3) jt.nd<|fL (yx Lf c<|fH gw (fM<|eV (fH gw eY<|mV K5 c (eT 2) eY) e_)<|mV Ls c (eT 2)<|fL (fM<|eV eY<|eV eY e_)<|gQ FU La t6<|eV (m8 (jP c.units) (mV K5 c (eT 2) eY) eY) e_) eY)
 (fy (gy (fX (jP c.units) (mV K5 c (eT 2) eY) eY)
 (fB<|fQ (i:=3) jt.nd<|fL (yx Lf c<|iO (N:=["_law_j", "_law_bag_here"]) (cap:=[none,some 2]) rfl (jk ["_law_bag_here"] rfl ∅ ∅ ∅ ∅ ∅ (bM.mpr ⟨by first|exact Or.inl rfl|exact Or.inr rfl,(nofun)⟩) ⟨rfl,by decide +kernel,trivial⟩) (gT K6<|fH gw eY<|mV K5 c (eT 2) eY) (λ_ _ _ _=>f9 (i:=0) (show(["_law_j", "_law_bag_here"]:am).Nodup by decide +kernel) rfl (Or.inl rfl)<|.inr rfl) (λ_ _ _ _=>gU) λ_ _ _ _=>fH gw eY<|mV K5 c (eT 1) eY) eY)
 gz)
 (fy (mF (i:=4) (N:=["_law_row"]) (cap:=[none]) jt.nd rfl (jk [] rfl ∅ ∅ ∅ ∅ ∅ (nofun) trivial) (jG<|eT 3) (λ_ _ _ _=>f9 (i:=0) (show(["_law_row"]:am).Nodup by decide +kernel) rfl (Or.inl rfl)<|.inr rfl) (λ_ _ _ _=>gU) λ_ _ _ _=>gQ (lJ rfl) K7 iB<|eV (eT 0) e_)
 (fy (gy (AW.at<|pG (fX rz (yx Lc c<|eT 4) iF)<|pG (fX (Dy c.units) (eT 4)<|eT 3)<|nh<|fX rz (yx Lc c<|fM e_) iF)
 (fB<|f_ iF)
 gz)
 (fB (lN cD rfl (gT K6 eY) (f9 (i:=5) jt.nd)
 (fy (fQ (i:=6) jt.nd<|mV Lu c (eT 2)<|eT 3)
 (fy (fQ (i:=7) jt.nd<|fD (zN c.units c.gs) Le xG<|eV (eT 6) e_)
 (fy (gy (AW.at<|pG (fX rz (yx Lc c<|eT 6) iF)<|nh<|fX (Dy c.units) (fD (zN c.units c.gs) Le xG<|eV (eT 6) e_)<|eT 7)
 (fB<|f_ iF)
 gz)
 (fy (fQ (i:=8) jt.nd<|mV Lv c (eT 2)<|eT 3)
 (fy (fQ (i:=9) jt.nd<|yx Lc c<|iO (N:=["_law_row"]) (cap:=[none]) rfl (jk [] rfl ∅ ∅ ∅ ∅ ∅ (nofun) trivial) (jG<|eT 8) (λ_ _ _ _=>f9 (i:=0) (show(["_law_row"]:am).Nodup by decide +kernel) rfl (Or.inl rfl)<|.inr rfl) (λ_ _ _ _=>gU) λ_ _ _ _=>gQ (lJ rfl) K7 iB<|eV (eT 0) e_)
 (fB (gy (AW.at<|pG (l9<|lP<|fD mE K8 gk<|eV (eT 9)<|eV (mW K_ q_) e_)<|nh<|fX (Dy c.units) (eT 9)<|yx Lw c<|eT 8)
 (fB<|f_ iF)
 gz)))))))))))))))
 (fB<|f_ iF)
end
end K55
namespace Tb
abbrev fg (r:ae)(x:Int):Nat:=r.findIdx λy=>decide<|x<y
def Es(r:ae)(x:Int):fg r x<=r.length:=List.findIdx_le_length
def rR{r:ae}{x:Int}(h:fg r x≠r.length):fg r x<r.length:=Nat.lt_of_le_of_ne (Es r x) h
abbrev put:List (ae)->Int->List (ae)
 | [],x=>[[x]]
 | r::rs,x=>if fg r x=r.length then(r++[x])::rs else r.set (fg r x) x::put rs (r.getD (fg r x) 0)
abbrev row:List (ae)->Int->Nat
 | [],_=>0
 | r::rs,x=>if fg r x=r.length then 0 else row rs (r.getD (fg r x) 0)+1
def mq{r:ae}{x:Int}(h:fg r x=r.length):put (r::rs) x=(r++[x])::rs:=aZ h
def o8{r:ae}{x:Int}(h:fg r x≠r.length):put (r::rs) x=r.set (fg r x) x::put rs (r.getD (fg r x) 0):=bu h
def wN{r:ae}{x:Int}(h:fg r x=r.length):row (r::rs) x=0:=aZ h
def AA{r:ae}{x:Int}(h:fg r x≠r.length):row (r::rs) x=row rs (r.getD (fg r x) 0)+1:=bu h
theorem qL:∀(T:List<|ae) (x:Int),row T x<=T.length
 | [],_=>aL _
 | r::rs,x=>by
  by_cases h:fg r x=r.length
  ·rw[wN h];exact cg _
  ·rw[AA h,a_];exact c8<|qL rs _
abbrev bump:ag->Nat->ag
 | [],_=>[1]
 | n::ns,0=>(n+1)::ns
 | n::ns,i+1=>n::bump ns i
theorem iL:∀(T:List<|ae) (x:Int),(put T x).map List.length=bump (T.map List.length) (row T x)
 | [],_=>rfl
 | r::rs,x=>by
  by_cases h:fg r x=r.length
  ·rw[mq h,wN h,bJ,bJ,aU];rfl
  ·rw[o8 h,AA h,bJ,bJ,bA,iL rs];rfl
theorem rQ:∀(ns:ag) (i:Nat),i<=ns.length->(bump ns i).length=if i=ns.length then ns.length+1 else ns.length
 | [],i,h=>by
  have:i=0:=by simpa using h
  subst this;rfl
 | n::ns,0,_=>by rw[bu<|by simp];rfl
 | n::ns,i+1,h=>by
  have h':i<=ns.length:=Nat.le_of_succ_le_succ h;show(bump ns i).length+1=_;rw[rQ ns i h'];by_cases e:i=ns.length
  ·rw[aZ e,aZ<|by rw[a_,e]];rfl
  ·rw[bu e,bu<|by rw[a_];lia];rfl
theorem xE:∀(ns:ag) (i j:Nat),i<=ns.length->(bump ns i).getD j 0=ns.getD j 0+if j=i then 1 else 0
 | [],i,j,h=>by
  have:i=0:=by simpa using h
  subst this
  cases j with
  | zero=>rfl
  | succ j=>simp[bump]
 | n::ns,0,j,_=>by cases j<;>simp[bump]
 | n::ns,i+1,j,h=>by
  cases j with
  | zero=>simp[bump]
  | succ j=>
   have:=xE ns i j<|Nat.le_of_succ_le_succ h;simpa[bump]using this
theorem rO:∀(ns:ag) (i:Nat),(bump ns i).sum=ns.sum+1
 | [],_=>rfl
 | n::ns,0=>by simp[bump];lia
 | n::ns,i+1=>by simp[bump,rO ns i];lia
def vN(T:List<|ae)(x:Int):(put T x).length=if row T x=T.length then T.length+1 else T.length:=by
 have:=cG List.length<|iL T x;rw[aG,rQ _ _<|by rw[aG];exact qL T x,aG]at this;exact this
def kZ(T:List<|ae)(j:Nat):(T.map List.length).getD j 0=(T.getD j []).length:=by
 rw[aE,aE,aR]
 cases T[j]?<;>rfl
def GA(T:List<|ae)(x:Int)(j:Nat):((put T x).getD j []).length=(T.getD j []).length+if j=row T x then 1 else 0:=by
 rw[<- kZ,iL,xE _ _ _<|by rw[aG];exact qL T x,kZ]
def Dw(T:List<|ae)(x:Int):((put T x).map List.length).sum=(T.map List.length).sum+1:=by
 rw[iL,rO]
abbrev add:List (ae)->Nat->Int->List (ae)
 | [],_,k=>[[k]]
 | q::qs,0,k=>(q++[k])::qs
 | q::qs,i+1,k=>q::add qs i k
theorem qa:∀(Q:List<|ae) (i:Nat) (k:Int),(add Q i k).map List.length=bump (Q.map List.length) i
 | [],_,_=>rfl
 | q::qs,0,k=>by simp[add,bump]
 | q::qs,i+1,k=>by simp[add,bump,qa qs i k]
theorem vS:∀(Q:List<|ae) (k:Int),add Q Q.length k=Q++[[k]]
 | [],_=>rfl
 | q::qs,k=>by show q::add qs qs.length k=_;rw[vS qs k];rfl
theorem Bm:∀(Q:List<|ae) (i:Nat) (k:Int),i<Q.length->add Q i k=Q.set i (Q.getD i []++[k])
 | [],_,_,h=>absurd h (dz _)
 | q::qs,0,k,_=>rfl
 | q::qs,i+1,k,h=>by show q::add qs i k=_;rw[Bm qs i k<|Nat.lt_of_succ_lt_succ h];rfl
abbrev tabs (xs:ae):Nat->List (ae)×List (ae)
 | 0=>([],[])
 | i+1=>(put (tabs xs i).1<|xs.getD i 0,add (tabs xs i).2 (row (tabs xs i).1<|xs.getD i 0)<|(i:Int)+1)
theorem lV(xs:ae):∀i,(tabs xs i).2.map List.length=(tabs xs i).1.map List.length
 | 0=>rfl
 | i+1=>by
  show(add _ _ _).map List.length=(put _ _).map List.length;rw[qa,iL,lV xs i]
def za(xs:ae)(i:Nat):(tabs xs i).2.length=(tabs xs i).1.length:=by
 have:=cG List.length<|lV xs i;simpa using this
theorem mJ(xs:ae):∀i,((tabs xs i).1.map List.length).sum=i
 | 0=>rfl
 | i+1=>by
  show((put _ _).map List.length).sum=_;rw[Dw,mJ xs i]
theorem oS:∀{ns:ag},(∀n∈ns,0<n)->ns.length<=ns.sum
 | [],_=>aL _
 | n::ns,h=>by
  have h1:=h n<|aS ..;have d:=oS λm c=>h m<|aK _ c;rw[a_,sum_cons];lia
theorem qd:∀(ns:ag) (j:Nat),ns.getD j 0<=ns.sum
 | [],j=>by simp
 | n::ns,0=>by simp
 | n::ns,j+1=>by have:=qd ns j;rw[sum_cons];dsimp[List.getD_cons_succ];lia
theorem su:∀{ns:ag}{i:Nat},(∀n∈ns,0<n)->∀n∈bump ns i,0<n
 | [],_,_,n,h=>by simp[bump]at h;lia
 | m::ns,0,hp,n,h=>by
  rcases bq.mp h with z|z
  ·lia
  ·exact hp n<|aK _ z
 | m::ns,i+1,hp,n,h=>by
  rcases bq.mp h with z|z
  ·rw[z];exact hp m (aS ..)
  ·exact su (λk c=>hp k<|aK _ c) n z
theorem sj(xs:ae):∀i,∀n∈(tabs xs i).1.map List.length,0<n
 | 0=>λn h=>by cases h
 | i+1=>by
  show ∀n∈(put _ _).map List.length,0<n;rw[iL];exact su<|sj xs i
def o_(xs:ae)(i:Nat):(tabs xs i).1.length<=i/\∀j,((tabs xs i).1.getD j []).length<=i:=by
 refine⟨?_,λj=>?_⟩
 ·have:=oS<|sj xs i;rw[mJ,aG]at this;exact this
 ·have:=qd ((tabs xs i).1.map List.length) j;rw[kZ,mJ]at this;exact this
abbrev gs (r:ae)(x:Int):ag:=(List.range r.length).filter λk=>decide<|x<r.getD k 0
theorem xy:∀(r:ae) (x:Int),(fg r x=r.length->gs r x=[])/\(fg r x≠r.length->∃t,gs r x=fg r x::t)
 | [],x=>⟨λ_=>rfl,λh=>absurd rfl h⟩
 | y::r,x=>by
  have c:=xy r x;have e:gs (y::r) x=if x<y then 0::(gs r x).map Nat.succ else(gs r x).map Nat.succ:=by
   unfold gs;rw[a_,dN,dS,dw];by_cases h:x<y<;>simp[h]<;>rfl
  have e2:fg (y::r) x=if x<y then 0 else fg r x+1:=by
   unfold fg;rw[List.findIdx_cons];by_cases h:x<y<;>simp[h]
  rw[e,e2];by_cases h:x<y
  ·rw[aZ h,aZ h];exact⟨λz=>by simp at z,λ_=>⟨_,rfl⟩⟩
  ·rw[bu h,bu h];refine⟨λz=>?_,λz=>?_⟩
   ·rw[c.1<|by simpa using z];rfl
   ·obtain⟨t,d⟩:=c.2 (by simpa using z);exact⟨t.map Nat.succ,by rw[d];rfl⟩
end Tb
namespace Am
open PySem L2
abbrev Rows (S:fj):ag->List (ae)->Prop
 | [],[]=>True
 | r::rs,x::T=>eX S r=some (x.map .int)/\Rows S rs T
 | _,_=>False
theorem Rows.len:∀{rs:ag}{T:List<|ae},Rows S rs T->rs.length=T.length
 | [],[],_=>rfl
 | _::_,_::_,h=>cG (·+1) (Rows.len h.2)
 | [],_::_,h=>h.elim
 | _::_,[],h=>h.elim
theorem Rows.get:∀{rs:ag}{T:List<|ae}{i:Nat}{r:Nat},Rows S rs T->rs[i]?=some r->i<T.length/\eX S r=some ((T.getD i []).map .int)
 | [],[],_,_,_,e=>by simp at e
 | r::rs,x::T,0,_,h,e=>by simp at e;subst e;exact⟨Nat.zero_lt_succ _,h.1⟩
 | r::rs,x::T,i+1,q,h,e=>by
  obtain⟨h1,c⟩:=Rows.get (i:=i) (r:=q) h.2 (by simpa using e);exact⟨Nat.succ_lt_succ h1,by simpa using c⟩
 | [],_::_,_,_,h,_=>h.elim
 | _::_,[],_,_,h,_=>h.elim
theorem Rows.mono:∀{rs:ag}{T:List<|ae},Rows S rs T->(∀r∈rs,∀xs,eX S r=some xs->eX S' r=some xs)->Rows S' rs T
 | [],[],_,_=>trivial
 | r::rs,x::T,h,k=>⟨k r (aS ..) _ h.1,Rows.mono h.2 λq c=>k q<|aK _ c⟩
 | [],_::_,h,_=>h.elim
 | _::_,[],h,_=>h.elim
theorem Rows.mk:∀{rs:ag}{T:List<|ae},rs.length=T.length->(∀i,i<T.length->eX S (rs.getD i 0)=some ((T.getD i []).map .int))->Rows S rs T
 | [],[],_,_=>trivial
 | r::rs,x::T,hl,h=>⟨h 0<|Nat.zero_lt_succ _,Rows.mk (by simpa using hl) λi hi=>by have:=h (i+1)<|Nat.succ_lt_succ hi;simpa using this⟩
 | [],_::_,h,_=>by simp at h
 | _::_,[],h,_=>by simp at h
theorem Rows.set{S:fj}{ys:ae}:∀{rs:ag}{T:List<|ae}{i:Nat}{r:Nat},Rows S rs T->rs.Nodup->rs[i]?=some r->Rows (S.set r<|.lst<|ys.map .int) rs (T.set i ys)
 | [],[],_,_,_,_,e=>by simp at e
 | r::rs,x::T,0,q,h,nd,e=>by
  simp at e;subst e;refine⟨jA<|kC h.1,Rows.mono h.2 λq d xs e=>?_⟩;rw[gv<|show r≠q from λz=>(bz.mp nd).1<|by rw[z];exact d];exact e
 | r::rs,x::T,i+1,q,h,nd,e=>by
  have c:rs[i]?=some q:=by simpa using e
  refine⟨?_,Rows.set h.2 (bz.mp nd).2 c⟩;rw[gv<|show q≠r from λz=>(bz.mp nd).1<|by rw[<- z];exact bf c];exact h.1
 | [],_::_,_,_,h,_,_=>h.elim
 | _::_,[],_,_,h,_,_=>h.elim
theorem Rows.app:∀{rs rs':ag}{T T':List<|ae},Rows S rs T->Rows S rs' T'->Rows S (rs++rs') (T++T')
 | [],_,[],_,_,h=>h
 | r::rs,_,x::T,_,h,h'=>⟨h.1,Rows.app h.2 h'⟩
 | [],_,_::_,_,h,_=>h.elim
 | _::_,_,[],_,h,_=>h.elim
theorem qi{n:Nat}:∀{rs rs':ag}{T T':List<|ae},Rows S rs T->Rows S rs' T'->lY (nQ S<|n+2) (rs.map .ref) (rs'.map .ref)=some (decide<|T=T')
 | [],[],[],[],_,_=>rfl
 | [],_::_,[],_::_,_,_=>rfl
 | _::_,[],_::_,[],_,_=>rfl
 | r::rs,q::qs,x::T,y::T',h,h'=>by
  show(nQ S (n+2) (.ref r)<|.ref q).bind _=_;have e:nQ S (n+2) (.ref r) (.ref q)=some (decide<|x=y):=by
   show(eX S r).bind (λxs=>(eX S q).bind λys=>lY (nQ S<|n+1) xs ys)=_;rw[h.1,bB,h'.1,bB];exact nF x y
  rw[e,bB]
  skip
  rw[qi h.2 h'.2]
  skip
  by_cases h1:x=y<;>by_cases c:T=T'<;>simp[h1,c]
 | [],_,_::_,_,h,_=>h.elim
 | _::_,_,[],_,h,_=>h.elim
 | _,[],_,_::_,_,h=>h.elim
 | _,_::_,_,[],_,h=>h.elim
structure Tab (S:fj)(n:Nat)(rs:ag)(T:List (ae)):Prop where
 top:eX S n=some (rs.map .ref)
 rows:Rows S rs T
 nd:(n::rs).Nodup
def Tab.len{n:Nat}{rs:ag}{T:List<|ae}(h:Tab S n rs T):rs.length=T.length:=h.rows.len
def Tab.kp{n:Nat}{c:Nat->Prop}(h:Tab S n rs T)(k:Kp c S S')(hc:∀r∈n::rs,¬c r):Tab S' n rs T:=
 ⟨k.lst _ _ (hc n<|aS ..) h.top,h.rows.mono λr d xs e=>k.lst r xs (hc r<|aK _ d) e,h.nd⟩
def Tab.rK{n:Nat}(h:Tab S n rs T)(k:fY S S'):Tab S' n rs T:=h.kp k λ_ _ z=>z
def Rows.lt{S:fj}{rs:ag}(h:Rows S rs T):∀r∈rs,r<S.length:=λr c=>by
 obtain⟨i,hi,e⟩:=cY.mp c;exact kC (h.get<|by rw[aF hi,e]).2
def Tab.lt{S:fj}{n:Nat}(h:Tab S n rs T):∀r∈n::rs,r<S.length:=λr c=>by
 rcases bq.mp c with z|z
 ·rw[z];exact kC h.top
 ·exact h.rows.lt r z
def Tab.set{S:fj}{n:Nat}{T:List<|ae}{i r:Nat}{ys:ae}(h:Tab S n rs T)(hi:rs[i]?=some r):Tab (S.set r<|.lst<|ys.map .int) n rs (T.set i ys):=
 ⟨by rw[gv<|show r≠n from λz=>(bz.mp h.nd).1<|by rw[<- z];exact bf hi];exact h.top,h.rows.set (bz.mp h.nd).2 hi,h.nd⟩
def Tab.push{S:fj}{n:Nat}{ys:ae}(h:Tab S n rs T):Tab ((S++[O.lst<|ys.map .int]).set n<|.lst<|(rs++[S.length]).map .ref) n (rs++[S.length]) (T++[ys]):=by
 have hn:n<S.length:=h.lt n<|aS ..;have d:∀r∈rs,n≠r:=λr c z=>(bz.mp h.nd).1<|z ▸ c;refine⟨jA<|by rw[aU];simp;lia,Rows.app (h.rows.mono λr c xs e=>?_) ⟨?_,trivial⟩,?_⟩
 ·rw[gv<|d r c];exact gh e
 ·rw[gv ()];exact fu
 ·rw[bz,dM];refine⟨λz=>?_,(bz.mp h.nd).2,by simp,λa j b f z=>?_⟩
  ·rcases bh.mp z with z|z
   ·exact d n z rfl
   ·have:n=S.length:=by simpa using z
    lia
  ·have g:b=S.length:=by simpa using f
   have:=h.rows.lt a j
   lia
def Tab.eq{n:Nat}(h:Tab S n rs T)(h':Tab S m qs U):nQ S 12 (.ref n) (.ref m)=some (decide<|T=U):=by
 show(eX S n).bind (λxs=>(eX S m).bind λys=>lY (nQ S 11) xs ys)=_;rw[h.top,bB,h'.top,bB];exact qi h.rows h'.rows
def Tab.nil{n:Nat}(h:eX S n=some []):Tab S n [] []:=⟨h,trivial,by simp⟩
theorem vC{s:Src}{g:Tg}{e:Ex}{T:ad->Prop}(P:Nat->fj->Prop)(it:Nat->A)(f:Nat->A)
  (hget:∀i S,i<s.k->P i S->s.get i S=some (it i)) (hfin:∀S,P s.k S->s.fin S=true)
  (step:∀i τ S,i<s.k->T τ->P i S->∃τ1 S1 S3,g (it i) τ S=.ok τ1 S1/\T τ1/\e τ1 S1=.ok (f i) S3/\P (i+1) S3) :
  ∀k i τ S,k+i=s.k->T τ->P i S->∃S',gB s g gZ e k i τ S=.ok ((List.range' i k).map f) S'/\P s.k S'
 | 0,i,τ,S,hk,hT,hP=>by
  have:i=s.k:=()
  subst this;exact⟨S,by unfold gB;rw[aZ<|hfin S hP];rfl,hP⟩
 | k+1,i,τ,S,hk,hT,hP=>by
  obtain⟨τ1,S1,S3,hg,d,j,c⟩:=step i τ S () hT hP;obtain⟨S',h1,m⟩:=vC P it f hget hfin step k (i+1) τ1 S3 () d c;refine⟨S',?_,m⟩;unfold gB;rw[hget i S () hP,gq,hg,R.gj];show(e τ1 S1).jf _=_;rw[j,R.gj,h1];rfl
theorem r_{s:Src}{g:Tg}{e:Ex}{T:ad->Prop}(P:Nat->ad->fj->Prop)
  (step:∀i acc τ S,i<s.k->T τ->P i acc S->∃x τ1 S1 y S3,s.get i S=some x/\g x τ S=.ok τ1 S1/\T τ1/\e τ1 S1=.ok y S3/\P (i+1) (acc++[y]) S3) (hfin:∀acc S,P s.k acc S->s.fin S=true) :
  ∀k i acc τ S,k+i=s.k->T τ->P i acc S->∃ys S',gB s g gZ e k i τ S=.ok ys S'/\P s.k (acc++ys) S'
 | 0,i,acc,τ,S,hk,hT,hP=>by
  have:i=s.k:=()
  subst this;exact⟨[],S,by unfold gB;rw[aZ<|hfin acc S hP],by rw[dm];exact hP⟩
 | k+1,i,acc,τ,S,hk,hT,hP=>by
  obtain⟨x,τ1,S1,y,S3,hx,hg,d,j,c⟩:=step i acc τ S () hT hP;obtain⟨ys,S',h1,f⟩:=r_ P step hfin k (i+1) (acc++[y]) τ1 S3 () d c;refine⟨y::ys,S',?_,by rw[dI]at f;exact f⟩;unfold gB;rw[hx,gq,hg,R.gj];show(e τ1 S1).jf _=_;rw[j,R.gj,h1];rfl
def jU{src:Ic}{S:fj}{n:Nat}{rs:ag}{T:List<|ae}(h:Tab S n rs T)(hs:src τ S=.ok (jo n (rs.map A.ref).length) S)(hl:T.length<=16777216) :
  ∃(qs:ag) (m:Nat) (S':fj),gp (none::cap) src (gf 0) gZ (fG (f1 iQ)<|eU (eW 0) ff) τ S=.ok (.ref m) S'/\Tab S' m qs T/\fY S S'/\∀r∈m::qs,S.length<=r:=by
 have p:=h.len;rw[aG]at hs;obtain⟨S',h1,F,C,q⟩:=vC (s:=jo n rs.length) (g:=gf 0) (e:=fG (f1 iQ)<|eU (eW 0) ff) (T:=λd=>∃y,d=y::jw cap τ)
  (λi S1=>fY S S1/\S1.length=S.length+i/\∀j,j<i->eX S1 (S.length+j)=some ((T.getD j []).map .int)) (λi=>.ref<|rs.getD i 0) (λi=>.ref<|S.length+i)
  (λi S1 hi h9=>by
   obtain⟨k,_,_⟩:=h9;have hi:i<rs.length:=hi;show(eX S1 n).bind _=_;rw[k.lst n _ (λz=>z) h.top,bB,aR,aF hi,aE,aF hi];rfl)
  (λS1 h9=>by
   obtain⟨k,_,_⟩:=h9;show(match eX S1 n with
    | some ys=>decide (ys.length<=rs.length)
    | none=>false)=true
   rw[k.lst n _ (λz=>z) h.top];simp)
  (λi d S1 hi ⟨y,D⟩ ⟨k,c,B⟩=>by
   have hi:i<rs.length:=hi;subst D;have e1:eX S1 (rs.getD i 0)=some ((T.getD i []).map .int):=k.lst _ _ (λz=>z) (h.rows.get<|by rw[aE,aF hi];rfl).2;refine⟨.ref (rs.getD i 0)::jw cap τ,S1,S1++[.lst<|(T.getD i []).map .int],rfl,⟨_,rfl⟩,?_,k.lay,by rw[aU,c];rfl,λj f=>?_⟩
   ·dsimp[fO,bools,e1,<- c]
   ·by_cases z:j<i
    ·exact gh (B j z)
    ·have:j=i:=()
     subst this;rw[<- c];exact fu)
  rs.length 0 (jw (none::cap) τ) S rfl ⟨_,rfl⟩ ⟨Kp.refl,rfl,λj f=>absurd f<|dz _⟩
 have C:S'.length=S.length+rs.length:=C;have q:∀j,j<rs.length->eX S' (S.length+j)=some ((T.getD j []).map .int):=q;refine⟨(List.range' 0 rs.length).map (S.length+·),S'.length,S'++[.lst<|((List.range' 0 rs.length).map (S.length+·)).map .ref],?_,⟨fu,Rows.mk (by simp[p]) λi hi=>?_,?_⟩,F.lay,λr B=>?_⟩
 ·unfold gp;rw[hs,R.gP];show R.jf (gB (jo n rs.length) (gf 0) gZ _ rs.length 0 (jw (none::cap) τ) S) _=_;rw[h1,R.gj,gc<|by simp;lia,bY];rfl
 ·refine gh ?_;have:((List.range' 0 rs.length).map (S.length+·)).getD i 0=S.length+i:=by
   rw[aE,aR,List.getElem?_range' ()];simp
  rw[this];exact q i ()
 ·rw[bz];refine⟨λz=>?_,?_⟩
  ·obtain⟨j,f,e⟩:=bg.mp z;have:=List.mem_range'.mp f
   lia
  ·rw[List.nodup_iff_pairwise_ne,List.pairwise_map];exact(List.nodup_range' (step:=1)).imp λh z=>h ()
 ·rcases bq.mp B with z|z
  ·rw[z];lia
  ·obtain⟨j,f,e⟩:=bg.mp z
   lia
def Tab.cat{S:fj}{qs:ag}{ys:ae}(h:Tab S m qs U) :
  Tab (S++[O.lst<|ys.map .int]++[O.lst [.ref S.length]]++[O.lst<|qs.map .ref++[.ref S.length]]) (S++[O.lst<|ys.map .int]++[O.lst [.ref S.length]]).length (qs++[S.length]) (U++[ys]):=by
 refine⟨by rw[fu,bO];rfl,Rows.app (h.rows.mono λr _ xs e=>gh<|gh<|gh e) ⟨gh<|gh fu,trivial⟩,?_⟩;have c:=h.rows.lt;rw[bz,dM];refine⟨λz=>?_,(bz.mp h.nd).2,by simp,λa g b d z=>?_⟩
 ·dsimp[aU,a_,List.length_nil]at z
  rcases bh.mp z with z|z
  ·have:=c _ z;lia
  ·have:=aH.mp z;lia
 ·have f:b=S.length:=by simpa using d
  have:=c a g
  lia
def eq_nil{a:Nat}{xs:ad}(h:eX S a=some xs)(h':eX S b=some []):nQ S 12 (.ref a) (.ref b)=some xs.isEmpty:=by
 show(eX S a).bind (λxs=>(eX S b).bind λys=>lY (nQ S 11) xs ys)=_;rw[h,bB,h',bB]
 cases xs<;>rfl
def D6{a:Nat}{xs ys:ae}(h:eX S a=some (xs.map .int))(h':eX S b=some (ys.map .int)):nQ S 12 (.ref a) (.ref b)=some (decide<|xs=ys):=by
 show(eX S a).bind (λxs=>(eX S b).bind λys=>lY (nQ S 11) xs ys)=_;rw[h,bB,h',bB];exact nF xs ys
def ux{a:A}{k:Bool}(h:nQ S 12 a b=some k):kG false a b S=.ok (.bl k) S:=by unfold kG;rw[h];rfl
def BH{a:A}{k:Bool}(h:nQ S 12 a b=some k):kG true a b S=.ok (.bl<|!k) S:=by unfold kG;rw[h];rfl
def tK{xs:ad}{n:Nat}{src:Ic}{t:Te}{e:Ex}{S:fj}(hs:src τ S=.ok (jo n xs.length) S)(hx:eX S n=some xs)(p:A->Bool)(f:A->A)
  (ht:∀x∈xs,t (x::jw cap τ) S=.ok (p x) S) (he:∀x∈xs,p x=true->e (x::jw cap τ) S=.ok (f x) S) (hl:xs.length<=16777216) :
  gp (none::cap) src (gf 0) t e τ S=.ok (.ref S.length) (S++[.lst<|(xs.filter p).map f]):=by
 have c:∀i,i<xs.length->xs.getD i .unb∈xs:=λi hi=>by
  rw[aE,aF hi];exact c9 hi
 rw[qq hs (λi=>xs.getD i .unb) (λi=>p<|xs.getD i .unb) (λi=>f<|xs.getD i .unb) (λi hi=>by
  have hi:i<xs.length:=hi;show(eX S n).bind _=_;rw[hx,bB,aE,aF hi];rfl) (by
   show(match eX S n with
    | some ys=>decide (ys.length<=xs.length)
    | none=>false)=true
   rw[hx];simp) (λi hi=>ht _<|c i hi) (λi hi=>he _<|c i hi) hl]
 have:=nN xs p f .unb;show R.ok _ (S++[O.lst<|((List.range xs.length).filter _).map _])=_;rw[this]
theorem range_one{r:Nat}:∀{N:Nat},r<N->(List.range N).filter (λj=>decide<|j=r)=[r]
 | 0,h=>absurd h (dz _)
 | N+1,h=>by
  rw[List.range_succ,List.filter_append];by_cases e:r=N
  ·subst e;have:(List.range r).filter (λj=>decide<|j=r)=[]:=List.filter_eq_nil_iff.mpr λa c=>by have:=cA.mp c;simp;lia
   rw[this];simp
  ·rw[range_one<|show r<N by lia];have:([N]:ag).filter (λj=>decide<|j=r)=[]:=List.filter_eq_nil_iff.mpr λa c=>by rw[aH.mp c];simp;lia
   rw[this];rfl
def Dg{r N:Nat}(h:r<N):((iS 0 (N:Int)).filter λk=>decide<|k=(r:Int)).map A.int=[.int r]:=by
 unfold iS;rw[dw,bY];have e:((N:Int)-0).toNat=N:=()
 rw[e];have e2:((λk:Int=>decide<|k=(r:Int)) ∘ λk:Nat=>(0:Int)+(k:Int))=λk:Nat=>decide (k=r):=by
  funext k
  show decide ((0:Int)+(k:Int)=(r:Int))=decide (k=r);by_cases z:k=r
  ·rw[aV z,aV ()]
  ·rw[aW z,aW ()]
 rw[e2,range_one h];simp
def GC(r:ae)(x:Int):((iS 0 (r.length:Int)).filter λk=>decide<|x<r.getD k.toNat 0).map A.int=(Tb.gs r x).map λk:Nat=>A.int (k:Int):=by
 unfold iS Tb.gs;rw[dw,bY];have e:((r.length:Int)-0).toNat=r.length:=()
 rw[e];have e2:((λk:Int=>decide<|x<r.getD k.toNat 0) ∘ λk:Nat=>(0:Int)+(k:Int))=λk:Nat=>decide (x<r.getD k 0):=by
  funext k;simp
 rw[e2];refine List.map_congr_left λk _=>?_;simp
def getD_at{r:ae}{k:Nat}(h:k<r.length):r[k]?=some (r.getD k 0):=by rw[aE,aF h];rfl
def kq{r:ae}{i:Int}{k:Nat}(h:i=k)(hk:k<r.length):iN (r.map A.int) i=some (.int<|r.getD k 0):=wu h<|getD_at hk
theorem xN:∀(bs:List Bool),A.Co (bs.map .bl)=some bs
 | []=>rfl
 | b::bs=>by show(A.Co<|bs.map .bl).map (b::·)=_;rw[xN bs];rfl
end Am
namespace Sy
open Tb
abbrev DE (r:ae):Prop:=r.Pairwise (·<=·)
abbrev Fits (u r:ae):Prop:=u.length<=r.length/\∀(j:Nat) (x y:Int),r[j]?=some x->u[j]?=some y->x<y
abbrev pS:List (ae)->Prop
 | []=>True
 | r::T=>r≠[]/\DE r/\(∀u,T.head?=some u->Fits u r)/\pS T
def lD{r:ae}{x:Int}{j:Nat}{y:Int}(h:j<fg r x)(hy:r[j]?=some y):y<=x:=by
 obtain⟨c,e⟩:=aM.mp hy;have:=List.not_of_lt_findIdx (xs:=r) (p:=λy=>decide<|x<y) (i:=j) h;rw[<- e];simpa using this
def DS{r:ae}{x y:Int}(hy:r[fg r x]?=some y):x<y:=by
 obtain⟨c,e⟩:=aM.mp hy;have:=List.findIdx_getElem (xs:=r) (p:=λy=>decide<|x<y) (w:=c);rw[<- e];exact of_decide_eq_true this
def F2{r:ae}{x y:Int}{p:Nat}(hy:r[p]?=some y)(h:x<y):fg r x<=p:=by
 rcases lt_or_ge p (fg r x)with z|z
 ·exact absurd (lD z hy) ()
 ·exact z
abbrev hd (T:List<|ae)(y:Int):ae:=match T with
 | []=>[y]
 | u::_=>if fg u y=u.length then u++[y]else u.set (fg u y) y
def yG(T:List<|ae)(y:Int):(put T y).head?=some (hd T y):=by
 cases T with
 | nil=>rfl
 | cons u T=>
  by_cases h:fg u y=u.length
  ·rw[mq h];show _=some (if _ then _ else _);rw[aZ h];rfl
  ·rw[o8 h];show _=some (if _ then _ else _);rw[bu h];rfl
def BQ{r:ae}{T:List<|ae}{p:Nat}{x y:Int}(hp:r[p]?=some y)(hxy:x<y)(hb:∀j z,j<p->r[j]?=some z->z<=x)(hf:∀u,T.head?=some u->Fits u r):Fits (hd T y) (r.set p x):=by
 obtain⟨g,B⟩:=aM.mp hp;have d:∀(q:Nat) (z:Int),q<=p->(r.set p x)[q]?=some z->z<y:=λq z D c=>by
  rw[cJ]at c;by_cases e:p=q
  ·rw[aZ e,aZ g]at c;have:=aN c;lia
  ·rw[bu e]at c;have:=hb q z () c;lia
 cases T with
 | nil=>
  refine⟨by rw[bA];show 1<=_;lia,λj z w c hw=>?_⟩;have hw:([y]:ae)[j]?=some w:=hw
  cases j with
  | zero=>have:=aN hw;have:=d 0 z (cg _) c;lia
  | succ j=>simp at hw
 | cons u T=>
  obtain⟨m,hc⟩:=hf u rfl;have C:fg u y<=p:=by
   rcases lt_or_ge p u.length with z|z
   ·have k:=aF z;exact F2 k (hc p y _ hp k)
   ·exact bF (Es u y) z
  have f:∀(j:Nat) (z w:Int),(r.set p x)[j]?=some z->u[j]?=some w->z<w:=λj z w c hw=>by
   rw[cJ]at c;by_cases e:p=j
   ·rw[aZ e,aZ g]at c;have:=aN c;have:=hc p y w hp (by rw[e];exact hw)
    lia
   ·rw[bu e]at c;exact hc j z w c hw
  show Fits (if fg u y=u.length then u++[y]else u.set (fg u y) y) (r.set p x);by_cases h:fg u y=u.length
  ·rw[aZ h];refine⟨by rw[bA,aU];show u.length+1<=_;lia,λj z w c hw=>?_⟩
   rcases lt_or_ge j u.length with q|q
   ·rw[aX q]at hw;exact f j z w c hw
   ·rw[bX q]at hw;have e:j-u.length=0:=by
     rcases Nat.eq_zero_or_pos (j-u.length)with z|z
     ·exact z
     ·rw[cU<|by show([y]:ae).length<=_;exact z]at hw;cases hw
    rw[e]at hw;have:=aN hw;have:=d j z () c
    lia
  ·rw[bu h];refine⟨by rw[bA,bA];exact m,λj z w c hw=>?_⟩;rw[cJ]at hw;by_cases e:fg u y=j
   ·rw[aZ e,aZ<|rR h]at hw;have:=aN hw;have:=d j z () c
    lia
   ·rw[bu e]at hw;exact f j z w c hw
def AF{r:ae}{x:Int}(h:DE r)(hx:∀y∈r,y<=x):DE (r++[x]):=by
 unfold DE;rw[List.pairwise_append];exact⟨h,by simp,λa c b d=>by rw[aH.mp d];exact hx a c⟩
def DF{r:ae}{x:Int}(h:fg r x=r.length):∀y∈r,y<=x:=λy c=>by
 obtain⟨j,d,e⟩:=cY.mp c;exact lD (r:=r) (j:=j) ()<|by rw[aF d,e]
def Cg{r:ae}{x:Int}(h:DE r)(hf:fg r x≠r.length):DE (r.set (fg r x) x):=by
 have c:=rR hf;have g:=DS<|aF c;unfold DE at h ⊢;rw[List.pairwise_iff_getElem]at h ⊢;intro i j hi d f;rw[bA]at hi d;rw[List.getElem_set,List.getElem_set];by_cases e1:fg r x=i
 ·rw[aZ e1,bu ()];have:=h (fg r x) j c d ()
  lia
 ·rw[bu e1];by_cases e2:fg r x=j
  ·rw[aZ e2];exact lD (j:=i) () (aF hi)
  ·rw[bu e2];exact h i j hi d f
theorem sd:∀{T:List<|ae}{x:Int},pS T->pS (put T x)
 | [],x,_=>⟨by simp,by show List.Pairwise _ _;simp,(λu h=>by cases h),trivial⟩
 | r::T,x,h=>by
  obtain⟨h1,k,B,p⟩:=h;by_cases hf:fg r x=r.length
  ·rw[mq hf];refine⟨by simp,AF k<|DF hf,λu c=>?_,p⟩;obtain⟨F,C⟩:=B u c;refine⟨by rw[aU];lia,λj a b m f=>?_⟩;have q:=(aM.mp f).1;rw[aX ()]at m;exact C j a b m f
  ·rw[o8 hf];have d:=rR hf;have g:r[fg r x]?=some (r.getD (fg r x) 0):=by rw[aE,aF d];rfl
   refine⟨λz=>h1<|by simpa using z,Cg k hf,λu c=>?_,sd p⟩;rw[yG]at c;rw[<- aN c];exact BQ g (DS g) (λj z q D=>lD q D) B
theorem pY(xs:ae):∀i,i<=xs.length->(tabs xs i).1=(xs.take i).foldl put []
 | 0,_=>rfl
 | i+1,h=>by
  show put (tabs xs i).1 (xs.getD i 0)=_;rw[pY xs i (),List.take_succ_eq_append_getElem (),List.foldl_append,aE,aF ()];rfl
theorem ql:∀(xs:ae) {T:List<|ae},pS T->pS (xs.foldl put T)
 | [],_,h=>h
 | x::xs,_,h=>ql xs<|sd h
end Sy
namespace K55
open PySem L2 Am
abbrev jx (S:fj)(b:Nat):Prop:=∃g st:Int,eX S b=some [.int g,.int st]/\0<=g/\0<=st/\st<4294967296
def jx.kp{c:Nat->Prop}(h:jx S b)(k:Kp c S S')(hb:¬c b):jx S' b:=by
 obtain⟨g,st,e,q⟩:=h;exact⟨g,st,k.lst b _ hb e,q⟩
def jx.lt{S:fj}(h:jx S b):b<S.length:=by obtain⟨_,_,e,_⟩:=h;exact kC e
def Ce{S:fj}{ns:ae}{k:Int}(h0:0<=k)(h1:k<=100):∃S',jR [.frz<|ns.map .int,.int k] S=.ok (.ref S.length) S'/\jx S' S.length/\fY S S':=by
 have q:iK (.int 10) (.int 18)=λS=>R.ok (.int 1000000000000000000) S:=by
  funext S;exact ie ⟨by decide,by decide,by decide⟩
 have p:∀x:Int,qH (.int x) (.int 2147483647)=λS=>R.ok (.int<|x % 2147483647) S:=λx=>by funext S;exact tF ⋯
 have d:∀x:Int,uI (.int 7919) (.int x)=λS=>R.ok (.int<|7919 * x) S:=λx=>by funext S;exact Ao ⋯ ⋯
 have g:∀x:Int,0<=x % 2147483647:=λx=>dY _ ⋯;have j:∀x:Int,x % 2147483647<4294967296:=λx=>by have:=dB x (show(0:Int)<2147483647 by decide);lia
 have m:∀c:Int,∃S',((RS.seq (.nx [A.frz<|ns.map .int,.int k,.int c,.unb] S) (fZ (fV (eC<|.int 0)<|gf 3)
  (fZ (lu (j5<|eZ IC (eW 2)<|eZ iK (eC<|.int 10)<|eC<|.int 18) (fV (eW 2)<|gf 3)<|jv)
  (g8<|fU<|eU (eW 3)<|eU (eZ qH (eZ fW (eZ fW (eW 2)<|eZ uI (eC<|.int 7919)<|eW 1)<|eC<|.int 13)<|eC<|.int 2147483647)<|ff)))).end=.ok (.ref S.length) S')/\jx S' S.length/\fY S S':=by
  intro c;by_cases hc:1000000000000000000<=c
  ·dsimp[fO,bools,q,p,d,aV hc];exact⟨_,rfl,⟨_,_,fu,(),g _,j _⟩,Kp.refl.lay⟩
  ·dsimp[fO,bools,q,p,d,aW hc];exact⟨_,rfl,⟨_,_,fu,Int.le_refl 0,g _,j _⟩,Kp.refl.lay⟩
 unfold jR nG nH;dsimp[fO,bools,gD,Nat.reduceAdd,Nat.reduceSub,aG];by_cases f:k<(ns.length:Int)
 ·have hn:k.toNat<ns.length:=()
  have B:iN (ns.map A.int) k=some (.int ns[k.toNat]):=wu (k:=k.toNat) ()<|aF hn;rw[aV f];dsimp[fO,bools,B];have:=m ns[k.toNat];simpa only [fO,bools]using this
 ·rw[aW f];dsimp[fO,bools];have:=m 0;simpa only [fO,bools]using this
def digit{m:Int}(h:jx S b)(h1:1<=m)(h2:m<1073741824):∃d S',fh [.ref b,.int m] S=.ok (.int d) S'/\0<=d/\d<m/\jx S' b/\Kp (·=b) S S':=by
 obtain⟨g,st,p,hg,hs,q⟩:=h;have B:=kC p;have G:pC 2 0=some 0:=kT rfl ⋯;have J:pC 2 1=some 1:=kT rfl ⋯;have j:∀d k c:Int,0<=d->d<m->0<=k->0<=c->c<4294967296->fh [.ref b,.int m] S=.ok (.int d) (S.set b<|.lst [.int k,.int c])->∃d S',fh [.ref b,.int m] S=.ok (.int d) S'/\0<=d/\d<m/\jx S' b/\Kp (·=b) S S':=
  λd k c C K D a4 F e=>⟨d,_,e,C,K,⟨k,c,jA B,D,a4,F⟩,Kp.refl.set<|.inl rfl⟩
 by_cases f:0<g
 ·refine j (g % m) (g / m) st (dY _ ()) (dB _ ()) (Int.ediv_nonneg hg ()) hs q ?_;unfold fh jB jC;rw[oz];simp[p,sW,Ep,f,tF<|show 0<m by lia,Bp (show 0<m by lia) h2,G]
 ·have e1:0<=(st * 48271+11) % 2147483647:=dY _ ⋯;have e2:(st * 48271+11) % 2147483647<2147483647:=dB _ ⋯;have L:0<=(st * 48271+11) % 2147483647 / 8:=()
  refine j ((st * 48271+11) % 2147483647 / 8 * 69621 % 2147483629 % m) g ((st * 48271+11) % 2147483647) (dY _ ()) (dB _ ()) hg e1 () ?_;unfold fh jB jC;rw[oz];simp[p,sW,Ep,f,J,Ao (show -18446744073709551616<st by lia) (),tF<|show(0:Int)<2147483647 by decide,jA B,Bp (show(0:Int)<8 by decide) ⋯,Ao (show -18446744073709551616<(st * 48271+11) % 2147483647 / 8 by lia) (),tF<|show(0:Int)<2147483629 by decide,tF<|show 0<m by lia]
theorem sN{v:Int}:∀(xs:ae),∃b,Hg S (.int v) (xs.map .int)=some b
 | []=>⟨_,rfl⟩
 | x::xs=>by
  obtain⟨b,e⟩:=sN (S:=S) (v:=v) xs;refine⟨(x == v) || b,?_⟩;show(nQ S 12 (.int x)<|.int v).bind _=_;show Option.bind (some<|x == v) _=_;show Option.map _ (Hg S (.int v)<|xs.map .int)=_;rw[e];rfl
def uK:iK (.int 10) (.int 9)=λS=>R.ok (.int 1000000000) S:=by funext S;exact ie ⟨by decide,by decide,by decide⟩
def ur{S:fj}{most:Int}(h:jx S b)(h0:0<=most)(h1:most<=100) :
  ∃(xs:ae) (L:Nat) (S':fj),g_ [.ref b,.int most] S=.ok (.ref L) S'/\eX S' L=some (xs.map .int)/\(xs.length:Int)<=most/\(∀x∈xs,1<=x/\x<=1000000000)/\jx S' b/\Kp (·=b) S S'/\S.length<=L:=by
 obtain⟨d,S1,e1,d0,d1,K,k1⟩:=digit (m:=most+1) h () ();obtain⟨w,S2,e2,w0,w1,P,k2⟩:=digit (m:=4) K ⋯ ⋯;obtain⟨base,B,b0,b1⟩:∃base:Int,iN ([.int 3,.int 6,.int 1000000000,.int 40]:ad) w=some (.int base)/\1<=base/\base<=1000000000:=by
  rcases(by lia:w=0\/w=1\/w=2\/w=3)with z|z|z|z<;>subst z
  ·exact⟨3,rfl,by decide,by decide⟩
  ·exact⟨6,rfl,by decide,by decide⟩
  ·exact⟨1000000000,rfl,by decide,by decide⟩
  ·exact⟨40,rfl,by decide,by decide⟩
 have hbS:=h.lt;have l1:=k1.len;have l2:=k2.len;unfold g_ jQ jH;dsimp[fO,bools,gD,Nat.reduceAdd,Nat.reduceSub,e1,e2,uK,B];generalize hS3:S2++[O.lst [.int 3,.int 6,.int 1000000000,.int 40]]=S3;have k3:Kp (·=b) S S3:=by rw[<- hS3];exact(k1.trans k2).lay
 have V:jx S3 b:=by rw[<- hS3];exact P.kp (c:=λ_=>False) Kp.refl.lay λz=>z
 have l3:S.length<=S3.length:=k3.len;have nb:S3.length≠b:=()
 refine mG (lo:=0) (hi:=d) (S1:=S3++[.lst []]) (iA (by dsimp[fO,bools])<|iG () ())
  (λi τ S4=>∃(xs:ae) (D F:A),τ=[.ref b,.int most,.int d,.int w,.int base,.ref S3.length,D,F]/\eX S4 S3.length=some (xs.map .int)/\xs.length=i/\(∀x∈xs,1<=x/\x<=1000000000)/\jx S4 b/\Kp (·=b) S S4)
  (λr=>∃(xs:ae) (L:Nat) (S':fj),RS.end (RS.seq r _)=.ok (.ref L) S'/\eX S' L=some (xs.map .int)/\(xs.length:Int)<=most/\(∀x∈xs,1<=x/\x<=1000000000)/\jx S' b/\Kp (·=b) S S'/\S.length<=L)
  ⟨[],_,_,rfl,fu,rfl,(λ_ h=>by cases h),V.kp (c:=λ_=>False) Kp.refl.lay λz=>z,k3.lay⟩ ?_ ?_
 ·rintro i τ S4 hi ⟨xs,D,F,rfl,Y,j,hx,hb4,k4⟩;left;obtain⟨e,p,e5,f0,f1',N,k5⟩:=digit (m:=base) hb4 b0 ();have f:=k5.lst _ _ nb Y;have lL:=kC f;have k:∀l:Int,1<=l->l<=1000000000->∃(ys:ae) (D F:A),[A.ref b,.int most,.int d,.int w,.int base,.ref S3.length,.int<|0+(i:Int),.int l]=[.ref b,.int most,.int d,.int w,.int base,.ref S3.length,D,F]/\eX (p.set S3.length<|.lst<|xs.map A.int++[.int l]) S3.length=some (ys.map .int)/\ys.length=i+1/\(∀x∈ys,1<=x/\x<=1000000000)/\jx (p.set S3.length<|.lst<|xs.map A.int++[.int l]) b/\Kp (·=b) S (p.set S3.length<|.lst<|xs.map A.int++[.int l]):=λl W Z=>by
   refine⟨xs++[l],_,_,rfl,by rw[jA lL,bO];rfl,by rw[aU,j];rfl,λx J=>?_,?_,(k4.trans k5).set<|.inr l3⟩
   ·rcases bh.mp J with z|z
    ·exact hx x z
    ·rw[aH.mp z];exact⟨W,Z⟩
   ·obtain⟨g,st,e,q⟩:=N;exact⟨g,st,by rw[gv nb];exact e,q⟩
  have C:gd (xs.length<sizeLine)=λr:Am.R A=>r:=by funext r;exact sQ (show xs.length<16777216 by lia)
  unfold kD;dsimp[fO,bools,e5];by_cases hw:w=3
  ·rw[show(w == 3)=true by simpa using hw];obtain⟨bb,G⟩:=sN (S:=p) (v:=1+e) xs;have U:J1 false (.int<|1+e) (.ref S3.length) p=.ok (.bl bb) p:=by
    show opt (eX p S3.length) _=_;rw[f,gq,G];rfl
   dsimp[fO,bools,U]
   cases bb with
   | true=>
    dsimp[fO,bools,f,aG,C];exact⟨_,_,rfl,k _ () ()⟩
   | false=>
    dsimp[fO,bools,f,aG,C];exact⟨_,_,rfl,k _ () ()⟩
  ·rw[show(w == 3)=false by simpa using hw];dsimp[fO,bools,f,aG,C];exact⟨_,_,rfl,k _ () ()⟩
 ·rintro τ S4 ⟨xs,D,F,rfl,Y,j,hx,hb4,k4⟩;dsimp[fO,bools];exact⟨xs,_,_,rfl,Y,(),hx,hb4,k4,l3⟩
def Dn{S:fj}{n:Nat}{T:List<|ae}{x:Int}(h:Tab S n rs T)(hl:T.length<=1000)(hr:∀i,(T.getD i []).length<=1000) :
  ∃(qs:ag) (m:Nat) (S':fj),jV [.ref n,.int x] S=.ok (.ref m) S'/\Tab S' m qs (Tb.put T x)/\fY S S'/\∀r∈m::qs,S.length<=r:=by
 obtain⟨qs,m,S1,e1,h1,k1,B⟩:=jU (cap:=[]) (τ:=[.ref n,.int x,.unb,.unb,.unb]) (src:=jI<|eW 0) h (jE (by dsimp[fO,bools]) h.top) ();have hq1:=h1.len;unfold jV nJ m5;dsimp[fO,bools,gD,Nat.reduceAdd,Nat.reduceSub,e1];refine xC (n:=m) (xs:=qs.map .ref) (S1:=S1) (jE (by dsimp[fO,bools]) h1.top)
  (λi τ c=>∃(U:List<|ae) (y:Int) (P a4:A),τ=[.ref n,.int y,.ref m,P,a4]/\Tab c m qs U/\fY S c/\U.length=T.length/\(∀j,(U.getD j []).length<=1000)/\Tb.put T x=U.take i++Tb.put (U.drop i) y)
  (λr=>∃N m' S',RS.end (RS.seq r _)=.ok (.ref m') S'/\Tab S' m' N (Tb.put T x)/\fY S S'/\∀r∈m'::N,S.length<=r) ⟨T,x,_,_,rfl,h1,k1,rfl,hr,rfl⟩ (λi τ c ⟨U,y,P,a4,_,q,_⟩=>q.top) ?_ ?_
 ·rintro i z τ c hz ⟨U,y,P,a4,rfl,q,V,Z,C,d⟩;rw[aR]at hz;obtain⟨r,hr',rfl⟩:=aP.mp hz;obtain⟨hi,f⟩:=q.rows.get hr';generalize hR:U.getD i []=R at f;have Y:R.length<=1000:=by rw[<- hR];exact C i
  have p:U.drop i=R::U.drop (i+1):=by
   rw[List.drop_eq_getElem_cons hi,<- hR,aE,aF hi];rfl
  have fr:S.length<=r:=B r<|aK _<|bf hr';refine⟨[.ref n,.int y,.ref m,.ref r,a4],c,rfl,?_⟩;have ec:=mD (cap:=[some 1,some 3]) (t:=j5<|eZ Cj (eZ gx (eW 2)<|eW 0)<|eW 1) (e:=eW 0) (τ:=[.ref n,.int y,.ref m,.ref r,a4]) (src:=gX<|fG (f1 gH)<|eU (eW 3)<|ff) (S:=c) (S1:=c) (lo:=0) (hi:=(R.length:Int))
   (iA (by dsimp[fO,bools,f,aG])<|iG () ()) (λk=>decide<|y<R.getD k.toNat 0) A.int
   (λk k0 k1=>by
    have:=kq (r:=R) (i:=k) (k:=k.toNat) () ();dsimp[fO,bools,f,this]) (λk _ _ _=>by dsimp[fO,bools]) ()
  rw[GC]at ec;unfold nU;dsimp[fO,bools,ec];have W:eX (c++[O.lst ((Tb.gs R y).map λk:Nat=>A.int (k:Int))]++[O.lst []]) c.length=some ((Tb.gs R y).map λk:Nat=>A.int (k:Int)):=gh fu;have le:eX (c++[O.lst ((Tb.gs R y).map λk:Nat=>A.int (k:Int))]++[O.lst []]) (c++[O.lst ((Tb.gs R y).map λk:Nat=>A.int (k:Int))]).length=some []:=fu;have J:eX (c++[O.lst ((Tb.gs R y).map λk:Nat=>A.int (k:Int))]++[O.lst []]) r=some (R.map .int):=gh<|gh f;have L:Tab (c++[O.lst ((Tb.gs R y).map λk:Nat=>A.int (k:Int))]++[O.lst []]) m qs U:=q.rK Kp.refl.lay.lay;have G:fY S (c++[O.lst ((Tb.gs R y).map λk:Nat=>A.int (k:Int))]++[O.lst []]):=V.lay.lay;have eE:=ux<|eq_nil W le;dsimp[fO,bools,eE];obtain⟨g1,g2⟩:=Tb.xy R y;by_cases g:Tb.fg R y=R.length
  ·right;rw[g1 g];rw[g1 g,cS]at J L G;dsimp[fO,bools,cS,List.isEmpty_nil,bu bE,J,aG,sQ<|show R.length<16777216 by lia];have F:=L.set (i:=i) (r:=r) (ys:=R++[y]) hr';rw[bO]at F;refine⟨_,_,rfl,qs,m,_,rfl,?_,G.set<|.inr fr,B⟩;have e5:Tb.put T x=U.set i (R++[y]):=by
    rw[d,p,Tb.mq g,dF,aZ hi]
   rw[e5];exact F
  ·left;obtain⟨t,ht⟩:=g2 g;have D:=Tb.rR g;rw[ht];rw[ht]at J L G W;have e0:iN (((Tb.fg R y::t).map λk:Nat=>A.int (k:Int))) 0=some (.int (Tb.fg R y:Int)):=sW;have e1:iN (R.map A.int) (Tb.fg R y:Int)=some (.int<|R.getD (Tb.fg R y) 0):=kq rfl D;have e2:pC R.length (Tb.fg R y:Int)=some (Tb.fg R y):=kT rfl D;dsimp[fO,bools,bJ,List.isEmpty_cons,bu bE];rw[bJ]at J L G W e0;dsimp[fO,bools,J,W,e0,e1,aG,e2,oY<|show([_,_]:ad).length<=16777216 by simp,ie<|show([_,_]:ad).length=2 from rfl];have F:=L.set (i:=i) (r:=r) (ys:=R.set (Tb.fg R y) y) hr';rw[eN]at F;refine⟨_,_,rfl,U.set i<|R.set (Tb.fg R y) y,_,_,_,rfl,F,G.set<|.inr fr,by rw[bA];exact Z,λj=>?_,?_⟩
   ·rw[aE,cJ];by_cases hj:i=j
    ·rw[aZ hj,aZ hi];simpa using Y
    ·rw[bu hj,<- aE];exact C j
   ·have e6:∀R',U.set i R'=U.take i++R'::U.drop (i+1):=λR'=>by rw[dF,aZ hi]
    rw[d,p,Tb.o8 g,e6];have l1:(U.take i).length=i:=by rw[cO];lia
    rw[List.take_append,List.drop_append,l1,Nat.add_sub_cancel_left,dO (by lia:(U.take i).length<=i+1),List.drop_of_length_le (by lia:(U.take i).length<=i+1)];simp
 ·rintro τ c ⟨U,y,P,a4,rfl,q,V,Z,C,d⟩;rw[aG,hq1,<- Z,List.take_length,List.drop_length]at d;have hc:=q.cat (ys:=[y]);have hql:=q.len;dsimp[fO,bools];rw[kE (xs:=qs.map .ref) (ys:=[.ref c.length]) (gh<|gh q.top) fu<|by simp;lia];refine⟨qs++[c.length],_,_,rfl,?_,V.lay.lay.lay,λr K=>?_⟩
  ·rw[d];exact hc
  ·have l2:=V.len
   rcases bq.mp K with z|z
   ·rw[z];dsimp[aU];lia
   ·rcases bh.mp z with z|z
    ·exact B r (aK _ z)
    ·rw[aH.mp z];lia
def rD{S:fj}{xs:ae}(h:eX S L=some (xs.map .int))(hl:xs.length<=100) :
  ∃(rs qs:ag) (n m:Nat) (S':fj),gK [.ref L] S=.ok (.tup [.ref n,.ref m]) S'/\Tab S' n rs (Tb.tabs xs xs.length).1/\Tab S' m qs (Tb.tabs xs xs.length).2/\fY S S'/\(∀r∈n::rs,S.length<=r)/\(∀r∈m::qs,S.length<=r)/\∀r∈n::rs,r∉m::qs:=by
 unfold gK j_ j9;dsimp[fO,bools,gD,Nat.reduceAdd,Nat.reduceSub];have lb:(S++[O.lst []]).length=S.length+1:=by rw[aU];rfl
 refine mG (lo:=0) (hi:=(xs.length:Int)) (S1:=S++[.lst []]++[.lst []]) (iA (by dsimp[fO,bools,gh<|gh h,aG])<|iG () ())
  (λi τ S1=>∃(rs qs:ag) (n:Nat) (a3 a4 a5:A),τ=[.ref L,.ref n,.ref (S++[O.lst []]).length,a3,a4,a5]/\Tab S1 n rs (Tb.tabs xs i).1/\Tab S1 (S++[O.lst []]).length qs (Tb.tabs xs i).2/\fY S S1/\(∀r∈n::rs,S.length<=r)/\(∀r∈(S++[O.lst []]).length::qs,S.length<=r)/\∀r∈n::rs,r∉(S++[O.lst []]).length::qs)
  (λq=>∃(rs qs:ag) (n m:Nat) (S':fj),RS.end (RS.seq q _)=.ok (.tup [.ref n,.ref m]) S'/\Tab S' n rs (Tb.tabs xs xs.length).1/\Tab S' m qs (Tb.tabs xs xs.length).2/\fY S S'/\(∀r∈n::rs,S.length<=r)/\(∀r∈m::qs,S.length<=r)/\∀r∈n::rs,r∉m::qs)
  ⟨[],[],S.length,_,_,_,rfl,Tab.nil<|gh fu,Tab.nil fu,Kp.refl.lay.lay,(λr d=>by rw[aH.mp d];exact aL _),(λr d=>by rw[aH.mp d,lb];lia),λr d hq=>by rw[aH.mp d]at hq;have:=aH.mp hq;lia⟩ ?_ ?_
 ·rintro i τ S1 hi ⟨rs,qs,n,a3,a4,a5,rfl,hT,V,Z,fr,N,dj⟩;left;generalize hm:(S++[O.lst []]).length=m at V N dj;have hi':i<xs.length:=()
  obtain⟨z1,z2⟩:=Tb.o_ xs i;have hx:iN (xs.map A.int) (0+(i:Int))=some (.int<|xs.getD i 0):=kq () hi';obtain⟨P,mo,S2,e2,W,k2,U⟩:=Dn (x:=xs.getD i 0) hT () (λj=>by have:=z2 j;lia);have p:=hT.rK k2;have Y:=V.rK k2;have hl2:=(Z.trans k2).lst _ _ (λz=>z) h;generalize hX:xs.getD i 0=x at hx e2 W;generalize hTT:(Tb.tabs xs i).1=T at hT p W z1 z2;generalize hQQ:(Tb.tabs xs i).2=Q at V Y;have hQl:Q.length=T.length:=by rw[<- hQQ,<- hTT];exact Tb.za xs i
  have F:=Tb.vN T x;have hrl:=Tb.qL T x;have hrN:Tb.row T x<(Tb.put T x).length:=by rw[F];split<;>lia
  have lT:=p.len;have lM:=W.len;have lQ:=Y.len;have hN:(Tb.put T x).length<=101:=by rw[F];split<;>lia
  have ec:=mD (cap:=[some 1,some 4]) (t:=As (j5<|eZ (kG false) (eW 0)<|fG (f1 gH)<|eU (eW 1)<|ff)<|j5<|eZ DH (fG (f1 gH)<|eU (eZ gx (eW 1)<|eW 0)<|ff)<|fG (f1 gH)<|eU (eZ gx (eW 2)<|eW 0)<|ff) (e:=eW 0)
   (τ:=[.ref L,.ref n,.ref m,.int<|0+(i:Int),.ref mo,a5]) (src:=gX<|fG (f1 gH)<|eU (eW 4)<|ff) (S:=S2) (S1:=S2) (lo:=0) (hi:=((Tb.put T x).length:Int))
   (iA (by dsimp[fO,bools,W.top,aG,lM])<|iG () ()) (λk=>decide<|k=(Tb.row T x:Int)) A.int
   (λk c0 c1=>by
    dsimp[fO,bools,p.top,aG,lT];by_cases hk:k=(T.length:Int)
    ·rw[show(k == (T.length:Int))=true by simpa using hk];dsimp[fO,bools];have:Tb.row T x=T.length:=by
      rw[F]at c1;by_cases z:Tb.row T x=T.length
      ·exact z
      ·rw[bu z]at c1;lia
     rw[aV ()]
    ·rw[show(k == (T.length:Int))=false by simpa using hk];have hkT:k.toNat<T.length:=by
      rw[F]at c1;by_cases z:Tb.row T x=T.length
      ·rw[aZ z]at c1;lia
      ·rw[bu z]at c1;lia
     have a1:iN (rs.map A.ref) k=some (.ref<|rs.getD k.toNat 0):=i_ (k:=k.toNat) () (by rw[aR,aE,aF<|show k.toNat<rs.length by lia];rfl);have a2:iN (P.map A.ref) k=some (.ref<|P.getD k.toNat 0):=i_ (k:=k.toNat) () (by rw[aR,aE,aF<|show k.toNat<P.length by lia];rfl);have b1:=(p.rows.get (i:=k.toNat) (r:=rs.getD k.toNat 0)<|by rw[aE,aF<|show k.toNat<rs.length by lia];rfl).2;have b2:=(W.rows.get (i:=k.toNat) (r:=P.getD k.toNat 0)<|by rw[aE,aF<|show k.toNat<P.length by lia];rfl).2;have b3:=Tb.GA T x k.toNat;dsimp[fO,bools,p.top,W.top,a1,a2,b1,b2,aG];by_cases z:k.toNat=Tb.row T x
     ·rw[aZ z]at b3;rw[aV (),aV ()]
     ·rw[bu z]at b3;rw[aW (),aW ()]) (λk _ _ _=>by dsimp[fO,bools]) ()
  rw[Dg hrN]at ec;have e0:iN ([.int (Tb.row T x:Nat)]:ad) 0=some (.int (Tb.row T x:Nat)):=sW;generalize hS3:S2++[O.lst [.int (Tb.row T x:Nat)]]=S3 at ec;have g3:eX S3 S2.length=some [.int (Tb.row T x:Nat)]:=by rw[<- hS3];exact fu
  have K:fY S2 S3:=by rw[<- hS3];z_go
  have f:=Y.rK K;have D:=W.rK K;have k3:fY S S3:=(Z.trans k2).trans K;unfold kR;dsimp[fO,bools,Z.lst _ _ (λz=>z) h,hx,e2,ec,g3,e0,f.top,aG,lQ,hQl];have l3:S.length<=S3.length:=k3.len;have l23:=K.len;have l12:=k2.len;have nx:Tb.tabs xs (i+1)=(Tb.put T x,Tb.add Q (Tb.row T x)<|(i:Int)+1):=by rw[<- hTT,<- hQQ,<- hX];rfl
  have frM:∀r∈mo::P,S1.length<=r:=U;have B:=V.lt;have J:m∈m::qs:=aS ..;by_cases d:Tb.row T x=T.length
  ·rw[show(((Tb.row T x:Nat):Int) == (T.length:Int))=true by rw[d];simp];have lm:eX (S3++[O.lst []]) m=some (qs.map .ref):=gh f.top;have hP:=f.push (ys:=[]);rw[cS]at hP;have hPq:=hP.rows.get (i:=qs.length) (r:=S3.length) (by simp);have g4:=hPq.2;have e4:(Q++[([]:ae)]).getD qs.length []=[]:=by rw[aE,lQ];simp
   rw[e4,cS]at g4;have C:iN ((qs++[S3.length]).map A.ref) (Tb.row T x:Int)=some (.ref S3.length):=i_ (k:=qs.length) () (by simp);have g:=hP.top;rw[bO]at g C g4;dsimp[fO,bools,f.top,lm,aG,sQ<|show qs.length<16777216 by lia];dsimp[bJ,cS]at g C g4;dsimp[fO,bools,g,C,g4,List.length_nil,sQ<|show 0<16777216 by decide];have h5:=hP.set (i:=qs.length) (r:=S3.length) (ys:=[(i:Int)+1]) (by simp);have s5:(Q++[[]]).set qs.length [(i:Int)+1]=Tb.add Q (Tb.row T x) ((i:Int)+1):=by
    rw[show Tb.row T x=Q.length by lia,Tb.vS,lQ];simp
   rw[s5,bO]at h5;dsimp[bJ,cS,eS]at h5;have kk:Kp (λa=>a∈m::qs\/S3.length<=a) S3 (((S3++[O.lst []]).set m<|O.lst<|List.map A.ref qs++[A.ref S3.length]).set S3.length<|O.lst<|[]++[A.int<|(i:Int)+1]):=(Kp.refl.lay.set<|.inl<|.inl J).set<|.inr<|aL _;refine⟨_,_,rfl,P,qs++[S3.length],mo,_,_,_,rfl,?_,?_,?_,λr d=>bF Z.len<|U r d,λr d=>?_,λr d hq=>?_⟩
   ·rw[nx];refine D.kp (c:=λa=>a∈m::qs\/S3.length<=a) ?_ λr d z=>?_
    ·simpa[c_]using kk
    ·rcases z with z|z
     ·exact absurd (B r z) (by have:=U r d;lia)
     ·exact absurd (D.lt r d) ()
   ·rw[nx];simpa[c_]using h5
   ·have:fY S (((S3++[O.lst []]).set m<|O.lst<|List.map A.ref qs++[A.ref S3.length]).set S3.length<|O.lst<|[]++[A.int<|(i:Int)+1]):=(k3.lay.set<|.inr<|N m J).set<|.inr l3;simpa[c_]using this
   ·rcases bq.mp d with z|z
    ·rw[z];exact N m J
    ·rcases bh.mp z with z|z
     ·exact N r (aK _ z)
     ·rw[aH.mp z];exact l3
   ·have hrf:=U r d;have hrl:=D.lt r d
    rcases bq.mp hq with z|z
    ·have:=B m J;lia
    ·rcases bh.mp z with z|z
     ·have:=B r<|aK _ z;lia
     ·have:=aH.mp z;lia
  ·rw[show(((Tb.row T x:Nat):Int) == (T.length:Int))=false by rw[beq_eq_false_iff_ne];lia];have hrq:Tb.row T x<qs.length:=()
   generalize hq0:qs.getD (Tb.row T x) 0=q;have G:qs[Tb.row T x]?=some q:=by rw[<- hq0,aE,aF hrq];rfl
   have g4:=(f.rows.get G).2;have C:iN (qs.map A.ref) (Tb.row T x:Int)=some (.ref q):=i_ rfl (by rw[aR,G];rfl);have hbq:(Q.getD (Tb.row T x) []).length<=100:=by
    have e:=Tb.kZ Q<|Tb.row T x;have:=Tb.lV xs i;rw[hTT,hQQ]at this;rw[<- e,this,Tb.kZ];have:=z2<|Tb.row T x;lia
   have hmq:q∈m::qs:=aK _<|bf G;dsimp[fO,bools,f.top,C,g4,aG,sQ<|show(Q.getD (Tb.row T x) []).length<16777216 by lia];have h5:=f.set (i:=Tb.row T x) (r:=q) (ys:=Q.getD (Tb.row T x) []++[(i:Int)+1]) G;rw[<- Tb.Bm Q (Tb.row T x) _ (),bO]at h5;have kk:Kp (·∈m::qs) S3 (S3.set q<|O.lst<|(Q.getD (Tb.row T x) []).map A.int++[A.int<|(i:Int)+1]):=Kp.refl.set<|.inl hmq;refine⟨_,_,rfl,P,qs,mo,_,_,_,rfl,?_,?_,?_,λr d=>bF Z.len<|U r d,λr d=>?_,λr d hq=>?_⟩
   ·rw[nx];refine D.kp (c:=(·∈m::qs)) ?_ λr d z=>?_
    ·simpa[c_]using kk
    ·exact absurd (B r z) (by have:=U r d;lia)
   ·rw[nx];simpa[c_]using h5
   ·have:fY S (S3.set q<|O.lst<|(Q.getD (Tb.row T x) []).map A.int++[A.int<|(i:Int)+1]):=k3.set<|.inr<|N q hmq;simpa[c_]using this
   ·exact N r d
   ·have:=U r d;have:=B r hq
    lia
 ·rintro τ S1 ⟨rs,qs,n,a3,a4,a5,rfl,hT,V,Z,fr,N,dj⟩;rw[show((xs.length:Int)-0).toNat=xs.length by lia]at hT V;dsimp[fO,bools,oY<|show([_,_]:ad).length<=16777216 by simp];exact⟨rs,qs,n,_,_,rfl,hT,V,Z,fr,N,dj⟩
end K55
namespace Sy
open Tb
def Dp{r:ae}(h:DE r){i j:Nat}{x y:Int}(hij:i<=j)(hx:r[i]?=some x)(hy:r[j]?=some y):x<=y:=by
 rcases Nat.lt_or_eq_of_le hij with c|c
 ·obtain⟨hi,e1⟩:=aM.mp hx;obtain⟨d,e2⟩:=aM.mp hy;rw[<- e1,<- e2];exact List.pairwise_iff_getElem.mp h i j hi d c
 ·subst c;rw[hx]at hy;cases hy;exact Int.le_refl _
end Sy
namespace Sy
open Tb
abbrev wh (Q:List<|ae)(k:Int):Nat:=Q.findIdx λq=>decide<|k∈q
def x_(xs:ae){n:Nat}(h:n<=xs.length):pS (tabs xs n).1:=by
 rw[pY xs n h];exact ql _ trivial
def vN(T:List<|ae)(x:Int):T.length<=(put T x).length:=by
 have:=cG List.length<|iL T x;rw[aG]at this;rw[this];have:∀(l:ag) (i:Nat),l.length<=(bump l i).length:=λl=>by
  induction l with
  | nil=>intro i;exact cg _
  | cons n l c=>
   intro i
   cases i with
   | zero=>exact aL _
   | succ i=>exact c8<|c i
 have:=this (T.map List.length)<|row T x;rw[aG]at this;exact this
end Sy
namespace Sy
open Tb
theorem sf:∀{T:List<|ae},pS T->∀k∈T.map List.length,0<k
 | [],_,k,h=>nomatch h
 | q::T,⟨h1,_,_,h4⟩,k,h=>by
  rcases bq.mp h with e|e
  ·rw[e];exact d7.mpr h1
  ·exact sf h4 k e
end Sy
namespace K55
open PySem L2 Am
def Ju{f g:A->A->fj->R A}{ca cb cc:Ex}{a:A}(h1:ca τ S=.ok a S)(h2:cb τ S=.ok b S)(h3:f a b S=.ok (.bl true) S)(h4:cc τ S=.ok c S):BY f g ca cb cc τ S=g b c S:=by
 unfold BY;rw[h1,R.gP,h2,R.gP,h3,R.gP];unfold Ks;show(cc τ S).bind _=_;rw[h4];rfl
abbrev iD:A->Bool
 | .int i=>decide (1<=i) && decide (i<=1000000000)
 | _=>false
abbrev Pl (S:fj):A->Prop
 | .int _ | .bl _ | .f6 | .str _ | .tup _=>True
 | .ref n=>∃xs,eX S n=some xs
 | _=>False
abbrev yl:A->Bool
 | .int _=>true
 | _=>false
def C_{x:A}(h:Pl S x):jb [x] S=.ok (.bl<|yl x) S:=by
 unfold jb l7 lI
 cases x with
 | int i=>dsimp[fO,lq,bools,gD,Nat.reduceAdd,Nat.reduceSub,show ig .int "int" = some true from rfl,show ig .int "bool" = some false from rfl,bN,yl]
 | bl i=>dsimp[fO,lq,bools,gD,Nat.reduceAdd,Nat.reduceSub,show ig .bl "int" = some true from rfl,show ig .bl "bool" = some true from rfl,bT,yl]
 | f6=>dsimp[fO,lq,bools,gD,Nat.reduceAdd,Nat.reduceSub,show ig .f6 "int" = some false from rfl,yl]
 | str i=>dsimp[fO,lq,bools,gD,Nat.reduceAdd,Nat.reduceSub,show ig .str "int" = some false from rfl,yl]
 | tup i=>dsimp[fO,lq,bools,gD,Nat.reduceAdd,Nat.reduceSub,show ig .tup "int" = some false from rfl,yl]
 | ref n=>
  obtain⟨xs,e⟩:=h;dsimp[fO,lq,bools,gD,Nat.reduceAdd,Nat.reduceSub,e,cE,show ig .lst "int" = some false from rfl,yl]
 | _=>exact h.elim
def IT{f g:A->A->fj->R A}{ca cb cc:Ex}{a:A}(h1:ca τ S=.ok a S)(h2:cb τ S=.ok b S)(h3:f a b S=.ok (.bl false) S):BY f g ca cb cc τ S=.ok (.bl false) S:=by
 unfold BY;rw[h1,R.gP,h2,R.gP,h3,R.gP];rfl
def DM{x:Int}{cc:Ex}{τ:ad}(h0:τ.getD 0 .unb=.int x)(h:cc τ S=.ok (.int 1000000000) S):BY uG uG (eC<|.int 1) (eW 0) cc τ S=.ok (.bl<|decide (1<=x) && decide (x<=1000000000)) S:=by
 have v:eW 0 τ S=.ok (.int x) S:=by
  unfold eW;rw[show τ.getD 0 .unb=.int x from h0];rfl
 by_cases c:1<=x
 ·rw[Ju (f:=uG) (g:=uG) (a:=.int 1) (b:=.int x) (c:=.int 1000000000) rfl v (by dsimp[fO,bools,aV c]) h,aV c];dsimp[fO,bools,cT]
 ·rw[IT (f:=uG) (g:=uG) (a:=.int 1) (b:=.int x) rfl v<|by dsimp[fO,bools,aW c],aW c];rfl
def Pl.nu{x:A}(h:Pl S x):x.gW=false:=by
 cases x with
 | unb=>exact h.elim
 | _=>rfl
def yJ{x:A}(h:Pl S x):ir [x] S=.ok (.bl<|iD x) S:=by
 have e:=C_ h;unfold ir kP kM
 cases x with
 | int i=>dsimp[fO,lq,bools,gD,Nat.reduceAdd,Nat.reduceSub,e,yl,DM (S:=S) (x:=i) (cc:=eC<|.int 1000000000) (τ:=[.int i]) rfl rfl,iD]
 | bl i=>dsimp[fO,lq,bools,gD,Nat.reduceAdd,Nat.reduceSub,e,yl,iD]
 | f6=>dsimp[fO,lq,bools,gD,Nat.reduceAdd,Nat.reduceSub,e,yl,iD]
 | str i=>dsimp[fO,lq,bools,gD,Nat.reduceAdd,Nat.reduceSub,e,yl,iD]
 | tup i=>dsimp[fO,lq,bools,gD,Nat.reduceAdd,Nat.reduceSub,e,yl,iD]
 | ref n=>dsimp[fO,lq,bools,gD,Nat.reduceAdd,Nat.reduceSub,e,yl,iD]
 | _=>exact h.elim
def lW{S:fj}(bs:List Bool):sG (.ref S.length) (S++[O.lst<|bs.map A.bl])=.ok (.bl<|bs.all id) (S++[O.lst<|bs.map A.bl]):=by
 show opt (eX _ S.length) _=_;rw[fu,gq,xN,gq];rfl
def qu{r:Nat}{xs:ad}(h:eX S r=some xs)(hl:xs.length<=1000)(hb:∀x∈xs,Pl S x):∃S',gJ [.ref r] S=.ok (.bl<|xs.all iD) S'/\fY S S':=by
 have c:=tK (cap:=[]) (t:=gZ) (e:=eFn ir<|eU (eW 0) ff) (τ:=[.ref r]) (src:=jI<|eW 0) (jE (by dsimp[fO,bools]) h) h (λ_=>true) (λx=>.bl<|iD x)
  (λx hx=>by dsimp[fO,bools]) (λx hx _=>by
   have e:=yJ<|hb x hx;have u:=wj (S:=S) (hb x hx).nu;dsimp[fO,bools,u,e]) ()
 have f:(xs.filter λ_=>true).map (λx=>A.bl<|iD x)=(xs.map iD).map A.bl:=by
  rw[b_.mpr λ_ _=>rfl,bY];rfl
 have d:(xs.map iD).all id=xs.all iD:=by rw[all_map];rfl
 rw[f]at c;unfold gJ iW iY;dsimp[fO,bools,gD,Nat.reduceAdd,Nat.reduceSub,h,cE,show ig .lst "list" = some true from rfl,c,lW,d];exact⟨_,rfl,Kp.refl.lay⟩
abbrev GF:A->Prop
 | .int _ | .bl _ | .f6 | .str _ | .tup _=>True
 | _=>False
def ue{x:A}(h:GF x):gJ [x] S=.ok (.bl false) S:=by
 unfold gJ iW iY
 cases x with
 | int i=>dsimp[fO,lq,bools,gD,Nat.reduceAdd,Nat.reduceSub,show ig .int "list" = some false from rfl]
 | bl i=>dsimp[fO,lq,bools,gD,Nat.reduceAdd,Nat.reduceSub,show ig .bl "list" = some false from rfl]
 | f6=>dsimp[fO,lq,bools,gD,Nat.reduceAdd,Nat.reduceSub,show ig .f6 "list" = some false from rfl]
 | str i=>dsimp[fO,lq,bools,gD,Nat.reduceAdd,Nat.reduceSub,show ig .str "list" = some false from rfl]
 | tup i=>dsimp[fO,lq,bools,gD,Nat.reduceAdd,Nat.reduceSub,show ig .tup "list" = some false from rfl]
 | _=>exact h.elim
def FZ{x:A}(h:GF x):gb [x] S=.ok (.bl false) S:=by
 unfold gb iH iJ
 cases x with
 | int i=>dsimp[fO,lq,bools,gD,Nat.reduceAdd,Nat.reduceSub,show ig .int "list" = some false from rfl,bN]
 | bl i=>dsimp[fO,lq,bools,gD,Nat.reduceAdd,Nat.reduceSub,show ig .bl "list" = some false from rfl,bN]
 | f6=>dsimp[fO,lq,bools,gD,Nat.reduceAdd,Nat.reduceSub,show ig .f6 "list" = some false from rfl,bN]
 | str i=>dsimp[fO,lq,bools,gD,Nat.reduceAdd,Nat.reduceSub,show ig .str "list" = some false from rfl,bN]
 | tup i=>dsimp[fO,lq,bools,gD,Nat.reduceAdd,Nat.reduceSub,show ig .tup "list" = some false from rfl,bN]
 | _=>exact h.elim
abbrev ju (R:ae):Bool:=(R.map A.int).all iD && (decide (0<R.length) && decide (R=sortI R))
def xh{R:ae}:∀x∈R.map A.int,Pl S x:=λx hx=>by
 obtain⟨v,_,rfl⟩:=bg.mp hx;trivial
def A7{r:Nat}{R:ae}(h:eX S r=some (R.map .int))(hl:R.length<64):∃S',fP [.ref r] S=.ok (.bl<|ju R) S'/\fY S S':=by
 obtain⟨S1,e1,d⟩:=qu h (by rw[aG];lia) xh;have h1:=d.lst _ _ (λz=>z) h;have es:pJ (.ref r) S1=.ok (.ref S1.length) (S1++[.lst<|(sortI R).map .int]):=by
  show opt (eX S1 r) _=_;rw[h1,gq,ints_map,gq,ie hl]
 have g:eX (S1++[O.lst<|(sortI R).map .int]) r=some (R.map .int):=gh h1;have eq:=ux<|D6 (a:=r) (b:=S1.length) g fu;unfold fP gE gG ju
 cases c:(R.map A.int).all iD with
 | false=>
  dsimp[fO,lq,bools,gD,Nat.reduceAdd,Nat.reduceSub,e1,c,cB];exact⟨_,rfl,d⟩
 | true=>
  by_cases f:0<R.length
  ·dsimp[fO,lq,bools,gD,Nat.reduceAdd,Nat.reduceSub,e1,c,h1,aG,aV f,aV<|show(0:Int)<(R.length:Int)by lia,es,eq,cT];exact⟨_,rfl,d.lay⟩
  ·dsimp[fO,lq,bools,gD,Nat.reduceAdd,Nat.reduceSub,e1,c,h1,aG,aW f,aW<|show ¬(0:Int)<(R.length:Int)by lia,cB,cZ];exact⟨_,rfl,d⟩
def A0{r:Nat}{xs:ad}(h:eX S r=some xs)(hl:xs.length<=1000)(hb:∀x∈xs,Pl S x)(c:xs.all iD=false):∃S',fP [.ref r] S=.ok (.bl false) S'/\fY S S':=by
 obtain⟨S1,e1,d⟩:=qu h hl hb;unfold fP gE gG;dsimp[fO,lq,bools,gD,Nat.reduceAdd,Nat.reduceSub,e1,c];exact⟨_,rfl,d⟩
def De{x:A}(h:GF x):fP [x] S=.ok (.bl false) S:=by
 have e:=ue (S:=S) h;have u:=wj (S:=S) (show x.gW=false by cases x<;>first|rfl|exact h.elim);unfold fP gE gG;dsimp[fO,lq,bools,gD,Nat.reduceAdd,Nat.reduceSub,u,e]
abbrev iX (S:fj)(x:A)(b:Bool):Prop:=∀d,fY S d->∃c,fP [x] d=.ok (.bl b) c/\fY d c
def iX.inj{x:A}(h:iX S x b)(h':iX S x c):b=c:=by
 obtain⟨_,e,_⟩:=h S Kp.refl;obtain⟨_,d,_⟩:=h' S Kp.refl;rw[e]at d
 cases d;rfl
def kX{r:Nat}{R:ae}(h:eX S r=some (R.map .int))(hl:R.length<64):iX S (.ref r) (ju R):=λc k=>A7 (k.lst _ _ (λz=>z) h) hl
def mw{x:A}(h:GF x):iX S x false:=λc k=>⟨c,De h,Kp.refl⟩
def Pl.kp{x:A}(h:Pl S x)(k:fY S S'):Pl S' x:=by
 cases x with
 | ref n=>obtain⟨xs,e⟩:=h;exact⟨xs,k.lst _ _ (λz=>z) e⟩
 | _=>exact h
def jX{r:Nat}{xs:ad}(h:eX S r=some xs)(hl:xs.length<=1000)(hb:∀x∈xs,Pl S x)(c:xs.all iD=false):iX S (.ref r) false:=λd k=>A0 (k.lst _ _ (λz=>z) h) hl (λx hx=>(hb x hx).kp k) c
theorem Ay:∀{xs:ad},(∀x∈xs,∃b,iX S x b)->∃gs:List Bool,gs.length=xs.length/\∀i x,xs[i]?=some x->iX S x (gs.getD i false)
 | [],_=>⟨[],rfl,λi x e=>nomatch e⟩
 | y::xs,h=>by
  obtain⟨b,c⟩:=h y<|aS ..;obtain⟨gs,l,hg⟩:=Ay λx hx=>h x<|aK _ hx;refine⟨b::gs,cG (·+1) l,λi x e=>?_⟩
  cases i with
  | zero=>cases e;exact c
  | succ i=>exact hg i x e
def qw{n:Nat}{xs:ad}{gs:List Bool}(h:eX S n=some xs)(hl:xs.length<=1000)(l:gs.length=xs.length)(hg:∀i x,xs[i]?=some x->iX S x (gs.getD i false)) :
  ∃S1,fY S S1/\gp [none] (jI<|eW 0) (gf 0) gZ (eFn fP<|eU (eW 0) ff) [.ref n] S=.ok (.ref S1.length) (S1++[.lst<|gs.map A.bl]):=by
 obtain⟨S1,d,B⟩:=ly (s:=jo n xs.length) (g:=gf 0) (t:=gZ) (e:=eFn fP<|eU (eW 0) ff)
  (P:=λS1=>fY S S1) (T:=λc=>∃y,c=[y])
  (λi=>xs.getD i .f6) (λ_=>true) (λi=>.bl<|gs.getD i false)
  (λi S1 hi k=>by
   have hi:i<xs.length:=hi;show(eX S1 n).bind _=_;rw[k.lst _ _ (λz=>z) h];show xs[i]?=_;rw[aE,aF hi];rfl)
  (λS1 k=>by
   show(match eX S1 n with|some xs=>_|none=>_)=true;rw[k.lst _ _ (λz=>z) h];simp)
  (λi τ S1 hi ⟨y,e⟩ k=>by
   subst e;have hi:i<xs.length:=hi;have hx:xs[i]?=some (xs.getD i .f6):=by rw[aE,aF hi];rfl
   obtain⟨m,e2,p⟩:=hg i _ hx S1 k;have nu:xs.getD i .f6≠.unb:=λz=>by
    rw[z]at e2;exact absurd e2<|by unfold fP gE gG;intro q;cases q
   generalize xs.getD i .f6=x at e2 nu;refine⟨[x],S1,S1,by dsimp[fO,bools],by dsimp[fO,bools],⟨_,rfl⟩,(λz=>by cases z),λ_=>⟨m,?_,k.trans p⟩⟩;have u:=wj (S:=S1) (show x.gW=false by cases x<;>first|rfl|exact absurd rfl nu);dsimp[fO,bools,u,e2])
  xs.length 0 [.unb] S (by show xs.length+0=xs.length;lia) ⟨_,rfl⟩ Kp.refl
 have f:((List.range' 0 xs.length).filter λ_=>true).map (λi=>A.bl<|gs.getD i false)=gs.map A.bl:=by
  rw[b_.mpr λ_ _=>rfl,<- l];refine List.ext_getElem (by simp) λi h1 j=>?_;simp[List.getElem_range'];rw[aF<|by simpa using j];rfl
 rw[f]at d;refine⟨S1,B,?_⟩;unfold gp;rw[jE (S1:=S) (by dsimp[fO,bools]) h,Am.R.gP];show Am.R.jf (gB (jo n xs.length) _ _ _ xs.length 0 [.unb] S) _=_;rw[d,Am.R.gj,gc<|by simp;lia]
def vU{n:Nat}{xs:ad}(h:eX S n=some xs)(hl:xs.length<=1000)(hb:∀x∈xs,∃b,iX S x b)(c:∃x∈xs,iX S x false):∃S',gb [.ref n] S=.ok (.bl false) S'/\fY S S':=by
 obtain⟨gs,l,hg⟩:=Ay hb;obtain⟨S1,d,e1⟩:=qw h hl l hg;have g:gs.all id=false:=by
  obtain⟨x,hx,f⟩:=c;obtain⟨i,hi,e⟩:=bG hx;have:=(hg i x<|by rw[aF hi,e]).inj f;rw[aE,aF ()]at this;refine cW.mpr λz=>?_;have:=bW.mp z _ (c9<|show i<gs.length by lia)
  simp_all
 unfold gb iH iJ;dsimp[fO,lq,bools,gD,Nat.reduceAdd,Nat.reduceSub,h,cE,show ig .lst "list" = some true from rfl,bT,e1,lW,g,bN];exact⟨_,rfl,d.lay⟩
end K55
namespace K55
open PySem L2 Am
abbrev jL (U R:ae):Bool:=decide (U.length<=R.length) && ((List.range U.length).map λi=>decide<|R.getD i 0<U.getD i 0).all id
def Br{r q:Nat}{R U:ae}(hr:eX S r=some (R.map .int))(hq:eX S q=some (U.map .int))(hl:R.length<=1000):∃S',gI [.ref q,.ref r] S=.ok (.bl<|jL U R) S'/\fY S S':=by
 unfold gI j8 kg jL;by_cases j:U.length<=R.length
 ·have c:qy (eW 1) (eW 0) [.ref q,.ref r] S=.ok (qg r q<|min (R.map A.int).length (U.map A.int).length) S:=yI (S1:=S) (by dsimp[fO,bools]) (by dsimp[fO,bools]) hr hq;have p:min (R.map A.int).length (U.map A.int).length=U.length:=by rw[aG,aG];lia
  rw[p]at c;obtain⟨S',f,C⟩:=ly (s:=qg r q U.length) (g:=Gu 2<|yz (gf 0)<|yz (gf 1) Gj) (t:=gZ) (e:=eZ DH (eW 0)<|eW 1)
   (P:=λS1=>S1=S) (T:=λd=>∃y z,d=[y,z])
   (λi=>.tup [.int<|R.getD i 0,.int<|U.getD i 0]) (λ_=>true) (λi=>.bl<|decide<|R.getD i 0<U.getD i 0)
   (λi S1 hi e=>by
    subst e;have hi:i<U.length:=hi;show(eX S1 r).bind _=_;rw[hr];show(eX S1 q).bind _=_;rw[hq];show((R.map A.int)[i]?).bind _=_;rw[aR,aF (),aR,aF hi,aE,aF (),aE,aF hi];rfl)
   (λS1 e=>by
    subst e;show(match eX S1 r,eX S1 q with|some xs,some ys=>_|_,_=>_)=true;rw[hr,hq];simp)
   (λi τ S1 hi ⟨y,z,e⟩ m=>by
    subst e m;refine⟨[.int<|R.getD i 0,.int<|U.getD i 0],S1,S1,by dsimp[fO,bools,ie<|show([_,_]:ad).length=2 from rfl],by dsimp[fO,bools],⟨_,_,rfl⟩,(λz=>by cases z),λ_=>⟨S1,by dsimp[fO,bools],rfl⟩⟩)
   U.length 0 [.unb,.unb] S (by show U.length+0=U.length;lia) ⟨_,_,rfl⟩ rfl
  subst C;have k:((List.range' 0 U.length).filter λ_=>true).map (λi=>A.bl<|decide<|R.getD i 0<U.getD i 0)=((List.range U.length).map λi=>decide<|R.getD i 0<U.getD i 0).map A.bl:=by
   rw[b_.mpr λ_ _=>rfl,bY,cX];rfl
  rw[k]at f;have B:gp [none,none] (qy (eW 1)<|eW 0) (Gu 2<|yz (gf 0)<|yz (gf 1) Gj) gZ (eZ DH (eW 0)<|eW 1) [.ref q,.ref r] S'=.ok (.ref S'.length) (S'++[.lst<|((List.range U.length).map λi=>decide<|R.getD i 0<U.getD i 0).map A.bl]):=by
   unfold gp;rw[c,Am.R.gP];show Am.R.jf (gB (qg r q U.length) _ _ _ U.length 0 [.unb,.unb] S') _=_;rw[f,Am.R.gj,gc<|by simp;lia]
  dsimp[fO,lq,bools,gD,Nat.reduceAdd,Nat.reduceSub,hr,hq,aG,aV j,aV<|show(U.length:Int)<=(R.length:Int)by lia,B,lW,cT];exact⟨_,rfl,Kp.refl.lay⟩
 ·dsimp[fO,lq,bools,gD,Nat.reduceAdd,Nat.reduceSub,hr,hq,aG,aW j,aW<|show ¬(U.length:Int)<=(R.length:Int)by lia,cB];exact⟨_,rfl,Kp.refl⟩
abbrev mj (T:List<|ae):Bool:=(T.map ju).all id && ((List.range<|T.length-1).map λi=>jL (T.getD (i+1) [])<|T.getD i []).all id
structure Tw (S:fj)(n:Nat)(rs:ag)(T:List (ae)):Prop where
 top:eX S n=some (rs.map .ref)
 rows:Rows S rs T
def Tw.len{n:Nat}{rs:ag}{T:List<|ae}(h:Tw S n rs T):rs.length=T.length:=h.rows.len
def Tw.rK{n:Nat}(h:Tw S n rs T)(k:fY S S'):Tw S' n rs T:=⟨k.lst _ _ (λz=>z) h.top,h.rows.mono λr _ xs e=>k.lst _ _ (λz=>z) e⟩
def zu{n:Nat}(h:Tab S n rs T):Tw S n rs T:=⟨h.top,h.rows⟩
def oE{n:Nat}{T:List<|ae}(h:Tw S n rs T)(hl:T.length<=1000)(hr:∀i,(T.getD i []).length<64):∃S',gb [.ref n] S=.ok (.bl<|mj T) S'/\fY S S':=by
 have len:=h.len;have d:∀j,j<T.length->rs[j]?=some (rs.getD j 0):=λj W=>by rw[aE,aF ()];rfl
 obtain⟨S1,N,e1⟩:=qw (gs:=T.map ju) h.top (by rw[aG];lia) (by rw[aG,aG,len]) (λi x e=>by
  rw[aR]at e;obtain⟨r,hr',rfl⟩:=aP.mp e;obtain⟨hi,f⟩:=h.rows.get hr';have:(T.map ju).getD i false=ju (T.getD i []):=by
   rw[aE,aR,aE,aF hi];rfl
  rw[this];exact kX f<|hr i)
 obtain⟨S2,m⟩:∃S2,S2=S1++[O.lst<|(T.map ju).map A.bl]:=⟨_,rfl⟩;have D:fY S S2:=by rw[m];exact N.lay
 have G:=h.rK D;have q:=lW (S:=S1)<|T.map ju;rw[<- m]at e1 q;obtain⟨J,K,L⟩:=ly (s:=iT 1 (T.length:Int)) (g:=gf 0) (t:=gZ) (e:=eFn gI<|eU (eZ gx (eW 1)<|eW 0)<|eU (eZ gx (eW 1)<|eZ aSub (eW 0)<|eC<|.int 1) ff)
  (P:=λS1=>fY S2 S1) (T:=λp=>∃y,p=[y,.ref n])
  (λi=>.int<|1+(i:Int)) (λ_=>true) (λi=>.bl<|jL (T.getD (i+1) [])<|T.getD i [])
  (λi S1 hi k=>aZ hi) (λS1 k=>rfl)
  (λi τ S1 hi ⟨y,e⟩ k=>by
   subst e;have hi:i<((T.length:Int)-1).toNat:=hi;have F:=G.rK k;have V:iN (rs.map A.ref) (1+(i:Int))=some (.ref<|rs.getD (i+1) 0):=i_ (k:=i+1) () (by rw[aR,d (i+1) ()];rfl);have U:iN (rs.map A.ref) (1+(i:Int)-1)=some (.ref<|rs.getD i 0):=i_ (k:=i) () (by rw[aR,d i ()];rfl);obtain⟨S4,e4,k4⟩:=Br (F.rows.get<|d i ()).2 (F.rows.get<|d (i+1) ()).2 (by have:=hr i;lia);exact⟨[.int<|1+(i:Int),.ref n],S1,S1,by dsimp[fO,bools],by dsimp[fO,bools],⟨_,rfl⟩,(λz=>by cases z),λ_=>⟨S4,by dsimp[fO,bools,F.top,V,U,e4],k.trans k4⟩⟩)
  ((T.length:Int)-1).toNat 0 [.unb,.ref n] S2 (by show _+0=((T.length:Int)-1).toNat;lia) ⟨_,rfl⟩ Kp.refl
 have C:((List.range' 0 ((T.length:Int)-1).toNat).filter λ_=>true).map (λi=>A.bl<|jL (T.getD (i+1) [])<|T.getD i [])=((List.range<|T.length-1).map λi=>jL (T.getD (i+1) [])<|T.getD i []).map A.bl:=by
  rw[b_.mpr λ_ _=>rfl,bY,cX,show((T.length:Int)-1).toNat=T.length-1 by lia];rfl
 rw[C]at K;have B:gp [none,some 0] (nV (eC<|.int 1)<|fG (f1 gH)<|eU (eW 0) ff) (gf 0) gZ (eFn gI<|eU (eZ gx (eW 1)<|eW 0)<|eU (eZ gx (eW 1)<|eZ aSub (eW 0)<|eC<|.int 1) ff) [.ref n] S2=.ok (.ref J.length) (J++[.lst<|((List.range<|T.length-1).map λi=>jL (T.getD (i+1) [])<|T.getD i []).map A.bl]):=by
  unfold gp;rw[rF (S1:=S2) (S2:=S2) (i:=1) (j:=(T.length:Int)) (by dsimp[fO,bools]) (by dsimp[fO,bools,G.top,aG,len]) (iG ⋯ ⋯)<|iG () (),Am.R.gP];show Am.R.jf (gB (iT 1 (T.length:Int)) _ _ _ ((T.length:Int)-1).toNat 0 [.unb,.ref n] S2) _=_;rw[K,Am.R.gj,gc<|by simp;lia]
 unfold gb iH iJ mj
 cases c:(T.map ju).all id with
 | false=>
  dsimp[fO,lq,bools,gD,Nat.reduceAdd,Nat.reduceSub,h.top,cE,show ig .lst "list" = some true from rfl,bT,e1,q,c,bN,cB];exact⟨_,rfl,D⟩
 | true=>
  dsimp[fO,lq,bools,gD,Nat.reduceAdd,Nat.reduceSub,h.top,cE,show ig .lst "list" = some true from rfl,bT,e1,q,c,B,lW,cT];exact⟨_,rfl,(D.trans L).lay⟩
def Bs{x:Int}:gF [.int x] S=.ok (.bl true) S:=by
 unfold gF jh jq;dsimp[fO,lq,bools,gD,Nat.reduceAdd,Nat.reduceSub,show ig .int "int" = some true from rfl,show ig .int "bool" = some false from rfl,bN]
def vK{T:List<|ae}(hi:i<T.length)(c:ju (T.getD i [])=false):mj T=false:=by
 unfold mj;have:(T.map ju).all id=false:=cW.mpr λz=>by
  have:=bW.mp z (ju T[i])<|bg.mpr ⟨_,c9 hi,rfl⟩;rw[aE,aF hi]at c
  simp_all
 rw[this,cB]
def oA{T:List<|ae}(hi:i<T.length-1)(c:jL (T.getD (i+1) []) (T.getD i [])=false):mj T=false:=by
 unfold mj;have:((List.range<|T.length-1).map λi=>jL (T.getD (i+1) [])<|T.getD i []).all id=false:=cW.mpr λz=>by
  have:=bW.mp z _ (bg.mpr ⟨i,cA.mpr hi,rfl⟩)
  simp_all
 rw[this,cZ]
def xr{T:List<|ae}(h1:∀i,i<T.length->ju (T.getD i [])=true)(h2:∀i,i<T.length-1->jL (T.getD (i+1) []) (T.getD i [])=true):mj T=true:=by
 unfold mj;rw[bQ];refine⟨bW.mpr λb c=>?_,bW.mpr λb c=>?_⟩
 ·obtain⟨r,d,rfl⟩:=bg.mp c;obtain⟨i,hi,e⟩:=bG d;have:=h1 i hi;rw[aE,aF hi,e]at this;exact this
 ·obtain⟨i,hi,rfl⟩:=bg.mp c;exact h2 i<|cA.mp hi
def BJ{n:Nat}{T:List<|ae}(h:Tw S n rs T)(hl:T.length<=1000)(hr:∀i,(T.getD i []).length<64):∃S',gR [.ref n] S=.ok (.bl<|mj T) S'/\fY S S':=by
 have len:=h.len;have C:∀j,j<T.length->rs[j]?=some (rs.getD j 0):=λj V=>by rw[aE,aF ()];rfl
 have top:∀j:Nat,j<T.length->iN (rs.map A.ref) (j:Int)=some (.ref<|rs.getD j 0):=λj V=>i_ (k:=j) rfl (by rw[aR,C j V];rfl);unfold gR jd jc;dsimp[fO,bools,gD,Nat.reduceAdd,Nat.reduceSub,h.top,cE,show ig .lst "list" = some true from rfl,bT];refine xC (n:=n) (xs:=rs.map .ref) (S1:=S) (jE (by dsimp[fO,bools]) h.top)
  (λi τ S1=>(∃F,τ=[.ref n,F,.unb])/\fY S S1/\∀j,j<i->ju (T.getD j [])=true)
  (λr=>∃S',RS.end (RS.seq r _)=.ok (.bl<|mj T) S'/\fY S S') ⟨⟨_,rfl⟩,Kp.refl,λj z=>absurd z<|dz _⟩ (λi τ S1 ⟨_,k,_⟩=>k.lst _ _ (λz=>z) h.top) ?_ ?_
 ·rintro i z τ S1 hz ⟨⟨F,rfl⟩,k,q⟩;rw[aR]at hz;obtain⟨r,hr',rfl⟩:=aP.mp hz;obtain⟨hi,K⟩:=h.rows.get hr';have m:=k.lst _ _ (λz=>z) K;have P:=hr i;have d:=vK hi;refine⟨[.ref n,.ref r,.unb],S1,rfl,?_⟩;generalize hR:T.getD i []=R at m P d;have e0:=ux<|eq_nil (S:=S1++[O.lst []]) (b:=S1.length) (gh m) fu;rw[List.isEmpty_map]at e0;have h1:eX (S1++[O.lst []]) r=some (R.map .int):=gh m;obtain⟨S2,G⟩:∃S2,S2=S1++[O.lst []]:=⟨_,rfl⟩;have D:fY S S2:=by rw[G];exact k.lay
  rw[<- G]at e0 h1;have L:=tK (cap:=[]) (t:=gZ) (e:=nZ (eFn gF<|eU (eW 0)<|ff)<|BY uG uG (eC<|.int 1) (eW 0)<|eZ iK (eC<|.int 10)<|eC<|.int 9) (τ:=[.ref n,.ref r,.unb]) (src:=jI<|eW 1) (jE (by dsimp[fO,bools]) h1) h1 (λ_=>true) (λx=>.bl<|iD x)
   (λx hx=>by dsimp[fO,bools]) (λx hx _=>by
    obtain⟨v,_,rfl⟩:=bg.mp hx;dsimp[fO,lq,bools,Bs,DM (S:=S2) (x:=v) (cc:=eZ iK (eC<|.int 10)<|eC<|.int 9) (τ:=[.int v]) rfl<|by dsimp[fO,bools,uK],iD]) (by rw[aG];lia)
  have Z:((R.map A.int).filter λ_=>true).map (λx=>A.bl<|iD x)=((R.map A.int).map iD).map A.bl:=by
   rw[b_.mpr λ_ _=>rfl,bY (g:=A.bl) (f:=iD)];rfl
  have ea:((R.map A.int).map iD).all id=(R.map A.int).all iD:=by rw[all_map];rfl
  rw[Z]at L;obtain⟨B,J⟩:∃B,B=S2++[O.lst<|((R.map A.int).map iD).map A.bl]:=⟨_,rfl⟩;have k3:fY S B:=by rw[J];exact D.lay
  have a3:=lW (S:=S2)<|(R.map A.int).map iD;have h3:eX B r=some (R.map .int):=by rw[J];exact gh h1
  rw[ea]at a3;rw[<- J]at L a3;have es:pJ (.ref r) B=.ok (.ref B.length) (B++[.lst<|(sortI R).map .int]):=by
   show opt (eX B r) _=_;rw[h3,gq,ints_map,gq,ie P]
  have e5:=BH<|D6 (a:=B.length) (b:=r) (fu (S:=B) (xs:=(sortI R).map .int))<|gh h3;unfold j4;dsimp[fO,bools,m,cE,show ig .lst "list" = some true from rfl,bT,<- G,e0];unfold ju at d
  cases c1:R.isEmpty with
  | true=>
   have:R=[]:=List.isEmpty_iff.mp c1;right;refine⟨_,_,rfl,S2,?_,D⟩;rw[d<|by rw[this];rfl]
  | false=>
   have l0:0<R.length:=d7.mpr λz=>by rw[z]at c1;cases c1
   rw[aV l0,cT]at d;dsimp[fO,bools,L,a3]
   cases c2:(R.map A.int).all iD with
   | false=>
    rw[c2,cB]at d;dsimp[fO,bools,bN];right;refine⟨_,_,rfl,B,?_,k3⟩;rw[d rfl]
   | true=>
    rw[c2,cT]at d;dsimp[fO,bools,bT,es,e5];by_cases W:R=sortI R
    ·rw[aV W.symm];dsimp[fO,bools,bT];left;refine⟨_,_,rfl,⟨_,rfl⟩,k3.lay,λj V=>?_⟩;by_cases z:j=i
     ·rw[z,hR];unfold ju;rw[c2,aV l0,aV W];rfl
     ·exact q j ()
    ·rw[aW λz=>W z.symm];dsimp[fO,bools,bN];right;refine⟨_,_,rfl,B++[O.lst<|(sortI R).map .int],?_,k3.lay⟩;rw[d<|aW W]
 ·rintro τ S1 ⟨⟨F,rfl⟩,k,q⟩;rw[aG,len]at q;dsimp[fO,bools];refine mG (lo:=1) (hi:=(T.length:Int)) (S1:=S1) (show jY _ _=_ from rF (S1:=S1) (S2:=S1) (by dsimp[fO,bools]) (by dsimp[fO,bools,k.lst _ _ (λz=>z) h.top,aG,len]) (iG ⋯ ⋯)<|iG () ())
   (λi τ S2=>(∃F Y,τ=[.ref n,F,Y])/\fY S S2/\∀j,j<i->jL (T.getD (j+1) []) (T.getD j [])=true)
   (λr=>∃S',RS.end (RS.seq r _)=.ok (.bl<|mj T) S'/\fY S S') ⟨⟨_,_,rfl⟩,k,λj z=>absurd z<|dz _⟩ ?_ ?_
  ·rintro i τ S2 hi ⟨⟨F,Y,rfl⟩,D,p⟩;have hi:i+1<T.length:=()
   have N:=h.rK D;have d:=oA (T:=T) (i:=i) ();have t1:iN (rs.map A.ref) (1+(i:Int))=some (.ref<|rs.getD (i+1) 0):=by rw[show 1+(i:Int)=((i+1:Nat):Int)by lia];exact top _ hi
   have t2:iN (rs.map A.ref) (1+(i:Int)-1)=some (.ref<|rs.getD i 0):=by rw[show 1+(i:Int)-1=(i:Int)by lia];exact top _ ()
   have r1:=(N.rows.get<|C (i+1) hi).2;have r2:=(N.rows.get<|C i ()).2;have b1:=hr<|i+1;generalize hU:T.getD (i+1) []=U at r1 d b1;generalize hR:T.getD i []=R at r2 d;unfold jZ;dsimp[fO,bools,N.top,t1,t2,r1,r2,aG];unfold jL at d;by_cases ul:U.length<=R.length
   ·rw[aV ul,cT]at d;rw[aW<|show ¬(R.length:Int)<(U.length:Int)by lia];have L:=mD (cap:=[some 0,some 2]) (t:=gZ) (e:=eZ Cj (eZ gx (eZ gx (eW 1)<|eW 2)<|eW 0)<|eZ gx (eZ gx (eW 1)<|eZ aSub (eW 2)<|eC<|.int 1)<|eW 0) (τ:=[.ref n,F,.int<|1+(i:Int)]) (src:=gX<|fG (f1 gH)<|eU (eZ gx (eW 0)<|eW 2)<|ff) (S:=S2) (S1:=S2) (lo:=0) (hi:=(U.length:Int))
     (iA (by dsimp[fO,bools,N.top,t1,r1,aG])<|iG () ()) (λ_=>true) (λk=>.bl<|decide<|R.getD k.toNat 0<U.getD k.toNat 0)
     (λk _ _=>by dsimp[fO,bools]) (λk k0 k1 _=>by
      have x1:=kq (r:=U) (i:=k) (k:=k.toNat) () ();have x2:=kq (r:=R) (i:=k) (k:=k.toNat) () ();dsimp[fO,bools,N.top,t1,t2,r1,r2,x1,x2]) ()
    have Z:((iS 0 (U.length:Int)).filter λ_=>true).map (λk=>A.bl<|decide<|R.getD k.toNat 0<U.getD k.toNat 0)=((List.range U.length).map λi=>decide<|R.getD i 0<U.getD i 0).map A.bl:=by
     rw[b_.mpr λ_ _=>rfl];unfold iS;rw[bY,bY,show((U.length:Int)-0).toNat=U.length by lia];refine List.map_congr_left λj V=>?_;show A.bl (decide<|R.getD (0+(j:Int)).toNat 0<U.getD (0+(j:Int)).toNat 0)=_;rw[show(0+(j:Int)).toNat=j by lia];rfl
    rw[Z]at L;dsimp[fO,bools,L,lW]
    cases c:((List.range U.length).map λi=>decide<|R.getD i 0<U.getD i 0).all id with
    | true=>
     dsimp[fO,bools,bT];left;refine⟨_,_,rfl,⟨_,_,rfl⟩,D.lay,λj V=>?_⟩;by_cases z:j=i
     ·rw[z,hU,hR];unfold jL;rw[aV ul,c];rfl
     ·exact p j ()
    | false=>
     dsimp[fO,bools,bN];right;refine⟨_,_,rfl,S2++[O.lst<|((List.range U.length).map λi=>decide<|R.getD i 0<U.getD i 0).map A.bl],?_,D.lay⟩;rw[d c]
   ·rw[aV<|show(R.length:Int)<(U.length:Int)by lia];dsimp[fO,bools];right;refine⟨_,_,rfl,S2,?_,D⟩;rw[d<|by rw[aW ul];rfl]
  ·rintro τ S2 ⟨⟨F,Y,rfl⟩,D,p⟩;rw[xr q λi hi=>p i ()];dsimp[fO,bools];exact⟨_,rfl,D⟩
end K55
namespace K55
open PySem L2 Am
abbrev gM (S:fj)(n:Nat)(x:A)(c:Nat):Prop:=∃d,jS S n x=some d/\d.showable=true/\iE d<=c
def gM.mono{n:Nat}{x:A}(h:gM S n x c)(hc:c<=e):gM S n x e:=by
 obtain⟨d,a,b,q⟩:=h;exact⟨d,a,b,bF q hc⟩
def gM.int{n:Nat}{i:Int}(h:i.natAbs<2 ^ 200):gM S (n+1) (.int i) 1921:=by
 refine⟨.int i,rfl,?_,by dsimp[iE];exact aL _⟩;dsimp[PyData.showable,cV];by_cases z:i.natAbs=0
 ·rw[z];decide
 ·have:=(Nat.log2_lt z).mpr h
  lia
def gM.bl{n:Nat}:gM S (n+1) (.bl b) 1921:=⟨.bool b,rfl,by dsimp[PyData.showable],by dsimp[iE];decide⟩
def gM.f6{n:Nat}:gM S (n+1) .f6 1921:=⟨.none,rfl,by dsimp[PyData.showable],by dsimp[iE];decide⟩
def gM.str{n:Nat}{x:Str}(h:(reprText x).length<=1921):gM S (n+1) (.str x) 1921:=⟨.str x,rfl,by dsimp[PyData.showable],by dsimp[iE];exact h⟩
theorem ud{n:Nat}:∀{xs:ad},(∀x∈xs,gM S n x c)->∃ds,je (jS S n) xs=some ds/\PyData.showableAll ds=true/\nS ds<=(c+2) * xs.length
 | [],_=>⟨[],rfl,by dsimp[PyData.showableAll],by dsimp[nS];exact cg _⟩
 | x::xs,h=>by
  obtain⟨d,a,b,q⟩:=h x<|aS ..;obtain⟨ds,g,j,k⟩:=ud λy f=>h y<|aK _ f;refine⟨d::ds,by unfold je;rw[a,bB,g];rfl,by dsimp[PyData.showableAll,b,j,Bool.and_self],?_⟩;dsimp[nS,a_,Nat.mul_succ]
  lia
def gM.lst{n r:Nat}{xs:ad}(h:eX S r=some xs)(hx:∀x∈xs,gM S n x c):gM S (n+1) (.ref r) ((c+2) * xs.length+3):=by
 obtain⟨ds,a,b,q⟩:=ud hx;refine⟨.list ds,by show(eX S r).bind _=_;rw[h,bB,a];rfl,by dsimp[PyData.showable];exact b,by dsimp[iE];lia⟩
def gM.tup{n:Nat}{xs:ad}(hx:∀x∈xs,gM S n x c):gM S (n+1) (.tup xs) ((c+2) * xs.length+3):=by
 obtain⟨ds,a,b,q⟩:=ud hx;refine⟨.tuple ds,by show(je (jS S n) xs).map _=_;rw[a];rfl,by dsimp[PyData.showable];exact b,by dsimp[iE];lia⟩
def gM.IA{x:A}(h:gM S 9 x c)(hc:c<=16777216):IL S x:=by
 obtain⟨d,a,b,q⟩:=h;exact⟨d,a,b,by rw[bV];lia⟩
def gM.row{n r:Nat}{R:ae}(h:eX S r=some (R.map .int))(hl:R.length<=62)(hb:∀x∈R,x.natAbs<2 ^ 200):gM S (n+2) (.ref r) 120000:=by
 refine(gM.lst (n:=n+1) (c:=1921) h λx hx=>?_).mono (by rw[aG];lia);obtain⟨v,hv,rfl⟩:=bg.mp hx;exact gM.int<|hb v hv
end K55
namespace K55
open PySem L2 Am
def Io{xs:ad}{x:A}(h:xs[xs.length-1]?=some x):iN xs (-1)=some x:=by
 have c:=(aM.mp h).1;have e:pC xs.length (-1)=some (xs.length-1):=by
  unfold pC;rw[bu (),aZ ()];congr 1
  lia
 unfold iN;rw[e,bB,h]
abbrev DX (S:fj)(x:A):Prop:=(∃c,gb [x] S=.ok (.bl false) c/\fY S c)/\IL S x
def E3{x:A}(h:GF x)(hs:gM S 9 x c)(hc:c<=16777216):DX S x:=⟨⟨S,FZ h,Kp.refl⟩,hs.IA hc⟩
def i8{n:Nat}{xs:ad}(h:eX S n=some xs)(hl:xs.length<=62)(hb:∀x∈xs,(∃b,iX S x b)/\gM S 8 x 120000)(c:∃x∈xs,iX S x false):DX S (.ref n):=
 ⟨vU h () (λx hx=>(hb x hx).1) c,(gM.lst h λx hx=>(hb x hx).2).IA ()⟩
def rg{n:Nat}{T:List<|ae}(h:Tw S n rs T)(hl:T.length<=62)(hr:∀r∈T,r.length<=62)(hb:∀r∈T,∀x∈r,x.natAbs<2 ^ 200)(c:mj T=false):DX S (.ref n):=by
 have len:=h.len;have d:∀i,i<T.length->T.getD i []∈T:=λi hi=>by rw[aE,aF hi];exact c9 hi
 refine⟨?_,?_⟩
 ·rw[<- c];refine oE h () λi=>?_;by_cases hi:i<T.length
  ·have:=hr _<|d i hi;lia
  ·rw[aE,cU ()];show 0<64;decide
 ·refine(gM.lst (n:=8) (c:=120000) h.top λx hx=>?_).IA (by rw[aG];lia);kl_no;o_rec;obtain⟨g,f⟩:=h.rows.get (i:=i) (r:=r) (by rw[aF hi,e]);exact gM.row (n:=6) f (hr _<|d i g)<|hb _<|d i g
def pZ{R:ae}{i j:Nat}{x y:Int}(hij:i<j)(hx:R[i]?=some x)(hy:R[j]?=some y)(h:y<x):ju R=false:=by
 unfold ju;have:¬R=sortI R:=λz=>by
  have p:=mL R;rw[<- z]at p;have:=Sy.Dp p (cQ hij) hx hy
  lia
 rw[aW this,cZ,cZ]
abbrev Hq (T:List<|ae):Prop:=∀r∈T,∀x∈r,1<=x/\x<=1000000000
structure Cop (S:fj)(m:Nat)(qs:ag)(T:List (ae)):Prop where
 tab:Tab S m qs T
 ta:Sy.pS T
 bd:Hq T
 ne:0<T.length
 l1:T.length<=60
 l2:∀r∈T,r.length<=60
section
variable {S:fj}{m:Nat}{qs:ag}{T:List (ae)}
def Cop.at(h:Cop S m qs T){j:Nat}(hj:j<T.length):qs[j]?=some (qs.getD j 0)/\iN (qs.map A.ref) (j:Int)=some (.ref<|qs.getD j 0)/\eX S (qs.getD j 0)=some ((T.getD j []).map .int)/\T.getD j []∈T/\0<(T.getD j []).length/\(T.getD j []).length<=60:=by
 have len:=h.tab.len;have e:qs[j]?=some (qs.getD j 0):=by rw[aE,aF ()];rfl
 have c:T.getD j []∈T:=by rw[aE,aF hj];exact c9 hj
 refine⟨e,i_ (k:=j) rfl<|by rw[aR,e];rfl,(h.tab.rows.get e).2,c,?_,h.l2 _ c⟩;exact Sy.sf h.ta _<|bg.mpr ⟨_,c,rfl⟩
def Cop.kp(h:Cop S m qs T){c:Nat->Prop}(k:Kp c S S')(hc:∀r∈m::qs,¬c r):Cop S' m qs T:=⟨h.tab.kp k hc,h.ta,h.bd,h.ne,h.l1,h.l2⟩
def Cop.row(h:Cop S m qs T){x:A}(hx:x∈qs.map A.ref):(∃b,iX S x b)/\gM S 8 x 120000:=by
 kl_no;o_rec;obtain⟨f,c⟩:=h.tab.rows.get (i:=i) (r:=r) (by rw[aF hi,e]);obtain⟨_,_,_,d,_,g⟩:=h.at f;exact⟨⟨_,kX c ()⟩,gM.row (n:=6) c () λx hx=>by have:=h.bd _ d x hx;lia⟩
def Cop.last(h:Cop S m qs T):iN (qs.map A.ref) (-1)=some (.ref<|qs.getD (T.length-1) 0):=by
 have ne:=h.ne;refine Io ?_;rw[aG,h.tab.len,aR,(h.at<|show T.length-1<T.length by lia).1];rfl
def Cop.len(h:Cop S m qs T):qs.length=T.length:=h.tab.len
end
def iV{x:Int}(h:1<=x/\x<=1000000000):x.natAbs<2 ^ 200:=()
def Jf:iK (.int 10) (.int 8)=λS=>R.ok (.int 100000000) S:=by funext S;exact ie ⟨by decide,by decide,by decide⟩
def Hr:iK (.int 10) (.int 29)=λS=>R.ok (.int 100000000000000000000000000000) S:=by funext S;exact ie ⟨by decide,by decide,by decide⟩
def GI{n:Nat}(hb:jx S b)(h:Cop S m qs T)(hn:b∉m::qs):∃x S',(eZ gx (fU<|eU (fG (f1 lO)<|eU (eW 2) ff)<|eU (eC .f6)<|eU (eC<|.int 7)<|eU (eC<|.str<|PySem.Str.ofString "1 2")<|eU (eC<|.bl true)<|eU (qN ff)<|eU (eZ iK (eC<|.int 10)<|eC<|.int 29) ff)<|eFn fh<|eU (eW 0)<|eU (eC<|.int 7) ff) [.ref b,.ref n,.ref m,a3,a4] S=.ok x S'/\DX S' x/\jx S' b/\Kp (·=b) S S':=by
 obtain⟨ys,f⟩:∃ys:ad,ys=[.tup<|qs.map .ref,.f6,.int 7,.str<|PySem.Str.ofString "1 2",.bl true,.tup [],.int 100000000000000000000000000000]:=⟨_,rfl⟩;have C:newL [.tup<|qs.map .ref,.f6,.int 7,.str<|PySem.Str.ofString "1 2",.bl true,.tup [],.int 100000000000000000000000000000] S=.ok (.ref S.length) (S++[O.lst ys]):=by rw[f];exact gc (show 7<=16777216 by decide)
 have j:fY S (S++[O.lst ys]):=Kp.refl.lay;obtain⟨d,S4,e4,G,F,hb4,k4⟩:=digit (m:=7) (hb.kp j λz=>z) ⋯ ⋯;have q:eX S4 S.length=some ys:=k4.lst _ _ (by have:=hb.lt;lia) fu;have p:Cop S4 m qs T:=(h.kp j λ_ _ z=>z).kp k4 λr D z=>hn (by rw[<- z];exact D);obtain⟨x,hx,B,k⟩:∃x,iN ys d=some x/\GF x/\gM S4 9 x 16000000:=by
  rw[f]
  rcases(by lia:d=0\/d=1\/d=2\/d=3\/d=4\/d=5\/d=6)with z|z|z|z|z|z|z<;>subst z
  ·exact⟨_,rfl,trivial,(gM.tup (n:=8) λy g=>(p.row g).2).mono (by have:=h.len;have:=h.l1;rw[aG];lia)⟩
  ·exact⟨_,rfl,trivial,gM.f6.mono ⋯⟩
  ·exact⟨_,rfl,trivial,(gM.int ⋯).mono ⋯⟩
  ·exact⟨_,rfl,trivial,(gM.str ∅).mono ⋯⟩
  ·exact⟨_,rfl,trivial,gM.bl.mono ⋯⟩
  ·exact⟨_,rfl,trivial,(gM.tup (n:=8) (c:=0) λy g=>by cases g).mono ⋯⟩
  ·exact⟨_,rfl,trivial,(gM.int ⋯).mono ⋯⟩
 refine⟨x,S4,?_,E3 B k ⋯,hb4,(Kp.of0 j).trans k4⟩;dsimp[fO,bools,h.tab.top,oY<|show([]:ad).length<=16777216 by simp,Hr,C,e4,q,hx]
end K55
namespace K55
open PySem L2 Am
section
variable {S:fj}{b m n t:Nat}{qs:ag}{T:List (ae)}{a4:A}
abbrev Way (b m n t:Nat)(qs:ag)(a4:A)(S:fj)(c:Am.Sm):Prop:=∃M d,c [.ref b,.ref n,.ref m,.int (t:Int),a4] S=.nx [.ref b,.ref n,.ref M,.int (t:Int),a4] d/\DX d (.ref M)/\jx d b/\Kp (λr=>r=b\/r∈m::qs) S d
def jx.app(h:jx S b){o:O}:jx (S++[o]) b:=h.kp (c:=λ_=>False) Kp.refl.lay λz=>z
def jx.sH{r:Nat}(h:jx S b)(hn:r≠b):jx (S.set r<|.lst xs) b:=by
 obtain⟨g,st,e,q⟩:=h;exact⟨g,st,by rw[gv hn];exact e,q⟩
def Cop.app(h:Cop S m qs T){o:O}:Cop (S++[o]) m qs T:=h.kp (c:=λ_=>False) Kp.refl.lay λ_ _ z=>z
def mO{R:ae}{r:Nat}(h:eX S r=some (R.map .int))(hl:R.length<=62)(hb:∀x∈R,x.natAbs<2 ^ 200):(∃b,iX S (.ref r) b)/\gM S 8 (.ref r) 120000:=⟨⟨_,kX h ()⟩,gM.row (n:=6) h hl hb⟩
def mX{xs:ad}{P:A->Prop}{t:Nat}(h:∀x∈xs,P x)(hy:P y):∀x∈xs.set t y,P x:=λx hx=>by
 rcases List.mem_or_eq_of_mem_set hx with z|z
 ·exact h x z
 ·rw[z];exact hy
def qV{xs:ad}{y:A}{t:Nat}(h:t<xs.length):y∈xs.set t y:=bf<|bP h
def HS(hb:jx S b)(h:Cop S m qs T)(hn:b∉m::qs)(ht:t<T.length):Way b m n t qs a4 S (fV (eZ gx (fU<|eU (fG (f1 lO)<|eU (eZ gx (eW 2)<|eW 3) ff)<|eU (eC .f6)<|eU (eC<|.int 5)<|eU (eC<|.str<|PySem.Str.ofString "1")<|eU (qN ff)<|eU (fU<|eU (eC .f6) ff)<|eU (fU<|eU (eC<|.str<|PySem.Str.ofString "1") ff)<|eU (fU<|eU (fU<|eU (eC<|.int 1) ff) ff) ff)<|eFn fh<|eU (eW 0)<|eU (eC<|.int 8) ff)<|wM (eW 2)<|eW 3):=by
 obtain⟨q1,q2,q3,q4,q5,q6⟩:=h.at ht;have len:=h.len;obtain⟨C,D⟩:∃C,C=S++[O.lst [.f6]]:=⟨_,rfl⟩;obtain⟨j,J⟩:∃j,j=C++[O.lst [.str<|PySem.Str.ofString "1"]]:=⟨_,rfl⟩;obtain⟨B,F⟩:∃B,B=j++[O.lst [.int 1]]:=⟨_,rfl⟩;obtain⟨k,G⟩:∃k,k=B++[O.lst [.ref j.length]]:=⟨_,rfl⟩;obtain⟨ys,hys⟩:∃ys:ad,ys=[.tup<|(T.getD t []).map .int,.f6,.int 5,.str<|PySem.Str.ofString "1",.tup [],.ref S.length,.ref C.length,.ref B.length]:=⟨_,rfl⟩;have k1:fY S C:=by rw[D];z_go
 have k2:fY C j:=by rw[J];z_go
 have k3:fY j B:=by rw[F];z_go
 have k4:fY B k:=by rw[G];z_go
 have kL:fY k (k++[O.lst ys]):=Kp.refl.lay;have x1:eX C S.length=some [.f6]:=by rw[D];exact fu
 have x2:eX j C.length=some [.str<|PySem.Str.ofString "1"]:=by rw[J];exact fu
 have x3:eX B j.length=some [.int 1]:=by rw[F];exact fu
 have x4:eX k B.length=some [.ref j.length]:=by rw[G];exact fu
 have U:=(k2.trans k3).trans k4;have K:=k1.trans U;have l1:C.length=S.length+1:=by rw[D];simp
 have l2:j.length=S.length+2:=by rw[J];simp[l1]
 have l3:B.length=S.length+3:=by rw[F];simp[l2]
 have l4:k.length=S.length+4:=by rw[G];simp[l3]
 have n8:newL [.tup<|(T.getD t []).map .int,.f6,.int 5,.str<|PySem.Str.ofString "1",.tup [],.ref S.length,.ref C.length,.ref B.length] k=.ok (.ref k.length) (k++[O.lst ys]):=by rw[hys];exact gc (show 8<=16777216 by decide)
 have bS:=hb.lt;obtain⟨d,S4,e4,d0,d1,hb4,k5⟩:=digit (m:=8) ((hb.kp K λz=>z).kp kL λz=>z) ⋯ ⋯;have nb:∀r,S.length<=r->r≠b:=λr L z=>()
 have gL:eX S4 k.length=some ys:=k5.lst _ _ (nb _ ()) fu;have N:Cop S4 m qs T:=((h.kp K λ_ _ z=>z).kp kL λ_ _ z=>z).kp k5 λr L z=>hn (by rw[<- z];exact L);have kk:∀r xs,S.length<=r->eX k r=some xs->eX S4 r=some xs:=λr xs L e=>k5.lst _ _ (nb r L)<|kL.lst _ _ (λz=>z) e;have mm:=h.tab.lt m<|aS ..;obtain⟨g,p⟩:∃f:A->fj,f=λy=>S4.set m (.lst<|(qs.map A.ref).set t y):=⟨_,rfl⟩;have q:∀y r xs,r≠m->eX S4 r=some xs->eX (g y) r=some xs:=λy r xs L e=>by rw[p];show eX (S4.set m _) r=_;rw[gv λz=>L z.symm];exact e
 obtain⟨y,Z,u,oy,sy⟩:∃y,iN ys d=some y/\y.gW=false/\iX (g y) y false/\gM (g y) 8 y 120000:=by
  rw[hys];have r1:∀y,eX (g y) S.length=some [.f6]:=λy=>q y _ _ ()<|kk _ _ (aL _)<|U.lst _ _ (λz=>z) x1;have r2:∀y,eX (g y) C.length=some [.str<|PySem.Str.ofString "1"]:=λy=>q y _ _ ()<|kk _ _ ()<|(k3.trans k4).lst _ _ (λz=>z) x2;have r3:∀y,eX (g y) j.length=some [.int 1]:=λy=>q y _ _ ()<|kk _ _ ()<|k4.lst _ _ (λz=>z) x3;have r4:∀y,eX (g y) B.length=some [.ref j.length]:=λy=>q y _ _ () (kk _ _ () x4)
  rcases(by lia:d=0\/d=1\/d=2\/d=3\/d=4\/d=5\/d=6\/d=7)with z|z|z|z|z|z|z|z<;>subst z
  ·refine⟨_,rfl,rfl,mw trivial,(gM.tup (n:=7) (c:=1921) λy Z=>?_).mono<|by rw[aG];lia⟩;obtain⟨v,hv,rfl⟩:=bg.mp Z;exact gM.int (iV<|h.bd _ q4 v hv)
  ·exact⟨_,rfl,rfl,mw trivial,gM.f6.mono ⋯⟩
  ·exact⟨_,rfl,rfl,mw trivial,(gM.int ⋯).mono ⋯⟩
  ·exact⟨_,rfl,rfl,mw trivial,(gM.str ∅).mono ⋯⟩
  ·exact⟨_,rfl,rfl,mw trivial,(gM.tup (n:=7) (c:=0) λy Z=>by cases Z).mono ⋯⟩
  ·exact⟨_,rfl,rfl,jX (r1 _) ⋯ (λx hx=>by rw[aH.mp hx];trivial) rfl,(gM.lst (r1 _) λx hx=>by rw[aH.mp hx];exact gM.f6).mono ⋯⟩
  ·exact⟨_,rfl,rfl,jX (r2 _) ⋯ (λx hx=>by rw[aH.mp hx];trivial) rfl,(gM.lst (r2 _) λx hx=>by rw[aH.mp hx];exact gM.str ∅).mono ⋯⟩
  ·exact⟨_,rfl,rfl,jX (r4 _) (show 1<=1000 by decide) (λx hx=>by rw[aH.mp hx];exact⟨_,r3 _⟩) rfl,(gM.lst (c:=5000) (r4 _) λx hx=>by
    rw[aH.mp hx];exact(gM.lst (r3 _) λx hx=>by rw[aH.mp hx];exact gM.int ⋯).mono ⋯).mono<|show(5000+2) * 1+3<=120000 by decide⟩
 have mS4:m<S4.length:=kC N.tab.top;have Y:eX (g y) m=some ((qs.map A.ref).set t y):=by rw[p];exact jA mS4
 have W:∀x∈qs.map A.ref,(∃b,iX (g y) x b)/\gM (g y) 8 x 120000:=λx hx=>by
  kl_no;o_rec;obtain⟨hT,V⟩:=N.tab.rows.get (i:=i) (r:=r) (by rw[aF hi,e]);obtain⟨_,_,_,mem,_,le⟩:=N.at hT;exact mO (q y _ _ (λz=>(bz.mp N.tab.nd).1<|by rw[<- z];exact hr') V) () λx hx=>iV<|N.bd _ mem x hx
 refine⟨m,g y,?_,i8 Y (by rw[bA,aG];have:=h.l1;lia) (mX (P:=λx=>(∃b,iX (g y) x b)/\gM (g y) 8 x 120000) W ⟨⟨_,oy⟩,sy⟩) ⟨y,qV<|by rw[aG];lia,oy⟩,by rw[p];exact hb4.sH λz=>hn<|by rw[<- z];exact aS ..,?_⟩
 ·have ix:pC qs.length (t:Int)=some t:=kT rfl ();dsimp[fO,bools,h.tab.top,q2,q3,oY<|show([]:ad).length<=16777216 by simp,<- D,<- J,<- F,<- G,n8,e4,gL,Z,N.tab.top,aG,ix,p]
 ·rw[p];exact((Kp.of0<|K.trans kL).trans<|k5.mono λr _ z=>.inl z).set (.inl<|.inr<|aS ..)
end
end K55
namespace K55
open PySem L2 Am
section
variable {S:fj}{b m n t:Nat}{qs:ag}{T:List (ae)}{a4:A}
def mK(h:Cop S m qs T){r:Nat}{R:ae}(k:fY S B)(top:eX B M=some (qs.map .ref++[.ref r]))(hr:eX B r=some (R.map .int))(hl:R.length<=62)(hb:∀x∈R,x.natAbs<2 ^ 200)(c:jL R (T.getD (T.length-1) [])=false\/ju R=false):DX B (.ref M):=by
 have ne:=h.ne;have l1:=h.l1;have g:Tw B M (qs++[r]) (T++[R]):=⟨by rw[top,bO];rfl,Rows.app (h.tab.rK k).rows ⟨hr,trivial⟩⟩;have f:(T++[R]).getD T.length []=R:=by rw[aE];simp
 have g0:(T++[R]).getD (T.length-1) []=T.getD (T.length-1) []:=by rw[aE,aX (),<- aE]
 refine rg g (by rw[aU];show T.length+1<=62;lia) (λq d=>?_) (λq d x hx=>?_) ?_
 ·rcases bh.mp d with z|z
  ·have:=h.l2 q z;lia
  ·rw[aH.mp z];exact hl
 ·rcases bh.mp d with z|z
  ·exact iV (h.bd q z x hx)
  ·rw[aH.mp z]at hx;exact hb x hx
 ·rcases c with c|c
  ·refine oA (i:=T.length-1) (by rw[aU];show T.length-1<T.length+1-1;lia) ?_;rw[show T.length-1+1=T.length by lia,f,g0];exact c
  ·refine vK (i:=T.length) (by rw[aU];show T.length<T.length+1;lia) ?_;rw[f];exact c
def qP{U R:ae}(hu:0<U.length)(h:¬R.getD 0 0<U.getD 0 0):jL U R=false:=by
 unfold jL;have:((List.range U.length).map λi=>decide<|R.getD i 0<U.getD i 0).all id=false:=cW.mpr λz=>by
  have:=bW.mp z _<|bg.mpr ⟨0,cA.mpr hu,rfl⟩;dsimp[id,cV]at this;exact h this
 rw[this,cZ]
def zv{U R:ae}(h:R.length<U.length):jL U R=false:=by
 unfold jL;rw[aW (),cB]
def HR(hb:jx S b)(h:Cop S m qs T)(hn:b∉m::qs):Way b m n t qs a4 S (fV (eZ gx (fU<|eU (eZ fW (eW 2)<|fU<|eU (fU ff) ff)<|eU (fU<|eU (fU ff) ff)<|eU (eZ fW (fU<|eU (fU ff) ff)<|eW 2)<|eU (fU<|eU (fU<|eU (eC<|.int 1) ff)<|eU (fU ff) ff) ff)<|eFn fh<|eU (eW 0)<|eU (eC<|.int 4) ff)<|gf 2):=by
 have len:=h.len;have hl:=h.l1;have bS:=hb.lt;obtain⟨B1,N⟩:∃B1,B1=S++[O.lst []]:=⟨_,rfl⟩;have kB1:fY S B1:=by rw[N];z_go
 have xB1:eX B1 S.length=some []:=by rw[N];exact fu
 have lB1:B1.length=S.length+1:=by rw[N];simp
 kt_k;have Z:fY B1 B2:=by rw[hB2];z_go
 have xB2:eX B2 B1.length=some [A.ref S.length]:=by rw[hB2];exact fu
 have lB2:B2.length=B1.length+1:=by rw[hB2];simp
 kd_p;have kB3:fY B2 B3:=by rw[hB3];z_go
 have xB3:eX B3 B2.length=some (qs.map A.ref++[A.ref S.length]):=by rw[hB3];exact fu
 have lB3:B3.length=B2.length+1:=by rw[hB3];simp
 obtain⟨q,L⟩:∃q,q=B3++[O.lst []]:=⟨_,rfl⟩;have kB4:fY B3 q:=by rw[L];z_go
 have xB4:eX q B3.length=some []:=by rw[L];exact fu
 have lB4:q.length=B3.length+1:=by rw[L];simp
 obtain⟨k,W⟩:∃k,k=q++[O.lst [A.ref B3.length]]:=⟨_,rfl⟩;have kB5:fY q k:=by rw[W];z_go
 have xB5:eX k q.length=some [A.ref B3.length]:=by rw[W];exact fu
 have lB5:k.length=q.length+1:=by rw[W];simp
 obtain⟨D,P⟩:∃D,D=k++[O.lst []]:=⟨_,rfl⟩;have kB6:fY k D:=by rw[P];z_go
 have xB6:eX D k.length=some []:=by rw[P];exact fu
 have lB6:D.length=k.length+1:=by rw[P];simp
 obtain⟨j,V⟩:∃j,j=D++[O.lst [A.ref k.length]]:=⟨_,rfl⟩;have kB7:fY D j:=by rw[V];z_go
 have xB7:eX j D.length=some [A.ref k.length]:=by rw[V];exact fu
 have lB7:j.length=D.length+1:=by rw[V];simp
 obtain⟨p,U⟩:∃p,p=j++[O.lst<|[A.ref k.length]++qs.map A.ref]:=⟨_,rfl⟩;have kB8:fY j p:=by rw[U];z_go
 have xB8:eX p j.length=some ([A.ref k.length]++qs.map A.ref):=by rw[U];exact fu
 have lB8:p.length=j.length+1:=by rw[U];simp
 obtain⟨C,Y⟩:∃C,C=p++[O.lst [A.int 1]]:=⟨_,rfl⟩;have kB9:fY p C:=by rw[Y];z_go
 have xB9:eX C p.length=some [A.int 1]:=by rw[Y];exact fu
 have lB9:C.length=p.length+1:=by rw[Y];simp
 obtain⟨B,K⟩:∃B,B=C++[O.lst []]:=⟨_,rfl⟩;have kBa:fY C B:=by rw[K];z_go
 have xBa:eX B C.length=some []:=by rw[K];exact fu
 have lBa:B.length=C.length+1:=by rw[K];simp
 obtain⟨F,G⟩:∃F,F=B++[O.lst [A.ref p.length,A.ref C.length]]:=⟨_,rfl⟩;have kBb:fY B F:=by rw[G];z_go
 have xBb:eX F B.length=some [A.ref p.length,A.ref C.length]:=by rw[G];exact fu
 have lBb:F.length=B.length+1:=by rw[G];simp
 obtain⟨f,J⟩:∃f,f=F++[O.lst [A.ref B2.length,A.ref q.length,A.ref j.length,A.ref B.length]]:=⟨_,rfl⟩;have kBc:fY F f:=by rw[J];z_go
 have xBc:eX f F.length=some [A.ref B2.length,A.ref q.length,A.ref j.length,A.ref B.length]:=by rw[J];exact fu
 have lBc:f.length=F.length+1:=by rw[J];simp
 have eBc:fY f f:=Kp.refl;have eBb:fY F f:=kBc.trans eBc;have eBa:fY B f:=kBb.trans eBb;have eB9:fY C f:=kBa.trans eBa;have eB8:fY p f:=kB9.trans eB9;have eB7:fY j f:=kB8.trans eB8;have eB6:fY D f:=kB7.trans eB7;have eB5:fY k f:=kB6.trans eB6;have eB4:fY q f:=kB5.trans eB5;have eB3:fY B3 f:=kB4.trans eB4;have eB2:fY B2 f:=kB3.trans eB3;have eB1:fY B1 f:=Z.trans eB2;have e0:fY S f:=kB1.trans eB1;kcj_m;kpc_g;kpf_c;have yB4:=eB4.lst _ _ (λz=>z) xB4;have yB5:=eB5.lst _ _ (λz=>z) xB5;have yB6:=eB6.lst _ _ (λz=>z) xB6;have yB7:=eB7.lst _ _ (λz=>z) xB7;have yB8:=eB8.lst _ _ (λz=>z) xB8;have yB9:=eB9.lst _ _ (λz=>z) xB9;have yBa:=eBa.lst _ _ (λz=>z) xBa;have yBb:=eBb.lst _ _ (λz=>z) xBb;have yBc:=eBc.lst _ _ (λz=>z) xBc;have c1:fW (.ref m) (.ref B1.length) B2=.ok (.ref B2.length) B3:=by rw[hB3];exact kE ((kB1.trans Z).lst _ _ (λz=>z) h.tab.top) xB2 (by simp;lia)
 have c2:fW (.ref D.length) (.ref m) j=.ok (.ref j.length) p:=by rw[U];exact kE xB7 ((((((((kB1.trans Z).trans kB3).trans kB4).trans kB5).trans kB6).trans kB7)).lst _ _ (λz=>z) h.tab.top) (by simp;lia)
 obtain⟨d,S4,e4,d0,d1,hb4,k5⟩:=digit (m:=4) (hb.kp e0 λz=>z) ⋯ ⋯;have nb:∀r,S.length<=r->r≠b:=λr hr z=>()
 have C4:Cop S4 m qs T:=(h.kp e0 λ_ _ z=>z).kp k5 λr hr z=>hn (by rw[<- z];exact hr);have g:∀r xs,S.length<=r->eX f r=some xs->eX S4 r=some xs:=λr xs hr e=>k5.lst _ _ (nb r hr) e;have nil:∀r,eX S4 r=some []->iX S4 (.ref r) false/\gM S4 8 (.ref r) 120000:=λr e=>⟨kX (R:=[]) e ⋯,(gM.lst (n:=7) (c:=0) e λx hx=>by cases hx).mono ⋯⟩;have z1:=nil S.length<|g _ _ (aL _) yB1;have z2:=nil B3.length<|g _ _ () yB4;have z3:=nil k.length<|g _ _ () yB6;have z4:=nil C.length<|g _ _ () yBa;have z5:=mO (R:=[1]) (g p.length _ () yB9) ⋯ (λx hx=>by rw[aH.mp hx];decide);obtain⟨M,hM,oM⟩:∃M,iN ([.ref B2.length,.ref q.length,.ref j.length,.ref B.length]:ad) d=some (.ref M)/\DX S4 (.ref M):=by
  rcases(by lia:d=0\/d=1\/d=2\/d=3)with z|z|z|z<;>subst z
  ·refine⟨_,rfl,i8 (g _ _ () yB3) (by simp;lia) (λx hx=>?_) ⟨_,bw _<|aH.mpr rfl,z1.1⟩⟩
   rcases bh.mp hx with z|z
   ·exact C4.row z
   ·rw[aH.mp z];exact⟨⟨_,z1.1⟩,z1.2⟩
  ·refine⟨_,rfl,i8 (g _ _ () yB5) (show 1<=62 by decide) (λx hx=>?_) ⟨_,aH.mpr rfl,z2.1⟩⟩;rw[aH.mp hx];exact⟨⟨_,z2.1⟩,z2.2⟩
  ·refine⟨_,rfl,i8 (g _ _ () yB8) (by simp;lia) (λx hx=>?_) ⟨_,dU _<|aH.mpr rfl,z3.1⟩⟩
   rcases bh.mp hx with z|z
   ·rw[aH.mp z];exact⟨⟨_,z3.1⟩,z3.2⟩
   ·exact C4.row z
  ·refine⟨_,rfl,i8 (g _ _ () yBb) (show 2<=62 by decide) (λx hx=>?_) ⟨_,aK _<|aH.mpr rfl,z4.1⟩⟩
   rcases bq.mp hx with z|z
   ·rw[z];exact z5
   ·rw[aH.mp z];exact⟨⟨_,z4.1⟩,z4.2⟩
 refine⟨M,S4,?_,oM,hb4,(Kp.of0 e0).trans<|k5.mono λr _ z=>.inl z⟩;dsimp[fO,bools,<- N,<- hB2,c1,<- L,<- W,<- P,<- V,c2,<- Y,<- K,<- G,<- J,e4,g F.length _ () yBc,hM]
end
end K55
namespace K55
open PySem L2 Am
section
variable {S:fj}{b m n t:Nat}{qs:ag}{T:List (ae)}{a4:A}
def Hz(hb:jx S b)(h:Cop S m qs T)(hn:b∉m::qs)(ht:t<T.length):Way b m n t qs a4 S (fV (eZ gx (fU<|eU (eC<|.bl true)<|eU (eC<|.bl false)<|eU (eC<|.int 0)<|eU (rC l8<|eC<|.int 1)<|eU (eC .f6)<|eU (eZ fW (eZ iK (eC<|.int 10)<|eC<|.int 9)<|eC<|.int 1)<|eU (eC<|.str<|PySem.Str.ofString "2") ff)<|eFn fh<|eU (eW 0)<|eU (eC<|.int 7) ff)<|wM (eZ gx (eW 2)<|eW 3)<|eFn fh<|eU (eW 0)<|eU (fG (f1 gH)<|eU (eZ gx (eW 2)<|eW 3) ff) ff):=by
 obtain⟨q1,q2,q3,q4,q5,q6⟩:=h.at ht;have len:=h.len;have bS:=hb.lt;obtain⟨ys,C⟩:∃ys:ad,ys=[.bl true,.bl false,.int 0,.int<|-1,.f6,.int 1000000001,.str<|PySem.Str.ofString "2"]:=⟨_,rfl⟩;have n7:newL [.bl true,.bl false,.int 0,.int<|-1,.f6,.int 1000000001,.str<|PySem.Str.ofString "2"] S=.ok (.ref S.length) (S++[O.lst ys]):=by rw[C];exact gc (show 7<=16777216 by decide)
 have U:fY S (S++[O.lst ys]):=Kp.refl.lay;obtain⟨d,S4,e4,d0,d1,hb4,k4⟩:=digit (m:=7) (hb.kp U λz=>z) ⋯ ⋯;have gL:eX S4 S.length=some ys:=k4.lst _ _ () fu;have L:Cop S4 m qs T:=(h.kp U λ_ _ z=>z).kp k4 λr V z=>hn (by rw[<- z];exact V);obtain⟨y,hy,oy,py,sy⟩:∃y,iN ys d=some y/\iD y=false/\(∀N,Pl N y)/\∀N,gM N 7 y 1921:=by
  rw[C]
  rcases(by lia:d=0\/d=1\/d=2\/d=3\/d=4\/d=5\/d=6)with z|z|z|z|z|z|z<;>subst z
  ·exact⟨_,rfl,rfl,λ_=>trivial,λ_=>gM.bl⟩
  ·exact⟨_,rfl,rfl,λ_=>trivial,λ_=>gM.bl⟩
  ·exact⟨_,rfl,rfl,λ_=>trivial,λ_=>gM.int ⋯⟩
  ·exact⟨_,rfl,rfl,λ_=>trivial,λ_=>gM.int ⋯⟩
  ·exact⟨_,rfl,rfl,λ_=>trivial,λ_=>gM.f6⟩
  ·exact⟨_,rfl,rfl,λ_=>trivial,λ_=>gM.int ⋯⟩
  ·exact⟨_,rfl,rfl,λ_=>trivial,λ_=>gM.str ∅⟩
 obtain⟨p,W,e5,p0,p1,K,k5⟩:=digit (m:=((T.getD t []).length:Int)) hb4 () ();have k:Cop W m qs T:=L.kp k5 λr V z=>hn (by rw[<- z];exact V);obtain⟨r1,r2,Z,r4,r5,r6⟩:=k.at ht;obtain⟨_,p2,p3,_⟩:=L.at ht;have G:qs.getD t 0∈qs:=bf q1;have nm:qs.getD t 0≠m:=λz=>(bz.mp k.tab.nd).1 (by rw[<- z];exact G);have qS:qs.getD t 0<W.length:=kC Z;obtain⟨X,q⟩:∃X,X=((T.getD t []).map A.int).set p.toNat y:=⟨_,rfl⟩;have ix:pC (T.getD t []).length p=some p.toNat:=kT () ();obtain⟨g,f⟩:∃g,g=W.set (qs.getD t 0) (.lst X):=⟨_,rfl⟩;have D:eX g m=some (qs.map A.ref):=by rw[f,gv nm];exact k.tab.top
 have j:eX g (qs.getD t 0)=some X:=by rw[f];exact jA qS
 have lX:X.length<=60:=by rw[q,bA,aG];exact r6
 have yX:y∈X:=by rw[q];exact qV (by rw[aG];lia)
 have F:iX g (.ref<|qs.getD t 0) false:=jX j () (by rw[q];exact mX (P:=λx=>Pl g x) xh<|py _) (cW.mpr λz=>by
  have:=bW.mp z y yX;rw[oy]at this;cases this)
 have Y:gM g 8 (.ref<|qs.getD t 0) 120000:=(gM.lst (n:=7) (c:=1921) j (by
  rw[q];refine mX (P:=λx=>gM g 7 x 1921) (λx hx=>?_)<|sy _;obtain⟨v,hv,rfl⟩:=bg.mp hx;exact gM.int<|iV<|k.bd _ r4 v hv)).mono ()
 have old:∀x∈qs.map A.ref,(∃b,iX g x b)/\gM g 8 x 120000:=λx hx=>by
  kl_no;by_cases z:r=qs.getD t 0
  ·rw[z];exact⟨⟨_,F⟩,Y⟩
  ·o_rec;obtain⟨hT,B⟩:=k.tab.rows.get (i:=i) (r:=r) (by rw[aF hi,e]);obtain⟨_,_,_,J,_,le⟩:=k.at hT;exact mO (by rw[f,gv λw=>z w.symm];exact B) () λx hx=>iV<|k.bd _ J x hx
 refine⟨m,g,?_,i8 D (by rw[aG];have:=h.l1;lia) old ⟨_,bg.mpr ⟨_,G,rfl⟩,F⟩,by rw[f];exact K.sH λz=>hn<|by rw[<- z];exact aK _ G,?_⟩
 ·dsimp[fO,bools,uK,Int.reduceAdd,Int.reduceNeg,n7,e4,gL,hy,L.tab.top,p2,p3,aG,e5,Z,ix,f,q]
 ·rw[f];exact(((Kp.of0 U).trans<|k4.mono λr _ z=>.inl z).trans<|k5.mono λr _ z=>.inl z).set (.inl<|.inr<|aK _ G)
def HC(hb:jx S b)(h:Cop S m qs T)(hn:b∉m::qs)(ht:t<T.length):Way b m n t qs a4 S (fV (eZ fW (eZ fW (fU<|eU (eZ iK (eC<|.int 10)<|eC<|.int 9) ff)<|IJ (eZ gx (eW 2)<|eW 3) (xw<|eC<|.int 1) uR)<|fU<|eU (eC<|.int 1) ff)<|wM (eW 2)<|eW 3):=by
 obtain⟨q1,q2,q3,q4,q5,q6⟩:=h.at ht;have len:=h.len;have bS:=hb.lt;have mm:=h.tab.lt m<|aS ..;generalize hR:T.getD t []=R at q3 q4 q5 q6;obtain⟨B1,p⟩:∃B1,B1=S++[O.lst<|[1000000000].map A.int]:=⟨_,rfl⟩;have C:fY S B1:=by rw[p];z_go
 have xB1:eX B1 S.length=some ([1000000000].map A.int):=by rw[p];exact fu
 have lB1:B1.length=S.length+1:=by rw[p];simp
 obtain⟨B2,hB2⟩:∃B2,B2=B1++[O.lst<|(R.drop 1).map A.int]:=⟨_,rfl⟩;have Y:fY B1 B2:=by rw[hB2];z_go
 have xB2:eX B2 B1.length=some ((R.drop 1).map A.int):=by rw[hB2];exact fu
 have lB2:B2.length=B1.length+1:=by rw[hB2];simp
 obtain⟨B3,hB3⟩:∃B3,B3=B2++[O.lst<|[1000000000].map A.int++(R.drop 1).map A.int]:=⟨_,rfl⟩;have kB3:fY B2 B3:=by rw[hB3];z_go
 have xB3:eX B3 B2.length=some ([1000000000].map A.int++(R.drop 1).map A.int):=by rw[hB3];exact fu
 have lB3:B3.length=B2.length+1:=by rw[hB3];simp
 obtain⟨c,k⟩:∃c,c=B3++[O.lst<|[1].map A.int]:=⟨_,rfl⟩;have L:fY B3 c:=by rw[k];z_go
 have W:eX c B3.length=some ([1].map A.int):=by rw[k];exact fu
 have lB4:c.length=B3.length+1:=by rw[k];simp
 obtain⟨d,q⟩:∃d,d=c++[O.lst<|([1000000000]++R.drop 1++[1]).map A.int]:=⟨_,rfl⟩;have kB5:fY c d:=by rw[q];z_go
 have xB5:eX d c.length=some (([1000000000]++R.drop 1++[1]).map A.int):=by rw[q];exact fu
 have lB5:d.length=c.length+1:=by rw[q];simp
 have N:fY d d:=Kp.refl;have J:fY c d:=kB5.trans N;have eB3:fY B3 d:=L.trans J;have eB2:fY B2 d:=kB3.trans eB3;have eB1:fY B1 d:=Y.trans eB2;have e0:fY S d:=C.trans eB1;kcj_m;kpc_g;kpf_c;have yB4:=J.lst _ _ (λz=>z) W;have yB5:=N.lst _ _ (λz=>z) xB5;have cu:qI (R.map A.int) (some 1) none=(R.drop 1).map A.int:=by
  have:=xU (R.map A.int) 0 (by rw[aG];lia);rw[List.map_drop];exact this
 have c1:fW (.ref S.length) (.ref B1.length) B2=.ok (.ref B2.length) B3:=by rw[hB3];exact kE (Y.lst _ _ (λz=>z) xB1) xB2 (by simp;lia)
 have c2:fW (.ref B2.length) (.ref B3.length) c=.ok (.ref c.length) d:=by
  rw[q,bO,bO];exact kE (L.lst _ _ (λz=>z) xB3) W<|by simp;lia
 have D:Cop d m qs T:=h.kp e0 λ_ _ z=>z;have mS:m<d.length:=kC D.tab.top;have ix:pC qs.length (t:Int)=some t:=kT rfl ();obtain⟨g,f⟩:∃g,g=d.set m (.lst<|(qs.map A.ref).set t<|.ref c.length):=⟨_,rfl⟩;have U:eX g m=some ((qs.map A.ref).set t<|.ref c.length):=by rw[f];exact jA mS
 have B:eX g c.length=some (([1000000000]++R.drop 1++[1]).map A.int):=by rw[f,gv ()];exact yB5
 have lR:([1000000000]++R.drop 1++[1]).length<=62:=by simp;lia
 have V:iX g (.ref c.length) false:=by
  have:=kX B ();rw[pZ (R:=[1000000000]++R.drop 1++[1]) (i:=0) (j:=(R.drop 1).length+1) (x:=1000000000) (y:=1) () rfl (by rw[bX<|by simp];simp) ⋯]at this;exact this
 have tel:=(mO B lR (λx hx=>by
  rcases bh.mp hx with z|z
  ·rcases bh.mp z with w|w
   ·rw[aH.mp w];decide
   ·exact iV<|h.bd _ q4 x<|List.mem_of_mem_drop w
  ·rw[aH.mp z];decide)).2
 have old:∀x∈qs.map A.ref,(∃b,iX g x b)/\gM g 8 x 120000:=λx hx=>by
  kl_no;o_rec;obtain⟨hT,K⟩:=D.tab.rows.get (i:=i) (r:=r) (by rw[aF hi,e]);obtain⟨_,_,_,Z,_,le⟩:=D.at hT;exact mO (by rw[f,gv λz=>(bz.mp D.tab.nd).1<|by rw[z];exact hr'];exact K) () λx hx=>iV<|D.bd _ Z x hx
 refine⟨m,g,?_,i8 U (by rw[bA,aG];have:=h.l1;lia) (mX (P:=λx=>(∃b,iX g x b)/\gM g 8 x 120000) old ⟨⟨_,V⟩,tel⟩) ⟨_,qV<|by rw[aG];lia,V⟩,by rw[f];exact(hb.kp e0 λz=>z).sH λz=>hn<|by rw[<- z];exact aS ..,?_⟩
 ·have F:S++[O.lst [A.int 1000000000]]=B1:=p.symm;have G:B3++[O.lst [A.int 1]]=c:=k.symm;dsimp[fO,bools,uK,F,(h.kp C λ_ _ z=>z).tab.top,q2,C.lst _ _ (λz=>z) q3,cu,<- hB2,c1,G,c2,D.tab.top,aG,ix,f]
 ·rw[f];exact(Kp.of0 e0).set (.inl<|.inr<|aS ..)
def HA(hb:jx S b)(h:Cop S m qs T)(hn:b∉m::qs):Way b m n t qs a4 S (fV (eZ fW (eW 2)<|fU<|eU (gp [none] (gX<|eZ fW (fG (f1 gH)<|eU (eZ gx (eW 2)<|rC l8<|eC<|.int 1) ff)<|eC<|.int 1) (gf 0) gZ<|eZ aSub (eZ iK (eC<|.int 10)<|eC<|.int 9)<|eW 0) ff)<|gf 2):=by
 have ne:=h.ne;kst_p;have len:=h.len;have K:=h.l1;have B:=h.last;have L:=hb.lt;have C:=mD (cap:=[]) (t:=gZ) (e:=eZ aSub (eZ iK (eC<|.int 10)<|eC<|.int 9)<|eW 0) (τ:=[.ref b,.ref n,.ref m,.int (t:Int),a4]) (src:=gX<|eZ fW (fG (f1 gH)<|eU (eZ gx (eW 2)<|rC l8<|eC<|.int 1) ff)<|eC<|.int 1) (S:=S) (S1:=S) (lo:=0) (hi:=((T.getD (T.length-1) []).length:Int)+1)
  (iA (by dsimp[fO,bools,h.tab.top,B,q3,aG])<|iG () ()) (λ_=>true) (λk=>.int<|1000000000-k)
  (λk _ _=>by dsimp[fO,bools]) (λk U N _=>by dsimp[fO,bools,uK]) ()
 rw[b_.mpr λ_ _=>rfl]at C;obtain⟨B1,c⟩:∃B1,B1=S++[O.lst<|((iS 0<|((T.getD (T.length-1) []).length:Int)+1).map λk=>1000000000-k).map A.int]:=⟨_,rfl⟩;have d:fY S B1:=by rw[c];z_go
 have xB1:eX B1 S.length=some (((iS 0<|((T.getD (T.length-1) []).length:Int)+1).map λk=>1000000000-k).map A.int):=by rw[c];exact fu
 have J:B1.length=S.length+1:=by rw[c];simp
 kt_k;have g:fY B1 B2:=by rw[hB2];z_go
 have xB2:eX B2 B1.length=some [A.ref S.length]:=by rw[hB2];exact fu
 have G:B2.length=B1.length+1:=by rw[hB2];simp
 kd_p;have p:fY B2 B3:=by rw[hB3];z_go
 have xB3:eX B3 B2.length=some (qs.map A.ref++[A.ref S.length]):=by rw[hB3];exact fu
 have F:B3.length=B2.length+1:=by rw[hB3];simp
 have eB3:fY B3 B3:=Kp.refl;have eB2:fY B2 B3:=p.trans eB3;have eB1:fY B1 B3:=g.trans eB2;have e0:fY S B3:=d.trans eB1;kcj_m;kpc_g;kpf_c;have c1:fW (.ref m) (.ref B1.length) B2=.ok (.ref B2.length) B3:=by rw[hB3];exact kE ((d.trans g).lst _ _ (λz=>z) h.tab.top) xB2 (by simp;lia)
 have q:gp [none] (gX<|eZ fW (fG (f1 gH)<|eU (eZ gx (eW 2)<|rC l8<|eC<|.int 1) ff)<|eC<|.int 1) (gf 0) gZ (eZ aSub (eZ iK (eC<|.int 10)<|eC<|.int 9)<|eW 0) [.ref b,.ref n,.ref m,.int (t:Int),a4] S=.ok (.ref S.length) B1:=by rw[C,c,bY];rfl
 have f:∀j:Nat,j<(T.getD (T.length-1) []).length+1->((iS 0<|((T.getD (T.length-1) []).length:Int)+1).map λk=>1000000000-k)[j]?=some (1000000000-(j:Int)):=λj P=>by
  unfold iS;rw[aR,aR,List.getElem?_range ()];show some (1000000000-(0+(j:Int)))=_;rw[c_]
 refine⟨B2.length,B3,?_,mK h e0 yB3 yB1 (by rw[aG,kJ];lia) (λx hx=>by obtain⟨k,D,rfl⟩:=bg.mp hx;have:=sP.mp D;lia)<|.inr<|pZ (i:=0) (j:=1) (x:=1000000000-((0:Nat):Int)) (y:=1000000000-((1:Nat):Int)) ⋯ (f 0 ()) (f 1 ()) ⋯,hb.kp e0 λz=>z,Kp.of0 e0⟩;dsimp[fO,bools,h.tab.top,B,q3,q,<- hB2,c1]
def Ij(hb:jx S b)(h:Cop S m qs T)(hn:b∉m::qs):Way b m n t qs a4 S (fV (eZ fW (eW 2)<|fU<|eU (fU<|eU (eZ gx (eZ gx (eW 2)<|rC l8<|eC<|.int 1)<|eC<|.int 0) ff) ff)<|gf 2):=by
 have ne:=h.ne;kst_p;have len:=h.len;have F:=h.l1;have p:=h.last;have G:=hb.lt;have q:=kq (r:=T.getD (T.length-1) []) (i:=0) (k:=0) rfl q5;obtain⟨B1,c⟩:∃B1,B1=S++[O.lst<|([(T.getD (T.length-1) []).getD 0 0]).map A.int]:=⟨_,rfl⟩;have f:fY S B1:=by rw[c];z_go
 have xB1:eX B1 S.length=some (([(T.getD (T.length-1) []).getD 0 0]).map A.int):=by rw[c];exact fu
 have D:B1.length=S.length+1:=by rw[c];simp
 kt_k;have g:fY B1 B2:=by rw[hB2];z_go
 have xB2:eX B2 B1.length=some [A.ref S.length]:=by rw[hB2];exact fu
 have C:B2.length=B1.length+1:=by rw[hB2];simp
 kd_p;have j:fY B2 B3:=by rw[hB3];z_go
 have xB3:eX B3 B2.length=some (qs.map A.ref++[A.ref S.length]):=by rw[hB3];exact fu
 have B:B3.length=B2.length+1:=by rw[hB3];simp
 have eB3:fY B3 B3:=Kp.refl;have eB2:fY B2 B3:=j.trans eB3;have eB1:fY B1 B3:=g.trans eB2;have e0:fY S B3:=f.trans eB1;kcj_m;kpc_g;kpf_c;have c1:fW (.ref m) (.ref B1.length) B2=.ok (.ref B2.length) B3:=by rw[hB3];exact kE ((f.trans g).lst _ _ (λz=>z) h.tab.top) xB2 (by simp;lia)
 have d:S++[O.lst [A.int<|(T.getD (T.length-1) []).getD 0 0]]=B1:=c.symm;refine⟨B2.length,B3,?_,mK h e0 yB3 yB1 (show 1<=62 by decide) (λx hx=>by rw[aH.mp hx];exact iV<|h.bd _ q4 _<|bf<|getD_at q5)<|.inl<|qP (show 0<1 by decide) λz=>Int.lt_irrefl _ z,hb.kp e0 λz=>z,Kp.of0 e0⟩;dsimp[fO,bools,h.tab.top,p,q3,q,d,<- hB2,c1]
def HL(hb:jx S b)(h:Cop S m qs T)(hn:b∉m::qs):Way b m n t qs a4 S (fV (eZ fW (eW 2)<|fU<|eU (fG (f1 iQ)<|eU (eZ gx (eW 2)<|rC l8<|eC<|.int 1) ff) ff)<|gf 2):=by
 have ne:=h.ne;kst_p;have len:=h.len;have B:=h.l1;have j:=h.last;have C:=hb.lt;obtain⟨B1,c⟩:∃B1,B1=S++[O.lst<|(T.getD (T.length-1) []).map A.int]:=⟨_,rfl⟩;have d:fY S B1:=by rw[c];z_go
 have xB1:eX B1 S.length=some ((T.getD (T.length-1) []).map A.int):=by rw[c];exact fu
 have q:B1.length=S.length+1:=by rw[c];simp
 kt_k;have f:fY B1 B2:=by rw[hB2];z_go
 have xB2:eX B2 B1.length=some [A.ref S.length]:=by rw[hB2];exact fu
 have p:B2.length=B1.length+1:=by rw[hB2];simp
 kd_p;have g:fY B2 B3:=by rw[hB3];z_go
 have xB3:eX B3 B2.length=some (qs.map A.ref++[A.ref S.length]):=by rw[hB3];exact fu
 have k:B3.length=B2.length+1:=by rw[hB3];simp
 have eB3:fY B3 B3:=Kp.refl;have eB2:fY B2 B3:=g.trans eB3;have eB1:fY B1 B3:=f.trans eB2;have e0:fY S B3:=d.trans eB1;kcj_m;kpc_g;kpf_c;have c1:fW (.ref m) (.ref B1.length) B2=.ok (.ref B2.length) B3:=by rw[hB3];exact kE ((d.trans f).lst _ _ (λz=>z) h.tab.top) xB2 (by simp;lia)
 refine⟨B2.length,B3,?_,mK h e0 yB3 yB1 () (λx hx=>iV<|h.bd _ q4 x hx)<|.inl<|qP q5<|Int.lt_irrefl _,hb.kp e0 λz=>z,Kp.of0 e0⟩;dsimp[fO,bools,h.tab.top,j,q3,<- c,<- hB2,c1]
def Hj(hb:jx S b)(h:Cop S m qs T)(hn:b∉m::qs):Way b m n t qs a4 S (fV (eZ fW (eW 2)<|fU<|eU (fG (f1 iQ)<|eU (fG (f2 ow)<|eU (eZ iK (eC<|.int 10)<|eC<|.int 8)<|eU (eZ fW (eZ fW (eZ iK (eC<|.int 10)<|eC<|.int 8)<|fG (f1 gH)<|eU (eZ gx (eW 2)<|rC l8<|eC<|.int 1) ff)<|eC<|.int 1) ff) ff) ff)<|gf 2):=by
 have ne:=h.ne;kst_p;have len:=h.len;have C:=h.l1;have j:=h.last;have D:=hb.lt;obtain⟨B1,c⟩:∃B1,B1=S++[O.lst<|(iS 100000000<|100000000+((T.getD (T.length-1) []).length:Int)+1).map A.int]:=⟨_,rfl⟩;have d:fY S B1:=by rw[c];z_go
 have xB1:eX B1 S.length=some ((iS 100000000<|100000000+((T.getD (T.length-1) []).length:Int)+1).map A.int):=by rw[c];exact fu
 have B:B1.length=S.length+1:=by rw[c];simp
 kt_k;have f:fY B1 B2:=by rw[hB2];z_go
 have xB2:eX B2 B1.length=some [A.ref S.length]:=by rw[hB2];exact fu
 have q:B2.length=B1.length+1:=by rw[hB2];simp
 kd_p;have g:fY B2 B3:=by rw[hB3];z_go
 have xB3:eX B3 B2.length=some (qs.map A.ref++[A.ref S.length]):=by rw[hB3];exact fu
 have p:B3.length=B2.length+1:=by rw[hB3];simp
 have eB3:fY B3 B3:=Kp.refl;have eB2:fY B2 B3:=g.trans eB3;have eB1:fY B1 B3:=f.trans eB2;have e0:fY S B3:=d.trans eB1;kcj_m;kpc_g;kpf_c;have c1:fW (.ref m) (.ref B1.length) B2=.ok (.ref B2.length) B3:=by rw[hB3];exact kE ((d.trans f).lst _ _ (λz=>z) h.tab.top) xB2 (by simp;lia)
 have k:iQ (.rng 100000000<|100000000+((T.getD (T.length-1) []).length:Int)+1) S=.ok (.ref S.length) B1:=by rw[c];exact xZ ⟨⟨(),(),(),()⟩,()⟩
 refine⟨B2.length,B3,?_,mK h e0 yB3 yB1 (by rw[kJ];lia) (λx hx=>by have:=sP.mp hx;lia)<|.inl<|zv<|by rw[kJ];lia,hb.kp e0 λz=>z,Kp.of0 e0⟩;dsimp[fO,bools,h.tab.top,j,q3,Jf,aG,k,<- hB2,c1]
end
end K55
namespace K55
open PySem L2 Am
section
variable {S:fj}{b m n t:Nat}{qs:ag}{T:List (ae)}{a4:A}
def GU(hb:jx S b)(h:Cop S m qs T)(hn:b∉m::qs):Way b m n t qs a4 S (fV (eZ fW (fU<|eU (fU<|eU (eZ fW (eZ gx (eZ gx (eW 2)<|eC<|.int 0)<|eC<|.int 0)<|eC<|.int 1) ff) ff)<|eW 2)<|gf 2):=by
 have ne:=h.ne;obtain⟨q1,q2,q3,q4,q5,q6⟩:=h.at ne;have len:=h.len;have J:=h.l1;have B:=kq (r:=T.getD 0 []) (i:=0) (k:=0) rfl q5;obtain⟨B1,c⟩:∃B1,B1=S++[O.lst<|[(T.getD 0 []).getD 0 0+1].map A.int]:=⟨_,rfl⟩;have f:fY S B1:=by rw[c];z_go
 have xB1:eX B1 S.length=some ([(T.getD 0 []).getD 0 0+1].map A.int):=by rw[c];exact fu
 have G:B1.length=S.length+1:=by rw[c];simp
 kt_k;have g:fY B1 B2:=by rw[hB2];z_go
 have xB2:eX B2 B1.length=some [A.ref S.length]:=by rw[hB2];exact fu
 have D:B2.length=B1.length+1:=by rw[hB2];simp
 obtain⟨B3,hB3⟩:∃B3,B3=B2++[O.lst<|[A.ref S.length]++qs.map A.ref]:=⟨_,rfl⟩;have p:fY B2 B3:=by rw[hB3];z_go
 have xB3:eX B3 B2.length=some ([A.ref S.length]++qs.map A.ref):=by rw[hB3];exact fu
 have C:B3.length=B2.length+1:=by rw[hB3];simp
 have eB3:fY B3 B3:=Kp.refl;have eB2:fY B2 B3:=p.trans eB3;have eB1:fY B1 B3:=g.trans eB2;have e0:fY S B3:=f.trans eB1;kcj_m;kpc_g;kpf_c;have c1:fW (.ref B1.length) (.ref m) B2=.ok (.ref B2.length) B3:=by rw[hB3];exact kE xB2 ((f.trans g).lst _ _ (λz=>z) h.tab.top) (by simp;lia)
 have d:S++[O.lst [A.int<|(T.getD 0 []).getD 0 0+1]]=B1:=c.symm;have F:Tw B3 B2.length (S.length::qs) ([(T.getD 0 []).getD 0 0+1]::T):=⟨yB3,yB1,(h.tab.rK e0).rows⟩;have K:=h.bd _ q4 _<|bf<|getD_at q5;refine⟨B2.length,B3,?_,rg F (by rw[a_];lia) (λq j=>?_) (λq j x hx=>?_) ?_,hb.kp e0 λz=>z,Kp.of0 e0⟩
 ·dsimp[fO,bools,h.tab.top,show iN (qs.map A.ref) 0=some (.ref<|qs.getD 0 0)from q2,q3,B,d,<- hB2,c1]
 ·rcases bq.mp j with z|z
  ·rw[z];show 1<=62;decide
  ·have:=h.l2 q z;lia
 ·rcases bq.mp j with z|z
  ·rw[z]at hx;rw[aH.mp hx];lia
  ·exact iV<|h.bd q z x hx
 ·refine oA (i:=0) (by rw[a_];lia) ?_;show jL (T.getD 0 []) [(T.getD 0 []).getD 0 0+1]=false;exact qP q5<|show ¬(T.getD 0 []).getD 0 0+1<(T.getD 0 []).getD 0 0 by lia
theorem Rows.rev{S:fj}:∀{rs:ag}{T:List<|ae},Rows S rs T->Rows S rs.reverse T.reverse
 | [],[],_=>trivial
 | r::rs,t::T,h=>by
  rw[cH,cH];exact Rows.app (Rows.rev h.2) ⟨h.1,trivial⟩
def F_(hb:jx S b)(h:Cop S m qs T)(hn:b∉m::qs):Way b m n t qs a4 S (fV (eZ fW (rC yo<|eW 2)<|fU<|eU (fU<|eU (eC<|.int 1) ff) ff)<|gf 2):=by
 have ne:=h.ne;obtain⟨q1,q2,q3,q4,q5,q6⟩:=h.at ne;have len:=h.len;have V:=h.l1;obtain⟨B1,f⟩:∃B1,B1=S++[O.lst (qs.map A.ref).reverse]:=⟨_,rfl⟩;have C:fY S B1:=by rw[f];z_go
 have xB1:eX B1 S.length=some (qs.map A.ref).reverse:=by rw[f];exact fu
 have U:B1.length=S.length+1:=by rw[f];simp
 obtain⟨B2,hB2⟩:∃B2,B2=B1++[O.lst<|[1].map A.int]:=⟨_,rfl⟩;have p:fY B1 B2:=by rw[hB2];z_go
 have xB2:eX B2 B1.length=some ([1].map A.int):=by rw[hB2];exact fu
 have N:B2.length=B1.length+1:=by rw[hB2];simp
 obtain⟨B3,hB3⟩:∃B3,B3=B2++[O.lst [A.ref B1.length]]:=⟨_,rfl⟩;have j:fY B2 B3:=by rw[hB3];z_go
 have xB3:eX B3 B2.length=some [A.ref B1.length]:=by rw[hB3];exact fu
 have L:B3.length=B2.length+1:=by rw[hB3];simp
 obtain⟨c,d⟩:∃c,c=B3++[O.lst<|(qs.map A.ref).reverse++[A.ref B1.length]]:=⟨_,rfl⟩;have D:fY B3 c:=by rw[d];z_go
 have G:eX c B3.length=some ((qs.map A.ref).reverse++[A.ref B1.length]):=by rw[d];exact fu
 have J:c.length=B3.length+1:=by rw[d];simp
 have g:fY c c:=Kp.refl;have eB3:fY B3 c:=D.trans g;have eB2:fY B2 c:=j.trans eB3;have eB1:fY B1 c:=p.trans eB2;have e0:fY S c:=C.trans eB1;kcj_m;kpc_g;kpf_c;have B:=g.lst _ _ (λz=>z) G;have c1:fW (.ref S.length) (.ref B2.length) B3=.ok (.ref B3.length) c:=by rw[d];exact kE ((p.trans j).lst _ _ (λz=>z) xB1) xB3 (by simp;lia)
 have k:B1++[O.lst [A.int 1]]=B2:=hB2.symm;have P:Tw c B3.length (qs.reverse++[B1.length]) (T.reverse++[[1]]):=⟨by rw[B,bO,List.map_reverse];rfl,Rows.app (Rows.rev (h.tab.rK e0).rows) ⟨yB2,trivial⟩⟩;have W:=h.bd _ q4 _<|bf<|getD_at q5;have K:(T.reverse++[[1]]).getD T.length []=[1]:=by rw[aE,bX<|by simp];simp
 have g0:(T.reverse++[[1]]).getD (T.length-1) []=T.getD 0 []:=by
  rw[aE,aX<|by rw[ck];lia,List.getElem?_reverse (),show T.length-1-(T.length-1)=0 by lia,<- aE]
 refine⟨B3.length,c,?_,rg P (by rw[aU,ck];show T.length+1<=62;lia) (λq F=>?_) (λq F x hx=>?_) ?_,hb.kp e0 λz=>z,Kp.of0 e0⟩
 ·dsimp[fO,bools,h.tab.top,<- f,k,<- hB3,c1]
 ·rcases bh.mp F with z|z
  ·have:=h.l2 q<|List.mem_reverse.mp z;lia
  ·rw[aH.mp z];show 1<=62;decide
 ·rcases bh.mp F with z|z
  ·exact iV (h.bd q (List.mem_reverse.mp z) x hx)
  ·rw[aH.mp z]at hx;rw[aH.mp hx];decide
 ·refine oA (i:=T.length-1) (by rw[aU,ck];show T.length-1<T.length+1-1;lia) ?_;rw[show T.length-1+1=T.length by lia,K,g0];exact qP ⋯ (show ¬(T.getD 0 []).getD 0 0<1 by lia)
def Fp(hb:jx S b)(h:Cop S m qs T)(hn:b∉m::qs):Way b m n t qs a4 S (fV (fU<|eU (eW 2) ff)<|gf 2):=by
 have ne:=h.ne;obtain⟨q1,q2,q3,q4,q5,q6⟩:=h.at ne;have len:=h.len;have j:=h.l1;have k:fY S (S++[O.lst [.ref m]]):=Kp.refl.lay;have C:=h.kp k λ_ _ z=>z;refine⟨S.length,S++[O.lst [.ref m]],by dsimp[fO,bools],⟨vU fu (show 1<=1000 by decide) (λx hx=>?_) ⟨_,aH.mpr rfl,?_⟩,?_⟩,hb.kp k λz=>z,Kp.of0 k⟩
 ·rw[aH.mp hx];refine⟨false,jX C.tab.top (by rw[aG];lia) (λx hx=>?_) ?_⟩
  ·kl_no;o_rec;exact⟨_,(C.tab.rows.get (i:=i) (r:=r)<|by rw[aF hi,e]).2⟩
  ·cases qs with
   | nil=>exact absurd len (by show ¬0=T.length;lia)
   | cons q qs=>rfl
 ·refine jX C.tab.top (by rw[aG];lia) (λx hx=>?_) ?_
  ·kl_no;o_rec;exact⟨_,(C.tab.rows.get (i:=i) (r:=r)<|by rw[aF hi,e]).2⟩
  ·cases qs with
   | nil=>exact absurd len (by show ¬0=T.length;lia)
   | cons q qs=>rfl
 ·refine(gM.lst (n:=8) (c:=7500000) fu λx hx=>?_).IA (show(7500000+2) * 1+3<=16777216 by decide);rw[aH.mp hx];refine(gM.lst (n:=7) (c:=120000) C.tab.top λx hx=>?_).mono (by rw[aG];lia);kl_no;o_rec;obtain⟨g,d⟩:=C.tab.rows.get (i:=i) (r:=r) (by rw[aF hi,e]);obtain⟨_,_,_,f,_,p⟩:=C.at g;exact gM.row (n:=5) d () λx hx=>iV<|C.bd _ f x hx
end
def EI{n:Nat}(hb:jx S b)(h:Cop S n rs T):∃x S',jT [.ref b,.ref n] S=.ok x S'/\x.gW=false/\DX S' x/\jx S' b/\Kp (·=b) S S':=by
 have N:=hb.lt;have ne:=h.ne;have l1:=h.l1;obtain⟨qs,m,S1,e1,h1,G,f⟩:=jU (cap:=[]) (τ:=[.ref b,.ref n,.unb,.unb,.unb]) (src:=jI<|eW 1) h.tab (jE (by dsimp[fO,bools]) h.tab.top) ();have len:=h1.len;obtain⟨t,V,e2,t0,W,B,J⟩:=digit (m:=(qs.length:Int)) (hb.kp G λz=>z) () ();obtain⟨w,p,L,P,U,c,F⟩:=digit (m:=12) B ⋯ ⋯;have hn:b∉m::qs:=λz=>by have:=f b z;lia
 have d:Cop p m qs T:=⟨(h1.kp J λr j z=>hn<|by rw[<- z];exact j).kp F λr j z=>hn<|by rw[<- z];exact j,h.ta,h.bd,ne,l1,h.l2⟩;have g:Kp (·=b) S p:=((Kp.of0 G).trans J).trans F;obtain⟨t,rfl⟩:∃K:Nat,t=(K:Int):=⟨t.toNat,()⟩;have C:t<T.length:=()
 have kk:∀{S'},Kp (λr=>r=b\/r∈m::qs) p S'->Kp (·=b) S S':=λk=>g.old k λr j D z=>by
  rcases z with z|z
  ·exact D z
  ·have:=f r z;lia
 unfold jT ny nv;dsimp[fO,bools,gD,Nat.reduceAdd,Nat.reduceSub,e1,h1.top,aG,e2,L]
 rcases(by lia:w=0\/w=1\/w=2\/w=3\/w=4\/w=5\/w=6\/w=7\/w=8\/w=9\/w=10\/w=11)with z|z|z|z|z|z|z|z|z|z|z|z<;>subst z
 ·obtain⟨x,S4,e4,o4,hb4,k4⟩:=GI (n:=n) (a3:=.int (t:Int)) (a4:=.int 0) c d hn;refine⟨x,S4,by dsimp[fO,bools,Int.reduceBEq,↓e4],?_,o4,hb4,g.trans k4⟩;obtain⟨⟨_,q,_⟩,_⟩:=o4
  cases x with
  | unb=>exact absurd q (by unfold gb iH iJ;intro z;cases z)
  | _=>rfl
 ·obtain⟨M,S4,e4,o4,hb4,k4⟩:=HS (n:=n) (t:=t) (a4:=.int 1) c d hn C;room
 ·obtain⟨M,S4,e4,o4,hb4,k4⟩:=HR (n:=n) (t:=t) (a4:=.int 2) c d hn;room
 ·obtain⟨M,S4,e4,o4,hb4,k4⟩:=Hz (n:=n) (t:=t) (a4:=.int 3) c d hn C;room
 ·obtain⟨M,S4,e4,o4,hb4,k4⟩:=HC (n:=n) (t:=t) (a4:=.int 4) c d hn C;room
 ·obtain⟨M,S4,e4,o4,hb4,k4⟩:=HA (n:=n) (t:=t) (a4:=.int 5) c d hn;room
 ·obtain⟨M,S4,e4,o4,hb4,k4⟩:=Ij (n:=n) (t:=t) (a4:=.int 6) c d hn;room
 ·obtain⟨M,S4,e4,o4,hb4,k4⟩:=HL (n:=n) (t:=t) (a4:=.int 7) c d hn;room
 ·obtain⟨M,S4,e4,o4,hb4,k4⟩:=GU (n:=n) (t:=t) (a4:=.int 8) c d hn;room
 ·obtain⟨M,S4,e4,o4,hb4,k4⟩:=Hj (n:=n) (t:=t) (a4:=.int 9) c d hn;room
 ·obtain⟨M,S4,e4,o4,hb4,k4⟩:=F_ (n:=n) (t:=t) (a4:=.int 10) c d hn;room
 ·obtain⟨M,S4,e4,o4,hb4,k4⟩:=Fp (n:=n) (t:=t) (a4:=.int 11) c d hn;room
end K55
namespace K55
open PySem L2 Am
abbrev GG (T:List<|ae):Prop:=T.length<=60/\∀i,(T.getD i []).length<=61
def mz{T:List<|ae}{r:ae}(h:GG T)(hr:r.length<=61):GG (T.set i r):=by
 refine⟨by rw[bA];exact h.1,λj=>?_⟩;rw[aE,cJ];by_cases c:i=j
 ·rw[aZ c];split
  ·exact hr
  ·exact cg _
 ·rw[bu c,<- aE];exact h.2 j
def JL{k:Nat}(h:k<l):seqIndex? (k:Int) l=some k:=by
 unfold seqIndex?;simp
 lia
theorem qA:∀(l:ae) (k:Nat),(l.map A.int).eraseIdx k=(l.eraseIdx k).map A.int
 | [],_=>rfl
 | _::_,0=>rfl
 | x::l,k+1=>cG (A.int x::·)<|qA l k
def uP{n:Nat}(hb:jx S b)(h:Cop S n rs T):∃m qs T' S',g5 [.ref b,.ref n] S=.ok (.ref m) S'/\Tab S' m qs T'/\GG T'/\jx S' b/\Kp (·=b) S S':=by
 have bS:=hb.lt;have ne:=h.ne;have l1:=h.l1;obtain⟨qs,m,S1,e1,h1,k1,fr1⟩:=jU (cap:=[]) (τ:=[.ref b,.ref n,.unb,.unb,.unb,.unb,.unb,.unb,.unb]) (src:=jI<|eW 1) h.tab (jE (by dsimp[fO,bools]) h.tab.top) ();have len:=h1.len;have hn:b∉m::qs:=λz=>by have:=fr1 b z;lia
 have G:∀{X Y:fj},Kp (·=b) X Y->∀r∈m::qs,¬r=b:=λ_ r hr z=>hn (by rw[<- z];exact hr);have C1:Cop S1 m qs T:=⟨h1,h.ta,h.bd,ne,l1,h.l2⟩;obtain⟨t,S2,e2,t0,t1,hb2,k2⟩:=digit (m:=(T.length:Int)) (hb.kp k1 λz=>z) () ();obtain⟨t,rfl⟩:∃t':Nat,t=(t':Int):=⟨t.toNat,()⟩;have N:t<T.length:=()
 have C2:=C1.kp k2<|G k2;obtain⟨q1,q2,q3,q4,q5,q6⟩:=C2.at N;obtain⟨p,S3,e3,p0,p1,hb3,k3⟩:=digit (m:=((T.getD t []).length:Int)) hb2 () ();obtain⟨p,rfl⟩:∃p':Nat,p=(p':Int):=⟨p.toNat,()⟩;have hp:p<(T.getD t []).length:=()
 have C3:=C2.kp k3<|G k3;have ap:=kq (r:=T.getD t []) (i:=(p:Int)) rfl hp;obtain⟨u,S4,e4,u0,u1,hb4,k4⟩:=digit (m:=(T.length:Int)) hb3 () ();obtain⟨u,rfl⟩:∃u':Nat,u=(u':Int):=⟨u.toNat,()⟩;have hu:u<T.length:=()
 have C4:=C3.kp k4<|G k4;obtain⟨v1,v2,v3,v4,v5,v6⟩:=C4.at hu;obtain⟨w,S5,e5,w0,w1,hb5,k5⟩:=digit (m:=((T.getD u []).length:Int)) hb4 () ();obtain⟨w,rfl⟩:∃w':Nat,w=(w':Int):=⟨w.toNat,()⟩;have hw:w<(T.getD u []).length:=()
 have U:=kq (r:=T.getD u []) (i:=(w:Int)) rfl hw;obtain⟨y,f,e6,y0,y1,q,k6⟩:=digit (m:=5) hb5 ⋯ ⋯;have j:=(C4.kp k5<|G k5).kp k6<|G k6;have k06:Kp (·=b) S f:=(((((Kp.of0 k1).trans k2).trans k3).trans k4).trans k5).trans k6;have D:GG T:=⟨l1,λi=>by
  by_cases hi:i<T.length
  ·have:=(j.at hi).2.2.2.2.2;lia
  ·rw[aE,cU ()];exact cg _⟩
 have kk:∀{S'},Kp (λr=>r=b\/r∈m::qs) f S'->Kp (·=b) S S':=λk=>k06.old k λr hr hrb z=>by
  rcases z with z|z
  ·exact hrb z
  ·have:=fr1 r z;lia
 have F:qs.getD t 0∈m::qs:=aK _<|bf q1;have vm:qs.getD u 0∈m::qs:=aK _<|bf v1;have nb:∀r∈m::qs,r≠b:=λr hr z=>hn (by rw[<- z];exact hr);have b6:=q.lt;have top:eX S3 m=some (qs.map .ref):=C3.tab.top;have r3:=(C3.at N).2.2.1;have K:pC (T.getD t []).length (p:Int)=some p:=kT rfl hp;have ixw:pC (T.getD u []).length (w:Int)=some w:=kT rfl hw;unfold g5 jF jD;dsimp[fO,bools,gD,Nat.reduceAdd,Nat.reduceSub,e1,h1.top,aG,len,e2,C2.tab.top,q2,q3,e3,C3.tab.top,r3,ap,e4,C4.tab.top,v2,v3,e5,e6];generalize hL:(T.getD t []).getD p 0=L at *
 obtain⟨V,hV⟩:∃V,(T.getD u []).getD w 0=V:=⟨_,rfl⟩;rw[hV]at U;obtain⟨c1,c2,c3,c4,c5,c6⟩:=j.at N;obtain⟨o1,o2,o3,o4,o5,o6⟩:=j.at hu;have n6:newL [.int<|L-1,.int<|L+1,.int V,.int 1000000000,.int 1000000001,.int 0] f=.ok (.ref f.length) (f++[O.lst [.int<|L-1,.int<|L+1,.int V,.int 1000000000,.int 1000000001,.int 0]]):=gc (show 6<=16777216 by decide);obtain⟨d,S7,e7,d0,d1,hb7,k7⟩:=digit (m:=6) (q.app (o:=O.lst [.int<|L-1,.int<|L+1,.int V,.int 1000000000,.int 1000000001,.int 0])) ⋯ ⋯;have C7:=j.app.kp k7<|G k7;obtain⟨a1,a2,a3,_,_,_⟩:=C7.at N;have g7:eX S7 f.length=some [.int<|L-1,.int<|L+1,.int V,.int 1000000000,.int 1000000001,.int 0]:=k7.lst _ _ () fu;obtain⟨x,hx⟩:∃x,iN ([.int<|L-1,.int<|L+1,.int V,.int 1000000000,.int 1000000001,.int 0]:ad) d=some (.int x):=by
  rcases(by lia:d=0\/d=1\/d=2\/d=3\/d=4\/d=5)with z|z|z|z|z|z<;>subst z<;>exact⟨_,rfl⟩
 have t7:=C7.tab.set (ys:=(T.getD t []).set p x) a1;have f7:GG (T.set t<|(T.getD t []).set p x):=mz D (by rw[bA];lia);have s7:Kp (λr=>r=b\/r∈m::qs) f (S7.set (qs.getD t 0)<|.lst<|((T.getD t []).set p x).map .int):=(Kp.refl.lay.trans<|k7.mono λr _ z=>.inl z).set<|.inl<|.inr F;have b7:jx (S7.set (qs.getD t 0)<|.lst<|((T.getD t []).set p x).map .int) b:=hb7.sH (nb _ F)
 rcases(by lia:y=0\/y=1\/y=2\/y=3\/y=4)with z|z|z|z|z<;>subst z
 ·refine⟨m,qs,_,_,?_,t7,f7,b7,kk s7⟩;dsimp[fO,bools,Int.reduceLT,eB,d8,Int.reduceBEq,uK,Int.reduceAdd,j.tab.top,o2,o3,U,n6,e7,g7,hx,C7.tab.top,a2,a3,aG,K,eN]
 ·refine⟨m,qs,_,_,?_,t7,f7,b7,kk s7⟩;dsimp[fO,bools,Int.reduceLT,eB,d8,Int.reduceBEq,uK,Int.reduceAdd,j.tab.top,o2,o3,U,n6,e7,g7,hx,C7.tab.top,a2,a3,aG,K,eN]
 ·have P:=j.tab.set (ys:=(T.getD t []).eraseIdx p) c1;have po:uQ (.ref<|qs.getD t 0) [.int (p:Int)] f=.ok (.int L) (f.set (qs.getD t 0)<|.lst<|((T.getD t []).eraseIdx p).map .int):=by
   show opt (eX f<|qs.getD t 0) _=_;rw[c3,gq,ie<|show -(2 ^ 63:Int)<=(p:Int)/\(p:Int)<2 ^ 63 by lia,aG,JL hp,gq,aR,Am.getD_at hp,hL];show R.ok (A.int L) (f.set _<|.lst<|((T.getD t []).map A.int).eraseIdx p)=_;rw[qA]
  refine⟨m,qs,_,_,?_,P,mz D (by have:=List.length_eraseIdx_le (T.getD t []) p;lia),q.sH<|nb _ F,kk<|Kp.refl.set<|.inl<|.inr F⟩;dsimp[fO,bools,Int.reduceLT,eB,d8,Int.reduceBEq,j.tab.top,c2,c3,po]
 ·obtain⟨g,C,e8,g0,g1,W,k8⟩:=digit (m:=2) q ⋯ ⋯;have C8:=j.kp k8<|G k8;obtain⟨_,j2,j3,_,_,_⟩:=C8.at hu;have n3:newL [.int L,.int<|L+1,.int V] C=.ok (.ref C.length) (C++[O.lst [.int L,.int<|L+1,.int V]]):=gc (show 3<=16777216 by decide);obtain⟨i,S9,e9,i0,i1,hb9,k9⟩:=digit (m:=3) (W.app (o:=O.lst [.int L,.int<|L+1,.int V])) ⋯ ⋯;have C9:=C8.app.kp k9<|G k9;obtain⟨b1,b2,b3,_,_,_⟩:=C9.at N;have g9:eX S9 C.length=some [.int L,.int<|L+1,.int V]:=k9.lst _ _ (by have:=W.lt;lia) fu;obtain⟨xx,hxx⟩:∃xx,iN ([.int L,.int<|L+1,.int V]:ad) i=some (.int xx):=by
   rcases(by lia:i=0\/i=1\/i=2)with z|z|z<;>subst z<;>exact⟨_,rfl⟩
  obtain⟨J,hg⟩:∃J:Nat,(p:Int)+g=(J:Int):=⟨((p:Int)+g).toNat,()⟩;have t9:=C9.tab.set (ys:=(T.getD t []).take J++xx::(T.getD t []).drop J) b1;have ins:qC (.ref<|qs.getD t 0) [.int (J:Int),.int xx] S9=.ok .f6 (S9.set (qs.getD t 0)<|.lst<|((T.getD t []).take J++xx::(T.getD t []).drop J).map .int):=by
   show opt (eX S9<|qs.getD t 0) _=_;rw[b3,gq,ie ⟨(),(),by rw[aG];lia,by rw[aG,bV];lia⟩];simp
  refine⟨m,qs,_,_,?_,t9,mz D<|by rw[aU,a_,cO,cP];lia,hb9.sH<|nb _ F,kk<|((k8.mono λr _ z=>.inl z).trans<|Kp.refl.lay.trans<|k9.mono λr _ z=>.inl z).set<|.inl<|.inr F⟩;dsimp[fO,bools,Int.reduceLT,eB,d8,Int.reduceBEq,j.tab.top,c2,c3,e8,hg,C8.tab.top,j2,j3,U,n3,e9,g9,hxx,ins]
 ·have P:=j.tab.set (ys:=(T.getD t []).set p V) c1;obtain⟨C,B⟩:∃C,C=f.set (qs.getD t 0) (.lst<|((T.getD t []).set p V).map .int):=⟨_,rfl⟩;rw[<- B]at P;have lt8:((T.set t<|(T.getD t []).set p V).getD u []).length=(T.getD u []).length:=by
   rw[aE,cJ];by_cases c:t=u
   ·rw[aZ c,aZ N,<- c];show((T.getD t []).set p V).length=_;rw[bA]
   ·rw[bu c,<- aE]
  have z3:=(P.rows.get v1).2;have t9:=P.set (ys:=((T.set t<|(T.getD t []).set p V).getD u []).set w L) v1;have f8:GG (T.set t<|(T.getD t []).set p V):=mz D (by rw[bA];lia);have Z:pC ((T.set t<|(T.getD t []).set p V).getD u []).length (w:Int)=some w:=by rw[lt8];exact ixw
  have k68:Kp (λr=>r=b\/r∈m::qs) f C:=by rw[B];exact Kp.refl.set (.inl<|.inr F)
  have b8:jx C b:=by rw[B];exact q.sH (nb _ F)
  refine⟨m,qs,_,_,?_,t9,mz f8<|by rw[bA];exact f8.2 u,b8.sH<|nb _ vm,kk<|k68.set<|.inl<|.inr vm⟩;dsimp[fO,bools,Int.reduceLT,eB,d8,Int.reduceBEq,j.tab.top,c2,c3,o2,o3,U,oY<|show([_,_]:ad).length<=16777216 by simp,ie<|show([_,_]:ad).length=2 from rfl,aG,K,<- eN,<- B,P.top,z3,Z]
end K55
namespace K55
open PySem L2 Am
theorem wX:∀(T:List<|ae) (x:Int) (r:ae) (y:Int),r∈Tb.put T x->y∈r->y=x\/∃q∈T,y∈q
 | [],x,r,y,hr,d=>by
  have:r=[x]:=aH.mp hr;rw[this]at d;exact .inl<|aH.mp d
 | q::T,x,r,y,hr,d=>by
  by_cases c:Tb.fg q x=q.length
  ·rw[Tb.mq c]at hr
   rcases bq.mp hr with z|z
   ·rw[z]at d
    rcases bh.mp d with w|w
    ·exact .inr ⟨q,aS ..,w⟩
    ·exact .inl<|aH.mp w
   ·exact .inr ⟨r,aK _ z,d⟩
  ·rw[Tb.o8 c]at hr;have lt:=Tb.rR c
   rcases bq.mp hr with z|z
   ·rw[z]at d
    rcases List.mem_or_eq_of_mem_set d with w|w
    ·exact .inr ⟨q,aS ..,w⟩
    ·exact .inl w
   ·rcases wX T _ r y z d with w|⟨p,f,w⟩
    ·exact .inr ⟨q,aS ..,by rw[w];exact bf<|Am.getD_at lt⟩
    ·exact .inr ⟨p,aK _ f,w⟩
theorem rE{xs:ae}(hx:∀x∈xs,1<=x/\x<=1000000000):∀n,n<=xs.length->Hq (Tb.tabs xs n).1
 | 0,_=>λr c=>nomatch c
 | n+1,h=>λr c y d=>by
  rcases wX (Tb.tabs xs n).1 (xs.getD n 0) r y c d with z|⟨q,f,z⟩
  ·rw[z];exact hx _ (bf<|Am.getD_at ())
  ·exact rE hx n () q f y z
def sY{n:Nat}{xs:ae}(h:Tab S n rs (Tb.tabs xs xs.length).1)(hx:∀x∈xs,1<=x/\x<=1000000000)(h0:0<xs.length)(hl:xs.length<=60):Cop S n rs (Tb.tabs xs xs.length).1:=by
 obtain⟨f,d⟩:=Tb.o_ xs xs.length;refine⟨h,Sy.x_ xs<|aL _,rE hx _<|aL _,?_,(),λr c=>?_⟩
 ·rcases Nat.eq_zero_or_pos (Tb.tabs xs xs.length).1.length with z|z
  ·have:=Tb.mJ xs xs.length;rw[List.eq_nil_of_length_eq_zero z]at this;have:0=xs.length:=this
   lia
  ·exact z
 ·obtain⟨i,hi,e⟩:=bG c;have:=d i;rw[aE,aF hi,e]at this;have:r.length<=xs.length:=this
  lia
def ya{r:ae}(h1:r≠[])(h2:Sy.DE r)(hb:∀x∈r,1<=x/\x<=1000000000):ju r=true:=by
 unfold ju;have s:sortI r=r:=(sortI_perm r).eq_of_pairwise (λ_ _ _ _ a b=>Int.le_antisymm a b) (mL r) h2;rw[bQ,bQ];refine⟨bW.mpr λx hx=>?_,aV<|d7.mpr h1,aV s.symm⟩;obtain⟨v,hv,rfl⟩:=bg.mp hx;have:=hb v hv;show(decide (1<=v) && decide (v<=1000000000))=true;rw[aV this.1,aV this.2];rfl
def yi{R:ae}(h:Sy.Fits U R):jL U R=true:=by
 unfold jL;rw[bQ];refine⟨aV h.1,bW.mpr λb c=>?_⟩;obtain⟨i,hi,rfl⟩:=bg.mp c;have hi:=cA.mp hi;exact aV<|h.2 i _ _ (Am.getD_at (by have:=h.1;lia))<|Am.getD_at hi
theorem lK:∀{T:List<|ae}(k:Nat),Sy.pS T->Sy.pS (T.drop k)
 | [],k,_=>by rw[List.drop_nil];trivial
 | r::T,0,h=>h
 | r::T,k+1,h=>lK k h.2.2.2
def zC{n:Nat}(h:Cop S n rs T):mj T=true:=by
 have c:∀i,i<T.length->T.drop i=T.getD i []::T.drop (i+1):=λi hi=>by
  rw[aE,aF hi];exact List.drop_eq_getElem_cons hi
 refine xr (λi hi=>?_) λi hi=>?_
 ·have:=lK i h.ta;rw[c i hi]at this;exact ya this.1 this.2.1 (h.bd _ (h.at hi).2.2.2.1)
 ·have:=lK i h.ta;rw[c i ()]at this;exact yi<|this.2.2.1 _<|by rw[c (i+1) ()];rfl
def g9{v:A}:gf 9 v [x0,x1,x2,x3,x4,x5,x6,x7,x8,x9] S=.ok [x0,x1,x2,x3,x4,x5,x6,x7,x8,v] S:=rfl
def v9{k:Bool}:eW 9 [x0,x1,x2,x3,x4,x5,x6,x7,x8,.bl k] S=.ok (.bl k) S:=rfl
def FI(ns:ae)(hl:ns.length<=63):∃S',p_ [.frz<|ns.map .int] []=.ok (.bl true) S':=by
 generalize([]:fj)=S;unfold p_ zb zW;dsimp[fO,bools,gD,Nat.reduceAdd,Nat.reduceSub];generalize hM:(if (if (6:Int)<(ns.length:Int)then(6:Int)else(ns.length:Int))>2 then(if (6:Int)<(ns.length:Int)then(6:Int)else(ns.length:Int))else 2)=M;have M0:2<=M:=by rw[<- hM];split<;>lia
 have M1:M<=6:=by rw[<- hM];split<;>split<;>lia
 refine mG (lo:=0) (hi:=M) (S1:=S) (show uT _ _=_ from iA (by dsimp[fO,bools,aG,hM])<|iG () ())
  (λi τ S1=>∃a1 a2 a3 a4 V P a7 W a9,τ=[.frz<|ns.map .int,a1,a2,a3,a4,V,P,a7,W,a9])
  (λr=>∃S',RS.end (RS.seq r _)=.ok (.bl true) S') ⟨_,_,_,_,_,_,_,_,_,rfl⟩ ?_ ?_
 ·rintro i τ S1 hi ⟨a1,a2,a3,a4,V,P,a7,W,a9,rfl⟩;obtain⟨S2,e2,hb2,k2⟩:=Ce (S:=S1) (ns:=ns) (k:=0+(i:Int)) () ();have bS:=hb2.lt;generalize hb:S1.length=b at e2 hb2 bS;obtain⟨f,S3,e3,f0,f1',hb3,k3⟩:=digit (m:=9) hb2 ⋯ ⋯;obtain⟨S4,hS4⟩:∃S4,S4=S3++[O.lst<|[1+f].map A.int]:=⟨_,rfl⟩;have k34:fY S3 S4:=by rw[hS4];z_go
  have x4:eX S4 S3.length=some ([1+f].map A.int):=by rw[hS4];exact fu
  have n4:newL [.int 12,.int 39] S4=.ok (.ref S4.length) (S4++[O.lst [.int 12,.int 39]]):=gc (show 2<=16777216 by decide);have hb4:=hb3.kp k34 λz=>z;have kL:fY S4 (S4++[O.lst [.int 12,.int 39]]):=Kp.refl.lay;obtain⟨d,S5,e5,d0,d1,hb5,k5⟩:=digit (m:=4) (hb4.kp kL λz=>z) ⋯ ⋯;have b3:=hb3.lt;have b4:=hb4.lt;have gL:eX S5 S4.length=some [.int 12,.int 39]:=k5.lst _ _ () fu;obtain⟨mo,hmo,m0,m1⟩:∃mo:Int,iN ([.int 12,.int 39]:ad) (if (d == 2)=true then 1 else 0)=some (.int mo)/\0<=mo/\mo<=39:=by
   cases(d == 2)
   ·exact⟨12,rfl,by decide,by decide⟩
   ·exact⟨39,rfl,by decide,by decide⟩
  obtain⟨xs,L,S6,e6,g6,hx6,hxb,hb6,k6,l6⟩:=ur (most:=mo) hb5 m0 ();have x6:eX S6 S3.length=some ([1+f].map A.int):=k6.lst _ _ ()<|k5.lst _ _ ()<|kL.lst _ _ (λz=>z) x4;obtain⟨S7,hS7⟩:∃S7,S7=S6++[O.lst<|((1+f)::xs).map A.int]:=⟨_,rfl⟩;have c7:fW (.ref S3.length) (.ref L) S6=.ok (.ref S6.length) S7:=by rw[hS7];exact kE x6 g6 (by simp;lia)
  have x7:eX S7 S6.length=some (((1+f)::xs).map A.int):=by rw[hS7];exact fu
  have k67:fY S6 S7:=by rw[hS7];z_go
  obtain⟨rs,qs,n,m,S8,e8,hP,hQ,k8,fr8',_,_⟩:=rD x7 (by rw[a_];lia);have hb8:=hb6.kp (k67.trans k8) λz=>z;have fr8:∀r∈n::rs,S6.length<=r:=λr hr=>bF k67.len<|fr8' r hr;have C8:=sY hP (λx hx=>by
   rcases bq.mp hx with z|z
   ·rw[z];lia
   ·exact hxb x z) (by rw[a_];lia)<|by rw[a_];lia
  obtain⟨g,S9,e9,g0,g1,hb9,k9⟩:=digit (m:=8) hb8 ⋯ ⋯;have C9:=C8.kp k9 λr hr z=>by have:=fr8 r hr;have:=hb6.lt;lia
  have z0:∀{a b:A},iN [a,b] 0=some a:=sW;unfold v_;dsimp[fO,bools,e2,e3,show S3++[O.lst [A.int<|1+f]]=S4 from hS4.symm,n4,e5,gL,hmo,e6,c7,e8,z0,e9];obtain⟨N,ps,U,p,e10,B,J,hbN⟩:∃N ps U p,GO (fV (eZ gx (eFn gK<|eU (gp [none,some 2] (gX<|eZ fW (eC<|.int 41)<|eFn fh<|eU (eW 2)<|eU (eC<|.int 20)<|ff) (gf 0) gZ<|eZ fW (eC<|.int 1)<|eFn fh<|eU (eW 1)<|eU (eC<|.int 9)<|ff)<|ff)<|eC<|.int 0)<|gf 3) jv [.frz<|ns.map .int,.int<|0+(i:Int),.ref b,.ref n,a4,V,P,a7,W,a9] (g == 7) S9=.nx [.frz<|ns.map .int,.int<|0+(i:Int),.ref b,.ref N,a4,V,P,a7,W,a9] p/\Cop p N ps U/\jx p b/\b∉N::ps:=by
   cases g == 7 with
   | false=>exact⟨n,rs,_,S9,by dsimp[fO,bools],C9,hb9,λz=>by have:=fr8 b z;have:=hb6.lt;lia⟩
   | true=>
    obtain⟨h,p,e10,h0,h1,J,k10⟩:=digit (m:=20) hb9 ⋯ ⋯;obtain⟨c,hc⟩:∃c:Nat,41+h=(c:Int):=⟨(41+h).toNat,()⟩;obtain⟨ys,G,e11,zs,l11,z11,b11,hb11,k11⟩:=r_ (s:=iT 0 (c:Int)) (g:=gf 0) (e:=eZ fW (eC<|.int 1)<|eFn fh<|eU (eW 1)<|eU (eC<|.int 9) ff) (T:=λτ'=>∃y,τ'=[y,.ref b])
     (λi acc S'=>∃zs:ae,acc=zs.map A.int/\zs.length=i/\(∀z∈zs,1<=z/\z<=1000000000)/\jx S' b/\Kp (·=b) p S')
     (λi acc τ S' hi ⟨y,e⟩ ⟨zs,ea,el,ez,eb,ek⟩=>by
      subst e;obtain⟨q,Y,e12,q0,q1,hb12,F⟩:=digit (m:=9) eb ⋯ ⋯;refine⟨.int<|0+(i:Int),[.int<|0+(i:Int),.ref b],S',.int<|1+q,Y,aZ hi,by dsimp[fO,bools],⟨_,rfl⟩,by dsimp[fO,bools,e12],zs++[1+q],by rw[ea,bO];rfl,by rw[aU,el];rfl,λz hz=>?_,hb12,ek.trans F⟩
      rcases bh.mp hz with w|w
      ·exact ez z w
      ·rw[aH.mp w];lia)
     (λacc S' _=>rfl) c 0 [] [.unb,.ref b] p (by show c+0=((c:Int)-0).toNat;lia) ⟨_,rfl⟩ ⟨[],rfl,rfl,(nofun),J,Kp.refl⟩
    rw[eS]at l11;have z11:zs.length=((c:Int)-0).toNat:=z11;subst l11;have ec:gp [none,some 2] (gX<|eZ fW (eC<|.int 41)<|eFn fh<|eU (eW 2)<|eU (eC<|.int 20) ff) (gf 0) gZ (eZ fW (eC<|.int 1)<|eFn fh<|eU (eW 1)<|eU (eC<|.int 9) ff) [.frz<|ns.map .int,.int<|0+(i:Int),.ref b,.ref n,a4,V,P,a7,W,a9] S9=.ok (.ref G.length) (G++[.lst<|zs.map A.int]):=by
     unfold gp;rw[iA (S1:=p) (j:=(c:Int)) (by dsimp[fO,bools,e10,hc])<|iG () (),Am.R.gP];show Am.R.jf (gB (iT 0 (c:Int)) _ _ _ ((c:Int)-0).toNat 0 [.unb,.ref b] p) _=_;rw[show((c:Int)-0).toNat=c by lia,e11,Am.R.gj,gc<|by rw[aG];lia]
    obtain⟨rs',qs',n',m',D,Z,hP',hQ',k13,fr13,_,_⟩:=rD (S:=G++[O.lst<|zs.map A.int]) (L:=G.length) (xs:=zs) fu ();refine⟨n',rs',_,D,by dsimp[fO,bools,ec,Z,z0],sY hP' b11 () (),(hb11.kp (c:=λ_=>False) Kp.refl.lay λz=>z).kp k13 λz=>z,λz=>?_⟩;have:=fr13 b z;have:=hb11.lt;rw[aU]at *
    lia
  have tg:=zC B;obtain⟨hs,H,G,e11,hH,k11,fr11⟩:=jU (cap:=[]) (τ:=[.frz<|ns.map .int,.int<|0+(i:Int),.ref b,.ref N,a4,V,P,a7,W,a9]) (src:=jI<|eW 3) B.tab (jE (by dsimp[fO,bools]) B.tab.top) (by have:=B.l1;lia);have rl:∀{S:fj} {n:Nat} {rs:ag} {T:List<|ae},Cop S n rs T->∀i,(T.getD i []).length<64:=λ{S n rs T} C i=>by
   by_cases hi:i<T.length
   ·have:=(C.at hi).2.2.2.2.2;lia
   ·rw[aE,cU ()];show 0<64;decide
  obtain⟨Y,e12,F⟩:=oE (zu hH) (by have:=B.l1;lia)<|rl B;rw[tg]at e12;have q1:=BH<|(hH.rK F).eq<|(B.tab.rK k11).rK F;rw[aV rfl,bT]at q1;obtain⟨D,Z,k13⟩:=oE (S:=Y++[O.lst []]) (n:=Y.length) (rs:=[]) (T:=[]) ⟨fu,trivial⟩ ⋯ (λi=>by show 0<64;decide);rw[show mj []=true from rfl]at Z;have k0:fY p D:=((k11.trans F).trans Kp.refl.lay).trans k13;have C13:=B.kp k0 λ_ _ z=>z;dsimp[fO,bools,e10,e11,e12,bne_self_eq_false,q1,Z];left;refine mG (lo:=0) (hi:=8) (S1:=D) (show wF _ _=_ from iA (S:=D) (S1:=D) (by dsimp[fO,bools])<|iG ⋯ ⋯)
   (λj τ S'=>(∃b4 b5 b6 b7 b8 b9,τ=[.frz<|ns.map .int,.int<|0+(i:Int),.ref b,.ref N,b4,b5,b6,b7,b8,b9])/\Cop S' N ps U/\jx S' b)
   (λr=>∃τ' S',r=.nx τ' S'/\∃a1 a2 a3 a4 V P a7 W a9,τ'=[.frz<|ns.map .int,a1,a2,a3,a4,V,P,a7,W,a9])
   ⟨⟨_,_,_,_,_,_,rfl⟩,C13,J.kp k0 λz=>z⟩ ?_ ?_
  ·rintro j τ S14 hj ⟨⟨b4,b5,b6,b7,b8,b9,rfl⟩,C14,hb14⟩;left;obtain⟨x,S15,e15,u15,⟨⟨S16,e16,k16⟩,sh⟩,hb15,k15⟩:=EI hb14 C14;obtain⟨tx,ht⟩:=sh.tell;have r15:=ht S15 λ_ _ z=>z;have r16:=ht S16 λn xs z=>k16.lst n xs (λz=>z) z;have C16:=(C14.kp k15 λr hr z=>hbN<|by rw[<- z];exact hr).kp k16 λ_ _ z=>z;have uv:∀S:fj,uV x S=.ok x S:=λS=>wj u15;obtain⟨m',vs',T',S17,e17,t17,K,hb17,k17⟩:=uP (hb15.kp k16 λz=>z) C16;obtain⟨gs',h',S18,e18,t18,k18,_⟩:=jU (cap:=[]) (τ:=[.frz<|ns.map .int,.int<|0+(i:Int),.ref b,.ref N,b4,.int<|0+(j:Int),x,.str tx,.ref m',b9]) (src:=jI<|eW 8) t17 (jE (by dsimp[fO,bools]) t17.top) (by have:=K.1;lia);obtain⟨S19,e19,k19⟩:=oE (zu t18) (by have:=K.1;lia) (λi=>by have:=K.2 i;lia);obtain⟨S20,e20,k20⟩:=BJ (zu<|(t17.rK k18).rK k19) (by have:=K.1;lia) (λi=>by have:=K.2 i;lia);have C20:=((((C16.kp k17 λr hr z=>hbN<|by rw[<- z];exact hr).kp k18 λ_ _ z=>z).kp k19 λ_ _ z=>z).kp k20 λ_ _ z=>z);have qs':kG true (.str tx) (.str tx) S16=.ok (.bl<|!(tx == tx)) S16:=rfl;rw[bR,bT]at qs';unfold vL;dsimp[fO,bools,e15,uv,r15,e16,r16,bne_self_eq_false,qs',bR,bT,e17,e18,e19,g9,v9,show ig .bl "bool" = some true from rfl,e20];exact⟨_,_,rfl,⟨_,_,_,_,_,_,rfl⟩,C20,((hb17.kp k18 λz=>z).kp k19 λz=>z).kp k20 λz=>z⟩
  ·rintro τ S14 ⟨⟨b4,b5,b6,b7,b8,b9,rfl⟩,C14,hb14⟩;exact⟨_,_,rfl,_,_,_,_,_,_,_,_,_,rfl⟩
 ·rintro τ S1 ⟨a1,a2,a3,a4,V,P,a7,W,a9,rfl⟩;dsimp[fO,bools];exact⟨_,rfl⟩
end K55
namespace K55
open PySem L2 Am
def all_mk{l:PySem.W.OpenLaw}{w:af}{K:aq}{h:ak}{mg:Str->be}{fa:aj}(X:K.In h)(G:h.Ns mainGlobals mg)(hfa:mg "law" = some (.ref fa))
  (a1:Df K "is_whole" mh)
  (a2:Df K "is_letter" kN)
  (a3:Df K "is_letters" ku)
  (a4:Df K "is_table_row" i6)
  (a5:Df K "fits_under" kc)
  (a6:Df K "is_table" lU)
  (a7:Df K "_law_bag" nB)
  (a8:Df K "_law_digit" kW)
  (a9:Df K "_law_letters" jJ)
  (a10:Df K "_law_put" mZ)
  (a11:Df K "_law_tables" kB)
  (a12:Df K "_law_odd" nA)
  (a13:Df K "_law_is_whole" ja)
  (a14:Df K "_law_is_table" jj)
  (a15:Df K "_law_changed" jM)
  (a16:Df K "law" zL)
  (Ly:PySem.W.nsIn K mainGlobals "isinstance" = some none)
  (Lz:PySem.W.nsIn K mainGlobals "bool" = some none)
  (LA:PySem.W.nsIn K mainGlobals "int" = some none)
  (LB:PySem.W.nsIn K mainGlobals "all" = some none)
  (LC:PySem.W.nsIn K mainGlobals "list" = some none)
  (LD:PySem.W.nsIn K mainGlobals "sorted" = some none)
  (LF:PySem.W.nsIn K mainGlobals "len" = some none)
  (LG:PySem.W.nsIn K mainGlobals "zip" = some none)
  (LH:PySem.W.nsIn K mainGlobals "range" = some none)
  (LI:PySem.W.nsIn K mainGlobals "tuple" = some none)
  (LJ:PySem.W.nsIn K mainGlobals "max" = some none)
  (LK:PySem.W.nsIn K mainGlobals "min" = some none)
  (LL:PySem.W.nsIn K mainGlobals "repr" = some none)
  {Lx:Tok} (LM:PySem.W.nsIn K mainGlobals "GREATEST_LETTER" = some (some<|.int 1000000000 Lx))
  : ∃fd:FuncData,(∀(s:az) (v:aa),BindsTo s fd ⟨[v],[]⟩ [("_law_script",v)])/\∀base:ak,K.In base->base.Ns mainGlobals mg->FnOk l.prog w K mg base nL 6 fa fd ["_law_script"] (pI K 1 p_):=by
 obtain⟨f,fd,a,F⟩:=a16;have e:=hfa.symm.trans (PySem.W.mg_of X G a)
 cases e
 have j:=bD X G Ly;have p:=bD X G Lz;have q:=bD X G LA;have k:=bD X G LB;have g:=bD X G LC;have B:=bD X G LD;have c:=bD X G LF;have U:=bD X G LG;have d:=bD X G LH;have Ld:=bD X G LI;have Lp:=bD X G LJ;have Lq:=bD X G LK;have P:=bD X G LL;have Lg:∃t,mg "GREATEST_LETTER" = some (.int 1000000000 t):=⟨Lx,PySem.W.mg_of X G LM⟩;refine⟨fd,λs v=>(by obtain⟨_,_,_,_,_,_,_,_,_,rfl,_,_⟩:=F.ex;exact .of_eq rfl),λbase _ _=>?_⟩;have E:En l.prog w K mg base:=⟨h,X,G⟩;have C:=a1.kA E (λF=>rP F j p q)<|yw λ_ _ _ _ _ _ _=>rfl;have Y:=a2.kA E (λF=>qO F Lg C)<|yw λ_ _ _ _ _ _ _=>rfl;have L:=a3.kA E (λF=>pV F k j g Y)<|yw λ_ _ _ _ _ _ _=>rfl;have J:=a4.kA E (λF=>nY F B c L)<|yw λ_ _ _ _ _ _ _=>rfl;have Lm:=a5.kA E (λF=>pO F k U c)<|Fd λ_ _ _ _ _ _ _ _=>rfl;have D:=a6.kA E (λF=>rZ F k j g d c J Lm)<|yw λ_ _ _ _ _ _ _=>rfl;have Lr:=a7.kA E (λF=>uc F c)<|Fd λ_ _ _ _ _ _ _ _=>rfl;have m:=a8.kA E (λF=>rq F)<|Fd λ_ _ _ _ _ _ _ _=>rfl;have Ls:=a9.kA E (λF=>oO F d m)<|Fd λ_ _ _ _ _ _ _ _=>rfl;have Z:=a10.kA E (λF=>uw F g d c)<|Fd λ_ _ _ _ _ _ _ _=>rfl;have Lf:=a11.kA E (λF=>pW F d c Z)<|yw λ_ _ _ _ _ _ _=>rfl;have V:=a12.kA E (λF=>uC F g c Ld d m)<|Fd λ_ _ _ _ _ _ _ _=>rfl;have Lo:=a13.kA E (λF=>n9 F j p q)<|yw λ_ _ _ _ _ _ _=>rfl;have N:=a14.kA E (λF=>oi F j g k B d c Lo)<|yw λ_ _ _ _ _ _ _=>rfl;have Lv:=a15.kA E (λF=>oW F g c m)<|Fd λ_ _ _ _ _ _ _ _=>rfl;exact F1 F d Lp Lq c q g P j p Lr Lf m Ls D V Lv N
def walk{l:PySem.W.OpenLaw}{q:ah}{XP:(Str->be)->ak->Prop}{YP:af->ak->Prop}{d:DefRec}{K:Params->aq}(hn:l.most=some 63)(hdf:d.params.defaults=[])
  (hY:∀(w:af) (h:ak),YP w h->(K w.params).In h)
  (F:∀(w:af) (mg:Str->be) (fa:aj) (h:ak),(K w.params).In h->h.Ns mainGlobals mg->mg d.name=some (.ref fa) ->
   ∃fd:FuncData,(∀(s:az) (u:aa),BindsTo s fd ⟨[u],[]⟩ [("_law_script",u)])/\∀base:ak,(K w.params).In base->base.Ns mainGlobals mg->FnOk l.prog w (K w.params) mg base nL 6 fa fd ["_law_script"] (pI (K w.params) 1 p_)) :
  PySem.W.WalkO q loose XP YP l.row.toRowW d [] (λf vs=>PySem.call f vs):=
 L2.CK (n:=63) (k:=6) (x := "_law_script") (CX:=λ_=>nL) (sp:=λw=>pI (K w.params) 1 p_) hn ⋯ hdf ⟨rfl,by decide,by decide,rfl⟩ hY F (λ_ H a c j g m=>yg g m<|FI c j) λ_ _ _ _ _ z=>z
end K55
open PySem PySem.W PyProof.Rows
namespace PySem.W.Fast
def tw14269128820359182593:=Nat
def tw17812383697927174780:=Nat
def tw1284192907897744749:=Nat
def tw1616387923920533749:=Nat
def tw15548564851140100632:=Nat
def tw7980451781000945005:=Nat
def tw114775930520569990:=Nat
def tw1717266005613440484:=Nat
def tw15320984369458978233:=Nat
def tw17042386993852706110:=Nat
def tw17861130718433488966:=Nat
def tw7393905194414938772:=Nat
def tw13130970563499879621:=Nat
def tw14486186737876595235:=Nat
def tw2579615144791736285:=Nat
def tw5166810765091827170:=Nat
def tw7167745437512340748:=Nat
def tw13366885365572754756:=Nat
def tw10503538322913996367:=Nat
def tw5921921469126504081:=Nat
def tw5104802487046477682:=Nat
def tw11168487958897454426:=Nat
def tw9216123411301603573:=Nat
def tw11085223932717680493:=Nat
def tw9617500208031962517:=Nat
def tw6604789789495170073:=Nat
def tw4595856258851099488:=Nat
def tw2583643911107327538:=Nat
def tw7764848883913228237:=Nat
def tw16033479970698974920:=Nat
def tw5941624884010472991:=Nat
def tw9058243999187383117:=Nat
def tw10606456806005968581:=Nat
def tw9593835315710290996:=Nat
def tw15376696393307764792:=Nat
def tw9592377748313832334:=Nat
def tw837260949590764621:=Nat
def tw4093314110891466393:=Nat
def tw17606689362857453844:=Nat
def tw10106061829981333655:=Nat
def tw4241093841793383498:=Nat
def tw11216525889055685298:=Nat
def tw9931351544260833827:=Nat
def tw18407696044694017138:=Nat
def tw15936773339425722953:=Nat
def tw17649312607607063422:=Nat
def tw4057146082117671820:=Nat
def tw16135462638701393392:=Nat
def tw1100743730160579089:=Nat
def tw5860911001426368740:=Nat
def tw1949772958063478455:=Nat
def tw8800375552400683966:=Nat
def tw16956811082968838860:=Nat
def tw961001659926347646:=Nat
def tw6874142227462941128:=Nat
def tw4497561409446147633:=Nat
def tw2382070642828419759:=Nat
def tw13881094945626365851:=Nat
def tw9486448873823800261:=Nat
def tw11782966204017205073:=Nat
def tw7040107292323207415:=Nat
def tw7092748820910102834:=Nat
def tw16095200159404113553:=Nat
def tw10218861251961154186:=Nat
def tw6303425180783611979:=Nat
def tw12683883687894250241:=Nat
def tw7876513555840561551:=Nat
def tw17017724375331713284:=Nat
def tw8009911980278458157:=Nat
def tw13623246896134912130:=Nat
def tw15496966062201434126:=Nat
def tw13544203963325696659:=Nat
def tw4343811097982204074:=Nat
def tw17028719686834017059:=Nat
def tw5234335918294122263:=Nat
def tw18432444118787255469:=Nat
def tw17108580645156893152:=Nat
def tw1923707413154790562:=Nat
def tw13289650506065039684:=Nat
def tw9834286159977157812:=Nat
def tw18216556997593550676:=Nat
def tw5870855742340352076:=Nat
def tw14701849448182012583:=Nat
def tw481436548962329793:=Nat
def tw17309623707428525877:=Nat
def tw10754019931287934809:=Nat
def tw18276165911856013241:=Nat
def tw3180749297030818969:=Nat
def tw7855067863566393217:=Nat
def tw2247542938494524805:=Nat
def tw15477975459750286514:=Nat
def tw7809125901202207171:=Nat
def tw18051282507606045361:=Nat
def tw10560311704974617321:=Nat
def tw8453318339876840559:=Nat
end PySem.W.Fast
set_option maxRecDepth 100000 in
set_option maxHeartbeats 0 in
theorem PySem.Challenge.cw_undercells_k55_is_table_holds : PySem.Challenge.rw_undercells_k55_is_table.Holds := by
 w_on;o_law;k_head;(case hw=>w_witness2)
 k_fill
 refine K55.walk (l:=PySem.Challenge.rw_undercells_k55_is_table) rfl rfl (fun w h Y=>PySem.W.kIn_of Y) ?F
 case F=>
  intro w mg fa h KX G hmg;refine' K55.all_mk KX G hmg (.of ?_ ?_ ?_ ?_) (.of ?_ ?_ ?_ ?_) (.of ?_ ?_ ?_ ?_) (.of ?_ ?_ ?_ ?_) (.of ?_ ?_ ?_ ?_) (.of ?_ ?_ ?_ ?_) (.of ?_ ?_ ?_ ?_) (.of ?_ ?_ ?_ ?_) (.of ?_ ?_ ?_ ?_) (.of ?_ ?_ ?_ ?_) (.of ?_ ?_ ?_ ?_) (.of ?_ ?_ ?_ ?_) (.of ?_ ?_ ?_ ?_) (.of ?_ ?_ ?_ ?_) (.of ?_ ?_ ?_ ?_) (.of ?_ ?_ ?_ ?_) ?_ ?_ ?_ ?_ ?_ ?_ ?_ ?_ ?_ ?_ ?_ ?_ ?_ ?_
  any_goals first|k_is|kernel_rfl
