import PyProof.Rows.All
import Wide.All
import OpenK.AllK
import Wide.FinOn
import Lean
import PyProof.EqAt
import PyProof.EqKinds
import PyProof.TupleCall
import PySem.Challenge.RW_undercells_k81_polynomials_written
set_option autoImplicit true
set_option relaxedAutoImplicit true
set_option Elab.async false
set_option linter.all false
set_option maxRecDepth 100000
set_option compiler.extract_closed false
set_option maxHeartbeats 4000000
local macro_rules|`($a<|>$b)=>`(autoParam $a $b)
local macro_rules|`(command|abbrev $n:declId $s:optDeclSig $v:declVal)=>`(command|noncomputable def $n:declId $s:optDeclSig $v:declVal)|`(command|meta abbrev $n:declId $s:optDeclSig $v:declVal)=>`(command|@[reducible]noncomputable def $n:declId $s:optDeclSig $v:declVal)
local macro_rules|`(∅)=>`(by decide +kernel)
local macro_rules|`(⋯)=>`(by decide)
local macro_rules|`(tactic|dsimp[$l,*])=>`(tactic|simp only[$l,*])|`(tactic|dsimp[$l,*]$o:location)=>`(tactic|simp only[$l,*]$o:location)
local macro_rules(kind:=Lean.Parser.Term.structInst)|`({})=>`({cls:=.type "list",data:=.seq ([]:List PySem.Value).toArray})
set_option hygiene false
local macro_rules|`(tactic|z_go)=>`(tactic|obtain⟨ρ,S,τ,R,r,h⟩:=h9)
local macro_rules|`(tactic|x_go)=>`(tactic|obtain⟨ρ,S,a,b,R,va,vb,h⟩:=h9)
local macro_rules|`(tactic|w_up)=>`(tactic|intro X hP hw hK hc i pins s σ H E I hf st hg)
local macro_rules|`(tactic|k_ne)=>`(tactic|obtain⟨f0,f1,f2,f3,f4,f5⟩:=hf it (by simp))
local macro_rules|`(tactic|kt_k)=>`(tactic|intro pins s σ H Q I h)
local macro_rules|`(tactic|kd_p)=>`(tactic|obtain⟨t,rfl⟩:=rx)
local macro_rules|`(tactic|gn_on)=>`(tactic|intro pins s σ H xs us Q I r h)
local macro_rules|`(tactic|gp_on)=>`(tactic|intro pins s σ H x y v u Q I rx ry h)
local macro_rules|`(tactic|kj_on)=>`(tactic|refine aF (fE (cT (name:=Str.ofString "__next__") ty iC (cM iC ty nF ?_ (nL _)))))
local macro_rules|`(tactic|kcf_m)=>`(tactic|exact⟨ρ1,S1,τ,R1,r.ext e1,gB h1 e1 λ_ _ z=>z.ext e1⟩)
local macro_rules|`(tactic|kcj_m)=>`(tactic|obtain⟨ρ,S,τ,R,r,h⟩:=h)
local macro_rules|`(tactic|kpc_g)=>`(tactic|intro pins s σ H D I h)
local macro_rules|`(tactic|kpf_c)=>`(tactic|refine aO (wpS_lift (dH ⟨rfl,?_⟩)))
local macro_rules|`(tactic|ksr_p)=>`(tactic|obtain⟨w,rfl,ρ,S,x,R,hv,h⟩:=Kl h0)
local macro_rules|`(tactic|kst_p)=>`(tactic|obtain⟨xs,hn,h⟩:=gT h)
local macro_rules|`(tactic|kln_w)=>`(tactic|refine aF (bP (aH ⟨_,rfl, "set_iterator",_,⟨_,a_ _ rfl,rfl⟩,iC.lookup,?_⟩)))
local macro_rules|`(tactic|kl_no)=>`(tactic|exact I1.AY (aL _) (I1.hok.fresh (aL _)))
local macro_rules|`(tactic|mg_lt)=>`(tactic|refine aO (gV (iQ hy) ?_))
set_option hygiene true
local macro_rules|`(())=>`(by lia)
@[reducible]def ag:=List Int
@[reducible]def am:=List Nat
@[reducible]def ar:=List PySem.Str
@[reducible]def ba:=List PySem.Value
@[reducible]def bb:=List PySem.Addr
@[reducible]def bi:=Option PySem.Value
@[reducible]def bj:=Option Int
@[reducible]def bn:=Option Bool
@[reducible]def bo:=Option Nat
@[reducible]def bp:=List<|PySem.Addr×PySem.Obj
def aF:=@PySem.wpAny_bind
def aG:=@List.getElem?_eq_getElem
def aH:=@PySem.wpAny_pure
def aI:=@if_neg
def aJ:=@if_pos
def aK:=@PySem.Heap.get?_push_of_some
def aL:=@Nat.le_refl
def aM:=@List.getD_eq_getElem?_getD
def aN:=@List.length_map
def aO:=@PyProof.Rows.wpS_bind
def aP:=@List.getElem?_eq_some_iff
def aQ:=@List.mem_cons_self
def aR:=@List.mem_singleton
def aS:=@List.length_append
def aT:=@PyProof.Rows.wpS_pure
def aU:=@List.size_toArray
def aV:=@List.mem_cons_of_mem
def aW:=@List.length_cons
def aX:=@Option.some.inj
def aY:=@List.getElem?_map
def aZ:=@List.mem_of_getElem?
def a_:=@PySem.Heap.get?_push_size
def bf:=@PySem.Heap.lt_size
def bg:=@beq_self_eq_true
def bh:=@List.mem_append
def bq:=@decide_eq_true
def br:=@Bool.false_eq_true
def bw:=@Nat.ne_of_lt
def bx:=@Option.map_eq_some_iff
def bz:=@decide_eq_false
def bA:=@Array.length_toList
def bB:=@Nat.lt_of_lt_of_le
def bC:=@List.length_range
def bD:=@List.mem_append_right
def bE:=@Bool.false_ne_true
def bF:=@beq_eq_false_iff_ne
def bG:=@List.append_assoc
def bH:=@List.mem_cons
def bI:=@List.getElem?_append_left
def bJ:=@List.getElem?_eq_none
def bK:=@PySem.W.mg_none_of
def bL:=@PySem.wpAny_setState_of
def bM:=@Array.getElem?_eq_getElem
def bN:=@List.pairwise_append
def bO:=@List.append_nil
def bP:=@PySem.wpAny_newObj_type
def bQ:=@congrArg
def bR:=@Int.toNat_natCast
def bS:=@PySem.sizeLine_eq
def bT:=@PySem.Heap.get?_update_self
def bU:=@Nat.le_trans
def bV:=@PyProof.Rows.wpS_forRange
def bW:=@PySem.Obj.data_mapFields
def bX:=@PySem.W.kia_one
def bY:=@PySem.mem_of_lookup
def bZ:=@List.mem_of_mem_take
def b7:=@Bool.not_true
def b8:=@PySem.Heap.SameBut.update
def b9:=@if_true
def b_:=@Nat.zero_le
def cg:=@if_false
def cj:=@PySem.F.called_set
def ck:=@List.getElem?_set_ne
def cu:=@List.length_take
def cA:=@Option.bind_eq_some_iff
def cB:=@List.getElem?_set_self
def cC:=@PySem.wpAny_truthy_bool
def cD:=@PySem.Heap.get?_update_other
def cE:=@PySem.Heap.size_push
def cF:=@List.replicate_succ
def cG:=@List.getElem?_range
def cH:=@List.pairwise_iff_getElem
def cI:=@List.drop_eq_getElem_cons
def cK:=@List.getElem?_toArray
def cL:=@Array.getElem?_toList
def cM:=@PySem.wpAny_call_entry
def cN:=@Bool.and_eq_true
def cO:=@Option.bind_some
def cP:=@PySem.wpAny_holding
def cQ:=@List.map_cons
def cR:=@List.mem_range
def cS:=@Bool.not_false
def cT:=@PySem.wpAny_callSpecial?_slot
def cU:=@of_decide_eq_true
def cV:=@PyProof.Rows.wpS_mono
def cW:=@PyProof.Rows.F.plain_set_update_loop
def cX:=@PySem.F.slot_str_startswith
def cY:=@PySem.F.type_str_startswith
def cZ:=@List.length_drop
def c5:=@List.lookup_cons
def c6:=@Nat.lt_succ_self
def c7:=@List.getElem?_append_right
def c8:=@List.take_zero
def c9:=@Array.getElem?_eq_some_iff
def c_:=@Nat.length_toDigits_le_iff
def dc:=@PySem.Obj.isFreed_of_fields
def dh:=@PySem.wpAny_passesOwn
def di:=@List.nodup_cons
def dj:=@List.map_append
def dw:=@PySem.PassesOwn.never
def dz:=@List.flatten_cons
def dB:=@List.mem_of_mem_drop
def dD:=@List.ext_getElem?
def dF:=@PySem.Around.under_plainId
def dG:=@Option.isSome_iff_exists
def dH:=@PySem.wpAny_rule
def dI:=@PyProof.Rows.slot_tuple_getitem
def dJ:=@List.pairwise_singleton
def dM:=@List.drop_zero
def dN:=@List.getElem_mem
def dO:=@List.length_eq_zero_iff
def dP:=@List.take_length
def dQ:=@PySem.W.cellsFrom_some
def dR:=@Nat.zero_add
def dS:=@PyProof.Rows.wpS_modify
def dU:=@List.pairwise_cons
def dW:=@Array.getElem?_eq_none
def dX:=@PySem.codeAny_builtin
def dY:=@PySem.W.mg_of
def dZ:=@PyProof.Rows.callWith_type1
def d7:=@Nat.lt_succ_of_lt
def d8:=@decide_eq_true_eq
def d9:=@List.mem_append_left
def d_:=@List.range_eq_range'
def ee:=@PySem.wpAny_setField
def eB:=@Nat.le_of_lt
def eE:=@Ne.symm
def eF:=@PySem.codeAny_mono
def eG:=@List.mem_map
def eH:=@List.range'_succ
def eK:=@List.map_map
def eL:=@List.filterMap_cons
def eN:=@PyProof.Rows.F.entry_set_update_loop
def eO:=@Nat.lt_irrefl
def eS:=@PySem.F.args_tuple_add_2
def eT:=@PySem.typeIs_str
def eU:=@PySem.call_meets
def eV:=@List.getElem?_drop
def eW:=@List.getElem_range
def eX:=@Int.emod_lt_of_pos
def eY:=@PySem.F.entry_tuple_add
def eZ:=@List.filter_cons_of_neg
def e8:=@PySem.F.slot_tuple_add
def e9:=@PyProof.Rows.wpS_get
def e_:=@List.take_of_length_le
def ff:=@List.take_succ_eq_append_getElem
def fh:=@Array.getElem?_extract
def fj:=@Nat.sub_self
def fm:=@Array.toList_push
def fq:=@List.flatMap_cons
def fu:=@PySem.builtinLookup_eq_fast
def fy:=@Nat.le_of_not_lt
def fB:=@Option.getD_some
def fC:=@List.prefix_refl
def fD:=@List.getElem_map
def fE:=@PySem.wpAny_attempt
def fF:=@PySem.plainId_quiet
def fG:=@PySem.W.KIN.val_back
def fH:=@PySem.wpAny_execs_nil
def fJ:=@List.foldl_cons
def fK:=@List.nil_append
def fL:=@List.length_nil
def fM:=@Bool.or_eq_true
def fN:=@Option.map_some
def fO:=@PyProof.Rows.partition_whole
def fP:=@Int.emod_nonneg
def fQ:=@ne_true_of_eq_false
def fR:=@List.filter_eq_self
def fS:=@PySem.wpAny_mono
def fT:=@PySem.wpAny_Call_Name_kw
def fU:=@PySem.F.args_str_split_2
def fV:=@List.prefix_append
def fW:=@PySem.isSubtype_type
def fX:=@List.length_eraseIdx_of_lt
def fY:=@PySem.wpAny_fieldsOf
def fZ:=@Nat.add_sub_cancel
def f6:=@PySem.Value.isInt_shape
def f7:=@PySem.wpAny_pyIter_list
def f9:=@PySem.F.entry_str_split
def f_:=@List.nodup_append
def gb:=@PySem.Obj.cls_mapFields
def gc:=@Nat.add_assoc
def gf:=@List.filter_cons
def gg:=@List.flatMap_nil
def gh:=@Nat.ne_of_gt
def gj:=@List.of_mem_zip
def gp:=@List.length_set
def gq:=@Array.size_zip
def gr:=@beq_iff_eq
@[reducible]def aa:=PySem.Value
@[reducible]def af:=PySem.World
@[reducible]def ah:=PySem.Program
@[reducible]def aj:=PySem.Addr
@[reducible]def ak:=PySem.Heap
@[reducible]def aq:=PySem.W.Frag
@[reducible]def az:=PySem.Around
@[reducible]def aA:=PySem.Shared
@[reducible]def aC:=PySem.Expr
@[reducible]def aE:=PySem.Stmt
def anI{a b:Prop}(h:a)(k:b):a/\b:=⟨h,k⟩
open Array (size_map toList_inj)
open List (map_nil)
open Nat (log2_lt lt_trans mod_lt)
open Option (getD_none)
namespace L2
open PySem PySem.Spec PyProof.Rows
meta abbrev Key:=Sum Int Str
abbrev G6:Key->aa->Bool
 | .inl k,v=>Value.isInt k v
 | .inr x,v=>Value.isStrOf x v
abbrev NH (w:af):Key->Int
 | .inl k=>hashInt k
 | .inr x=>hashStr w x
def iu:∀{k:Key}{v:aa},G6 k v=true->(∃i t,k=Sum.inl i/\v=Value.int i t)\/(∃x t,k=Sum.inr x/\v=Value.str x t)
 | .inl i,v,h=>by
  obtain⟨t,e⟩:=f6 (k:=i) (v:=v) h;exact .inl ⟨i,t,rfl,e⟩
 | .inr x,v,h=>by
  obtain⟨t,e⟩:=Value.isStrOf_shape (x:=x) (v:=v) h;exact .inr ⟨x,t,rfl,e⟩
def IX(a b:Int):decide ((Sum.inl a:Key)=Sum.inl b)=(a == b):=by
 by_cases e:a=b
 ·subst e;simp
 ·have h:¬(Sum.inl a:Key)=Sum.inl b:=λq=>e<|Sum.inl.inj q;rw[bz h];exact(bF.mpr e).symm
def JV(a b:Str):decide ((Sum.inr a:Key)=Sum.inr b)=decide (a=b):=by
 by_cases e:a=b
 ·subst e;simp
 ·have h:¬(Sum.inr a:Key)=Sum.inr b:=λq=>e<|Sum.inr.inj q;rw[bz h,bz e]
def Hz(a:Int)(b:Str):decide ((Sum.inl a:Key)=Sum.inr b)=false:=bz λq=>nomatch q
def IJ(a:Str)(b:Int):decide ((Sum.inr a:Key)=Sum.inl b)=false:=bz λq=>nomatch q
abbrev tN (prog:ah)(w:af):PySem.KeyKind prog w Key where
 is:=G6
 hash:=NH w
 inj:=λv a b d c=>by
  rcases iu d with⟨i,t,rfl,rfl⟩|⟨x,t,rfl,rfl⟩
  ·rcases iu c with⟨j,u,rfl,e⟩|⟨y,u,rfl,e⟩
   ·injection e with e1 _;rw[e1]
   ·exact nomatch e
  ·rcases iu c with⟨j,u,rfl,e⟩|⟨y,u,rfl,e⟩
   ·exact nomatch e
   ·injection e with e1 _;rw[e1]
 byValue:=λk v h=>by
  rcases iu h with⟨i,t,rfl,rfl⟩|⟨x,t,rfl,rfl⟩<;>rfl
 pyHash:=λhv h=>by
  rcases iu hv with⟨i,t,rfl,rfl⟩|⟨x,t,rfl,rfl⟩
  ·exact wpAny_pyHash_int h
  ·exact wpAny_pyHash_str h
 eqBool:=λf hv h=>by
  rcases iu f with⟨i,t,rfl,rfl⟩|⟨x,t,rfl,rfl⟩
  ·rcases iu hv with⟨j,u,rfl,rfl⟩|⟨y,u,rfl,rfl⟩
   ·rw[IX]at h;exact wpAny_eqBool_int h
   ·rw[Hz]at h;exact SeqAt.EqAt.int_str i t y u _ _ _ _ h
  ·rcases iu hv with⟨j,u,rfl,rfl⟩|⟨y,u,rfl,rfl⟩
   ·rw[IJ]at h;exact SeqAt.EqAt.str_int x t j u _ _ _ _ h
   ·rw[JV]at h;exact wpAny_eqBool_str h
 «strs»:=λk x t v h=>by
  rcases iu h with⟨i,u,rfl,e⟩|⟨y,u,rfl,e⟩
  ·exact nomatch e
  ·injection e with e1 _
   subst e1
   cases v<;>rfl
inductive V where
 | non|bl (b:Bool)|int (i:Int)|str (x:Str)|byt (b:Array UInt8)|flt (b:UInt64)|ref (a:aj)|ty (n:String)
 deriving DecidableEq
abbrev RelV:V->aa->Prop
 | .non,u=>u=Value.none
 | .bl b,u=>u=Value.bool b
 | .int i,u=>∃t,u=Value.int i t
 | .str x,u=>∃t,u=Value.str x t
 | .byt b,u=>∃t,u=Value.bytes b t
 | .flt b,u=>∃t,u=Value.float b t
 | .ref a,u=>u=Value.ref a
 | .ty n,u=>u=Value.type n
meta abbrev Vals:List V->ba->Prop:=Paired RelV
def Vals.length{xs:List V}{us:ba}(r:Vals xs us):xs.length=us.length:=Paired.length r
theorem Vals.get:∀{xs:List V}{us:ba}{i:Nat}{x:V},Vals xs us->xs[i]?=some x->∃u,us[i]?=some u/\RelV x u
 | _,_,_,_,.nil,e=>by simp at e
 | _,_,0,_,.cons r _,e=>by simp at e;subst e;exact⟨_,rfl,r⟩
 | _,_,i+1,x,.cons _ t,e=>by
  obtain⟨u,h1,c⟩:=Vals.get (i:=i) (x:=x) t (by simpa using e);exact⟨u,by simpa using h1,c⟩
theorem Vals.set{x:V}(r:RelV x u):∀{xs:List V}{us:ba}(i:Nat),Vals xs us->Vals (xs.set i x) (us.set i u)
 | _,_,_,.nil=>.nil
 | _,_,0,.cons _ t=>.cons r t
 | _,_,i+1,.cons q t=>.cons q<|Vals.set r i t
theorem Vals.append:∀{xs ys:List V}{us ws:ba},Vals xs us->Vals ys ws->Vals (xs++ys) (us++ws)
 | _,_,_,_,.nil,s=>s
 | _,_,_,_,.cons r t,s=>.cons r<|Vals.append t s
theorem Vals.take:∀{xs:List V}{us:ba}(n:Nat),Vals xs us->Vals (xs.take n) (us.take n)
 | _,_,0,_=>.nil
 | _,_,_+1,.nil=>.nil
 | _,_,n+1,.cons r t=>.cons r<|Vals.take n t
theorem Vals.drop:∀{xs:List V}{us:ba}(n:Nat),Vals xs us->Vals (xs.drop n) (us.drop n)
 | _,_,0,r=>r
 | _,_,_+1,.nil=>.nil
 | _,_,n+1,.cons _ t=>Vals.drop n t
abbrev Ii:Option V->bi->Prop
 | some v,some u=>RelV v u
 | none,none=>True
 | _,_=>False
abbrev KV {j:Type}:List (j×V)->List (j×aa)->Prop:=Paired λ(p:j×V) (q:j×aa)=>p.1=q.1/\RelV p.2 q.2
abbrev kV:Key->V
 | .inl i=>.int i
 | .inr x=>.str x
inductive HO where
 | lst (xs:List V)
 | tup (xs:List V)
 | dK (kvs:List<|Key×V)|dT (kvs:List<|List Key×V)
 | set (S:Int->Bool) (n:Nat)
 | ins (C dx:aj) (fs:List<|Str×V)
 | own (x:aj)
 | xd (fs:List<|Str×V)
 | met (f x:aj)
 | rng (lo hi:Int)
 | frz (o:Obj) (u:HO)
 | tbl (ps:Array aa)
 | ext (φ:ak->Prop)
meta abbrev Hp:=aj->Option HO
abbrev upd (H:Hp)(a:aj)(o:HO):Hp:=λb=>if b=a then some o else H b
def jn{H:Hp}{a:aj}:upd H a o a=some o:=by unfold upd;rw[aJ rfl]
def gS{H:Hp}{a b:aj}(h:b≠a):upd H a o b=H b:=by unfold upd;rw[aI h]
def gX{H:Hp}{a b:aj}(h:H a=some o)(h':H b=none):a≠b:=by
 intro e;subst e;rw[h]at h';cases h'
abbrev jJ (h:ak)(a:aj)(j:Array aa):Prop:=∃o,h.get? a=some o/\o.cls=.type "tuple" /\ o.dict=none/\∃n,o.data=.seq j n
def jJ.tup{a:aj}:jJ h a items->IsTup h a items:=λ⟨o,e,c,_,n,d⟩=>⟨o,e,c,n,d⟩
def jJ.new(h:ak)(j:Array aa):jJ (h.push { cls:=.type "tuple",data:=.seq j }) h.objs.size j:=⟨_,a_ _ rfl,rfl,rfl,_,rfl⟩
def jJ.lt{h:ak}{a:aj}(x:jJ h a items):a<h.objs.size:=let⟨_,ho,_⟩:=x;bf ho
section
variable (P:ah) (w:af)
abbrev i6 (H:Hp)(h:ak)(a:aj):HO->Prop
 | .lst xs=>xs.length<=sizeLine/\∃(d:ba) (n:Nat),Vals xs d/\h.get? a=some { cls:=.type "list",data:=.seq d.toArray n }
 | .tup xs=>xs.length<=sizeLine/\∃d:ba,Vals xs d/\jJ h a d.toArray
 | .dK c=>c.length<=sizeLine/\(a == sysModules)=false/\∃j,KV c j/\h.DictOf (tN P w) a j
 | .dT c=>c.length<=sizeLine/\(a == sysModules)=false/\∃xs:List<|List Key×aj×aa,
   Paired (λ(p:List Key×V) (q:List Key×aj×aa)=>p.1=q.1/\H q.2.1=some (.tup<|p.1.map kV)/\RelV p.2 q.2.2) c xs /\
   ∃o es ep,h.get? a=some o/\o.ExactDict/\o.data=.dict es ep/\es.toList=xs.map (entryOfKey<|tupleKind<|tN P w)/\(xs.map (·.1)).Nodup
 | .set S n=>h.SetOf (intKind P w) a S n
 | .ins C dx fs=>H dx=some (.own a)/\fs.length<=1000/\dx≠a/\h.get? a=some (PySem.W.instObj C dx) /\
   ∃e,h.Ns1 dx e/\(∀f,Ii (fs.lookup f)<|e f)/\PySem.Within e (fs.map (·.1))
 | .own _=>∃o,h.get? a=some o
 | .xd fs=>∃e,h.Ns1 a e/\∀f,Ii (fs.lookup f) (e f)
 | .rng lo hi=>∃t u v,h.get? a=some { cls:=.type "range",data:=.fields #[.int lo t,.int hi u,.int 1 v]}
 | .frz o u=>h.get? a=some o/\i6 H h a u
 | .tbl ps=>h.get? a=some { cls:=.none,data:=.fields ps }
 | .met f x=>h.get? a=some (PySem.W.methodObj (.ref f)<|.ref x)
 | .ext g=>g h/\(∃o,h.get? a=some o)/\∀h1 k:ak,g h1->(∀o,h1.get? a=some o->k.get? a=some o)->g k
abbrev pZ (H:Hp)(h:ak):Prop:=∀a o,H a=some o->i6 P w H h a o
end
section
variable {P:ah}{w:af}{H H':Hp}{h h':ak}{a:aj}{o:HO}
def i6.lt(x:i6 P w H h a o):a<h.objs.size:=by
 cases o with
 | lst xs=>obtain⟨_,_,_,_,e⟩:=x;exact bf e
 | tup xs=>obtain⟨_,_,_,p⟩:=x;exact jJ.lt p
 | dK c=>obtain⟨_,_,_,_,o,_,_,e,_⟩:=x;exact bf e
 | dT c=>obtain⟨_,_,_,_,o,_,_,e,_⟩:=x;exact bf e
 | set S n=>obtain⟨o,_,_,_,e,_⟩:=x;exact bf e
 | ins C dx fs=>obtain⟨_,_,_,e,_⟩:=x;exact bf e
 | own y=>obtain⟨_,e⟩:=x;exact bf e
 | xd fs=>obtain⟨_,⟨_,_,_,e,_⟩,_⟩:=x;exact bf e
 | rng lo hi=>obtain⟨_,_,_,e⟩:=x;exact bf e
 | frz d u=>obtain⟨e,_⟩:=x;exact bf e
 | tbl ps=>exact bf (show h.get? a=some _ from x)
 | met f y=>exact bf (show h.get? a=some _ from x)
 | ext g=>obtain⟨_,⟨_,e⟩,_⟩:=x;exact bf e
theorem Paired.LG{α β:Type}{F G:α->β->Prop}:∀{l₁:List α}{l₂:List β},Paired F l₁ l₂->(∀a b,F a b->G a b)->Paired G l₁ l₂
 | _,_,.nil,_=>.nil
 | _,_,.cons r t,f=>.cons (f _ _ r)<|Paired.LG t f
def i6.stay(x:i6 P w H h a o)(k:∀b u,(b=a\/H b=some (.own a))->h.get? b=some u->h'.get? b=some u)
  (M:∀b,H b=some (.own a)->H' b=some (.own a)) (U:∀b xs,H b=some (.tup xs)->H' b=some (.tup xs)):i6 P w H' h' a o:=by
 induction o with
 | lst xs=>obtain⟨z,j,n,r,e⟩:=x;exact⟨z,j,n,r,k _ _ (.inl rfl) e⟩
 | tup xs=>obtain⟨z,j,r,g,e,c⟩:=x;exact⟨z,j,r,g,k _ _ (.inl rfl) e,c⟩
 | dK F=>obtain⟨z,y,J,r,g,es,ep,e,c⟩:=x;exact⟨z,y,J,r,g,es,ep,k _ _ (.inl rfl) e,c⟩
 | dT F=>
  obtain⟨z,y,xs,r,g,es,ep,e,c⟩:=x;exact⟨z,y,xs,Paired.LG r λp q z=>⟨z.1,U _ _ z.2.1,z.2.2⟩,g,es,ep,k _ _ (.inl rfl) e,c⟩
 | set S n=>obtain⟨g,es,ep,t,e,c⟩:=x;exact⟨g,es,ep,t,k _ _ (.inl rfl) e,c⟩
 | ins C dx fs=>
  obtain⟨d,z,K,e,B,⟨m,es,ep,e2,c⟩,r⟩:=x;exact⟨M _ d,z,K,k _ _ (.inl rfl) e,B,⟨m,es,ep,k _ _ (.inr d) e2,c⟩,r⟩
 | own y=>obtain⟨g,e⟩:=x;exact⟨g,k _ _ (.inl rfl) e⟩
 | xd fs=>obtain⟨B,⟨m,es,ep,e,c⟩,r⟩:=x;exact⟨B,⟨m,es,ep,k _ _ (.inl rfl) e,c⟩,r⟩
 | rng lo hi=>obtain⟨t,u,v,e⟩:=x;exact⟨t,u,v,k _ _ (.inl rfl) e⟩
 | frz g u G=>obtain⟨e,q⟩:=x;exact⟨k _ _ (.inl rfl) e,G q⟩
 | tbl ps=>
  have e:h.get? a=some { cls:=.none,data:=.fields ps }:=x
  skip
  exact k a _ (.inl rfl) e
 | met f y=>
  have e:h.get? a=some (PySem.W.methodObj (.ref f)<|.ref y):=x
  skip
  exact k a _ (.inl rfl) e
 | ext L=>obtain⟨p,⟨o,e⟩,st⟩:=x;exact⟨st _ _ p λo q=>k _ _ (.inl rfl) q,⟨o,k _ _ (.inl rfl) e⟩,st⟩
def pZ.lt(x:pZ P w H h)(e:H a=some o):a<h.objs.size:=(x a o e).lt
def pZ.fresh(x:pZ P w H h)(e:h.objs.size<=a):H a=none:=by
 cases q:H a with
 | none=>rfl
 | some u=>exact absurd (bB (x.lt q) e)<|eO _
def pZ.kept(x:pZ P w H h)(k:∀b u,h.get? b=some u->h'.get? b=some u):pZ P w H h':=λa o e=>
 (x a o e).stay (λb u _ q=>k b u q) (λ_ q=>q) λ_ _ q=>q
def pZ.laid(x:pZ P w H h)(k:∀b u,h.get? b=some u->h'.get? b=some u)(j:h.objs.size<=a)(new:i6 P w (upd H a o) h' a o):pZ P w (upd H a o) h':=λb u e=>by
 have hn:=x.fresh j;by_cases d:b=a
 ·subst d;rw[jn]at e;cases e;exact new
 ·rw[gS d]at e;exact(x b u e).stay (λc v _ q=>k c v q) (λc q=>by rw[gS<|gX q hn];exact q) λc xs q=>by rw[gS<|gX q hn];exact q
end
abbrev Rd (H:Hp)(a:aj)(u:HO):Prop:=H a=some u\/∃o,H a=some (.frz o u)
def Rd.ok{P:ah}{w:af}{H:Hp}{a:aj}(r:Rd H a u)(x:pZ P w H h):i6 P w H h a u:=by
 rcases r with r|⟨o,r⟩
 ·exact x a u r
 ·obtain⟨_,q⟩:=x a _ r;exact q
abbrev Mi:Option HO->Prop
 | some (.lst _)=>True
 | some (.dK _)=>True
 | some (.dT _)=>True
 | some (.set _ _)=>True
 | some (.ins _ _ _)=>True
 | some (.ext _)=>True
 | _=>False
section
variable {P:ah}{w:af}{H:Hp}{h h':ak}{x e:aj}{o':HO}
def pZ.write(ok:pZ P w H h)(J:Mi<|H x)(M:e=x\/H e=some (.own x))(k:∀b u,b≠e->h.get? b=some u->h'.get? b=some u)(L:∃u,h'.get? e=some u)
  (new:i6 P w (upd H x o') h' x o'):pZ P w (upd H x o') h':=λb u q=>by
 have f:∀c y,H c=some (.own y)->c≠x:=λc y r z=>by subst z;rw[r]at J;exact J
 have g:∀c xs,H c=some (.tup xs)->c≠x:=λc xs r z=>by subst z;rw[r]at J;exact J
 by_cases j:b=x
 ·subst j;rw[jn]at q;cases q;exact new
 ·rw[gS j]at q;by_cases d:b=e
  ·have m:H b=some (.own x):=by
    rcases M with z|z
    ·exact absurd (d.trans z) j
    ·rw[d];exact z
   rw[q]at m;cases m;obtain⟨v,hv⟩:=L;exact⟨v,by rw[d];exact hv⟩
  ·refine(ok b u q).stay (λc v hc r=>k c v ?_ r) (λc r=>by rw[gS<|f c b r];exact r) λc xs r=>by rw[gS<|g c xs r];exact r
   rcases hc with rfl|hc
   ·exact d
   ·rintro rfl
    rcases M with z|z
    ·exact f c b hc z
    ·rw[hc]at z;cases z;exact j rfl
end
structure Un (fs ex:bb)(H H':Hp)(h h':ak):Prop where
 keep:∀b o,h.get? b=some o->H b=none->b∉fs->b∉ex->h'.get? b=some o
 slot:∀b o,h.get? b=some o->H b=none->b∈fs->b∉ex->∃sl,h'.get? b=some { o with slots:=sl }
 free:∀b o,h.get? b=some o->H b=none->b∉ex->H' b=none
 there:∀b o,h.get? b=some o->b∉ex->∃o',h'.get? b=some o'
 tups:∀b xs,H b=some (.tup xs)->H' b=some (.tup xs)
 frzs:∀b o u,H b=some (.frz o u)->H' b=some (.frz o u)
 tbls:∀b ps,H b=some (.tbl ps)->∃more,H' b=some (.tbl<|ps++more)
section
variable {fs ex:bb}{H H1:Hp}{h h1 h':ak}{a x e:aj}{o:HO}
def Un.any(u:Un fs ex H H1 h h1){b:aj}{j:Obj}(q:h.get? b=some j)(n:H b=none)(J:b∉ex):∃sl,h1.get? b=some { j with slots:=sl }:=by
 by_cases c:b∈fs
 ·exact u.slot b j q n c J
 ·exact⟨j.slots,u.keep b j q n c J⟩
def Un.kept(k:∀b u,h.get? b=some u->h'.get? b=some u):Un fs ex H H h h':=
 ⟨λb c q _ _ _=>k b c q,λb c q _ _ _=>⟨c.slots,k b c q⟩,λ_ _ _ n _=>n,λb c q _=>⟨c,k b c q⟩,λ_ _ q=>q,λ_ _ _ q=>q,λ_ ps q=>⟨#[],by rw[q];simp⟩⟩
def Un.refl:Un fs ex H H h h:=Un.kept λ_ _ q=>q
def Un.laid(k:∀b u,h.get? b=some u->h'.get? b=some u)(j:h.objs.size<=a)(hn:H a=none):Un fs ex H (upd H a o) h h' where
 keep:=λb u q _ _ _=>k b u q
 slot:=λb u q _ _ _=>⟨u.slots,k b u q⟩
 free:=λb u q n _=>by rw[gS<|bw<|bB (bf q) j];exact n
 there:=λb u q _=>⟨u,k b u q⟩
 tups:=λb xs q=>by rw[gS<|gX q hn];exact q
 frzs:=λb u xs q=>by rw[gS<|gX q hn];exact q
 tbls:=λb ps q=>⟨#[],by rw[gS<|gX q hn,q];simp⟩
def Un.write(J:Mi<|H x)(M:e=x\/H e=some (.own x))(k:∀b u,b≠e->h.get? b=some u->h'.get? b=some u)(L:∃u,h'.get? e=some u):Un fs ex H (upd H x o) h h':=by
 have f:∀b,H b=none->b≠x:=λb n z=>by subst z;rw[n]at J;exact J
 have g:∀b,H b=none->b≠e:=λb n z=>by
  subst z
  rcases M with r|r
  ·exact f b n r
  ·rw[n]at r;cases r
 have d:∀b u,H b=some u->¬Mi (some u)->b≠x:=λb u q j z=>by subst z;rw[q]at J;exact j J
 refine⟨λb u q n _ _=>k b u (g b n) q,λb u q n _ _=>⟨u.slots,k b u (g b n) q⟩,λb u q n _=>by rw[gS<|f b n];exact n,λb u q _=>?_,
  λb xs q=>by rw[gS<|d b _ q λz=>z];exact q,λb u xs q=>by rw[gS<|d b _ q λz=>z];exact q,λb ps q=>⟨#[],by rw[gS<|d b _ q λz=>z,q];simp⟩⟩
 by_cases c:b=e
 ·subst c;exact L
 ·exact⟨u,k b u c q⟩
end
abbrev Mq (h:ak)(H:Hp):bb:=(List.range h.objs.size).filter λa=>(H a).isSome
abbrev tZ (h:ak)(H:Hp):ak:=PySem.W.hideAll h<|Mq h H
def Ag(h:ak)(H:Hp):(tZ h H).objs.size=h.objs.size:=PySem.W.hideAll_size _ _
def Bh{h:ak}{H:Hp}{b:aj}(e:h.get? b=some o)(n:H b=none):(tZ h H).get? b=some o:=
 PySem.W.hideAll_get _ e λc=>by
  have q:(H b).isSome=true:=(List.mem_filter.mp c).2;rw[n]at q;simp at q
def FW{h:ak}{H:Hp}{b:aj}(e:(tZ h H).get? b=some o):h.get? b=some o/\H b=none:=by
 have c:h.get? b=some o:=PySem.W.of_hideAll (Mq h H) e;refine⟨c,?_⟩
 cases q:H b with
 | none=>rfl
 | some x=>
  have d:b∈Mq h H:=List.mem_filter.mpr ⟨cR.mpr<|bf c,by simp[q]⟩;have z:(tZ h H).get? b=none:=PySem.W.hideAll_none (Mq h H) d;rw[z]at e;cases e
abbrev EI (g h:ak)(L:aj):bp:=(List.range h.objs.size).filterMap λa=>if a=L\/(g.get? a).isSome=true then none else(h.get? a).map λo=>(a,o)
abbrev rest (g h:ak)(L d:aj):bp:=(EI g h L).filter λp=>decide<|p.1≠d
structure Mod (K:aq)(mg:Str->bi)(base:ak):Prop where
 kin:K.In base
 glob:base.Ns mainGlobals mg
 blt:∃mb,base.Ns builtinsNs mb/\∀x:Str,x ≠ "__name__" -> mb x=bootBuiltins x
 nolimit:base.NoLimit
structure Cx where
 prog:ah
 w:af
 K:aq
 mg:Str->bi
 base:ak
 A:az
 N:ar
 s₀:aA
 H₀:Hp
 env:Env
 outer:List Env
 stack:List Env
 ex:bb
 fn:Str->Bool
 calm:Bool
 pn:bp
 xe:aa->aA->Prop
abbrev frs (l:List Env):bb:=l.filterMap (·.frame)
meta abbrev Cx.fs (X:Cx):bb:=frs X.outer
abbrev Kh (j:Scope)(x:Str):Prop:=j.names.lookup x=some .local\/j.names.lookup x=some .cell\/j.names.lookup x=some .free
abbrev Loc (j:Scope)(x:Str):Prop:=j.names.lookup x=some .local\/j.names.lookup x=some .cell
abbrev Look (env:Env)(h:ak)(m:Str->bi)(x:Str)(u:aa):Prop:=
 (env.kindOf x=some .local/\m x=some u)\/((env.kindOf x=some .cell\/env.kindOf x=some .free)/\∃c,env.cells.lookup x=some c/\h.IsCell c (some u))
structure Cx.Ok (X:Cx):Prop where
 mod:Mod X.K X.mg X.base
 kind:X.env.scope.kind=.function
 glob:X.env.globals=mainGlobals
 blt:X.env.builtins=builtinsNs
 above:X.s₀.heap.objs.size<=X.env.locals
 inj:∀x y c,X.env.cells.lookup x=some c->X.env.cells.lookup y=some c->x=y
 has:∀x,(X.env.kindOf x=some .cell\/X.env.kindOf x=some .free)->∃c,X.env.cells.lookup x=some c
 cab:∀x c,X.fn x=true->X.env.cells.lookup x=some c->X.s₀.heap.objs.size<=c
 hd:X.calm=true->X.A.handled=none
 frames:X.A.frames=some X.stack
 stk:X.stack=X.outer\/(X.stack=X.env::X.outer/\X.env.frame=some X.env.locals)
 exf:∀b∈X.ex,b≠X.env.locals/\∀x c,X.env.cells.lookup x=some c->c≠b
 bs:∀b o,X.base.get? b=some o->X.s₀.heap.get? b=some o/\X.H₀ b=none
 bsz:X.base.objs.size<=X.s₀.heap.objs.size
 noex:∀b o,X.base.get? b=some o->b∉X.ex
 exfs:∀b∈X.ex,b∉X.fs
 qw:X.s₀.heap.FunFrames X.base X.outer
 frf:∀b∈X.fs,X.H₀ b=none
structure Inv (X:Cx)(pins:bp)(σ:List (Option V))(H:Hp)(s:aA):Prop where
 ok:X.Ok
 os:s.os=X.s₀.os
 bare:AllBare s.gens
 base:Un X.fs X.ex X.H₀ H X.s₀.heap s.heap
 loc:∃m,s.heap.Ns X.env.locals m/\∀(i:Nat) (x:Str) (v:V),X.N[i]?=some x->σ[i]?=some (some v)->Kh X.env.scope x->∃u,RelV v u/\Look X.env s.heap m x u
 cell:∀x c,X.env.cells.lookup x=some c->∃v,s.heap.IsCell c v
 free:H X.env.locals=none
 freeC:∀x c,X.env.cells.lookup x=some c->H c=none
 pin:∀p∈X.pn++pins,s.heap.get? p.1=some p.2/\H p.1=none/\p.1≠X.env.locals/\p.1∉X.fs/\∀v,p.2.data≠.cell v
 hok:pZ X.prog X.w H s.heap
 len:σ.length=X.N.length
section
variable {X:Cx}{pins:bp}{σ:List (Option V)}{H H':Hp}{s:aA}{h':ak}
def Cx.Ok.Nn(ok:X.Ok){b:aj}(e:X.base.get? b=some o):b∉X.fs:=λc=>by
 have:=(ok.qw.mem c).1;rw[e]at this;cases this
def Inv.bs(I:Inv X pins σ H s):∀b o,X.base.get? b=some o->s.heap.get? b=some o/\H b=none:=λb o e=>
 ⟨I.base.keep b o (I.ok.bs b o e).1 (I.ok.bs b o e).2 (I.ok.Nn e)<|I.ok.noex b o e,I.base.free b o (I.ok.bs b o e).1 (I.ok.bs b o e).2<|I.ok.noex b o e⟩
def Inv.bk(I:Inv X pins σ H s):∀b o,X.base.get? b=some o->s.heap.get? b=some o:=λb o e=>(I.bs b o e).1
def Inv.mod(I:Inv X pins σ H s):Mod X.K X.mg X.base:=I.ok.mod
def Inv.uC(I:Inv X pins σ H s):X.K.In s.heap:=I.ok.mod.kin.keeps I.bk
def Inv.lt(I:Inv X pins σ H s):X.env.locals<s.heap.objs.size:=let⟨_,hn,_⟩:=I.loc;hn.lt
def Inv.sz(I:Inv X pins σ H s):X.s₀.heap.objs.size<=s.heap.objs.size:=bU I.ok.above<|eB I.lt
def Inv.M4(I:Inv X pins σ H s){a:aj}(h:s.heap.objs.size<=a):a∉X.fs:=λd=>by
 obtain⟨_,o,c,_⟩:=I.ok.qw.mem d;exact absurd (bB (bf c)<|bU I.sz h)<|eO _
def Inv.Jm(I:Inv X pins σ H s):∀x c,X.env.cells.lookup x=some c->c≠X.env.locals:=λx c e z=>by
 obtain⟨v,o,g,hd⟩:=I.cell x c e;obtain⟨m,⟨o',es,ep,d,f,_⟩,_⟩:=I.loc;rw[z,d]at g;cases g;rw[f]at hd;cases hd
def Inv.qw(I:Inv X pins σ H s):s.heap.FunFrames X.base X.outer:=by
 have all:∀(l:List Env),(∀b∈frs l,b∈X.fs)->X.s₀.heap.FunFrames X.base l->s.heap.FunFrames X.base l:=by
  intro l
  induction l with
  | nil=>intro _ _;trivial
  | cons m r g=>
   intro hs j;obtain⟨k,⟨L,o,hf,hn,f,hd⟩,p⟩:=j;have d:L∈X.fs:=hs L (by unfold frs;rw[eL,hf];exact aQ);obtain⟨q,e⟩:=I.base.slot L o f (I.ok.frf L d) d λz=>I.ok.exfs L z d;exact⟨k,⟨L,_,hf,hn,e,hd⟩,g (λb c=>hs b<|by unfold frs;rw[eL,hf];exact aV _ c) p⟩
 exact all X.outer (λ_ c=>c) I.ok.qw
def Inv.stack(I:Inv X pins σ H s):s.heap.FunFrames X.base X.stack:=by
 rcases I.ok.stk with e|⟨e,hf⟩
 ·rw[e];exact I.qw
 ·rw[e];obtain⟨m,hn,_⟩:=I.loc;refine .cons (by rw[I.ok.kind];decide) hf hn ?_ I.qw;exact Heap.get?_none_of_le<|bU I.ok.bsz I.ok.above
def Inv.xo(I:Inv X pins σ H s):∀b∈frs X.stack,b∈X.env.locals::X.fs:=λb c=>by
 rcases I.ok.stk with e|⟨e,hf⟩
 ·rw[e]at c;exact aV _ c
 ·rw[e]at c;unfold frs at c;rw[eL,hf]at c;exact c
def Inv.zp(I:Inv X pins σ H s):∀b∈frs X.stack,H b=none:=λb c=>by
 rcases bH.mp (I.xo b c)with e|c
 ·rw[e];exact I.free
 ·obtain⟨_,o,d,_⟩:=I.ok.qw.mem c;exact I.base.free b o d (I.ok.frf b c) λz=>I.ok.exfs b z c
def Inv.step{g':Array GenState}{t':Nat}{d':Drawn}{ch:bb}(I:Inv X pins σ H s)
  (U:∀b∈ch,(b∈X.ex\/X.s₀.heap.objs.size<=b)/\b≠X.env.locals/\(∀x c,X.env.cells.lookup x=some c->c≠b)/\∀p∈X.pn++pins,p.1≠b)
  (keep:∀b o,b≠X.env.locals->b∉X.fs->b∉ch->s.heap.get? b=some o->H b=none->h'.get? b=some o)
  (slot:∀b o,b≠X.env.locals->b∈X.fs->b∉ch->s.heap.get? b=some o->H b=none->∃sl,h'.get? b=some { o with slots:=sl }) (free:∀b o,b∉ch->s.heap.get? b=some o->H b=none->H' b=none)
  (there:∀b o,b∉ch->s.heap.get? b=some o->∃o',h'.get? b=some o')
  (tups:∀b xs,H b=some (.tup xs)->H' b=some (.tup xs)) (frzs:∀b o u,H b=some (.frz o u)->H' b=some (.frz o u)) (tbls:∀b ps,H b=some (.tbl ps)->∃more,H' b=some (.tbl<|ps++more))
  (ns:∀m,s.heap.Ns X.env.locals m->h'.Ns X.env.locals m) (hok:pZ X.prog X.w H' h') (hg:AllBare g') :
  Inv X pins σ H' { s with heap:=h',gens:=g',drawn:=d',toks:=t' }:=by
 have G:∀b o,X.s₀.heap.get? b=some o->b≠X.env.locals:=λb o e=>bw<|bB (bf e) I.ok.above;have B:∀b o,X.s₀.heap.get? b=some o->b∉X.ex->b∉ch:=λb o e f C=>by
  rcases(U b C).1 with z|z
  ·exact f z
  ·exact absurd (bB (bf e) z)<|eO _
 have g:∀x c,X.env.cells.lookup x=some c->∀v,s.heap.IsCell c v->h'.IsCell c v:=λx c e v ⟨o,F,hd⟩=>by
  have j:c∉ch:=λz=>(U c z).2.2.1 x c e rfl;by_cases hc:c∈X.fs
  ·obtain⟨sl,q⟩:=slot c o (I.Jm x c e) hc j F<|I.freeC x c e;exact⟨_,q,hd⟩
  ·exact⟨o,keep c o (I.Jm x c e) hc j F<|I.freeC x c e,hd⟩
 refine⟨I.ok,I.os,hg,⟨λb o e n C f=>?_,λb o e n C f=>?_,λb o e n f=>?_,λb o e f=>?_,λb xs e=>tups b xs<|I.base.tups b xs e,λb o xs e=>frzs b o xs<|I.base.frzs b o xs e,λb ps e=>?_⟩,?_,λx c e=>?_,?_,λx c e=>?_,λp K=>?_,hok,I.len⟩
 ·exact keep b o (G b o e) C (B b o e f) (I.base.keep b o e n C f) (I.base.free b o e n f)
 ·obtain⟨sl,e1⟩:=I.base.slot b o e n C f;obtain⟨J,e2⟩:=slot b _ (G b o e) C (B b o e f) e1<|I.base.free b o e n f;exact⟨J,e2⟩
 ·obtain⟨o',e1⟩:=I.base.there b o e f;exact free b o' (B b o e f) e1 (I.base.free b o e n f)
 ·obtain⟨o',e1⟩:=I.base.there b o e f;exact there b o' (B b o e f) e1
 ·obtain⟨T,e1⟩:=I.base.tbls b ps e;obtain⟨P,e2⟩:=tbls b _ e1;exact⟨T++P,by rw[e2,Array.append_assoc]⟩
 ·obtain⟨m,hn,O⟩:=I.loc;refine⟨m,ns m hn,λi x v e1 e2 N=>?_⟩;obtain⟨u,r,l⟩:=O i x v e1 e2 N;refine⟨u,r,?_⟩
  rcases l with l|⟨k,c,e,z⟩
  ·exact .inl l
  ·exact .inr ⟨k,c,e,g x c e _ z⟩
 ·obtain⟨v,z⟩:=I.cell x c e;exact⟨v,g x c e v z⟩
 ·obtain⟨m,⟨o,_,_,F,_⟩,_⟩:=I.loc;exact free _ o (λz=>(U _ z).2.1 rfl) F I.free
 ·obtain⟨v,o,F,hd⟩:=I.cell x c e;exact free c o (λz=>(U c z).2.2.1 x c e rfl) F (I.freeC x c e)
 ·obtain⟨e,n,M,L,d⟩:=I.pin p K;have j:p.1∉ch:=λz=>(U p.1 z).2.2.2 p K rfl;exact⟨keep p.1 p.2 M L j e n,free p.1 p.2 j e n,M,L,d⟩
def Inv.un{t':Nat}(I:Inv X pins σ H s)(u:Un X.fs [] H H' s.heap h')(hok:pZ X.prog X.w H' h'):Inv X pins σ H' { s with heap:=h',toks:=t' }:=by
 obtain⟨m,⟨o,es,ep,j,r⟩,_⟩:=id I.loc;obtain⟨C,q⟩:=u.any j I.free (by simp);exact I.step (g':=s.gens) (d':=s.drawn) (ch:=[]) (nofun) (λb o _ f _ e n=>u.keep b o e n f<|by simp) (λb o _ f _ e n=>u.slot b o e n f<|by simp) (λb o _ e n=>u.free b o e n<|by simp) (λb o _ e=>u.there b o e<|by simp) u.tups u.frzs u.tbls (λB k=>by
  obtain⟨o',g,d,c,p⟩:=k;rw[j]at c;cases c;exact⟨_,g,d,q,p⟩) hok I.bare
def Inv.call{g':Array GenState}{t':Nat}{d':Drawn}{ch:bb}(I:Inv X pins σ H s)(u:Un (frs X.stack) ch H H' s.heap h')(hok:pZ X.prog X.w H' h')(hg:AllBare g')
  (J:∀b∈ch,(b∈X.ex\/X.s₀.heap.objs.size<=b)/\b≠X.env.locals/\(∀x c,X.env.cells.lookup x=some c->c≠b)/\∀p∈X.pn++pins,p.1≠b) :
  Inv X pins σ H' { s with heap:=h',gens:=g',drawn:=d',toks:=t' }:=by
 obtain⟨m,⟨o,es,ep,k,r⟩,_⟩:=id I.loc;obtain⟨G,j⟩:=u.any k I.free λz=>(J _ z).2.1 rfl;exact I.step (ch:=ch) J (λb o j C hc e n=>u.keep b o e n (λz=>(bH.mp<|I.xo b z).elim j C) hc) (λb o _ _ hc e n=>u.any e n hc) (λb o hc e n=>u.free b o e n hc) (λb o hc e=>u.there b o e hc) u.tups u.frzs u.tbls (λF q=>by
  obtain⟨o',g,f,d,B⟩:=q;rw[k]at d;cases d;exact⟨_,g,f,j,B⟩) hok hg
def Inv.turned{t':Nat}{it:aj}(I:Inv X pins σ H s)(k:∀b o,b≠it->s.heap.get? b=some o->h'.get? b=some o)(hn:H it=none)(J:it≠X.env.locals)
  (h1:it∈X.ex\/X.s₀.heap.objs.size<=it) (L:∀x c,X.env.cells.lookup x=some c->c≠it) (M:∀p∈X.pn++pins,p.1≠it):Inv X pins σ H { s with heap:=h',toks:=t' }:=by
 have d:∀b u,H b=some u->b≠it:=λb u e z=>by rw[z,hn]at e;cases e
 refine I.step (g':=s.gens) (d':=s.drawn) (ch:=[it]) (λb j=>?_) (λb o _ _ hc e _=>k b o (λz=>hc<|by simp[z]) e) (λb o _ _ hc e _=>⟨o.slots,k b o (λz=>hc<|by simp[z]) e⟩) (λ_ _ _ _ n=>n)
  (λb o hc e=>⟨o,k b o (λz=>hc<|by simp[z]) e⟩) (λ_ _ e=>e) (λ_ _ _ e=>e) (λb ps e=>⟨#[],by rw[e];simp⟩) (λm f=>?_) (λb u e=>?_) I.bare
 ·have e:b=it:=by simpa using j
  subst e;exact⟨h1,J,L,M⟩
 ·obtain⟨o,es,ep,g,r⟩:=f;exact⟨o,es,ep,k _ o (eE J) g,r⟩
 ·refine(I.hok b u e).stay (λc v hc q=>k c v ?_ q) (λ_ q=>q) λ_ _ q=>q
  rcases hc with z|z
  ·rw[z];exact d b u e
  ·exact d c _ z
def Inv.tok(I:Inv X pins σ H s)(t:Nat):Inv X pins σ H { s with toks:=t }:=I.un (h':=s.heap) (t':=t) Un.refl I.hok
def Inv.kept{t':Nat}(I:Inv X pins σ H s)(k:∀b u,s.heap.get? b=some u->h'.get? b=some u):Inv X pins σ H { s with heap:=h',toks:=t' }:=I.un (Un.kept k)<|I.hok.kept k
def Inv.laid{a:aj}{t':Nat}(I:Inv X pins σ H s)(k:∀b u,s.heap.get? b=some u->h'.get? b=some u)(j:s.heap.objs.size<=a)(new:i6 X.prog X.w (upd H a o) h' a o) :
  Inv X pins σ (upd H a o) { s with heap:=h',toks:=t' }:=I.un (Un.laid k j<|I.hok.fresh j)<|I.hok.laid k j new
def Inv.write{x:aj}{t':Nat}(I:Inv X pins σ H s)(J:Mi<|H x)(L:e=x\/H e=some (.own x))(k:∀b u,b≠e->s.heap.get? b=some u->h'.get? b=some u)(j:∃u,h'.get? e=some u)
  (new:i6 X.prog X.w (upd H x o) h' x o):Inv X pins σ (upd H x o) { s with heap:=h',toks:=t' }:=I.un (Un.write J L k j)<|I.hok.write J L k j new
def Inv.yX{j:bp}(I:Inv X pins σ H s)(h:∀p∈j,s.heap.get? p.1=some p.2/\H p.1=none/\p.1≠X.env.locals/\p.1∉X.fs/\∀v,p.2.data≠.cell v):Inv X j σ H s:=
 ⟨I.ok,I.os,I.bare,I.base,I.loc,I.cell,I.free,I.freeC,λp c=>(bh.mp c).elim (λz=>I.pin p<|d9 _ z)<|h p,I.hok,I.len⟩
def u_{N:ar}(J:N.Nodup){i j:Nat}{x:Str}(a:N[i]?=some x)(b:N[j]?=some x):i=j:=by
 obtain⟨h1,e1⟩:=aP.mp a;obtain⟨c,e2⟩:=aP.mp b;exact(List.getElem_inj J).mp (e1.trans e2.symm)
def _root_.γ0(h:1=1:=by first|exact .inl rfl|exact .inr rfl|assumption):1=1:=h
def _root_.γ:Lean.Syntax:=γ0._auto_1
def _root_.δ0(h:1=1:=by decide):1=1:=h
def _root_.δ:Lean.Syntax:=δ0._auto_1
def _root_.ε0(h:1=1:=by rfl):1=1:=h
def _root_.ε:Lean.Syntax:=ε0._auto_1
def _root_.ζ0(h:1=1:=by intro _;rfl):1=1:=h
def _root_.ζ:Lean.Syntax:=ζ0._auto_1
def _root_.η0(h:1=1:=by with_unfolding_all rfl):1=1:=h
def _root_.η:Lean.Syntax:=η0._auto_1
def _root_.θ0(h:1=1:=by exact λ_ _=>rfl):1=1:=h
def _root_.θ:Lean.Syntax:=θ0._auto_1
def AJ{A:az}{E:aa->aA->Prop}{i:Nat}{x:Str}{v:V}{Q:Unit->aA->Prop}(I:Inv X pins σ H s)(hN:X.N.Nodup)(hi:X.N[i]?=some x)(hx:Loc X.env.scope x)(r:RelV v u)
  (h:∀s',Inv X pins (σ.set i<|some v) H s'->(∃a,Heap.SameBut a s.heap s'.heap/\(a=X.env.locals\/X.env.cells.lookup x=some a))->Q Unit.unit s') (hf:X.fn x=true\/X.env.scope.names.lookup x=some .local<|>γ):wpAny M A (storeName X.env x u) Q E s:=by
 obtain⟨m,hn,hl⟩:=id I.loc;have O:(X.env.scope.kind == .class || (X.env.scope.kind == .module && X.env.locals != X.env.globals))=false:=by rw[I.ok.kind];rfl
 have B:i<σ.length:=by rw[I.len];exact(aP.mp hi).1
 have Jm:=I.Jm;have f:∀{a:aj} {h':ak},(∃o,s.heap.get? a=some o/\H a=none)->Heap.SameBut a s.heap h'->pZ X.prog X.w H h':=λ{a h'} ha hs b ob e=>by
  obtain⟨_,_,g⟩:=ha;refine(I.hok b ob e).stay (λc Y hc q=>(hs.2 c ?_).trans q) (λ_ q=>q) λ_ _ q=>q;rintro rfl
  rcases hc with rfl|hc
  ·rw[g]at e;cases e
  ·rw[g]at hc;cases hc
 rcases hx with C|C
 ·refine wpAny_storeName_local C hn (λh' hn' hs=>?_) O;obtain⟨oL,_,_,hoL,_⟩:=id hn;refine h _ ⟨I.ok,I.os,I.bare,⟨λb o e n J hx=>?_,λb o e n J hx=>?_,I.base.free,λb o e hx=>?_,I.base.tups,I.base.frzs,I.base.tbls⟩,⟨_,hn',λj y Z e1 e2 e3=>?_⟩,λy c e=>?_,I.free,I.freeC,λp hp=>?_,f ⟨oL,hoL,I.free⟩ hs,by simpa using I.len⟩ ⟨_,hs,.inl rfl⟩
  ·exact(hs.2 b<|bw<|bB (bf e) I.ok.above).trans (I.base.keep b o e n J hx)
  ·obtain⟨sl,e1⟩:=I.base.slot b o e n J hx;exact⟨sl,(hs.2 b<|bw<|bB (bf e) I.ok.above).trans e1⟩
  ·obtain⟨o',e1⟩:=I.base.there b o e hx;exact⟨o',(hs.2 b<|bw<|bB (bf e) I.ok.above).trans e1⟩
  ·by_cases F:j=i
   ·subst F;rw[hi]at e1;cases e1;rw[cB B]at e2
    cases e2
    exact⟨u,r,.inl ⟨C,by simp⟩⟩
   ·rw[ck<|eE F]at e2;obtain⟨u',r',q⟩:=hl j y Z e1 e2 e3;refine⟨u',r',?_⟩
    rcases q with⟨k,e⟩|⟨k,c,e,z⟩
    ·refine .inl ⟨k,?_⟩;have:y≠x:=λe=>F<|u_ hN e1<|e ▸ hi;simp[this,e]
    ·exact .inr ⟨k,c,e,z.sameBut hs<|Jm y c e⟩
  ·obtain⟨Y,z⟩:=I.cell y c e;exact⟨Y,z.sameBut hs<|Jm y c e⟩
  ·obtain⟨e,n,U,nf,d⟩:=I.pin p hp;exact⟨(hs.2 p.1 U).trans e,n,U,nf,d⟩
 ·have G:X.fn x=true:=by
   rcases hf with z|z
   ·exact z
   ·rw[z]at C;cases C
  obtain⟨c,hc⟩:=I.ok.has x<|.inl C;obtain⟨Y,z⟩:=I.cell x c hc;refine wpAny_storeName_cell I.ok.kind C hc z λh' P hs=>?_;obtain⟨oc,L,T⟩:=id z;refine h { s with heap:=h' } ⟨I.ok,I.os,I.bare,⟨λb o e n J hx=>?_,λb o e n J hx=>?_,I.base.free,λb o e hx=>?_,I.base.tups,I.base.frzs,I.base.tbls⟩,⟨m,hn.sameBut hs<|eE<|Jm x c hc,λj y Z e1 e2 e3=>?_⟩,λy W e=>?_,I.free,I.freeC,λp hp=>?_,f ⟨oc,L,I.freeC x c hc⟩ hs,by simpa using I.len⟩ ⟨c,hs,.inr hc⟩
  ·exact(hs.2 b<|bw<|bB (bf e)<|I.ok.cab x c G hc).trans (I.base.keep b o e n J hx)
  ·obtain⟨sl,e1⟩:=I.base.slot b o e n J hx;exact⟨sl,(hs.2 b<|bw<|bB (bf e)<|I.ok.cab x c G hc).trans e1⟩
  ·obtain⟨o',e1⟩:=I.base.there b o e hx;exact⟨o',(hs.2 b<|bw<|bB (bf e)<|I.ok.cab x c G hc).trans e1⟩
  ·by_cases F:j=i
   ·subst F;rw[hi]at e1;cases e1;rw[cB B]at e2
    cases e2
    exact⟨u,r,.inr ⟨.inl C,c,hc,P⟩⟩
   ·rw[ck<|eE F]at e2;obtain⟨u',r',q⟩:=hl j y Z e1 e2 e3;refine⟨u',r',?_⟩
    rcases q with q|⟨k,W,e,z'⟩
    ·exact .inl q
    ·refine .inr ⟨k,W,e,z'.sameBut hs ?_⟩;rintro rfl;exact F<|u_ hN e1<|I.ok.inj _ _ _ e hc ▸ hi
  ·by_cases K:W=c
   ·subst K;exact⟨_,P⟩
   ·obtain⟨w2,z2⟩:=I.cell y W e;exact⟨w2,z2.sameBut hs K⟩
  ·obtain⟨e,n,U,nf,d⟩:=I.pin p hp;refine⟨(hs.2 p.1 ?_).trans e,n,U,nf,d⟩;intro q;rw[q,L]at e;have q':oc=p.2:=aX e;exact d Y<|by rw[<- q'];exact T
def qW{A:az}{E:aa->aA->Prop}{i:Nat}{x:Str}{v:V}{Q:Unit->aA->Prop}(I:Inv X pins σ H s)(j:X.N.Nodup)(hi:X.N[i]?=some x)(J:Loc X.env.scope x)(r:RelV v u)
  (h:∀s',Inv X pins (σ.set i<|some v) H s'->Q Unit.unit s') (hf:X.fn x=true\/X.env.scope.names.lookup x=some .local<|>γ):wpAny M A (storeName X.env x u) Q E s:=
 AJ I j hi J r (λs' c _=>h s' c) hf
def Inv.Hf{s':aA}{ch:bb}(I:Inv X pins σ H s)(J:s'.os=s.os)(u:Un (frs X.stack) ch H H' s.heap s'.heap)(hok:pZ X.prog X.w H' s'.heap)(hg:AllBare s'.gens)
  (j:∀b∈ch,(b∈X.ex\/X.s₀.heap.objs.size<=b)/\b≠X.env.locals/\(∀x c,X.env.cells.lookup x=some c->c≠b)/\∀p∈X.pn++pins,p.1≠b):Inv X pins σ H' s':=by
 obtain⟨h',g',d',t',o'⟩:=s';have e:o'=s.os:=J;subst e;exact I.call (g':=g') (t':=t') (d':=d') u hok hg j
end
meta abbrev XK:=aa->Option aj->Hp->Prop
meta abbrev St:=List<|Option V
meta abbrev VK:=V->Hp->Prop
meta abbrev TE:=St->Hp->VK->Prop
meta abbrev TT:=St->Hp->(Bool->Hp->Prop)->Prop
meta abbrev TA:=St->Hp->(List V->Hp->Prop)->Prop
structure Ends where
 nx:St->Hp->Prop
 rt:VK
 bk:St->Hp->Prop:=λ_ _=>False
 ct:St->Hp->Prop:=λ_ _=>False
meta abbrev TS:=Ends->St->Hp->Prop
abbrev EP (X:Cx)(pins:bp)(σ:St)(Q:VK)(u:aa)(s':aA):Prop:=∃v H',Inv X pins σ H' s'/\RelV v u/\Q v H'
abbrev TP (X:Cx)(pins:bp)(σ:St)(Q:Bool->Hp->Prop)(b:Bool)(s':aA):Prop:=∃H',Inv X pins σ H' s'/\Q b H'
abbrev AP (X:Cx)(pins:bp)(σ:St)(Q:List V->Hp->Prop)(us:ba)(s':aA):Prop:=∃c H',Inv X pins σ H' s'/\Vals c us/\Q c H'
abbrev SP (X:Cx)(pins:bp)(D:Ends)(f:Flow)(s':aA):Prop:=
 match f with
 | .next=>∃c H',Inv X pins c H' s'/\D.nx c H'
 | .brk=>∃c H',Inv X pins c H' s'/\D.bk c H'
 | .cont=>∃c H',Inv X pins c H' s'/\D.ct c H'
 | .ret u=>∃v c H',Inv X pins c H' s'/\RelV v u/\D.rt v H'
abbrev PE (X:Cx)(e:aC)(t:TE):Prop:=
 ∀(pins:bp) (s:aA) (σ:St) (H:Hp) (Q:VK),Inv X pins σ H s->t σ H Q->wpAny (model X.prog X.w) X.A (eval e X.env) (EP X pins σ Q) X.xe s
abbrev PT (X:Cx)(e:aC)(t:TT):Prop:=
 ∀(pins:bp) (s:aA) (σ:St) (H:Hp) (Q:Bool->Hp->Prop),Inv X pins σ H s->t σ H Q->wpAny (model X.prog X.w) X.A (isTrue e X.env<|eval e X.env) (TP X pins σ Q) X.xe s
abbrev PW (X:Cx)(e:aC)(t:TT):Prop:=
 ∀(c:Sem aa) (pins:bp) (s:aA) (σ:St) (H:Hp) (Q:Bool->Hp->Prop),Inv X pins σ H s->t σ H Q->wpAny (model X.prog X.w) X.A (isTrue e X.env c) (TP X pins σ Q) X.xe s
abbrev PA (X:Cx)(es:List aC)(t:TA):Prop:=
 ∀(pos:Pos) (pins:bp) (s:aA) (σ:St) (H:Hp) (Q:List V->Hp->Prop),Inv X pins σ H s->t σ H Q->wpAny (model X.prog X.w) X.A (spliced<|backTo pos<|starEach es X.env) (AP X pins σ Q) X.xe s
abbrev PS (X:Cx)(st:aE)(t:TS):Prop:=
 ∀(pins:bp) (s:aA) (σ:St) (H:Hp) (D:Ends),Inv X pins σ H s->t D σ H->wpAny (model X.prog X.w) X.A (exec st X.env) (SP X pins D) X.xe s
abbrev ue (X:Cx)(st:List aE)(t:TS):Prop:=
 ∀(pins:bp) (s:aA) (σ:St) (H:Hp) (D:Ends),Inv X pins σ H s->t D σ H->wpAny (model X.prog X.w) X.A (execs st X.env) (SP X pins D) X.xe s
def iP{α:Type}{t:Sem α}{Q Q':α->aA->Prop}{A:az}{E:aa->aA->Prop}(h:wpAny M A t Q E s)(j:∀a s,Q a s->Q' a s):wpAny M A t Q' E s:=fS h j λ_ _ x=>x
section
variable {X:Cx}
abbrev Ku (i:Nat):TE:=λσ H Q=>∃v,σ[i]?=some (some v)/\Q v H
abbrev tC (v:V):TE:=λ_ H Q=>Q v H
def Cv{i:Nat}{x:Str}(L:X.N[i]?=some x)(hv:Kh X.env.scope x)(hd:(x == ("__debug__" : Str))=false<|>δ)(J:(x == ("__classdict__" : Str))=false<|>δ):PE X (.Name x pos) (Ku i):=by
 kt_k;obtain⟨v,e,h⟩:=h;obtain⟨m,hn,j⟩:=I.loc;obtain⟨u,r,l⟩:=j i x v L e hv;have fin:EP X pins σ Q u s:=⟨v,H,I,r,h⟩
 rcases l with⟨f,g⟩|⟨f,c,hc,d⟩
 ·exact wpAny_Name (wpAny_loadName_local I.ok.kind f hn g fin) hd
 ·rcases f with f|f
  ·exact wpAny_Name (wpAny_loadName_cell I.ok.kind f hc d fin) hd
  ·exact wpAny_Name (wpAny_loadName_free I.ok.kind f hc d fin J) hd
def JF{i j pos}:PE X (.Constant (.int i) j pos) (tC<|.int i):=λ_ _ _ H _ I h=>wpAny_Constant_int ⟨.int i,H,I.tok _,⟨_,rfl⟩,h⟩
def KD{b j pos}:PE X (.Constant (.bool b) j pos) (tC<|.bl b):=λ_ _ _ H _ I h=>Constant_bool ⟨.bl b,H,I,rfl,h⟩
def Hx{x j pos}:PE X (.Constant (.str x) j pos) (tC<|.str x):=λ_ _ _ H _ I h=>Calls.Constant_str ⟨.str x,H,I.tok _,⟨_,rfl⟩,h⟩
abbrev Gl (X:Cx)(x:Str):Prop:=X.env.kindOf x=some .globalImplicit
def zW{E:aa->aA->Prop}{H:Hp}{x:Str}{Q:aa->aA->Prop}(I:Inv X pins σ H s)(hg:Gl X x)(j:X.mg x=some u)(h:Q u s)
  (hd:(x == ("__debug__" : Str))=false<|>δ):wpAny (model X.prog X.w) X.A (eval (.Name x pos) X.env) Q E s:=
 Calls.Name_function_global I.ok.kind hg (Calls.loadGlobal_global (by rw[I.ok.glob];exact I.mod.glob.keeps I.bk) j h) hd
def ql{E:aa->aA->Prop}{H:Hp}{x:Str}{Q:aa->aA->Prop}(I:Inv X pins σ H s)(hg:Gl X x)(j:X.mg x=none)(hv:bootBuiltins x=some u)(h:Q u s)
  (hn:x ≠ "__name__"<|>δ) (hd:(x == ("__debug__" : Str))=false<|>δ):wpAny (model X.prog X.w) X.A (eval (.Name x pos) X.env) Q E s:=by
 obtain⟨d,h1,c⟩:=I.mod.blt;exact Calls.Name_function_global I.ok.kind hg (Calls.loadGlobal_builtin (by rw[I.ok.glob];exact I.mod.glob.keeps I.bk) j (by rw[I.ok.blt];exact h1.keeps I.bk) ((c x hn).trans hv) h) hd
def yx{x:Str}{v:V}(hg:Gl X x)(j:X.mg x=some u)(r:RelV v u)(hd:(x == ("__debug__" : Str))=false<|>δ):PE X (.Name x pos) (tC v):=
 λ_ _ _ H _ I h=>zW I hg j ⟨v,H,I,r,h⟩ hd
def Fq{x:Str}{v:V}(hg:Gl X x)(j:X.mg x=none)(hv:bootBuiltins x=some u)(r:RelV v u)(hn:x ≠ "__name__"<|>δ)(hd:(x == ("__debug__" : Str))=false<|>δ):PE X (.Name x pos) (tC v):=
 λ_ _ _ H _ I h=>ql I hg j hv ⟨v,H,I,r,h⟩ hn hd
variable {a b:aC}{ta tb:TE}{pos:Pos}
variable {tA tB':TT}{rest:List aC}
abbrev K3 (t u:TT):TT:=λσ H Q=>t σ H λc H1=>if c=true then u σ H1 Q else Q false H1
abbrev NO (t u:TT):TT:=λσ H Q=>t σ H λc H1=>if c=true then Q true H1 else u σ H1 Q
abbrev ML (t:TT):TT:=λσ H Q=>t σ H λc H1=>Q (!c) H1
def FI(j:PT X a tA):PW X (.BoolOp .And [a] pos) tA:=by
 intro f pins s σ H Q I h;refine isTrue_and (iP (j pins s σ H Q I h) λc d e=>?_)
 cases c with
 | true=>exact isTrue_and_nil e
 | false=>exact e
def H_(j:PT X a tA):PW X (.BoolOp .Or [a] pos) tA:=by
 intro f pins s σ H Q I h;refine isTrue_or (iP (j pins s σ H Q I h) λc d e=>?_)
 cases c with
 | false=>exact isTrue_or_nil e
 | true=>exact e
def Ir(j:PT X a tA)(J:PW X (.BoolOp .And (b::rest) pos) tB'):PW X (.BoolOp .And (a::b::rest) pos) (K3 tA tB'):=by
 intro f pins s σ H Q I h;refine isTrue_and (iP (j pins s σ H _ I h) λc e ⟨H1,I1,d⟩=>?_)
 cases c with
 | true=>exact J f pins e σ H1 Q I1 d
 | false=>exact⟨H1,I1,d⟩
def Lj(j:PT X a tA)(J:PW X (.BoolOp .Or (b::rest) pos) tB'):PW X (.BoolOp .Or (a::b::rest) pos) (NO tA tB'):=by
 intro f pins s σ H Q I h;refine isTrue_or (iP (j pins s σ H _ I h) λc e ⟨H1,I1,d⟩=>?_)
 cases c with
 | true=>exact⟨H1,I1,d⟩
 | false=>exact J f pins e σ H1 Q I1 d
def Iz(j:PT X a tA):PT X (.UnaryOp .Not a pos) (ML tA):=by
 kt_k;exact isTrue_not<|j pins s σ H (λc H1=>Q (!c) H1) I h
abbrev Lc (ta tb:TE):TE:=λσ H Q=>ta σ H λx H1=>∃c,x=.bl c/\if c=true then tb σ H1 Q else Q (.bl false) H1
abbrev KA (ta:TE):TE:=λσ H Q=>ta σ H λx H1=>∃c,x=.bl c/\Q (.bl<|!c) H1
def J_{op}{t:TE}(h:PE X a t):PE X (.BoolOp op [a] pos) t:=λpins s σ H Q I hw=>BoolOp_one<|h pins s σ H Q I hw
def Js(j:PE X a ta)(J:PE X (.BoolOp .And (b::rest) pos) tb):PE X (.BoolOp .And (a::b::rest) pos) (Lc ta tb):=by
 kt_k;refine BoolOp_and<|iP (j pins s σ H _ I h) λv e ⟨x,H1,I1,r1,d⟩=>?_;obtain⟨c,rfl,d⟩:=d
 cases r1
 refine cC ?_
 cases c with
 | true=>exact J pins e σ H1 Q I1 d
 | false=>exact⟨.bl false,H1,I1,rfl,d⟩
def JN(j:PE X a ta):PE X (.UnaryOp .Not a pos) (KA ta):=by
 kt_k;refine UnaryOp_<|iP (j pins s σ H _ I h) λv e ⟨x,H1,I1,r1,d⟩=>?_;obtain⟨c,rfl,d⟩:=d
 cases r1
 exact not_of<|cC ⟨.bl<|!c,H1,I1,rfl,d⟩
abbrev ON (t:TT)(ta tb:TE):TE:=λσ H Q=>t σ H λc H1=>if c=true then ta σ H1 Q else tb σ H1 Q
def BY(hc:PT X c tA)(j:PE X a ta)(J:PE X b tb):PE X (.IfExp c a b pos) (ON tA ta tb):=by
 kt_k;refine wpAny_IfExp (iP (hc pins s σ H _ I h) λd f ⟨H1,I1,e⟩=>?_)
 cases d with
 | true=>exact j pins f σ H1 Q I1 e
 | false=>exact J pins f σ H1 Q I1 e
end
abbrev kr (K:aq)(H:Hp)(a:aj)(xs:List V):Prop:=
 Rd H a (.lst xs) \/
  ∃(o:Obj) (c:Array aa) (n:Nat),K.lookup a=some o/\o.cls=.type "list" /\ o.dict=none/\o.data=.seq c n/\c.size<=sizeLine/\Vals xs c.toList
abbrev jT (K:aq)(H:Hp)(a:aj)(xs:List V):Prop:=
 Rd H a (.tup xs) \/
  ∃(o:Obj) (c:Array aa) (n:Nat),K.lookup a=some o/\o.cls=.type "tuple" /\ o.dict=none/\o.data=.seq c n/\c.size<=sizeLine/\Vals xs c.toList
abbrev MW:aa->Option V
 | .none=>some .non
 | .bool b=>some (.bl b)
 | .int i _=>some (.int i)
 | .str x _=>some (.str x)
 | .bytes b _=>some (.byt b)
 | .float b _=>some (.flt b)
 | .ref a=>some (.ref a)
 | .type n=>some (.ty n)
 | _=>none
def RelV.abs{x:V}(r:RelV x u):MW u=some x:=by
 cases x with
 | non=>cases r;rfl
 | bl _=>cases r;rfl
 | int _=>obtain⟨t,rfl⟩:=r;rfl
 | str _=>obtain⟨t,rfl⟩:=r;rfl
 | byt _=>obtain⟨t,rfl⟩:=r;rfl
 | flt _=>obtain⟨t,rfl⟩:=r;rfl
 | ref _=>cases r;rfl
 | ty _=>cases r;rfl
def RelV.inj{x:V}(r:RelV x u)(q:RelV y u):x=y:=aX<|r.abs.symm.trans q.abs
theorem Vals.inj:∀{xs ys:List V}{us:ba},Vals xs us->Vals ys us->xs=ys
 | _,_,_,.nil,.nil=>rfl
 | _,_,_,.cons r t,.cons d c=>by rw[r.inj d,Vals.inj t c]
section
variable {X:Cx}{pins:bp}{σ:St}{H:Hp}{s:aA}{a:aj}{xs ys:List V}
def kr.of{K:aq}(h:H a=some (.lst xs)):kr K H a xs:=.inl<|.inl h
def jT.of{K:aq}(h:H a=some (.tup xs)):jT K H a xs:=.inl<|.inl h
def Inv.list(I:Inv X pins σ H s)(h:kr X.K H a xs):∃its:ba,Vals xs its/\PlainL s.heap a its.toArray/\xs.length<=sizeLine:=by
 rcases h with h|⟨o,its,n,c,hc,hd,hs,d,r⟩
 ·obtain⟨z,its,n,r,e⟩:=h.ok I.hok;exact⟨its,r,⟨_,n,e,rfl,rfl,rfl⟩,z⟩
 ·refine⟨its.toList,r,⟨o,n,I.uC a o c,hc,hd,by simpa using hs⟩,?_⟩;have e:=r.length;dsimp[bA]at e
  lia
def Inv.tuple(I:Inv X pins σ H s)(h:jT X.K H a xs):∃its:ba,Vals xs its/\IsTup s.heap a its.toArray/\xs.length<=sizeLine:=by
 rcases h with h|⟨o,its,n,c,hc,_,hs,d,r⟩
 ·obtain⟨z,its,r,p⟩:=h.ok I.hok;exact⟨its,r,p.tup,z⟩
 ·refine⟨its.toList,r,⟨o,I.uC a o c,hc,n,by simpa using hs⟩,?_⟩;have e:=r.length;dsimp[bA]at e
  lia
def Inv.DE(I:Inv X pins σ H s)(h:kr X.K H a xs)(h':kr X.K H a ys):xs=ys:=by
 obtain⟨f,r,⟨o,n,e,_,_,d⟩,_⟩:=I.list h;obtain⟨c,m,⟨o',p,g,_,_,j⟩,_⟩:=I.list h';rw[e]at g;cases g;rw[d]at j
 injection j with k _
 have:f=c:=by simpa using bQ Array.toList k
 subst this;exact r.inj m
def Inv.rZ(I:Inv X pins σ H s)(h:jT X.K H a xs)(h':jT X.K H a ys):xs=ys:=by
 obtain⟨f,r,⟨o,e,_,n,d⟩,_⟩:=I.tuple h;obtain⟨c,m,⟨o',g,_,p,j⟩,_⟩:=I.tuple h';rw[e]at g;cases g;rw[d]at j
 injection j with k _
 have:f=c:=by simpa using bQ Array.toList k
 subst this;exact r.inj m
end
meta abbrev Cx.rK (X:Cx)(E:aa->aA->Prop):Cx:={ X with xe:=E }
meta abbrev Cx.LD (X:Cx):Cx:=X.rK λ_ _=>False
def Cx.Ok.rK{X:Cx}(ok:X.Ok)(E:aa->aA->Prop):(X.rK E).Ok:=
 ⟨ok.mod,ok.kind,ok.glob,ok.blt,ok.above,ok.inj,ok.has,ok.cab,ok.hd,ok.frames,ok.stk,ok.exf,ok.bs,ok.bsz,ok.noex,ok.exfs,ok.qw,ok.frf⟩
def Cx.Ok.lF{X:Cx}{E:aa->aA->Prop}(ok:(X.rK E).Ok):X.Ok:=
 ⟨ok.mod,ok.kind,ok.glob,ok.blt,ok.above,ok.inj,ok.has,ok.cab,ok.hd,ok.frames,ok.stk,ok.exf,ok.bs,ok.bsz,ok.noex,ok.exfs,ok.qw,ok.frf⟩
section
variable {X:Cx}{pins:bp}{σ:St}{H:Hp}{s:aA}{E:aa->aA->Prop}
def Inv.rK(I:Inv X pins σ H s)(E:aa->aA->Prop):Inv (X.rK E) pins σ H s:=⟨I.ok.rK E,I.os,I.bare,I.base,I.loc,I.cell,I.free,I.freeC,I.pin,I.hok,I.len⟩
def Inv.lF(I:Inv (X.rK E) pins σ H s):Inv X pins σ H s:=⟨I.ok.lF,I.os,I.bare,I.base,I.loc,I.cell,I.free,I.freeC,I.pin,I.hok,I.len⟩
def SP.lF{f:Flow}(h:SP (X.rK E) pins D f s'):SP X pins D f s':=by
 cases f with
 | next=>obtain⟨c,H',I,q⟩:=h;exact⟨c,H',I.lF,q⟩
 | brk=>obtain⟨c,H',I,q⟩:=h;exact⟨c,H',I.lF,q⟩
 | cont=>obtain⟨c,H',I,q⟩:=h;exact⟨c,H',I.lF,q⟩
 | ret u=>obtain⟨v,c,H',I,r,q⟩:=h;exact⟨v,c,H',I.lF,r,q⟩
def ue.LD{st:List aE}{t:TS}(h:ue X.LD st t):ue X st t:=λpins s σ H D I hw=>
 fS (h pins s σ H D (I.rK _) hw) (λ_ _ q=>q.lF) λ_ _ z=>False.elim z
end
section
variable {X:Cx}{st:aE}{rest:List aE}{t u:TS}{e:aC}{te:TE}{pos:Pos}
abbrev L5:TS:=λD σ H=>D.nx σ H
abbrev LY (t u:TS):TS:=λD σ H=>t { D with nx:=u D } σ H
def E3:ue X [] L5:=λ_ _ σ H _ I h=>fH ⟨σ,H,I,h⟩
def Ez(h1:PS X st t)(j:ue X rest u):ue X (st::rest) (LY t u):=by
 kpc_g;refine wpAny_execs_cons (iP (h1 pins s σ H { D with nx:=u D } I h) λf d q=>?_)
 cases f with
 | next=>
  obtain⟨c,H',e,q⟩:=q;exact j pins d c H' D e q
 | ret v=>exact q
 | brk=>exact q
 | cont=>exact q
def EU(h1:PS X st t):ue X [st] t:=by
 kpc_g;refine wpAny_execs_cons (iP (h1 pins s σ H D I h) λf c q=>?_)
 cases f with
 | next=>exact fH q
 | ret v=>exact q
 | brk=>exact q
 | cont=>exact q
def Inv.quiet{H:Hp}(I:Inv X pins σ H s):interactive X.env=false:=by simp[interactive,I.ok.kind]
abbrev LW (te:TE):TS:=λD σ H=>te σ H λ_ H1=>D.nx σ H1
def Gg(j:PE X e te)(hs:swapsWith e none pos.line X.env=pure false<|>ε):PS X (.Expr e pos) (LW te):=by
 kpc_g;exact wpAny_Expr_any (iP (j pins s σ H _ I h) λv d ⟨x,H1,I1,r1,c⟩=>⟨σ,H1,I1,c⟩) I.quiet hs
abbrev MU (te:TE):TS:=λD σ H=>te σ H D.rt
def II(j:PE X e te):PS X (.Return (some e) pos) (MU te):=by
 kpc_g;exact wpAny_Return_some<|iP (j pins s σ H _ I h) λv d ⟨x,H1,I1,r1,c⟩=>⟨x,σ,H1,I1,r1,c⟩
abbrev Np (c:TT)(t u:TS):TS:=λD σ H=>c σ H λb H1=>if b=true then t D σ H1 else u D σ H1
def KP{a b:List aE}{tc:TT}(hc:PT X c tc)(j:ue X a t)(J:ue X b u):PS X (.If c a b pos) (Np tc t u):=by
 kpc_g;refine wpAny_If (iP (hc pins s σ H _ I h) λd f ⟨H1,I1,e⟩=>?_)
 cases d with
 | true=>exact j pins f σ H1 D I1 e
 | false=>exact J pins f σ H1 D I1 e
abbrev HG:TS:=λ_ _ _=>False
def Cc:PS X st HG:=λ_ _ _ _ _ _ h=>h.elim
end
meta abbrev TG:=V->St->Hp->(St->Hp->Prop)->Prop
meta abbrev Gz:=List V->St->Hp->(St->Hp->Prop)->Prop
abbrev PG (X:Cx)(j:aC)(t:TG):Prop:=
 ∀(pins:bp) (s:aA) (σ:St) (H:Hp) (v:V) (u:aa) (Q:St->Hp->Prop),Inv X pins σ H s->RelV v u->t v σ H Q ->
  wpAny (model X.prog X.w) X.A (assign j X.env u) (λ_ s'=>∃c H',Inv X pins c H' s'/\Q c H') X.xe s
abbrev K_ (X:Cx)(ts:List aC)(t:Gz):Prop:=
 ∀(pins:bp) (s:aA) (σ:St) (H:Hp) (d:List V) (us:ba) (Q:St->Hp->Prop),Inv X pins σ H s->Vals d us->t d σ H Q ->
  wpAny (model X.prog X.w) X.A (assignInOrder ((assignEach ts X.env).map (·.2)) us) (λ_ s'=>∃c H',Inv X pins c H' s'/\Q c H') X.xe s
meta abbrev FA:=V->V->V->Hp->(Hp->Prop)->Prop
abbrev JQ (X:Cx)(t:FA):Prop:=
 ∀(pins:bp) (s:aA) (σ:St) (H:Hp) (o i v:V) (c iv u:aa) (Q:Hp->Prop),Inv X pins σ H s->RelV o c->RelV i iv->RelV v u->t o i v H Q ->
  wpAny (model X.prog X.w) X.A (setItem c iv u) (λ_ s'=>∃H',Inv X pins σ H' s'/\Q H') X.xe s
meta abbrev My:=V->V->Hp->VK->Prop
abbrev MR (X:Cx)(j:Operator)(t:My):Prop:=
 ∀(pins:bp) (s:aA) (σ:St) (H:Hp) (x y:V) (v u:aa) (Q:VK),Inv X pins σ H s->RelV x v->RelV y u->t x y H Q ->
  wpAny (model X.prog X.w) X.A (inplaceOp j v u) (EP X pins σ Q) X.xe s
section
variable {X:Cx}{pos:Pos}
abbrev DK (i:Nat):TG:=λv σ H Q=>Q (σ.set i<|some v) H
def yt{i:Nat}{x:Str}(j:X.N.Nodup)(hi:X.N[i]?=some x)(J:Loc X.env.scope x)(hf:X.fn x=true\/X.env.scope.names.lookup x=some .local<|>γ):PG X (.Name x pos) (DK i):=by
 intro pins s σ H v u Q I r h;exact wpAny_assign_Name<|qW I j hi J r (λs' c=>⟨_,H,c,h⟩) hf
abbrev Nt:Gz:=λc σ H Q=>c=[]/\Q σ H
abbrev LR (t:TG)(u:Gz):Gz:=λd σ H Q=>∃v r,d=v::r/\t v σ H λc H'=>u r c H' Q
def Fc:K_ X [] Nt:=by
 intro pins s σ H c us Q I r h;obtain⟨e,h⟩:=h;subst e
 cases r
 exact assignInOrder_nil ⟨σ,H,I,h⟩
def Er{t:TG}{u:Gz}(h1:PG X e t)(J:K_ X es u)
  (hs:(assignEach (e::es) X.env).map (·.2)=assign e X.env::(assignEach es X.env).map (·.2)<|>ε):K_ X (e::es) (LR t u):=by
 intro pins s σ H j us Q I r h;obtain⟨v,k,e1,h⟩:=h;subst e1
 cases r with
 | cons r f=>
  rw[hs];refine assignInOrder_cons<|iP (h1 pins s σ H _ _ _ I r h) λ_ g ⟨c,H1,I1,d⟩=>?_;exact J pins g c H1 _ _ Q I1 f d
abbrev Na (K:aq)(n:Nat)(t:Gz):TG:=λv σ H Q=>∃a xs,v=.ref a/\jT K H a xs/\xs.length=n/\t xs σ H Q
def IG{k:Nat}{t:Gz}{n:Nat}(hc:X.calm=true)(h:K_ X es t)
  (hn:(assignEach es X.env).length=n<|>ε) (J:(assignEach es X.env).findIdx? (·.1)=none<|>ε):PG X (.Tuple es k pos) (Na X.K n t):=by
 intro pins s σ H v u Q I r hw;obtain⟨a,xs,e1,j,f,hw⟩:=hw;subst e1
 cases r
 obtain⟨d,c,g,p⟩:=I.tuple j;refine assign_Tuple_tuple (I.ok.hd hc) g (by simp[hn,<- f,c.length]) J λh' m=>?_;have I1:Inv X pins σ H { s with heap:=h' }:=I.kept (t':=s.toks) λb o e=>m b o (bw<|bf e) e;exact h pins _ σ H xs _ Q I1 (by simpa using c) hw
abbrev MN (to j:TE)(t:FA):TG:=λv σ H Q=>to σ H λo H1=>j σ H1 λi H2=>t o i v H2 λc=>Q σ c
def HK{to J:TE}{t:FA}(L:PE X o to)(hi:PE X i J)(hs:JQ X t)
  (M:(∀v,assign (.Subscript o i pos) X.env v=(do
   let ov <- holding [v] (eval o X.env)
   let iv <- holding [v,ov] (eval i X.env)
   standAt pos
   holding [v,ov,iv] (setItem ov iv v)
   release [v,ov,iv] []))<|>ζ):PG X (.Subscript o i pos) (MN to J t):=by
 intro pins s σ H v u Q I r h;rw[M];refine aF<|cP<|iP (L pins s σ H _ I h) λov m ⟨x,H1,I1,r1,d⟩=>?_;refine aF<|cP<|iP (hi pins m σ H1 _ I1 d) λiv f ⟨y,H2,e,r2,c⟩=>?_;refine aF<|wpAny_standAt<|aF<|cP<|iP (hs pins f σ H2 x y v ov iv u _ e r1 r2 r c) λ_ p ⟨j,g,k⟩=>?_;exact wpAny_release ⟨σ,j,g,k⟩
abbrev FT (te:TE)(g:TG):TS:=λD σ H=>te σ H λx H1=>g x σ H1 D.nx
def IL{tg:aC}{te:TE}{g:TG}(j:PE X e te)(hg:PG X tg g)(hs:swapsWithSole [tg] e pos.line X.env=pure false<|>ε)(hw:swappedStores [tg] e X.env=pure none<|>ε)
  (h1:(assignEach [tg] X.env).map (·.2)=[assign tg X.env]<|>ε):PS X (.Assign [tg] e pos) (FT te g):=by
 kpc_g;refine wpAny_Assign_stores (iP (j pins s σ H _ I h) λv d ⟨x,H1,I1,r1,c⟩=>?_) hs hw;rw[h1];exact iP (hg pins d σ H1 x v _ I1 r1 c) λ_ f q=>q
def HJ{i:Nat}{x:Str}{te:TE}(j:X.N.Nodup)(hi:X.N[i]?=some x)(J:Loc X.env.scope x)(L:PE X e te)(hs:(swapsWith e (some<|.Name x pos') pos.line X.env=pure false)<|>ε)(hf:X.fn x=true\/X.env.scope.names.lookup x=some .local<|>γ) :
  PS X (.Assign [.Name x pos'] e pos) (FT te<|DK i):=by
 kpc_g;refine wpAny_Assign_Name (iP (L pins s σ H _ I h) λv g ⟨y,H1,I1,r1,c⟩=>?_) hs;exact qW I1 j hi J r1 (λf d=>⟨_,H1,d,c⟩) hf
abbrev Nk (i:Nat)(te:TE)(j:My):TS:=λD σ H=>∃x,σ[i]?=some (some x)/\te σ H λy H1=>j x y H1 λz H2=>D.nx (σ.set i<|some z) H2
def Jx{i:Nat}{x:Str}{te:TE}{Z:My}(hN:X.N.Nodup)(hi:X.N[i]?=some x)(U:Loc X.env.scope x)(he:PE X e te)(ho:MR X op Z)(hf:X.fn x=true\/X.env.scope.names.lookup x=some .local<|>γ) :
  PS X (.AugAssign (.Name x pos') op e pos) (Nk i te Z):=by
 kpc_g;obtain⟨v,e1,h⟩:=h;obtain⟨m,hn,G⟩:=I.loc;have p:Kh X.env.scope x:=by rcases U with k|k;exact .inl k;exact .inr (.inl k)
 obtain⟨u,r,l⟩:=G i x v hi e1 p;refine wpAny_AugAssign_Name ?_;have q:wpAny (model X.prog X.w) X.A (eval e X.env) (λw j=>wpAny (model X.prog X.w) X.A (inplaceOp op u w) (λr g=>wpAny (model X.prog X.w) X.A (storeName X.env x r) (λ_=>SP X pins D .next) X.xe g) X.xe j) X.xe s:=by
  refine iP (he pins s σ H _ I h) λw L ⟨y,H1,I1,r1,F⟩=>?_;refine iP (ho pins L σ H1 v y u w _ I1 r r1 F) λz O ⟨P,H2,J,r2,B⟩=>?_;exact qW J hN hi U r2 (λM K=>⟨_,H2,K,B⟩) hf
 rcases l with⟨d,C⟩|⟨d,c,hc,f⟩
 ·exact wpAny_loadName_local I.ok.kind d hn C q
 ·rcases d with d|d
  ·exact wpAny_loadName_cell I.ok.kind d hc f q
  ·rcases U with k|k
   ·have:X.env.scope.names.lookup x=some .free:=d;rw[k]at this;cases this
   ·have:X.env.scope.names.lookup x=some .free:=d;rw[k]at this;cases this
end
section
variable {X:Cx}{pos:Pos}
abbrev Jv (c:TT)(tb:TS):TS:=λD σ H=>∃W:Nat->St->Hp->Prop,(∃m,W m σ H)/\∀m σ H,W m σ H ->
 c σ H λb H1=>if b=true then ∃N:St->Hp->Prop,(∀d H',N d H'->∃e,e<m/\W e d H')/\tb { D with nx:=N,ct:=N,bk:=D.nx } σ H1 else D.nx σ H1
def Ba{tc:TT}{tb:TS}(U:PassesOwn (model X.prog X.w) X.A X.env X.xe)(hc:PT X c tc)(Z:ue X body tb):PS X (.While c body [] pos) (Jv tc tb):=by
 kpc_g;obtain⟨W,⟨O,L⟩,turn⟩:=h;refine wpAny_While<|codeAny_whileLoop (λn s'=>∃g H',Inv X pins g H' s'/\W n g H') ?_ O ⟨σ,H,I,L⟩;rintro n P ⟨e,H1,I1,M⟩;refine dh U (iP (hc pins P e H1 _ I1<|turn n e H1 M) λb K ⟨H2,J,k⟩=>?_)
 cases b with
 | true=>
  obtain⟨N,G,k⟩:=k;rw[aJ rfl];refine dh U (iP (Z pins K e H2 _ J k) λf T m=>?_)
  cases f with
  | next=>
   obtain⟨d,j,q,C⟩:=m;obtain⟨F,p,B⟩:=G d j C;exact⟨F,p,d,j,q,B⟩
  | cont=>
   obtain⟨d,j,q,C⟩:=m;obtain⟨F,p,B⟩:=G d j C;exact⟨F,p,d,j,q,B⟩
  | brk=>exact m
  | ret v=>exact m
 | false=>
  rw[aI bE];exact fH ⟨e,H2,J,k⟩
end
structure It where
 go:Nat->Hp->Prop
 yld:Nat->Hp->V->Hp->Prop
 stop:Nat->Hp->Prop
abbrev o4 (X:Cx)(pins:bp)(H:Hp)(b:aj):Prop:=
 H b=none/\b≠X.env.locals/\b∉X.fs/\(b∈X.ex\/X.s₀.heap.objs.size<=b)/\(∀x c,X.env.cells.lookup x=some c->c≠b)/\∀p∈X.pn++pins,p.1≠b
def Inv.AY{H H':Hp}{s:aA}{b:aj}(I:Inv X pins σ H s)(j:s.heap.objs.size<=b)(hn:H' b=none):o4 X pins H' b:=by
 refine⟨hn,gh<|bB I.lt j,I.M4 j,.inr<|bU I.sz j,λx c e z=>?_,λp d z=>?_⟩
 ·obtain⟨v,q⟩:=I.cell x c e;exact absurd (bB q.lt<|by rw[z];exact j) (eO _)
 ·exact absurd (bB (bf (I.pin p d).1)<|by rw[z];exact j)<|eO _
structure Turn (P:ah)(w:af)(K:aq)(tg:aC)(J:It)(fp:bb)(it:aj)(tn:Nat->ak->Prop):Prop where
 mem:it∈fp
 obj:∀i h,tn i h->∀b∈fp,∃o,h.get? b=some o/\∀v,o.data≠.cell v
 keep:∀i h h',tn i h->(∀b∈fp,∀o,h.get? b=some o->h'.get? b=some o)->tn i h'
 item:∀(X:Cx),X.prog=P->X.w=w->X.K=K->X.calm=true->∀(i:Nat) (pins:bp) (s:aA) (σ:St) (H:Hp) (E:aa->aA->Prop),Inv X pins σ H s->(∀b∈fp,o4 X pins H b)->tn i s.heap->J.go i H ->
  wpAny (model P w) X.A (pyNext<|.ref it) (λr s1=>∃u,r=some u /\
   wpAny (model P w) X.A (letOwnedTupleGo tg (.ref it) u) (λ_ s2=>∃x H',Inv X pins σ H' s2/\RelV x u/\J.yld i H x H'/\tn (i+1) s2.heap/\∀b∈fp,H' b=none) E s1) E s
 done:∀(X:Cx),X.prog=P->X.w=w->X.K=K->X.calm=true->∀(i:Nat) (pins:bp) (s:aA) (σ:St) (H:Hp) (E:aa->aA->Prop),Inv X pins σ H s->(∀b∈fp,o4 X pins H b)->tn i s.heap->J.stop i H ->
  wpAny (model P w) X.A (pyNext<|.ref it) (λr s1=>r=none/\Inv X pins σ H s1) E s
 self:∀(A:az) (i:Nat) (s:aA) (Q:aa->aA->Prop) (E:aa->aA->Prop),tn i s.heap->Q (.ref it) s->wpAny (model P w) A (pyIter<|.ref it) Q E s
meta abbrev TI:=St->Hp->(It->Hp->Prop)->Prop
abbrev NI (X:Cx)(pins:bp)(σ:St)(tg:aC)(R:It->Hp->Prop)(j:aa)(L:aA):Prop:=
 ∃(it:aj) (fp:bb) (c:Nat->ak->Prop) (J:It) (H':Hp),j=.ref it/\Inv X pins σ H' L/\Turn X.prog X.w X.K tg J fp it c/\c 0 L.heap/\(∀b∈fp,o4 X pins H' b)/\R J H'
abbrev PI (X:Cx)(tg iter:aC)(j:TI):Prop:=
 ∀(pins:bp) (s:aA) (σ:St) (H:Hp) (R:It->Hp->Prop),Inv X pins σ H s->j σ H R ->
  wpAny (model X.prog X.w) X.A (eval iter X.env) (λv c=>wpAny (model X.prog X.w) X.A (pyIter v) (NI X pins σ tg R) X.xe c) X.xe s
def vD{A:az}{E:aa->aA->Prop}{s:aA}{o:Obj}{n:String}{Q:Unit->aA->Prop}(J:s.heap.get? it=some o)(hc:o.cls=.type n)(hd:o.data=.fields vs)
  (hn:["enumerate", "zip", "dict_itemiterator", "dict_reverseitemiterator", "odict_iterator", "itertools.zip_longest", "itertools.pairwise"].contains n=false) (j:Q Unit.unit s):wpAny M A (letOwnedTupleGo tg (.ref it) u) Q E s:=by
 unfold letOwnedTupleGo
 cases tg<;>first
  | exact aH j
  | (cases u<;>first
    | exact aH j
    | (refine aF (wpAny_load J ?_)
       rw[hc,hd];show wpAny M A (if (["enumerate", "zip", "dict_itemiterator", "dict_reverseitemiterator", "odict_iterator", "itertools.zip_longest", "itertools.pairwise"].contains n && vs[0]? == some (rawInt _))=true then _ else _) Q E s;rw[aI<|by intro h;rw[hn,Bool.false_and]at h;cases h];exact aH j))
abbrev Mx (K:aq)(a:aj):It:=
 ⟨λi H=>∃xs x,kr K H a xs/\xs[i]?=some x,λi H x H'=>H'=H/\∀xs,kr K H a xs->xs[i]?=some x,λi H=>∃xs,kr K H a xs/\xs.length<=i⟩
abbrev MQ (K:aq)(a:aj):It:=
 ⟨λi H=>∃xs x,jT K H a xs/\xs[i]?=some x,λi H x H'=>H'=H/\∀xs,jT K H a xs->xs[i]?=some x,λi H=>∃xs,jT K H a xs/\xs.length<=i⟩
abbrev Mr (lo:Int)(n:Nat):It:=⟨λi _=>i<n,λi H x H'=>H'=H/\x=.int (lo+i),λi _=>n<=i⟩
def z9{P:ah}{w:af}{K:aq}(a it:aj):Turn P w K tg (Mx K a) [it] it (λi h=>h.IsListIter it a i) where
 mem:=by simp
 obj:=λi h st b f=>by
  have e:b=it:=by simpa using f
  subst e;obtain⟨o,e,c,d⟩:=st;exact⟨o,e,λv z=>by rw[d]at z;cases z⟩
 keep:=λi h h' st k=>st.at λo e=>k it (by simp) o e
 item:=by
  w_up;subst hP hw hK;obtain⟨xs,x,j,B⟩:=hg;obtain⟨m,q,p,L⟩:=I.list j;obtain⟨u,J,C⟩:=q.get B;k_ne;refine wpAny_pyNext_list_item st p.isList (x:=u) (by simpa using J) λh' g G=>?_;have I1:Inv X pins σ H { s with heap:=h' }:=I.turned (t':=s.toks) (λb o f e=>(G.2 b f).trans e) f0 f1 f3 f4 f5;obtain⟨o,e,c,d⟩:=id g;exact⟨u,rfl,vD (s:={ s with heap:=h' }) e c d ⋯ ⟨x,H,I1,C,⟨rfl,λys hy=>by rw[I.DE hy j];exact B⟩,g,λb f=>(hf b f).1⟩⟩
 done:=by
  w_up;subst hP hw hK;obtain⟨xs,j,B⟩:=hg;obtain⟨m,q,p,L⟩:=I.list j;k_ne;have M:=q.length;exact wpAny_pyNext_list_end (I.ok.hd hc) st p.isList (by simp;omega) λh' F=>⟨rfl,I.turned (t':=s.toks) (λb o f e=>F b o f e) f0 f1 f3 f4 f5⟩
 self:=λ_ _ _ _ _ st h=>wpAny_pyIter_listiter st h
def xr{P:ah}{w:af}{K:aq}(a it:aj):Turn P w K tg (MQ K a) [it] it (λi h=>h.IsTupleIter it a i) where
 mem:=by simp
 obj:=λi h st b g=>by
  have e:b=it:=by simpa using g
  subst e;obtain⟨o,e,c,d⟩:=st;exact⟨o,e,λv z=>by rw[d]at z;cases z⟩
 keep:=λi h h' st k=>st.at λo e=>k it (by simp) o e
 item:=by
  w_up;subst hP hw hK;obtain⟨xs,x,m,B⟩:=hg;obtain⟨f,q,p,L⟩:=I.tuple m;obtain⟨u,J,C⟩:=q.get B;k_ne;refine wpAny_pyNext_tuple_item st (show s.heap.IsTuple a f.toArray from p) (x:=u) (by simpa using J) λh' j G=>?_;have I1:Inv X pins σ H { s with heap:=h' }:=I.turned (t':=s.toks) (λb o g e=>(G.2 b g).trans e) f0 f1 f3 f4 f5;obtain⟨o,e,c,d⟩:=id j;exact⟨u,rfl,vD (s:={ s with heap:=h' }) e c d ⋯ ⟨x,H,I1,C,⟨rfl,λys hy=>by rw[I.rZ hy m];exact B⟩,j,λb g=>(hf b g).1⟩⟩
 done:=by
  w_up;subst hP hw hK;obtain⟨xs,m,B⟩:=hg;obtain⟨f,q,p,L⟩:=I.tuple m;k_ne;have M:=q.length;exact wpAny_pyNext_tuple_end (I.ok.hd hc) st (show s.heap.IsTuple a f.toArray from p) (by simp;omega) λh' F=>⟨rfl,I.turned (t':=s.toks) (λb o g e=>F b o g e) f0 f1 f3 f4 f5⟩
 self:=λ_ _ _ _ _ st h=>wpAny_pyIter_tupleiter st h
def xC{P:ah}{w:af}{K:aq}(it:aj)(lo:Int)(n:Nat):Turn P w K tg (Mr lo n) [it] it (λi h=>IsRangeIter h it (lo+(i:Nat) * 1) ((n:Int)-(i:Nat)) 1) where
 mem:=by simp
 obj:=λi h st b c=>by
  have e:b=it:=by simpa using c
  subst e;exact⟨_,st,λv z=>by
   have f:Data.fields _=Data.cell v:=z
   cases f⟩
 keep:=λi h h' st k=>k it (by simp) _ st
 item:=by
  w_up;subst hP hw hK;k_ne;have W:=Walks.range (prog:=X.prog) (w:=X.w) (I.ok.hd hc) it lo 1 n;refine W.item i s _ _ hg st λv h' tk hv d j=>?_;obtain⟨t,rfl⟩:=hv;have I1:Inv X pins σ H { s with heap:=h',toks:=tk }:=I.turned (λb o c e=>j b o (by simpa using c) e) f0 f1 f3 f4 f5;refine⟨_,rfl,vD (s:={ s with heap:=h',toks:=tk }) (n := "range_iterator") d rfl rfl ⋯ ⟨.int<|lo+i,H,I1,⟨t,?_⟩,⟨rfl,rfl⟩,d,λb c=>(hf b c).1⟩⟩;rw[Int.mul_one]
 done:=by
  w_up;subst hP hw hK;k_ne;exact wpAny_pyNext_range_end (I.ok.hd hc) st (by have:n<=i:=hg;lia) λh' g=>⟨rfl,I.turned (t':=s.toks) (λb o c e=>g b o c e) f0 f1 f3 f4 f5⟩
 self:=λ_ _ _ _ _ st h=>wpAny_pyIter_rangeiter st h
section
variable {X:Cx}{tg:aC}
abbrev LV (K:aq)(tl:TE):TI:=λσ H R=>tl σ H λx H1=>∃a,x=.ref a/\(∃xs,kr K H1 a xs)/\R (Mx K a) H1
abbrev MF (K:aq)(tl:TE):TI:=λσ H R=>tl σ H λx H1=>∃a,x=.ref a/\(∃xs,jT K H1 a xs)/\R (MQ K a) H1
def zF{tl:TE}(J:PE X l tl):PI X tg l (LV X.K tl):=by
 intro pins s σ H R I h;refine iP (J pins s σ H _ I h) λv c ⟨x,H1,I1,r1,f⟩=>?_;obtain⟨a,e,⟨xs,j⟩,q⟩:=f;subst e
 cases r1
 obtain⟨d,k,p,m⟩:=I1.list j;refine f7 p.isList ?_;refine⟨c.heap.objs.size,[c.heap.objs.size],_,_,H1,rfl,I1.kept (t':=c.toks) λb o e=>aK _ e,z9 a _,⟨_,a_ _ rfl,rfl,rfl⟩,λb g=>?_,q⟩;have e:b=c.heap.objs.size:=by simpa using g
 subst e;kl_no
def DF{tl:TE}(J:PE X l tl):PI X tg l (MF X.K tl):=by
 intro pins s σ H R I h;refine iP (J pins s σ H _ I h) λv c ⟨x,H1,I1,r1,f⟩=>?_;obtain⟨a,e,⟨xs,j⟩,q⟩:=f;subst e
 cases r1
 obtain⟨d,k,p,m⟩:=I1.tuple j;refine wpAny_pyIter_tuple (show c.heap.IsTuple a d.toArray from p) ?_;refine⟨c.heap.objs.size,[c.heap.objs.size],_,_,H1,rfl,I1.kept (t':=c.toks) λb o e=>aK _ e,xr a _,⟨_,a_ _ rfl,rfl,rfl⟩,λb g=>?_,q⟩;have e:b=c.heap.objs.size:=by simpa using g
 subst e;kl_no
def Dk{H:Hp}{s:aA}{R:It->Hp->Prop}{E:aa->aA->Prop}{lo hi:Int}{v:Tok}{tk:Nat}(I:Inv X pins σ H s)(h1:-(2 ^ 62)<=lo)(j:lo<2 ^ 62)(J:-(2 ^ 62)<=hi)(L:hi<2 ^ 62)
  (q:R (Mr lo (hi-lo).toNat) H):wpAny (model X.prog X.w) X.A (pyIter<|.ref s.heap.objs.size) (NI X pins σ tg R) E { s with heap:=s.heap.push { cls:=.type "range",data:=.fields #[.int lo t,.int hi u,.int 1 v]},toks:=tk }:=by
 refine wpAny_pyIter_range (IsRange.new ..) (small_one h1 j J L) ?_;have I1:Inv X pins σ H { s with heap:=s.heap.push { cls:=.type "range",data:=.fields #[.int lo t,.int hi u,.int 1 v]},toks:=tk }:=I.kept λb o e=>aK _ e;refine⟨(s.heap.push { cls:=.type "range",data:=.fields #[.int lo t,.int hi u,.int 1 v]}).objs.size,[(s.heap.push { cls:=.type "range",data:=.fields #[.int lo t,.int hi u,.int 1 v]}).objs.size],_,_,H,rfl,
  I1.kept (t':=tk) λb o e=>aK _ e,xC _ lo (hi-lo).toNat,?_,λb c=>?_,q⟩
 ·have e1:lo+((0:Nat):Int) * 1=lo:=by simp
  have e2:(((hi-lo).toNat:Nat):Int)-((0:Nat):Int)=Builtin.Range.rangeSize lo hi 1:=by rw[rangeSize_one];split<;>lia
  skip
  rw[e1,e2];exact a_ _ rfl
 ·have e:b=(s.heap.push { cls:=.type "range",data:=.fields #[.int lo t,.int hi u,.int 1 v]}).objs.size:=by simpa using c
  subst e;kl_no
abbrev o9 (ta:TA):TI:=λσ H R=>ta σ H λc H1=>∃j:Int,c=[.int j]/\-(2 ^ 62)<=j/\j<2 ^ 62/\R (Mr 0 j.toNat) H1
def AA{a:aC}{ta:TA}{p:Pos}(hg:Gl X "range")(J:X.mg "range" = none)(L:PA X [a] ta)(hs:starEach [a] X.env=[(false,eval a X.env)]<|>ε):PI X tg (.Call (.Name "range" p) [a] [] pos) (o9 ta):=by
 intro pins s σ H R I h;refine Call_<|ql I hg J boot_range<|dZ (iP (L pos pins s σ H _ I h) λus k ⟨g,H1,I1,r1,c⟩=>?_) hs rfl;obtain⟨j,e,c,d,q⟩:=c;subst e
 cases r1 with
 | cons r f=>
  cases f
  obtain⟨t,rfl⟩:=r;exact call_range_1<|Dk I1 () () c d<|by simpa using q
abbrev MC (j:TI)(g:TG)(tb:TS):TS:=λD σ H=>j σ H λJ H1=>∃W:Nat->Nat->St->Hp->Prop,(∃m,W 0 m σ H1)/\∀i m σ H,W i m σ H ->
 (J.stop i H/\D.nx σ H)\/(J.go i H/\∃N:St->Hp->Prop,(∀c H',N c H'->∃e,e<m/\W (i+1) e c H')/\∀x H',J.yld i H x H'->g x σ H' λd H2=>tb { D with nx:=N,ct:=N,bk:=D.nx } d H2)
abbrev qX (fp:bb)(h:ak):bp:=fp.filterMap λb=>(h.get? b).map λo=>(b,o)
def jH{fp:bb}{h:ak}{b:aj}(j:b∈fp)(e:h.get? b=some o):(b,o)∈qX fp h:=List.mem_filterMap.mpr ⟨b,j,by rw[e];rfl⟩
def Ay{fp:bb}{h:ak}{p:aj×Obj}(j:p∈qX fp h):p.1∈fp/\h.get? p.1=some p.2:=by
 obtain⟨b,d,e⟩:=List.mem_filterMap.mp j
 cases q:h.get? b with
 | none=>rw[q]at e;cases e
 | some o=>
  rw[q]at e;have c:(b,o)=p:=aX e;subst c;exact⟨d,q⟩
def Inv.pinned{H:Hp}{s:aA}{fp:bb}(I:Inv X pins σ H s)(hf:∀b∈fp,o4 X pins H b)(j:∀b∈fp,∃o,s.heap.get? b=some o/\∀v,o.data≠.cell v):Inv X (pins++qX fp s.heap) σ H s:=
 I.yX λp g=>(bh.mp g).elim (λz=>I.pin p<|bD _ z) λz=>by
  obtain⟨f,e⟩:=Ay z;obtain⟨f0,f1,f2,_⟩:=hf p.1 f;obtain⟨o,c,d⟩:=j p.1 f;rw[e]at c;cases c;exact⟨e,f0,f1,f2,d⟩
def Inv.lA{pl:bp}{H:Hp}(I:Inv X (pins++pl) σ H s):Inv X pins σ H s:=I.yX λp c=>I.pin p<|bD _<|d9 _ c
def IM{iter:aC}{wi:TI}{g:TG}{tb:TS}(hp:PassesOwn (model X.prog X.w) X.A X.env X.xe)(hc:X.calm=true)(hi:PI X tg iter wi)(hg:PG X tg g)(hb:ue X body tb)
  (hs:(∀x,foldedSetIterable iter X.env x=pure x)<|>ζ):PS X (.For tg iter body [] pos) (MC wi g tb):=by
 kpc_g;refine wpAny_For (iP (hi pins s σ H _ I h) λv s1 h1=>iP h1 λitv s2 h2=>?_) hs;obtain⟨it,fp,tn,J,H2,e,I2,T,Y,f2,W,⟨m0,w0⟩,turn⟩:=h2;subst e;have q:∀{H':Hp},(∀b∈fp,H' b=none)->∀b∈fp,o4 X pins H' b:=λhn b hb=>⟨hn b hb,(f2 b hb).2⟩;refine codeAny_forLoop_any (λn s'=>∃i p H',Inv X pins p H' s'/\tn i s'.heap/\(∀b∈fp,H' b=none)/\W i n p H') ?_ m0 ⟨0,σ,H2,I2,Y,λb hb=>(f2 b hb).1,w0⟩;rintro n s3 ⟨i,k,P,I3,M,O,w3⟩
 rcases turn i n k P w3 with⟨L,qn⟩|⟨go,N,hN,step⟩
 ·refine dh hp<|iP (T.done X rfl rfl rfl hc i pins s3 k P X.xe I3 (q O) M L) λr s4 ⟨V,I4⟩=>?_;subst V;exact fH ⟨k,P,I4,qn⟩
 ·refine dh hp<|iP (T.item X rfl rfl rfl hc i pins s3 k P X.xe I3 (q O) M go) λr s4 ⟨u,V,h4⟩=>?_;subst V;refine dh hp<|iP h4 λ_ s5 ⟨x,H5,I5,r5,y5,G,Z⟩=>?_;have I5':=I5.pinned (q Z)<|T.obj _ _ G;refine dh hp<|iP (hg _ s5 k H5 x u _ I5' r5<|step x H5 y5) λ_ s6 ⟨U,H6,I6,q6⟩=>?_;refine dh hp<|iP (hb _ s6 U H6 _ I6 q6) λf s7 F=>?_;have B:∀{c:St} {j:Hp},Inv X (pins++qX fp s5.heap) c j s7->N c j->∃m,m<n/\∃i p H',Inv X pins p H' s7/\tn i s7.heap/\(∀b∈fp,H' b=none)/\W i m p H':=λ{c j} C K=>by
   obtain⟨m',hm,w7⟩:=hN c j K;refine⟨m',hm,i+1,c,j,C.lA,T.keep _ _ _ G λb hb o e=>(C.pin (b,o)<|bD _<|bD _<|jH hb e).1,λb hb=>?_,w7⟩;obtain⟨o,e,d⟩:=T.obj _ _ G b hb;exact(C.pin (b,o)<|bD _<|bD _<|jH hb e).2.1
  cases f with
  | next=>obtain⟨c,j,C,K⟩:=F;exact B C K
  | cont=>obtain⟨c,j,C,K⟩:=F;exact B C K
  | brk=>obtain⟨c,j,C,F⟩:=F;exact⟨c,j,C.lA,F⟩
  | ret v=>obtain⟨x7,c,j,C,r7,F⟩:=F;exact⟨x7,c,j,C.lA,r7,F⟩
end
meta abbrev R2:=V->V->Hp->VK->Prop
abbrev jh (X:Cx)(f:aa->aa->Sem aa)(r:R2):Prop:=
 ∀(pins:bp) (s:aA) (σ:St) (H:Hp) (x y:V) (v u:aa) (Q:VK),Inv X pins σ H s->RelV x v->RelV y u->r x y H Q ->
  wpAny (model X.prog X.w) X.A (f v u) (EP X pins σ Q) X.xe s
abbrev Me (X:Cx)(f:aa->Sem aa)(r:V->Hp->VK->Prop):Prop:=
 ∀(pins:bp) (s:aA) (σ:St) (H:Hp) (x:V) (v:aa) (Q:VK),Inv X pins σ H s->RelV x v->r x H Q ->
  wpAny (model X.prog X.w) X.A (f v) (EP X pins σ Q) X.xe s
abbrev g7 (X:Cx)(f:aa)(r:List V->Hp->VK->Prop):Prop:=
 ∀(pins:bp) (s:aA) (σ:St) (H:Hp) (xs:List V) (us:ba) (Q:VK),Inv X pins σ H s->Vals xs us->r xs H Q ->
  wpAny (model X.prog X.w) X.A (call f us) (EP X pins σ Q) X.xe s
abbrev MV (X:Cx)(r:V->Hp->(Bool->Hp->Prop)->Prop):Prop:=
 ∀(pins:bp) (s:aA) (σ:St) (H:Hp) (x:V) (v:aa) (Q:Bool->Hp->Prop),Inv X pins σ H s->RelV x v->r x H Q ->
  wpAny (model X.prog X.w) X.A (truthy v) (TP X pins σ Q) X.xe s
abbrev K1 (r:R2)(ta tb:TE):TE:=λσ H Q=>ta σ H λx H1=>tb σ H1 λy H2=>r x y H2 Q
abbrev NR (r:V->Hp->VK->Prop)(ta:TE):TE:=λσ H Q=>ta σ H λx H1=>r x H1 Q
abbrev rI (C:Int->Int->Prop)(g:Int->Int->V):R2:=λx y H Q=>∃i j,x=.int i/\y=.int j/\C i j/\Q (g i j) H
abbrev Gy (g:Int->Int->V):R2:=λx y H Q=>∃i j,x=.int i/\y=.int j/\Q (g i j) H
abbrev rU (g:Int->V):V->Hp->VK->Prop:=λx H Q=>∃i,x=.int i/\Q (g i) H
section
variable {X:Cx}{a b:aC}{ta tb:TE}{pos:Pos}
def HB(j:PE X a ta)(J:PE X b tb){H:Hp}{R:V->V->Hp->Prop}(I:Inv X pins σ H s)
  (h:ta σ H λx H1=>tb σ H1 λy H2=>R x y H2) {Q:aa->aA->Prop} {f:aa->aa->Sem aa}
  (hf:∀v u s2 x y H2,Inv X pins σ H2 s2->RelV x v->RelV y u->R x y H2->wpAny (model X.prog X.w) X.A (f v u) Q X.xe s2) :
  wpAny (model X.prog X.w) X.A (eval a X.env) (λv s₁=>wpAny (model X.prog X.w) X.A (eval b X.env) (λu s₂=>wpAny (model X.prog X.w) X.A (f v u) Q X.xe s₂) X.xe s₁) X.xe s:=by
 refine iP (j pins s σ H _ I h) λv e ⟨x,H1,I1,r1,d⟩=>?_;refine iP (J pins e σ H1 _ I1 d) λu s2 ⟨y,H2,g,r2,c⟩=>?_;exact hf v u s2 x y H2 g r1 r2 c
def Lo{r:R2}(j:jh X (binaryOp op) r)(J:PE X a ta)(L:PE X b tb):PE X (.BinOp a op b pos) (K1 r ta tb):=by
 kt_k;exact wpAny_BinOp<|HB J L I h λv u c x y H2 d rx ry q=>j pins c σ H2 x y v u Q d rx ry q
def KN{r:V->Hp->VK->Prop}(j:Me X (unaryOp op) r)(J:PE X a ta):PE X (.UnaryOp op a pos) (NR r ta):=by
 kt_k;exact UnaryOp_<|iP (J pins s σ H _ I h) λv d ⟨x,H1,I1,r1,c⟩=>j pins d σ H1 x v Q I1 r1 c
def Mw{f:aa->aa->Sem aa}{C:Int->Int->Prop}{g:Int->Int->Int}
  (J:∀(i j:Int) (t u:Tok) (s:aA) (Q:aa->aA->Prop) (E:aa->aA->Prop),C i j->Q (.int (g i j) s.toks) { s with toks:=s.toks+1 }->wpAny (model X.prog X.w) X.A (f (.int i t)<|.int j u) Q E s) :
  jh X f (rI C λi j=>.int<|g i j):=by
 gp_on;obtain⟨i,j,rfl,rfl,hc,q⟩:=h;kd_p;obtain⟨c,rfl⟩:=ry;exact J i j t c s _ _ hc ⟨.int<|g i j,H,I.tok _,⟨_,rfl⟩,q⟩
def KW{f:aa->aa->Sem aa}{g:Int->Int->Int}
  (J:∀(i j:Int) (t u:Tok) (s:aA) (Q:aa->aA->Prop) (E:aa->aA->Prop),Q (.int (g i j) s.toks) { s with toks:=s.toks+1 }->wpAny (model X.prog X.w) X.A (f (.int i t)<|.int j u) Q E s) :
  jh X f (Gy λi j=>.int<|g i j):=by
 gp_on;obtain⟨i,j,rfl,rfl,q⟩:=h;kd_p;obtain⟨c,rfl⟩:=ry;exact J i j t c s _ _ ⟨.int<|g i j,H,I.tok _,⟨_,rfl⟩,q⟩
def Gh{f:aa->aa->Sem aa}{g:Int->Int->Bool}
  (J:∀(i j:Int) (t u:Tok) (s:aA) (Q:aa->aA->Prop) (E:aa->aA->Prop),Q (.bool<|g i j) s->wpAny (model X.prog X.w) X.A (f (.int i t)<|.int j u) Q E s) :
  jh X f (Gy λi j=>.bl<|g i j):=by
 gp_on;obtain⟨i,j,rfl,rfl,q⟩:=h;kd_p;obtain⟨c,rfl⟩:=ry;exact J i j t c s _ _ ⟨.bl<|g i j,H,I,rfl,q⟩
abbrev NC (i j:Int):Prop:=0<=j/\j<=1000000/\i.natAbs<2 ^ 64
abbrev ET (i j:Int):Prop:=(-(2 ^ 64)<i/\i<2 ^ 64)\/(-(2 ^ 64)<j/\j<2 ^ 64)
def ET.ok{i j:Int}(h:ET i j):IntMulOk i j:=by
 rcases h with⟨h1,c⟩|⟨h1,c⟩
 ·exact .of_left (intBits_le_64 h1 c)
 ·exact .of_right<|intBits_le_64 h1 c
def J2:jh X (binaryOp .Add) (Gy λi j=>.int<|i+j):=KW λ_ _ _ _ _ _ _ q=>add_int q
def JJ:jh X (binaryOp .Sub) (Gy λi j=>.int<|i-j):=KW λ_ _ _ _ _ _ _ q=>sub_int q
def HS:jh X (binaryOp .Mult) (rI ET λi j=>.int<|i * j):=Mw λ_ _ _ _ _ _ _ hc q=>mul_int q hc.ok
def Jf:jh X (binaryOp .Mod) (rI (λ_ j=>0<j) λi j=>.int<|i % j):=Mw λi j _ _ _ _ _ hc q=>by
 have h1:(0:Int)<j:=hc;exact mod_int' ()<|by rw[Int.fmod_eq_emod_of_nonneg i ()];exact q
def Ib:jh X (binaryOp .Pow) (rI NC λi j=>.int<|i ^ j.toNat):=Mw λ_ _ _ _ _ _ _ hc q=>pow_int_small hc.1 hc.2.1 hc.2.2 q
def OB{f:aa->Sem aa}{g:Int->Int}
  (j:∀(i:Int) (t:Tok) (s:aA) (Q:aa->aA->Prop) (E:aa->aA->Prop),Q (.int (g i) s.toks) { s with toks:=s.toks+1 }->wpAny (model X.prog X.w) X.A (f<|.int i t) Q E s) :
  Me X f (rU λi=>.int<|g i):=by
 intro pins s σ H x v Q I rx h;obtain⟨i,rfl,q⟩:=h;kd_p;exact j i t s _ _ ⟨.int<|g i,H,I.tok _,⟨_,rfl⟩,q⟩
def J7:Me X (unaryOp .USub) (rU λi=>.int<|-i):=OB λ_ _ _ _ _ q=>neg_int q
end
section
variable {X:Cx}{a b c:aC}{ta tb tc:TE}{pos:Pos}
def Hy{H:Hp}{Q:VK}{k:Bool}(I:Inv X pins σ H s)(q:Q (.bl k) H)(e:k=k'):EP X pins σ Q (.bool k') s:=by
 subst e;exact⟨.bl k,H,I,rfl,q⟩
def Lx:jh X (compareOp .Lt) (Gy λi j=>.bl<|decide<|i<j):=Gh λ_ _ _ _ _ _ _ q=>lt_int q
def Lz:jh X (compareOp .LtE) (Gy λi j=>.bl<|decide<|i<=j):=Gh λ_ _ _ _ _ _ _ q=>le_int q
def KY:jh X (compareOp .Gt) (Gy λi j=>.bl<|decide<|j<i):=Gh λ_ _ _ _ _ _ _ q=>gt_int q
def KI:jh X (compareOp .GtE) (Gy λi j=>.bl<|decide<|j<=i):=Gh λ_ _ _ _ _ _ _ q=>ge_int q
def An:jh X (compareOp .In) (λx y H Q=>∃i j,x=.str i/\y=.str j/\Q (.bl<|!(Builtin.Str.occurrences j i 0 j.length 1).isEmpty) H):=by
 gp_on;obtain⟨i,j,rfl,rfl,q⟩:=h;kd_p;obtain⟨c,rfl⟩:=ry;exact in_str<|Hy I q rfl
def B_(b:aC)(h:op≠.In<|>δ)(j:op≠.NotIn<|>δ):behindInMarks op b=false:=by
 have e1:(op == CmpOp.In)=false:=by cases op<;>first|rfl|exact absurd rfl h
 have e2:(op == CmpOp.NotIn)=false:=by cases op<;>first|rfl|exact absurd rfl j
 cases b<;>simp[behindInMarks,e1,e2]
def FF{j:CmpOp}{r:R2}(J:jh X (compareOp j) r)(L:PE X a ta)(M:PE X b tb)(U:behindInMarks j b=false):PE X (.Compare a [j] [b] pos) (K1 r ta tb):=by
 kt_k;exact wpAny_Compare1 (HB L M I h λv u c x y H2 d rx ry q=>J pins c σ H2 x y v u Q d rx ry q) U
abbrev GO (t:TE):TT:=λσ H Q=>t σ H λx H'=>∃k,x=.bl k/\Q k H'
def FG{J:CmpOp}{r:R2}(L:jh X (compareOp J) r)(M:PE X a ta)(U:PE X b tb)(Z:behindInMarks J b=false):PT X (.Compare a [J] [b] pos) (GO<|K1 r ta tb):=by
 kt_k;refine wpAny_isTrue_Compare1 (iP (M pins s σ H _ I h) λv C ⟨x,H1,I1,r1,g⟩=>iP (U pins C σ H1 _ I1 g) λu m ⟨y,H2,j,r2,d⟩=>
  iP (L pins m σ H2 x y v u _ j r1 r2 d) λc F ⟨z,q,p,f,k,e,B⟩=>?_) Z
 subst e
 cases f
 exact cC ⟨q,p,B⟩
abbrev D7 (r j:R2)(ta tb tc:TE):TE:=λσ H Q=>ta σ H λx H1=>tb σ H1 λy H2=>r x y H2 λz c=>∃k,z=.bl k /\
 (if k=true then tc σ c λd e=>j y d e Q else Q (.bl false) c)
def Eh{r r':R2}(ho:jh X (compareOp op) r)(ho':jh X (compareOp op') r')(ha:PE X a ta)(hb:PE X b tb)(hc:PE X c tc)
  (hm:lastMarks [op,op'] [b,c]=false<|>η):PT X (.Compare a [op,op'] [b,c] pos) (GO<|D7 r r' ta tb tc):=by
 kt_k;refine isTrue_chain (iP (ha pins s σ H _ I h) λv Y ⟨x,H1,I1,r1,J⟩=>test_link (iP (hb pins Y σ H1 _ I1 J) λu O ⟨y,H2,L,r2,m⟩=>
  iP (ho pins O σ H2 x y v u _ L r1 r2 m) λd F ⟨z,g,f,C,k,e,j⟩=>?_)) hm
 subst e
 cases C
 refine cC ?_
 cases k with
 | false=>
  obtain⟨k',G,B⟩:=j
  cases G
  exact ite_ff ⟨g,f,B⟩
 | true=>
  refine ite_tt<|test_last<|iP (hc pins F σ g _ f j) λV M ⟨q,P,p,K,T⟩=>iP (ho' pins M σ P y q u V _ p r2 K T) λd' s5 ⟨z2,U,Z,N,k2,e2,W⟩=>?_;subst e2
  cases N
  exact cC ⟨U,Z,W⟩
abbrev J5 (K:aq)(x:V)(H:Hp)(k:Bool):Prop:=
 match x with
 | .non=>k=false
 | .bl b=>k=b
 | .int i=>k=(i != 0)
 | .str y=>y.length<=sizeLine/\k=((y.length:Int) != 0)
 | .byt y=>y.size<=sizeLine/\k=((y.size:Int) != 0)
 | .ref p=>(∃xs,kr K H p xs/\k=!xs.isEmpty)\/(∃xs,jT K H p xs/\k=!xs.isEmpty)\/∃c,H p=some (.dK c)/\k=!c.isEmpty
 | _=>False
def xw{J:Type}{j:List<|J×V}{L:List<|J×aa}(r:KV j L):(!L.isEmpty)=!j.isEmpty:=by
 cases r<;>rfl
def qJ{xs:List V}{its:ba}(r:Vals xs its):(!its.toArray.isEmpty)=!xs.isEmpty:=by
 cases r<;>simp
def oB:(sizeLine:Nat)<2 ^ 63:=by rw[bS];decide
def HY:MV X (λx H Q=>∃k,J5 X.K x H k/\Q k H):=by
 intro pins s σ H x v Q I rx h;obtain⟨k,e,q⟩:=h;have G:=oB;have hs:sizeLine=16777216:=bS
 cases x with
 | non=>
  cases rx
  have c:k=false:=e;subst c;exact truthy_none ⟨H,I,q⟩
 | bl b=>
  cases rx
  have c:k=b:=e;subst c;exact cC ⟨H,I,q⟩
 | int i=>
  kd_p;have c:k=(i != 0):=e;subst c;exact PySem.P.truthy_int ⟨H,I,q⟩
 | str y=>
  kd_p;obtain⟨hy,c⟩:y.length<=sizeLine/\k=((y.length:Int) != 0):=e;subst c;exact PySem.P.truthy_str () ⟨H,I.tok _,q⟩
 | byt y=>
  kd_p;obtain⟨hy,c⟩:y.size<=sizeLine/\k=((y.size:Int) != 0):=e;subst c;exact PySem.W.truthy_bytes () ⟨H,I.tok _,q⟩
 | ref p=>
  cases rx
  have c:(∃xs,kr X.K H p xs/\k=!xs.isEmpty)\/(∃xs,jT X.K H p xs/\k=!xs.isEmpty)\/∃d,H p=some (.dK d)/\k=!d.isEmpty:=e
  rcases c with⟨xs,g,c⟩|⟨xs,g,c⟩|⟨d,g,c⟩
  ·subst c;obtain⟨B,r,pl,C⟩:=I.list g;have f:=r.length;exact wpAny_truthy_list pl.isList (by dsimp[aU];lia) ⟨H,I.tok _,by rw[qJ r];exact q⟩
  ·subst c;obtain⟨B,r,pl,C⟩:=I.tuple g;have f:=r.length;exact truthy_tuple pl (by dsimp[aU];lia) ⟨H,I.tok _,by rw[qJ r];exact q⟩
  ·subst c;obtain⟨C,F,j,r,m⟩:d.length<=sizeLine/\(p == sysModules)=false/\∃j,KV d j/\s.heap.DictOf (tN X.prog X.w) p j:=I.hok p _ g;have f:d.length=j.length:=Paired.length r;exact wpAny_truthy_dict F m () ⟨H,I.tok _,by rw[xw r];exact q⟩
 | _=>exact(show False from e).elim
def Dh(j:PE X a ta)(J:∀whole,isTrue a X.env whole=(do let v <- whole;standAt a.pos;holding [v] (truthy v))) :
  PT X a (λσ H Q=>ta σ H λx H'=>∃k,J5 X.K x H' k/\Q k H'):=by
 kt_k;exact isTrue_plain (iP (j pins s σ H _ I h) λv d ⟨x,H1,I1,r1,c⟩=>HY pins d σ H1 x v Q I1 r1 c)<|J _
def xG:jh X (binaryOp .Add) (λx y H Q=>∃i j,x=.str i/\y=.str j/\i.length+j.length<=sizeLine/\Q (.str<|i++j) H):=by
 gp_on;obtain⟨i,j,rfl,rfl,d,q⟩:=h;kd_p;obtain⟨c,rfl⟩:=ry;exact add_str (λc tk=>⟨.str<|i++j,H,I.tok _,⟨_,rfl⟩,q⟩) d
def vals1{x:V}(r:Vals [x] us):∃u,us=[u]/\RelV x u:=by
 cases r with
 | cons r1 r2=>cases r2;exact⟨_,rfl,r1⟩
def vals2{x:V}(r:Vals [x,y] us):∃u w',us=[u,w']/\RelV x u/\RelV y w':=by
 cases r with
 | cons r1 r2=>
  cases r2 with
  | cons c d=>cases d;exact⟨_,_,rfl,r1,c⟩
def De:g7 X (.builtin "abs") (λxs H Q=>∃i,xs=[.int i]/\Q (.int<|if i<0 then -i else i) H):=by
 gn_on;obtain⟨i,rfl,q⟩:=h;obtain⟨u,rfl,t,rfl⟩:=vals1 r;exact call_abs_int λu tk=>⟨.int<|if i<0 then -i else i,H,I.tok _,⟨_,rfl⟩,q⟩
def Ah(hc:X.calm=true):g7 X (.builtin "max") (λxs H Q=>∃i j,xs=[.int i,.int j]/\Q (.int<|if j>i then j else i) H):=by
 gn_on;obtain⟨i,j,rfl,q⟩:=h;obtain⟨u,d,rfl,⟨t,rfl⟩,⟨e,rfl⟩⟩:=vals2 r;refine max_two_ints (I.ok.hd hc) λh' tk k=>⟨_,H,I.kept k,?_,q⟩;by_cases c:j>i
 ·rw[aJ c,aJ c];exact⟨_,rfl⟩
 ·rw[aI c,aI c];exact⟨_,rfl⟩
def Ax(hc:X.calm=true):g7 X (.builtin "min") (λxs H Q=>∃i j,xs=[.int i,.int j]/\Q (.int<|if j<i then j else i) H):=by
 gn_on;obtain⟨i,j,rfl,q⟩:=h;obtain⟨u,d,rfl,⟨t,rfl⟩,⟨e,rfl⟩⟩:=vals2 r;refine min_two_ints (I.ok.hd hc) λh' tk k=>⟨_,H,I.kept k,?_,q⟩;by_cases c:j<i
 ·rw[aJ c,aJ c];exact⟨_,rfl⟩
 ·rw[aI c,aI c];exact⟨_,rfl⟩
def su:g7 X (.type "int") (λxs H Q=>(∃i,xs=[.int i]/\Q (.int i) H)\/∃k,xs=[.bl k]/\Q (.int<|if k then 1 else 0) H):=by
 gn_on
 rcases h with⟨i,rfl,q⟩|⟨k,rfl,q⟩
 ·obtain⟨u,rfl,t,rfl⟩:=vals1 r;exact call_int_int ⟨.int i,H,I,⟨_,rfl⟩,q⟩
 ·obtain⟨u,rfl,r1⟩:=vals1 r
  cases r1
  exact call_int_bool ⟨.int<|if k then 1 else 0,H,I.tok _,⟨_,rfl⟩,q⟩
def sY:g7 X (.type "str") (λxs H Q=>∃i,xs=[.int i]/\i.natAbs.log2<1920/\Q (.str<|toString i) H):=by
 gn_on;obtain⟨i,rfl,c,q⟩:=h;obtain⟨u,rfl,t,rfl⟩:=vals1 r;exact PySem.P.str_of_int c ⟨.str _,H,I.tok _,⟨_,rfl⟩,q⟩
abbrev MA (K:aq)(x:V)(H:Hp)(n:Nat):Prop:=
 match x with
 | .str y=>y.length<=sizeLine/\n=y.length
 | .byt y=>y.size<=sizeLine/\n=y.size
 | .ref p=>(∃xs,kr K H p xs/\n=xs.length)\/∃xs,jT K H p xs/\n=xs.length
 | _=>False
def B4:g7 X (.builtin "len") (λxs H Q=>∃x n,xs=[x]/\MA X.K x H n/\Q (.int n) H):=by
 gn_on;obtain⟨x,n,rfl,e,q⟩:=h;obtain⟨u,rfl,rx⟩:=vals1 r;have m:=oB;have hs:sizeLine=16777216:=bS
 cases x with
 | str y=>
  kd_p;obtain⟨hy,d⟩:y.length<=sizeLine/\n=y.length:=e;subst d;exact len_str () ⟨.int _,H,I.tok _,⟨_,rfl⟩,q⟩
 | byt y=>
  kd_p;obtain⟨hy,d⟩:y.size<=sizeLine/\n=y.size:=e;subst d;exact PySem.W.len_bytes () ⟨.int _,H,I.tok _,⟨_,rfl⟩,q⟩
 | ref p=>
  cases rx
  have d:(∃xs,kr X.K H p xs/\n=xs.length)\/∃xs,jT X.K H p xs/\n=xs.length:=e
  rcases d with⟨xs,j,d⟩|⟨xs,j,d⟩
  ·subst d;obtain⟨f,g,pl,k⟩:=I.list j;have c:=g.length;exact Calls.call_len_list pl.isList (by dsimp[aU];lia) ⟨.int xs.length,H,I.tok _,⟨_,by dsimp[aU];rw[c]⟩,q⟩
  ·subst d;obtain⟨f,g,pl,k⟩:=I.tuple j;have c:=g.length;exact len_tuple pl (by dsimp[aU];lia) ⟨.int xs.length,H,I.tok _,⟨_,by dsimp[aU];rw[c]⟩,q⟩
 | _=>exact(show False from e).elim
end
structure ObjM (h:ak)(x dx C:aj)(mA:Str->bi):Prop where
 obj:h.get? x=some (PySem.W.instObj C dx)
 ns:h.Ns1 dx mA
 ne:dx≠x
def Aa{h:ak}{J:Str->bi}(n:h.Ns1 dx J):∃od,h.get? dx=some od/\∀name,PySem.W.lookIn name od=some (J name):=by
 obtain⟨o,es,ep,g,hd,f,_,d⟩:=n;refine⟨o,g,λname=>?_⟩;have e:=d name;unfold nsFind findBy at e;rw[<- Array.find?_toList]at e;unfold PySem.W.lookIn;rw[hd];dsimp only;split
 ·rename_i y q;rw[q]at e;exact bQ some e
 ·rename_i q;rw[q]at e;have a:es.toList.any (·.refKey)=false:=by
   rw[List.any_eq_false];intro y hy;obtain⟨z,t,c⟩:=f y<|Array.mem_toList_iff.mp hy;simp[DictEntry.refKey,c]
  have j:¬es.toList.any (·.refKey)=true:=by rw[a];exact bE
  rw[aI j];exact bQ some e
def ObjM.look{x C:aj}{j:Str->bi}(I:ObjM h x dx C j):∃od,PySem.W.InstAt h x (PySem.W.instObj C dx) C (some od)/\∀name,PySem.W.lookIn name od=some (j name):=
 let⟨od,ho,hl⟩:=Aa I.ns
 ⟨od,⟨I.obj,rfl,rfl,ho⟩,hl⟩
section
variable {P:ah}{w:af}{H:Hp}{h:ak}{a C dx:aj}{fs:List (Str×V)}
def Ft(hok:pZ P w H h)(e:H a=some (.ins C dx fs)):∃mA,ObjM h a dx C mA/\(∀f,Ii (fs.lookup f)<|mA f)/\PySem.Within mA (fs.map (·.1))/\fs.length<=1000/\H dx=some (.own a):=by
 obtain⟨d,z,g,c,mA,n,r,q⟩:=(show i6 P w H h a (.ins C dx fs)from hok a _ e);exact⟨mA,⟨c,n,g⟩,r,q,z,d⟩
end
structure Cls (K:aq)(C:aj):Prop where
 pg:PySem.W.plainGet K C Str.empty=true
 hd:PySem.W.hasDictIn K C=true
 po:PySem.W.plainOver K C=true
 sa:PySem.W.findIn K (.ref C) "__setattr__" = some (some<|.builtin "object.__setattr__")
def Cls.get{K:aq}{C:aj}(c:Cls K C)(f:Str):PySem.W.plainGet K C f=true:=c.pg
section
variable {X:Cx}{pins:bp}{σ:St}{H:Hp}{s:aA}{A:az}{E:aa->aA->Prop}{Q:aa->aA->Prop}{c:aa}{b:Bool}
inductive TyOf (K:aq) (H:Hp):V->aa->Prop where
 | non:TyOf K H .non (.type "NoneType")
 | bl (x:Bool):TyOf K H (.bl x) (.type "bool")
 | int (i:Int):TyOf K H (.int i) (.type "int")
 | str (x:Str):TyOf K H (.str x) (.type "str")
 | flt (x:UInt64):TyOf K H (.flt x) (.type "float")
 | lst {a:aj} {xs:List V} (e:H a=some (.lst xs)):TyOf K H (.ref a) (.type "list")
 | frz {a:aj} {o:Obj} {xs:List V} (e:H a=some (.frz o<|.lst xs)):TyOf K H (.ref a) (.type "list")
 | tup {a:aj} {xs:List V} (e:H a=some (.tup xs)):TyOf K H (.ref a) (.type "tuple")
 | dK {a:aj} {kvs:List<|Key×V} (e:H a=some (.dK kvs)):TyOf K H (.ref a) (.type "dict")
 | dT {a:aj} {kvs:List<|List Key×V} (e:H a=some (.dT kvs)):TyOf K H (.ref a) (.type "dict")
 | ins {a C dx:aj} {fs:List<|Str×V} (e:H a=some (.ins C dx fs)) (cl:Cls K C) (ha:PySem.W.findIn K (.ref C) "__class__" = some (some<|.builtin "object.__class__"))
   (hn:PySem.W.specialIn K (.builtin "object.__class__") "__get__" = some (some<|.builtin "getset_descriptor.__get__")) (htk:PySem.W.takesIn K (.builtin "object.__class__")=some true)
   (hm:PySem.W.mroIn K C (.type "object")=some true):TyOf K H (.ref a)<|.ref C
def Az{x:V}(I:Inv X pins σ H s)(rx:RelV x u)(ty:TyOf X.K H x t)(e:PySem.W.kitOne X.K t c=some b)(h:∀tk,Q (.bool b) { s with toks:=tk }) :
  wpAny (model X.prog X.w) A (call (.builtin "isinstance") [u,c]) Q E s:=by
 cases ty with
 | non=>cases(show u=Value.none from rx);exact bX PySem.W.kitx_none I.uC True.intro e (λz=>nomatch z) h
 | bl y=>cases(show u=Value.bool y from rx);exact bX PySem.W.kitx_bool I.uC True.intro e (λz=>nomatch z) h
 | int i=>obtain⟨t,q⟩:=(show ∃t,u=Value.int i t from rx);cases q;exact bX PySem.W.kitx_int I.uC True.intro e (λz=>nomatch z) h
 | str y=>obtain⟨t,q⟩:=(show ∃t,u=Value.str y t from rx);cases q;exact bX PySem.W.kitx_str I.uC True.intro e (λz=>nomatch z) h
 | flt y=>obtain⟨t,q⟩:=(show ∃t,u=Value.float y t from rx);cases q;exact bX PySem.W.kitx_float I.uC True.intro e (λz=>nomatch z) h
 | @lst a xs d=>
  cases(show u=Value.ref a from rx)
  obtain⟨_,_,n,_,h1⟩:=(show i6 X.prog X.w H s.heap a (.lst xs)from I.hok a _ d);exact bX PySem.W.kitx_list I.uC ⟨_,h1,rfl⟩ e (λz=>nomatch z) h
 | @frz a B xs d=>
  cases(show u=Value.ref a from rx)
  obtain⟨_,_,_,n,_,h1⟩:=(show i6 X.prog X.w H s.heap a (.frz B<|.lst xs)from I.hok a _ d);exact bX PySem.W.kitx_list I.uC ⟨_,h1,rfl⟩ e (λz=>nomatch z) h
 | @tup a xs d=>
  cases(show u=Value.ref a from rx)
  obtain⟨_,_,_,p⟩:=(show i6 X.prog X.w H s.heap a (.tup xs)from I.hok a _ d);obtain⟨o,h1,g,_⟩:=p;exact bX PySem.W.kitx_tuple I.uC ⟨o,h1,g⟩ e (λz=>nomatch z) h
 | @dK a f d=>
  cases(show u=Value.ref a from rx)
  obtain⟨_,_,M,_,p⟩:=(show i6 X.prog X.w H s.heap a (.dK f)from I.hok a _ d);obtain⟨o,es,ep,h1,g,_⟩:=p;exact bX PySem.W.kitx_dict I.uC ⟨o,h1,g.1⟩ e (λz=>nomatch z) h
 | @dT a f d=>
  cases(show u=Value.ref a from rx)
  obtain⟨_,_,xs,_,o,es,ep,h1,g,_⟩:=(show i6 X.prog X.w H s.heap a (.dT f)from I.hok a _ d);exact bX PySem.W.kitx_dict I.uC ⟨o,h1,g.1⟩ e (λz=>nomatch z) h
 | @ins a C dx fs d k F hn j m=>
  cases(show u=Value.ref a from rx)
  obtain⟨L,O,_⟩:=Ft I.hok d;obtain⟨G,J,_⟩:=O.look;exact bX (PySem.W.kitx_own (k.get _) k.hd F hn j m) I.uC J e (λz=>nomatch z) h
end
structure Room (k:Nat)(A:az):Prop where
 hd:A.handled=none
 dp:A.depth+3 * k+5<recursionLimit
 un:A.units+16 * k+200<cLine
 gs:A.guards=some []
def Room.mono{k:Nat}{A:az}(r:Room k A)(h:j<=k):Room j A:=⟨r.hd,by have:=r.dp;lia,by have:=r.un;lia,r.gs⟩
def Room.deeper{k:Nat}{A:az}(r:Room (k+1) A)(env:Env):Room k (A.deeper env):=
 ⟨r.hd,by have:=r.dp;show A.depth+1+3 * k+5<_;lia,by have:=r.un;show A.units+3+16 * k+200<_;lia,r.gs⟩
def Room.depth{k:Nat}{A:az}(r:Room k A):A.depth<recursionLimit:=by have:=r.dp;lia
def Room.units{k:Nat}{A:az}(r:Room k A):A.units+64<cLine:=by have:=r.un;lia
abbrev Nl:TA:=λ_ H Q=>Q [] H
abbrev LA (ta:TE)(j:TA):TA:=λσ H Q=>ta σ H λx H1=>j σ H1 λxs H2=>Q (x::xs) H2
section
variable {X:Cx}{e:aC}{es:List aC}{te:TE}{t:TA}{pos:Pos}
def qF:PA X [] Nl:=λ_ _ _ _ H Q I h=>Calls.spliced_nil ⟨[],H,I,.nil,h⟩
def kR(J:PE X e te)(L:PA X es t)(hs:starEach (e::es) X.env=(false,eval e X.env)::starEach es X.env<|>ε):PA X (e::es) (LA te t):=by
 intro pos pins s σ H Q I h;rw[hs]
 skip
 refine Calls.spliced_cons<|iP (J pins s σ H _ I h) λu g ⟨x,H1,I1,r1,d⟩=>?_;exact iP (L pos pins g σ H1 _ I1 d) λus j ⟨xs,H2,f,r2,c⟩=>⟨x::xs,H2,f,.cons r1 r2,c⟩
abbrev MG (t:TA):TE:=λσ H Q=>t σ H λxs H1=>xs.length<=sizeLine/\∀p,H1 p=none->Q (.ref p) (upd H1 p<|.tup xs)
abbrev MZ (t:TA):TE:=λσ H Q=>t σ H λxs H1=>xs.length<=sizeLine/\∀p,H1 p=none->Q (.ref p) (upd H1 p<|.lst xs)
def IW{x1}(h:PA X es t):PE X (.Tuple es x1 pos) (MG t):=by
 intro pins s σ H Q I d;refine wpAny_Tuple_spliced (iP (h pos pins s σ H _ I d) λus c ⟨xs,H1,I1,r,z,q⟩=>⟨by rw[<- r.length];exact z,?_⟩);have hf:H1 c.heap.objs.size=none:=I1.hok.fresh<|aL _;refine⟨.ref c.heap.objs.size,upd H1 c.heap.objs.size<|.tup xs,I1.laid (t':=c.toks) (λb u e=>aK _ e) (aL _) ?_,rfl,q _ hf⟩;exact⟨z,us,r,⟨_,a_ _ rfl,rfl,rfl,_,rfl⟩⟩
def I0(h:PA X es t):PE X (.List es pos) (MZ t):=by
 intro pins s σ H Q I d;refine wpAny_List_spliced (iP (h pos pins s σ H _ I d) λus c ⟨xs,H1,I1,r,z,q⟩=>⟨by rw[<- r.length];exact z,?_⟩);have hf:H1 c.heap.objs.size=none:=I1.hok.fresh<|aL _;refine⟨.ref c.heap.objs.size,upd H1 c.heap.objs.size<|.lst xs,I1.laid (t':=c.toks) (λb u e=>aK _ e) (aL _) ?_,rfl,q _ hf⟩;exact⟨z,us,0,r,a_ _ rfl⟩
end
meta abbrev Sp:=List V->Hp->VK->XK->Prop
meta abbrev EE:=List Env->Hp->aA->XK->aa->aA->Prop
structure Env0 (P:ah)(w:af)(K:aq)(mg:Str->bi)(base:ak)(A:az)(outer:List Env)(s:aA)(H:Hp):Prop where
 frames:A.frames=some outer
 mod:Mod K mg base
 bs:∀b o,base.get? b=some o->s.heap.get? b=some o/\H b=none
 bsz:base.objs.size<=s.heap.objs.size
 qw:s.heap.FunFrames base outer
 frf:∀b∈frs outer,H b=none
 hok:pZ P w H s.heap
 bare:AllBare s.gens
abbrev CE (outer:List Env)(P:ah)(w:af)(H:Hp)(s:aA)(Q:VK)(u:aa)(s':aA):Prop:=
 ∃v H',s'.os=s.os/\AllBare s'.gens/\Un (frs outer) [] H H' s.heap s'.heap/\pZ P w H' s'.heap/\RelV v u/\Q v H'
abbrev CR (CX:EE)(outer:List Env)(P:ah)(w:af)(H:Hp)(s:aA)(Q:VK)(E:XK)(r:Result)(s':aA):Prop:=
 match r with
 | .ok (.ret u)=>CE outer P w H s Q u s'
 | .ok _=>False
 | .error e=>CX outer H s E e s'
structure FnOk (P:ah)(w:af)(K:aq)(mg:Str->bi)(base:ak)(CX:EE)(k:Nat)(f:aj)(fd:FuncData)(ps:ar)(sp:Sp):Prop where
 len:∀vs H Q E,sp vs H Q E->vs.length=ps.length
 run:∀(A:az) (outer:List Env) (s:aA) (H:Hp) (args:Args) (us:ba) (vs:List V) (Q:VK) (E:XK),Room k A->Env0 P w K mg base A outer s H->BindsTo s fd args (ps.zip us)->Vals vs us->sp vs H Q E ->
  codeAny (model P w) A (.call (.ref f) args) (CR CX outer P w H s Q E) s
section
variable {X:Cx}{pins:bp}{σ:St}{H:Hp}{s s':aA}
def Inv.Nz(I:Inv X pins σ H s):Env0 X.prog X.w X.K X.mg X.base X.A X.stack s H:=
 ⟨I.ok.frames,I.ok.mod,I.bs,bU I.ok.bsz I.sz,I.stack,I.zp,I.hok,I.bare⟩
def Inv.after{Q:VK}(I:Inv X pins σ H s)(h:CE X.stack X.prog X.w H s Q u s'):EP X pins σ Q u s':=by
 obtain⟨v,H',os,c,un,hok,r,q⟩:=h;obtain⟨f,g,d,t,e⟩:=s';obtain rfl:e=s.os:=os;exact⟨v,H',I.call (h':=f) (g':=g) (d':=d) (t':=t) (ch:=[]) un hok c λb z=>absurd z<|by simp,r,q⟩
end
abbrev Gv (sp:Sp)(dvs:List V)(E:XK)(t:TA):TE:=λσ H Q=>t σ H λc H1=>sp (c++dvs) H1 Q E
abbrev Binds (K:aq)(fd:FuncData)(ps:ar)(ds:ba):Prop:=
 ∀(s:aA) (us:ba),K.In s.heap->(us++ds).length=ps.length->BindsTo s fd ⟨us,[]⟩ (ps.zip<|us++ds)
def Binds.all{K:aq}{ps:ar}(h:∀us:ba,us.length=ps.length->bindArgs fd ⟨us,[]⟩=pure (ps.zip us)):Binds K fd ps []:=λs us _ c=>by
 rw[bO]at c ⊢;exact .of_eq<|h us c
abbrev Passes (CX:EE)(X:Cx)(E:XK):Prop:=∀(pins:bp) (σ:St) (H:Hp) (s:aA) (e:aa) (s':aA),Inv X pins σ H s->CX X.stack H s E e s'->X.xe e s'
section
variable {X:Cx}{CX:EE}{k:Nat}{f C:aj}{fd:FuncData}{ps:ar}{sp:Sp}{dvs:List V}{ds:ba}{E:XK}{x:Str}{p pos:Pos}{e:aC}{es:List aC}{t:TA}
def HR{H:Hp}{Q:VK}(F:FnOk X.prog X.w X.K X.mg X.base CX k f fd ps sp)(j:Room k X.A)(J:Binds X.K fd ps ds)(hd:Vals dvs ds)(L:Passes CX X E)
  (I:Inv X pins σ H s) (r:Vals vs us) (h:sp (vs++dvs) H Q E):wpAny (model X.prog X.w) X.A (call (.ref f) us) (EP X pins σ Q) X.xe s:=by
 have r2:Vals (vs++dvs) (us++ds):=r.append hd;have g:(us++ds).length=ps.length:=by rw[<- r2.length];exact F.len _ _ _ _ h
 refine wpAny_call (eF (F.run X.A X.stack s H ⟨us,[]⟩ (us++ds) (vs++dvs) Q E j I.Nz (J s us I.uC g) r2 h) λr s' c=>?_)
 cases r with
 | error e=>exact L pins σ H s e s' I c
 | ok d=>
  cases d with
  | ret u=>exact I.after c
  | next=>exact False.elim c
  | brk=>exact False.elim c
  | cont=>exact False.elim c
def FL(F:FnOk X.prog X.w X.K X.mg X.base CX k f fd ps sp)(L:Room k X.A)(hg:Gl X x)(M:X.mg x=some (.ref f))(U:PySem.W.keepIn X.K (.ref f)=true)(Z:Binds X.K fd ps ds)(hd:Vals dvs ds)(hx:Passes CX X E)
  (ha:PA X (e::es) t) (j:(x == ("__debug__" : Str))=false<|>δ) (he:starEach (e::es) X.env=(false,eval e X.env)::starEach es X.env<|>ε) (J:((backTo pos<|starEach es X.env).any (·.1)=false)<|>ε) :
  PE X (.Call (.Name x p) (e::es) [] pos) (Gv sp dvs E t):=by
 kt_k;refine fT<|zW I hg M ?_ j;refine PySem.W.callWith_K (h₀:=X.base) I.ok.mod.kin U (iP (ha pos pins s σ H _ I h) λus d ⟨c,H1,I1,r,q⟩=>⟨I1.uC,?_⟩) he J;exact HR F L Z hd hx I1 r q
end
section
variable {fd:FuncData}{ps ks:ar}
end
structure FnScope (N P:ar)(sc:Scope):Prop where
 kind:sc.kind=.function
 co:sc.isCoroutine=false
 gen:sc.isGenerator=false
 nd:N.Nodup
 pre:N.take P.length=P
 par:∀x∈P,sc.names.lookup x=some .local\/sc.names.lookup x=some .cell
 nofree:∀y∈sc.names,y.2≠.free
theorem rQ{j:Str->Option NameKind}{x:Str}:∀{binds:List<|Str×aa}{m:Str->bi},(∀v,(x,v)∉binds)->bindL j binds m x=m x
 | [],_,_=>rfl
 | (n,v)::r,m,h=>by
  unfold bindL;rw[rQ λw hw=>h w<|aV _ hw];split
  ·have:x≠n:=by rintro rfl;exact h v aQ
   simp[this]
  ·rfl
theorem sA{j:Str->Option NameKind}{x:Str}:∀{binds:List<|Str×aa}{m:Str->bi},(∀v,(x,v)∉binds)->bindC j binds m x=m x
 | [],_,_=>rfl
 | (n,v)::r,m,h=>by
  unfold bindC;rw[sA λw hw=>h w<|aV _ hw];split
  ·rfl
  ·have:x≠n:=by rintro rfl;exact h v aQ
   simp[this]
theorem rL{j:Str->Option NameKind}{x:Str}{v:aa}:∀{P:ar}{vs:ba}{i:Nat}{m:Str->bi},P.Nodup->P[i]?=some x->vs[i]?=some v->j x=some .local ->
  bindL j (P.zip vs) m x=some v
 | [],_,_,_,_,h,_,_=>by simp at h
 | _::_,[],_,_,_,_,h,_=>by simp at h
 | p::P,w::vs,0,m,nd,h1,h2,hk=>by
  simp at h1 h2;subst h1;subst h2;show bindL j ((p,w)::P.zip vs) m p=_;unfold bindL;rw[rQ λv hv=>(di.mp nd).1 (gj hv).1,aJ hk];simp
 | p::P,w::vs,i+1,m,nd,h1,h2,hk=>by
  skip
  unfold bindL;exact rL (i:=i) (di.mp nd).2 (by simpa using h1) (by simpa using h2) hk
theorem rO{j:Str->Option NameKind}{x:Str}{v:aa}:∀{P:ar}{vs:ba}{i:Nat}{m:Str->bi},P.Nodup->P[i]?=some x->vs[i]?=some v->j x≠some .local ->
  bindC j (P.zip vs) m x=some v
 | [],_,_,_,_,h,_,_=>by simp at h
 | _::_,[],_,_,_,_,h,_=>by simp at h
 | p::P,w::vs,0,m,nd,h1,h2,hk=>by
  simp at h1 h2;subst h1;subst h2;show bindC j ((p,w)::P.zip vs) m p=_;unfold bindC;rw[sA λv hv=>(di.mp nd).1 (gj hv).1,aI hk];simp
 | p::P,w::vs,i+1,m,nd,h1,h2,hk=>by
  skip
  unfold bindC;exact rO (i:=i) (di.mp nd).2 (by simpa using h1) (by simpa using h2) hk
abbrev start (N:ar)(j:List V):St:=j.map some++List.replicate (N.length-j.length) none
abbrev xy (CX:EE)(P:ah)(w:af)(K:aq)(mg:Str->bi)(base:ak)(N:ar)(j:Str)(scope:Scope)(f:aj)(J:aa)(A:az)(outer:List Env)(s:aA)(H:Hp)(E:XK):Cx where
 prog:=P
 w:=w
 K:=K
 mg:=mg
 base:=base
 A:=A.deeper (envOfC j scope s.heap.objs.size f J)
 N:=N
 s₀:=s
 H₀:=H
 env:=envOfC j scope s.heap.objs.size f J
 outer:=outer
 stack:=envOfC j scope s.heap.objs.size f J::outer
 ex:=[]
 calm:=true
 fn:=λ_=>true
 pn:=[]
 xe:=λe s'=>wpAny (model P w) (A.deeper<|envOfC j scope s.heap.objs.size f J) (leaving (envOfC j scope s.heap.objs.size f J) e) (λ_ c=>CX outer H s E e c) (λd c=>CX outer H s E d c) s'
def uG{j:Scope}{n:Nat}{x:Str}(h:j.names.lookup x=some .cell):∃c,(cellsFrom n j.names []).lookup x=some c:=by
 have q:=dQ j.names n []<|.inl h;exact dG.mp q
def Av{CX:EE}{P:ah}{w:af}{K:aq}{mg:Str->bi}{base:ak}{N ps:ar}{scope:Scope}{f:aj}{A:az}{outer:List Env}{s:aA}{H:Hp}{E:XK}{M:List V}
  (S:FnScope N ps scope) (hd:A.handled=none) (e0:Env0 P w K mg base A outer s H) (U:M.length=ps.length) (r:Vals M us)
  (x:InCallC s s.heap.objs.size (bindL (envOfC qual scope s.heap.objs.size f cd).kindOf (ps.zip us) λ_=>none) (cellsFrom (s.heap.objs.size+1) scope.names []) (bindC (envOfC qual scope s.heap.objs.size f cd).kindOf (ps.zip us) λ_=>none) s1) :
  Inv (xy CX P w K mg base N qual scope f cd A outer s H E) [] (start N M) H s1:=by
 have F:ps.length<=N.length:=by have:=bQ List.length S.pre;rw[cu]at this;lia
 obtain⟨h1,tk,rfl,B⟩:=x.done;have g:∀b:aj,b∉(xy CX P w K mg base N qual scope f cd A outer s H E).ex:=λb z=>absurd (show b∈([]:bb)from z) (by simp);refine⟨⟨e0.mod,S.kind,rfl,rfl,aL _,λy z c h1 d=>?_,λy hy=>?_,λy c _ h=>?_,λ_=>hd,Around.frames_deeper e0.frames,.inr ⟨rfl,rfl⟩,λb z=>absurd z<|g b,e0.bs,e0.bsz,λb _ _=>g b,λb z=>absurd z<|g b,e0.qw,e0.frf⟩,
  rfl,e0.bare,Un.kept B,⟨_,x.toInCall.ns,λi y v h1 d L=>?_⟩,λy c h=>⟨_,x.cell y c h⟩,e0.hok.fresh<|aL _,λy c h=>?_,λp j=>absurd (show p∈([]:bp)from j)<|by simp,e0.hok.kept B,?_⟩
 ·exact name_of_addr x.apart (bY h1) (bY d)
 ·have hy:scope.names.lookup y=some .cell\/scope.names.lookup y=some .free:=hy
  rcases hy with hy|hy
  ·exact uG hy
  ·exact absurd rfl<|S.nofree _<|bY hy
 ·exact eB (x.above y c<|bY h)
 ·have hi:i<M.length:=by
   unfold start at d;by_cases hi:i<M.length
   ·exact hi
   ·rw[c7<|by simpa using hi]at d;rw[List.getElem?_replicate]at d;split at d<;>cases d
  have G:M[i]?=some v:=by
   unfold start at d;rw[bI<|by simpa using hi,aY]at d
   cases e:M[i]? with
   | none=>rw[e]at d;cases d
   | some a=>rw[e]at d;cases d;rfl
  obtain⟨u,C,J⟩:=r.get G;have j:ps[i]?=some y:=by
   rw[<- S.pre,List.getElem?_take_of_lt ()];exact h1
  have m:ps.Nodup:=by rw[<- S.pre];exact S.nd.sublist (List.take_sublist _ _)
  refine⟨u,J,?_⟩
  rcases S.par y (aZ j)with k|k
  ·exact .inl ⟨k,rL m j C k⟩
  ·obtain⟨c,e⟩:=uG (n:=s.heap.objs.size+1) k;refine .inr ⟨.inl k,c,e,?_⟩;have q:=x.cell y c e;rw[rO m j C<|by show scope.names.lookup y≠_;rw[k];decide]at q;exact q
 ·exact e0.hok.fresh (eB<|x.above y c<|bY h)
 ·unfold start;show _=N.length;rw[aS,aN,List.length_replicate]
  lia
def Lv{CX:EE}{P:ah}{w:af}{K:aq}{mg:Str->bi}{base:ak}{k:Nat}{f:aj}{kV ct:aa}
  {osl:Array<|bi} {N ps:ar} {sp:Sp} (lk:K.lookup f=some ⟨oc,od,.func<|PySem.W.fnOf name qual params body scope dV kV doc pm an cdv ct,osl⟩) (hcd:PySem.W.codeIn K cdv qual=true) (S:FnScope N ps scope)
  (len:∀vs H Q E,sp vs H Q E->vs.length=ps.length)
  (Z:∀(A:az) (outer:List Env) (s:aA) (H:Hp) (vs:List V) (Q:VK) (E:XK),Room k (A.deeper<|envOfC qual scope s.heap.objs.size f cdv)->sp vs H Q E ->
   ∃t,ue (xy CX P w K mg base N qual scope f cdv A outer s H E) body t/\t { nx:=λ_ H'=>Q .non H',rt:=Q } (start N vs) H) :
  FnOk P w K mg base CX (k+1) f (PySem.W.fnOf name qual params body scope dV kV doc pm an cdv ct) ps sp:=by
 refine⟨len,λA outer s H B us vs Q E m e0 L r g=>?_⟩;have G:=len _ _ _ _ g;have F:K.In s.heap:=e0.mod.kin.keeps λb o e=>(e0.bs b o e).1;have j:s.heap.NoLimit:=e0.mod.nolimit.keeps λb o e=>(e0.bs b o e).1;have d:∀y∈ps.zip us,scope.names.lookup y.1=some .local\/(scope.names.lookup y.1=some .cell/\((cellsFrom (s.heap.objs.size+1) scope.names []).lookup y.1).isSome=true):=λ⟨n,v⟩ hy=>by
  rcases S.par n (gj hy).1 with q|q
  ·exact .inl q
  ·exact .inr ⟨q,dQ _ _ _<|.inl q⟩
 refine codeAny_call_function m.depth (F _ _ lk) rfl S.co S.gen rfl (PySem.W.codeRec_of F hcd)<|L _ _ _ _ ?_;refine wpAny_newFunctionEnv_cells S.kind d λT M C x=>?_;subst M;refine⟨j.keeps x.toInCall.keep,codeAny_func ?_⟩;obtain⟨t,O,U⟩:=Z A outer s H vs Q E (m.deeper _) g;have I:Inv (xy CX P w K mg base N qual scope f cdv A outer s H E) [] (start N vs) H C:=Av S m.hd e0 G r x;refine fS (O [] C (start N vs) H _ I U) (λY s' hs=>?_) λe s' hs=>hs;have fin:∀{c:St} {H':Hp} {v:V} {u:aa},Inv (xy CX P w K mg base N qual scope f cdv A outer s H E) [] c H' s'->RelV v u->Q v H'->CE outer P w H s Q u s':=
  λ{c H' v u} J p q=>⟨v,H',J.os,J.bare,J.base,J.hok,p,q⟩
 cases Y with
 | ret u=>
  obtain⟨v,c,H',J,p,q⟩:=hs;exact fin J p q
 | next=>
  obtain⟨c,H',J,q⟩:=hs;exact fin (v:=V.non) (u:=Value.none) J rfl q
 | brk=>
  obtain⟨_,_,_,q⟩:=hs;exact False.elim q
 | cont=>
  obtain⟨_,_,_,q⟩:=hs;exact False.elim q
section
variable {X:Cx}{x:Str}{p pos:Pos}{e:aC}{es:List aC}{t:TA}{id T:String}{r:List V->Hp->VK->Prop}
abbrev Nb (r:List V->Hp->VK->Prop)(t:TA):TE:=λσ H Q=>t σ H λc H1=>r c H1 Q
def u5(hc:g7 X (.builtin id) r)(hg:Gl X x)(L:X.mg x=none)(hv:bootBuiltins x=some (.builtin id))(M:PA X (e::es) t)(hn:x ≠ "__name__"<|>δ)(j:(x == ("__debug__" : Str))=false<|>δ)
  (U:starEach (e::es) X.env=(false,eval e X.env)::starEach es X.env<|>ε) (J:((backTo pos<|starEach es X.env).any (·.1)=false)<|>ε):PE X (.Call (.Name x p) (e::es) [] pos) (Nb r t):=by
 kt_k;refine fT<|ql I hg L hv ?_ hn j;exact PyProof.Rows.callWith_builtin1 (iP (M pos pins s σ H _ I h) λus f ⟨c,H1,I1,r1,d⟩=>hc pins f σ H1 c us Q I1 r1 d) U J
def sF(hc:g7 X (.type T) r)(hg:Gl X x)(L:X.mg x=none)(hv:bootBuiltins x=some (.type T))(M:PA X (e::es) t)(hn:x ≠ "__name__"<|>δ)(j:(x == ("__debug__" : Str))=false<|>δ)
  (U:starEach (e::es) X.env=(false,eval e X.env)::starEach es X.env<|>ε) (J:((backTo pos<|starEach es X.env).any (·.1)=false)<|>ε):PE X (.Call (.Name x p) (e::es) [] pos) (Nb r t):=by
 kt_k;refine fT<|ql I hg L hv ?_ hn j;exact dZ (iP (M pos pins s σ H _ I h) λus f ⟨c,H1,I1,r1,d⟩=>hc pins f σ H1 c us Q I1 r1 d) U J
end
end L2
namespace HT
open PySem PyProof.Rows
section
variable {prog:ah}{w:af}{A:az}{E:aa->aA->Prop}{s:aA}
def Fo{b:aj}{J ws:ba}{Q:aa->aA->Prop}(M:IsTup s.heap t J.toArray)(U:IsTup s.heap b ws.toArray)(hv:J≠[])
  (h1:ws=[]->Q (.ref t) s) (Z:ws≠[]->Q (.ref s.heap.objs.size) { s with heap:=s.heap.push { cls:=.type "tuple",data:=.seq (J++ws).toArray }})
  (L:J.length+ws.length<=sizeLine):wpAny (model prog w) A (binaryOp .Add (.ref t)<|.ref b) Q E s:=by
 obtain⟨⟨cls,C,data,q⟩,k,hc,n,hd⟩:=id M;obtain⟨⟨p,f,m,j⟩,c,g,B,d⟩:=id U;simp only at hc hd g d;subst hc hd g d;have e:J.toArray++ws.toArray=(J++ws).toArray:=by simp
 by_cases hw:ws=[]
 ·exact concat_meets ⟨_,k,rfl⟩ ⟨_,c,rfl⟩ noFill_tuple_add seq_tuple_add e8 eY (eS _ _)
   (tuple_addW1 t b J.toArray ws.toArray n B C f q j (by simpa using hv)<|by simp[hw]) ⟨k,c,h1 hw⟩
 ·refine concat_meets ⟨_,k,rfl⟩ ⟨_,c,rfl⟩ noFill_tuple_add seq_tuple_add e8 eY (eS _ _)
   (tuple_addW2 t b J.toArray ws.toArray n B C f q j (by simpa using hv) (by simpa using hw)<|by rw[aU,aU];exact L) ⟨k,c,?_⟩
  rw[e];exact Z hw
abbrev je (n d:Nat):bj->Nat
 | none=>d
 | some v=>if v<0 then(v+(n:Int)).toNat else min v.toNat n
def JA(n d:Nat)(hd:d<=n)(o:bj):je n d o<=n:=by
 cases o with
 | none=>exact hd
 | some v=>
  show(if v<0 then(v+(n:Int)).toNat else min v.toNat n)<=n;by_cases hv:v<0
  ·rw[aJ hv];lia
  ·rw[aI hv];exact Nat.min_le_right _ _
def zg(v:Int)(n d:Nat):(if v<0 then max (v+(n:Int)) 0 else min v (n:Int))=((je n d (some v):Nat):Int):=by
 show(if v<0 then max (v+(n:Int)) 0 else min v (n:Int))=(((if v<0 then(v+(n:Int)).toNat else min v.toNat n):Nat):Int);by_cases hv:v<0
 ·dsimp[aJ hv];lia
 ·dsimp[aI hv];lia
def xD(lo hi:bj)(n:Nat):Builtin.Slice.sliceAdjust lo hi 1 (n:Int)=(((je n 0 lo:Nat):Int),((je n n hi:Nat):Int)):=by
 have h1:¬((1:Int)<0):=()
 unfold Builtin.Slice.sliceAdjust;dsimp[h1,cg];refine Prod.ext ?_ ?_
 ·cases lo with
  | none=>rfl
  | some v=>exact zg v n 0
 ·cases hi with
  | none=>rfl
  | some v=>exact zg v n n
def wN(i j:Nat):Builtin.Slice.slicePlaces (i:Int) (j:Int) 1=j-i:=by
 unfold Builtin.Slice.slicePlaces;have h1:(1:Int)>0:=()
 dsimp[h1,b9,Int.ediv_one];split<;>lia
def qp{v:aa}{Q:bj->aA->Prop}(p:IsPart v o)(h:Q o s):wpAny (model prog w) A (Builtin.Slice.slicePartIndex v) Q E s:=by
 cases p with
 | none=>exact slicePart_none h
 | int i t=>exact slicePart_int h
def oZ{lo:bj}{n:Nat}{Q:Int×Int×Nat->aA->Prop}(hs:s.heap.IsSliceOf sl vl vu .none)(pl:IsPart vl lo)(j:IsPart vu hi)
  (h:Q (((je n 0 lo:Nat):Int),1,je n n hi-je n 0 lo) s):wpAny (model prog w) A (Builtin.Slice.sliceApplied (.ref sl)<|pure (n:Int)) Q E s:=by
 obtain⟨f,d,e,c⟩:=id hs;unfold Builtin.Slice.sliceApplied Builtin.Slice.sliceFields;refine aF<|aF<|wpAny_field d c (x:=vl) rfl<|aF<|wpAny_field d c (x:=vu) rfl<|aF<|wpAny_field d c (x:=.none) rfl<|aH ?_;refine aF (slicePart_none ?_)
 skip
 rw[aI ⋯];refine aF<|qp pl<|aF<|qp j<|aF<|aH ?_;show wpAny _ _ (match Builtin.Slice.sliceAdjust lo hi 1 (n:Int)with|(lo,hi)=>pure (lo,(1:Int),Builtin.Slice.slicePlaces lo hi 1)) _ _ s;rw[xD lo hi n];show wpAny _ _ (pure (((je n 0 lo:Nat):Int),(1:Int),Builtin.Slice.slicePlaces ((je n 0 lo:Nat):Int) ((je n n hi:Nat):Int) 1)) _ _ s;rw[wN];exact aH h
def CF(xs:Array aa)(i k:Nat):((List.range k).filterMap λ(m:Nat)=>xs[((i:Int)+(m:Int) * 1).toNat]?).toArray=((xs.toList.drop i).take k).toArray:=by
 have e:(λ(m:Nat)=>xs[((i:Int)+(m:Int) * 1).toNat]?)=λm=>xs[i+m]?:=by
  funext m
  have:((i:Int)+(m:Int) * 1).toNat=i+m:=()
  rw[this]
 rw[e];have:=pick_run xs i k;rw[List.filterMap_map]at this;have e2:((λx=>xs[x]?) ∘ λx=>i+x)=λm=>xs[i+m]?:=rfl;rw[e2]at this;rw[this]
def nO{J:Array aa}{lo:bj}{Q:aa->aA->Prop}(L:IsTup s.heap t J)(hs:s.heap.IsSliceOf sl vl vu .none)(pl:IsPart vl lo)(M:IsPart vu hi)
  (hw:¬(je J.size 0 lo=0/\je J.size J.size hi=J.size))
  (h:Q (.ref s.heap.objs.size) { s with heap:=s.heap.push { cls:=.type "tuple",data:=.seq ((J.toList.drop<|je J.size 0 lo).take<|je J.size J.size hi-je J.size 0 lo).toArray }})
  (U:J.size<=sizeLine):wpAny (model prog w) A (getItem (.ref t)<|.ref sl) Q E s:=by
 have c:sizeOk (.seq ((J.toList.drop<|je J.size 0 lo).take<|je J.size J.size hi-je J.size 0 lo).toArray):=by
  show((J.toList.drop<|je J.size 0 lo).take<|je J.size J.size hi-je J.size 0 lo).toArray.size<=sizeLine;rw[aU,cu,cZ,bA];omega
 have B:je J.size J.size hi<=J.size:=JA _ _ (aL _) hi;obtain⟨j,g,d,k⟩:=id hs;have f:s.TypeIs (.ref sl) "slice" := ⟨j,g,d⟩;unfold getItem
 try with_reducible refine cP ?_
 first|refine aF (aH ?_)|skip
 refine aF<|wpAny_sequenceKey L.typeIs ⋯ ?_;refine aF (cT (name:=Str.ofString "__getitem__") L.typeIs dI
  (cM dI L.typeIs entry_tuple_getitem ?_<|args_tuple_getitem _ _))
 show wpAny _ _ (Builtin.Tuple.tupleItemsOf (.ref t) >>= _) _ _ s;refine aF<|tupleItemsOf_ L ?_;refine aF<|wpAny_typeOf f ?_;rw[aJ ⋯];refine aF<|oZ hs pl M ?_;have e:¬((((je J.size 0 lo:Nat):Int) == 0 && (1:Int) == 1 && (je J.size J.size hi-je J.size 0 lo) == J.size)=true):=by
  intro q;rw[cN,cN]at q;have C:((je J.size 0 lo:Nat):Int)=0:=eq_of_beq q.1.1;have p:je J.size J.size hi-je J.size 0 lo=J.size:=eq_of_beq q.2;exact hw ⟨by omega,by omega⟩
 show wpAny _ _ (if (((je J.size 0 lo:Nat):Int) == 0 && (1:Int) == 1 && (je J.size J.size hi-je J.size 0 lo) == J.size)=true then _ else _) _ _ s;rw[aI e,CF]
 first
  | exact aF (m:=Builtin.Tuple.tupleExact _) (bP (aH ⟨_,rfl,aH h⟩) c)
  | exact aF (m:=Builtin.Tuple.tupleExact _) (bP (aF<|aH<|aH ⟨_,rfl,aH h⟩) c)
  | exact aF (aF (m:=Builtin.Tuple.tupleExact _)<|bP (aH<|aH ⟨_,rfl,aH h⟩) c)
  | exact aF<|aF (m:=Builtin.Tuple.tupleExact _)<|bP (aH ⟨_,rfl,aH h⟩) c
end
end HT
namespace L2
open PySem PySem.Spec PyProof.Rows
meta abbrev TO:=St->Hp->(bj->Hp->Prop)->Prop
abbrev PO (X:Cx)(e:Option aC)(t:TO):Prop:=
 ∀(pins:bp) (s:aA) (σ:St) (H:Hp) (Q:bj->Hp->Prop),Inv X pins σ H s->t σ H Q ->
  wpAny (model X.prog X.w) X.A (evalPart e X.env) (λu s'=>∃o H',Inv X pins σ H' s'/\IsPart u o/\Q o H') X.xe s
abbrev ES:TO:=λ_ H Q=>Q none H
abbrev K4 (t:TE):TO:=λσ H Q=>t σ H λx H1=>∃i,x=.int i/\Q (some i) H1
section
variable {X:Cx}{e:aC}{te:TE}{lo hi:Option aC}{tl th:TO}{pos p2:Pos}
def Fe:PO X none ES:=by
 kt_k;rw[evalPart_none];exact aH ⟨none,H,I,.none,h⟩
def FQ(h:PE X e te):PO X (some e) (K4 te):=by
 intro pins s σ H Q I hw;rw[evalPart_some];refine iP (h pins s σ H _ I hw) λu d ⟨x,H1,I1,r1,c⟩=>?_;obtain⟨i,rfl,q⟩:=c;obtain⟨t,rfl⟩:=r1;exact⟨some i,H1,I1,.int i t,q⟩
abbrev Kf (X:Cx)(r:V->bj->bj->Hp->VK->Prop):Prop:=
 ∀(pins:bp) (s:aA) (σ:St) (H:Hp) (x:V) (v e c:aa) (lo hi:bj) (d:aj) (Q:VK),Inv X pins σ H s->RelV x v->s.heap.IsSliceOf d e c .none->IsPart e lo->IsPart c hi->r x lo hi H Q ->
  ∃T id,typeLookup (.type T) "__getitem__" = pure (some<|.builtin id)/\s.TypeIs v T/\wpAny (model X.prog X.w) X.A (getItem v<|.ref d) (EP X pins σ Q) X.xe s
abbrev OI (r:V->bj->bj->Hp->VK->Prop)(te:TE)(tl th:TO):TE:=λσ H Q=>te σ H λx H1=>tl σ H1 λl H2=>th σ H2 λu c=>r x l u c Q
def vB{r:V->bj->bj->Hp->VK->Prop}(L:Kf X r)(M:PE X e te)(U:PO X lo tl)(Z:PO X hi th):PE X (.Subscript e (.Slice lo hi none p2) pos) (OI r te tl th):=by
 kt_k;refine Subscript_<|iP (M pins s σ H _ I h) λv J ⟨x,H1,I1,r1,p⟩=>?_;refine wpAny_Slice<|iP (U pins J σ H1 _ I1 p) λd C ⟨l,H2,B,pl,j⟩=>iP (Z pins C σ H2 _ B j) λf c ⟨u,g,F,m,G⟩=>?_;rw[evalPart_none];refine aH ?_;have k:Inv X pins σ g { c with heap:=c.heap.push { cls:=.type "slice",data:=.fields #[d,f,.none]}}:=F.kept (t':=c.toks) λb K q=>aK _ q;obtain⟨T,id,hT,ht,hg⟩:=L pins { c with heap:=c.heap.push { cls:=.type "slice",data:=.fields #[d,f,.none]}} σ g x v d f l u c.heap.objs.size Q k r1 (Heap.IsSliceOf.new ..) pl m G
 skip
 exact tail_any (ops:=[.ref c.heap.objs.size,v]) ht hT hg<|by with_unfolding_all rfl
abbrev vG (xs:List V)(lo hi:bj):List V:=(xs.drop<|HT.je xs.length 0 lo).take<|HT.je xs.length xs.length hi-HT.je xs.length 0 lo
def pD(xs:List V)(lo hi:bj):(vG xs lo hi).length<=xs.length:=by
 unfold vG;rw[cu,cZ]
 lia
abbrev MY (K:aq):V->bj->bj->Hp->VK->Prop:=λx lo hi H Q=>∃a xs,x=.ref a/\jT K H a xs /\
 ¬(HT.je xs.length 0 lo=0/\HT.je xs.length xs.length hi=xs.length)/\∀p,H p=none->Q (.ref p) (upd H p<|.tup<|vG xs lo hi)
def IV:Kf X (MY X.K):=by
 intro pins s σ H x v k p lo hi B Q I rx hs pl g h;obtain⟨a,xs,rfl,j,hw,q⟩:=h
 cases rx
 obtain⟨d,r,e,f⟩:=I.tuple j;have c:d.toArray.size=xs.length:=by rw[aU];exact r.length.symm
 refine⟨"tuple",_,dI.lookup,e.typeIs,?_⟩;refine HT.nO e hs pl g (by rw[c];exact hw) ?_ (by rw[c];exact f);rw[c];refine⟨.ref s.heap.objs.size,_,I.laid (t':=s.toks) (o:=.tup<|vG xs lo hi) (λb m q=>aK _ q) (aL _) ?_,rfl,q _<|I.hok.fresh<|aL _⟩;exact⟨bU (pD xs lo hi) f,_,(r.drop<|HT.je xs.length 0 lo).take<|HT.je xs.length xs.length hi-HT.je xs.length 0 lo,jJ.new _ _⟩
abbrev KZ (K:aq):R2:=λx y H Q=>∃a b xs ys,x=.ref a/\y=.ref b/\jT K H a xs/\jT K H b ys/\xs≠[]/\xs.length+ys.length<=sizeLine /\
 (ys=[]->Q (.ref a) H)/\(ys≠[]->∀p,H p=none->Q (.ref p) (upd H p<|.tup<|xs++ys))
def Vals.t_(r:Vals xs us):us=[] ↔ xs=[]:=by
 cases r with
 | nil=>simp
 | cons _ _=>simp
def Fv:jh X (binaryOp .Add) (KZ X.K):=by
 gp_on;obtain⟨a,b,xs,ys,rfl,rfl,k,j,m,d,g,e⟩:=h
 cases rx
 cases ry
 obtain⟨f,r1,p1,_⟩:=I.tuple k;obtain⟨c,r2,p2,_⟩:=I.tuple j;refine HT.Fo p1 p2 (λz=>m<|r1.t_.mp z) (λz=>⟨.ref a,H,I,rfl,g<|r2.t_.mp z⟩) (λz=>?_) (by rw[<- r1.length,<- r2.length];exact d);refine⟨.ref s.heap.objs.size,_,I.laid (t':=s.toks) (o:=.tup<|xs++ys) (λb p q=>aK _ q) (aL _) ?_,rfl,e (λw=>z<|r2.t_.mpr w) _<|I.hok.fresh<|aL _⟩;exact⟨by rw[aS];exact d,_,r1.append r2,jJ.new _ _⟩
end
abbrev ye (n:Nat)(i:Int):bo:=if 0<=i then(if i<n then some i.toNat else none)else if -(n:Int)<=i then some (i+n).toNat else none
abbrev k9 {α:Type}(xs:List α)(i:Int):Option α:=(ye xs.length i).bind λj=>xs[j]?
def xX{n:Nat}{i:Int}(h:ye n i=some j):seqIndex? i n=some j/\j<n/\-(n:Int)<=i/\i<n:=by
 unfold ye at h;by_cases h0:0<=i
 ·rw[aJ h0]at h;by_cases h1:i<n
  ·rw[aJ h1]at h;have e:i.toNat=j:=aX h;exact⟨by rw[seqIndex_of h0 h1,e],(),(),h1⟩
  ·rw[aI h1]at h;cases h
 ·rw[aI h0]at h;by_cases h1:-(n:Int)<=i
  ·rw[aJ h1]at h;have e:(i+n).toNat=j:=aX h;exact⟨by rw[seqIndex_neg () h1,e],(),h1,()⟩
  ·rw[aI h1]at h;cases h
def t9{α:Type}{xs:List α}{i:Int}{v:α}(h:k9 xs i=some v):∃j,seqIndex? i xs.length=some j/\xs[j]?=some v/\j<xs.length/\-(xs.length:Int)<=i/\i<xs.length:=by
 unfold k9 at h
 cases e:ye xs.length i with
 | none=>rw[e]at h;cases h
 | some j=>
  rw[e]at h;obtain⟨h1,d,c,f⟩:=xX e;exact⟨j,h1,h,d,c,f⟩
def FJ{α:Type}{xs:List α}{j:Nat}{v:α}(h:xs[j]?=some v):k9 xs (j:Int)=some v:=by
 have c:j<xs.length:=(aP.mp h).1;have e:ye xs.length (j:Int)=some j:=by
  unfold ye;rw[aJ (),aJ ()];simp
 unfold k9;rw[e];exact h
abbrev yH (b:aC):Prop:=∀o i,subscripted b false o i=operate [o,i] (getItem o i)
abbrev K8 (X:Cx)(r:R2):Prop:=
 ∀(d c:aC) (pins:bp) (s:aA) (σ:St) (H:Hp) (x y:V) (v u:aa) (Q:VK),Inv X pins σ H s->RelV x v->RelV y u->r x y H Q ->
  subscripted c false v u=operate [v,u] (getItem v u)->wpAny (model X.prog X.w) X.A (subscriptTail d c v u) (EP X pins σ Q) X.xe s
abbrev wg (X:Cx)(id:String)(r:V->List V->Hp->VK->Prop):Prop:=
 ∀(pins:bp) (s:aA) (σ:St) (H:Hp) (x:V) (xs:List V) (v:aa) (us:ba) (Q:VK),Inv X pins σ H s->RelV x v->Vals xs us->r x xs H Q ->
  wpAny (model X.prog X.w) X.A (call (.builtin id) (v::us)) (EP X pins σ Q) X.xe s
section
variable {X:Cx}{a b:aC}{ta tb:TE}{pos:Pos}
def LB{r:R2}(j:K8 X r)(J:PE X a ta)(L:PE X b tb)(hs:yH b):PE X (.Subscript a b pos) (K1 r ta tb):=by
 kt_k;exact Subscript_<|HB J L I h λv u c x y H2 d rx ry q=>j a b pins c σ H2 x y v u Q d rx ry q<|hs _ _
abbrev NK (K:aq):R2:=λx y H Q=>∃p xs i v,x=.ref p/\y=.int i/\kr K H p xs/\k9 xs i=some v/\Q v H
abbrev M8 (K:aq):R2:=λx y H Q=>∃p xs i v,x=.ref p/\y=.int i/\jT K H p xs/\k9 xs i=some v/\Q v H
abbrev NN:R2:=λx y H Q=>∃z i c,x=.str z/\y=.int i/\z.length<=sizeLine/\k9 z.cps.toList i=some c/\Q (.str ⟨#[c]⟩) H
def yY:K8 X (NK X.K):=by
 intro f g pins s σ H x y v u Q I rx ry h hs;obtain⟨p,xs,i,z,rfl,rfl,F,C,q⟩:=h
 cases rx
 obtain⟨t,rfl⟩:=ry;obtain⟨e,r,pl,M⟩:=I.list F;obtain⟨j,h1,G,L,J,m⟩:=t9 C;obtain⟨w,k,d⟩:=r.get G;have B:=r.length;have hn:=oB;have fin:EP X pins σ Q w s:=⟨z,H,I,d,q⟩;by_cases h0:0<=i
 ·have c:i.toNat=j:=by
   rw[seqIndex_of h0 m]at h1;exact aX h1
  exact item_listR pl.isList h0 () (by rw[c];simpa using k) fin hs
 ·have c:(i+(e.toArray.size:Int)).toNat=j:=by
   rw[seqIndex_neg () J]at h1;rw[aU,<- B];exact aX h1
  exact subscriptTail_builtinR (x:=w) pl.isList.typeIs slot_list_getitem.lookup
   (wpAny_getItem_list_neg (Q:=λr s'=>r=w/\EP X pins σ Q r s') pl.isList () (by rw[aU]<;>lia) () (by rw[c];simpa using k) ⟨rfl,fin⟩) hs
def JK:K8 X (M8 X.K):=by
 intro d e pins s σ H x y v u Q I rx ry h hs;obtain⟨p,xs,i,z,rfl,rfl,B,k,q⟩:=h
 cases rx
 obtain⟨t,rfl⟩:=ry;obtain⟨f,r,pl,L⟩:=I.tuple B;obtain⟨j,h1,C,G,J,F⟩:=t9 k;obtain⟨w,m,c⟩:=r.get C;have g:=r.length;have hn:=oB;have fin:EP X pins σ Q w s:=⟨z,H,I,c,q⟩;exact subscriptTail_builtinR (x:=w) pl.typeIs slot_tuple_getitem.lookup
  (getItem_tuple (j:=j) (Q:=λr s'=>r=w/\EP X pins σ Q r s') pl () () (by rw[aU,<- g];exact h1) (by simpa using m) ⟨rfl,fin⟩) hs
def Ht:K8 X NN:=by
 intro d e pins s σ H x y v u Q I rx ry h hs;obtain⟨z,i,c,rfl,rfl,F,k,q⟩:=h;kd_p;obtain⟨C,rfl⟩:=ry;obtain⟨j,h1,m,B,p,f⟩:=t9 k;have g:z.cps.toList.length=z.length:=by simp[Str.length]
 rw[g]at h1 p f;have hn:=oB;exact tail_any (eT s z t) slot_str_getitem.lookup (getItem_str (c:=c) (by
  have e1:decide (i < -(2 ^ 63:Int))=false:=bz ();have e2:decide (i>=2 ^ 63)=false:=bz ();rw[e1,e2,Bool.or_false]) (by rw[h1];simpa using m) ⟨.str ⟨#[c]⟩,H,I.tok _,⟨_,rfl⟩,q⟩) hs
def xj(its:ba)(n j:Nat)(u:aa):Obj.mapSeq (·.setIfInBounds j u) { cls:=.type "list",data:=.seq its.toArray n }={ cls:=.type "list",data:=.seq (its.set j u).toArray n }:=by
 simp[Obj.mapSeq]
def Inv.lst{H:Hp}{s:aA}{p:aj}{xs:List V}(I:Inv X pins σ H s)(h:H p=some (.lst xs)) :
  ∃(its:ba) (n:Nat),Vals xs its/\s.heap.get? p=some { cls:=.type "list",data:=.seq its.toArray n }/\xs.length<=sizeLine:=by
 obtain⟨z,its,n,r,e⟩:=I.hok p _ h;exact⟨its,n,r,e,z⟩
def Inv.Jw{H:Hp}{s:aA}{p:aj}{ys:List V}{its its':ba}{n:Nat}{f:Obj->Obj}(I:Inv X pins σ H s)(h:H p=some (.lst xs))
  (j:s.heap.get? p=some { cls:=.type "list",data:=.seq its.toArray n }) (hf:f { cls:=.type "list",data:=.seq its.toArray n }={ cls:=.type "list",data:=.seq its'.toArray n' }) (r:Vals ys its') (hz:ys.length<=sizeLine) (t:Nat) :
  Inv X pins σ (upd H p<|.lst ys) { s with heap:=s.heap.update p f,toks:=t }:=by
 have e:(s.heap.update p f).get? p=some { cls:=.type "list",data:=.seq its'.toArray n' }:=by
  rw[bT f j<|by rw[hf]<;>rfl,hf]
 refine I.write (x:=p) (e:=p) (by rw[h];trivial) (.inl rfl) (λb u c q=>(cD _ _<|eE c).trans q) ⟨_,e⟩ ?_;exact⟨hz,its',n',r,e⟩
abbrev KL:V->V->V->Hp->(Hp->Prop)->Prop:=λo i v H Q=>∃p xs k j,o=.ref p/\i=.int k/\H p=some (.lst xs)/\ye xs.length k=some j/\Q (upd H p<|.lst<|xs.set j v)
def set_list:JQ X KL:=by
 intro pins s σ H o i v M iv u Q I J K G h;obtain⟨p,xs,k,j,rfl,rfl,g,F,q⟩:=h
 cases J
 obtain⟨t,rfl⟩:=K;obtain⟨c,n,r,d,L⟩:=I.lst g;obtain⟨h1,N,m,C⟩:=xX F;have e:=r.length;have hn:=oB;have B:Inv X pins σ (upd H p<|.lst<|xs.set j v) { s with heap:=s.heap.update p<|Obj.mapSeq (·.setIfInBounds j u)}:=
  I.Jw g d (xj c n j u) (r.set G j) (by rw[gp];exact L) s.toks
 by_cases h0:0<=k
 ·have f:k.toNat=j:=by
   rw[seqIndex_of h0 C]at h1;exact aX h1
  exact PySem.W.ki_setAt d h0 () (by rw[aU,<- e];exact C)<|by rw[f];exact⟨_,B,q⟩
 ·have f:(k+(c.toArray.size:Int)).toNat=j:=by
   rw[seqIndex_neg () m]at h1;rw[aU,<- e];exact aX h1
  exact PySem.W.ki_setBack d () (by rw[aU,<- e];exact m) ()<|by rw[f];exact⟨_,B,q⟩
def tU(lo hi:bj)(n:Nat):(sliceBounds lo hi none n).1=((HT.je n 0 lo:Nat):Int)/\(sliceBounds lo hi none n).2.1=((HT.je n n hi:Nat):Int)/\(sliceBounds lo hi none n).2.2=1:=by
 refine⟨?_,?_,rfl⟩
 ·cases lo with
  | none=>simp[sliceBounds,HT.je]
  | some i=>
   dsimp[sliceBounds,HT.je,getD_none,show(1:Int)>0 by decide,b9];by_cases h:i<0
   ·dsimp[h,b9]<;>lia
   ·dsimp[h,cg]<;>lia
 ·cases hi with
  | none=>simp[sliceBounds,HT.je]
  | some i=>
   dsimp[sliceBounds,HT.je,getD_none,show(1:Int)>0 by decide,b9];by_cases h:i<0
   ·dsimp[h,b9]<;>lia
   ·dsimp[h,cg]<;>lia
def rq(its:ba)(lo hi:bj):slicePick its.toArray lo hi none=((its.drop<|HT.je its.length 0 lo).take<|HT.je its.length its.length hi-HT.je its.length 0 lo).toArray:=by
 obtain⟨h1,d,c⟩:=tU lo hi its.toArray.size;unfold slicePick;rw[h1,d,c];dsimp[sliceRange_one,pick_run,aU]<;>rfl
abbrev MS (K:aq):V->bj->bj->Hp->VK->Prop:=λx lo hi H Q=>∃a xs,x=.ref a/\kr K H a xs/\∀p,H p=none->Q (.ref p) (upd H p<|.lst<|vG xs lo hi)
def yu:Kf X (MS X.K):=by
 intro pins s σ H x v k p lo hi B Q I rx hs pl e h;obtain⟨a,xs,rfl,g,q⟩:=h
 cases rx
 obtain⟨f,r,d,j⟩:=I.list g;have c:=r.length;refine⟨"list",_,slot_list_getitem.lookup,d.isList.typeIs,?_⟩;refine wpAny_getItem_list_slice d.isList hs pl e .none (by simp) ?_ (by rw[aU]<;>lia);rw[rq,<- c];refine⟨.ref s.heap.objs.size,_,I.laid (t':=s.toks) (o:=.lst<|vG xs lo hi) (λb m q=>aK _ q) (aL _) ?_,rfl,q _<|I.hok.fresh<|aL _⟩;exact⟨bU (pD xs lo hi) j,_,0,(r.drop<|HT.je xs.length 0 lo).take<|HT.je xs.length xs.length hi-HT.je xs.length 0 lo,a_ _ rfl⟩
def kC:g7 X (.type "list") (λxs H Q=>∃p ys,xs=[.ref p]/\(kr X.K H p ys\/jT X.K H p ys)/\∀l,H l=none->Q (.ref l) (upd H l<|.lst ys)):=by
 gn_on;obtain⟨p,ys,rfl,j,q⟩:=h;obtain⟨u,rfl,rx⟩:=vals1 r
 cases rx
 have fin:∀(c:ba),Vals ys c->ys.length<=sizeLine->∀(h':ak) (f:Nat),(∀b o',s.heap.get? b=some o'->h'.get? b=some o') ->
   h'.get? s.heap.objs.size=some { cls:=.type "list",dict:=none,data:=.seq c.toArray f,slots:=#[]}->EP X pins σ Q (.ref s.heap.objs.size) { s with heap:=h' }:=λc d k h' f kp e=>
  ⟨.ref s.heap.objs.size,_,I.laid (t':=s.toks) kp (aL _)<|show i6 X.prog X.w _ h' _ (.lst ys)from⟨k,c,f,d,e⟩,rfl,q _<|I.hok.fresh<|aL _⟩
 rcases j with j|j
 ·obtain⟨c,d,pl,k⟩:=I.list j;have g:=d.length;obtain⟨o,m,hc,n,hd⟩:=pl.isList;exact call_list_seq p (.inl rfl) m hc hd (λh' f kp e=>fin c d k h' f kp e) (by dsimp[aU]<;>lia)
 ·obtain⟨c,d,pl,k⟩:=I.tuple j;have g:=d.length;obtain⟨o,m,hc,n,hd⟩:=pl;exact call_list_seq p (.inr rfl) m hc hd (λh' f kp e=>fin c d k h' f kp e)<|by dsimp[aU]<;>lia
abbrev Ma (K:aq)(T:String)(x:V)(H:Hp):Prop:=match x with
 | .str _=>T = "str"
 | .int _=>T = "int"
 | .ref p=>(T = "list" /\ ∃xs,kr K H p xs)\/(T = "tuple" /\ ∃o,K.lookup p=some o/\o.cls=.type "tuple" /\ o.dict=none) \/
   (T = "dict" /\ ((∃c,H p=some (.dK c))\/∃c,H p=some (.dT c)))\/(T = "set" /\ ∃S n,H p=some (.set S n))
 | _=>False
def IY{H:Hp}{s:aA}{x:V}{v:aa}(I:Inv X pins σ H s)(r:RelV x v)(ty:Ma X.K T x H) :
  s.TypeIs v T/\∀a,v=.ref a->∃ob,s.heap.get? a=some ob/\ob.dict=none:=by
 cases x with
 | str z=>
  obtain⟨t,rfl⟩:=r
  cases(show T = "str" from ty)
  exact⟨eT s z t,nofun⟩
 | int i=>
  obtain⟨t,rfl⟩:=r
  cases(show T = "int" from ty)
  exact⟨typeIs_int s i t,nofun⟩
 | ref p=>
  cases r
  rcases ty with⟨rfl,xs,g⟩|⟨rfl,o,d,hc,hd⟩|⟨rfl,d⟩|⟨rfl,S,n,d⟩
  ·obtain⟨j,_,pl,_⟩:=I.list g;refine⟨pl.isList.typeIs,λa e=>?_⟩
   cases e
   obtain⟨o,n,e,c,hd,_⟩:=pl;exact⟨o,e,hd⟩
  ·refine⟨⟨o,I.uC p o d,hc⟩,λa e=>?_⟩
   cases e
   exact⟨o,I.uC _ o d,hd⟩
  ·have z:∃o,s.heap.get? p=some o/\o.ExactDict:=by
    rcases d with⟨f,d⟩|⟨f,d⟩
    ·obtain⟨_,_,_,_,o,_,_,e,ex,_⟩:=I.hok p _ d;exact⟨o,e,ex⟩
    ·obtain⟨_,_,_,_,o,_,_,e,ex,_⟩:=I.hok p _ d;exact⟨o,e,ex⟩
   obtain⟨o,e,ex⟩:=z;refine⟨⟨o,e,ex.1⟩,λa e2=>?_⟩
   cases e2
   exact⟨o,e,ex.2.1⟩
  ·obtain⟨o,_,_,_,e,ex,_⟩:=I.hok p _ d;refine⟨⟨o,e,ex.1⟩,λa e2=>?_⟩
   cases e2
   exact⟨o,e,ex.2.1⟩
 | _=>exact False.elim ty
abbrev OG (K:aq)(T:String)(r:V->List V->Hp->VK->Prop)(to:TE)(t:TA):TE:=λσ H Q=>to σ H λx H1=>Ma K T x H1/\t σ H1 λxs H2=>r x xs H2 Q
variable {o e:aC}{es:List aC}{to:TE}{t:TA}{name:Str}{apos cpos:Pos}{T id:String}{r:V->List V->Hp->VK->Prop}
def G1(pa:PlainAttrs T)(slot:Slot T name id)(Z:typeOf (.builtin id)=pure (.type "method_descriptor"))(hm:wg X id r)(ho:PE X o to)(ha:PA X (e::es) t)
  (L:attributeBase o name X.env (eval o X.env)=eval o X.env<|>ε)
  (U:(((backTo cpos<|starEach (e::es) X.env).all (λx=>!x.1) && (backToKw cpos<|keywordEach [] X.env).all (λx=>x.1.isSome)
   && decide ((e::es).length+([]:List Keyword).length+(if ([]:List Keyword).isEmpty then 0 else 1)<30))=true)<|>ε)
  (M:(apos.endLine == cpos.line)=true<|>ε) (hs:starEach (e::es) X.env=(false,eval e X.env)::starEach es X.env<|>ε) (J:((backTo cpos<|starEach es X.env).any (·.1)=false)<|>ε) :
  PE X (.Call (.Attribute o name apos) (e::es) [] cpos) (OG X.K T r to t):=by
 kt_k;refine wpAny_Call_method_late L U M rfl<|iP (ho pins s σ H _ I h) λv m ⟨x,H1,I1,r1,ty,g⟩=>?_;obtain⟨h1,p⟩:=IY I1 r1 ty;refine⟨T,id,pa,slot,Z,h1,p,?_⟩;have c:=ha cpos pins m σ H1 _ I1 g;rw[hs]at c ⊢;refine Calls.callWith_builtin (by show(false || (backTo cpos<|starEach es X.env).any (·.1))=false;rw[J]<;>rfl)<|Calls.evalArgs_plain ?_;exact iP c λus j ⟨d,H2,k,r2,f⟩=>hm pins j σ H2 x d v us Q k r1 r2 f
end
abbrev Oz (X:Cx)(id:String)(r:V->List V->Hp->VK->Prop):Prop:=
 ∀(pins:bp) (s:aA) (σ:St) (H:Hp) (x:V) (xs:List V) (v:aa) (us:ba) (Q:VK),Inv X pins σ H s->RelV x v->Vals xs us->r x xs H Q ->
  wpAny (model X.prog X.w) X.A (call (.builtin id) (v::us)) (EP X pins σ Q) X.xe s
def Vals.one:∀{x:V}{us:ba},Vals [x] us->∃u,us=[u]/\RelV x u
 | _,_,.cons r .nil=>⟨_,rfl,r⟩
theorem Vals.rep(h:Vals xs us):∀k:Nat,Vals (List.replicate k xs).flatten (List.replicate k us).flatten
 | 0=>.nil
 | k+1=>by
  rw[cF,cF,dz,dz];exact Vals.append h<|Vals.rep h k
theorem foldl_rep(its:ba):∀(k:Nat) (acc:ba),
  List.foldl (λx1 x2=>x1++x2) acc.toArray (List.replicate k its.toArray)=(acc++(List.replicate k its).flatten).toArray
 | 0,acc=>by simp
 | k+1,acc=>by
  have e:acc.toArray++its.toArray=(acc++its).toArray:=by simp
  have e2:(acc++its)++(List.replicate k its).flatten=acc++(List.replicate (k+1) its).flatten:=by
   rw[cF,dz,bG]
  rw[<- e2,<- foldl_rep its k (acc++its),<- e,cF,fJ]
section
variable {X:Cx}{pins:bp}{σ:St}{H:Hp}{s:aA}{l:aj}{xs ys:List V}
def Inv.Nf{its its':ba}{n:Nat}{f:Array aa->Array aa}{t':Nat}(I:Inv X pins σ H s)(j:H l=some (.lst xs))
  (e:s.heap.get? l=some { cls:=.type "list",data:=.seq its.toArray n }) (hf:f its.toArray=its'.toArray) (hv:Vals ys its') (hz:ys.length<=sizeLine) :
  Inv X pins σ (upd H l<|.lst ys) { s with heap:=s.heap.update l<|Obj.mapSeq f,toks:=t' }:=by
 have q:=PySem.IsL.update e f;rw[hf]at q;refine I.write (x:=l) (e:=l) (by rw[j];exact trivial) (.inl rfl) (λg u c d=>(cD s.heap (Obj.mapSeq f)<|eE c).trans d) ⟨_,q⟩ ?_;exact⟨hz,its',_,hv,q⟩
def Inv.J0{its:ba}{t':Nat}(I:Inv X pins σ H s)(hv:Vals ys its)(hz:ys.length<=sizeLine) :
  Inv X pins σ (upd H s.heap.objs.size<|.lst ys) { s with heap:=s.heap.push { cls:=.type "list",data:=.seq its.toArray },toks:=t' }:=
 I.laid (λ_ _ q=>aK _ q) (aL _) ⟨hz,its,0,hv,a_ _ rfl⟩
def Inv.fresh(I:Inv X pins σ H s):H s.heap.objs.size=none:=I.hok.fresh<|aL _
def Inv.Fl(I:Inv X pins σ H s)(j:H l=some (.lst xs)):xs.length<=sizeLine/\∃(its:ba) (n:Nat),Vals xs its/\xs.length=its.length/\s.heap.get? l=some { cls:=.type "list",data:=.seq its.toArray n }:=by
 obtain⟨z,its,n,r,e⟩:=I.hok l _ j;exact⟨z,its,n,r,r.length,e⟩
def DC{n:Nat}(h:n<=sizeLine):Builtin.List.listTooLong n=false:=by
 unfold Builtin.List.listTooLong;exact bz ()
end
section
variable {X:Cx}
abbrev Fx:V->List V->Hp->VK->Prop:=λx c H Q=>∃l xs y,x=.ref l/\c=[y]/\H l=some (.lst xs)/\xs.length<sizeLine/\Q .non (upd H l<|.lst<|xs++[y])
def sM:Oz X "list.append" Fx:=by
 intro pins s σ H x k v us Q I rx g h;obtain⟨l,xs,y,rfl,rfl,d,m,q⟩:=h
 cases rx
 obtain⟨u,rfl,f⟩:=g.one;obtain⟨z,c,n,r,j,e⟩:=I.Fl d;refine eU F.slot_list_append ⟨_,e,rfl⟩ F.entry_list_append (F.args_list_append_2 _ _) (PySem.list_append l c.toArray n u<|by rw[aU];lia) ⟨e,?_⟩;refine⟨.non,_,I.Nf (its':=c++[u]) d e (by simp) (r.append<|.cons f .nil) ?_,rfl,q⟩;rw[aS,List.length_singleton]
 lia
abbrev Nx:R2:=λx y H Q=>∃l b xs zs,x=.ref l/\y=.ref b/\H l=some (.lst xs)/\H b=some (.lst zs)/\xs.length+zs.length<=sizeLine/\∀p,H p=none->Q (.ref p) (upd H p<|.lst<|xs++zs)
def Hv:jh X (binaryOp .Add) Nx:=by
 gp_on;obtain⟨l,b,xs,zs,rfl,rfl,f,j,C,q⟩:=h
 cases rx
 cases ry
 obtain⟨z,d,n,r,m,e⟩:=I.Fl f;obtain⟨B,c,p,r2,k,e2⟩:=I.Fl j;refine PySem.P.add_list e e2 ?_ (by rw[aU,aU];lia);have g:d.toArray++c.toArray=(d++c).toArray:=by simp
 rw[g];exact⟨.ref _,_,I.J0 (t':=s.toks) (r.append r2)<|by rw[aS];lia,rfl,q _ I.fresh⟩
abbrev M3:R2:=λx y H Q=>∃l k xs,x=.ref l/\y=.int k/\H l=some (.lst xs)/\-(2 ^ 63)<=k/\k<2 ^ 63/\xs.length * k.toNat<=sizeLine /\
 ∀p,H p=none->Q (.ref p) (upd H p<|.lst (List.replicate k.toNat xs).flatten)
def len_rep{α:Type}(xs:List α)(k:Nat):(List.replicate k xs).flatten.length=k * xs.length:=by
 induction k with
 | zero=>simp
 | succ k c=>rw[cF,dz,aS,c,Nat.succ_mul,Nat.add_comm]
def HD:jh X (binaryOp .Mult) M3:=by
 gp_on;obtain⟨l,k,xs,rfl,rfl,J,h1,L,G,q⟩:=h
 cases rx
 obtain⟨t,rfl⟩:=ry;obtain⟨z,c,n,r,K,e⟩:=I.Fl J;have j:c.toArray.size * k.toNat<=sizeLine:=by rw[aU,<- K];exact G
 have f:¬c.toArray.size * k.toNat>(2 ^ 63-1) / 8:=by
  have:(sizeLine:Nat)<=(2 ^ 63-1) / 8:=by decide
  omega
 have p:¬(!Builtin.List.listFitsIndex k)=true:=by
  rw[fitsIndex_both h1 L];exact bE
 have d:¬Builtin.List.listTooLong (c.toArray.size * k.toNat)=true:=by
  rw[DC j];exact bE
 have g:List.foldl (λB C=>B++C) #[] (List.replicate (if c.toArray.isEmpty=true then 0 else k.toNat) c.toArray)=(List.replicate k.toNat c).flatten.toArray:=by
  have f0:∀m:Nat,List.foldl (λB C=>B++C) #[] (List.replicate m c.toArray)=(List.replicate m c).flatten.toArray:=λm=>by
   have:=foldl_rep c m [];rw[fK]at this;exact this
  rw[f0]
  cases c with
  | nil=>simp
  | cons a M=>rw[aI<|by simp]
 refine wpAny_binaryOp_repeat_ref (T := "list") (U := "int") ⋯ ⟨_,e,rfl⟩ (λs'=>typeIs_int s' k t) noFill_list_mul F.fills_int_mul F.slot_int_rmul repeat_list F.slot_int_index.lookup
  (eU F.slot_int_rmul (typeIs_int s k t) F.entry_int_rmul (F.args_int_rmul_2 _ _) (int___rmul___int_list k t l c.toArray n)
   ⟨e,rfl,⟨_,e,rfl⟩,eU F.slot_list_mul ⟨_,e,rfl⟩ F.entry_list_mul (F.args_list_mul_2 _ _) (AutoListH.list___mul___list_int_3 l c.toArray n k t p f d) ⟨e,?_⟩⟩)
 rw[g];exact⟨.ref _,_,I.J0 (t':=s.toks) (r.rep k.toNat)<|by rw[len_rep,Nat.mul_comm];exact G,rfl,q _ I.fresh⟩
end
end L2
namespace Att
open PySem PySem.W PySem.Calls PyProof.Rows
def pJ{P:Params}:∀(ns:ag) (vs:ba),WellAll P h vs (ns.map WData.int)->IntsAre vs ns:=by
 intro ns
 induction ns with
 | nil=>
  intro vs w;rw[map_nil]at w
  cases w
  exact .nil
 | cons n ns c=>
  intro vs w;rw[cQ]at w
  cases w with
  | cons a b=>
   cases a
   exact .cons _ _<|c _ b
theorem Ar{l:OpenLaw}{n:Nat}(hn:l.most=some n){P:Params}{h:ak}
  (J:l.row.toRowW.claim.pre args=true) (L:WellAll P h vals args) :
  ∃a vs ns,vals=[Value.ref a]/\args=[WData.list<|ns.map WData.int]/\h.get? a=some { cls:=.type "list",data:=.seq vs.toArray }/\IntsAre vs ns/\ns.length<=n:=by
 have j:WShape.hasAll [] args [.list .int]=true:=(pre_splitW J).1;have hc:l.pre.holds [] { args:=args }=true:=(pre_splitW J).2;obtain⟨d,r,rfl,h1,m⟩:=hasAllW_cons j;obtain rfl:=hasAllW_nil m;obtain⟨xs,rfl,C⟩:=hasW_list h1;obtain⟨ns,rfl⟩:=items_int C;have e:ns.length<=n:=by
  unfold OpenLaw.pre at hc;have g:(WTm.not<|.lt (.lit<|.int (n:Int))<|.len<|.arg 0).holds [] { args:=[.list<|ns.map .int]}=true:=by
   have g:=(holds_andW hc).1;rw[hn]at g;exact g
  have f:=condW_of g<|w_not<|w_lt w_lit<|w_len_list<|w_arg rfl;rw[aN]at f;refine fy λq=>?_;have k:(n:Int)<((ns.length:Nat):Int):=by omega
  first
   | (rw[bq k]at f;exact absurd f ⋯)
   | (simp at f;omega)
 cases L with
 | cons p F=>
  cases F
  cases p with
  | list B c=>exact⟨_,_,ns,rfl,rfl,B,pJ ns _ c,e⟩
def AU(l:OpenLaw)(args:List WData):l.row.toRowW.claim.post args (.bool true) args=true:=
 postW_of (r:=l.row.toRowW) (X:=(true == true))
  (show WShape.has [] (.bool true) .bool=true by first|rfl|decide|simp[WShape.has,WShape.arms,WShape.armsAll])
  (show(WTm.eq .res<|.lit<|.bool true).value [] { args:=args,res:=some<|.bool true,after:=args }=some (.bool<|true == true)from w_eq_bool (w_res rfl) w_lit) rfl
def vR{l:OpenLaw}{n:Nat}{q:ah}{XP:(Str->bi)->ak->Prop}{YP:af->ak->Prop}{d:DefRec}
  (hn:l.most=some n) (Z:d.params.defaults=[])
  (call:∀(w:af) (s₀ s₁:aA) (mg mb:Str->bi) (fa:aj) (o:Obj) (pm cd doc:aa) (a:aj) (vs:ba) (ns:ag),
   Ground q loose [] XP w s₀ mg mb s₁.heap->YP w s₁.heap ->
   s₁.heap.get? fa=some o->o.data=.func (docDef d.name d.params d.body d.scope pm cd doc)->s₁.heap.CodeRec cd d.name->mg d.name=some (.ref fa) ->
   s₁.heap.get? a=some { cls:=.type "list",data:=.seq vs.toArray }->IntsAre vs ns->ns.length<=n->s₁.gens=#[] ->
   codeAny (model l.prog w) callerA (.call (.ref fa) ⟨[.ref a],[]⟩) (λr s'=>r=.ok (.ret<|.bool true)/\OldK s₁.heap s'.heap/\s'.os=s₁.os/\AllBare s'.gens) s₁) :
  WalkO q loose XP YP l.row.toRowW d [] (λf vs=>PySem.call f vs):=by
 intro w s₀ s₁ mg mb G Y fa o pm cd doc N kV L hd m J k hg C B W e F V p P;obtain rfl:N=.none:=Dflts.none J Z;obtain rfl:kV=.none:=Dflts.noKw J;obtain⟨a,vs,ns,rfl,rfl,g,c,j⟩:=Ar hn e p;refine enter_call<|eF (call w s₀ s₁ mg mb fa o pm cd doc a vs ns G Y L (fd_plain hd) m k g c j hg) λr s' O=>?_;obtain⟨rfl,T,M,U⟩:=O;exact⟨.inl ⟨.bool true,.bool true,[],rfl,λ_=>rfl,.bool true,AU l _,λ_=>⟨List.Pairwise.nil,λ_ K=>(nomatch K)⟩⟩,T,M,U⟩
end Att
namespace L2
open PySem PySem.Spec PyProof.Rows
theorem sL:∀{vs:ba}{ns:ag},IntsAre vs ns->Vals (ns.map V.int) vs
 | _,_,.nil=>.nil
 | _,_,.cons n t h=>.cons ⟨t,rfl⟩<|sL h
abbrev F5 (H:Hp):Prop:=∀b,H b=none\/∃o xs,H b=some (.frz o<|.lst xs)
def BK{P:ah}{w:af}{K:aq}{mg mb:Str->bi}{CX:EE}{k:Nat}{fa a:aj}{x:Str}{sp:Sp}{s₁:aA}{vs:ba}{ns:ag}
  (KX:K.In s₁.heap) (hns:s₁.heap.Ns mainGlobals mg) (hb:s₁.heap.Ns builtinsNs mb) (hbb:∀x:Str,x ≠ "__name__" -> mb x=bootBuiltins x) (hlim:s₁.heap.NoLimit) (hg:s₁.gens=#[])
  (ha:s₁.heap.get? a=some { cls:=.type "list",data:=.seq vs.toArray }) (hi:IntsAre vs ns) (hl:ns.length<=sizeLine) (hr:Room k callerA)
  (F:∀base:ak,K.In base->base.Ns mainGlobals mg->FnOk P w K mg base CX k fa fd [x] sp) (hbind:∀(s:aA) (u:aa),BindsTo s fd ⟨[u],[]⟩ [(x,u)])
  (hsp:∀H:Hp,F5 H->kr K H a (ns.map V.int)->sp [.ref a] H (λv _=>v=.bl true) λ_ _ _=>False)
  (hCX:∀H e s',CX [] H s₁ (λ_ _ _=>False) e s'->False) :
  codeAny (model P w) callerA (.call (.ref fa) ⟨[.ref a],[]⟩) (λr s'=>r=.ok (.ret<|.bool true)/\OldK s₁.heap s'.heap/\s'.os=s₁.os/\AllBare s'.gens) s₁:=by
 have T:=sL hi;have G:=hi.length;have g:∀H:Hp,F5 H->kr K H a (ns.map V.int)->pZ P w H s₁.heap->(∀b,H b≠none->b=a)->(H a≠none->K.lookup a=none) ->
   codeAny (model P w) callerA (.call (.ref fa) ⟨[.ref a],[]⟩) (λr s'=>r=.ok (.ret<|.bool true)/\OldK s₁.heap s'.heap/\s'.os=s₁.os/\AllBare s'.gens) s₁:=by
  intro H O hS hok N hK;have c:∀{b:aj} {o:Obj},s₁.heap.get? b=some o->H b=none->(tZ s₁.heap H).get? b=some o:=λe n=>Bh e n;have M:∀{b:aj} {o:Obj} {es:Array DictEntry} {ep:Nat},s₁.heap.get? b=some o->o.data=.dict es ep->H b=none:=λ{b o es ep} e d=>by
   cases q:H b with
   | none=>rfl
   | some u=>
    have J:b=a:=N b (by rw[q];simp);subst J;rw[ha]at e;cases e;have d':Data.seq vs.toArray _=Data.dict es ep:=d
    cases d'
  have f:∀{b:aj} {m:Str->bi},s₁.heap.Ns b m->(tZ s₁.heap H).Ns b m:=λ{b m} ⟨o,es,ep,e,d,r⟩=>⟨o,es,ep,c e<|M e d,d,r⟩;have C:K.In (tZ s₁.heap H):=λb o e=>c (KX b o e) (by
   cases q:H b with
   | none=>rfl
   | some u=>
    have J:b=a:=N b (by rw[q];simp);subst J;rw[hK<|by rw[q];simp]at e;cases e)
  have Y:Mod K mg (tZ s₁.heap H):=⟨C,f hns,⟨mb,f hb,hbb⟩,let⟨mc,h1,h2⟩:=hlim;⟨mc,f h1,h2⟩⟩;have e0:Env0 P w K mg (tZ s₁.heap H) callerA [] s₁ H:=⟨rfl,Y,λb o e=>FW e,Nat.le_of_eq<|Ag _ _,trivial,λb hb=>absurd (show b∈([]:bb)from hb)<|by simp,hok,.of_eq hg⟩;refine eF ((F _ C<|f hns).run callerA [] s₁ H ⟨[.ref a],[]⟩ [.ref a] [.ref a] _ _ hr e0 (hbind s₁<|.ref a) (.cons rfl .nil)<|hsp H O hS) λr s' h=>?_
  cases r with
  | error e=>exact(hCX H e s' h).elim
  | ok fl=>
   cases fl with
   | next=>exact False.elim h
   | brk=>exact False.elim h
   | cont=>exact False.elim h
   | ret u=>
    obtain⟨v,H',os,B,un,j,W,q⟩:=h;have U:v=.bl true:=q;subst U;obtain rfl:u=Value.bool true:=W;refine⟨rfl,OldK.of_keep λb o e=>?_,os,B⟩
    cases q:H b with
    | none=>exact un.keep b o e q (by intro z;exact absurd (show b∈([]:bb)from z)<|by simp) (by simp)
    | some u=>
     rcases O b with z|⟨Z,xs,z⟩
     ·rw[q]at z;cases z
     ·have z2:=un.frzs b Z _ z;obtain⟨e1,_⟩:=hok b _ z;obtain⟨e2,_⟩:=j b _ z2;rw[e]at e1;cases e1;exact e2
 cases L:K.lookup a with
 | some o=>
  have e:=KX a o L;rw[ha]at e
  cases e
  refine g (λ_=>none) (λ_=>.inl rfl) (.inr ⟨_,vs.toArray,_,L,rfl,rfl,rfl,by rw[aU,G];exact hl,by simpa using T⟩) (λb u z=>by have p:(none:Option HO)=some u:=z;cases p) (λb z=>absurd rfl z) λz=>absurd rfl z
 | none=>
  refine g (λb=>if b=a then some (.frz { cls:=.type "list",data:=.seq vs.toArray } (.lst<|ns.map V.int))else none) (λb=>?_) (.inl<|.inr ⟨{ cls:=.type "list",data:=.seq vs.toArray },aJ rfl⟩) (λb u z=>?_) (λb z=>?_) λ_=>L
  ·by_cases hb:b=a
   ·exact .inr ⟨_,_,aJ hb⟩
   ·exact .inl<|aI hb
  ·by_cases hb:b=a
   ·have p:=(aJ hb).symm.trans z
    cases p
    subst hb;exact⟨ha,by rw[aN];exact hl,vs,_,T,ha⟩
   ·have p:=(aI hb).symm.trans z
    cases p
  ·by_cases hb:b=a
   ·exact hb
   ·exact absurd (aI hb) z
def EY{l:PySem.W.OpenLaw}{n k:Nat}{q:ah}{XP:(Str->bi)->ak->Prop}{YP:af->ak->Prop}{d:DefRec}{K:Params->aq}{CX:af->EE}{sp:af->Sp}{x:Str}
  (hn:l.most=some n) (hn2:n<=sizeLine) (hdf:d.params.defaults=[]) (hr:Room k callerA)
  (hY:∀(w:af) (h:ak),YP w h->(K w.params).In h)
  (F:∀(w:af) (mg:Str->bi) (fa:aj) (h:ak),(K w.params).In h->h.Ns mainGlobals mg->mg d.name=some (.ref fa) ->
   ∃fd:FuncData,(∀(s:aA) (u:aa),BindsTo s fd ⟨[u],[]⟩ [(x,u)]) /\
    ∀base:ak,(K w.params).In base->base.Ns mainGlobals mg->FnOk l.prog w (K w.params) mg base (CX w) k fa fd [x] (sp w))
  (hsp:∀(w:af) (H:Hp) (a:aj) (ns:ag),ns.length<=n->F5 H->kr (K w.params) H a (ns.map V.int)->sp w [.ref a] H (λv _=>v=.bl true) λ_ _ _=>False)
  (hCX:∀(w:af) (H:Hp) (s:aA) (e:aa) (s':aA),CX w [] H s (λ_ _ _=>False) e s'->False) :
  PySem.W.WalkO q loose XP YP l.row.toRowW d [] (λf vs=>PySem.call f vs):=by
 refine Att.vR hn hdf λw C p mg mb fa o pm cd P a vs ns G Y Z hd M B m j c hg=>?_;have J:=hY w _ Y;obtain⟨fd,N,L⟩:=F w mg fa _ J G.T.g B;exact BK J G.T.g G.T.b G.T.builtins G.T.nolimit hg m j (bU c hn2) hr L N (λH O U=>hsp w H a ns c O U) λH e s'=>hCX w H p e s'
abbrev mC (s:aE):Arguments:=match s with
 | .FunctionDef _ a _ _ _ _ _ _ _ _=>a
 | _=>{ posonlyargs:=[],args:=[],vararg:=none,kwonlyargs:=[],kw_defaults:=[],kwarg:=none,defaults:=[]}
abbrev jX (s:aE):List aE:=match s with
 | .FunctionDef _ _ b _ _ _ _ _ _ _=>b
 | _=>[]
abbrev gP (s:aE):Scope:=match s with
 | .FunctionDef _ _ _ _ _ _ c _ _ _=>c
 | _=>{ kind:=.function,names:=[],isGenerator:=false,isCoroutine:=false }
meta abbrev oq:EE:=λ_ _ _ _ _ _=>False
meta abbrev E0:XK:=λ_ _ _=>False
def KR:Passes oq X E0:=λ_ _ _ _ _ _ _ h=>h.elim
structure Fun (K:aq)(x qual:Str)(st:aE)(f:aj)(fd:FuncData):Prop where
 ex:∃(oc:aa) (od:Option aj) (kV doc pm:aa) (an:Option aj) (cdv ct:aa) (osl:Array<|bi),
  fd=PySem.W.fnOf x qual (mC st) (jX st) (gP st) .none kV doc pm an cdv ct/\K.lookup f=some ⟨oc,od,.func fd,osl⟩/\PySem.W.codeIn K cdv qual=true
 kp:PySem.W.keepIn K (.ref f)=true
section
variable {P:ah}{w:af}{K:aq}{mg:Str->bi}{base:ak}
def Fun.ok{x:Str}{st:aE}{f:aj}{N ps:ar}{k:Nat}{sp:Sp}(F:Fun K x qual st f fd)(S:FnScope N ps<|gP st)(len:∀vs H Q E,sp vs H Q E->vs.length=ps.length)
  (J:∀(cdv:aa) (A:az) (outer:List Env) (s:aA) (H:Hp) (vs:List V) (Q:VK) (E:XK),Room k (A.deeper<|envOfC qual (gP st) s.heap.objs.size f cdv)->sp vs H Q E ->
   ∃t,ue (xy oq P w K mg base N qual (gP st) f cdv A outer s H E).LD (jX st) t/\t { nx:=λ_ H'=>Q .non H',rt:=Q } (start N vs) H):FnOk P w K mg base oq (k+1) f fd ps sp:=by
 obtain⟨B,p,kV,j,G,C,cdv,ct,e,rfl,g,c⟩:=F.ex;refine Lv g c S len λA outer s H vs Q E m d=>?_;obtain⟨t,h,q⟩:=J cdv A outer s H vs Q E m d;exact⟨t,h.LD,q⟩
def Fun.binds{x:Str}{st:aE}{f:aj}{ps:ar}(F:Fun K x qual st f fd)
  (h:∀(kV doc pm:aa) (an:Option aj) (cdv ct:aa) (us:ba),us.length=ps.length->bindArgs (PySem.W.fnOf x qual (mC st) (jX st) (gP st) .none kV doc pm an cdv ct) ⟨us,[]⟩=pure (ps.zip us)):Binds K fd ps []:=by
 obtain⟨g,j,kV,doc,pm,an,cdv,ct,c,rfl,e,d⟩:=F.ex;exact .all<|h kV doc pm an cdv ct
def ID{x:Str}{st:aE}{f:aj}{kV ct:aa}(l:K.lookup f=some ⟨oc,od,.func<|PySem.W.fnOf x qual (mC st) (jX st) (gP st) .none kV doc pm an cdv ct,osl⟩)
  (c:PySem.W.codeIn K cdv qual=true) (k:PySem.W.keepIn K (.ref f)=true):Fun K x qual st f (PySem.W.fnOf x qual (mC st) (jX st) (gP st) .none kV doc pm an cdv ct):=⟨⟨oc,od,kV,doc,pm,an,cdv,ct,osl,rfl,l,c⟩,k⟩
end
section
variable {X:Cx}
def pv(i:Nat){x:Str}(J:X.N[i]?=some x<|>ε)(hv:Kh X.env.scope x:=by first|exact Or.inl rfl|exact Or.inr (Or.inl rfl)|exact Or.inr<|Or.inr rfl)(hd:(x == ("__debug__" : Str))=false:=by decide)
  (j:(x == ("__classdict__" : Str))=false:=by decide):PE X (.Name x pos) (Ku i):=Cv J hv hd j
end
set_option maxHeartbeats 4000000
abbrev IZ (σ:St):bo->Option V
 | some j=>(σ[j]?).getD none
 | none=>none
abbrev n8 (env:Env):List (Str×NameKind)->List (Str×aj)->List (Str×aj)
 | [],cs=>cs
 | (n,k)::r,cs=>n8 env r (if k == .free then(n,(env.cells.lookup n).getD 0)::cs else cs)
def xm{scope:Scope}{env:Env}(h:∀y∈scope.names,y.2=.free->∃c,env.cells.lookup y.1=some c):closureFor scope env=pure (n8 env scope.names []):=by
 have f:∀(l:List<|Str×NameKind) (d:List<|Str×aj),(∀y∈l,y.2=.free->∃c,env.cells.lookup y.1=some c) ->
   (forIn l d (λ(x:Str×NameKind) (r:List<|Str×aj)=>(match x with
    | (name,kind)=>if (kind == NameKind.free)=true then(do let c <- cellOf env name;pure (ForInStep.yield ((name,c)::r)))else pure (ForInStep.yield r):Sem<|ForInStep<|List<|Str×aj)))=(pure (n8 env l d):Sem<|List<|Str×aj):=by
  intro l
  induction l with
  | nil=>intro d _;rfl
  | cons y r j=>
   intro d e;obtain⟨n,k⟩:=y;rw[List.forIn_cons];by_cases p:k=.free
   ·subst p;obtain⟨c,hc⟩:=e (n,.free) aQ rfl;have e1:cellOf env n=pure c:=by
     unfold cellOf;rw[hc]
    dsimp[bg,b9,e1,pure_bind];rw[j _ λz g=>e z<|aV _ g];dsimp[n8,bg,b9,hc,fB]
   ·have m:(k == NameKind.free)=false:=by simpa using p
    dsimp[m,br,cg,pure_bind];rw[j _ λz g=>e z<|aV _ g];dsimp[n8,m,br,cg]
 have:=f scope.names [] h;exact(bQ (λz=>z >>= λd=>(pure d:Sem<|List<|Str×aj)) this).trans (pure_bind _ _)
theorem qV:∀{l:List<|Str×NameKind}{x:Str}{k:NameKind},l.lookup x=some k->(x,k)∈l
 | [],_,_,h=>nomatch h
 | (n,k')::r,x,k,h=>by
  rw[c5]at h
  cases c:x == n with
  | true=>
   rw[c]at h;have e:x=n:=by simpa using c
   subst e
   cases h
   exact aQ
  | false=>rw[c]at h;exact aV _<|qV h
theorem rV{env:Env}{x:Str}:∀{l:List<|Str×NameKind}{cs:List<|Str×aj},(∀y∈l,y.2=.free->∃c,env.cells.lookup y.1=some c)->(n8 env l cs).lookup x=some c->env.cells.lookup x=some c\/cs.lookup x=some c
 | [],cs,_,h=>.inr h
 | (n,k)::r,cs,hl,h=>by
  have h':=rV (l:=r) (λz j=>hl z<|aV _ j) h
  rcases h' with h'|h'
  ·exact .inl h'
  ·by_cases f:k=.free
   ·subst f;dsimp[bg,b9]at h';obtain⟨m,hc⟩:=hl (n,.free) aQ rfl;rw[hc,fB,c5]at h'
    cases d:x == n with
    | true=>
     rw[d]at h';have e:x=n:=by simpa using d
     subst e;left;rw[hc];exact h'
    | false=>rw[d]at h';exact .inr h'
   ·have g:(k == NameKind.free)=false:=by simpa using f
    dsimp[g,br,cg]at h';exact .inr h'
theorem rY{env:Env}{x:Str}:∀{l:List<|Str×NameKind}{cs:List<|Str×aj},(cs.lookup x).isSome=true->((n8 env l cs).lookup x).isSome=true
 | [],cs,h=>h
 | (n,k)::r,cs,h=>by
  skip
  refine rY (l:=r) ?_;by_cases c:(k == NameKind.free)=true
  ·rw[aJ c,c5]
   cases d:x == n with
   | true=>rfl
   | false=>exact h
  ·rw[aI c];exact h
theorem qS{env:Env}{x:Str}:∀{l:List<|Str×NameKind}{cs:List<|Str×aj},(x,NameKind.free)∈l->((n8 env l cs).lookup x).isSome=true
 | [],_,h=>nomatch h
 | (n,k)::r,cs,h=>by
  rcases bH.mp h with e|h
  ·cases e
   skip
   refine rY (l:=r) ?_;rw[aJ<|by rfl,c5];simp
  ·exact qS (l:=r) h
theorem ni:∀(names:List<|Str×NameKind) (n:Nat) (acc:List<|Str×aj),cellsFrom n names acc=cellsFrom n names []++acc
 | [],_,_=>rfl
 | (x,k)::r,n,acc=>by
  unfold cellsFrom;split
  ·rw[ni r (n+1) ((x,n)::acc),ni r (n+1) [(x,n)],bG];rfl
  ·exact ni r n acc
theorem wM:∀(names:List<|Str×NameKind) (n:Nat) {x:Str}{c:aj},(x,c)∈cellsFrom n names []->(x,NameKind.cell)∈names
 | [],_,_,_,h=>nomatch h
 | (y,k)::r,n,x,c,h=>by
  unfold cellsFrom at h;split at h
  ·rename_i d;rw[ni]at h
   rcases bh.mp h with z|z
   ·exact aV _ (wM r _ z)
   ·rw[aR]at z
    cases z
    have:k=.cell:=by simpa using d
    rw[this];exact aQ
  ·exact aV _<|wM r _ h
theorem nU{α:Type}{x:Str}:∀{l m:List<|Str×α},(l++m).lookup x=match l.lookup x with|some c=>some c|none=>m.lookup x
 | [],_=>rfl
 | (y,c)::l,m=>by
  rw[List.cons_append,c5,c5]
  cases x == y with
  | true=>rfl
  | false=>exact nU
def E2{n:Nat}{acc:List<|Str×aj}{x:Str}(h:(cellsFrom n names acc).lookup x=some c):(cellsFrom n names []).lookup x=some c\/((cellsFrom n names []).lookup x=none/\acc.lookup x=some c):=by
 rw[ni,nU]at h
 cases e:(cellsFrom n names []).lookup x with
 | some d=>rw[e]at h;exact .inl h
 | none=>rw[e]at h;exact .inr ⟨rfl,h⟩
def Jy{n:Nat}{acc:List<|Str×aj}{x:Str}(h:(x,NameKind.cell)∉names):(cellsFrom n names acc).lookup x=acc.lookup x:=by
 rw[ni,nU]
 cases e:(cellsFrom n names []).lookup x with
 | some d=>exact absurd (wM names n<|bY e) h
 | none=>rfl
def F3{A:az}{E:aa->aA->Prop}{s:aA}{scope:Scope}{j:aj}{cl:List<|Str×aj}{env:Env}{Q:Env->aA->Prop}
  (J:∀h':ak,h'.Ns s.heap.objs.size (λ_=>none)->(∀b o,s.heap.get? b=some o->h'.get? b=some o)->CellsOk h' (s.heap.objs.size+1) (cellsFrom (s.heap.objs.size+1) scope.names []) ->
   Q (newEnv scope s.heap.objs.size j (cellsFrom (s.heap.objs.size+1) scope.names cl) qual none .none (some env) builtinsNs) { s with heap:=h',toks:=s.toks+([]:List<|Str×aa).length }) :
  wpAny M A (newFunctionEnv scope j cl [] qual none .none<|some env) Q E s:=by
 dsimp[newFunctionEnv,Option.isSome_some,b9];refine aF<|wpAny_alloc ?_;refine aF (wpAny_layCells _ (λname kind d=>by cases c:kind == NameKind.cell<;>simp[c]) _ _ _ _ ?_);have ok:=cellsFrom_ok scope.names (s.heap.push { cls:=.type "dict",data:=.dict #[]}) (s.heap.objs.size+1) [] ⟨λ_ _ f=>(nomatch f),List.Pairwise.nil⟩ (by rw[cE];exact aL _);rw[cE]at ok;rw[show({ s with heap:=s.heap.push { cls:=.type "dict",data:=.dict #[]}}:aA).heap.objs.size=s.heap.objs.size+1 from cE ..];rw[List.forIn_nil];refine aF<|aH<|aH ?_;exact J _ ((Heap.Ns.new s.heap<|.type "dict").keeps<|pushCells_keeps _ _) (λb o e=>pushCells_keeps _ _ b o<|aK _ e) ok
abbrev ji (X:Cx)(scope:Scope)(N:ar)(C:aj)(s₀:aA)(H₀:Hp)(ex:bb):Cx where
 prog:=X.prog
 w:=X.w
 K:=X.K
 mg:=X.mg
 base:=X.base
 A:=X.A
 N:=N
 s₀:=s₀
 H₀:=H₀
 env:=compEnvC scope (cellsFrom (C+1) scope.names<|n8 X.env scope.names []) C X.env
 outer:=X.stack
 stack:=X.stack
 ex:=ex
 fn:=λx=>scope.names.lookup x == some .cell
 calm:=X.calm
 pn:=[]
 xe:=λ_ _=>False
structure CpScope (X:Cx)(scope:Scope)(N:ar)(cap:List (bo)):Prop where
 kind:scope.kind=.function
 nocf:∀x,(x,NameKind.free)∈scope.names->(x,NameKind.cell)∉scope.names
 nm:∀y∈scope.names,y.2=.local->scope.names.lookup y.1=some .local
 fr:∀y∈scope.names,y.2=.free->X.env.kindOf y.1=some .cell\/X.env.kindOf y.1=some .free
 rl:∀y,((relabel scope X.env).names.lookup y=some .cell\/(relabel scope X.env).names.lookup y=some .free)->(y,NameKind.free)∈scope.names\/scope.names.lookup y=some .cell
 len:cap.length=N.length
 nolf:∀x,(x,NameKind.free)∈scope.names->scope.names.lookup x≠some .local
 cp:∀(i j:Nat) (x:Str),N[i]?=some x->cap[i]?=some (some j)->X.N[j]?=some x/\(x,NameKind.free)∈scope.names
def Jr{scope:Scope}{N:ar}{cap:List<|bo}{H:Hp}{s:aA}{fp:bb}{h₁:ak}{m:Str->bi}{tk:Nat}(S:CpScope X scope N cap)(I:Inv X pins σ H s)
  (hf:∀b∈fp,o4 X pins H b) (ho:∀b∈fp,∃o,s.heap.get? b=some o) (hn:h₁.Ns s.heap.objs.size m) (hC:CellsOk h₁ (s.heap.objs.size+1)<|cellsFrom (s.heap.objs.size+1) scope.names []) (hk:∀b o,s.heap.get? b=some o->h₁.get? b=some o) :
  Inv (ji X scope N s.heap.objs.size s H fp) [] (cap.map<|IZ σ) H { s with heap:=h₁,toks:=tk }:=by
 have F:∀y∈scope.names,y.2=.free->∃c,X.env.cells.lookup y.1=some c:=λy hy e=>I.ok.has _<|S.fr y hy e;have Z:∀x c,(n8 X.env scope.names []).lookup x=some c->X.env.cells.lookup x=some c:=λx c e=>by
  rcases rV F e with z|z
  ·exact z
  ·cases z
 have f:∀x c,(cellsFrom (s.heap.objs.size+1) scope.names<|n8 X.env scope.names []).lookup x=some c->((x,c)∈cellsFrom (s.heap.objs.size+1) scope.names []/\h₁.IsCell c none/\s.heap.objs.size+1<=c)\/X.env.cells.lookup x=some c:=λx c e=>by
  rcases E2 e with z|z
  ·exact .inl ⟨bY z,hC.empty x c<|bY z⟩
  ·exact .inr<|Z x c z.2
 have old:∀x c,X.env.cells.lookup x=some c->c<s.heap.objs.size:=λx c e=>by
  obtain⟨v,z⟩:=I.cell x c e;exact z.lt
 have lt:∀b o,s.heap.get? b=some o->b≠s.heap.objs.size:=λb o e=>bw<|bf e;refine⟨⟨I.ok.mod,?_,I.ok.glob,I.ok.blt,aL _,?_,?_,?_,I.ok.hd,I.ok.frames,.inl rfl,?_,I.bs,bU I.ok.bsz I.sz,?_,?_,I.stack,I.zp⟩,rfl,I.bare,Un.kept hk,?_,?_,I.hok.fresh<|aL _,?_,?_,I.hok.kept hk,?_⟩
 ·exact S.kind
 ·intro x y c e1 e2
  rcases f x c e1 with a|a
  ·rcases f y c e2 with b|b
   ·exact name_of_addr hC.apart a.1 b.1
   ·exact absurd (old y c b)<|Nat.not_lt.mpr<|eB a.2.2
  ·rcases f y c e2 with b|b
   ·exact absurd (old x c a) (Nat.not_lt.mpr<|eB b.2.2)
   ·exact I.ok.inj x y c a b
 ·intro x e;refine dG.mp (dQ _ _ _ ?_)
  rcases S.rl x e with B|B
  ·exact .inr (qS (env:=X.env) (cs:=[]) B)
  ·exact .inl B
 ·intro x c e J;have e:scope.names.lookup x=some .cell:=by
   have e:(scope.names.lookup x == some .cell)=true:=e;simpa using e
  obtain⟨d,hd⟩:=dG.mp<|dQ scope.names (s.heap.objs.size+1) []<|.inl e;have J:(cellsFrom (s.heap.objs.size+1) scope.names<|n8 X.env scope.names []).lookup x=some c:=J;rw[ni,nU,hd]at J
  cases J
  exact eB (hC.empty x c<|bY hd).2
 ·intro b K;obtain⟨o,e⟩:=ho b K;refine⟨lt b o e,λx c e2=>?_⟩
  rcases f x c e2 with z|z
  ·exact gh (lt_trans (bf e) z.2.2)
  ·exact(hf b K).2.2.2.2.1 x c z
 ·intro b o e K;obtain⟨_,_,_,h3,_⟩:=hf b K
  rcases h3 with z|z
  ·exact I.ok.noex b o e z
  ·exact absurd (bB (bf (I.ok.bs b o e).1) z)<|eO _
 ·intro b K hz;obtain⟨_,h1,P,_⟩:=hf b K
  rcases bH.mp (I.xo b hz)with z|z
  ·exact h1 z
  ·exact P z
 ·refine⟨m,hn,λi x v e1 e2 e3=>?_⟩;rw[aY]at e2
  cases hc:cap[i]? with
  | none=>rw[hc]at e2;cases e2
  | some oj=>
   rw[hc]at e2
   cases oj with
   | none=>cases e2
   | some j=>
    have q:(σ[j]?).getD none=some v:=aX e2;obtain⟨hj,B⟩:=S.cp i j x e1 hc;obtain⟨m0,hn0,V⟩:=I.loc;have U:σ[j]?=some (some v):=by
     cases h:σ[j]? with
     | none=>rw[h]at q;cases q
     | some z=>rw[h,fB]at q;rw[q]
    have L:=S.fr (x,.free) B rfl;have hv:Kh X.env.scope x:=.inr L;obtain⟨u,ru,lo⟩:=V j x v hj U hv;refine⟨u,ru,?_⟩
    rcases lo with⟨lo,_⟩|⟨_,c,J,ic⟩
    ·rcases L with z|z<;>(rw[z]at lo;cases lo)
    ·have P:=qS (env:=X.env) (cs:=[]) B;obtain⟨W,G⟩:=dG.mp P;have:W=c:=aX<|(Z x W G).symm.trans J;subst this;refine .inr ⟨?_,W,(Jy<|S.nocf x B).trans G,?_⟩
     ·rcases e3 with z|z|z
      ·exfalso;have:(relabel scope X.env).names.lookup x=some .local:=z;have M:scope.names.lookup x=some .local:=by
        have O:∃k,(x,k)∈(relabel scope X.env).names/\k=.local:=by
         clear G P;have:=qV this;exact⟨_,this,rfl⟩
        obtain⟨k,Y,rfl⟩:=O;obtain⟨⟨n',k'⟩,T,g⟩:=eG.mp Y;dsimp only at g;split at g
        ·cases g
        ·cases g
         exact S.nm (x,.local) T rfl
       exact False.elim<|S.nolf x B M
      ·exact .inl z
      ·exact .inr z
     ·obtain⟨o,C,hd⟩:=ic;exact⟨o,hk _ _ C,hd⟩
 ·intro x c e
  rcases f x c e with z|z
  ·exact⟨_,z.2.1⟩
  ·obtain⟨v,o,C,hd⟩:=I.cell x c z;exact⟨v,o,hk _ _ C,hd⟩
 ·intro x c e
  rcases f x c e with z|z
  ·exact I.hok.fresh (eB z.2.2)
  ·exact I.freeC x c z
 ·intro p hp
  cases hp
 ·rw[aN,S.len];rfl
abbrev Ke (X:Cx)(ifs:List aC)(t:TT):Prop:=
 ∀(pins:bp) (s:aA) (σ:St) (H:Hp) (Q:Bool->Hp->Prop),Inv X pins σ H s->t σ H Q ->
  wpAny (model X.prog X.w) X.A (forIn ifs true λc r=>if r=true then do let ok <- isTrue c X.env (eval c X.env);pure (ForInStep.yield ok)else pure (ForInStep.yield r)) (TP X pins σ Q) X.xe s
abbrev MI:TT:=λ_ H Q=>Q true H
def Fg:Ke X [] MI:=λ_ _ _ H _ I h=>wpAny_tests_nil ⟨H,I,h⟩
abbrev IF (cap:List<|bo)(g:TG)(tc:TT)(te:TE)(σ:St)(Q:VK)(J:It)(H1:Hp):Prop:=∀D,H1 D=none ->
 ∃W:Nat->Nat->St->Hp->Prop,(∃m,W 0 m (cap.map<|IZ σ)<|upd H1 D<|.lst [])/\∀i m d H',W i m d H' ->
  (J.stop i H'/\Q (.ref D) H')\/(J.go i H'/\∀x H2,J.yld i H' x H2->g x d H2 λc k=>tc c k λb f=>
   if b=true then te c f λy j=>∃ys,j D=some (.lst ys)/\ys.length<sizeLine/\∃e,e<m/\W (i+1) e c (upd j D<|.lst<|ys++[y])
   else ∃e,e<m/\W (i+1) e c f)
abbrev Lm (cap:List<|bo)(j:TI)(g:TG)(tc:TT)(te:TE):TE:=λσ H Q=>j σ H<|IF cap g tc te σ Q
def Fp{α:Type}{t:Sem α}{Q Q':α->aA->Prop}{A:az}{E:aa->aA->Prop}(h:wpAny M A t Q (λ_ _=>False) s)(j:∀a s,Q a s->Q' a s):wpAny M A t Q' E s:=
 fS h j λ_ _ f=>f.elim
structure TurnG (ok:Cx->Prop)(P:ah)(w:af)(K:aq)(tg:aC)(J:It)(fp:bb)(it:aj)(tn:Nat->ak->Prop):Prop where
 obj:∀i h,tn i h->∀b∈fp,∃o,h.get? b=some o/\∀v,o.data≠.cell v
 keep:∀i h h',tn i h->(∀b∈fp,∀o,h.get? b=some o->h'.get? b=some o)->tn i h'
 item:∀(X:Cx),X.prog=P->X.w=w->X.K=K->ok X->∀(i:Nat) (pins:bp) (s:aA) (σ:St) (H:Hp) (E:aa->aA->Prop),Inv X pins σ H s->(∀b∈fp,o4 X pins H b)->tn i s.heap->J.go i H ->
  wpAny (model P w) X.A (pyNext<|.ref it) (λr s1=>∃u,r=some u /\
   wpAny (model P w) X.A (letOwnedTupleGo tg (.ref it) u) (λ_ s2=>∃x H',Inv X pins σ H' s2/\RelV x u/\J.yld i H x H'/\tn (i+1) s2.heap/\∀b∈fp,H' b=none) E s1) E s
 done:∀(X:Cx),X.prog=P->X.w=w->X.K=K->ok X->∀(i:Nat) (pins:bp) (s:aA) (σ:St) (H:Hp) (E:aa->aA->Prop),Inv X pins σ H s->(∀b∈fp,o4 X pins H b)->tn i s.heap->J.stop i H ->
  wpAny (model P w) X.A (pyNext<|.ref it) (λr s1=>r=none/\Inv X pins σ H s1) E s
 self:∀(A:az) (i:Nat) (s:aA) (Q:aa->aA->Prop) (E:aa->aA->Prop),tn i s.heap->Q (.ref it) s->wpAny (model P w) A (pyIter<|.ref it) Q E s
abbrev MP (ok:Cx->Prop)(X:Cx)(pins:bp)(σ:St)(tg:aC)(R:It->Hp->Prop)(j:aa)(L:aA):Prop:=
 ∃(it:aj) (fp:bb) (c:Nat->ak->Prop) (J:It) (H':Hp),j=.ref it/\Inv X pins σ H' L/\TurnG ok X.prog X.w X.K tg J fp it c/\c 0 L.heap/\(∀b∈fp,o4 X pins H' b)/\R J H'
abbrev M7 (ok:Cx->Prop)(X:Cx)(tg iter:aC)(j:TI):Prop:=
 ∀(pins:bp) (s:aA) (σ:St) (H:Hp) (R:It->Hp->Prop),Inv X pins σ H s->j σ H R ->
  wpAny (model X.prog X.w) X.A (eval iter X.env) (λv c=>wpAny (model X.prog X.w) X.A (pyIter v) (MP ok X pins σ tg R) X.xe c) X.xe s
def PI.g{iter:aC}{L:TI}(h:PI X tg iter L):M7 (λY=>Y.calm=true) X tg iter L:=λpins s σ H R I q=>
 iP (h pins s σ H R I q) λv m h1=>iP h1 λd k ⟨it,fp,j,J,H',e,f,T,a,b,c⟩=>⟨it,fp,j,J,H',e,f,⟨T.obj,T.keep,T.item,T.done,T.self⟩,a,b,c⟩
def zR{ok:Cx->Prop}{X:Cx}{use:Option<|aa->Sem Unit}{Q':aa->aA->Prop}{iter:aC}{N:ar}{wi:TI}{g:TG}{tc:TT}{te:TE}(S:CpScope X scope N cap)(hok:∀C s₀ H₀ ex,(∀a o u,X.H₀ a=some (.frz o u)->H₀ a=some (.frz o u))->ok (ji X scope N C s₀ H₀ ex))(hi:M7 ok X tg iter wi)
  (hg:∀C s₀ H₀ ex,PG (ji X scope N C s₀ H₀ ex) tg g) (ht:∀C s₀ H₀ ex,Ke (ji X scope N C s₀ H₀ ex) ifs tc) (he:∀C s₀ H₀ ex,PE (ji X scope N C s₀ H₀ ex) elt te)
  (hs:(∀x,foldedSetIterable iter X.env x=pure x)<|>ζ):∀(pins:bp) (s:aA) (σ:St) (H:Hp) (Q:VK),Inv X pins σ H s->Lm cap wi g tc te σ H Q ->
  (∀(s6:aA) (C D:aj) (H5:Hp) (m:Str->bi),s6.heap.Ns C m->o4 X pins H5 C->(∀h',Heap.SameBut C s6.heap h'->Inv X pins σ H5 { s6 with heap:=h' })->Q (.ref D) H5->∀v,compPost (model X.prog X.w) X.A X.xe use Q' (.ref D) C (.ok v) s6) ->
  wpAny (model X.prog X.w) X.A (comprehension (.ListComp elt [⟨tg,iter,ifs,0⟩] scope pos) scope X.env (firstIterPos [⟨tg,iter,ifs,0⟩] pos) (newList []) (firstAsync [⟨tg,iter,ifs,0⟩]) (firstIter [⟨tg,iter,ifs,0⟩] X.env) use) Q' X.xe s:=by
 intro pins s σ H Q I h hfin;have hfree:∀y∈scope.names,y.2=.free->∃c,X.env.cells.lookup y.1=some c:=λy hy e=>I.ok.has _<|S.fr y hy e;refine wpAny_comprehension_free (use:=use) rfl hs (xm hfree) S.kind S.nm<|iP (hi pins s σ H _ I h) λxv s1 h1=>iP h1 λitv f h2=>?_;obtain⟨it,fp,tn,J,H2,rfl,I2,T,st2,f2,h2⟩:=h2;refine bP<|F3 λV B old F=>?_;obtain⟨W,⟨m0,w0⟩,turn⟩:=h2 f.heap.objs.size I2.fresh;dsimp only at B old F ⊢;have I3:Inv X pins σ (upd H2 f.heap.objs.size<|.lst []) { f with heap:=f.heap.push {}}:=I2.J0 (t':=f.toks) (its:=[]) .nil<|b_ _;have hfp:∀b∈fp,∃o,f.heap.get? b=some o:=λb j=>by
  obtain⟨o,e,_⟩:=T.obj 0 _ st2 b j;exact⟨o,e⟩
 have neD:∀b∈fp,b≠f.heap.objs.size:=λb j=>by
  obtain⟨o,e⟩:=hfp b j;exact bw<|bf e
 have f3:∀b∈fp,o4 X pins (upd H2 f.heap.objs.size<|.lst []) b:=λb j=>⟨by rw[gS<|neD b j];exact(f2 b j).1,(f2 b j).2⟩;have hDC:f.heap.objs.size≠(f.heap.push {}).objs.size:=by rw[cE];exact bw (c6 _)
 have I4:=Jr (tk:=f.toks+([]:List<|Str×aa).length) (fp:=fp) S I3 f3 (λb j=>by
  obtain⟨o,e⟩:=hfp b j;exact⟨o,aK _ e⟩) B F old
 have st4:tn 0 V:=T.keep _ _ _ st2 λb j o e=>old b o<|aK _ e;have hc:=hok (f.heap.push {}).objs.size { f with heap:=f.heap.push {}} (upd H2 f.heap.objs.size<|.lst []) fp λa o u e=>by
  have z:=I2.base.frzs a o u e;rw[gS λq=>by rw[q,I2.fresh]at z;cases z];exact z
 have O:∀{H':Hp},(∀b∈fp,H' b=none)->∀b∈fp,o4 (ji X scope N (f.heap.push {}).objs.size { f with heap:=f.heap.push {}} (upd H2 f.heap.objs.size<|.lst []) fp) [] H' b:=λhn b j=>by
  have ok:=I4.ok;refine⟨hn b j,(ok.exf b j).1,ok.exfs b j,.inl j,λx c e=>(ok.exf b j).2 x c e,λp hp=>nomatch hp⟩
 have Y:∀s4:aA,s4={ f with heap:=V,toks:=f.toks+([]:List<|Str×aa).length } ->
   codeAny (model X.prog X.w) X.A (.compLoop (.ListComp elt [⟨tg,iter,ifs,0⟩] scope pos) 0 (.ref it) (.ref f.heap.objs.size)<|compEnvC scope (cellsFrom ((f.heap.push {}).objs.size+1) scope.names<|n8 X.env scope.names []) (f.heap.push {}).objs.size X.env)
    (compPost (model X.prog X.w) X.A X.xe use Q' (.ref f.heap.objs.size) (f.heap.push {}).objs.size) s4:=by
  rintro s4 rfl;refine codeAny_loop rfl (λn s'=>∃i M H',Inv (ji X scope N (f.heap.push {}).objs.size { f with heap:=f.heap.push {}} (upd H2 f.heap.objs.size<|.lst []) fp) [] M H' s'/\tn i s'.heap/\(∀b∈fp,H' b=none)/\W i n M H') (λn s5 hI=>?_) m0 ⟨0,_,_,I4,st4,λb j=>(f3 b j).1,w0⟩;obtain⟨i,U,H5,I5,st5,fr5,w5⟩:=hI;show wpAny _ X.A ((compTurn (.ListComp elt [⟨tg,iter,ifs,0⟩] scope pos) 0 (.ref it) (.ref f.heap.objs.size)<|compEnvC scope (cellsFrom ((f.heap.push {}).objs.size+1) scope.names<|n8 X.env scope.names []) (f.heap.push {}).objs.size X.env).onRaise λx=>do noteFrame x _;theTreesLotGoes x) _ _ s5;refine wpAny_noted ?_;rw[compTurn_list];refine aF (wpAny_standAt<|aF ?_)
  rcases turn i n U H5 w5 with⟨stop,q⟩|⟨go,step⟩
  ·refine iP (T.done (ji X scope N (f.heap.push {}).objs.size { f with heap:=f.heap.push {}} (upd H2 f.heap.objs.size<|.lst []) fp) rfl rfl rfl hc i [] s5 U H5 _ I5 (O fr5) st5 stop) λr s6 h9=>?_;obtain⟨hr,I6⟩:=h9;subst hr;obtain⟨m6,hn6,_⟩:=I6.loc;refine aH<|hfin s6 _ _ H5 m6 hn6 (I3.AY (aL _) I6.free) (λh' sb=>?_) q _;have u6:=I6.base;have nC:∀b o,(f.heap.push {}).get? b=some o->b≠(f.heap.push {}).objs.size:=λb o e=>bw<|bf e;refine I3.Hf (ch:=fp) I6.os ⟨λb o e n j Z=>?_,λb o e n j Z=>?_,λb o e n Z=>?_,λb o e Z=>?_,u6.tups,u6.frzs,u6.tbls⟩ ?_ I6.bare ?_
   ·exact sb.extBut b o (nC b o e) (u6.keep b o e n j Z)
   ·obtain⟨sl,z⟩:=u6.slot b o e n j Z;exact⟨sl,sb.extBut b _ (nC b o e) z⟩
   ·exact u6.free b o e n Z
   ·obtain⟨o',z⟩:=u6.there b o e Z;exact⟨o',sb.extBut b _ (nC b o e) z⟩
   ·intro b o e;have j:∀c v,H5 c=some v->c≠(f.heap.push {}).objs.size:=λc v e z=>by
     rw[z]at e;have:=I6.free;rw[show H5 (f.heap.push {}).objs.size=none from this]at e
     cases e
    refine(I6.hok b o e).stay (λc v hc q=>sb.extBut c v ?_ q) (λ_ q=>q) λ_ _ q=>q
    rcases hc with z|z
    ·rw[z];exact j b o e
    ·exact j c _ z
   ·intro b j;obtain⟨_,z1,_,z3,z4,z5⟩:=f3 b j;exact⟨z3,z1,z4,z5⟩
  ·refine iP (T.item (ji X scope N (f.heap.push {}).objs.size { f with heap:=f.heap.push {}} (upd H2 f.heap.objs.size<|.lst []) fp) rfl rfl rfl hc i [] s5 U H5 _ I5 (O fr5) st5 go) λr s6 h9=>?_;obtain⟨u,hr,h6⟩:=h9;subst hr;refine aF<|iP h6 λ_ s7 ⟨x,H7,I7,r7,y7,st7,fr7⟩=>?_;have I7':=I7.pinned (O fr7)<|T.obj _ _ st7;refine aF<|Fp (hg _ _ _ fp _ s7 U H7 x u _ I7' r7<|step x H7 y7) λ_ s8 ⟨K,H8,I8,q8⟩=>?_;refine aF<|Fp (ht _ _ _ fp _ s8 K H8 _ I8 q8) λok s9 ⟨H9,I9,q9⟩=>?_;have P:∀{G:aA} {k:Hp},Inv (ji X scope N (f.heap.push {}).objs.size { f with heap:=f.heap.push {}} (upd H2 f.heap.objs.size<|.lst []) fp) ([]++qX fp s7.heap) K k G->(∃m',m'<n/\W (i+1) m' K k) ->
     ∃m,m<n/\∃i M H',Inv (ji X scope N (f.heap.push {}).objs.size { f with heap:=f.heap.push {}} (upd H2 f.heap.objs.size<|.lst []) fp) [] M H' G/\tn i G.heap/\(∀b∈fp,H' b=none)/\W i m M H':=λ{G k} L h9=>by
    obtain⟨m',hm,w10⟩:=h9;refine⟨m',hm,i+1,K,k,L.lA,T.keep _ _ _ st7 λb j o e=>(L.pin (b,o)<|bD _<|bD _<|jH j e).1,λb j=>?_,w10⟩;obtain⟨o,e,d⟩:=T.obj _ _ st7 b j;exact(L.pin (b,o)<|bD _<|bD _<|jH j e).2.1
   cases ok with
   | false=>
    rw[aI bE]at q9;exact aH ⟨rfl,P I9 q9⟩
   | true=>
    rw[aJ rfl]at q9;refine aF<|aF<|Fp (he _ _ _ fp _ s9 K H9 _ I9 q9) λy G ⟨v10,k,L,r10,ys,hD,hz,w10⟩=>?_;refine aF<|Fp (sM _ G K k (.ref f.heap.objs.size) [v10] _ [y] (λ_ H'=>H'=upd k f.heap.objs.size (.lst<|ys++[v10])) L rfl (.cons r10 .nil) ⟨_,ys,v10,rfl,rfl,hD,hz,rfl⟩) λ_ s11 ⟨_,H11,I11,_,e11⟩=>?_;subst e11;exact aH<|aH ⟨rfl,P I11 w10⟩
 exact codeAny_compStart_list (Y _ rfl)<|T.self _ 0 _ _ _ st4<|Y _ rfl
def IS{ok:Cx->Prop}{X:Cx}{iter:aC}{N:ar}{J:TI}{g:TG}{tc:TT}{te:TE}(S:CpScope X scope N cap)(hok:∀C s₀ H₀ ex,(∀a o u,X.H₀ a=some (.frz o u)->H₀ a=some (.frz o u))->ok (ji X scope N C s₀ H₀ ex))(hi:M7 ok X tg iter J)
  (hg:∀C s₀ H₀ ex,PG (ji X scope N C s₀ H₀ ex) tg g) (L:∀C s₀ H₀ ex,Ke (ji X scope N C s₀ H₀ ex) ifs tc) (M:∀C s₀ H₀ ex,PE (ji X scope N C s₀ H₀ ex) elt te)
  (hs:(∀x,foldedSetIterable iter X.env x=pure x)<|>ζ):PE X (.ListComp elt [⟨tg,iter,ifs,0⟩] scope pos) (Lm cap J g tc te):=by
 kt_k;rw[eval_ListComp];exact zR (use:=none) (Q':=EP X pins σ Q) S hok hi hg L M hs pins s σ H Q I h λj C D e m hn f c q v=>⟨m,hn,λh' d=>⟨.ref D,e,c h' d,rfl,q⟩⟩
def LH{X:Cx}{iter:aC}{N:ar}{j:TI}{g:TG}{tc:TT}{te:TE}(hc:X.calm=true)(S:CpScope X scope N cap)(hi:PI X tg iter j)
  (hg:∀C s₀ H₀ ex,PG (ji X scope N C s₀ H₀ ex) tg g) (J:∀C s₀ H₀ ex,Ke (ji X scope N C s₀ H₀ ex) ifs tc) (L:∀C s₀ H₀ ex,PE (ji X scope N C s₀ H₀ ex) elt te)
  (hs:(∀x,foldedSetIterable iter X.env x=pure x)<|>ζ):PE X (.ListComp elt [⟨tg,iter,ifs,0⟩] scope pos) (Lm cap j g tc te):=
 IS S (λ_ _ _ _ _=>hc) hi.g hg J L hs
section
variable {X:Cx}
def Bp{bs:List Bool}:∀{us:ba},Vals (bs.map V.bl) us->LSm.BoolsAre us bs:=by
 induction bs with
 | nil=>intro us r;cases r;exact .nil
 | cons b bs c=>
  intro us r
  cases r with
  | cons h t=>
   have e:_=Value.bool b:=h;subst e;exact .cons b<|c t
def Aq(hc:X.calm=true):g7 X (.builtin "all") (λxs H Q=>∃(p:aj) (bs:List Bool),xs=[.ref p]/\kr X.K H p (bs.map V.bl)/\Q (.bl<|bs.all id) H):=by
 gn_on;obtain⟨p,bs,rfl,m,q⟩:=h;obtain⟨u,rfl,rx⟩:=vals1 r
 cases rx
 obtain⟨c,B,pl,G⟩:=I.list m;have g:=Bp B;have d:=pl.isList;have f:p<s.heap.objs.size:=by obtain⟨_,e,_⟩:=d;exact bf e
 refine call_all_walk<|f7 d ?_;refine⟨s.heap.objs.size,[s.heap.objs.size,p],[s.heap.objs.size],c.toArray.size,_,_,λi=>(bs[i]?).getD true,rfl,Walks.list (A:=X.A.in1) (I.ok.hd hc) _ p (bw f) c.toArray,
  ⟨⟨_,a_ _ rfl,rfl,rfl⟩,d.push _⟩,λi v s' C F hP j=>?_,λh' tk k=>?_⟩
 ·obtain⟨b,e,rfl⟩:=g.get i v (by simpa using hP);dsimp[e,fB]at j;exact cC j
 ·have e:((List.range c.toArray.size).all λi=>(bs[i]?).getD true)=bs.all id:=by
   rw[aU,g.length];exact LSm.range_all bs
  rw[e];exact⟨.bl _,H,I.kept<|LSm.kept_iter k,rfl,q⟩
abbrev Ad (i j:Int):ag:=(List.range (j-i).toNat).map λk:Nat=>i+(k:Int)
def D3(i j:Int):(Ad i j).length=(j-i).toNat:=by unfold Ad;rw[aN,bC]
def wY{i:Int}{n:Nat}{acc:Array aa}(h:ItemsOf (λk v=>∃t,v=Value.int (i+(k:Int) * 1) t) acc n):Vals (((List.range n).map λk:Nat=>i+(k:Int)).map V.int) acc.toList:=by
 obtain⟨hs,hv⟩:=h;have c:∀(l:ba) (b:Nat),(∀j v,l[j]?=some v->∃t,v=Value.int (i+((b+j:Nat):Int)) t)->Vals (((List.range' b l.length).map λk:Nat=>i+(k:Int)).map V.int) l:=by
  intro l
  induction l with
  | nil=>intro b _;exact .nil
  | cons v l g=>
   intro b d;rw[aW,eH,cQ,cQ];refine .cons ?_ ?_
   ·obtain⟨t,e⟩:=d 0 v rfl;exact⟨t,by rw[e];simp⟩
   ·refine g (b+1) λj w hw=>?_;obtain⟨t,e⟩:=d (j+1) w hw;exact⟨t,by rw[e,show b+(j+1)=b+1+j by lia]⟩
 have:=c acc.toList 0 λj v f=>by
  obtain⟨t,e⟩:=hv j v (by simpa using f);exact⟨t,by rw[e,dR,Int.mul_one]⟩
 rw[bA,hs,<- d_]at this;exact this
def Jz{i j:Int}:Builtin.Range.rangeSize i j 1=(((j-i).toNat:Nat):Int):=by rw[rangeSize_one];split<;>omega
def rz(hc:X.calm=true):g7 X (.type "list") (λxs H Q=>∃p i j,xs=[.ref p]/\H p=some (.rng i j)/\(-(2 ^ 62)<=i/\i<2 ^ 62/\-(2 ^ 62)<=j/\j<2 ^ 62)/\(j-i).toNat<=1000/\∀l,H l=none->Q (.ref l) (upd H l<|.lst<|(Ad i j).map V.int)):=by
 gn_on;obtain⟨p,i,j,rfl,f,⟨G,C,m,k⟩,hn,q⟩:=h;obtain⟨u,rfl,rx⟩:=vals1 r
 cases rx
 obtain⟨t,J,v,e⟩:=I.hok p _ f;refine call_list_range (n:=(j-i).toNat) (I.ok.hd hc) e (small_one G C m k) Jz () λh' tk c B g F d=>?_;refine⟨.ref s.heap.objs.size,_,I.laid (o:=.lst<|(Ad i j).map V.int) g (aL _) ⟨?_,c.toList,B,wY d,by rw[F]⟩,rfl,q _ I.fresh⟩;rw[aN,D3,bS];lia
end
section
variable {X:Cx}
def vE:g7 X (.builtin "isinstance") (λxs H Q=>∃x t b,xs=[x,.ty c]/\TyOf X.K H x t/\PySem.W.kitOne X.K t (.type c)=some b/\Q (.bl b) H):=by
 gn_on;obtain⟨x,t,b,rfl,ty,e,q⟩:=h;obtain⟨u,f,rfl,rx,d⟩:=vals2 r
 cases d
 exact Az I rx ty e λtk=>⟨.bl b,H,I.tok tk,rfl,q⟩
abbrev Je (K:aq):R2:=λx y H Q=>∃a b ys,x=.ref a/\y=.ref b/\jT K H a []/\jT K H b ys/\Q (.ref b) H
def Ep:jh X (binaryOp .Add) (Je X.K):=by
 gp_on;obtain⟨a,b,ys,rfl,rfl,h1,B,q⟩:=h
 cases rx
 cases ry
 obtain⟨us,r1,p1,_⟩:=I.tuple h1;obtain⟨G,r2,p2,_⟩:=I.tuple B
 cases r1
 obtain⟨⟨cls,p,data,F⟩,m,hc,n,hd⟩:=id p1;obtain⟨⟨k,j,f,g⟩,d,e,C,c⟩:=id p2;simp only at hc hd e c;subst hc hd e c;exact concat_meets ⟨_,m,rfl⟩ ⟨_,d,rfl⟩ noFill_tuple_add seq_tuple_add e8 eY (eS _ _)
   (tuple_addW0 a b _ G.toArray n C p j F g<|by simp) ⟨m,d,⟨.ref b,H,I,rfl,q⟩⟩
end
def oz:bootBuiltins "len" = some (.builtin "len"):=by decide +kernel
def uy:bootBuiltins "abs" = some (.builtin "abs"):=by decide +kernel
def Ew:bootBuiltins "all" = some (.builtin "all"):=by decide +kernel
def JH:bootBuiltins "max" = some (.builtin "max"):=by decide +kernel
def Io:bootBuiltins "min" = some (.builtin "min"):=by decide +kernel
def AR:bootBuiltins "sorted" = some (.builtin "sorted"):=by decide +kernel
def iS:bootBuiltins "isinstance" = some (.builtin "isinstance"):=by decide +kernel
def qo:bootBuiltins "int" = some (.type "int"):=by decide +kernel
def FY:bootBuiltins "bool" = some (.type "bool"):=by decide +kernel
def qj:bootBuiltins "str" = some (.type "str"):=by decide +kernel
def yq:bootBuiltins "list" = some (.type "list"):=by decide +kernel
def DZ:bootBuiltins "tuple" = some (.type "tuple"):=by decide +kernel
def yM:∀{a b:ag},a.Perm b->a.Pairwise (·<=·)->b.Pairwise (·<=·)->a=b:=λp c d=>
 List.Perm.eq_of_pairwise (λx y _ _ h1 e=>Int.le_antisymm h1 e) c d p
abbrev Kn (P:ah)(w:af)(K:aq)(mg:Str->bi)(base:ak)(k:Nat)(x:Str)(ps:ar)(sp:Sp):Prop:=
 ∃(f:aj) (fd:FuncData),FnOk P w K mg base oq k f fd ps sp/\mg x=some (.ref f)/\PySem.W.keepIn K (.ref f)=true/\Binds K fd ps []
def Lb{X:Cx}{k:Nat}{x:Str}{sp:Sp}{t:TA}{p:Pos}(G:Kn X.prog X.w X.K X.mg X.base k x ps sp)(L:Room k X.A)(M:PA X (e::es) t)(hg:Gl X x<|>ε)
  (J:(x == ("__debug__" : Str))=false<|>δ) (hs:starEach (e::es) X.env=(false,eval e X.env)::starEach es X.env<|>ε) (j:((backTo pos<|starEach es X.env).any (·.1)=false)<|>ε) :
  PE X (.Call (.Name x p) (e::es) [] pos) (Gv sp [] E0 t):=by
 obtain⟨f,fd,F,c,g,d⟩:=G;exact FL F L hg c g d .nil KR M J hs j
abbrev qf (J fs:ar):ar->List (bo)->Prop
 | [],[]=>True
 | _::N,none::c=>qf J fs N c
 | x::N,some j::c=>J[j]?=some x/\x∈fs/\qf J fs N c
 | _,_=>False
theorem qf.len{fs:ar}:∀{N:ar}{c:List<|bo},qf XN fs N c->c.length=N.length
 | [],[],_=>rfl
 | _::N,none::c,h=>bQ (·+1) (qf.len (N:=N) (c:=c) h)
 | _::N,some j::c,h=>bQ (·+1) (qf.len (N:=N) (c:=c) h.2.2)
 | [],_::_,h=>h.elim
 | _::_,[],h=>h.elim
theorem qf.cp{fs:ar}:∀{N:ar}{c:List<|bo},qf XN fs N c->∀(i j:Nat) (x:Str),N[i]?=some x->c[i]?=some (some j)->XN[j]?=some x/\x∈fs
 | [],[],_,i,j,x,h1,_=>by simp at h1
 | y::N,none::c,h,i,j,x,h1,h2=>by
  cases i with
  | zero=>simp at h2
  | succ i=>exact qf.cp (N:=N) (c:=c) h i j x (by simpa using h1)<|by simpa using h2
 | y::N,some k::c,h,i,j,x,h1,h2=>by
  cases i with
  | zero=>
   simp at h1 h2;subst h1 h2;exact⟨h.1,h.2.1⟩
  | succ i=>exact qf.cp (N:=N) (c:=c) h.2.2 i j x (by simpa using h1)<|by simpa using h2
 | [],_::_,h,_,_,_,_,_=>h.elim
 | _::_,[],h,_,_,_,_,_=>h.elim
def zO{X:Cx}{scope:Scope}{N:ar}(fs:ar)(kind:scope.kind=.function)(nocf:∀y∈scope.names,y.2=.cell->scope.names.lookup y.1=some .cell/\(y.1,NameKind.free)∉scope.names)(nm:∀y∈scope.names,y.2=.local->scope.names.lookup y.1=some .local)
  (nolf:∀y∈scope.names,y.2=.free->scope.names.lookup y.1≠some .local) (hf:∀y∈scope.names,y.2=.free->y.1∈fs) (J:∀x∈fs,(x,NameKind.free)∈scope.names) (L:∀x∈fs,X.env.kindOf x=some .cell\/X.env.kindOf x=some .free) (cp:qf X.N fs N cap):CpScope X scope N cap where
 kind:=kind
 nocf:=λx hf hc=>(nocf (x,.cell) hc rfl).2 hf
 nm:=nm
 fr:=λy hy e=>L _ (hf y hy e)
 rl:=λy h=>by
  have f:∀k,(k=NameKind.cell\/k=NameKind.free)->(relabel scope X.env).names.lookup y=some k->(y,NameKind.free)∈scope.names\/scope.names.lookup y=some .cell:=λk L e=>by
   obtain⟨⟨q,g⟩,d,c⟩:=eG.mp<|qV e;dsimp only at c;split at c
   ·rename_i hc
    cases c
    have:g=.free:=by
     dsimp[cN]at hc;simpa using hc.1.1
    subst this;exact .inl d
   ·cases c
    rcases L with rfl|rfl
    ·exact .inr (nocf _ d rfl).1
    ·exact .inl d
  rcases h with h|h
  ·exact f _ (.inl rfl) h
  ·exact f _ (.inr rfl) h
 len:=cp.len
 nolf:=λx p=>nolf (x,.free) p rfl
 cp:=λi j x h1 m=>by
  obtain⟨a,b⟩:=cp.cp i j x h1 m;exact⟨a,J x b⟩
inductive Kd where
 | non|bl|int|str|lst|tup
 deriving DecidableEq
abbrev Kd.ty:Kd->aa
 | .non=>.type "NoneType" | .bl=>.type "bool" | .int=>.type "int" | .str=>.type "str" | .lst=>.type "list" | .tup=>.type "tuple"
abbrev HW (H:Hp)(x:V):Kd->Prop
 | .non=>x=.non
 | .bl=>∃b,x=.bl b
 | .int=>∃i,x=.int i
 | .str=>∃s,x=.str s
 | .lst=>∃a xs,x=.ref a/\H a=some (.lst xs)
 | .tup=>∃a xs,x=.ref a/\H a=some (.tup xs)
def HW.NG{K:aq}{H:Hp}{x:V}{k:Kd}(h:HW H x k):TyOf K H x k.ty:=by
 cases k with
 | non=>cases h;exact .non
 | bl=>obtain⟨b,rfl⟩:=h;exact .bl b
 | int=>obtain⟨b,rfl⟩:=h;exact .int b
 | str=>obtain⟨b,rfl⟩:=h;exact .str b
 | lst=>obtain⟨a,xs,rfl,e⟩:=h;exact .lst e
 | tup=>obtain⟨a,xs,rfl,e⟩:=h;exact .tup e
def E9{K:aq}(k:Kd):PySem.W.kitOne K k.ty (.type "int")=some (decide<|k=.int\/k=.bl):=by cases k<;>rfl
def DA{K:aq}(k:Kd):PySem.W.kitOne K k.ty (.type "bool")=some (decide<|k=.bl):=by cases k<;>rfl
def kit_tuple{K:aq}(k:Kd):PySem.W.kitOne K k.ty (.type "tuple")=some (decide<|k=.tup):=by cases k<;>rfl
def Bb{K:aq}(k:Kd):PySem.W.kitOne K k.ty (.type "list")=some (decide<|k=.lst):=by cases k<;>rfl
abbrev Nm (x:Str):It:=⟨λi _=>i<x.cps.size,λi H v H'=>H'=H/\∃c,x.cps[i]?=some c/\v=.str ⟨#[c]⟩,λi _=>i=x.cps.size⟩
def Ca{P:ah}{w:af}{K:aq}(x:Str)(t:Tok)(it:aj):Turn P w K tg (Nm x) [it] it (λi h=>h.IsStrIter it "str_ascii_iterator" x t i) where
 mem:=by simp
 obj:=λi h st b f=>by
  have e:b=it:=by simpa using f
  subst e;obtain⟨o,e,c,d⟩:=st;exact⟨o,e,λv z=>by rw[d]at z;cases z⟩
 keep:=λi h h' st k=>let⟨o,ho,r⟩:=st;⟨o,k it (by simp) o ho,r⟩
 item:=by
  w_up;subst hP hw hK;k_ne;have W:=Walks.strAscii (prog:=X.prog) (w:=X.w) (I.ok.hd hc) it x t;refine W.item i s _ _ hg st λv h' tk hv g m=>?_;obtain⟨c,u,j,rfl⟩:=hv;have I1:Inv X pins σ H { s with heap:=h',toks:=tk }:=I.turned (λb o f e=>m b o (by simpa using f) e) f0 f1 f3 f4 f5;obtain⟨o,e,p,d⟩:=id g;exact⟨_,rfl,vD (s:={ s with heap:=h',toks:=tk }) e p d ⋯ ⟨.str ⟨#[c]⟩,H,I1,⟨u,rfl⟩,⟨rfl,c,j,rfl⟩,g,λb f=>(hf b f).1⟩⟩
 done:=by
  w_up;subst hP hw hK;k_ne;have hg:i=x.cps.size:=hg;subst hg;have W:=Walks.strAscii (prog:=X.prog) (w:=X.w) (I.ok.hd hc) it x t;exact W.done s _ _ st λh' tk m=>⟨rfl,I.turned (λb o f e=>m b o (by simpa using f) e) f0 f1 f3 f4 f5⟩
 self:=λ_ _ _ _ _ st h=>wpAny_pyIter_striter_ascii st h
section
variable {X:Cx}{tg:aC}
abbrev NJ (tl:TE):TI:=λσ H R=>tl σ H λx H1=>∃y:Str,x=.str y/\y.cps.all (· < 128)=true/\R (Nm y) H1
def HM{tl:TE}(j:PE X l tl):PI X tg l (NJ tl):=by
 intro pins s σ H R I h;refine iP (j pins s σ H _ I h) λv c h9=>?_;obtain⟨x,H1,I1,r1,d⟩:=h9;obtain⟨y,e,g,q⟩:=d;subst e;obtain⟨t,rfl⟩:=r1;refine wpAny_pyIter_ascii g ?_;refine⟨c.heap.objs.size,[c.heap.objs.size],_,_,H1,rfl,I1.kept (t':=c.toks) λb o e=>aK _ e,Ca y t _,⟨_,a_ _ rfl,rfl,rfl⟩,λb f=>?_,q⟩;have e:b=c.heap.objs.size:=by simpa using f
 subst e;kl_no
theorem mK:∀(tk:Nat) (ys:ar),Vals (ys.map V.str) (strValues<|numbered tk ys)
 | _,[]=>.nil
 | tk,y::ys=>.cons ⟨tk,rfl⟩<|mK (tk+1) ys
def Cu:wg X "str.split" (λx xs H Q=>∃y z:Str,x=.str y/\xs=[.str z]/\(z.length == 0)=false/\y.length<=sizeLine/\(Txt.split y z).length<=sizeLine/\∀p,H p=none->Q (.ref p) (upd H p<|.lst<|(Txt.split y z).map V.str)):=by
 intro pins s σ H x xs v us Q I rx j h;obtain⟨y,z,rfl,rfl,g,hy,f,q⟩:=h;kd_p;obtain⟨w,rfl,d⟩:=vals1 j;obtain⟨u,rfl⟩:=d;have fin:∀(c:Nat) (l:List<|Str×Tok),l.map (·.1)=Txt.split y z->Vals ((Txt.split y z).map V.str) (strValues l)->EP X pins σ Q (.ref s.heap.objs.size) { s with toks:=c,heap:=s.heap.push { cls:=.type "list",data:=.seq (strValues l).toArray }}:=λc l e r=>
  ⟨.ref s.heap.objs.size,_,I.laid (t':=c) (o:=.lst<|(Txt.split y z).map V.str) (λb k q=>aK _ q) (aL _) ⟨by rw[aN];exact f,_,_,r,a_ _ rfl⟩,rfl,q _<|I.hok.fresh<|aL _⟩
 cases h1:(decide (y.length<z.length) || decide (Builtin.Str.strKind y<Builtin.Str.strKind z))
 ·cases hf:(Builtin.Str.occurrences y z 0 y.length<|y.length+1).isEmpty
  ·have es:Txt.split y z=Builtin.Str.partsBetween y (Builtin.Str.occurrences y z 0 y.length<|y.length+1) z.length:=(aI<|fQ h1).trans<|aI<|fQ hf;refine eU F.slot_str_split (eT _ _ _) f9 (fU _ _) (meets_str_split_sep y z t u h1 g hf hy<|by rw[<- es];exact f) ?_
   skip
   rw[strsFrom_eq];exact fin _ (numbered s.toks _) ((numbered_texts _ _).trans es.symm)<|by rw[es];exact mK _ _
  ·have es:Txt.split y z=[y]:=(aI<|fQ h1).trans<|aJ hf;exact eU F.slot_str_split (eT _ _ _) f9 (fU _ _) (meets_str_split_not_found y z t u h1 g hf)<|fin s.toks [(y,t)] es.symm<|by rw[es];exact .cons ⟨t,rfl⟩ .nil
 ·have es:Txt.split y z=[y]:=aJ h1;exact eU F.slot_str_split (eT _ _ _) f9 (fU _ _) (meets_str_split_cannot_occur y z t u h1)<|fin s.toks [(y,t)] es.symm<|by rw[es];exact .cons ⟨t,rfl⟩ .nil
def rB:wg X "str.startswith" (λx xs H Q=>∃y z:Str,x=.str y/\xs=[.str z]/\Q (.bl<|0+z.length<=y.length && Builtin.Str.subAt y z 0) H):=by
 intro pins s σ H x xs v us Q I rx d h;obtain⟨y,z,rfl,rfl,q⟩:=h;kd_p;obtain⟨w,rfl,c⟩:=vals1 d;obtain⟨u,rfl⟩:=c;exact eU F.slot_str_startswith (eT _ _ _) F.entry_str_startswith (F.args_str_startswith_2 _ _) (gives_str_startswith y z t u).meets ⟨.bl _,H,I,rfl,q⟩
def AF:g7 X (.type "int") (λxs H Q=>∃(y:Str) (n:Int),xs=[.str y]/\y.length<=640/\PySem.intText? y=some n/\Q (.int n) H):=by
 intro pins s σ H xs us Q I e h;obtain⟨y,n,rfl,d,hn,q⟩:=h;obtain⟨w,rfl,c⟩:=vals1 e;obtain⟨u,rfl⟩:=c;exact PySem.W.KIN.call_text hn d ⟨.int n,H,I.tok _,⟨_,rfl⟩,q⟩
end
meta abbrev AZ:=ag×ag
abbrev Hh (x:ag):Int:=reduceHash<|Builtin.Tuple.tupleHashOf<|x.map hashInt
abbrev L3 (k:AZ):Int:=reduceHash<|Builtin.Tuple.tupleHashOf [Hh k.1,Hh k.2]
abbrev OD (x:(AZ×aj×aa)):DictEntry:=⟨L3 x.1,.ref x.2.1,x.2.2⟩
abbrev MB (a:aj)(xs:List<|AZ×aj×aa)(h:ak):Prop:=(a == sysModules)=false/\xs.length<=sizeLine/\∃o es ep,h.get? a=some o/\o.ExactDict/\o.data=.dict es ep/\es.toList=xs.map OD/\(xs.map (·.1)).Nodup
abbrev uZ (H:Hp)(b:aj)(k:AZ):Prop:=∃r1 r2,H b=some (.tup [.ref r1,.ref r2])/\H r1=some (.tup<|k.1.map V.int)/\H r2=some (.tup<|k.2.map V.int)
abbrev C0 (e:aj)(h:ak):Prop:=∃o c,h.get? e=some o/\o.data=.fields c/\c[2]?=some .none/\o.dict=none
structure Fly (l:List Env)(g:ak)(pn:bp)(H:Hp)(e:aj)(cls:aa)(h:ak):Prop where
 ex:∃(B:ak) (a0:aa),Heap.FlyingW B l e cls a0 h/\(∀a u,H a=some u->∃o,B.get? a=some o)/\(∀b o,g.get? b=some o->b∉frs l->∃o',B.get? b=some o')/\(∀p∈pn,∃o',B.get? p.1=some o')/\C0 e h
structure Made (X:Cx)(H:Hp)(e:aj)(cls:aa)(g:ak)(h:ak):Prop where
 ex:∃(g':ak) (vs:ba),Heap.MadeExcOf g' h e cls vs/\g'.FunFrames X.base X.stack/\(∀a u,H a=some u->∃o,g'.get? a=some o)/\(∀b o,g.get? b=some o->∃o',g'.get? b=some o')/\(∀p∈X.pn,∃o',g'.get? p.1=some o')
abbrev Jj (X:Cx)(H:Hp)(e:aj)(cls:aa)(s':aA):Prop:=Made X H e cls X.s₀.heap s'.heap\/Fly X.stack X.s₀.heap X.pn H e cls s'.heap
section
abbrev EX (X:Cx):XK:=λcls _ H'=>X.ex=[]/\∀pins c s' e,Inv X pins c H' s'->Jj X H' e cls s'->X.xe (.ref e) s'
end
inductive FParts (X:Cx):List aC->List (Str ⊕ TE)->Prop
 | nil:FParts X [] []
 | txt {x:Str} {j pos} {es:List aC} {ps:List<|Str ⊕ TE} (h:FParts X es ps):FParts X (.Constant (.str x) j pos::es) (.inl x::ps)
 | val {e:aC} {pos:Pos} {t:TE} {es:List aC} {ps:List<|Str ⊕ TE} (he:PE X e t) (h:FParts X es ps):FParts X (.FormattedValue e (-1) none pos::es) (.inr t::ps)
abbrev xu:HO:=.ext λ_=>True
structure XO (C:aj)(o:Obj):Prop where
 cls:o.cls=.ref C
 dict:o.dict=none
 ctx:∃vs,o.data=.fields vs/\vs[2]?=some .none
abbrev mroIn (K:aq)(C:aj):Option (ba):=match K.lookup C with
 | some ⟨.type "type",_,.cls cd,sl⟩=>(match cd.mro,sl.toList with
  | .ref C'::bm,[_,_,_,_,some<|.builtin _,_]=>if C'=C/\cd.hasDel=false then some bm else none
  | _,_=>none)
 | _=>none
open PySem.W in
structure XCls (K:aq)(C:aj):Prop where
 ga:findIn K (.ref C) "__getattribute__" = some (some<|.builtin "BaseException.__getattribute__")
 gt:findIn K (.ref C) "__getattr__" = some none
 fc:findObj K C none "__class__" = some (.bind (.builtin "getset_descriptor.__get__")<|.builtin "object.__class__")
 ob:PySem.W.mroIn K C (.type "object")=some true
 bs:subIn K (.ref C) (.type "BaseException")=some true
end L2
namespace L2
open PySem PySem.Spec PyProof.Rows PySem.SeqAt
section
variable {X:Cx}
def FZ:jh X (binaryOp .Mult) (λx y H Q=>∃(z:Str) (n:Int),x=.str z/\y=.int n/\0<=n/\n<=1/\Q (.str<|if n=1 then z else Str.empty) H):=by
 intro pins s σ H x y v u Q I rx ry ⟨z,n,e1,e2,h0,h1,q⟩;subst e1 e2;obtain⟨k,rfl⟩:=(show ∃k,v=Value.str z k from rx);obtain⟨c,rfl⟩:=(show ∃k,u=Value.int n k from ry);by_cases hn:n=1
 ·subst hn;rw[aJ rfl]at q;exact P.mul_str ⋯ (λ_ h=>by simp at h) (λ_ h=>by simp at h) ⟨.str z,H,I,⟨_,rfl⟩,q⟩
 ·have:n=0:=()
  subst this;rw[aI ⋯]at q;exact P.mul_str_none ⋯ ⋯ ⟨.str _,H,I.tok _,⟨_,rfl⟩,q⟩
end
end L2
namespace L2
open PySem PySem.Spec PyProof.Rows
def BZ{X:Cx}{i:Nat}{spos:Pos}{iter:aC}{N:ar}{wi:TI}{g:TG}{tc:TT}{te:TE}
  (hN:X.N.Nodup) (hi':X.N[i]?=some y) (hx:Loc X.env.scope y) (hc:X.calm=true) (S:CpScope X scope N cap) (hi:PI X tg iter wi)
  (hg:∀C s₀ H₀ ex,PG (ji X scope N C s₀ H₀ ex) tg g) (ht:∀C s₀ H₀ ex,Ke (ji X scope N C s₀ H₀ ex) ifs tc) (he:∀C s₀ H₀ ex,PE (ji X scope N C s₀ H₀ ex) elt te)
  (hsw:swapsWith (.ListComp elt [⟨tg,iter,ifs,0⟩] scope pos) (some<|.Name y py) spos.line X.env=pure true)
  (hf:X.fn y=true\/X.env.scope.names.lookup y=some .local) (hs:(∀x,foldedSetIterable iter X.env x=pure x)<|>ζ) :
  PS X (.Assign [.Name y py] (.ListComp elt [⟨tg,iter,ifs,0⟩] scope pos) spos) (FT (Lm cap wi g tc te)<|DK i):=by
 kpc_g;rw[exec_Assign_Name_used _ _ _ _ hsw];refine aF (wpAny_standAt<|aF ?_)
 skip
 refine aF<|fS (zR (ok:=λY=>Y.calm=true) (Q':=λ_ s'=>SP X pins D .next s') S (λ_ _ _ _ _=>hc) (PI.g hi) hg ht he hs pins s σ H _ I h ?_) (λ_ s' U=>aH<|aH U) λ_ _ e=>e;intro F C K W m hn k G q v;have Z:=G F.heap<|Heap.SameBut.refl _ _;obtain⟨M,j⟩:∃o,F.heap.get? C=some o/\∀v,o.data≠.cell v:=by
  obtain⟨o,es,ep,e,d,_⟩:=hn;exact⟨o,e,λv z=>by rw[d]at z;cases z⟩
 have T:=Z.pinned (fp:=[C]) (λb f=>by rw[aR]at f;rw[f];exact k) (λb f=>by rw[aR]at f;rw[f];exact⟨M,j⟩)
 skip
 refine iP (yt hN hi' hx hf _ F σ W (.ref K) (.ref K) _ T rfl q) λ_ s7 h9=>?_;obtain⟨J,O,p,V⟩:=h9;have L:=p.pin (C,M)<|bD _<|bD _<|jH (aR.mpr rfl) j.1;refine⟨m,hn.at' λo e=>by rw[j.1]at e;cases e;exact L.1,λh' B=>?_⟩;have P:∀c v,O c=some v->c≠C:=λc v e z=>by rw[z,L.2.1]at e;cases e
 refine⟨J,O,?_,V⟩;refine p.lA.Hf (ch:=[C]) rfl ⟨λb o e n f hx=>?_,λb o e n f hx=>?_,λb o e n hx=>n,λb o e hx=>?_,λ_ _ e=>e,λ_ _ _ e=>e,λ_ _ e=>⟨#[],by rw[Array.append_empty];exact e⟩⟩ ?_ p.bare ?_
 ·exact B.extBut b o (by simpa using hx) e
 ·exact⟨o.slots,B.extBut b o (by simpa using hx) e⟩
 ·exact⟨o,B.extBut b o (by simpa using hx) e⟩
 ·intro b o e;refine(p.hok b o e).stay (λc v hc q=>B.extBut c v ?_ q) (λ_ q=>q) λ_ _ q=>q
  rcases hc with z|z
  ·rw[z];exact P b o e
  ·exact P c _ z
 ·intro b f;rw[aR]at f;rw[f];exact⟨k.2.2.2.1,k.2.1,k.2.2.2.2.1,k.2.2.2.2.2⟩
end L2
namespace Sx
open PySem PyProof.Rows
structure Ord where
 lt:Nat->Nat->Bool
 E5:∀i,lt i i=false
 tr:∀i j k,lt i j=true->lt j k=true->lt i k=true
 neg:∀i j k,lt i k=true->lt i j=true\/lt j k=true
abbrev P (o:Ord)(i j:Nat):Prop:=o.lt i j=true\/(o.lt j i=false/\i<j)
def Ord.ND(o:Ord)(h:o.lt i j=true):o.lt j i=false:=by
 cases e:o.lt j i with
 | false=>rfl
 | true=>have:=o.tr _ _ _ h e;rw[o.E5]at this;cases this
def P.E5(h:P o i i):False:=by
 rcases h with h|⟨_,h⟩
 ·rw[o.E5]at h;cases h
 ·lia
def P.trans{k:Nat}(a:P o i j)(b:P o j k):P o i k:=by
 rcases a with a|⟨a,d⟩
 ·rcases b with b|⟨b,c⟩
  ·exact .inl (o.tr _ _ _ a b)
  ·rcases o.neg i k j a with z|z
   ·exact .inl z
   ·rw[b]at z;cases z
 ·rcases b with b|⟨b,c⟩
  ·rcases o.neg j i k b with z|z
   ·rw[a]at z;cases z
   ·exact .inl z
  ·refine .inr ⟨?_,()⟩
   cases e:o.lt k i with
   | false=>rfl
   | true=>
    rcases o.neg k j i e with z|z
    ·rw[b]at z;cases z
    ·rw[a]at z;cases z
def P.of_lt{o:Ord}(h:o.lt i j=true):P o i j:=.inl h
def P.o8{o:Ord}(h:o.lt j i=false)(J:i<j):P o i j:=.inr ⟨h,J⟩
def P.lt{o:Ord}(h:P o i j)(J:j<i):o.lt i j=true:=by
 rcases h with h|⟨_,h⟩
 ·exact h
 ·lia
def P.ge{o:Ord}(h:P o i j):o.lt j i=false:=by
 rcases h with h|⟨h,_⟩
 ·exact o.ND h
 ·exact h
abbrev So (o:Ord)(g:Nat->Nat)(a b:Nat):Prop:=∀i j,a<=i->i<j->j<b->P o (g i) (g j)
abbrev Cl (g:Nat->Nat)(a b:Nat):Prop:=∀i,a<=i->i<b->a<=g i/\g i<b
abbrev rev (g:Nat->Nat)(i j:Nat):Nat->Nat:=λk=>if i<=k/\k<j then g (i+j-1-k)else g k
abbrev mv (g:Nat->Nat)(src j:Nat):Nat->Nat:=λk=>if k=j then g src else if j<k/\k<=src then g (k-1)else g k
def qD{g:Nat->Nat}{k:Nat}(h:i<=k)(J:k<j):rev g i j k=g (i+j-1-k):=aJ ⟨h,J⟩
def jy{g:Nat->Nat}{k:Nat}(h:k<i\/j<=k):rev g i j k=g k:=aI ()
def DY{g:Nat->Nat}:mv g s d d=g s:=aJ rfl
def wc{g:Nat->Nat}{k:Nat}(h:d<k)(j:k<=s):mv g s d k=g (k-1):=by
 unfold mv;rw[aI (),aJ ⟨h,j⟩]
def sS{g:Nat->Nat}{k:Nat}(hd:d<=s)(h:k<d\/s<k):mv g s d k=g k:=by
 unfold mv;rw[aI (),aI ()]
section
variable {prog:ah}{w:af}{A:az}{E:aa->aA->Prop}{s:aA}{o:Ord}{N:Nat}{f:Nat->Keyed}{kd:SortKind}{g:Nat->Nat}{p:Array (Nat×Nat×Nat)}{st:SortSt}
abbrev rA (prog:ah)(w:af)(A:az)(s:aA)(o:Ord)(N:Nat)(f:Nat->Keyed)(kd:SortKind):Prop:=
 ∀i j,i<N->j<N->∀(c:aa->aA->Prop) (Q:Bool->aA->Prop),Q (o.lt i j) s->wpAny (model prog w) A (keyLt' kd (f i).1 (f j).1) Q c s
structure Sg (N:Nat)(f:Nat->Keyed)(kd:SortKind)(g:Nat->Nat)(p:Array (Nat×Nat×Nat))(st:SortSt):Prop where
 size:(arrOf st).size=N
 get:∀i,i<N->(arrOf st)[i]?=some (f<|g i)
 lt:∀i,i<N->g i<N
 kind:kindOf st=kd
 failed:failedOf st=none
 pend:pendingOf st=p
def qe(C:rA prog w A s o N f kd)(J:kindOf st=kd)(hi:i<N)(L:j<N){Q:bn->SortSt->Prop}(q:Q (some<|o.lt i j) st):wpS (model prog w) A E s (lt' (f i)<|f j) Q st:=by
 rw[lt'_eq];refine aO<|e9 ?_;rw[J];refine aO<|wpS_lift<|fE<|C i j hi L _ _ ⟨rfl,?_⟩;exact aT q
def gV{xs:Array Keyed}{i:Nat}{x:Keyed}(e:xs[i]?=some x){Q:Keyed->SortSt->Prop}(q:Q x st):wpS (model prog w) A E s (elem' xs i) Q st:=by
 rw[elem'_eq,e];exact aT q
def nG(C:rA prog w A s o N f kd)(h:Sg N f kd g p st)(hi:i<N)(J:j<N){Q:bn->SortSt->Prop}(q:Q (some<|o.lt (g i)<|g j) st):wpS (model prog w) A E s (ltAt' i j) Q st:=by
 rw[ltAt'_eq];refine aO (e9 ?_)
 skip
 exact aO<|gV (h.get i hi)<|aO<|gV (h.get j J)<|qe C h.kind (h.lt i hi) (h.lt j J) q
def Sg.arr(h:Sg N f kd g p st){xs:Array Keyed}{g':Nat->Nat}(hs:xs.size=N)(hg:∀i,i<N->xs[i]?=some (f<|g' i))(j:∀i,i<N->g' i<N):Sg N f kd g' p (setArr st xs):=⟨hs,hg,j,h.kind,h.failed,h.pend⟩
def p_(h:Sg N f kd g p st)(J:j<=N){Q:Unit->SortSt->Prop}(q:∀st',Sg N f kd (rev g i j) p st'->Q Unit.unit st'):wpS (model prog w) A E s (reverseSlice' i j) Q st:=by
 rw[reverseSlice'_eq];refine dS (q _<|h.arr (by rw[mirror_size];exact h.size) (λk d=>?_) λk d=>?_)
 ·rw[getElem?_mirror_all<|by rw[h.size];exact J];unfold rev;by_cases c:i<=k/\k<j
  ·rw[aJ c,aJ c];exact h.get _ (by omega)
  ·rw[aI c,aI c];exact h.get _ d
 ·unfold rev;by_cases c:i<=k/\k<j
  ·rw[aJ c];exact h.lt _ (by omega)
  ·rw[aI c];exact h.lt _ d
def Jo(h:Sg N f kd g p st){a b:Nat}(j:a<N)(J:b<=a){Q:Unit->SortSt->Prop}(q:∀st',Sg N f kd (mv g a b) p st'->Q Unit.unit st'):wpS (model prog w) A E s (moveDown' a b) Q st:=by
 rw[moveDown'_eq];refine dS (q _<|h.arr (by rw[bubble_size];exact h.size) (λk d=>?_) λk d=>?_)
 ·rw[getElem?_bubble (by rw[h.size];exact j) _ (),show a-(a-b)=b by lia];unfold mv;by_cases c:k=b
  ·rw[aJ c,aJ c];exact h.get _ j
  ·rw[aI c,aI c];by_cases c2:b<k/\k<=a
   ·rw[aJ c2,aJ c2];exact h.get _ ()
   ·rw[aI c2,aI c2];exact h.get _ d
 ·unfold mv;by_cases c:k=b
  ·rw[aJ c];exact h.lt _ j
  ·rw[aI c];by_cases c2:b<k/\k<=a
   ·rw[aJ c2];exact h.lt _ ()
   ·rw[aI c2];exact h.lt _ d
structure Rn (o:Ord)(g0 g:Nat->Nat)(a b:Nat):Prop where
 out:∀i,i<a\/b<=i->g i=g0 i
 cl:Cl g a b
 so:So o g a b
def JX{g0:Nat->Nat}{lo k:Nat}(R:Rn o g0 g lo<|lo+k)(J:g (lo+k)=lo+k)(M:l<=k)(h1:∀i,i<l->P o (g<|lo+i) (lo+k))(L:∀i,l<=i->i<k->P o (lo+k) (g<|lo+i)):Rn o g0 (mv g (lo+k)<|lo+l) lo (lo+(k+1)) where
 out i hi:=by rw[sS () ()];exact R.out i ()
 cl i a b:=by
  by_cases c:i=lo+l
  ·subst c;rw[DY,J];lia
  ·by_cases c2:lo+l<i
   ·rw[wc c2 ()];have:=R.cl (i-1) () ()
    lia
   ·rw[sS () ()];have:=R.cl i () ()
    lia
 so i j a b d:=by
  by_cases c:i=lo+l
  ·subst c;rw[DY,wc b (),J];have:=L (j-1-lo) () ()
   rwa [show lo+(j-1-lo)=j-1 by lia]at this
  ·by_cases c2:lo+l<i
   ·rw[wc c2 (),wc () ()];exact R.so _ _ () () ()
   ·rw[sS (k:=i) () ()];by_cases f:j=lo+l
    ·subst f;rw[DY,J];have:=h1 (i-lo) ()
     rwa [show lo+(i-lo)=i by lia]at this
    ·by_cases e:lo+l<j
     ·rw[wc e ()];exact R.so _ _ () () ()
     ·rw[sS () ()];exact R.so _ _ () () ()
def JT(C:rA prog w A s o N f kd){g0:Nat->Nat}{lo n ok:Nat}(h:Sg N f kd g p st)(hn:lo+n<=N)(h1:1<=ok)(hok:ok<=n)(R:Rn o g0 g lo<|lo+ok)(hid:∀i,lo+ok<=i->i<lo+n->g0 i=i)
  {Q:Bool->SortSt->Prop} (q:∀g' st',Sg N f kd g' p st'->Rn o g0 g' lo (lo+n)->Q true st'):wpS (model prog w) A E s (binarySort' lo n ok) Q st:=by
 rw[binarySort'_eq,show max ok 1=ok by lia];refine aO (cV (bV (I:=λk c st'=>c=(none,Unit.unit)/\∃g',Sg N f kd g' p st'/\Rn o g0 g' lo (lo+min k n))
  (Q:=λc st'=>c=(none,Unit.unit)/\∃g',Sg N f kd g' p st'/\Rn o g0 g' lo (lo+n)) ?step ?fin ?init) ?post)
 case post=>
  rintro c st' ⟨rfl,g',h',j⟩;exact aT<|q g' st' h' j
 case init=>exact⟨rfl,g,h,by rw[show min ok n=ok by lia];exact R⟩
 case fin=>
  rintro c st' ⟨hc,g',h',j⟩;exact⟨hc,g',h',by rwa [show min (max ok n) n=n by lia]at j⟩
 case step=>
  rintro k c st' Y U ⟨rfl,g',h',j⟩;rw[show min k n=k by lia]at j;have L:g' (lo+k)=lo+k:=by rw[j.out _ ()];exact hid _ () ()
  refine aO (cV (bV (I:=λx c F=>F=st'/\∃u v,c=(none,u,v)/\u<=v/\v<=k/\v-u<=k-x /\
    (∀i,i<u->P o (g'<|lo+i) (lo+k))/\(∀i,v<=i->i<k->P o (lo+k) (g'<|lo+i)))
   (Q:=λc F=>F=st'/\∃u v,c=(none,u,v)/\u<=k /\
    (∀i,i<u->P o (g'<|lo+i) (lo+k))/\(∀i,u<=i->i<k->P o (lo+k) (g'<|lo+i))) ?istep ?ifin ?iinit) ?ipost)
  case iinit=>exact⟨rfl,0,k,rfl,(),(),(),λi hi=>(),λi h1 V=>()⟩
  case ifin=>
   rintro c F ⟨rfl,u,v,rfl,J,B,M,e,top⟩;have:u=v:=()
   subst this;exact⟨rfl,u,u,rfl,B,e,top⟩
  case istep=>
   rintro x c F _ hxk ⟨rfl,u,v,rfl,J,B,M,e,top⟩;dsimp only;by_cases G:u>=v
   ·rw[aJ G];have:u=v:=()
    subst this;exact aT ⟨rfl,u,u,rfl,B,e,top⟩
   ·rw[aI G];have Z:(u+v) / 2<k:=()
    have W:=j.cl (lo+(u+v) / 2) () ();refine aO<|nG C h' () () ?_;rw[L]
    cases d:o.lt (lo+k) (g'<|lo+(u+v) / 2)
    case true=>
     dsimp[b9];refine aT ⟨rfl,u,(u+v) / 2,rfl,(),(),(),e,λi h1 V=>?_⟩;by_cases c:i=(u+v) / 2
     ·subst c;exact .inl d
     ·exact(P.of_lt d).trans (j.so _ _ () () ())
    case false=>
     dsimp[br,cg];refine aT ⟨rfl,(u+v) / 2+1,v,rfl,(),(),(),λi h1=>?_,top⟩;have m:=P.o8 d W.2;by_cases c:i=(u+v) / 2
     ·subst c;exact m
     ·exact(j.so _ _ () () ()).trans m
  case ipost=>
   rintro c F ⟨rfl,u,v,rfl,K,e,top⟩;dsimp only;refine aO<|Jo h' () () λT O=>?_;refine aT ⟨rfl,_,O,?_⟩;rw[show min (k+1) n=k+1 by lia];exact JX j L K e top
end
meta abbrev As:=Option (bo)×Nat
meta abbrev Ds:=Option (bo)×Nat×Nat
abbrev Bv (lo a j:Nat):StateT SortSt Sem As:=
 forIn [a:j] ((none,a):As) λ_ c=>do
  let x <- ltAt' (lo+c.2) (lo+c.2-1)
  match x with
  | some b=>if b=true then pure (ForInStep.done (none,c.2))else pure (ForInStep.yield (none,c.2+1))
  | _=>pure<|ForInStep.done (some none,c.2)
abbrev vm (lo n j:Nat):StateT SortSt Sem (bo):=do
 reverseSlice' lo (lo+n)
 let c <- Bv lo n j
 match c.1 with
 | some r=>pure r
 | none=>pure<|some c.2
abbrev F9 (lo n j:Nat):StateT SortSt Sem Ds:=
 forIn [n:j] ((none,n,0):Ds) λ_ c=>do
  let x <- ltAt' (lo+c.2.1) (lo+c.2.1-1)
  match x with
  | some b=>
   if b=true then
    if c.2.2>0 then do
     reverseSlice' (lo+c.2.1-(c.2.2+1)) (lo+c.2.1)
     pure (ForInStep.yield (none,c.2.1+1,0))
    else pure (ForInStep.yield (none,c.2.1+1,0))
   else do
    let x <- ltAt' (lo+c.2.1-1) (lo+c.2.1)
    match x with
    | some b=>
     if b=true then pure (ForInStep.done (none,c.2.1,c.2.2))
     else pure (ForInStep.yield (none,c.2.1+1,c.2.2+1))
    | _=>pure<|ForInStep.done (some none,c.2.1,c.2.2)
  | _=>pure<|ForInStep.done (some none,c.2.1,c.2.2)
abbrev C4 (lo n j:Nat):StateT SortSt Sem (bo):=do
 liftM (rule "list.sort.descending-run")
 let c <- F9 lo (n+1) j
 match c.1 with
 | some r=>pure r
 | none=>
  if c.2.2>0 then do
   reverseSlice' (lo+c.2.1-(c.2.2+1)) (lo+c.2.1)
   vm lo c.2.1 j
  else vm lo c.2.1 j
def count_eq(lo j:Nat):countRun' lo j=(do
  let c <- Bv lo 1 j
  match c.1 with
  | some r=>pure r
  | none=>
   if (c.2 == j)=true then pure (some c.2)
   else if c.2>1 then do
    let x <- ltAt' lo (lo+c.2-1)
    match x with
    | some b=>if b=true then pure (some c.2)else do
      reverseSlice' lo (lo+c.2)
      C4 lo c.2 j
    | _=>pure none
   else C4 lo c.2 j):=by
 rw[countRun'_eq];dsimp only;unfold C4 vm F9 Bv;congr 1
 funext c
 obtain⟨r,n⟩:=c
 cases r with
 | some r=>rfl
 | none=>
  dsimp only;split
  ·rfl
  ·split
   ·congr 1
    funext x
    cases x with
    | none=>rfl
    | some b=>
     dsimp only;split
     ·rfl
     ·congr 1
      funext _r
      congr 1
      funext _u
      congr 1;congr 1
      funext s2
      obtain⟨r2,g,f⟩:=s2
      cases r2 with
      | some r2=>rfl
      | none=>
       dsimp only;split
       ·congr 1
        funext _v
        congr 1
        funext _w
        congr 1
        funext s3
        obtain⟨d,e⟩:=s3
        cases d<;>rfl
       ·congr 1
        funext _w
        congr 1
        funext s3
        obtain⟨d,e⟩:=s3
        cases d<;>rfl
   ·congr 1
    funext _u
    congr 1;congr 1
    funext s2
    obtain⟨r2,g,f⟩:=s2
    cases r2 with
    | some r2=>rfl
    | none=>
     dsimp only;split
     ·congr 1
      funext _v
      congr 1
      funext _w
      congr 1
      funext s3
      obtain⟨d,e⟩:=s3
      cases d<;>rfl
     ·congr 1
      funext _w
      congr 1
      funext s3
      obtain⟨d,e⟩:=s3
      cases d<;>rfl
section
variable {prog:ah}{w:af}{A:az}{E:aa->aA->Prop}{s:aA}{o:Ord}{N:Nat}{f:Nat->Keyed}{kd:SortKind}{g g0:Nat->Nat}{p:Array (Nat×Nat×Nat)}{st:SortSt}
def Rn.snoc{a b:Nat}(R:Rn o g0 g a b)(J:a<b)(L:g b=b)(h:o.lt b (g<|b-1)=false):Rn o g0 g a (b+1) where
 out i hi:=R.out i ()
 cl i h1 h2:=by
  by_cases c:i=b
  ·subst c;lia
  ·have:=R.cl i h1 ();lia
 so i j h1 h2 h3:=by
  by_cases c:j=b
  ·subst c;rw[L];have l:=R.cl (j-1) () ();have d:P o (g<|j-1) j:=P.o8 h l.2;by_cases c2:i=j-1
   ·subst c2;exact d
   ·exact(R.so i (j-1) h1 () ()).trans d
  ·exact R.so i j h1 h2 ()
def CT(C:rA prog w A s o N f kd){lo a:Nat}(h:Sg N f kd g p st)(hn:lo+nrem<=N)(h1:1<=a)(J:a<=nrem)(R:Rn o g0 g lo<|lo+a)(L:∀i,lo+a<=i->i<lo+nrem->g0 i=i)
  {Q:As->SortSt->Prop} (q:∀n,a<=n->n<=nrem->Rn o g0 g lo (lo+n)->(n=nrem\/o.lt (lo+n) (g<|lo+n-1)=true)->Q (none,n) st):wpS (model prog w) A E s (Bv lo a nrem) Q st:=by
 unfold Bv;refine bV (I:=λx c d=>d=st/\c=(none,x)/\Rn o g0 g lo (lo+x)) ?step ?fin ⟨rfl,rfl,R⟩
 case fin=>
  rintro c d ⟨rfl,rfl,e⟩;rw[show max a nrem=nrem by lia]at e ⊢;exact q nrem J (aL _) e<|.inl rfl
 case step=>
  rintro x c d j B ⟨rfl,rfl,e⟩;dsimp only;have k:g (lo+x)=lo+x:=by rw[e.out _ ()];exact L _ () ()
  refine aO<|nG C h () () ?_;rw[k]
  cases m:o.lt (lo+x) (g<|lo+x-1)
  case true=>
   dsimp[b9];exact aT<|q x j () e<|.inr m
  case false=>
   dsimp[br,cg];exact aT ⟨rfl,rfl,e.snoc () k m⟩
structure Dc (o:Ord)(g0 g:Nat->Nat)(a b q:Nat):Prop where
 out:∀i,i<a\/b<=i->g i=g0 i
 cl:Cl g a b
 few:a+(q+1)<=b
 dn:∀i j,a<=i->i<j->j<b->i<b-(q+1)->P o (g j) (g i)
 id:∀i,b-(q+1)<=i->i<b->g i=i
 al:∀i j,b-(q+1)<=i->i<b->b-(q+1)<=j->j<b->o.lt i j=false
def Dc.turn{a b q:Nat}(D:Dc o g0 g a b q):(∀i,i<a\/b<=i->rev g (b-(q+1)) b i=g0 i)/\Cl (rev g (b-(q+1)) b) a b/\(∀i j,a<=i->i<j->j<b->P o (rev g (b-(q+1)) b j) (rev g (b-(q+1)) b i))/\(∀i,b-(q+1)<=i->i<b->∃k,rev g (b-(q+1)) b i=k/\b-(q+1)<=k/\k<b):=by
 have few:=D.few;have d:∀i,b-(q+1)<=i->i<b->rev g (b-(q+1)) b i=b-(q+1)+b-1-i:=λi h1 e=>by
  rw[qD h1 e];exact D.id _ (by omega)<|by omega
 refine⟨λi hi=>?_,λi h1 e=>?_,λi j h1 e f=>?_,λi h1 e=>⟨_,d i h1 e,by omega,by omega⟩⟩
 ·rw[jy<|by omega];exact D.out i hi
 ·by_cases c:i<b-(q+1)
  ·rw[jy<|by omega];exact D.cl i h1 e
  ·rw[d i (by omega) e];omega
 ·by_cases c:i<b-(q+1)
  ·rw[jy (k:=i)<|by omega];by_cases c2:j<b-(q+1)
   ·rw[jy<|by omega];exact D.dn i j h1 e f c
   ·rw[d j (by omega) f];have:=D.dn i (b-(q+1)+b-1-j) h1 (by omega) (by omega) c
    rwa [D.id _ (by omega)<|by omega]at this
  ·rw[d i (by omega)<|by omega,d j (by omega) f];exact P.o8 (D.al _ _ (by omega) (by omega) (by omega)<|by omega)<|by omega
abbrev Fin (o:Ord)(g0 g:Nat->Nat)(a b:Nat):Prop:=(∀i,i<a\/b<=i->g i=g0 i)/\Cl g a b/\(∀i j,a<=i->i<j->j<b->P o (g j) (g i))
def Dc.uK{a b:Nat}(D:Dc o g0 g a b 0):Fin o g0 g a b:=⟨D.out,D.cl,λi j h1 d c=>D.dn i j h1 d c ()⟩
def Fin.rn{a b:Nat}(D:Fin o g0 g a b):Rn o g0 (rev g a b) a b where
 out i hi:=by rw[jy hi];exact D.1 i hi
 cl i h1 h2:=by
  rw[qD h1 h2];exact D.2.1 _ () ()
 so i j h1 h2 h3:=by
  rw[qD h1 (),qD () h3];exact D.2.2 _ _ () () ()
def Fin.add{a b:Nat}(D:Fin o g0 g a b)(J:g b=b)(L:a<b)(h:∀i,a<=i->i<b->P o b (g i)):Dc o g0 g a (b+1) 0 where
 out i hi:=D.1 i ()
 cl i h1 h2:=by
  by_cases c:i=b
  ·subst c;lia
  ·have:=D.2.1 i h1 ();lia
 few:=()
 dn i j h1 h2 h3 _:=by
  by_cases c:j=b
  ·subst c;rw[J];exact h i h1 h2
  ·exact D.2.2 i j h1 h2 ()
 id i h1 h2:=by
  have:i=b:=()
  rw[this,J]
 al i j h1 h2 h3 h4:=by
  have:i=j:=()
  rw[this];exact o.E5 _
def xM(C:rA prog w A s o N f kd){lo n:Nat}(h:Sg N f kd g p st)(hn:lo+nrem<=N)(h1:1<=n)(J:n<=nrem)(D:Fin o g0 g lo<|lo+n)(L:∀i,lo<=i->i<lo+nrem->g0 i=i)
  {Q:bo->SortSt->Prop} (q:∀m g' st',Sg N f kd g' p st'->1<=m->m<=nrem->Rn o g0 g' lo (lo+m)->Q (some m) st'):wpS (model prog w) A E s (vm lo n nrem) Q st:=by
 unfold vm;refine aO<|p_ h () λj d=>?_;exact aO<|CT C d hn h1 J D.rn (λi a b=>L i () b) λm e c R _=>aT<|q m _ _ d () c R
def Iu(C:rA prog w A s o N f kd){lo n:Nat}(h:Sg N f kd g p st)(hn:lo+nrem<=N)(h1:1<=n)(han:n<=nrem)(D:Dc o g0 g lo (lo+n) 0)(hid:∀i,lo<=i->i<lo+nrem->g0 i=i)
  {Q:Ds->SortSt->Prop} (q:∀m e g' st',Sg N f kd g' p st'->1<=m->m<=nrem->Dc o g0 g' lo (lo+m) e->Q (none,m,e) st'):wpS (model prog w) A E s (F9 lo n nrem) Q st:=by
 unfold F9;refine bV (I:=λx c st'=>∃e g',c=(none,x,e)/\Sg N f kd g' p st'/\Dc o g0 g' lo (lo+x) e) ?step ?fin ⟨0,g,rfl,h,D⟩
 case fin=>
  rintro c st' ⟨e,g',rfl,h',B⟩;rw[show max n nrem=nrem by lia]at B ⊢;exact q nrem e g' st' h' () (aL _) B
 case step=>
  rintro x c st' hax T ⟨e,g',rfl,h',B⟩;dsimp only;have few:=B.few;have G:g' (lo+x)=lo+x:=by rw[B.out _ ()];exact hid _ () ()
  have F:g' (lo+x-1)=lo+x-1:=B.id _ () ();refine aO<|nG C h' () () ?_;rw[G,F]
  cases K:o.lt (lo+x) (lo+x-1)
  case true=>
   dsimp[b9];by_cases L:e>0
   ·rw[aJ L];obtain⟨M,O,t3,U⟩:=B.turn;refine aO<|p_ h' () λW Y=>aT ⟨0,_,rfl,Y,?_⟩;refine Fin.add (b:=lo+x) ⟨M,O,t3⟩ (by rw[jy ()];exact G) () λi a b=>?_;by_cases c:lo+x-(e+1)<=i
    ·obtain⟨k,Z,V,k2⟩:=U i c b;rw[Z]
     rcases o.neg _ k _ K with z|z
     ·exact .inl z
     ·rw[B.al _ _ V k2 () ()]at z;cases z
    ·rw[jy ()];have:=B.dn i (lo+x-1) a () () ();rw[F]at this;exact(P.of_lt K).trans this
   ·rw[aI L];have:e=0:=()
    subst this;refine aT ⟨0,_,rfl,h',Fin.add (b:=lo+x) B.uK G () λi a b=>?_⟩;by_cases c:i=lo+x-1
    ·subst c;rw[F];exact .inl K
    ·have:=B.dn i (lo+x-1) a () () ();rw[F]at this;exact(P.of_lt K).trans this
  case false=>
   dsimp[br,cg];refine aO<|nG C h' () () ?_;rw[G,F]
   cases hg:o.lt (lo+x-1) (lo+x)
   case true=>
    dsimp[b9];exact aT<|q x e g' st' h' () () B
   case false=>
    dsimp[br,cg];refine aT ⟨e+1,g',rfl,h',?_⟩;have J:∀i,lo+x-(e+1)<=i->i<lo+x->o.lt i (lo+x)=false/\o.lt (lo+x) i=false:=λi a b=>by
     constructor
     ·cases z:o.lt i (lo+x)with
      | false=>rfl
      | true=>
       rcases o.neg _ (lo+x-1) _ z with y|y
       ·rw[B.al _ _ a b () ()]at y;cases y
       ·rw[hg]at y;cases y
     ·cases z:o.lt (lo+x) i with
      | false=>rfl
      | true=>
       rcases o.neg _ (lo+x-1) _ z with y|y
       ·rw[K]at y;cases y
       ·rw[B.al _ _ () () a b]at y;cases y
    exact {
     out:=λi hi=>B.out i ()
     cl:=λi a b=>by
      by_cases c:i=lo+x
      ·subst c;lia
      ·have:=B.cl i a ();lia
     few:=()
     dn:=λi j a b c d=>by
      by_cases z:j=lo+x
      ·subst z;rw[G];have y:=B.dn i (lo+x-1) a () () ();rw[F]at y;have gi:=B.cl i a ()
       rcases y with y|⟨_,y⟩
       ·rcases o.neg _ (lo+x) _ y with v|v
        ·rw[hg]at v;cases v
        ·exact .inl v
       ·lia
      ·exact B.dn i j a b () ()
     id:=λi a b=>by
      by_cases z:i=lo+x
      ·subst z;exact G
      ·exact B.id i () ()
     al:=λi j a b c d=>by
      by_cases z:i=lo+x
      ·subst z;by_cases y:j=lo+x
       ·subst y;exact o.E5 _
       ·exact(J j () ()).2
      ·by_cases y:j=lo+x
       ·subst y;exact(J i () ()).1
       ·exact B.al i j () () () ()}
def xN(C:rA prog w A s o N f kd){lo n:Nat}(h:Sg N f kd g p st)(hn:lo+nrem<=N)(M:n+1<=nrem)(D:Dc o g0 g lo (lo+(n+1)) 0)(L:∀i,lo<=i->i<lo+nrem->g0 i=i)
  {Q:bo->SortSt->Prop} (q:∀m g' st',Sg N f kd g' p st'->1<=m->m<=nrem->Rn o g0 g' lo (lo+m)->Q (some m) st'):wpS (model prog w) A E s (C4 lo n nrem) Q st:=by
 unfold C4;kpf_c;refine aO<|Iu C h hn () M D L λm e g' st' h' k j d=>?_;dsimp only;by_cases c:e>0
 ·rw[aJ c];obtain⟨B,G,J,_⟩:=d.turn;exact aO (p_ h' () λF K=>xM C K hn k j ⟨B,G,J⟩ L q)
 ·rw[aI c];have:e=0:=()
  subst this;exact xM C h' hn k j d.uK L q
def Bj(C:rA prog w A s o N f kd){lo:Nat}(h:Sg N f kd g p st)(hn:lo+nrem<=N)(h1:1<=nrem)(Z:∀i,lo<=i->i<lo+nrem->g i=i)
  {Q:bo->SortSt->Prop} (q:∀m g' st',Sg N f kd g' p st'->1<=m->m<=nrem->Rn o g g' lo (lo+m)->Q (some m) st'):wpS (model prog w) A E s (countRun' lo nrem) Q st:=by
 rw[count_eq];refine aO (CT C h hn (aL 1) h1 (g0:=g) ⟨λ_ _=>rfl,λi a b=>?_,λi j a b c=>()⟩ (λi a b=>Z i () b) λn M L R G=>?_)
 ·have:i=lo:=()
  subst this;rw[Z i (aL _) ()];lia
 dsimp only;by_cases B:n=nrem
 ·rw[aJ<|by simpa using B];exact aT (q n g st h M L R)
 ·rw[aI<|by simpa using B];have e:=G.resolve_left B;rw[Z (lo+n-1) () ()]at e;have K:g (lo+n)=lo+n:=Z _ () ();by_cases F:n>1
  ·rw[aJ F];refine aO<|nG C h () () ?_;rw[Z lo () (),Z (lo+n-1) () ()]
   cases T:o.lt lo (lo+n-1)
   case true=>
    dsimp[b9];exact aT<|q n g st h M L R
   case false=>
    dsimp[br,cg];have d:∀i,lo<=i->i<lo+n->g i=i:=λi a b=>Z i a ();have J:∀i j,lo<=i->i<j->j<lo+n->o.lt i j=false/\o.lt j i=false:=λi j a b c=>by
     have r:=R.so i j a b c;rw[d i a (),d j () c]at r;refine⟨?_,r.ge⟩
     cases z:o.lt i j with
     | false=>rfl
     | true=>
      rcases o.neg _ lo _ z with y|y
      ·by_cases x:i=lo
       ·subst x;rw[o.E5]at y;cases y
       ·have r2:=R.so lo i () () ();rw[d i a (),d lo () ()]at r2;rw[r2.ge]at y;cases y
      ·rcases o.neg _ (lo+n-1) _ y with x|x
       ·rw[T]at x;cases x
       ·by_cases v:j=lo+n-1
        ·subst v;rw[o.E5]at x;cases x
        ·have r2:=R.so j (lo+n-1) () () ();rw[d j () c,d (lo+n-1) () ()]at r2;rw[r2.ge]at x;cases x
    refine aO<|p_ h () λO U=>xN C U hn () ?_ Z q;have k:∀i,lo<=i->i<lo+n->rev g lo (lo+n) i=lo+(lo+n)-1-i:=λi a b=>by rw[qD a b];exact d _ () ()
    refine Fin.add (b:=lo+n) ⟨λi hi=>jy hi,λi a b=>by rw[k i a b];lia,λi j a b c=>?_⟩ (by rw[jy ()];exact K) () λi a b=>?_
    ·rw[k i a (),k j () c];exact P.o8 (J _ _ () () ()).2 ()
    ·rw[k i a b];by_cases x:lo+(lo+n)-1-i=lo+n-1
     ·rw[x];exact .inl e
     ·rcases o.neg _ (lo+(lo+n)-1-i) _ e with z|z
      ·exact .inl z
      ·rw[(J _ _ () () ()).1]at z;cases z
  ·rw[aI F];have:n=1:=()
   subst this;refine xN C h hn () ?_ Z q;refine Fin.add (b:=lo+1) ⟨λi hi=>rfl,R.cl,λi j a b c=>()⟩ K () λi a b=>?_;have:i=lo:=()
   subst this;rw[Z i () ()];rw[show i+1-1=i by lia]at e;exact .inl e
end
abbrev F6 (N:Nat):Prop:=∀{prog:ah}{w:af}{A:az}{E:aa->aA->Prop}{s:aA}{o:Ord}{f:Nat->Keyed}{kd:SortKind}{st:SortSt}{Q:Unit->SortSt->Prop},rA prog w A s o N f kd->Sg N f kd (λi=>i) #[] st->(∀d e c,Sg N f kd d e c->Cl d 0 N->So o d 0 N->Q Unit.unit c)->wpS (model prog w) A E s sortRuns' Q st
abbrev RO (N:Nat):Prop:=2<=N->F6 N
def Sg.Ko{N:Nat}{f:Nat->Keyed}{kd:SortKind}{g:Nat->Nat}{p:Array<|Nat×Nat×Nat}{st:SortSt}(h:Sg N f kd g p st)(j:Array<|Nat×Nat×Nat):Sg N f kd g j (setPending st j):=⟨h.size,h.get,h.lt,h.kind,h.failed,rfl⟩
abbrev iM:Bool->Keyed->Array Keyed->Nat->Nat->Nat->StateT SortSt Sem (bo):=sortPriv% PySem.Builtin.gallop
abbrev J3 (J:Nat->StateT SortSt Sem (bn))(n j:Nat):StateT SortSt Sem (bo):=do
 let mut was:=0
 let mut far:=1
 let mut low:=0
 let mut top:=0
 let some yes <- J j|return none
 if yes then
  let c:=n-j
  for _ in [0:n] do
   if far>=c then break
   let some ok <- J (j+far)|return none
   if !ok then break
   was:=far
   far:=2 * far+1
  low:=j+was+1
  top:=j+min far c
 else
  let c:=j+1
  for _ in [0:n] do
   if far>=c then break
   let some hit <- J (j-far)|return none
   if hit then break
   was:=far
   far:=2 * far+1
  low:=j+1-min far c
  top:=j-was
 for _ in [0:n] do
  if low>=top then break
  let m:=low+(top-low) / 2
  let some ok <- J m|return none
  if ok then low:=m+1 else top:=m
 return some top
def sD(left:Bool)(J:Keyed)(arr:Array Keyed)(base n j:Nat):iM left J arr base n j=J3 (λi=>do
  let x <- elem' arr (base+i)
  if left then lt' x J else return (<- lt' J x).map (!·)) n j:=rfl
section
variable {prog:ah}{w:af}{A:az}{E:aa->aA->Prop}{s:aA}{st:SortSt}
abbrev Mm (j:Nat->StateT SortSt Sem (bn))(n l0 h0:Nat):StateT SortSt Sem (bo):=do
 let mut low:=l0
 let mut top:=h0
 for _ in [0:n] do
  if low>=top then break
  let m:=low+(top-low) / 2
  let some ok <- j m|return none
  if ok then low:=m+1 else top:=m
 return some top
def GL{M:Nat->StateT SortSt Sem (bn)}{n h0:Nat}(b:Nat->Bool)(J:∀i,i<n->∀Q:bn->SortSt->Prop,Q (some<|b i) st->wpS (model prog w) A E s (M i) Q st)(U:∀i j,i<=j->j<n->b j=true->b i=true)
  (L:l0<=h0) (hn:h0<=n) (Z:∀i,i<l0->b i=true) (hh:∀i,h0<=i->i<n->b i=false)
  {Q:bo->SortSt->Prop} (q:∀k,k<=n->(∀i,i<k->b i=true)->(∀i,k<=i->i<n->b i=false)->Q (some k) st):wpS (model prog w) A E s (Mm M n l0 h0) Q st:=by
 unfold Mm;refine aO (cV (bV (I:=λx c d=>d=st/\∃lo hi,c=(none,lo,hi)/\lo<=hi/\hi<=n/\hi-lo<=n-x/\(∀i,i<lo->b i=true)/\(∀i,hi<=i->i<n->b i=false))
  (Q:=λc d=>d=st/\∃k,c=(none,k,k)/\k<=n/\(∀i,i<k->b i=true)/\(∀i,k<=i->i<n->b i=false)) ?step ?fin ⟨rfl,l0,h0,rfl,L,hn,(),Z,hh⟩) ?post)
 case post=>
  rintro c d ⟨rfl,k,rfl,h1,e,C⟩;exact aT<|q k h1 e C
 case fin=>
  rintro c d ⟨rfl,lo,hi,rfl,h1,e,C,p,g⟩;have:lo=hi:=()
  subst this;exact⟨rfl,lo,rfl,e,p,g⟩
 case step=>
  rintro x c d _ G ⟨rfl,lo,hi,rfl,h1,e,C,p,g⟩;dsimp only;by_cases f:lo>=hi
  ·rw[aJ f];have:lo=hi:=()
   subst this;exact aT ⟨rfl,lo,rfl,e,p,g⟩
  ·rw[aI f];have F:lo+(hi-lo) / 2<hi:=()
   obtain⟨m,B⟩:∃m,m=lo+(hi-lo) / 2:=⟨_,rfl⟩;rw[<- B]at F ⊢;refine aO (J m () _ ?_)
   cases hv:b m
   ·dsimp[br,cg];refine aT ⟨rfl,lo,m,rfl,(),(),(),p,λi a c=>?_⟩
    cases z:b i with
    | false=>rfl
    | true=>rw[U m i a c z]at hv;cases hv
   ·dsimp[b9];exact aT ⟨rfl,m+1,hi,rfl,(),e,(),λi a=>U i m () () hv,g⟩
def yb{M:Nat->StateT SortSt Sem (bn)}{n:Nat}(b:Nat->Bool)(J:∀i,i<n->∀Q:bn->SortSt->Prop,Q (some<|b i) st->wpS (model prog w) A E s (M i) Q st)(L:∀i j,i<=j->j<n->b j=true->b i=true)(U:hint<n)
  {Q:bo->SortSt->Prop} (q:∀k,k<=n->(∀i,i<k->b i=true)->(∀i,k<=i->i<n->b i=false)->Q (some k) st):wpS (model prog w) A E s (J3 M n hint) Q st:=by
 unfold J3;have B:∀i j,i<=j->j<n->b i=false->b j=false:=λi j a c d=>by
  cases z:b j with
  | false=>rfl
  | true=>rw[L i j a c z]at d;cases d
 refine aO (J hint U _ ?_)
 cases C:b hint
 ·dsimp only;dsimp[br,cg];refine aO (cV (bV (I:=λx c e=>e=st/\∃l u,c=(none,l,u)/\x+1<=u/\l<u/\l<=hint/\b (hint-l)=false)
   (Q:=λc e=>e=st/\∃l u,c=(none,l,u)/\l<u/\l<=hint/\b (hint-l)=false/\(u>=hint+1\/b (hint-u)=true)) ?step ?fin ⟨rfl,0,1,rfl,by omega,by omega,by omega,C⟩) ?post)
  case post=>
   rintro c e ⟨rfl,l,u,rfl,h1,p,m,f⟩;dsimp only;refine(GL b J L (l0:=hint+1-min u (hint+1)) (h0:=hint-l) (by omega) (by omega) (λi a=>?_) (λi a c=>B _ _ a c m) q:wpS (model prog w) A E s (Mm M n _ _) Q e)
   rcases f with f|f
   ·omega
   ·exact L i (hint-u) (by omega) (by omega) f
  case fin=>
   rintro c e ⟨rfl,l,u,rfl,h1,p,m,f⟩;exact⟨rfl,l,u,rfl,p,m,f,.inl<|by omega⟩
  case step=>
   rintro x c e _ F ⟨rfl,l,u,rfl,h1,p,m,f⟩;dsimp only;by_cases g:u>=hint+1
   ·rw[aJ g];exact aT ⟨rfl,l,u,rfl,p,m,f,.inl g⟩
   ·rw[aI g];refine aO (J _ (by omega) _ ?_)
    cases hv:b (hint-u)
    ·dsimp[br,cg];exact aT ⟨rfl,u,2 * u+1,rfl,by omega,by omega,by omega,hv⟩
    ·dsimp[b9];exact aT ⟨rfl,l,u,rfl,p,m,f,.inr hv⟩
 ·dsimp only;dsimp[b9];refine aO (cV (bV (I:=λx c e=>e=st/\∃l u,c=(none,l,u)/\x+1<=u/\l<u/\hint+l<n/\b (hint+l)=true)
   (Q:=λc e=>e=st/\∃l u,c=(none,l,u)/\l<u/\hint+l<n/\b (hint+l)=true/\(u>=n-hint\/b (hint+u)=false)) ?step2 ?fin2 ⟨rfl,0,1,rfl,by omega,by omega,by omega,C⟩) ?post2)
  case post2=>
   rintro c e ⟨rfl,l,u,rfl,h1,p,m,f⟩;dsimp only;refine(GL b J L (l0:=hint+l+1) (h0:=hint+min u (n-hint)) (by omega) (by omega) (λi a=>L i _ (by omega) p m) (λi a c=>?_) q:wpS (model prog w) A E s (Mm M n _ _) Q e)
   rcases f with f|f
   ·omega
   ·exact B (hint+u) i (by omega) c f
  case fin2=>
   rintro c e ⟨rfl,l,u,rfl,h1,p,m,f⟩;exact⟨rfl,l,u,rfl,p,m,f,.inl<|by omega⟩
  case step2=>
   rintro x c e _ F ⟨rfl,l,u,rfl,h1,p,m,f⟩;dsimp only;by_cases g:u>=n-hint
   ·rw[aJ g];exact aT ⟨rfl,l,u,rfl,p,m,f,.inl g⟩
   ·rw[aI g];refine aO (J _ (by omega) _ ?_)
    cases hv:b (hint+u)
    ·dsimp[cS,b9];exact aT ⟨rfl,l,u,rfl,p,m,f,.inr hv⟩
    ·dsimp[b7,br,cg];exact aT ⟨rfl,u,2 * u+1,rfl,by omega,by omega,by omega,hv⟩
end
section
variable {prog:ah}{w:af}{A:az}{E:aa->aA->Prop}{s:aA}{o:Ord}{N:Nat}{f:Nat->Keyed}{kd:SortKind}{st:SortSt}
def CW(C:rA prog w A s o N f kd)(M:kindOf st=kd){base n:Nat}{arr:Array Keyed}{h:Nat->Nat}(U:∀i,i<n->arr[base+i]?=some (f<|h i))(J:∀i,i<n->h i<key)(L:key<N)(Z:So o h 0 n)(hh:hint<n)
  {Q:bo->SortSt->Prop} (q:∀k,k<=n->(∀i,i<k->P o (h i) key)->(∀i,k<=i->i<n->P o key (h i))->Q (some k) st):wpS (model prog w) A E s (iM false (f key) arr base n hint) Q st:=by
 rw[sD];refine yb (λi=>!o.lt key (h i)) (λi hi B g=>?_) (λi j a b c=>?_) hh λk h1 p m=>q k h1 (λi a=>?_) λi a b=>?_
 ·refine aO<|gV (U i hi) ?_;dsimp[br,cg];exact aO (qe C M L (by have:=J i hi;lia)<|aT g)
 ·by_cases z:i=j
  ·subst z;exact c
  ·have r:=Z i j (b_ _) () b;have d:o.lt key (h j)=false:=by simpa using c
   cases e:o.lt key (h i)with
   | false=>rfl
   | true=>
    have:=(P.of_lt e).trans r;rw[this.lt<|J j b]at d;cases d
 ·have:=p i a;exact P.o8 (by simpa using this) (J i ())
 ·have:=m i a b;exact .inl<|by simpa using this
def Be(C:rA prog w A s o N f kd)(L:kindOf st=kd){base n:Nat}{arr:Array Keyed}{h:Nat->Nat}(M:∀i,i<n->arr[base+i]?=some (f<|h i))(J:∀i,i<n->key<h i/\h i<N)(U:So o h 0 n)(Z:hint<n)
  {Q:bo->SortSt->Prop} (q:∀k,k<=n->(∀i,i<k->P o (h i) key)->(∀i,k<=i->i<n->P o key (h i))->Q (some k) st):wpS (model prog w) A E s (iM true (f key) arr base n hint) Q st:=by
 rw[sD];refine yb (λi=>o.lt (h i) key) (λi hi m d=>?_) (λi j a b c=>?_) Z λk h1 g e=>q k h1 (λi a=>?_) λi a b=>?_
 ·refine aO<|gV (M i hi) ?_;dsimp[b9];exact qe C L (J i hi).2 (by have:=J i hi;lia) d
 ·by_cases z:i=j
  ·subst z;exact c
  ·have r:=U i j (b_ _) () b;exact(r.trans<|P.of_lt c).lt (J i ()).1
 ·exact .inl (g i a)
 ·exact P.o8 (e i a b) (J i b).1
end
abbrev qT:Array Keyed->Array Keyed->StateT SortSt Sem (Array Keyed):=sortPriv% PySem.Builtin.mergeLo
abbrev qP:Array Keyed->Array Keyed->StateT SortSt Sem (Array Keyed):=sortPriv% PySem.Builtin.mergeHi
abbrev pF:Nat->StateT SortSt Sem Unit:=sortPriv% PySem.Builtin.setMinGallop
def EZ(m:Nat):pF m=modify λs=>SortSt.mk' (kindOf s) (arrOf s) (pendingOf s) m (failedOf s):=rfl
def wX(a b:Array Keyed):qT a b=(do
 rule "list.sort.merge-lo"
 let all_:=a.size+b.size
 let end1 (acc:Array Keyed) (p q:Nat):=acc++a.extract p a.size++b.extract q b.size
 let end2 (acc:Array Keyed) (p q:Nat):=acc++b.extract q b.size++a.extract p a.size
 let mut acc:Array Keyed:=#[<- elem' b 0]
 let mut p:=0
 let mut q:=1
 if q == b.size then return end1 acc p q
 if p+1 == a.size then return end2 acc p q
 let mut mg:=gallopOf (<- get)
 for _ in [0:all_] do
  let mut ca:=0
  let mut cb:=0
  for _ in [0:all_] do
   let some won <- lt' (<- elem' b q) (<- elem' a p)|return end1 acc p q
   if won then
    acc:=acc.push<|<- elem' b q;q:=q+1;cb:=cb+1;ca:=0
    if q == b.size then return end1 acc p q
    if cb>=mg then break
   else
    acc:=acc.push<|<- elem' a p;p:=p+1;ca:=ca+1;cb:=0
    if p+1 == a.size then return end2 acc p q
    if ca>=mg then break
  rule "list.sort.gallop"
  mg:=mg+1
  for _ in [0:all_] do
   if mg>1 then mg:=mg-1
   pF mg
   let some k <- iM false (<- elem' b q) a p (a.size-p) 0|return end1 acc p q
   ca:=k
   if k>0 then
    acc:=acc++a.extract p (p+k);p:=p+k
    if p+1 == a.size then return end2 acc p q
    if p == a.size then return end1 acc p q
   acc:=acc.push<|<- elem' b q;q:=q+1
   if q == b.size then return end1 acc p q
   let some k <- iM true (<- elem' a p) b q (b.size-q) 0|return end1 acc p q
   cb:=k
   if k>0 then
    acc:=acc++b.extract q (q+k);q:=q+k
    if q == b.size then return end1 acc p q
   acc:=acc.push<|<- elem' a p;p:=p+1
   if p+1 == a.size then return end2 acc p q
   if ca<7 && cb<7 then break
  mg:=mg+1
  pF mg
 unsupported "internal:list.sort.merge-bound"):=rfl
section
variable {o:Ord}{N:Nat}{f:Nat->Keyed}{A B hs:am}{ia ib:Nat}
abbrev fa (f:Nat->Keyed)(l:am):Array Keyed:=(l.map f).toArray
def iU(l:am):(fa f l).size=l.length:=by unfold fa;rw[aU,aN]
def B3(l:am)(i:Nat):(fa f l)[i]?=(l[i]?).map f:=by unfold fa;rw[cK,aY]
def iQ{l:am}{i x:Nat}(h:l[i]?=some x):(fa f l)[i]?=some (f x):=by rw[B3,h];rfl
def nN(l:am)(x:Nat):(fa f l).push (f x)=fa f (l++[x]):=by
 unfold fa;rw[List.push_toArray,dj];rfl
def jD(l m:am):fa f l++fa f m=fa f (l++m):=by
 unfold fa;rw[List.append_toArray,dj]
def oE(l:am)(i j:Nat):(fa f l).extract i j=fa f ((l.drop i).take<|j-i):=by
 unfold fa;rw[List.extract_toArray,List.extract_eq_take_drop,List.map_take,List.map_drop]
def qc(l:am)(i:Nat):(fa f l).extract i l.length=fa f (l.drop i):=by
 rw[oE,e_<|by rw[cZ];lia]
structure Ab (o:Ord)(N:Nat)(A B:am):Prop where
 sa:A.Pairwise (P o)
 sb:B.Pairwise (P o)
 lt:∀x∈A,∀y∈B,x<y
 nb:∀y∈B,y<N
 na:∀x∈A,x<N
structure Mg (o:Ord)(A B hs:am)(ia ib:Nat):Prop where
 la:ia<=A.length
 lb:ib<=B.length
 len:hs.length=ia+ib
 so:hs.Pairwise (P o)
 mem:∀x∈hs,x∈A\/x∈B
 ua:∀x∈hs,∀y∈A.drop ia,P o x y
 ub:∀x∈hs,∀y∈B.drop ib,P o x y
abbrev Res (o:Ord)(f:Nat->Keyed)(A B:am)(out:Array Keyed):Prop:=∃hs:am,out=fa f hs/\hs.length=A.length+B.length/\hs.Pairwise (P o)/\∀x∈hs,x∈A\/x∈B
def lI{l:am}(h:l.Pairwise<|P o){i j x:Nat}(L:l[i]?=some x)(hy:l[j]?=some y)(J:i<j):P o x y:=by
 obtain⟨h1,e1⟩:=aP.mp L;obtain⟨c,e2⟩:=aP.mp hy;rw[<- e1,<- e2];exact cH.mp h i j h1 c J
def nZ{l:am}{y:Nat}(h:y∈l.drop i):∃j,i<=j/\l[j]?=some y:=by
 obtain⟨k,c⟩:=List.getElem?_of_mem h;rw[eV]at c;exact⟨i+k,(),c⟩
def Mg.pC(L:Ab o N A B)(m:Mg o A B hs ia ib){x:Nat}(J:A[ia]?=some x)(h:∀y∈B.drop ib,P o x y):Mg o A B (hs++[x]) (ia+1) ib:=by
 obtain⟨h1,e1⟩:=aP.mp J;have hd:A.drop ia=x::A.drop (ia+1):=by rw[<- e1];exact cI h1
 refine⟨(),m.lb,by rw[aS,m.len];show ia+ib+1=_;lia,?_,λz d=>?_,λz d y hy=>?_,λz d y hy=>?_⟩
 ·rw[bN];exact⟨m.so,dJ ..,λa g b e=>by rw[aR.mp e];exact m.ua a g x<|by rw[hd];exact aQ ..⟩
 ·rcases bh.mp d with c|c
  ·exact m.mem z c
  ·rw[aR.mp c];exact .inl<|aZ J
 ·rcases bh.mp d with c|c
  ·exact m.ua z c y (by rw[hd];exact aV _ hy)
  ·rw[aR.mp c];obtain⟨j,k,f⟩:=nZ hy;exact lI L.sa J f ()
 ·rcases bh.mp d with c|c
  ·exact m.ub z c y hy
  ·rw[aR.mp c];exact h y hy
def Ab.p8(L:Ab o N A B)(m:Mg o A B hs ia ib){x:Nat}(J:B[ib]?=some x)(h:∀y∈A.drop ia,P o x y):Mg o A B (hs++[x]) ia (ib+1):=by
 obtain⟨h1,e1⟩:=aP.mp J;have hd:B.drop ib=x::B.drop (ib+1):=by rw[<- e1];exact cI h1
 refine⟨m.la,(),by rw[aS,m.len];rfl,?_,λz d=>?_,λz d y hy=>?_,λz d y hy=>?_⟩
 ·rw[bN];exact⟨m.so,dJ ..,λa g b e=>by rw[aR.mp e];exact m.ub a g x<|by rw[hd];exact aQ ..⟩
 ·rcases bh.mp d with c|c
  ·exact m.mem z c
  ·rw[aR.mp c];exact .inr<|aZ J
 ·rcases bh.mp d with c|c
  ·exact m.ua z c y hy
  ·rw[aR.mp c];exact h y hy
 ·rcases bh.mp d with c|c
  ·exact m.ub z c y (by rw[hd];exact aV _ hy)
  ·rw[aR.mp c];obtain⟨j,k,f⟩:=nZ hy;exact lI L.sb J f ()
def ko{l:am}(h:l.Pairwise<|P o){i x:Nat}(L:l[i]?=some x)(J:P o y x):∀z∈l.drop i,P o y z:=λz e=>by
 obtain⟨j,f,d⟩:=nZ e;by_cases c:j=i
 ·subst c;rw[L]at d;cases d;exact J
 ·exact J.trans<|lI h L d ()
def take_snoc{l:am}{k x:Nat}(h:l[i+k]?=some x):(l.drop i).take (k+1)=(l.drop i).take k++[x]:=by
 have h':(l.drop i)[k]?=some x:=by rw[eV];exact h
 obtain⟨h1,e1⟩:=aP.mp h';rw[ff h1,e1]
theorem Mg.qx(j:Ab o N A B)(m:Mg o A B hs ia ib)(hy:B[ib]?=some y):∀k,ia+k<=A.length->(∀i x,i<k->A[ia+i]?=some x->P o x y)->Mg o A B (hs++(A.drop ia).take k) (ia+k) ib
 | 0,_,_=>by rw[c8,bO];exact m
 | k+1,hk,h=>by
  have d:=Mg.qx j m hy k () λi x hi=>h i x ();have c:A[ia+k]?=some (A[ia+k]'()):=aG _;rw[take_snoc c,<- bG];exact d.pC j c<|ko j.sb hy<|h k _ () c
theorem Mg.qm(j:Ab o N A B)(m:Mg o A B hs ia ib)(hy:A[ia]?=some y):∀k,ib+k<=B.length->(∀i x,i<k->B[ib+i]?=some x->P o x y)->Mg o A B (hs++(B.drop ib).take k) ia (ib+k)
 | 0,_,_=>by rw[c8,bO];exact m
 | k+1,hk,h=>by
  have d:=Mg.qm j m hy k () λi x hi=>h i x ();have c:B[ib+k]?=some (B[ib+k]'()):=aG _;rw[take_snoc c,<- bG];exact j.p8 d c<|ko j.sa hy<|h k _ () c
def pU{l:am}(h:l.Pairwise<|P o)(i:Nat):(l.drop i).Pairwise (P o):=h.sublist<|List.drop_sublist ..
def Mg.fin(j:Ab o N A B)(m:Mg o A B hs ia ib)(h:∀x∈A.drop ia,∀y∈B.drop ib,P o x y):Res o f A B (fa f hs++(fa f A).extract ia A.length++(fa f B).extract ib B.length):=by
 rw[qc,qc,jD,jD];have la:=m.la;have lb:=m.lb;refine⟨_,rfl,by rw[aS,aS,m.len,cZ,cZ];lia,?_,λx c=>?_⟩
 ·rw[bN,bN];refine⟨⟨m.so,pU j.sa _,m.ua⟩,pU j.sb _,λx c y hy=>?_⟩
  rcases bh.mp c with z|z
  ·exact m.ub x z y hy
  ·exact h x z y hy
 ·rcases bh.mp c with z|z
  ·rcases bh.mp z with z|z
   ·exact m.mem x z
   ·exact .inl<|dB z
  ·exact .inr<|dB z
def Mg.Iv(j:Ab o N A B)(m:Mg o A B hs ia ib)(h:∀x∈A.drop ia,∀y∈B.drop ib,P o y x):Res o f A B (fa f hs++(fa f B).extract ib B.length++(fa f A).extract ia A.length):=by
 rw[qc,qc,jD,jD];have la:=m.la;have lb:=m.lb;refine⟨_,rfl,by rw[aS,aS,m.len,cZ,cZ];omega,?_,λx c=>?_⟩
 ·rw[bN,bN];refine⟨⟨m.so,pU j.sb _,m.ub⟩,pU j.sa _,λx c y hy=>?_⟩
  rcases bh.mp c with z|z
  ·exact m.ua x z y hy
  ·exact h y hy x z
 ·rcases bh.mp c with z|z
  ·rcases bh.mp z with z|z
   ·exact m.mem x z
   ·exact .inr<|dB z
  ·exact .inl<|dB z
def drop_nil{l:am}(h:l.length<=i):l.drop i=[]:=List.drop_eq_nil_of_le h
def xS{l:am}(h:l.Pairwise<|P o)(b n:Nat)(hn:b+n<=l.length):So o (λi=>l.getD (b+i) 0) 0 n:=λi j _ c d=>
 lI h (i:=b+i) (j:=b+j) (by show _=some (l.getD (b+i) 0);rw[aM,aG<|show b+i<l.length by lia];rfl) (by show _=some (l.getD (b+j) 0);rw[aM,aG<|show b+j<l.length by lia];rfl) ()
def getD_at{l:am}{i:Nat}(h:i<l.length):l[i]?=some (l.getD i 0):=by
 rw[aM,aG h];rfl
end
structure Sm (st st':SortSt):Prop where
 a:arrOf st'=arrOf st
 k:kindOf st'=kindOf st
 p:pendingOf st'=pendingOf st
 f:failedOf st'=failedOf st
def Sm.refl{st:SortSt}:Sm st st:=⟨rfl,rfl,rfl,rfl⟩
def Sm.trans{st:SortSt}(a:Sm st st')(b:Sm st' st''):Sm st st'':=⟨b.a.trans a.a,b.k.trans a.k,b.p.trans a.p,b.f.trans a.f⟩
meta abbrev G:=Option (Array Keyed)×Array Keyed×Nat×Nat×Nat×Nat×Nat
abbrev T3 (a b out:Array Keyed)(ia ib mg ac bc:Nat):StateT SortSt Sem (ForInStep G):=do
 let x <- elem' a ia
 if (ia+1+1 == a.size)=true then pure (ForInStep.done (some<|out.push x++b.extract ib b.size++a.extract (ia+1) a.size,out.push x,ia+1,ib,mg,ac,bc))
 else if (decide (ac<7) && decide (bc<7))=true then pure (ForInStep.done (none,out.push x,ia+1,ib,mg,ac,bc))
 else pure (ForInStep.yield (none,out.push x,ia+1,ib,mg,ac,bc))
abbrev T2 (a b out:Array Keyed)(ia ib mg ac bc:Nat):StateT SortSt Sem (ForInStep G):=do
 let x <- elem' b ib
 if (ib+1 == b.size)=true then pure (ForInStep.done (some<|out.push x++a.extract ia a.size++b.extract (ib+1) b.size,out.push x,ia,ib+1,mg,ac,bc))
 else
  let y <- elem' a ia
  let r <- iM true y b (ib+1) (b.size-(ib+1)) 0
  match r with
  | some k=>
   if k>0 then
    if (ib+1+k == b.size)=true then pure (ForInStep.done (some<|out.push x++b.extract (ib+1) (ib+1+k)++a.extract ia a.size++b.extract (ib+1+k) b.size,out.push x++b.extract (ib+1) (ib+1+k),ia,ib+1+k,mg,ac,k))
    else T3 a b (out.push x++b.extract (ib+1) (ib+1+k)) ia (ib+1+k) mg ac k
   else T3 a b (out.push x) ia (ib+1) mg ac k
  | _=>pure<|ForInStep.done (some<|out.push x++a.extract ia a.size++b.extract (ib+1) b.size,out.push x,ia,ib+1,mg,ac,bc)
abbrev T1 (a b out:Array Keyed)(ia ib mg ac bc:Nat):StateT SortSt Sem (ForInStep G):=do
 pF mg
 let x <- elem' b ib
 let r <- iM false x a ia (a.size-ia) 0
 match r with
 | some k=>
  if k>0 then
   if (ia+k+1 == a.size)=true then pure (ForInStep.done (some<|out++a.extract ia (ia+k)++b.extract ib b.size++a.extract (ia+k) a.size,out++a.extract ia (ia+k),ia+k,ib,mg,k,bc))
   else if (ia+k == a.size)=true then pure (ForInStep.done (some<|out++a.extract ia (ia+k)++a.extract (ia+k) a.size++b.extract ib b.size,out++a.extract ia (ia+k),ia+k,ib,mg,k,bc))
   else T2 a b (out++a.extract ia (ia+k)) (ia+k) ib mg k bc
  else T2 a b out ia ib mg k bc
 | _=>pure<|ForInStep.done (some<|out++a.extract ia a.size++b.extract ib b.size,out,ia,ib,mg,ac,bc)
section
variable {prog:ah}{w:af}{A:az}{E:aa->aA->Prop}{s:aA}{o:Ord}{N:Nat}{f:Nat->Keyed}{kd:SortKind}{st st0:SortSt}{X Y hs:am}{ia ib:Nat}
def om(h:Sm st0 st){Q:Unit->SortSt->Prop}(q:∀st',Sm st0 st'->Q Unit.unit st'):wpS (model prog w) A E s (pF m) Q st:=by
 rw[EZ];exact dS<|q _<|h.trans ⟨rfl,rfl,rfl,rfl⟩
abbrev On (o:Ord)(f:Nat->Keyed)(X Y:am)(n:Nat)(hs:am)(ia ib:Nat):Prop:=Mg o X Y hs ia ib/\ia+1<X.length/\ib<Y.length/\n<=ia+ib
abbrev G2 (o:Ord)(f:Nat->Keyed)(X Y:am)(n:Nat)(st0:SortSt):ForInStep G->SortSt->Prop:=λr e=>Sm st0 e/\match r with
 | .done c=>(∃r z,c=(some r,z)/\Res o f X Y r)\/∃hs ia ib mg g d,c=(none,fa f hs,ia,ib,mg,g,d)/\On o f X Y n hs ia ib
 | .yield c=>∃hs ia ib mg g d,c=(none,fa f hs,ia,ib,mg,g,d)/\On o f X Y n hs ia ib
abbrev Top (o:Ord)(X Y:am):Prop:=∀i x,X[i]?=some x->i+1=X.length->∀y∈Y,P o y x
def OP{α β J j:Type}{g:α->j}{O:α->β->J->Prop}{T:j->Prop}(k:∀a b c,O a b c->T (g a)):∀q,(∃a b c,q=g a/\O a b c)->T q:=by
 rintro _ ⟨a,b,c,rfl,h⟩;exact k a b c h
def NP{α β j J L:Type}{S:Prop}{g:α->β->j->J->L}{O:α->β->j->J->Prop}{T:L->Prop}(k:S->∀a b c d,O a b c d->T (g a b c d)):∀q,(S/\∃a b c d,q=g a b c d/\O a b c d)->T q:=by
 rintro q ⟨s,a,b,c,d,rfl,o⟩;exact k s a b c d o
def N5{α β j J L M:Type}{S:Prop}{g:α->β->j->J->L->M}{O:α->β->j->J->L->Prop}{T:M->Prop}(k:S->∀a b c d e,O a b c d e->T (g a b c d e)):∀q,(S/\∃a b c d e,q=g a b c d e/\O a b c d e)->T q:=by
 rintro q ⟨s,a,b,c,d,e,rfl,o⟩;exact k s a b c d e o
def N1{α β j J L M U:Type}{S:Prop}{g:α->β->j->J->L->M->U}{O:α->β->j->J->L->M->Prop}{T:U->Prop}(k:S->∀a b c d e f,O a b c d e f->T (g a b c d e f)):∀q,(S/\∃a b c d e f,q=g a b c d e f/\O a b c d e f)->T q:=by
 rintro q ⟨s,a,b,c,d,e,f,rfl,o⟩;exact k s a b c d e f o
def Ov{α β L M U J ρ σ:Type}{S:Prop}{j:ρ->σ->J}{R:ρ->Prop}{g:α->β->L->M->U->J}{O:α->β->L->M->U->Prop}{T:J->Prop}(Z:S->∀r z,R r->T (j r z))(k:S->∀a b c d e,O a b c d e->T (g a b c d e)):∀q,(S/\((∃r z,q=j r z/\R r)\/∃a b c d e,q=g a b c d e/\O a b c d e))->T q:=by
 rintro q ⟨s,⟨r,z,rfl,f⟩|⟨a,b,c,d,e,rfl,o⟩⟩
 ·exact Z s r z f
 ·exact k s a b c d e o
def Oi{α β L M U Z J ρ σ:Type}{S:Prop}{j:ρ->σ->J}{R:ρ->Prop}{g:α->β->L->M->U->Z->J}{O:α->β->L->M->U->Z->Prop}{T:J->Prop}(k1:S->∀r z,R r->T (j r z))(k:S->∀a b c d e f,O a b c d e f->T (g a b c d e f)):∀q,(S/\((∃r z,q=j r z/\R r)\/∃a b c d e f,q=g a b c d e f/\O a b c d e f))->T q:=by
 rintro q ⟨s,⟨r,z,rfl,m⟩|⟨a,b,c,d,e,f,rfl,o⟩⟩
 ·exact k1 s r z m
 ·exact k s a b c d e f o
def nJ(J:Ab o N X Y)(tp:Top o X Y)(m:Mg o X Y hs ia ib)(h:ia+1=X.length):Res o f X Y (fa f hs++(fa f Y).extract ib Y.length++(fa f X).extract ia X.length):=
 m.Iv J λx d y hy=>by
  obtain⟨j,e,c⟩:=nZ d;have:=(aP.mp c).1;exact tp j x c () y<|dB hy
def Hg(j:Ab o N X Y)(tp:Top o X Y)(J:Sm st0 st){n mg x:Nat}(m:Mg o X Y hs ia ib)(Z:ia+1<X.length)(M:ib<Y.length)(hn:n<=ia+ib)(U:X[ia]?=some x)(hy:Y[ib]?=some y)(L:P o x y) :
  wpS (model prog w) A E s (T3 (fa f X) (fa f Y) (fa f hs) ia ib mg ac bc) (G2 o f X Y n st0) st:=by
 unfold T3;rw[iU,iU];refine aO<|gV (iQ U) ?_;have d:=m.pC j U<|ko j.sb hy L;rw[nN];by_cases c:ia+1+1=X.length
 ·rw[aJ<|by rw[c];exact bg _];exact aT ⟨J,.inl ⟨_,_,rfl,nJ j tp d c⟩⟩
 ·rw[aI<|by simpa using c];by_cases c2:(decide (ac<7) && decide (bc<7))=true
  ·rw[aJ c2];exact aT ⟨J,.inr ⟨_,_,_,_,_,_,rfl,d,(),M,()⟩⟩
  ·rw[aI c2];exact aT ⟨J,⟨_,_,_,_,_,_,rfl,d,(),M,()⟩⟩
def G_(C:rA prog w A s o N f kd)(hk:kindOf st=kd)(J:Ab o N X Y)(tp:Top o X Y)(M:Sm st0 st){n mg x:Nat}(m:Mg o X Y hs ia ib)(Z:ia+1<X.length)(hb:ib<Y.length)(hn:n<=ia+ib)(L:X[ia]?=some x)(hy:Y[ib]?=some y)(U:P o y x) :
  wpS (model prog w) A E s (T2 (fa f X) (fa f Y) (fa f hs) ia ib mg ac bc) (G2 o f X Y n st0) st:=by
 unfold T2;rw[iU,iU];mg_lt;have d:=J.p8 m hy<|ko J.sa L U;rw[nN];by_cases c:ib+1=Y.length
 ·rw[aJ<|by rw[c];exact bg _];exact aT ⟨M,.inl ⟨_,_,rfl,d.fin J λx _ y hy=>by rw[drop_nil ()]at hy;cases hy⟩⟩
 ·rw[aI<|by simpa using c];refine aO<|gV (iQ L) ?_;refine aO (Be C hk (h:=λi=>Y.getD (ib+1+i) 0) (λi hi=>iQ<|getD_at ()) (λi hi=>?_) (xS J.sb _ _ ()) () λk B q g=>?_)
  ·have:=aZ<|getD_at (l:=Y) (i:=ib+1+i) ();exact⟨J.lt x (aZ L) _ this,J.nb _ this⟩
  ·dsimp only;have j:=d.qm J L k () λi z hi p=>by
    have:=q i hi;rw[aM,p]at this;exact this
   by_cases c2:k>0
   ·rw[aJ c2,oE,show ib+1+k-(ib+1)=k by lia,jD];by_cases e:ib+1+k=Y.length
    ·rw[aJ<|by rw[e];exact bg _];exact aT ⟨M,.inl ⟨_,_,rfl,j.fin J λx _ y hy=>by rw[drop_nil ()]at hy;cases hy⟩⟩
    ·rw[aI<|by simpa using e];exact Hg J tp M j Z () () L (getD_at ())<|g k (aL _) ()
   ·rw[aI c2];have:k=0:=()
    subst this;exact Hg J tp M d Z () () L (getD_at ())<|g 0 (aL _) ()
def Kv(C:rA prog w A s o N f kd)(M:kindOf st0=kd)(L:Ab o N X Y)(tp:Top o X Y)(Z:Sm st0 st){n mg:Nat}(m:Mg o X Y hs ia ib)(ha:ia+1<X.length)(U:ib<Y.length)(hn:n<=ia+ib) :
  wpS (model prog w) A E s (T1 (fa f X) (fa f Y) (fa f hs) ia ib mg ac bc) (G2 o f X Y n st0) st:=by
 unfold T1;rw[iU,iU];refine aO<|om Z λB c=>?_;have hy:=getD_at (l:=Y) (i:=ib) U;have j:=aZ hy;mg_lt;refine aO (CW C (by rw[c.k];exact M) (h:=λi=>X.getD (ia+i) 0) (λi hi=>iQ<|getD_at ()) (λi hi=>L.lt _ (aZ<|getD_at (l:=X) (i:=ia+i) ()) _ j) (L.nb _ j) (xS L.sa _ _ ()) () λk J G q=>?_);dsimp only;have d:=m.qx L hy k () λi z hi F=>by
  have:=G i hi;rw[aM,F]at this;exact this
 by_cases c2:k>0
 ·rw[aJ c2,oE,show ia+k-ia=k by lia,jD];by_cases e:ia+k+1=X.length
  ·rw[aJ<|by rw[e];exact bg _];exact aT ⟨c,.inl ⟨_,_,rfl,nJ L tp d e⟩⟩
  ·rw[aI<|by simpa using e];by_cases g:ia+k=X.length
   ·rw[aJ<|by rw[g];exact bg _];exact aT ⟨c,.inl ⟨_,_,rfl,d.fin L λx p y _=>by rw[drop_nil ()]at p;cases p⟩⟩
   ·rw[aI<|by simpa using g];exact G_ C (by rw[c.k];exact M) L tp c d () U () (getD_at ()) hy<|q k (aL _) ()
 ·rw[aI c2];have:k=0:=()
  subst this;exact G_ C (by rw[c.k];exact M) L tp c m ha U hn (getD_at ()) hy<|q 0 (aL _) ()
def Kz(C:rA prog w A s o N f kd)(hk:kindOf st=kd)(ab:Ab o N X Y)(tp:Top o X Y)(h1:1<=X.length)(hy0:Y[0]?=some y0)(h0:∀x∈X,P o y0 x)
  {Q:Array Keyed->SortSt->Prop} (q:∀out st',Sm st st'->Res o f X Y out->Q out st'):wpS (model prog w) A E s (qT (fa f X)<|fa f Y) Q st:=by
 rw[wX];kpf_c;dsimp only;rw[iU,iU];have hY:=(aP.mp hy0).1;refine aO<|gV (iQ hy0) ?_;have m0:Mg o X Y [] 0 0:=⟨b_ _,b_ _,rfl,List.Pairwise.nil,(nofun),(nofun),(nofun)⟩;have m1:Mg o X Y [y0] 0 1:=ab.p8 m0 hy0 h0;have e1:(#[f y0]:Array Keyed)=fa f [y0]:=rfl;rw[e1];by_cases c:1=Y.length
 ·rw[aJ<|by rw[<- c];rfl];exact aT (q _ _ Sm.refl<|m1.fin ab λx _ y hy=>by rw[drop_nil ()]at hy;cases hy)
 ·rw[aI<|by simpa using c];by_cases c2:0+1=X.length
  ·rw[aJ<|by rw[<- c2];rfl];exact aT (q _ _ Sm.refl<|nJ ab tp m1 c2)
  ·rw[aI<|by simpa using c2];refine aO<|e9 ?_;refine aO (cV (bV (I:=λx c st'=>Sm st st'/\∃hs ia ib mg,c=(none,fa f hs,ia,ib,mg)/\On o f X Y (x+1) hs ia ib)
    (Q:=λc st'=>Sm st st'/\∃r z,c=(some r,z)/\Res o f X Y r) ?step ?fin ⟨Sm.refl,_,_,_,_,rfl,m1,(),(),aL _⟩) ?post)
   case post=>
    rintro c st' ⟨W,r,z,rfl,M⟩;exact aT<|q _ _ W M
   case fin=>
    rintro c st' ⟨W,hs,ia,ib,mg,rfl,m,B,p,J⟩;exfalso
    lia
   case step=>
    intro x c st' _ hx F;revert F;revert c;refine NP λW hs ia ib mg e=>?_;have m:=e.1;have B:=e.2.1;have p:=e.2.2.1;have J:=e.2.2.2;clear e;dsimp only;refine aO (cV (bV (I:=λZ c d=>Sm st d/\∃hs ia ib ac bc,c=(none,fa f hs,ia,ib,ac,bc)/\On o f X Y (x+1+min Z 1) hs ia ib)
     (Q:=λc d=>Sm st d/\((∃r z,c=(some r,z)/\Res o f X Y r)\/∃hs ia ib ac bc,c=(none,fa f hs,ia,ib,ac,bc)/\On o f X Y (x+1+1) hs ia ib)) ?istep ?ifin ⟨W,_,_,_,_,_,rfl,m,B,p,J⟩) ?ipost)
    case ifin=>
     rintro c d ⟨g,hs,ia,ib,ac,bc,rfl,m,B,p,J⟩;exact⟨g,.inr ⟨_,_,_,_,_,rfl,m,B,p,()⟩⟩
    case istep=>
     intro Z c d _ hx' F;revert F;revert c;refine N5 λg hs ia ib ac bc e=>?_;have m:=e.1;have B:=e.2.1;have p:=e.2.2.1;have J:=e.2.2.2;clear e;dsimp only;have hy:=getD_at (l:=Y) (i:=ib) p;have G:=getD_at (l:=X) (i:=ia) ();have yB:=aZ hy;have xA:=aZ G;have lt:=ab.lt _ xA _ yB;mg_lt;refine aO<|gV (iQ G) ?_;refine aO (qe C (by rw[g.k];exact hk) (ab.nb _ yB) (ab.na _ xA) ?_)
     cases hl:o.lt (Y.getD ib 0) (X.getD ia 0)
     ·dsimp[br,cg];refine aO<|gV (iQ G) ?_;have O:=m.pC ab G<|ko ab.sb hy<|P.o8 hl lt;rw[nN];by_cases K:ia+1+1=X.length
      ·rw[aJ<|by rw[K];exact bg _];exact aT ⟨g,.inl ⟨_,_,rfl,nJ ab tp O K⟩⟩
      ·rw[aI<|by simpa using K];by_cases T:ac+1>=mg
       ·rw[aJ T];exact aT ⟨g,.inr ⟨_,_,_,_,_,rfl,O,(),p,()⟩⟩
       ·rw[aI T];exact aT ⟨g,_,_,_,_,_,rfl,O,(),p,()⟩
     ·dsimp[b9];mg_lt;have O:=ab.p8 m hy<|ko ab.sa G<|P.of_lt hl;rw[nN];by_cases K:ib+1=Y.length
      ·rw[aJ<|by rw[K];exact bg _];exact aT ⟨g,.inl ⟨_,_,rfl,O.fin ab λx _ y hy=>by rw[drop_nil ()]at hy;cases hy⟩⟩
      ·rw[aI<|by simpa using K];by_cases T:bc+1>=mg
       ·rw[aJ T];exact aT ⟨g,.inr ⟨_,_,_,_,_,rfl,O,B,(),()⟩⟩
       ·rw[aI T];exact aT ⟨g,_,_,_,_,_,rfl,O,B,(),()⟩
    case ipost=>
     intro c d F;revert F;revert c;refine Ov (λg r z M=>?_) λg hs ia ib ac bc e=>?_
     ·dsimp only;exact aT ⟨g,r,_,rfl,M⟩
     ·have m:=e.1;have B:=e.2.1;have p:=e.2.2.1;have J:=e.2.2.2;clear e;dsimp only;kpf_c;refine aO (cV (bV (I:=λZ c d=>Sm st d/\∃hs ia ib mg ac bc,c=(none,fa f hs,ia,ib,mg,ac,bc)/\On o f X Y (x+1+1) hs ia ib)
       (Q:=λc d=>Sm st d/\((∃r z,c=(some r,z)/\Res o f X Y r)\/∃hs ia ib mg ac bc,c=(none,fa f hs,ia,ib,mg,ac,bc)/\On o f X Y (x+1+1) hs ia ib)) ?jstep ?jfin ⟨g,_,_,_,_,_,_,rfl,m,B,p,J⟩) ?jpost)
      case jfin=>
       rintro c U ⟨j,F⟩;exact⟨j,.inr F⟩
      case jstep=>
       intro Z c U _ hx' F;revert F;revert c;refine N1 λj hs ia ib mg ac bc e=>?_;have m:=e.1;have B:=e.2.1;have p:=e.2.2.1;have J:=e.2.2.2;clear e;dsimp only;have V:=λmg=>Kv (n:=x+1+1) (mg:=mg) (ac:=ac) (bc:=bc) (E:=E) C hk ab tp j m B p J;unfold T1 T2 T3 at V;rw[iU,iU]at V;refine cV (Q:=G2 o f X Y (x+1+1) st) ?_ ?_
       ·by_cases K:mg>1
        ·rw[aJ K];exact V (mg-1)
        ·rw[aI K];exact V mg
       ·rintro r st4 ⟨L,M⟩
        cases r with
        | done c=>exact⟨L,M⟩
        | yield c=>exact⟨L,M⟩
      case jpost=>
       intro c U F;revert F;revert c;refine Oi (λj r z M=>?_) λj hs ia ib mg ac bc e=>?_
       ·dsimp only;exact aT ⟨j,r,_,rfl,M⟩
       ·have m:=e.1;have B:=e.2.1;have p:=e.2.2.1;have J:=e.2.2.2;clear e;dsimp only;refine aO<|om j λst4 L=>?_;exact aT ⟨L,_,_,_,_,rfl,m,B,p,J⟩
end
def wI(a b:Array Keyed):qP a b=(do
 rule "list.sort.merge-hi"
 let all_:=a.size+b.size
 let end1 (acc:Array Keyed) (p q:Nat):=a.extract 0 p++b.extract 0 q++acc.reverse
 let end2 (acc:Array Keyed) (p q:Nat):=b.extract 0 q++a.extract 0 p++acc.reverse
 let mut p:=a.size-1
 let mut q:=b.size
 let mut acc:Array Keyed:=#[<- elem' a p]
 if p == 0 then return end1 acc p q
 if q == 1 then return end2 acc p q
 let mut mg:=gallopOf (<- get)
 for _ in [0:all_] do
  let mut ca:=0
  let mut cb:=0
  for _ in [0:all_] do
   let some won <- lt' (<- elem' b (q-1)) (<- elem' a (p-1))|return end1 acc p q
   if won then
    p:=p-1;acc:=acc.push<|<- elem' a p;ca:=ca+1;cb:=0
    if p == 0 then return end1 acc p q
    if ca>=mg then break
   else
    q:=q-1;acc:=acc.push<|<- elem' b q;cb:=cb+1;ca:=0
    if q == 1 then return end2 acc p q
    if cb>=mg then break
  rule "list.sort.gallop"
  mg:=mg+1
  for _ in [0:all_] do
   if mg>1 then mg:=mg-1
   pF mg
   let some t <- iM false (<- elem' b (q-1)) a 0 p (p-1)|return end1 acc p q
   let k:=p-t
   ca:=k
   if k>0 then
    acc:=acc++(a.extract t p).reverse;p:=t
    if p == 0 then return end1 acc p q
   q:=q-1;acc:=acc.push (<- elem' b q)
   if q == 1 then return end2 acc p q
   let some t <- iM true (<- elem' a (p-1)) b 0 q (q-1)|return end1 acc p q
   let k:=q-t
   cb:=k
   if k>0 then
    acc:=acc++(b.extract t q).reverse;q:=t
    if q == 1 then return end2 acc p q
    if q == 0 then return end1 acc p q
   p:=p-1;acc:=acc.push (<- elem' a p)
   if p == 0 then return end1 acc p q
   if ca<7 && cb<7 then break
  mg:=mg+1
  pF mg
 unsupported "internal:list.sort.merge-bound"):=rfl
section
variable {o:Ord}{N:Nat}{f:Nat->Keyed}{A B ts:am}{na nb:Nat}
def Dr(l:am):(fa f l).reverse=fa f l.reverse:=by
 unfold fa;rw[List.reverse_toArray,List.map_reverse]
def pO(l:am)(i:Nat):(fa f l).extract 0 i=fa f (l.take i):=by
 rw[oE,dM,Nat.sub_zero]
structure Mh (o:Ord)(A B ts:am)(na nb:Nat):Prop where
 la:na<=A.length
 lb:nb<=B.length
 len:ts.length+na+nb=A.length+B.length
 so:ts.Pairwise (P o)
 mem:∀x∈ts,x∈A\/x∈B
 ua:∀y∈A.take na,∀x∈ts,P o y x
 ub:∀y∈B.take nb,∀x∈ts,P o y x
def n6{l:am}{y:Nat}(h:y∈l.take i):∃j,j<i/\l[j]?=some y:=by
 obtain⟨k,c⟩:=List.getElem?_of_mem h;have:=(aP.mp c).1;rw[cu]at this;rw[List.getElem?_take_of_lt ()]at c;exact⟨k,(),c⟩
def take_one{l:am}{i x:Nat}(h:l[i]?=some x):l.take (i+1)=l.take i++[x]:=by
 obtain⟨h1,e1⟩:=aP.mp h;rw[ff h1,e1]
def Mh.pC(L:Ab o N A B)(m:Mh o A B ts (na+1) nb){x:Nat}(J:A[na]?=some x)(h:∀y∈B.take nb,P o y x):Mh o A B (x::ts) na nb:=by
 have la:=m.la;have len:=m.len;have f:=take_one J;have e:x∈A.take (na+1):=by rw[f];exact bD _ (aR.mpr rfl)
 refine⟨(),m.lb,by rw[aW];lia,dU.mpr ⟨λy hy=>m.ua x e y hy,m.so⟩,λz d=>?_,λy hy z d=>?_,λy hy z d=>?_⟩
 ·rcases bH.mp d with rfl|c
  ·exact .inl (aZ J)
  ·exact m.mem z c
 ·rcases bH.mp d with rfl|c
  ·obtain⟨j,g,k⟩:=n6 hy;exact lI L.sa k J g
  ·exact m.ua y (by rw[f];exact d9 _ hy) z c
 ·rcases bH.mp d with rfl|c
  ·exact h y hy
  ·exact m.ub y hy z c
def Mh.D5(L:Ab o N A B)(m:Mh o A B ts na<|nb+1){x:Nat}(J:B[nb]?=some x)(h:∀y∈A.take na,P o y x):Mh o A B (x::ts) na nb:=by
 have lb:=m.lb;have len:=m.len;have f:=take_one J;have e:x∈B.take (nb+1):=by rw[f];exact bD _ (aR.mpr rfl)
 refine⟨m.la,(),by rw[aW];lia,dU.mpr ⟨λy hy=>m.ub x e y hy,m.so⟩,λz d=>?_,λy hy z d=>?_,λy hy z d=>?_⟩
 ·rcases bH.mp d with rfl|c
  ·exact .inr (aZ J)
  ·exact m.mem z c
 ·rcases bH.mp d with rfl|c
  ·exact h y hy
  ·exact m.ua y hy z c
 ·rcases bH.mp d with rfl|c
  ·obtain⟨j,g,k⟩:=n6 hy;exact lI L.sb k J g
  ·exact m.ub y (by rw[f];exact d9 _ hy) z c
def ki{l:am}(h:l.Pairwise<|P o){i x:Nat}(L:l[i]?=some x)(J:P o x y):∀z∈l.take (i+1),P o z y:=λz e=>by
 obtain⟨j,f,d⟩:=n6 e;by_cases c:j=i
 ·subst c;rw[L]at d;cases d;exact J
 ·exact(lI h d L ()).trans J
theorem Mh.qx(J:Ab o N A B){j:Nat}(hy:B[j]?=some y):∀(k:Nat) {ts:am}{at_:Nat},Mh o A B ts (at_+k) (j+1)->(∀i x,at_<=i->i<at_+k->A[i]?=some x->P o y x)->Mh o A B ((A.drop at_).take k++ts) at_ (j+1)
 | 0,ts,at_,m,_=>by rw[c8];exact m
 | k+1,ts,at_,m,h=>by
  have la:=m.la;have c:A[at_+k]?=some (A[at_+k]'()):=aG _;have d:=Mh.pC J (show Mh o A B ts (at_+k+1) (j+1)from m) c<|ki J.sb hy<|h _ _ () () c;have e:=Mh.qx J hy k d λi x h1 f=>h i x h1 ();rw[take_snoc c,bG];exact e
theorem Mh.qm(J:Ab o N A B){j:Nat}(hy:A[j]?=some y):∀(k:Nat) {ts:am}{at_:Nat},Mh o A B ts (j+1) (at_+k)->(∀i x,at_<=i->i<at_+k->B[i]?=some x->P o y x)->Mh o A B ((B.drop at_).take k++ts) (j+1) at_
 | 0,ts,at_,m,_=>by rw[c8];exact m
 | k+1,ts,at_,m,h=>by
  have lb:=m.lb;have c:B[at_+k]?=some (B[at_+k]'()):=aG _;have d:=Mh.D5 J (show Mh o A B ts (j+1) (at_+k+1)from m) c<|ki J.sa hy<|h _ _ () () c;have e:=Mh.qm J hy k d λi x h1 f=>h i x h1 ();rw[take_snoc c,bG];exact e
def pV{l:am}(h:l.Pairwise<|P o)(i:Nat):(l.take i).Pairwise (P o):=h.sublist<|List.take_sublist ..
def Mh.fin(j:Ab o N A B)(m:Mh o A B ts na nb)(h:∀x∈A.take na,∀y∈B.take nb,P o x y):Res o f A B ((fa f A).extract 0 na++(fa f B).extract 0 nb++fa f ts):=by
 rw[pO,pO,jD,jD];have la:=m.la;have lb:=m.lb;have len:=m.len;refine⟨_,rfl,by rw[aS,aS,cu,cu];lia,?_,λx c=>?_⟩
 ·rw[bN,bN];refine⟨⟨pV j.sa _,pV j.sb _,h⟩,m.so,λx c y hy=>?_⟩
  rcases bh.mp c with z|z
  ·exact m.ua x z y hy
  ·exact m.ub x z y hy
 ·rcases bh.mp c with z|z
  ·rcases bh.mp z with z|z
   ·exact .inl (bZ z)
   ·exact .inr<|bZ z
  ·exact m.mem x z
def Mh.Iv(j:Ab o N A B)(m:Mh o A B ts na nb)(h:∀x∈A.take na,∀y∈B.take nb,P o y x):Res o f A B ((fa f B).extract 0 nb++(fa f A).extract 0 na++fa f ts):=by
 rw[pO,pO,jD,jD];have la:=m.la;have lb:=m.lb;have len:=m.len;refine⟨_,rfl,by rw[aS,aS,cu,cu];lia,?_,λx c=>?_⟩
 ·rw[bN,bN];refine⟨⟨pV j.sb _,pV j.sa _,λx c y hy=>h y hy x c⟩,m.so,λx c y hy=>?_⟩
  rcases bh.mp c with z|z
  ·exact m.ub x z y hy
  ·exact m.ua x z y hy
 ·rcases bh.mp c with z|z
  ·rcases bh.mp z with z|z
   ·exact .inr (bZ z)
   ·exact .inl<|bZ z
  ·exact m.mem x z
abbrev K9 (o:Ord)(X Y:am):Prop:=∀y,Y[0]?=some y->∀x∈X,P o y x
def mD(J:Ab o N A B)(L:K9 o A B)(m:Mh o A B ts na nb)(h:nb=1):Res o f A B ((fa f B).extract 0 nb++(fa f A).extract 0 na++fa f ts):=
 m.Iv J λx c y hy=>by
  obtain⟨j,e,d⟩:=n6 hy;have:j=0:=()
  subst this;exact L y d x<|bZ c
def Mh.uK(j:Ab o N A B)(m:Mh o A B ts na nb)(h:na=0\/nb=0):Res o f A B ((fa f A).extract 0 na++(fa f B).extract 0 nb++fa f ts):=
 m.fin j λx c y hy=>by
  rcases h with rfl|rfl
  ·rw[c8]at c;cases c
  ·rw[c8]at hy;cases hy
def qb(l:am)(x:Nat):(fa f l.reverse).push (f x)=fa f (x::l).reverse:=by rw[nN,List.reverse_cons]
def Br(l m:am):fa f l.reverse++(fa f m).reverse=fa f (m++l).reverse:=by rw[Dr,jD,List.reverse_append]
def nv(l:am):(fa f l.reverse).reverse=fa f l:=by rw[Dr,List.reverse_reverse]
end
meta abbrev H:=Option (Array Keyed)×Nat×Nat×Array Keyed×Nat×Nat×Nat
abbrev U3 (a b out:Array Keyed)(na nb mg ac bc:Nat):StateT SortSt Sem (ForInStep H):=do
 let x <- elem' a (na-1)
 if (na-1 == 0)=true then pure (ForInStep.done (some<|a.extract 0 (na-1)++b.extract 0 nb++(out.push x).reverse,na-1,nb,out.push x,mg,ac,bc))
 else if (decide (ac<7) && decide (bc<7))=true then pure (ForInStep.done (none,na-1,nb,out.push x,mg,ac,bc))
 else pure (ForInStep.yield (none,na-1,nb,out.push x,mg,ac,bc))
abbrev U2 (a b out:Array Keyed)(na nb mg ac bc:Nat):StateT SortSt Sem (ForInStep H):=do
 let x <- elem' b (nb-1)
 if (nb-1 == 1)=true then pure (ForInStep.done (some<|b.extract 0 (nb-1)++a.extract 0 na++(out.push x).reverse,na,nb-1,out.push x,mg,ac,bc))
 else
  let y <- elem' a (na-1)
  let r <- iM true y b 0 (nb-1) (nb-1-1)
  match r with
  | some t=>
   if nb-1-t>0 then
    if (t == 1)=true then pure (ForInStep.done (some<|b.extract 0 t++a.extract 0 na++(out.push x++(b.extract t<|nb-1).reverse).reverse,na,t,out.push x++(b.extract t<|nb-1).reverse,mg,ac,nb-1-t))
    else if (t == 0)=true then pure (ForInStep.done (some<|a.extract 0 na++b.extract 0 t++(out.push x++(b.extract t<|nb-1).reverse).reverse,na,t,out.push x++(b.extract t<|nb-1).reverse,mg,ac,nb-1-t))
    else U3 a b (out.push x++(b.extract t<|nb-1).reverse) na t mg ac (nb-1-t)
   else U3 a b (out.push x) na (nb-1) mg ac (nb-1-t)
  | _=>pure<|ForInStep.done (some<|a.extract 0 na++b.extract 0 (nb-1)++(out.push x).reverse,na,nb-1,out.push x,mg,ac,bc)
abbrev U1 (a b out:Array Keyed)(na nb mg ac bc:Nat):StateT SortSt Sem (ForInStep H):=do
 pF mg
 let x <- elem' b (nb-1)
 let r <- iM false x a 0 na (na-1)
 match r with
 | some t=>
  if na-t>0 then
   if (t == 0)=true then pure (ForInStep.done (some<|a.extract 0 t++b.extract 0 nb++(out++(a.extract t na).reverse).reverse,t,nb,out++(a.extract t na).reverse,mg,na-t,bc))
   else U2 a b (out++(a.extract t na).reverse) t nb mg (na-t) bc
  else U2 a b out na nb mg (na-t) bc
 | _=>pure<|ForInStep.done (some<|a.extract 0 na++b.extract 0 nb++out.reverse,na,nb,out,mg,ac,bc)
section
variable {prog:ah}{w:af}{A:az}{E:aa->aA->Prop}{s:aA}{o:Ord}{N:Nat}{f:Nat->Keyed}{kd:SortKind}{st st0:SortSt}{X Y ts:am}{na nb:Nat}
abbrev Oh (o:Ord)(X Y:am)(n:Nat)(ts:am)(na nb:Nat):Prop:=Mh o X Y ts na nb/\1<=na/\2<=nb/\na+nb+n<=X.length+Y.length
abbrev H2 (o:Ord)(f:Nat->Keyed)(X Y:am)(n:Nat)(st0:SortSt):ForInStep H->SortSt->Prop:=λr e=>Sm st0 e/\match r with
 | .done c=>(∃r z,c=(some r,z)/\Res o f X Y r)\/∃ts na nb mg g d,c=(none,na,nb,fa f ts.reverse,mg,g,d)/\Oh o X Y n ts na nb
 | .yield c=>∃ts na nb mg g d,c=(none,na,nb,fa f ts.reverse,mg,g,d)/\Oh o X Y n ts na nb
def GI(j:Ab o N X Y)(J:Sm st0 st){n mg x:Nat}(m:Mh o X Y ts (na+1)<|nb+1)(U:1<=nb)(hn:na+1+(nb+1)+n<=X.length+Y.length)(M:X[na]?=some x)(hy:Y[nb]?=some y)(L:P o y x) :
  wpS (model prog w) A E s (U3 (fa f X) (fa f Y) (fa f ts.reverse) (na+1) (nb+1) mg ac bc) (H2 o f X Y n st0) st:=by
 unfold U3;rw[show na+1-1=na by lia];refine aO<|gV (iQ M) ?_;have d:=m.pC j M<|ki j.sb hy L;rw[qb,nv];by_cases c:na=0
 ·rw[aJ<|by rw[c];rfl];exact aT ⟨J,.inl ⟨_,_,rfl,d.uK j<|.inl c⟩⟩
 ·rw[aI<|by simpa using c];by_cases c2:(decide (ac<7) && decide (bc<7))=true
  ·rw[aJ c2];exact aT ⟨J,.inr ⟨_,_,_,_,_,_,rfl,d,(),(),()⟩⟩
  ·rw[aI c2];exact aT ⟨J,⟨_,_,_,_,_,_,rfl,d,(),(),()⟩⟩
def GK(C:rA prog w A s o N f kd)(hk:kindOf st=kd)(J:Ab o N X Y)(Z:K9 o X Y)(M:Sm st0 st){n mg x:Nat}(m:Mh o X Y ts (na+1)<|nb+1)(hb:1<=nb)(hn:na+1+(nb+1)+n<=X.length+Y.length)(L:X[na]?=some x)(hy:Y[nb]?=some y)(U:P o x y) :
  wpS (model prog w) A E s (U2 (fa f X) (fa f Y) (fa f ts.reverse) (na+1) (nb+1) mg ac bc) (H2 o f X Y n st0) st:=by
 unfold U2;rw[show nb+1-1=nb by lia,show na+1-1=na by lia];mg_lt;have k:=m.D5 J hy<|ki J.sa L U;have lb:=m.lb;rw[qb,nv];by_cases c:nb=1
 ·rw[aJ<|by rw[c];rfl];exact aT ⟨M,.inl ⟨_,_,rfl,mD J Z k c⟩⟩
 ·rw[aI<|by simpa using c];refine aO<|gV (iQ L) ?_;refine aO (Be C hk (h:=λi=>Y.getD (0+i) 0) (λi hi=>iQ<|getD_at ()) (λi hi=>?_) (xS J.sb _ _ ()) () λt G p F=>?_)
  ·have:=aZ<|getD_at (l:=Y) (i:=0+i) ();exact⟨J.lt x (aZ L) _ this,J.nb _ this⟩
  ·dsimp only;have g:=Mh.qm J L (nb-t) (at_:=t) (by rw[show t+(nb-t)=nb by lia];exact k) λi z e q B=>by
    have:=F i e ();rw[dR,aM (l:=Y),B]at this;exact this
   by_cases c2:nb-t>0
   ·rw[aJ c2,oE Y t nb,Br,nv];by_cases j:t=1
    ·rw[aJ<|by rw[j];rfl];exact aT ⟨M,.inl ⟨_,_,rfl,mD J Z g j⟩⟩
    ·rw[aI<|by simpa using j];by_cases d:t=0
     ·rw[aJ<|by rw[d];rfl];exact aT ⟨M,.inl ⟨_,_,rfl,g.uK J<|.inr d⟩⟩
     ·rw[aI<|by simpa using d];obtain⟨u,rfl⟩:∃u,t=u+1:=⟨t-1,()⟩;have:=p u ();rw[dR]at this;exact GI J M g () () L (getD_at ()) this
   ·rw[aI c2];have:t=nb:=()
    subst this;obtain⟨u,rfl⟩:∃u,t=u+1:=⟨t-1,()⟩;have:=p u ();rw[dR]at this;exact GI J M k () () L (getD_at ()) this
def Lq(C:rA prog w A s o N f kd)(M:kindOf st0=kd)(L:Ab o N X Y)(U:K9 o X Y)(hm:Sm st0 st){n mg:Nat}(m:Mh o X Y ts (na+1)<|nb+1)(Z:1<=nb)(hn:na+1+(nb+1)+n<=X.length+Y.length) :
  wpS (model prog w) A E s (U1 (fa f X) (fa f Y) (fa f ts.reverse) (na+1) (nb+1) mg ac bc) (H2 o f X Y n st0) st:=by
 unfold U1;refine aO<|om hm λB c=>?_;have lb:=m.lb;have la:=m.la;rw[show nb+1-1=nb by lia,show na+1-1=na by lia];have hy:=getD_at (l:=Y) (i:=nb) ();have p:=aZ hy;mg_lt;refine aO (CW C (by rw[c.k];exact M) (h:=λi=>X.getD (0+i) 0) (λi hi=>iQ<|getD_at ()) (λi hi=>L.lt _ (aZ<|getD_at (l:=X) (i:=0+i) ()) _ p) (L.nb _ p) (xS L.sa _ _ ()) () λt J g G=>?_);dsimp only;have j:=Mh.qx L hy (na+1-t) (at_:=t) (by rw[show t+(na+1-t)=na+1 by lia];exact m) λi z e q F=>by
  have:=G i e ();rw[dR,aM (l:=X),F]at this;exact this
 by_cases c2:na+1-t>0
 ·rw[aJ c2,oE X t<|na+1,Br,nv];by_cases d:t=0
  ·rw[aJ<|by rw[d];rfl];exact aT ⟨c,.inl ⟨_,_,rfl,j.uK L<|.inl d⟩⟩
  ·rw[aI<|by simpa using d];obtain⟨u,rfl⟩:∃u,t=u+1:=⟨t-1,()⟩;have:=g u ();rw[dR]at this;exact GK C (by rw[c.k];exact M) L U c j Z () (getD_at ()) hy this
 ·rw[aI c2];have:t=na+1:=()
  subst this;have:=g na ();rw[dR]at this;exact GK C (by rw[c.k];exact M) L U c m Z hn (getD_at ()) hy this
def Lu(C:rA prog w A s o N f kd)(hk:kindOf st=kd)(ab:Ab o N X Y)(tp:Top o X Y)(bt:K9 o X Y)(h1:1<=X.length)(h2:1<=Y.length)
  {Q:Array Keyed->SortSt->Prop} (q:∀out st',Sm st st'->Res o f X Y out->Q out st'):wpS (model prog w) A E s (qP (fa f X)<|fa f Y) Q st:=by
 rw[wI];kpf_c;dsimp only;rw[iU,iU];have O:=getD_at (l:=X) (i:=X.length-1) ();refine aO<|gV (iQ O) ?_;have m0:Mh o X Y [] (X.length-1+1) Y.length:=⟨(),aL _,by rw[fL];lia,List.Pairwise.nil,(nofun),(λ_ _ _ h=>nomatch h),(λ_ _ _ h=>nomatch h)⟩;have m1:=m0.pC ab O λy hy=>tp _ _ O () y<|bZ hy;obtain⟨Z,ex0⟩:∃Z,Z=X.getD (X.length-1) 0:=⟨_,rfl⟩;rw[<- ex0]at m1 ⊢;have e1:(#[f Z]:Array Keyed)=fa f [Z].reverse:=rfl;rw[e1,nv];by_cases c:X.length-1=0
 ·rw[aJ<|by rw[c];rfl];exact aT (q _ _ Sm.refl<|m1.uK ab<|.inl c)
 ·rw[aI<|by simpa using c];by_cases c2:Y.length=1
  ·rw[aJ<|by rw[c2];rfl];exact aT (q _ _ Sm.refl<|mD ab bt m1 c2)
  ·rw[aI<|by simpa using c2];refine aO<|e9 ?_;refine aO (cV (bV (I:=λx c st'=>Sm st st'/\∃ts na nb mg,c=(none,na,nb,fa f ts.reverse,mg)/\Oh o X Y (x+1) ts na nb)
    (Q:=λc st'=>Sm st st'/\∃r z,c=(some r,z)/\Res o f X Y r) ?step ?fin ⟨Sm.refl,_,_,_,_,rfl,m1,(),(),()⟩) ?post)
   case post=>
    rintro c st' ⟨W,r,z,rfl,M⟩;exact aT<|q _ _ W M
   case fin=>
    rintro c st' ⟨W,ts,na,nb,mg,rfl,m,B,p,K⟩;exfalso
    lia
   case step=>
    intro x c st' _ hx F;revert F;revert c;refine NP λW ts na nb mg e=>?_;have m:=e.1;have B:=e.2.1;have p:=e.2.2.1;have K:=e.2.2.2;clear e;dsimp only;refine aO (cV (bV (I:=λx' c d=>Sm st d/\∃ts na nb ac bc,c=(none,na,nb,fa f ts.reverse,ac,bc)/\Oh o X Y (x+1+min x' 1) ts na nb)
     (Q:=λc d=>Sm st d/\((∃r z,c=(some r,z)/\Res o f X Y r)\/∃ts na nb ac bc,c=(none,na,nb,fa f ts.reverse,ac,bc)/\Oh o X Y (x+1+1) ts na nb)) ?istep ?ifin ⟨W,_,_,_,_,_,rfl,m,B,p,K⟩) ?ipost)
    case ifin=>
     rintro c d ⟨g,ts,na,nb,ac,bc,rfl,m,B,p,K⟩;exact⟨g,.inr ⟨_,_,_,_,_,rfl,m,B,p,()⟩⟩
    case istep=>
     intro x' c d _ hx' F;revert F;revert c;refine N5 λg ts na nb ac bc e=>?_;have m:=e.1;have B:=e.2.1;have p:=e.2.2.1;have K:=e.2.2.2;clear e;dsimp only;obtain⟨u,rfl⟩:∃u,na=u+1:=⟨na-1,()⟩;obtain⟨v,rfl⟩:∃v,nb=v+1:=⟨nb-1,()⟩;have la:=m.la;have lb:=m.lb;rw[show u+1-1=u by lia,show v+1-1=v by lia];have hy:=getD_at (l:=Y) (i:=v) ();have G:=getD_at (l:=X) (i:=u) ();have yB:=aZ hy;have xA:=aZ G;have lt:=ab.lt _ xA _ yB;mg_lt;refine aO<|gV (iQ G) ?_;refine aO (qe C (by rw[g.k];exact hk) (ab.nb _ yB) (ab.na _ xA) ?_)
     cases hl:o.lt (Y.getD v 0) (X.getD u 0)
     ·dsimp[br,cg];mg_lt;have T:=m.D5 ab hy<|ki ab.sa G<|P.o8 hl lt;rw[qb,nv];by_cases J:v=1
      ·rw[aJ<|by rw[J];rfl];exact aT ⟨g,.inl ⟨_,_,rfl,mD ab bt T J⟩⟩
      ·rw[aI<|by simpa using J];by_cases U:bc+1>=mg
       ·rw[aJ U];exact aT ⟨g,.inr ⟨_,_,_,_,_,rfl,T,B,(),()⟩⟩
       ·rw[aI U];exact aT ⟨g,_,_,_,_,_,rfl,T,B,(),()⟩
     ·dsimp[b9];refine aO<|gV (iQ G) ?_;have T:=m.pC ab G<|ki ab.sb hy<|P.of_lt hl;rw[qb,nv];by_cases J:u=0
      ·rw[aJ<|by rw[J];rfl];exact aT ⟨g,.inl ⟨_,_,rfl,T.uK ab<|.inl J⟩⟩
      ·rw[aI<|by simpa using J];by_cases U:ac+1>=mg
       ·rw[aJ U];exact aT ⟨g,.inr ⟨_,_,_,_,_,rfl,T,(),p,()⟩⟩
       ·rw[aI U];exact aT ⟨g,_,_,_,_,_,rfl,T,(),p,()⟩
    case ipost=>
     intro c d F;revert F;revert c;refine Ov (λg r z M=>?_) λg ts na nb ac bc e=>?_
     ·dsimp only;exact aT ⟨g,r,_,rfl,M⟩
     ·have m:=e.1;have B:=e.2.1;have p:=e.2.2.1;have K:=e.2.2.2;clear e;dsimp only;kpf_c;refine aO (cV (bV (I:=λx' c d=>Sm st d/\∃ts na nb mg ac bc,c=(none,na,nb,fa f ts.reverse,mg,ac,bc)/\Oh o X Y (x+1+1) ts na nb)
       (Q:=λc d=>Sm st d/\((∃r z,c=(some r,z)/\Res o f X Y r)\/∃ts na nb mg ac bc,c=(none,na,nb,fa f ts.reverse,mg,ac,bc)/\Oh o X Y (x+1+1) ts na nb)) ?jstep ?jfin ⟨g,_,_,_,_,_,_,rfl,m,B,p,K⟩) ?jpost)
      case jfin=>
       rintro c V ⟨j,F⟩;exact⟨j,.inr F⟩
      case jstep=>
       intro x' c V _ hx' F;revert F;revert c;refine N1 λj ts na nb mg ac bc e=>?_;have m:=e.1;have B:=e.2.1;have p:=e.2.2.1;have K:=e.2.2.2;clear e;dsimp only;obtain⟨u,rfl⟩:∃u,na=u+1:=⟨na-1,()⟩;obtain⟨v,rfl⟩:∃v,nb=v+1:=⟨nb-1,()⟩;have t1:=λmg=>Lq (n:=x+1+1) (mg:=mg) (ac:=ac) (bc:=bc) (E:=E) C hk ab bt j m () K;unfold U1 U2 U3 at t1;refine cV (Q:=H2 o f X Y (x+1+1) st) ?_ ?_
       ·by_cases J:mg>1
        ·rw[aJ J];exact t1 (mg-1)
        ·rw[aI J];exact t1 mg
       ·rintro r st4 ⟨L,M⟩
        cases r with
        | done c=>exact⟨L,M⟩
        | yield c=>exact⟨L,M⟩
      case jpost=>
       intro c V F;revert F;revert c;refine Oi (λj r z M=>?_) λj ts na nb mg ac bc e=>?_
       ·dsimp only;exact aT ⟨j,r,_,rfl,M⟩
       ·have m:=e.1;have B:=e.2.1;have p:=e.2.2.1;have K:=e.2.2.2;clear e;dsimp only;refine aO<|om j λst4 L=>?_;exact aT ⟨L,_,_,_,_,rfl,m,B,p,K⟩
end
def wk(i:Nat):mergeAt' i=(do
 let s <- get
 let(some (a1,n1,pw),some (a2,n2,_)):=((pendingOf s)[i]?,(pendingOf s)[i+1]?)|unsupported "internal:list.sort.pending"
 set (setPending s<|((pendingOf s).setIfInBounds i (a1,n1+n2,pw)).eraseIdxIfInBounds<|i+1)
 let some k <- iM false (<- elem' (arrOf s) a2) (arrOf s) a1 n1 0|return false
 let(a1,n1):=(a1+k,n1-k)
 if n1 == 0 then return true
 let some n2 <- iM true (<- elem' (arrOf s) (a1+n1-1)) (arrOf s) a2 n2 (n2-1)|return false
 if n2 == 0 then return true
 let x:=(arrOf s).extract a1 a2
 let y:=(arrOf s).extract a2 (a2+n2)
 let both <- if n1<=n2 then qT x y else qP x y
 modify λs=>setArr s (both.toList.zipIdx.foldl (λa (p,j)=>a.setIfInBounds (a1+j) p)<|arrOf s)
 return (failedOf<|<- get).isNone):=rfl
abbrev seg (g:Nat->Nat)(a n:Nat):am:=(List.range n).map λi=>g<|a+i
section
variable {o:Ord}{N:Nat}{f:Nat->Keyed}{g:Nat->Nat}
def jl(g:Nat->Nat)(a n:Nat):(seg g a n).length=n:=by unfold seg;rw[aN,bC]
def kX{a n i:Nat}(h:i<n):(seg g a n)[i]?=some (g<|a+i):=by unfold seg;rw[aY,cG h];rfl
def jP{a n x:Nat}(h:x∈seg g a n):∃i,i<n/\x=g (a+i):=by
 obtain⟨i,hi,rfl⟩:=eG.mp h;exact⟨i,cR.mp hi,rfl⟩
def DX{a n:Nat}(h:So o g a<|a+n):(seg g a n).Pairwise (P o):=by
 rw[cH];intro i j hi c d;rw[jl]at hi c;have e1:=kX (g:=g) (a:=a) hi;have e2:=kX (g:=g) (a:=a) c;rw[aG<|by rw[jl];exact hi]at e1;rw[aG<|by rw[jl];exact c]at e2;rw[aX e1,aX e2];exact h _ _ () () ()
def yj{arr:Array Keyed}(hs:arr.size=N)(hg:∀i,i<N->arr[i]?=some (f<|g i)){a n:Nat}(h:a+n<=N):arr.extract a (a+n)=fa f (seg g a n):=by
 apply Array.ext_getElem?;intro i;rw[B3,fh];by_cases c:i<n
 ·rw[aJ (),kX c,hg _ ()];rfl
 ·rw[aI (),bJ<|by rw[jl];lia];rfl
theorem sI{α:Type}(b:Nat):∀(l:List α) (n:Nat) (arr:Array α),((l.zipIdx n).foldl (λa (p,j)=>a.setIfInBounds (b+j) p) arr).size=arr.size
 | [],_,_=>rfl
 | x::l,n,arr=>by
  rw[List.zipIdx_cons,fJ,sI b l<|n+1];exact Array.size_setIfInBounds ..
theorem uP{α:Type}(b:Nat):∀(l:List α) (n:Nat) (arr:Array α) (k:Nat),b+n+l.length<=arr.size->((l.zipIdx n).foldl (λa (p,j)=>a.setIfInBounds (b+j) p) arr)[k]?=if b+n<=k/\k<b+n+l.length then l[k-(b+n)]? else arr[k]?
 | [],n,arr,k,h=>by rw[aI<|by rw[fL];lia];rfl
 | x::l,n,arr,k,h=>by
  rw[aW]at h;rw[List.zipIdx_cons,fJ,uP b l (n+1) _ k<|by rw[Array.size_setIfInBounds];lia,aW];by_cases c:k=b+n
  ·subst c;rw[aI (),aJ (),fj];show(arr.setIfInBounds (b+n) x)[b+n]?=some x;rw[Array.getElem?_setIfInBounds_self_of_lt ()]
  ·by_cases c2:b+n<=k/\k<b+n+(l.length+1)
   ·rw[aJ (),aJ c2,show k-(b+n)=k-(b+(n+1))+1 by lia,List.getElem?_cons_succ]
   ·rw[aI (),aI c2]
    skip
    rw[Array.getElem?_setIfInBounds_ne ()]
end
section
variable {prog:ah}{w:af}{A:az}{E:aa->aA->Prop}{s:aA}{o:Ord}{N:Nat}{f:Nat->Keyed}{kd:SortKind}{g:Nat->Nat}{st:SortSt}
def E6{Q:PUnit->SortSt->Prop}(h:Q ⟨⟩ st'):wpS (model prog w) A E s (set st':StateT SortSt Sem PUnit) Q st:=by
 unfold wpS;rw[StateT.run_set];exact aH ⟨rfl,h⟩
def Ll(C:rA prog w A s o N f kd){l1:List<|Nat×Nat×Nat}{sa na nb pv:Nat}(h:Sg N f kd g (l1++(sa,na,pw)::(sa+na,nb,pv)::l2).toArray st)(ha:1<=na)(hb:1<=nb)(hN:sa+na+nb<=N)
  (c1:Cl g sa<|sa+na) (s1:So o g sa<|sa+na) (c2:Cl g (sa+na)<|sa+na+nb) (s2:So o g (sa+na)<|sa+na+nb)
  {Q:Bool->SortSt->Prop} (q:∀g' st',Sg N f kd g' (l1++(sa,na+nb,pw)::l2).toArray st'->Rn o g g' sa (sa+na+nb)->Q true st'):wpS (model prog w) A E s (mergeAt' l1.length) Q st:=by
 rw[wk];refine aO<|e9 ?_;have e1:(pendingOf st)[l1.length]?=some (sa,na,pw):=by rw[h.pend];simp
 have e2:(pendingOf st)[l1.length+1]?=some (sa+na,nb,pv):=by rw[h.pend];simp
 have e3:((pendingOf st).setIfInBounds l1.length (sa,na+nb,pw)).eraseIdxIfInBounds (l1.length+1)=(l1++(sa,na+nb,pw)::l2).toArray:=by
  rw[h.pend,List.setIfInBounds_toArray,List.eraseIdxIfInBounds_toArray];congr 1;rw[List.set_append_right _ _<|aL _,fj,List.eraseIdx_append_of_length_le (),show l1.length+1-l1.length=1 by lia];rfl
 rw[e1,e2];dsimp only;rw[e3];refine aO<|E6 ?_;have h':Sg N f kd g (l1++(sa,na+nb,pw)::l2).toArray (setPending st (l1++(sa,na+nb,pw)::l2).toArray):=⟨h.size,h.get,h.lt,h.kind,h.failed,rfl⟩;obtain⟨F,V⟩:∃F,F=setPending st (l1++(sa,na+nb,pw)::l2).toArray:=⟨_,rfl⟩;rw[<- V]at h' ⊢;refine aO<|gV (h.get (sa+na) ()) ?_;have b0:=c2 (sa+na) () ();refine aO (CW C h'.kind (h:=λi=>g<|sa+i) (λi hi=>h.get _ ()) (λi hi=>by have:=c1 (sa+i) () ();lia) () (λi j _ a b=>s1 _ _ () () ()) () λk k1 k2 k3=>?_);dsimp only;by_cases cz:na-k=0
 ·rw[aJ<|by rw[cz];rfl];refine aT (q g F h' ⟨λ_ _=>rfl,λi a b=>?_,λi j a b c=>?_⟩)
  ·by_cases d:i<sa+na
   ·have:=c1 i a d;lia
   ·have:=c2 i () b;lia
  ·by_cases d:j<sa+na
   ·exact s1 i j a b d
   ·by_cases J:sa+na<=i
    ·exact s2 i j J b c
    ·have r:=k2 (i-sa) ();rw[show sa+(i-sa)=i by lia]at r;by_cases P:j=sa+na
     ·subst P;exact r
     ·exact r.trans<|s2 _ _ () () c
 ·rw[aI<|by simpa using cz];have T:sa+k+(na-k)-1=sa+na-1:=()
  rw[T];refine aO<|gV (h.get (sa+na-1) ()) ?_;have a0:=c1 (sa+na-1) () ();refine aO (Be C h'.kind (h:=λi=>g<|sa+na+i) (λi hi=>h.get _ ()) (λi hi=>by have:=c2 (sa+na+i) () ();lia) (λi j _ a b=>s2 _ _ () () ()) () λt t1 t2 t3=>?_);dsimp only;by_cases cy:t=0
  ·rw[aJ<|by rw[cy];rfl];subst cy;refine aT (q g F h' ⟨λ_ _=>rfl,λi a b=>?_,λi j a b c=>?_⟩)
   ·by_cases d:i<sa+na
    ·have:=c1 i a d;lia
    ·have:=c2 i () b;lia
   ·by_cases d:j<sa+na
    ·exact s1 i j a b d
    ·by_cases J:sa+na<=i
     ·exact s2 i j J b c
     ·have r:=t3 (j-(sa+na)) () ();rw[show sa+na+(j-(sa+na))=j by lia]at r;by_cases P:i=sa+na-1
      ·subst P;exact r
      ·exact(s1 i (sa+na-1) a () ()).trans r
  ·rw[aI<|by simpa using cy];have x1:(arrOf st).extract (sa+k) (sa+na)=fa f (seg g (sa+k)<|na-k):=by
    have:=yj (f:=f) (g:=g) h.size h.get (a:=sa+k) (n:=na-k) ()
    rwa [show sa+k+(na-k)=sa+na by lia]at this
   have x2:(arrOf st).extract (sa+na) (sa+na+t)=fa f (seg g (sa+na) t):=yj h.size h.get ();rw[x1,x2];have sx:So o g (sa+k) (sa+k+(na-k)):=λi j a b c=>s1 i j () b ();have sy:So o g (sa+na) (sa+na+t):=λi j a b c=>s2 i j a b ();have ab:Ab o N (seg g (sa+k)<|na-k) (seg g (sa+na) t):={
    sa:=DX sx
    sb:=DX sy
    lt:=λx U y hy=>by
     obtain⟨i,hi,rfl⟩:=jP U;obtain⟨j,M,rfl⟩:=jP hy;have:=c1 (sa+k+i) () ();have:=c2 (sa+na+j) () ()
     lia
    nb:=λy hy=>by
     obtain⟨j,M,rfl⟩:=jP hy;exact h.lt _ ()
    na:=λy hy=>by
     obtain⟨j,M,rfl⟩:=jP hy;exact h.lt _ ()}
   have tp:Top o (seg g (sa+k)<|na-k) (seg g (sa+na) t):=λi x U hi y hy=>by
    rw[jl]at hi;rw[kX ()]at U
    cases U
    obtain⟨j,M,rfl⟩:=jP hy;rw[show sa+k+i=sa+na-1 by lia];exact t2 j M
   have bt:K9 o (seg g (sa+k)<|na-k) (seg g (sa+na) t):=λy hy x U=>by
    rw[kX ()]at hy
    cases hy
    obtain⟨i,hi,rfl⟩:=jP U;have:=k3 (k+i) () ()
    rwa [<- gc]at this
   have fin:∀out B,Sm F B->Res o f (seg g (sa+k)<|na-k) (seg g (sa+na) t) out->wpS (model prog w) A E s (do
     modify λs=>setArr s (out.toList.zipIdx.foldl (λa (p,j)=>a.setIfInBounds (sa+k+j) p)<|arrOf s)
     let s <- get
     pure (failedOf s).isNone) Q B:=by
    rintro out B O ⟨hs,rfl,G,Y,W⟩;rw[jl,jl]at G;refine aO<|dS<|aO<|e9 ?_;have hf:(failedOf B)=none:=by rw[O.f];exact h'.failed
    have K:∀j x,hs[j]?=some x->(∃i,i<na-k/\x=g (sa+k+i))\/∃i,i<t/\x=g (sa+na+i):=λj x e=>by
     rcases W x (aZ e)with z|z
     ·exact .inl (jP z)
     ·exact .inr<|jP z
    have ez:(fa f hs).toList=hs.map f:=by unfold fa;rfl
    have Z:sa+k+0+(hs.map f).length<=(arrOf B).size:=by rw[aN,G,O.a,h'.size];lia
    refine aT ?_
    skip
    rw[hf];refine q (λi=>if sa+k<=i/\i<sa+k+(na-k+t)then hs.getD (i-(sa+k)) 0 else g i) _ ⟨?_,λi hi=>?_,λi hi=>?_,by rw[show kindOf (setArr B _)=kindOf B from rfl,O.k];exact h'.kind,hf,by rw[show pendingOf (setArr B _)=pendingOf B from rfl,O.p];exact h'.pend⟩ ?_
    ·have:=sI (sa+k) (fa f hs).toList 0<|arrOf B;rw[O.a,h'.size]at this;rw[<- this,<- O.a]
    ·skip
     rw[ez,uP _ _ _ _ _ Z,aN,G,O.a];by_cases d:sa+k<=i/\i<sa+k+(na-k+t)
     ·rw[aJ (),aJ d,aY,Nat.add_zero,getD_at (l:=hs) ()];rfl
     ·rw[aI (),aI d];exact h'.get i hi
    ·by_cases d:sa+k<=i/\i<sa+k+(na-k+t)
     ·rw[aJ d]
      rcases K _ _ (getD_at (l:=hs) (i:=i-(sa+k)) ())with⟨j,M,e⟩|⟨j,M,e⟩
      ·rw[e];exact h.lt _ ()
      ·rw[e];exact h.lt _ ()
     ·rw[aI d];exact h.lt i hi
    ·have L:∀i,sa+k<=i->i<sa+na+t->(if sa+k<=i/\i<sa+k+(na-k+t)then hs.getD (i-(sa+k)) 0 else g i)=hs.getD (i-(sa+k)) 0:=λi a b=>aJ ();have m:∀i,i<sa+k\/sa+na+t<=i->(if sa+k<=i/\i<sa+k+(na-k+t)then hs.getD (i-(sa+k)) 0 else g i)=g i:=λi a=>aI ();refine⟨λi hi=>m i (),λi a b=>?_,λi j a b c=>?_⟩
     ·by_cases d:sa+k<=i/\i<sa+na+t
      ·skip
       rw[L i d.1 d.2]
       rcases K _ _ (getD_at (l:=hs) (i:=i-(sa+k)) ())with⟨j,M,e⟩|⟨j,M,e⟩
       ·rw[e];have:=c1 (sa+k+j) () ();lia
       ·rw[e];have:=c2 (sa+na+j) () ();lia
      ·skip
       rw[m i ()];by_cases J:i<sa+na
       ·have:=c1 i a J;lia
       ·have:=c2 i () b;lia
     ·skip
      by_cases d1:i<sa+k
      ·rw[m i<|.inl d1];have r:=k2 (i-sa) ();rw[show sa+(i-sa)=i by lia]at r;by_cases J:j<sa+k
       ·rw[m j<|.inl J];exact s1 i j a b ()
       ·by_cases P:j<sa+na+t
        ·rw[L j () P]
         rcases K _ _ (getD_at (l:=hs) (i:=j-(sa+k)) ())with⟨v,hv,e⟩|⟨v,hv,e⟩
         ·rw[e];exact s1 _ _ a () ()
         ·rw[e];by_cases d4:v=0
          ·subst d4;exact r
          ·exact r.trans<|s2 _ _ () () ()
        ·rw[m j ()];exact r.trans<|s2 _ _ () () c
      ·by_cases J:i<sa+na+t
       ·rw[L i () J];by_cases P:j<sa+na+t
        ·rw[L j () P];exact lI Y (getD_at ()) (getD_at ()) ()
        ·rw[m j ()]
         rcases K _ _ (getD_at (l:=hs) (i:=i-(sa+k)) ())with⟨v,hv,e⟩|⟨v,hv,e⟩
         ·rw[e];have r:=t3 (j-(sa+na)) () ();rw[show sa+na+(j-(sa+na))=j by lia]at r;by_cases d4:sa+k+v=sa+na-1
          ·rw[d4];exact r
          ·exact(s1 _ (sa+na-1) () () ()).trans r
         ·rw[e];exact s2 _ _ () () c
       ·rw[m i (),m j ()];exact s2 i j () b c
   by_cases cl:na-k<=t
   ·rw[aJ cl];exact aO (Kz C h'.kind ab tp (by rw[jl];lia) (kX ()) (bt _<|kX ()) fin)
   ·rw[aI cl];exact aO<|Lu C h'.kind ab tp bt (by rw[jl];lia) (by rw[jl];lia) fin
end
meta abbrev pr (x:Nat×Nat×Nat):Nat×Nat:=(x.1,x.2.1)
abbrev kF (o:Ord)(g:Nat->Nat):List (Nat×Nat)->Nat->Nat->Prop
 | [],a,b=>a=b
 | x::l,a,b=>x.1=a/\1<=x.2/\Cl g a (a+x.2)/\So o g a (a+x.2)/\kF o g l (a+x.2) b
abbrev PA (o:Ord)(g:Nat->Nat)(p:Array<|Nat×Nat×Nat)(b:Nat):Prop:=kF o g (p.toList.map pr) 0 b
section
variable {o:Ord}{g:Nat->Nat}
def kF.le:∀{l:List<|Nat×Nat}{a b:Nat},kF o g l a b->a+l.length<=b
 | [],a,b,h=>by have h:a=b:=h;rw[fL];lia
 | x::l,a,b,h=>by
  have:=h.2.2.2.2.le;have:=h.2.1;rw[aW];lia
def kF.congr{g':Nat->Nat}:∀{l:List<|Nat×Nat}{a b:Nat},kF o g l a b->(∀i,a<=i->i<b->g' i=g i)->kF o g' l a b
 | [],a,b,h,_=>h
 | x::l,a,b,h,e=>by
  have f:=h.2.2.2.2.le;refine⟨h.1,h.2.1,λi h1 c=>?_,λi j h1 c d=>?_,h.2.2.2.2.congr λi h1 c=>e i () c⟩
  ·rw[e i h1 ()];exact h.2.2.1 i h1 c
  ·rw[e i h1 (),e j () ()];exact h.2.2.2.1 i j h1 c d
theorem kF.app:∀{l m:List<|Nat×Nat}{a b:Nat},kF o g (l++m) a b ↔ ∃c,kF o g l a c/\kF o g m c b
 | [],m,a,b=>⟨λh=>⟨a,rfl,h⟩,λ⟨c,h1,d⟩=>by have h1:a=c:=h1;subst h1;exact d⟩
 | x::l,m,a,b=>by
  constructor
  ·rintro⟨h1,d,e,k,f⟩;obtain⟨c,j,p⟩:=kF.app.mp f;exact⟨c,⟨h1,d,e,k,j⟩,p⟩
  ·rintro⟨c,⟨h1,d,e,k,f⟩,j⟩;exact⟨h1,d,e,k,kF.app.mpr ⟨c,f,j⟩⟩
def HF{p:Array<|Nat×Nat×Nat}(h:i+1<p.size):∃l1 x y l2,p=(l1++x::y::l2).toArray/\l1.length=i:=by
 have h':i+1<p.toList.length:=h;refine⟨p.toList.take i,p.toList[i],p.toList[i+1],p.toList.drop<|i+2,?_,by rw[cu];lia⟩;apply toList_inj.mp
 skip
 conv=>lhs;rw[<- List.take_append_drop i p.toList,cI<|show i<p.toList.length by lia,cI h']
end
section
variable {prog:ah}{w:af}{A:az}{E:aa->aA->Prop}{s:aA}{o:Ord}{N:Nat}{f:Nat->Keyed}{kd:SortKind}{g:Nat->Nat}{p:Array (Nat×Nat×Nat)}{st:SortSt}
def wu(C:rA prog w A s o N f kd)(h:Sg N f kd g p st){lo:Nat}(U:PA o g p lo)(Z:lo<=N)(hi:i+1<p.size)
  {Q:Bool->SortSt->Prop} (q:∀g' p' st',Sg N f kd g' p' st'->PA o g' p' lo->p'.size+1=p.size->(∀k,lo<=k->g' k=g k)->Q true st'):wpS (model prog w) A E s (mergeAt' i) Q st:=by
 obtain⟨m,⟨d,na,B⟩,⟨M,nb,pv⟩,e,rfl,rfl⟩:=HF hi;unfold PA at U;rw[show(m++(d,na,B)::(M,nb,pv)::e).toArray.toList=m++(d,na,B)::(M,nb,pv)::e from rfl,dj]at U;obtain⟨c,h1,P⟩:=kF.app.mp U;obtain⟨e1,L,G,J,e2,K,F,O,rest⟩:=P;have e1:d=c:=e1;subst e1;have e2:M=d+na:=e2;subst e2;have j:=rest.le;have L:1<=na:=L;have K:1<=nb:=K;have j:d+na+nb<=lo:=by
  have:d+na+nb+(List.map pr e).length<=lo:=j
  lia
 refine Ll C h L K () G J F O λg' st' h' R=>q g' _ st' h' ?_ (by simp;lia) λk T=>R.out k ();unfold PA;rw[show(m++(d,na+nb,B)::e).toArray.toList=m++(d,na+nb,B)::e from rfl,dj];refine kF.app.mpr ⟨d,h1.congr λi a b=>R.out i (),rfl,by show 1<=na+nb;lia,?_,?_,?_⟩
 ·show Cl g' d (d+(na+nb));rw[<- gc];exact R.cl
 ·show So o g' d (d+(na+nb));rw[<- gc];exact R.so
 ·skip
  rw[<- gc];exact rest.congr λi a b=>R.out i<|.inr a
def sd{p:Array<|Nat×Nat×Nat}{lo:Nat}{u:Nat×Nat×Nat->Nat×Nat×Nat}(j:∀x,pr (u x)=pr x)(h:PA o g p lo):PA o g (p.modify i u) lo:=by
 unfold PA at h ⊢;have:(p.modify i u).toList.map pr=p.toList.map pr:=by
  rw[Array.toList_modify];apply dD;intro k;rw[aY,aY,List.getElem?_modify]
  cases p.toList[k]? with
  | none=>rfl
  | some x=>
   show some (pr<|if i=k then u x else x)=some (pr x);by_cases c:i=k
   ·rw[aJ c,j x]
   ·rw[aI c]
 rw[this];exact h
def pX{p:Array<|Nat×Nat×Nat}{lo n v:Nat}(h:PA o g p lo)(hn:1<=n)(c:Cl g lo<|lo+n)(d:So o g lo<|lo+n):PA o g (p.push (lo,n,v)) (lo+n):=by
 unfold PA at h ⊢;rw[fm,dj];exact kF.app.mpr ⟨lo,h,rfl,hn,c,d,rfl⟩
def EO(C:rA prog w A s o N f kd)(h:Sg N f kd (λi=>i) #[] st)(hN:1<=N)
  {Q:Unit->SortSt->Prop} (q:∀g' p' st',Sg N f kd g' p' st'->Cl g' 0 N->So o g' 0 N->Q Unit.unit st'):wpS (model prog w) A E s sortRuns' Q st:=by
 rw[sortRuns'_eq];refine aO<|e9 ?_;dsimp only;rw[h.size];refine aO (cV (bV
  (I:=λx c st'=>∃lo g p,c=(none,lo)/\lo<=N/\(x<=lo\/lo=N)/\Sg N f kd g p st'/\PA o g p lo/\(∀i,lo<=i->g i=i))
  (Q:=λc st'=>∃g p,c=(none,N)/\Sg N f kd g p st'/\PA o g p N) ?step ?fin ⟨0,_,_,rfl,b_ _,.inl<|aL _,h,rfl,λ_ _=>rfl⟩) ?post)
 case fin=>
  rintro c st' ⟨lo,g,p,rfl,h1,F,B,W,L⟩;have:lo=N:=()
  subst this;exact⟨g,p,rfl,B,W⟩
 case step=>
  intro x c st' _ hx K;revert K;revert c;refine OP λlo g p K=>?_;have h1:=K.1;have F:=K.2.1;have B:=K.2.2.1;have W:=K.2.2.2.1;have L:=K.2.2.2.2;clear K;dsimp only;by_cases Y:lo>=N
  ·rw[aJ Y];have:lo=N:=()
   subst this;exact aT ⟨g,p,rfl,B,W⟩
  ·rw[aI Y];refine aO<|Bj C B () () (λi a b=>L i a) λm g1 st1 s1 m1 m2 R1=>?_;dsimp only;by_cases c2:m<minRun' N N 0
   ·rw[aJ c2];kpf_c;refine aO<|JT C s1 () m1 () R1 (λi a b=>L i ()) λM st2 s2 R2=>?_;rw[aI ⋯];have U:1<=min (N-lo) (minRun' N N 0):=()
    have V:lo+min (N-lo) (minRun' N N 0)<=N:=()
    refine aO<|e9 ?_;rw[s2.pend];have J:=kF.congr W λi a b=>R2.out i (.inl b)
    cases e:p.back? with
    | none=>
     dsimp only;refine aO (dS<|aT ⟨_,_,_,rfl,V,(),s2.Ko _,?_,λi hi=>by rw[R2.out i<|.inr hi,L i ()]⟩);rw[s2.pend];exact pX J U R2.cl R2.so
    | some y=>
     obtain⟨y1,y2,y3⟩:=y;dsimp only;refine aO (cV (bV (I:=λ_ c st'=>c=(none,Unit.unit)/\∃g' p',Sg N f kd g' p' st'/\PA o g' p' lo/\(∀k,lo<=k->g' k=M k)) (Q:=λc st'=>c=(none,Unit.unit)/\∃g' p',Sg N f kd g' p' st'/\PA o g' p' lo/\(∀k,lo<=k->g' k=M k)) ?vstep (λ_ _ h=>h) ⟨rfl,_,_,s2,J,λ_ _=>rfl⟩) ?vpost)
     case vstep=>
      rintro x c st' _ hx ⟨rfl,g',p',h1,F,B⟩;refine aO<|e9 ?_;rw[h1.pend];by_cases c:p'.size>1
      ·rw[aJ c]
       cases e:p'[p'.size-2]? with
       | none=>exact aT ⟨rfl,g',p',h1,F,B⟩
       | some y=>
        obtain⟨y1,y2,y3⟩:=y;dsimp only;split
        ·exact aT ⟨rfl,g',p',h1,F,B⟩
        ·refine aO<|wu C h1 F () () λg3 p3 P O Z _ z3=>?_;exact aT ⟨rfl,g3,p3,O,Z,λk T=>by rw[z3 k T,B k T]⟩
      ·rw[aI c];exact aT ⟨rfl,g',p',h1,F,B⟩
     case vpost=>
      rintro c st' ⟨rfl,g',p',h1,F,B⟩;dsimp only;refine aO (dS<|aO<|dS<|aT ⟨_,_,_,rfl,V,(),(h1.Ko _).Ko _,?_,λi hi=>by rw[B i (),R2.out i<|.inr hi,L i ()]⟩)
      skip
      rw[h1.pend];exact pX (sd (λ_=>rfl) F) U (λi a b=>by rw[B i a];exact R2.cl i a b) λi j a b c=>by rw[B i a,B j ()];exact R2.so i j a b c
   ·rw[aI c2];have V:lo+m<=N:=()
    obtain⟨M,hg2⟩:∃M,M=g1:=⟨_,rfl⟩;rw[<- hg2]at R1 s1;have R2:=R1;have s2:=s1;have U:=m1;refine aO<|e9 ?_;rw[s2.pend];have J:=kF.congr W λi a b=>R2.out i (.inl b)
    cases e:p.back? with
    | none=>
     dsimp only;refine aO (dS<|aT ⟨_,_,_,rfl,V,(),s2.Ko _,?_,λi hi=>by rw[R2.out i<|.inr hi,L i ()]⟩);rw[s2.pend];exact pX J U R2.cl R2.so
    | some y=>
     obtain⟨y1,y2,y3⟩:=y;dsimp only;refine aO (cV (bV (I:=λ_ c st'=>c=(none,Unit.unit)/\∃g' p',Sg N f kd g' p' st'/\PA o g' p' lo/\(∀k,lo<=k->g' k=M k)) (Q:=λc st'=>c=(none,Unit.unit)/\∃g' p',Sg N f kd g' p' st'/\PA o g' p' lo/\(∀k,lo<=k->g' k=M k)) ?vstep (λ_ _ h=>h) ⟨rfl,_,_,s2,J,λ_ _=>rfl⟩) ?vpost)
     case vstep=>
      rintro x c st' _ hx ⟨rfl,g',p',h1,F,B⟩;refine aO<|e9 ?_;rw[h1.pend];by_cases c:p'.size>1
      ·rw[aJ c]
       cases e:p'[p'.size-2]? with
       | none=>exact aT ⟨rfl,g',p',h1,F,B⟩
       | some y=>
        obtain⟨y1,y2,y3⟩:=y;dsimp only;split
        ·exact aT ⟨rfl,g',p',h1,F,B⟩
        ·refine aO<|wu C h1 F () () λg3 p3 P O Z _ z3=>?_;exact aT ⟨rfl,g3,p3,O,Z,λk T=>by rw[z3 k T,B k T]⟩
      ·rw[aI c];exact aT ⟨rfl,g',p',h1,F,B⟩
     case vpost=>
      rintro c st' ⟨rfl,g',p',h1,F,B⟩;dsimp only;refine aO (dS<|aO<|dS<|aT ⟨_,_,_,rfl,V,(),(h1.Ko _).Ko _,?_,λi hi=>by rw[B i (),R2.out i<|.inr hi,L i ()]⟩)
      skip
      rw[h1.pend];exact pX (sd (λ_=>rfl) F) U (λi a b=>by rw[B i a];exact R2.cl i a b) λi j a b c=>by rw[B i a,B j ()];exact R2.so i j a b c
 case post=>
  rintro c st' ⟨g,p,rfl,h1,F⟩;dsimp only;refine aO (cV (bV
   (I:=λx c G=>c=(none,Unit.unit)/\∃g p,Sg N f kd g p G/\PA o g p N/\(p.size<=1\/p.size+x<=N))
   (Q:=λc G=>c=(none,Unit.unit)/\∃g p,Sg N f kd g p G/\PA o g p N/\p.size<=1) ?fstep ?ffin ⟨rfl,g,p,h1,F,.inr ?finit⟩) ?fpost)
  case finit=>
   have:=kF.le F;rw[aN]at this;show p.toList.length+0<=N
   lia
  case ffin=>
   rintro c G ⟨rfl,g,p,h1,F,B⟩;exact⟨rfl,g,p,h1,F,()⟩
  case fstep=>
   rintro x c G _ hx ⟨rfl,g,p,h1,F,B⟩;refine aO<|e9 ?_;rw[h1.pend];by_cases c:p.size<=1
   ·rw[aJ c];exact aT ⟨rfl,g,p,h1,F,c⟩
   ·rw[aI c];have il:∀(d:Prop) [Decidable d],(if d then p.size-2-1 else p.size-2)+1<p.size:=λd _=>by
     by_cases hd:d
     ·rw[aJ hd];lia
     ·rw[aI hd];lia
    refine aO<|wu C h1 F (aL _) (il _) λg' p' P O Z z3 _=>?_;exact aT ⟨rfl,g',p',O,Z,()⟩
  case fpost=>
   rintro c G ⟨rfl,g,p,h1,F,B⟩;dsimp only;refine aT ?_;unfold PA at F;have B:p.toList.length<=1:=B
   match hl:p.toList,B with
   | [],_=>
    rw[hl]at F;have:0=N:=F
    lia
   | [x],_=>
    rw[hl]at F;obtain⟨e1,e2,e3,e4,e5⟩:=F;have e5:0+x.2.1=N:=e5;have e3:Cl g 0 (0+x.2.1):=e3;have e4:So o g 0 (0+x.2.1):=e4;rw[e5]at e3 e4;exact q g p G h1 e3 e4
end
def Ji(N:Nat):RO N:=λc=>λC h q=>EO C h () q
meta abbrev E_ (h:ak)(a:aj)(j:ba):ak:=((h.update a<|Obj.mapSeq λ_=>#[]).push<|seqObj "tuple" j.toArray 0).push<|seqObj "list" #[] 0
meta abbrev vv (j:ba)(i:Nat):Keyed:=(j.getD i .none,j.getD i .none)
def zip_get(j:ba){i:Nat}(h:i<j.length):(j.toArray.zip j.toArray)[i]?=some (vv j i):=by
 have e:j[i]?=some (j.getD i .none):=by rw[aM,aG h];rfl
 rw[Array.getElem?_zip_eq_some];exact⟨by rw[cK];exact e,by rw[cK];exact e⟩
section
variable {prog:ah}{w:af}{A:az}{E:aa->aA->Prop}{s:aA}{o:Ord}{kd:SortKind}
def Au{a:aj}{Z:ba}{n:Nat}{P:PySem.Fin->aA->Prop}(hL:s.heap.get? a=some (seqObj "list" Z.toArray n))(hsz:Z.length<=sizeLine)(ro:RO Z.length)
  (hkk:2<=Z.length->∀Q:SortKind->aA->Prop,Q kd { s with heap:=E_ s.heap a Z }->wpAny (model prog w) A (keyKind' Z.toArray) Q E { s with heap:=E_ s.heap a Z })
  (C:2<=Z.length->rA prog w A { s with heap:=E_ s.heap a Z } o Z.length (vv Z) kd)
  (h:∀g,Cl g 0 Z.length->So o g 0 Z.length->P (.done<|.ret .none) { s with heap:=sortedHeap s.heap a Z ((List.range Z.length).map λi=>Z.getD (g i) .none).toArray }) :
  wpAny (model prog w) A (Builtin.«list.sort» ⟨[.ref a],[]⟩) P E s:=by
 rw[list_sort_plain];have F:a<s.heap.objs.size:=bf hL;refine aF<|listItems_at hL rfl ?_;refine aF (listUpdate_at hL rfl ?_ (by rw[aU];exact hsz)<|b_ _);obtain⟨ep,G⟩:∃ep,(s.heap.update a<|Obj.mapSeq λ_=>#[]).get? a=some (seqObj "list" #[] ep):=⟨_,get?_update_seq hL λ_=>#[]⟩;refine aF<|seqEpoch_at G rfl ?_;refine aF<|wpAny_newTuple ?_;refine aF<|wpAny_newList ?_;refine cP ?_;have m:(E_ s.heap a Z).get? a=some (seqObj "list" #[] ep):=by
  rw[Heap.get?_push_ne _ _ _<|by rw[size_push',Heap.size_update];exact bw<|d7 F,Heap.get?_push_ne _ _ _<|by rw[Heap.size_update];exact bw F];exact G
 skip
 dsimp only;have M:Z.toArray.size=Z.length:=by simp
 have N:∀i,i<Z.length->Z[i]?=some (Z.getD i .none):=λi hi=>by rw[aM,aG hi];rfl
 have q:∀(arr:Array Keyed) (g:Nat->Nat),arr.size=Z.length->(∀i,i<Z.length->arr[i]?=some (vv Z<|g i))->arr.map (·.2)=((List.range Z.length).map λi=>Z.getD (g i) .none).toArray:=λarr g h1 k=>by
  apply Array.ext_getElem?;intro i;have e0:((List.range Z.length).map λi=>Z.getD (g i) Value.none).toArray[i]?=((List.range Z.length).map λi=>Z.getD (g i) Value.none)[i]?:=cK ..;rw[Array.getElem?_map,e0,aY];by_cases c:i<Z.length
  ·rw[k i c,cG c];rfl
  ·rw[dW (),bJ<|by rw[bC];lia];rfl
 by_cases k:Z.toArray.size<2
 ·rw[aJ k,aJ k];refine aF<|aH ?_;rw[StateT.run_pure];refine aF<|aH ?_;dsimp only;refine aF<|seqEpoch_at m rfl ?_;have L:=q (Z.toArray.zip Z.toArray) (λi=>i) (by rw[gq,M];lia) λi hi=>zip_get Z hi;refine aF (listUpdate_at m rfl ?_ (by simp) (hsz2:=by rw[size_map];show(Z.toArray.zip Z.toArray).size<=_;rw[gq,M];lia));dsimp[bne_self_eq_false,br,cg];refine aH ?_;have:=h (λi=>i) (λi a b=>⟨a,b⟩) λi j a b c=>();rw[<- L]at this;exact this
 ·rw[aI k,aI k];have B:2<=Z.length:=()
  refine aF<|hkk B _ ?_;refine aF (fS (ro B (f:=vv Z) (st:=SortSt.mk' kd (Z.toArray.zip Z.toArray) #[] 7 none)
   (Q:=λ_ d=>∃g p,Sg Z.length (vv Z) kd g p d/\Cl g 0 Z.length/\So o g 0 Z.length)
   (C B) ⟨by show(Z.toArray.zip Z.toArray).size=_;rw[gq,M];lia,λi hi=>zip_get Z hi,λi hi=>hi,rfl,rfl,rfl⟩ λO W d V U Y=>⟨O,W,V,U,Y⟩) ?_ λ_ _ e=>e)
  rintro⟨⟨⟩,d⟩ s' ⟨rfl,g,p,J,hc,K⟩;dsimp only;refine aF<|seqEpoch_at m rfl ?_;have L:=q (arrOf d) g J.size J.get;refine aF (listUpdate_at m rfl ?_ (by simp) (hsz2:=by have T:(arrOf d).size=Z.length:=J.size;show((arrOf d).map (·.2)).size<=_;rw[size_map,T];lia));rw[J.failed];dsimp[bne_self_eq_false,br,cg];have:=h g hc K;rw[<- L]at this;exact aH this
end
section
variable {prog:ah}{w:af}{A:az}{E:aa->aA->Prop}{s:aA}
def F_(b:Bool){x y:Int}{Q:Bool->aA->Prop}(h:Q (decide<|x<y) s):wpAny (model prog w) A (oneLt' b (.int x t)<|.int y u) Q E s:=by
 cases b with
 | true=>exact oneLt_int h
 | false=>
  rw[oneLt'_eq];dsimp[br,cg];exact aF<|PySem.P.lt_int<|cC h
end
end Sx
namespace Am
open PySem
inductive A where
 | unb|non|bl (b:Bool)|int (i:Int)|str (x:Str)|tup (xs:List A)|frz (xs:List A)|rng (lo hi:Int)|ref (n:Nat)|exn (c:Str)|ty (n:String)|ktu (xs:List A)
@[reducible]def ae:=List A
inductive O where
 | lst (xs:ae)|dct (kvs:List<|ag×A)|dki (kvs:List<|Int×A)|dks (kvs:List<|Str×A)|dcp (kvs:List<|L2.AZ×A)|dcf (kvs:List<|ag×A)|dkf (kvs:List<|Int×A)|ins (c:Str) (fs:List<|Str×A)
meta abbrev gE:=List O
inductive R (α:Type) where
 | ok (a:α) (S:gE)|ex (c:Str) (S:gE)|no
abbrev R.bind {α β:Type}(r:R α)(f:α->gE->R β):R β:=match r with
 | .ok a S=>f a S
 | .ex c S=>.ex c S
 | .no=>.no
abbrev R.post {α:Type}(r:R α)(P:α->gE->Prop)(E:Str->gE->Prop):Prop:=match r with
 | .ok a S=>P a S
 | .ex c S=>E c S
 | .no=>False
def gG{α β:Type}{r:R α}{f:α->gE->R β}{P:β->gE->Prop}{E:Str->gE->Prop}(h:(r.bind f).post P E):r.post (λa S=>(f a S).post P E) E:=by
 cases r<;>exact h
def oJ{α:Type}{r:R α}{P j:α->gE->Prop}{E J:Str->gE->Prop}(h:r.post P E)(L:∀a S,P a S->j a S)(M:∀c S,E c S->J c S):r.post j J:=by
 cases r with
 | ok a S=>exact L _ _ h
 | ex c S=>exact M _ _ h
 | no=>exact h.elim
abbrev gd {α:Type}(c:Prop)[Decidable c](r:R α):R α:=if c then r else .no
abbrev opt {α β:Type}(o:Option β)(f:β->R α):R α:=match o with
 | some b=>f b
 | none=>.no
def gQ{α:Type}{c:Prop}[Decidable c]{r:R α}{P:α->gE->Prop}{E:Str->gE->Prop}(h:(gd c r).post P E):c/\r.post P E:=by
 unfold gd at h;by_cases hc:c
 ·rw[aJ hc]at h;exact⟨hc,h⟩
 ·rw[aI hc]at h;exact h.elim
def gT{α β:Type}{o:Option β}{f:β->R α}{P:α->gE->Prop}{E:Str->gE->Prop}(h:(opt o f).post P E):∃b,o=some b/\(f b).post P E:=by
 cases o with
 | none=>exact h.elim
 | some b=>exact⟨b,rfl,h⟩
def LS{α:Type}{c:Prop}[Decidable c]{r:R α}(h:c):gd c r=r:=aJ h
abbrev gH (S:gE)(n:Nat):Option (ae):=match S[n]? with
 | some (.lst xs)=>some xs
 | _=>none
def gU{n:Nat}(h:gH S n=some xs):S[n]?=some (.lst xs):=by
 unfold gH at h;split at h
 ·rename_i e;cases h;exact e
 ·cases h
def qH{S:gE}{n:Nat}(h:S[n]?=some (.lst xs)):gH S n=some xs:=by
 unfold gH;rw[h]
inductive RS where
 | nx (τ:ae) (S:gE)|rt (a:A) (S:gE)|bk (τ:ae) (S:gE)|ct (τ:ae) (S:gE)|ex (c:Str) (S:gE)|no
meta abbrev Ex:=ae->gE->R A
meta abbrev kq:=ae->gE->R (ae)
meta abbrev Te:=ae->gE->R Bool
meta abbrev Sm:=ae->gE->RS
meta abbrev Tg:=A->ae->gE->R (ae)
end Am
namespace Am
open PySem L2
section
variable (K:aq) (ρ:bb) (H:Hp)
abbrev Of (K:aq)(c:Str)(C:aj):Prop:=PySem.W.nsIn K mainGlobals c=some (some<|.ref C)
abbrev Fz (K:aq)(H:Hp)(a:aj)(j:List V):Prop:=
 (∃o,H a=some (.frz o<|.lst j))\/∃(o:Obj) (c:Array aa) (n:Nat),K.lookup a=some o/\o.cls=.type "list" /\ o.dict=none/\o.data=.seq c n/\c.size<=sizeLine/\Vals j c.toList
abbrev OO (K:aq)(a:aj)(j:List V):Prop:=∃(o:Obj) (c:Array aa) (n:Nat),K.lookup a=some o/\o.cls=.type "tuple" /\ o.dict=none/\o.data=.seq c n/\c.size<=sizeLine/\Vals j c.toList
mutual
inductive AV:A->V->Prop
 | non:AV .non .non
 | bl (b:Bool):AV (.bl b) (.bl b)
 | int (i:Int):AV (.int i) (.int i)
 | str (x:Str):AV (.str x) (.str x)
 | ty (n:String):AV (.ty n) (.ty n)
 | tup {a:aj} {xs:ae} {vs:List V} (h:H a=some (.tup vs)) (r:AVs xs vs):AV (.tup xs) (.ref a)
 | frz {a:aj} {xs:ae} {vs:List V} (h:Fz K H a vs) (r:AVs xs vs):AV (.frz xs) (.ref a)
 | rng {a:aj} {lo hi:Int} (h:H a=some (.rng lo hi)):AV (.rng lo hi) (.ref a)
 | ref {a:aj} {n:Nat} (h:ρ[n]?=some a):AV (.ref n) (.ref a)
 | exn {a C:aj} {c:Str} {oe:Obj} (n:Of K c C) (h:H a=some (.frz oe xu)) (x:XO C oe):AV (.exn c) (.ref a)
 | ktu {a:aj} {xs:ae} {vs:List V} (h:OO K a vs) (r:AVs xs vs):AV (.ktu xs)<|.ref a
inductive AVs:ae->List V->Prop
 | nil:AVs [] []
 | cons {x:A} {v:V} {xs:ae} {vs:List V} (h:AV x v) (t:AVs xs vs):AVs (x::xs) (v::vs)
end
abbrev DV:List (ag×A)->List (List Key×V)->Prop
 | [],[]=>True
 | p::r,q::r'=>(q.1=p.1.map Sum.inl/\AV K ρ H p.2 q.2)/\DV r r'
 | _,_=>False
abbrev DI:List (Int×A)->List (Key×V)->Prop
 | [],[]=>True
 | p::r,q::r'=>(q.1=Sum.inl p.1/\AV K ρ H p.2 q.2)/\DI r r'
 | _,_=>False
abbrev DS:List (Str×A)->List (Key×V)->Prop
 | [],[]=>True
 | p::r,q::r'=>(q.1=Sum.inr p.1/\AV K ρ H p.2 q.2)/\DS r r'
 | _,_=>False
abbrev DP:List (L2.AZ×A)->List (L2.AZ×aj×aa)->Prop
 | [],[]=>True
 | p::r,q::r'=>(q.1=p.1/\L2.uZ H q.2.1 q.1/\∃v,RelV v q.2.2/\AV K ρ H p.2 v)/\DP r r'
 | _,_=>False
abbrev OR (a:aj):O->Prop
 | .lst xs=>∃d,H a=some (.lst d)/\AVs K ρ H xs d
 | .dct c=>∃ks,H a=some (.dT ks)/\DV K ρ H c ks
 | .dki c=>∃ks,H a=some (.dK ks)/\DI K ρ H c ks
 | .dks c=>∃ks,H a=some (.dK ks)/\DS K ρ H c ks
 | .dcp c=>∃xs,H a=some (.ext<|L2.MB a xs)/\DP K ρ H c xs
 | .dcf c=>∃o ks,H a=some (.frz o<|.dT ks)/\DV K ρ H c ks
 | .dkf c=>∃o ks,H a=some (.frz o<|.dK ks)/\DI K ρ H c ks
 | .ins _ _=>∃o u,H a=some (.frz o u)
structure Rel (S:gE):Prop where
 len:ρ.length=S.length
 nd:ρ.Nodup
 «at»:∀(n:Nat) (a:aj) (o:O),ρ[n]?=some a->S[n]?=some o->OR K ρ H a o
end
abbrev OE:HO->Prop
 | .tup _=>True
 | .rng _ _=>True
 | .frz _ _=>True
 | _=>False
structure Ext0 (ρ ρ':bb)(H H':Hp):Prop where
 pre:ρ <+: ρ'
 im:∀a u,OE u->H a=some u->H' a=some u
structure Ext (ρ ρ':bb)(H H':Hp):Prop extends Ext0 ρ ρ' H H' where
 fr:∀a u,H a=some u->a∉ρ->H' a=some u
 nw:∀a,a∈ρ'->a∈ρ\/H a=none
def Ext.refl{H:Hp}:Ext ρ ρ H H:=⟨⟨fC _,λ_ _ _ h=>h⟩,λ_ _ h _=>h,λ_ h=>.inl h⟩
def Ext.trans{H H1 H2:Hp}(a:Ext ρ ρ1 H H1)(b:Ext ρ1 ρ2 H1 H2):Ext ρ ρ2 H H2:=⟨⟨a.pre.trans b.pre,λx u i h=>b.im x u i<|a.im x u i h⟩,λx u h n=>b.fr x u (a.fr x u h n) λz=>(a.nw x z).elim n λz=>by(rw[z]at h;cases h),λx h=>by
 by_cases c:x∈ρ
 ·exact .inl c
 ·right
  cases q:H x with
  | none=>rfl
  | some u=>
   rcases b.nw x h with z|z
   ·exact((a.nw x z).elim c λz=>by(rw[z]at q;cases q)).elim
   ·rw[a.fr x u q c]at z;cases z⟩
def Ext0.get{H H':Hp}(e:Ext0 ρ ρ' H H'){n:Nat}{a:aj}(h:ρ[n]?=some a):ρ'[n]?=some a:=by
 obtain⟨t,rfl⟩:=e.pre;rw[bI (aP.mp h).1];exact h
section
variable {K:aq}{ρ ρ':bb}{H H':Hp}
def Ext0.N7(e:Ext0 ρ ρ' H H'){a:aj}(h:jT K H a vs):jT K H' a vs:=by
 rcases h with(h|⟨o,h⟩)|h
 ·exact .inl (.inl<|e.im _ _ trivial h)
 ·exact .inl (.inr ⟨o,e.im _ _ trivial h⟩)
 ·exact .inr h
def Ext0.fz(e:Ext0 ρ ρ' H H'){a:aj}(h:Fz K H a vs):Fz K H' a vs:=by
 rcases h with⟨o,h⟩|h
 ·exact .inl ⟨o,e.im _ _ trivial h⟩
 ·exact .inr h
def Fz.Ho{a:aj}(h:Fz K H a vs):kr K H a vs:=by
 rcases h with⟨o,h⟩|h
 ·exact .inl (.inr ⟨o,h⟩)
 ·exact .inr h
mutual
theorem AV.iz(e:Ext0 ρ ρ' H H'):∀{x:A}{v:V},AV K ρ H x v->AV K ρ' H' x v
 | _,_,.non=>.non
 | _,_,.bl b=>.bl b
 | _,_,.int i=>.int i
 | _,_,.str x=>.str x
 | _,_,.ty x=>.ty x
 | _,_,.tup h r=>.tup (e.im _ _ trivial h) (AVs.iz e r)
 | _,_,.frz h r=>.frz (e.fz h) (AVs.iz e r)
 | _,_,.rng h=>.rng (e.im _ _ trivial h)
 | _,_,.ref h=>.ref (e.get h)
 | _,_,.exn n h x=>.exn n (e.im _ _ trivial h) x
 | _,_,.ktu h r=>.ktu h<|AVs.iz e r
theorem AVs.iz(e:Ext0 ρ ρ' H H'):∀{xs:ae}{vs:List V},AVs K ρ H xs vs->AVs K ρ' H' xs vs
 | _,_,.nil=>.nil
 | _,_,.cons h t=>.cons (AV.iz e h)<|AVs.iz e t
end
theorem DV.iz(e:Ext0 ρ ρ' H H'):∀{xs:List<|ag×A}{vs:List<|List Key×V},DV K ρ H xs vs->DV K ρ' H' xs vs
 | [],[],_=>trivial
 | _::_,_::_,⟨⟨a,b⟩,r⟩=>⟨⟨a,AV.iz e b⟩,DV.iz e r⟩
def DV.ext{x:List<|ag×A}{v:List<|List Key×V}(h:DV K ρ H x v)(e:Ext ρ ρ' H H'):DV K ρ' H' x v:=DV.iz e.toExt0 h
theorem DI.iz(e:Ext0 ρ ρ' H H'):∀{xs:List<|Int×A}{vs:List<|Key×V},DI K ρ H xs vs->DI K ρ' H' xs vs
 | [],[],_=>trivial
 | _::_,_::_,⟨⟨a,b⟩,r⟩=>⟨⟨a,AV.iz e b⟩,DI.iz e r⟩
def DI.ext{x:List<|Int×A}{v:List<|Key×V}(h:DI K ρ H x v)(e:Ext ρ ρ' H H'):DI K ρ' H' x v:=DI.iz e.toExt0 h
theorem DS.iz(e:Ext0 ρ ρ' H H'):∀{xs:List<|Str×A}{vs:List<|Key×V},DS K ρ H xs vs->DS K ρ' H' xs vs
 | [],[],_=>trivial
 | _::_,_::_,⟨⟨a,b⟩,r⟩=>⟨⟨a,AV.iz e b⟩,DS.iz e r⟩
def DS.ext{x:List<|Str×A}{v:List<|Key×V}(h:DS K ρ H x v)(e:Ext ρ ρ' H H'):DS K ρ' H' x v:=DS.iz e.toExt0 h
def uZ.iz{b:aj}{k:L2.AZ}(e:Ext0 ρ ρ' H H'):L2.uZ H b k->L2.uZ H' b k:=λ⟨r1,r2,h1,d,c⟩=>⟨r1,r2,e.im _ _ trivial h1,e.im _ _ trivial d,e.im _ _ trivial c⟩
theorem DP.iz(e:Ext0 ρ ρ' H H'):∀{xs:List<|L2.AZ×A}{vs:List<|L2.AZ×aj×aa},DP K ρ H xs vs->DP K ρ' H' xs vs
 | [],[],_=>trivial
 | _::_,_::_,⟨⟨a,k,v,c,b⟩,r⟩=>⟨⟨a,uZ.iz e k,v,c,AV.iz e b⟩,DP.iz e r⟩
def DP.ext{x:List<|L2.AZ×A}{v:List<|L2.AZ×aj×aa}(h:DP K ρ H x v)(e:Ext ρ ρ' H H'):DP K ρ' H' x v:=DP.iz e.toExt0 h
def AV.ext{x:A}{v:V}(h:AV K ρ H x v)(e:Ext ρ ρ' H H'):AV K ρ' H' x v:=AV.iz e.toExt0 h
def AVs.ext{x:ae}{v:List V}(h:AVs K ρ H x v)(e:Ext ρ ρ' H H'):AVs K ρ' H' x v:=AVs.iz e.toExt0 h
theorem AVs.length:∀{xs:ae}{vs:List V},AVs K ρ H xs vs->xs.length=vs.length
 | _,_,.nil=>rfl
 | _,_,.cons _ t=>bQ (·+1)<|AVs.length t
theorem AVs.append:∀{xs ys:ae}{vs ws:List V},AVs K ρ H xs vs->AVs K ρ H ys ws->AVs K ρ H (xs++ys) (vs++ws)
 | _,_,_,_,.nil,s=>s
 | _,_,_,_,.cons h t,s=>.cons h<|AVs.append t s
theorem AVs.take:∀{xs:ae}{vs:List V}(n:Nat),AVs K ρ H xs vs->AVs K ρ H (xs.take n) (vs.take n)
 | _,_,0,_=>.nil
 | _,_,_+1,.nil=>.nil
 | _,_,n+1,.cons h t=>.cons h<|AVs.take n t
theorem AVs.drop:∀{xs:ae}{vs:List V}(n:Nat),AVs K ρ H xs vs->AVs K ρ H (xs.drop n) (vs.drop n)
 | _,_,0,r=>r
 | _,_,_+1,.nil=>.nil
 | _,_,n+1,.cons _ t=>AVs.drop n t
theorem AVs.get:∀{xs:ae}{vs:List V}{i:Nat}{x:A},AVs K ρ H xs vs->xs[i]?=some x->∃v,vs[i]?=some v/\AV K ρ H x v
 | _,_,_,_,.nil,e=>by simp at e
 | _,_,0,_,.cons h _,e=>by simp at e;subst e;exact⟨_,rfl,h⟩
 | _,_,i+1,x,.cons _ t,e=>by
  obtain⟨u,h1,c⟩:=AVs.get (i:=i) (x:=x) t (by simpa using e);exact⟨u,by simpa using h1,c⟩
theorem AVs.set{x:A}{v:V}(h:AV K ρ H x v):∀{xs:ae}{vs:List V}(i:Nat),AVs K ρ H xs vs->AVs K ρ H (xs.set i x) (vs.set i v)
 | _,_,_,.nil=>.nil
 | _,_,0,.cons _ t=>.cons h t
 | _,_,i+1,.cons q t=>.cons q<|AVs.set h i t
def AVs.one{x:A}{v:V}(h:AV K ρ H x v):AVs K ρ H [x] [v]:=.cons h .nil
theorem qE:∀(ns:ag),AVs K ρ H (ns.map .int) (ns.map .int)
 | []=>.nil
 | n::ns=>.cons (.int n)<|qE ns
def Rel.lay{S:gE}{p:aj}(R:Rel K ρ H S)(J:H p=none)(r:AVs K ρ H xs vs):Ext ρ (ρ++[p]) H (upd H p<|.lst vs)/\Rel K (ρ++[p]) (upd H p<|.lst vs) (S++[.lst xs])/\(ρ++[p])[S.length]?=some p:=by
 have ex:Ext ρ (ρ++[p]) H (upd H p<|.lst vs):=⟨⟨fV _ _,λa u _ h=>by rw[gS<|gX h J];exact h⟩,λa u h _=>by rw[gS<|gX h J];exact h,λa h=>by
  rcases bh.mp h with z|z
  ·exact .inl z
  ·have e:a=p:=by simpa using z
   rw[e];exact .inr J⟩
 have d:∀(n:Nat) (a:aj),ρ[n]?=some a->a≠p:=by
  intro n a e z;subst z;have hn:n<S.length:=by rw[<- R.len];exact(aP.mp e).1
  have:=R.at n a S[n] e (aG hn)
  cases j:S[n]with
  | lst xs=>rw[j]at this;obtain⟨vs,h,_⟩:=this;rw[J]at h;cases h
  | dct _|dki _|dks _|dcp _=>rw[j]at this;obtain⟨vs,h,_⟩:=this;rw[J]at h;cases h
  | dcf _|dkf _=>rw[j]at this;obtain⟨_,vs,h,_⟩:=this;rw[J]at h;cases h
  | ins _ _=>rw[j]at this;obtain⟨_,_,h⟩:=this;rw[J]at h;cases h
 have c:(ρ++[p])[S.length]?=some p:=by rw[<- R.len];simp
 refine⟨ex,⟨by simp[R.len],?_,?_⟩,c⟩
 ·rw[f_];refine⟨R.nd,by simp,λa m b B e=>?_⟩;have:b=p:=by simpa using B
  obtain⟨n,hn,C⟩:=List.mem_iff_getElem.mp m;exact d n a (by rw[aG hn,C])<|e.trans this
 ·intro n a o h1 f;by_cases hn:n<S.length
  ·rw[bI<|by rw[R.len];exact hn]at h1;rw[bI hn]at f;have:=R.at n a o h1 f
   cases o with
   | lst ys=>obtain⟨g,e,q⟩:=this;exact⟨g,by rw[gS<|d n a h1];exact e,q.ext ex⟩
   | dct _|dki _|dks _|dcp _=>obtain⟨g,e,q⟩:=this;exact⟨g,by rw[gS<|d n a h1];exact e,q.ext ex⟩
   | dcf _|dkf _=>obtain⟨k,g,e,q⟩:=this;exact⟨k,g,by rw[gS<|d n a h1];exact e,q.ext ex⟩
   | ins _ _=>obtain⟨k,F,e⟩:=this;exact⟨k,F,by rw[gS<|d n a h1];exact e⟩
  ·have e:n=S.length:=by
    have:=(aP.mp f).1;simp at this
    lia
   subst e;rw[c]at h1
   cases h1
   simp at f;subst f;exact⟨vs,jn,r.ext ex⟩
def Rel.im{p:aj}(R:Rel K ρ H S)(j:H p=none):Ext ρ ρ H (upd H p u)/\Rel K ρ (upd H p u) S:=by
 have ex:Ext ρ ρ H (upd H p u):=⟨⟨fC _,λa u _ h=>by rw[gS<|gX h j];exact h⟩,λa u h _=>by rw[gS<|gX h j];exact h,λ_ h=>.inl h⟩;refine⟨ex,R.len,R.nd,λn a o h1 f=>?_⟩;have:=R.at n a o h1 f
 cases o with
 | lst ys=>obtain⟨c,e,q⟩:=this;exact⟨c,by rw[gS<|gX e j];exact e,q.ext ex⟩
 | dct _|dki _|dks _|dcp _=>obtain⟨c,e,q⟩:=this;exact⟨c,by rw[gS<|gX e j];exact e,q.ext ex⟩
 | dcf _|dkf _=>obtain⟨d,c,e,q⟩:=this;exact⟨d,c,by rw[gS<|gX e j];exact e,q.ext ex⟩
 | ins _ _=>obtain⟨d,g,e⟩:=this;exact⟨d,g,by rw[gS<|gX e j];exact e⟩
def Rel.put{S:gE}{n:Nat}{a:aj}(R:Rel K ρ H S)(J:ρ[n]?=some a)(L:S[n]?=some (.lst xs))(r:AVs K ρ H ys ws):Ext ρ ρ H (upd H a<|.lst ws)/\Rel K ρ (upd H a<|.lst ws) (S.set n<|.lst ys):=by
 obtain⟨C,e,_⟩:=R.at n a _ J L;have ex:Ext ρ ρ H (upd H a<|.lst ws):=⟨⟨fC _,λb u i h=>by
  have:b≠a:=by
   intro z;subst z;rw[e]at h;cases h;exact i
  rw[gS this];exact h⟩,λb u h n=>by
  rw[gS λz=>n<|by rw[z];exact aZ J];exact h,λ_ h=>.inl h⟩
 refine⟨ex,by rw[gp];exact R.len,R.nd,λm b o h1 f=>?_⟩;by_cases g:m=n
 ·subst g;rw[J]at h1;cases h1;rw[cB (aP.mp L).1]at f
  cases f
  exact⟨ws,jn,r.ext ex⟩
 ·rw[ck<|eE g]at f;have nb:b≠a:=λz=>by
   subst z;obtain⟨B,e1⟩:=aP.mp J;obtain⟨p,e2⟩:=aP.mp h1;exact g<|(List.getElem_inj R.nd).mp<|e2.trans e1.symm
  have:=R.at m b o h1 f
  cases o with
  | lst ys=>obtain⟨c,d,q⟩:=this;exact⟨c,by rw[gS nb];exact d,q.ext ex⟩
  | dct _|dki _|dks _|dcp _=>obtain⟨c,d,q⟩:=this;exact⟨c,by rw[gS nb];exact d,q.ext ex⟩
  | dcf _|dkf _=>obtain⟨j,c,d,q⟩:=this;exact⟨j,c,by rw[gS nb];exact d,q.ext ex⟩
  | ins _ _=>obtain⟨j,k,d⟩:=this;exact⟨j,k,by rw[gS nb];exact d⟩
def Rel.lst{n:Nat}{a:aj}(R:Rel K ρ H S)(j:ρ[n]?=some a)(J:S[n]?=some (.lst xs)):∃vs,H a=some (.lst vs)/\AVs K ρ H xs vs:=R.at n a _ j J
structure SR (K:aq)(ρ:bb)(H:Hp)(τ:ae)(σ:St):Prop where
 len:τ.length=σ.length
 «at»:∀(i:Nat) (a:A),τ[i]?=some a->a=.unb\/∃v,σ[i]?=some (some v)/\AV K ρ H a v
def SR.iz(s:SR K ρ H τ σ)(e:Ext0 ρ ρ' H H'):SR K ρ' H' τ σ:=⟨s.len,λi a h=>by
 rcases s.at i a h with z|⟨v,h1,c⟩
 ·exact .inl z
 ·exact .inr ⟨v,h1,AV.iz e c⟩⟩
def SR.ext(s:SR K ρ H τ σ)(e:Ext ρ ρ' H H'):SR K ρ' H' τ σ:=s.iz e.toExt0
def Rel.out(R:Rel K ρ H S)(j:H D=some (.lst vs))(hn:D∉ρ):Ext0 ρ ρ H (upd H D<|.lst ws)/\Rel K ρ (upd H D<|.lst ws) S:=by
 have ex:Ext0 ρ ρ H (upd H D<|.lst ws):=⟨fC _,λb u i h=>by
  have:b≠D:=by
   intro z;subst z;rw[j]at h;cases h;exact i
  rw[gS this];exact h⟩
 refine⟨ex,R.len,R.nd,λn a o h1 f=>?_⟩;have na:a≠D:=λz=>hn (by rw[<- z];exact aZ h1);have:=R.at n a o h1 f
 cases o with
 | lst ys=>obtain⟨c,e,q⟩:=this;exact⟨c,by rw[gS na];exact e,AVs.iz ex q⟩
 | dct _|dki _|dks _|dcp _=>obtain⟨c,e,q⟩:=this;exact⟨c,by rw[gS na];exact e,q.iz ex⟩
 | dcf _|dkf _=>obtain⟨d,c,e,q⟩:=this;exact⟨d,c,by rw[gS na];exact e,q.iz ex⟩
 | ins _ _=>obtain⟨d,g,e⟩:=this;exact⟨d,g,by rw[gS na];exact e⟩
def Rel.take{S:gE}{D:aj}(R:Rel K ρ H S)(J:H D=some (.lst vs))(hn:D∉ρ)(r:AVs K ρ H xs vs):Rel K (ρ++[D]) H (S++[.lst xs])/\(ρ++[D])[S.length]?=some D:=by
 have ex:Ext0 ρ (ρ++[D]) H H:=⟨fV _ _,λ_ _ _ h=>h⟩;have c:(ρ++[D])[S.length]?=some D:=by rw[<- R.len];simp
 refine⟨⟨by simp[R.len],?_,λn a o h1 d=>?_⟩,c⟩
 ·rw[f_];refine⟨R.nd,by simp,λa j b k e=>?_⟩;have:b=D:=by simpa using k
  exact hn<|by rw[<- this,<- e];exact j
 ·by_cases hs:n<S.length
  ·rw[bI<|by rw[R.len];exact hs]at h1;rw[bI hs]at d;have:=R.at n a o h1 d
   cases o with
   | lst ys=>obtain⟨f,e,q⟩:=this;exact⟨f,e,AVs.iz ex q⟩
   | dct _|dki _|dks _|dcp _=>obtain⟨f,e,q⟩:=this;exact⟨f,e,q.iz ex⟩
   | dcf _|dkf _=>obtain⟨g,f,e,q⟩:=this;exact⟨g,f,e,q.iz ex⟩
   | ins _ _=>obtain⟨g,m,e⟩:=this;exact⟨g,m,e⟩
  ·have e:n=S.length:=by
    have:=(aP.mp d).1;simp at this
    lia
   subst e;rw[c]at h1
   cases h1
   simp at d;subst d;exact⟨vs,J,AVs.iz ex r⟩
def SR.set{τ:ae}{σ:St}{a:A}{v:V}(s:SR K ρ H τ σ)(h:AV K ρ H a v):SR K ρ H (τ.set i a) (σ.set i<|some v):=by
 refine⟨by simp[s.len],λj b e=>?_⟩;by_cases c:j=i
 ·subst c;have d:j<τ.length:=by
   have:=(aP.mp e).1;simpa using this
  rw[cB d]at e
  cases e
  exact .inr ⟨v,cB<|by rw[<- s.len];exact d,h⟩
 ·rw[ck<|eE c]at e;rw[ck<|eE c];exact s.at j b e
end
end Am
namespace Am
open PySem PySem.Spec PyProof.Rows L2
abbrev XE (X:Cx)(ρ:bb)(H:Hp):Str->gE->Prop:=λc d=>∀(C:aj) (ρ':bb) (H':Hp),Of X.K c C->Ext ρ ρ' H H'->Rel X.K ρ' H' d->EX X (.ref C) none H'
def XE.ext{H H':Hp}(h:XE X ρ H c S)(e:Ext ρ ρ' H H'):XE X ρ' H' c S:=λC d H2 n e2=>h C d H2 n<|e.trans e2
abbrev pS (X:Cx)(ρ:bb)(H:Hp)(Q:VK):A->gE->Prop:=λa c=>∀ρ' H' v,Ext ρ ρ' H H'->Rel X.K ρ' H' c->AV X.K ρ' H' a v->Q v H'
abbrev Mn (X:Cx)(ρ:bb)(H:Hp)(Q:Bool->Hp->Prop):Bool->gE->Prop:=λb c=>∀ρ' H',Ext ρ ρ' H H'->Rel X.K ρ' H' c->Q b H'
abbrev OF (X:Cx)(ρ:bb)(H:Hp)(Q:List V->Hp->Prop):ae->gE->Prop:=λe d=>∀ρ' H' c,Ext ρ ρ' H H'->Rel X.K ρ' H' d->AVs X.K ρ' H' e c->Q c H'
def pS.ext{H H':Hp}{Q:VK}{a:A}(h:pS X ρ H Q a S)(e:Ext ρ ρ' H H'):pS X ρ' H' Q a S:=λc H2 v e2=>h c H2 v<|e.trans e2
def Mn.ext{H H':Hp}{Q:Bool->Hp->Prop}{a:Bool}(h:Mn X ρ H Q a S)(e:Ext ρ ρ' H H'):Mn X ρ' H' Q a S:=λc H2 e2=>h c H2<|e.trans e2
def gB{α:Type}{H H':Hp}{r:R α}{P j:α->gE->Prop}(h:r.post P<|XE X ρ H)(e:Ext ρ ρ' H H')(J:∀a S,P a S->j a S):r.post j (XE X ρ' H'):=oJ h J λ_ _ z=>z.ext e
abbrev tE (X:Cx)(c:Ex):TE:=λσ H Q=>∃ρ S τ,Rel X.K ρ H S/\SR X.K ρ H τ σ/\(c τ S).post (pS X ρ H Q) (XE X ρ H)
abbrev tT (X:Cx)(c:Te):TT:=λσ H Q=>∃ρ S τ,Rel X.K ρ H S/\SR X.K ρ H τ σ/\(c τ S).post (Mn X ρ H Q) (XE X ρ H)
abbrev tL (X:Cx)(c:kq):TA:=λσ H Q=>∃ρ S τ,Rel X.K ρ H S/\SR X.K ρ H τ σ/\(c τ S).post (OF X ρ H Q) (XE X ρ H)
abbrev AE (X:Cx)(e:aC)(c:Ex):Prop:=PE X e<|tE X c
abbrev AT (X:Cx)(e:aC)(c:Te):Prop:=PT X e<|tT X c
abbrev AW (X:Cx)(e:aC)(c:Te):Prop:=PW X e<|tT X c
abbrev AL (X:Cx)(es:List aC)(c:kq):Prop:=PA X es<|tL X c
def PE.imp{t t':TE}(h:PE X e t)(i:∀σ H Q,t' σ H Q->t σ H Q):PE X e t':=λpins s σ H Q I q=>h pins s σ H Q I<|i σ H Q q
def PT.imp{t t':TT}(h:PT X e t)(i:∀σ H Q,t' σ H Q->t σ H Q):PT X e t':=λpins s σ H Q I q=>h pins s σ H Q I<|i σ H Q q
def PW.imp{t t':TT}(h:PW X e t)(i:∀σ H Q,t' σ H Q->t σ H Q):PW X e t':=λw pins s σ H Q I q=>h w pins s σ H Q I<|i σ H Q q
def PA.imp{t t':TA}(h:PA X e t)(i:∀σ H Q,t' σ H Q->t σ H Q):PA X e t':=λp pins s σ H Q I q=>h p pins s σ H Q I<|i σ H Q q
def AW.at{c:Te}(h:AW X e c):AT X e c:=h _
abbrev A.jf:A->Bool
 | .unb=>true
 | _=>false
abbrev gA (i:Nat):Ex:=λτ S=>if (τ.getD i .unb).jf then .no else .ok (τ.getD i .unb) S
abbrev eC (a:A):Ex:=λ_ S=>.ok a S
section
variable {X:Cx}{pos:Pos}{a b:aC}
def gu(i:Nat){x:Str}(J:X.N[i]?=some x<|>ε)(hv:Kh X.env.scope x:=by first|exact Or.inl rfl|exact Or.inr (Or.inl rfl)|exact Or.inr<|Or.inr rfl)(hd:(x == ("__debug__" : Str))=false:=by decide)
  (j:(x == ("__classdict__" : Str))=false:=by decide):AE X (.Name x pos) (gA i):=PE.imp (Cv J hv hd j) λσ H Q h9=>by
 z_go;unfold gA at h
 cases hi:τ[i]? with
 | none=>
  rw[aM,hi]at h;exact h.elim
 | some x=>
  rw[aM,hi]at h
  rcases r.at i x hi with z|⟨v,e,q⟩
  ·subst z;exact h.elim
  ·refine⟨v,e,?_⟩
   cases x<;>first|(exact h ρ H v .refl R q)|exact h.elim
def gD{i:Int}{j pos}:AE X (.Constant (.int i) j pos) (eC<|.int i):=PE.imp JF λσ H Q ⟨ρ,S,τ,R,r,h⟩=>h ρ H _ .refl R<|.int i
def r9{j pos}:AE X (.Constant (.bool i) j pos) (eC<|.bl i):=PE.imp KD λσ H Q ⟨ρ,S,τ,R,r,h⟩=>h ρ H _ .refl R<|.bl i
def gW{x:Str}{j pos}:AE X (.Constant (.str x) j pos) (eC<|.str x):=PE.imp Hx λσ H Q ⟨ρ,S,τ,R,r,h⟩=>h ρ H _ .refl R<|.str x
def nY{x:Str}{i:Int}(j:X.mg x=some (.int i t))(hg:Gl X x<|>ε)(hd:(x == ("__debug__" : Str))=false<|>δ):AE X (.Name x pos) (eC<|.int i):=
 PE.imp (yx (v:=.int i) hg j ⟨t,rfl⟩ hd) λσ H Q ⟨ρ,S,τ,R,r,h⟩=>h ρ H _ .refl R<|.int i
abbrev gI (f:A->A->gE->R A)(ca cb:Ex):Ex:=λτ S=>(ca τ S).bind λa S1=>(cb τ S1).bind λb c=>f a b c
abbrev r2 (X:Cx)(f:A->A->gE->R A):R2:=λx y H Q=>∃ρ S a b,Rel X.K ρ H S/\AV X.K ρ H a x/\AV X.K ρ H b y/\(f a b S).post (pS X ρ H Q) (XE X ρ H)
abbrev r1 (X:Cx)(f:A->gE->R A):V->Hp->VK->Prop:=λx H Q=>∃ρ S a,Rel X.K ρ H S/\AV X.K ρ H a x/\(f a S).post (pS X ρ H Q) (XE X ρ H)
abbrev rN (X:Cx)(f:ae->gE->R A):List V->Hp->VK->Prop:=λxs H Q=>∃ρ S c,Rel X.K ρ H S/\AVs X.K ρ H c xs/\(f c S).post (pS X ρ H Q) (XE X ρ H)
def jh.imp{f:aa->aa->Sem aa}{r j:R2}(h:jh X f r)(i:∀x y H Q,j x y H Q->r x y H Q):jh X f j:=λpins s σ H x y v u Q I rx ry q=>h pins s σ H x y v u Q I rx ry<|i _ _ _ _ q
def g7.imp{f:aa}{r j:List V->Hp->VK->Prop}(h:g7 X f r)(i:∀x H Q,j x H Q->r x H Q):g7 X f j:=λpins s σ H x v Q I rx q=>h pins s σ H x v Q I rx<|i _ _ _ q
def pY{f:A->A->gE->R A}{ca cb:Ex}{H:Hp}{Q:VK}(h:tE X (gI f ca cb) σ H Q):K1 (r2 X f) (tE X ca) (tE X cb) σ H Q:=by
 kcj_m;refine⟨ρ,S,τ,R,r,gB (gG h) .refl λa S1 h1 ρ1 H1 x e1 R1 k=>⟨ρ1,S1,τ,R1,r.ext e1,gB (gG h1) e1 λb e m d H2 y e2 R2 g=>?_⟩⟩;exact⟨d,e,a,b,R2,k.ext e2,g,gB m (e1.trans e2) λc p j=>j.ext<|e1.trans e2⟩
def gR{f:A->A->gE->R A}{ca cb:Ex}(j:jh X (binaryOp op)<|r2 X f)(J:AE X a ca)(L:AE X b cb):AE X (.BinOp a op b pos) (gI f ca cb):=
 PE.imp (Lo j J L) λσ H Q h=>pY h
def lO{j:CmpOp}{f:A->A->gE->R A}{ca cb:Ex}(J:jh X (compareOp j)<|r2 X f)(L:AE X a ca)(M:AE X b cb)(U:behindInMarks j b=false:=by first|exact B_ _|with_unfolding_all rfl):AE X (.Compare a [j] [b] pos) (gI f ca cb):=
 PE.imp (FF J L M U) λσ H Q h=>pY h
abbrev A.AB:A->gE->bn
 | .non,_=>some false
 | .bl b,_=>some b
 | .int i,_=>some (i != 0)
 | .str x,_=>if x.length<=sizeLine then some ((x.length:Int) != 0)else none
 | .tup xs,_=>some (!xs.isEmpty)
 | .frz xs,_=>some (!xs.isEmpty)
 | .ref n,S=>(gH S n).map λxs=>!xs.isEmpty
 | _,_=>none
abbrev k7 (c:Ex):Te:=λτ S=>(c τ S).bind λa S1=>opt (a.AB S1) λb=>.ok b S1
abbrev nK (c:Ex):Te:=λτ S=>(c τ S).bind λa S1=>match a with
 | .bl b=>.ok b S1
 | _=>.no
def sH{K:aq}{H:Hp}{b:Bool}{v:V}(h:AV K ρ H (.bl b) v):v=.bl b:=by cases h;rfl
def ig{j:CmpOp}{f:A->A->gE->R A}{ca cb:Ex}(J:jh X (compareOp j)<|r2 X f)(L:AE X a ca)(M:AE X b cb)(U:behindInMarks j b=false:=by first|exact B_ _|with_unfolding_all rfl):AT X (.Compare a [j] [b] pos) (nK<|gI f ca cb):=
 PT.imp (FG J L M U) λσ H Q h9=>by
  z_go;refine pY ⟨ρ,S,τ,R,r,gB (gG h) .refl λc S1 h1 ρ1 H1 x e1 R1 d=>?_⟩
  cases c with
  | bl k=>cases sH d;exact⟨k,rfl,h1 ρ1 H1 e1 R1⟩
  | _=>exact h1.elim
def IQ{K:aq}{H:Hp}{x:A}{v:V}{b:Bool}(R:Rel K ρ H S)(h:AV K ρ H x v)(e:x.AB S=some b):J5 K v H b:=by
 have c:∀{xs:ae} {d:List V},AVs K ρ H xs d->(!xs.isEmpty)=!d.isEmpty:=λr=>by cases r<;>rfl
 cases h with
 | non=>exact(aX e).symm
 | bl b=>exact(aX e).symm
 | int i=>exact(aX e).symm
 | str x=>
  by_cases f:x.length<=sizeLine
  ·exact⟨f,by have:=(aJ f).symm.trans e;exact(aX this).symm⟩
  ·have:=(aI f).symm.trans e;cases this
 | tup h r=>exact .inr (.inl ⟨_,jT.of h,by rw[<- c r];exact(aX e).symm⟩)
 | frz h r=>exact .inl ⟨_,h.Ho,by rw[<- c r];exact(aX e).symm⟩
 | rng h=>cases e
 | ty n=>cases e
 | exn n h x=>cases e
 | ktu h r=>cases e
 | @ref a n h=>
  have e:(gH S n).map (λxs=>!xs.isEmpty)=some b:=e;obtain⟨xs,hn,e⟩:=bx.mp e;obtain⟨d,h1,g⟩:=R.lst h<|gU hn;exact .inl ⟨d,kr.of h1,by rw[<- c g];exact e.symm⟩
def iG{ca:Ex}(j:AE X a ca)(J:(∀whole,isTrue a X.env whole=(do let v <- whole;standAt a.pos;holding [v] (truthy v)))<|>ζ):AT X a (k7 ca):=
 PT.imp (Dh j J) λσ H Q ⟨ρ,S,τ,R,r,h⟩=>⟨ρ,S,τ,R,r,gB (gG h) .refl λc S1 h1 ρ1 H1 x e1 R1 d=>by
  obtain⟨b,e,h1⟩:=gT h1;exact⟨b,IQ R1 d e,h1 ρ1 H1 e1 R1⟩⟩
abbrev oG (c:Te):Te:=λτ S=>(c τ S).bind λb S1=>.ok (!b) S1
abbrev Ct (c d:Te):Te:=λτ S=>(c τ S).bind λb S1=>match b with|true=>d τ S1|false=>.ok false S1
abbrev B9 (c d:Te):Te:=λτ S=>(c τ S).bind λb S1=>match b with|true=>.ok true S1|false=>d τ S1
def jA{c:Te}(h:AT X a c):AT X (.UnaryOp .Not a pos) (oG c):=PT.imp (Iz h) λσ H Q ⟨ρ,S,τ,R,r,h⟩=>⟨ρ,S,τ,R,r,gB (gG h) .refl λb S1 h1=>h1⟩
def and_imp{c d:Te}{H:Hp}{Q:Bool->Hp->Prop}(h:tT X (Ct c d) σ H Q):K3 (tT X c) (tT X d) σ H Q:=by
 kcj_m;refine⟨ρ,S,τ,R,r,gB (gG h) .refl λb S1 h1 ρ1 H1 e1 R1=>?_⟩
 cases b with
 | true=>
  rw[aJ rfl];kcf_m
 | false=>
  rw[aI bE];exact h1 ρ1 H1 e1 R1
def or_imp{c d:Te}{H:Hp}{Q:Bool->Hp->Prop}(h:tT X (B9 c d) σ H Q):NO (tT X c) (tT X d) σ H Q:=by
 kcj_m;refine⟨ρ,S,τ,R,r,gB (gG h) .refl λb S1 h1 ρ1 H1 e1 R1=>?_⟩
 cases b with
 | false=>
  rw[aI bE];kcf_m
 | true=>
  rw[aJ rfl];exact h1 ρ1 H1 e1 R1
variable {rest:List aC}
def zI{c:Te}(h:AT X a c):AW X (.BoolOp .And [a] pos) c:=FI h
def oK{c:Te}(h:AT X a c):AW X (.BoolOp .Or [a] pos) c:=H_ h
def CZ{c d:Te}(h:AT X a c)(j:AW X (.BoolOp .And (b::rest) pos) d):AW X (.BoolOp .And (a::b::rest) pos) (Ct c d):=PW.imp (Ir h j) λ_ _ _ q=>and_imp q
def pB{c d:Te}(h:AT X a c)(j:AW X (.BoolOp .Or (b::rest) pos) d):AW X (.BoolOp .Or (a::b::rest) pos) (B9 c d):=PW.imp (Lj h j) λ_ _ _ q=>or_imp q
abbrev xJ (c d:Ex):Ex:=λτ S=>(c τ S).bind λa S1=>match a with | .bl true=>d τ S1 | .bl false=>.ok (.bl false) S1|_=>.no
abbrev N4 (c d:Ex):Ex:=λτ S=>(c τ S).bind λa S1=>match a with | .bl true=>.ok (.bl true) S1 | .bl false=>d τ S1|_=>.no
abbrev Jg (c:Ex):Ex:=λτ S=>(c τ S).bind λa S1=>match a with | .bl b=>.ok (.bl !b) S1|_=>.no
def wF{op}{c:Ex}(h:AE X a c):AE X (.BoolOp op [a] pos) c:=J_ h
def wz{c d:Ex}(h:AE X a c)(j:AE X (.BoolOp .And (b::rest) pos) d):AE X (.BoolOp .And (a::b::rest) pos) (xJ c d):=PE.imp (Js h j) λσ H Q h9=>by
 z_go;refine⟨ρ,S,τ,R,r,gB (gG h) .refl λb S1 h1 ρ1 H1 x e1 R1 e=>?_⟩
 cases b with
 | bl k=>
  cases sH e
  refine⟨k,rfl,?_⟩
  cases k with
  | true=>
   rw[aJ rfl];kcf_m
  | false=>
   rw[aI bE];exact h1 ρ1 H1 _ e1 R1<|.bl false
 | _=>exact h1.elim
def HV{c:Ex}(h:AE X a c):AE X (.UnaryOp .Not a pos) (Jg c):=PE.imp (JN h) λσ H Q h9=>by
 z_go;refine⟨ρ,S,τ,R,r,gB (gG h) .refl λb S1 h1 ρ1 H1 x e1 R1 d=>?_⟩
 cases b with
 | bl k=>
  cases sH d
  exact⟨k,rfl,h1 ρ1 H1 _ e1 R1<|.bl _⟩
 | _=>exact h1.elim
abbrev xh (t:Te)(c d:Ex):Ex:=λτ S=>(t τ S).bind λb S1=>match b with|true=>c τ S1|false=>d τ S1
def mP{t:Te}{c d:Ex}(j:AT X e t)(J:AE X a c)(L:AE X b d):AE X (.IfExp e a b pos) (xh t c d):=PE.imp (BY j J L) λσ H Q h9=>by
 z_go;refine⟨ρ,S,τ,R,r,gB (gG h) .refl λb S1 h1 ρ1 H1 e1 R1=>?_⟩
 cases b with
 | true=>
  rw[aJ rfl];kcf_m
 | false=>
  rw[aI bE];kcf_m
abbrev gM:kq:=λ_ S=>.ok [] S
abbrev gz (c:Ex)(d:kq):kq:=λτ S=>(c τ S).bind λa S1=>(d τ S1).bind λf e=>.ok (a::f) e
def gK:AL X [] gM:=PA.imp qF λσ H Q ⟨ρ,S,τ,R,r,h⟩=>h ρ H _ .refl R .nil
def gC{c:Ex}{d:kq}(J:AE X e c)(L:AL X es d)(hs:starEach (e::es) X.env=(false,eval e X.env)::starEach es X.env<|>ε):AL X (e::es) (gz c d):=
 PA.imp (kR J L hs) λσ H Q h9=>by
  z_go;refine⟨ρ,S,τ,R,r,gB (gG h) .refl λa S1 h1 ρ1 H1 x e1 R1 j=>⟨ρ1,S1,τ,R1,r.ext e1,gB (gG h1) e1 λp m k f H2 xs e2 R2 g=>?_⟩⟩;exact k f H2 _ (e1.trans e2) R2<|.cons (j.ext e2) g
abbrev Di (d:kq):Ex:=λτ S=>(d τ S).bind λc S1=>gd (c.length<=sizeLine)<|.ok (.tup c) S1
abbrev newL (j:ae)(S:gE):R A:=gd (j.length<=sizeLine)<|.ok (.ref S.length)<|S++[.lst j]
abbrev mj (d:kq):Ex:=λτ S=>(d τ S).bind λc S1=>newL c S1
def pT{H j:Hp}{Q:VK}(R:Rel X.K ρ H S)(r:AVs X.K ρ H as vs)(e:Ext ρ0 ρ j H)(h:pS X ρ0 j Q (.tup as) S):∀p,H p=none->Q (.ref p) (upd H p<|.tup vs):=λp d=>by
 obtain⟨ex,c⟩:=R.im (u:=.tup vs) d;exact h ρ _ _ (e.trans ex) c<|.tup jn<|r.ext ex
def i_{H j:Hp}{S:gE}{Q:VK}(R:Rel X.K ρ H S)(r:AVs X.K ρ H as vs)(e:Ext ρ0 ρ j H)(h:pS X ρ0 j Q (.ref S.length)<|S++[.lst as]):∀p,H p=none->Q (.ref p) (upd H p<|.lst vs):=λp c=>by
 obtain⟨ex,d,g⟩:=R.lay c r;exact h _ _ _ (e.trans ex) d<|.ref g
def EK{H j:Hp}{J:List V}{Q:VK}(R:Rel X.K ρ H S)(r:AVs X.K ρ H as J)(e:Ext ρ0 ρ j H)(h:(newL as S).post (pS X ρ0 j Q)<|XE X ρ0 j):J.length<=sizeLine/\∀p,H p=none->Q (.ref p) (upd H p<|.lst J):=by
 obtain⟨c,h⟩:=gQ h;exact⟨by rw[<- r.length];exact c,i_ R r e h⟩
def wm{d:kq}{x1}(h:AL X es d):AE X (.Tuple es x1 pos) (Di d):=PE.imp (IW h) λσ H Q h9=>by
 z_go;refine⟨ρ,S,τ,R,r,gB (gG h) .refl λf S1 h1 ρ1 H1 xs e1 R1 c=>?_⟩;obtain⟨e,h1⟩:=gQ h1;exact⟨by rw[<- c.length];exact e,pT R1 c e1 h1⟩
def ju{d:kq}(h:AL X es d):AE X (.List es pos) (mj d):=PE.imp (I0 h) λσ H Q ⟨ρ,S,τ,R,r,h⟩=>
 ⟨ρ,S,τ,R,r,gB (gG h) .refl λe S1 h1 ρ1 H1 xs e1 R1 c=>EK R1 c e1 h1⟩
end
section
variable {X:Cx}{pos:Pos}{a b:aC}
abbrev aSub (a b:A)(S:gE):R A:=match a,b with
 | .int i,.int j=>.ok (.int<|i-j) S
 | _,_=>.no
def DM:jh X (binaryOp .Sub) (r2 X aSub):=jh.imp JJ λx y H Q h9=>by
 x_go
 cases va<;>first|exact h.elim|(cases vb<;>first|exact h.elim|exact⟨_,_,rfl,rfl,h _ _ _ .refl R<|.int _⟩)
abbrev vY (i j:Int):Bool:=(decide (-(2 ^ 64)<i) && decide (i<2 ^ 64)) || (decide (-(2 ^ 64)<j) && decide (j<2 ^ 64))
def mulOk_of{i j:Int}(h:vY i j=true):ET i j:=by
 unfold vY at h;dsimp[fM,cN,d8]at h;exact h
abbrev j3 (a b:A)(S:gE):R A:=match a,b with
 | .int i,.int j=>gd (vY i j) (.ok (.int<|i * j) S)
 | .ref n,.int k=>opt (gH S n) λxs=>gd (-(2 ^ 63)<=k/\k<2 ^ 63/\xs.length * k.toNat<=sizeLine) (.ok (.ref S.length)<|S++[.lst (List.replicate k.toNat xs).flatten])
 | _,_=>.no
theorem AVs.rep{K:aq}{H:Hp}(r:AVs K ρ H xs vs):∀k:Nat,AVs K ρ H (List.replicate k xs).flatten (List.replicate k vs).flatten
 | 0=>.nil
 | k+1=>by rw[cF,cF,dz,dz];exact r.append<|AVs.rep r k
def pH:jh X (binaryOp .Mult) (r2 X j3):=λpins s σ H x y v u Q I rx ry h9=>by
 x_go
 cases va with
 | int i=>
  cases vb with
  | int j=>
   obtain⟨e,h⟩:=gQ h;exact HS pins s σ H _ _ v u Q I rx ry ⟨i,j,rfl,rfl,mulOk_of e,h _ _ _ .refl R<|.int _⟩
  | _=>exact h.elim
 | @ref p n f=>
  cases vb with
  | int k=>
   kst_p;obtain⟨hc,h⟩:=gQ h;obtain⟨d,h1,c⟩:=R.lst f<|gU hn;exact HD pins s σ H _ _ v u Q I rx ry ⟨p,k,d,rfl,rfl,h1,hc.1,hc.2.1,by rw[<- c.length];exact hc.2.2,i_ R (c.rep _) .refl h⟩
  | _=>exact h.elim
 | _=>exact h.elim
abbrev pI (a b:A)(S:gE):R A:=match a,b with
 | .int i,.int j=>gd (0<j) (.ok (.int<|i % j) S)
 | _,_=>.no
def sC:jh X (binaryOp .Mod) (r2 X pI):=jh.imp Jf λx y H Q h9=>by
 x_go
 cases va<;>first|exact h.elim|(cases vb<;>first|exact h.elim|exact⟨_,_,rfl,rfl,(gQ h).1,(gQ h).2 _ _ _ .refl R<|.int _⟩)
abbrev z_ (a b:A)(S:gE):R A:=match a,b with
 | .int i,.int j=>gd (0<=j/\j<=1000000/\i.natAbs<2 ^ 64) (.ok (.int<|i ^ j.toNat) S)
 | _,_=>.no
def GD:jh X (binaryOp .Pow) (r2 X z_):=jh.imp Ib λx y H Q h9=>by
 x_go
 cases va<;>first|exact h.elim|(cases vb<;>first|exact h.elim|exact⟨_,_,rfl,rfl,(gQ h).1,(gQ h).2 _ _ _ .refl R<|.int _⟩)
abbrev iE (a b:A)(S:gE):R A:=match a,b with
 | .int i,.int j=>.ok (.int<|i+j) S
 | .tup xs,.tup ys=>gd (xs.length+ys.length<=sizeLine) (.ok (.tup<|xs++ys) S)
 | .str x,.str y=>gd (x.length+y.length<=sizeLine) (.ok (.str<|x++y) S)
 | .ref n,.ref m=>opt (gH S n) λxs=>opt (gH S m) λys=>gd (xs.length+ys.length<=sizeLine) (.ok (.ref S.length)<|S++[.lst<|xs++ys])
 | _,_=>.no
def AVs.nil_inv{K:aq}{H:Hp}(r:AVs K ρ H xs vs):xs=[] ↔ vs=[]:=by cases r<;>simp
def i8:jh X (binaryOp .Add) (r2 X iE):=λpins s σ H x y v u Q I rx ry h9=>by
 x_go
 cases va with
 | int i=>
  cases vb with
  | int j=>exact J2 pins s σ H _ _ v u Q I rx ry ⟨i,j,rfl,rfl,h _ _ _ .refl R<|.int _⟩
  | _=>exact h.elim
 | str x=>
  cases vb with
  | str y=>
   obtain⟨hc,h⟩:=gQ h;exact xG pins s σ H _ _ v u Q I rx ry ⟨x,y,rfl,rfl,hc,h _ _ _ .refl R<|.str _⟩
  | _=>exact h.elim
 | @tup p xs d h1 r1=>
  cases vb with
  | @tup q ys f c r2=>
   obtain⟨hc,h⟩:=gQ h;by_cases hv:d=[]
   ·have G:=r1.nil_inv.mpr hv;subst hv G;exact Ep pins s σ H _ _ v u Q I rx ry ⟨p,q,f,rfl,rfl,jT.of h1,jT.of c,h _ _ _ .refl R<|.tup c r2⟩
   ·refine Fv pins s σ H _ _ v u Q I rx ry ⟨p,q,d,f,rfl,rfl,jT.of h1,jT.of c,hv,by rw[<- r1.length,<- r2.length];exact hc,λe=>?_,λ_=>pT R (r1.append r2) .refl h⟩;have hy:=r2.nil_inv.mpr e;subst hy;rw[bO]at h;exact h _ _ _ .refl R<|.tup h1 r1
  | _=>exact h.elim
 | @ref p n k=>
  cases vb with
  | @ref q m F=>
   kst_p;obtain⟨ys,B,h⟩:=gT h;obtain⟨hc,h⟩:=gQ h;obtain⟨d,h1,c⟩:=R.lst k<|gU hn;obtain⟨f,C,g⟩:=R.lst F<|gU B;exact Hv pins s σ H _ _ v u Q I rx ry ⟨p,q,d,f,rfl,rfl,h1,C,by rw[<- c.length,<- g.length];exact hc,i_ R (c.append g) .refl h⟩
  | _=>exact h.elim
 | _=>exact h.elim
abbrev A.ints:ae->Option (ag)
 | []=>some []
 | .int i::xs=>(A.ints xs).map (i::·)
 | _=>none
def Jh{x:A}{bs:ag}(e:A.ints (x::xs)=some bs):∃b cs,x=.int b/\A.ints xs=some cs/\bs=b::cs:=by
 unfold A.ints at e;split at e
 ·rename_i z;cases z
 ·rename_i i ys z
  cases z
  obtain⟨cs,h1,c⟩:=bx.mp e;exact⟨i,cs,rfl,h1,c.symm⟩
 ·cases e
def E1{K:aq}{H:Hp}:∀{xs:ae}{vs:List V}{bs:ag},AVs K ρ H xs vs->A.ints xs=some bs->vs=bs.map V.int:=by
 intro xs
 induction xs with
 | nil=>
  intro vs bs h e
  cases h
  cases e
  rfl
 | cons x xs c=>
  intro vs bs h e;obtain⟨b,d,rfl,e1,rfl⟩:=Jh e
  cases h with
  | cons h t=>
   cases h
   rw[c t e1];rfl
abbrev Kr (a b:A)(S:gE):R A:=match a,b with
 | .int i,.int j=>.ok (.bl<|decide<|i<j) S
 | _,_=>.no
def Gf(J:X.A.units+64<cLine):jh X (compareOp .Lt) (r2 X Kr):=λpins s σ H x y v u Q I rx ry h9=>by
 x_go
 cases va with
 | int i=>
  cases vb with
  | int j=>exact Lx pins s σ H _ _ v u Q I rx ry ⟨i,j,rfl,rfl,h _ _ _ .refl R<|.bl _⟩
  | _=>exact h.elim
 | _=>exact h.elim
abbrev FN (a b:A)(S:gE):R A:=match a,b with
 | .int i,.int j=>.ok (.bl<|decide<|i<=j) S
 | _,_=>.no
def F0:jh X (compareOp .LtE) (r2 X FN):=jh.imp Lz λx y H Q h9=>by
 x_go
 cases va<;>first|exact h.elim|(cases vb<;>first|exact h.elim|exact⟨_,_,rfl,rfl,h _ _ _ .refl R<|.bl _⟩)
abbrev Mp (a b:A)(S:gE):R A:=match a,b with
 | .int i,.int j=>.ok (.bl<|decide<|j<i) S
 | _,_=>.no
theorem Li(J:X.A.units+64<cLine):jh X (compareOp .Gt) (r2 X Mp):=λpins s σ H x y v u Q I rx ry h9=>by
 x_go
 cases va with
 | int i=>
  cases vb with
  | int j=>exact KY pins s σ H _ _ v u Q I rx ry ⟨i,j,rfl,rfl,h _ _ _ .refl R<|.bl _⟩
  | _=>exact h.elim
 | _=>exact h.elim
abbrev LZ (a b:A)(S:gE):R A:=match a,b with
 | .int i,.int j=>.ok (.bl<|decide<|j<=i) S
 | _,_=>.no
def LK:jh X (compareOp .GtE) (r2 X LZ):=jh.imp KI λx y H Q h9=>by
 x_go
 cases va<;>first|exact h.elim|(cases vb<;>first|exact h.elim|exact⟨_,_,rfl,rfl,h _ _ _ .refl R<|.bl _⟩)
abbrev GA (J:Bool)(a b:A)(S:gE):R A:=match a,b with
 | .bl i,.bl j=>.ok (.bl<|if J then i != j else i == j) S
 | .non,.non=>.ok (.bl<|!J) S
 | .unb,.non=>.no
 | .exn _,.non=>.no
 | _,.non=>.ok (.bl J) S
 | _,_=>.no
abbrev Kq (f:A->gE->R A)(c:Ex):Ex:=λτ S=>(c τ S).bind λa S1=>f a S1
abbrev wV (a:A)(S:gE):R A:=match a with
 | .int i=>.ok (.int<|-i) S
 | _=>.no
def LP:Me X (unaryOp .USub) (r1 X wV):=λpins s σ H x v Q I rx h9=>by
 obtain⟨ρ,S,a,R,va,h⟩:=h9
 cases va with
 | int i=>exact J7 pins s σ H _ v Q I rx ⟨i,rfl,h _ _ _ .refl R<|.int _⟩
 | _=>exact h.elim
def Iq{f:A->gE->R A}{c:Ex}{H:Hp}{Q:VK}(h:tE X (Kq f c) σ H Q):NR (r1 X f) (tE X c) σ H Q:=by
 kcj_m;exact⟨ρ,S,τ,R,r,gB (gG h) .refl λa S1 h1 ρ1 H1 x e1 R1 e=>⟨ρ1,S1,a,R1,e,gB h1 e1 λc g d=>d.ext e1⟩⟩
def Ec{c:Ex}(h:AE X a c):AE X (.UnaryOp .USub a pos) (Kq wV c):=PE.imp (KN LP h) λ_ _ _ q=>Iq q
abbrev mX (a b:A)(S:gE):R A:=match a,b with
 | .tup xs,.int i=>opt (k9 xs i) λx=>.ok x S
 | .frz xs,.int i=>opt (k9 xs i) λx=>.ok x S
 | .ref n,.int i=>opt (gH S n) λxs=>opt (k9 xs i) λx=>.ok x S
 | .str z,.int i=>gd (z.length<=sizeLine) (opt (k9 z.cps.toList i) λc=>.ok (.str ⟨#[c]⟩) S)
 | _,_=>.no
def AVs.k9{K:aq}{H:Hp}{i:Int}{x:A}(r:AVs K ρ H xs vs)(h:L2.k9 xs i=some x):∃v,L2.k9 vs i=some v/\AV K ρ H x v:=by
 unfold L2.k9 at h ⊢;rw[<- r.length]
 cases c:ye xs.length i with
 | none=>rw[c]at h;cases h
 | some j=>
  rw[c]at h;exact r.get h
def LL:K8 X (r2 X mX):=λd f pins s σ H x y v u Q I rx ry ⟨ρ,S,a,b,R,va,vb,h⟩ hs=>by
 cases va with
 | @tup p xs g h1 r1=>
  cases vb with
  | int i=>
   obtain⟨x,j,h⟩:=gT h;obtain⟨z,e,q⟩:=r1.k9 j;exact JK d f pins s σ H _ _ v u Q I rx ry ⟨p,g,i,z,rfl,rfl,jT.of h1,e,h _ _ _ .refl R q⟩ hs
  | _=>exact h.elim
 | @frz p xs g h1 r1=>
  cases vb with
  | int i=>
   obtain⟨x,j,h⟩:=gT h;obtain⟨z,e,q⟩:=r1.k9 j;exact yY d f pins s σ H _ _ v u Q I rx ry ⟨p,g,i,z,rfl,rfl,h1.Ho,e,h _ _ _ .refl R q⟩ hs
  | _=>exact h.elim
 | @ref p n k=>
  cases vb with
  | int i=>
   kst_p;obtain⟨x,j,h⟩:=gT h;obtain⟨g,h1,r1⟩:=R.lst k<|gU hn;obtain⟨z,e,q⟩:=r1.k9 j;exact yY d f pins s σ H _ _ v u Q I rx ry ⟨p,g,i,z,rfl,rfl,kr.of h1,e,h _ _ _ .refl R q⟩ hs
  | _=>exact h.elim
 | str z=>
  cases vb with
  | int i=>
   obtain⟨m,h⟩:=gQ h;obtain⟨c,hc,h⟩:=gT h;exact Ht d f pins s σ H _ _ v u Q I rx ry ⟨z,i,c,rfl,rfl,m,hc,h _ _ _ .refl R<|.str _⟩ hs
  | _=>exact h.elim
 | _=>exact h.elim
def iH{ca cb:Ex}(j:AE X a ca)(J:AE X b cb)(hs:yH b<|>θ):AE X (.Subscript a b pos) (gI mX ca cb):=PE.imp (LB LL j J hs) λσ H Q h=>pY h
end
abbrev oS (f:A->A->bn):ae->ae->bn
 | [],[]=>some true
 | x::xs,y::ys=>(f x y).bind λp=>(oS f xs ys).map λq=>p && q
 | _,_=>some false
inductive Sh
 | non
 | bl (b:Bool)
 | int (i:Int)
 | str (x:Str)
 | tup (xs:ae)
 | lst
abbrev J6 (S:gE):A->Option Sh
 | .non=>some .non
 | .bl b=>some (.bl b)
 | .int i=>some (.int i)
 | .str x=>some (.str x)
 | .tup xs=>some (.tup xs)
 | .ref i=>(gH S i).map λ_=>.lst
 | _=>none
abbrev Ff (f:A->A->bn):Sh->Sh->bn
 | .non,.non=>some true
 | .bl x,.bl y=>some (x == y)
 | .bl x,.int y=>some ((if x then 1 else 0) == y)
 | .int x,.bl y=>some (x == (if y then 1 else 0))
 | .int x,.int y=>some (x == y)
 | .str x,.str y=>some (x == y)
 | .tup xs,.tup ys=>oS f xs ys
 | .lst,.lst=>none
 | _,_=>some false
abbrev qZ (S:gE):Nat->A->A->bn
 | 0,_,_=>none
 | n+1,a,b=>match a,b with
  | .ref i,.ref j=>(gH S i).bind λxs=>(gH S j).bind λys=>oS (qZ S n) xs ys
  | _,_=>(J6 S a).bind λx=>(J6 S b).bind λy=>Ff (qZ S n) x y
section
variable {X:Cx}{pins:bp}{σ:L2.St}{H:Hp}{s:aA}{ρ:bb}{S:gE}
inductive KdV (s:aA):Sh->aa->Prop
 | non:KdV s .non .none
 | bl (b:Bool):KdV s (.bl b) (.bool b)
 | int (i:Int) (t:Tok):KdV s (.int i) (.int i t)
 | str (x:Str) (t:Tok):KdV s (.str x) (.str x t)
 | tup {p:aj} {us:ba} (xs:ae) (h:s.heap.IsTuple p us.toArray):KdV s (.tup xs) (.ref p)
 | lst {p:aj} {us:ba} (h:s.heap.IsList p us.toArray):KdV s .lst<|.ref p
def yv{p:aj}(h:s.heap.IsTuple p us)(h':s.heap.IsList p ws):False:=by
 obtain⟨o,e,c,_⟩:=h;obtain⟨o',d,f,_⟩:=h';rw[e]at d
 cases d
 exact absurd (c.symm.trans f) ⋯
def zf(I:Inv X pins σ H s)(R:Rel X.K ρ H S){a:A}{x:V}(j:AV X.K ρ H a x)(r:RelV x u)(e:J6 S a=some h):KdV s h u:=by
 cases j with
 | non=>cases e;cases(show u=Value.none from r);exact .non
 | bl b=>cases e;cases(show u=Value.bool b from r);exact .bl b
 | int i=>cases e;obtain⟨t,rfl⟩:∃t,u=Value.int i t:=r;exact .int i t
 | str i=>cases e;obtain⟨t,rfl⟩:∃t,u=Value.str i t:=r;exact .str i t
 | tup h1 r1=>cases e;cases(show u=Value.ref _ from r);obtain⟨us,_,p,_⟩:=I.tuple<|jT.of h1;exact .tup _ p
 | ref h1=>
  obtain⟨xs,e1,rfl⟩:=bx.mp e
  cases(show u=Value.ref _ from r)
  obtain⟨d,c,r1⟩:=R.lst h1<|gU e1;obtain⟨us,_,p,_⟩:=I.list<|kr.of c;exact .lst p.isList
 | _=>cases e
abbrev Al (B:az)(s:aA)(u v:aa)(k:Bool):Prop:=SeqAt.RcAt B s u v k/\SeqAt.EqAt B s u v k/\SeqAt.RcNeAt B s u v (!k)
def L4{B:az}(J:B.units<cLine){f:A->A->bn}{v:aa}{k:Bool}(d:KdV s h u)(d':KdV s h' v)(L:∀xs ys,h=.tup xs->h'≠.tup ys)(e:Ff f h h'=some k):Al B s u v k:=by
 cases d with
 | non=>cases d' with
  | non=>cases e;exact⟨.none_none,.same _,.none_none⟩
  | bl b=>cases e;exact⟨.none_bool _,.none_bool _,.none_bool _⟩
  | int i t=>cases e;exact⟨.none_int _ _,.none_int _ _,.none_int _ _⟩
  | str x t=>cases e;exact⟨.none_str _ _,.none_str _ _,.none_str _ _⟩
  | tup xs p=>cases e;exact⟨.none_tuple p J,.none_tuple p J,.none_tuple p J⟩
  | lst p=>cases e;exact⟨.none_list p J,.none_list p J,.none_list p J⟩
 | bl c=>cases d' with
  | non=>cases e;exact⟨.bool_none _,.bool_none _,.bool_none _⟩
  | bl b=>cases e;exact⟨.bool_bool _ _,.bool_bool _ _,.bool_bool _ _⟩
  | int i t=>cases e;exact⟨.bool_int _ _ _,.bool_int _ _ _,.bool_int _ _ _⟩
  | str x t=>cases e;exact⟨.bool_str _ _ _,.bool_str _ _ _,.bool_str _ _ _⟩
  | tup xs p=>cases e;exact⟨.bool_tuple _ p J,.bool_tuple _ p J,.bool_tuple _ p J⟩
  | lst p=>cases e;exact⟨.bool_list _ p J,.bool_list _ p J,.bool_list _ p J⟩
 | int c j=>cases d' with
  | non=>cases e;exact⟨.int_none _ _,.int_none _ _,.int_none _ _⟩
  | bl b=>cases e;exact⟨.int_bool _ _ _,.int_bool _ _ _,.int_bool _ _ _⟩
  | int i t=>cases e;exact⟨.int_int _ _ _ _,.int_int _ _ _ _,.int_int _ _ _ _⟩
  | str x t=>cases e;exact⟨.int_str _ _ _ _,.int_str _ _ _ _,.int_str _ _ _ _⟩
  | tup xs p=>cases e;exact⟨.int_tuple _ _ p J,.int_tuple _ _ p J,.int_tuple _ _ p J⟩
  | lst p=>cases e;exact⟨.int_list _ _ p J,.int_list _ _ p J,.int_list _ _ p J⟩
 | str c j=>cases d' with
  | non=>cases e;exact⟨.str_none _ _,.str_none _ _,.str_none _ _⟩
  | bl b=>cases e;exact⟨.str_bool _ _ _,.str_bool _ _ _,.str_bool _ _ _⟩
  | int i t=>cases e;exact⟨.str_int _ _ _ _,.str_int _ _ _ _,.str_int _ _ _ _⟩
  | str x t=>cases e;exact⟨.str_str _ _ _ _,.str_str _ _ _ _,.str_str _ _ _ _⟩
  | tup xs p=>cases e;exact⟨.str_tuple _ _ p J,.str_tuple _ _ p J,.str_tuple _ _ p J⟩
  | lst p=>cases e;exact⟨.str_list _ _ p J,.str_list _ _ p J,.str_list _ _ p J⟩
 | tup zs g=>cases d' with
  | non=>cases e;exact⟨.tuple_none g J,.tuple_none g J,.tuple_none g J⟩
  | bl b=>cases e;exact⟨.tuple_bool _ g J,.tuple_bool _ g J,.tuple_bool _ g J⟩
  | int i t=>cases e;exact⟨.tuple_int _ _ g J,.tuple_int _ _ g J,.tuple_int _ _ g J⟩
  | str x t=>cases e;exact⟨.tuple_str _ _ g J,.tuple_str _ _ g J,.tuple_str _ _ g J⟩
  | tup xs p=>exact absurd rfl (L _ _ rfl)
  | lst p=>cases e;exact⟨.tuple_list g p J,.of_refs (λz=>by subst z;exact yv g p)<|.tuple_list g p J,.tuple_list g p J⟩
 | lst g=>cases d' with
  | non=>cases e;exact⟨.list_none g J,.list_none g J,.list_none g J⟩
  | bl b=>cases e;exact⟨.list_bool _ g J,.list_bool _ g J,.list_bool _ g J⟩
  | int i t=>cases e;exact⟨.list_int _ _ g J,.list_int _ _ g J,.list_int _ _ g J⟩
  | str x t=>cases e;exact⟨.list_str _ _ g J,.list_str _ _ g J,.list_str _ _ g J⟩
  | tup xs p=>cases e;exact⟨.list_tuple g p J,.of_refs (λz=>by subst z;exact yv p g)<|.list_tuple g p J,.list_tuple g p J⟩
  | lst p=>cases e
def t7{a:A}{x:V}(h:AV X.K ρ H a x)(e:J6 S a=some (.tup xs)):a=.tup xs/\∃p vs,x=.ref p/\H p=some (.tup vs)/\AVs X.K ρ H xs vs:=by
 cases h with
 | tup h r=>cases e;exact⟨rfl,_,_,rfl,h,r⟩
 | ref h=>obtain⟨_,_,z⟩:=bx.mp e;cases z
 | _=>cases e
def um{i:Nat}{x:V}(h:AV X.K ρ H (.ref i) x):∃p,x=.ref p/\ρ[i]?=some p:=by
 cases h with
 | ref h=>exact⟨_,rfl,h⟩
def DU{a:A}(e:J6 S a=some .lst):∃i,a=.ref i:=by
 cases a with
 | ref i=>exact⟨i,rfl⟩
 | _=>cases e
def Bl{n:Nat}{a b:A}{k:Bool}(e:qZ S (n+1) a b=some k):(∃i j xs ys,a=.ref i/\b=.ref j/\gH S i=some xs/\gH S j=some ys/\oS (qZ S n) xs ys=some k)\/(∃h h',J6 S a=some h/\J6 S b=some h'/\Ff (qZ S n) h h'=some k/\(h=.lst->h'≠.lst)):=by
 unfold qZ at e;split at e
 ·obtain⟨xs,e1,e⟩:=cA.mp e;obtain⟨ys,e2,e⟩:=cA.mp e;exact .inl ⟨_,_,xs,ys,rfl,rfl,e1,e2,e⟩
 ·rename_i f;obtain⟨h,e1,e⟩:=cA.mp e;obtain⟨h',e2,e⟩:=cA.mp e;refine .inr ⟨h,h',e1,e2,e,λc d=>?_⟩;subst c d;obtain⟨i,rfl⟩:=DU e1;obtain⟨j,rfl⟩:=DU e2;exact f i j rfl rfl
def EM{f:A->A->bn}{k:Bool}(d:KdV s h u)(d':KdV s h' u)(j:∀xs ys,h=.tup xs->h'≠.tup ys)(e:Ff f h h'=some k):k=true:=by
 cases d with
 | non=>cases d';exact(aX e).symm
 | bl b=>cases d';exact(aX e).symm.trans (bg b)
 | int b=>cases d';exact(aX e).symm.trans (bg b)
 | str b=>cases d';exact(aX e).symm.trans (bg b)
 | tup xs p=>cases d' with
  | tup=>exact absurd rfl (j _ _ rfl)
  | lst q=>exact(yv p q).elim
 | lst p=>cases d' with
  | tup _ q=>exact(yv q p).elim
  | lst q=>cases e
def vI{f:A->A->bn}(hf:∀a b x u k,AV X.K ρ H a x->AV X.K ρ H b x->RelV x u->f a b=some k->k=true):∀{xs ys:ae}{vs:List V}{us:ba}{k:Bool},AVs X.K ρ H xs vs->AVs X.K ρ H ys vs->Vals vs us->oS f xs ys=some k->k=true:=by
 intro xs ys vs us k h1 c q e
 induction q generalizing xs ys k with
 | nil=>cases h1;cases c;exact(aX e).symm
 | cons j _ m=>
  cases h1 with
  | cons h t=>cases c with
   | cons h' d=>
    obtain⟨p,e1,e⟩:=cA.mp e;obtain⟨q,e2,g⟩:=bx.mp e;rw[<- g,hf _ _ _ _ p h h' j e1,m t d e2];rfl
def zu(h h':Sh):(∃xs ys,h=.tup xs/\h'=.tup ys)\/(∀xs ys,h=.tup xs->h'≠.tup ys):=by
 cases h with
 | tup xs=>cases h' with
  | tup ys=>exact .inl ⟨xs,ys,rfl,rfl⟩
  | _=>exact .inr λ_ _ _ z=>nomatch z
 | _=>exact .inr λ_ _ z=>nomatch z
theorem sR(I:Inv X pins σ H s)(R:Rel X.K ρ H S):∀(n:Nat) (a b:A) (x:V) (u:aa) (k:Bool),AV X.K ρ H a x->AV X.K ρ H b x->RelV x u->qZ S n a b=some k->k=true
 | 0,_,_,_,_,_,_,_,_,e=>nomatch e
 | n+1,a,b,x,u,k,ha,hb,ru,e=>by
  rcases Bl e with⟨i,j,xs,ys,rfl,rfl,e1,e2,e⟩|⟨h,h',e1,e2,e,_⟩
  ·obtain⟨p,rfl,h1⟩:=um ha;obtain⟨q,z,m⟩:=um hb
   cases z
   obtain⟨g,c,r1⟩:=R.lst h1<|gU e1;obtain⟨B,d,r2⟩:=R.lst m<|gU e2;rw[c]at d
   cases d
   obtain⟨us,q,_⟩:=I.list<|kr.of c;exact vI (λa b x u k=>sR I R n a b x u k) r1 r2 q e
  ·rcases zu h h' with⟨xs,ys,rfl,rfl⟩|f
   ·obtain⟨rfl,p,g,rfl,c,r1⟩:=t7 ha e1;obtain⟨rfl,q,B,z,d,r2⟩:=t7 hb e2
    cases z
    have:=I.rZ (jT.of c)<|jT.of d;subst this;obtain⟨us,q,_⟩:=I.tuple<|jT.of c;exact vI (λa b x u k=>sR I R n a b x u k) r1 r2 q e
   ·exact EM (zf I R ha ru e1) (zf I R hb ru e2) f e
abbrev rD (f:A->A->bn)(xs ys:ae)(j:Nat):Bool:=match xs[j]?,ys[j]? with
 | some x,some y=>(f x y).getD true
 | _,_=>true
theorem p7{f:A->A->bn}:∀{xs ys:ae}{k:Bool},oS f xs ys=some k->k=((List.range<|min xs.length ys.length).all (rD f xs ys) && xs.length == ys.length)/\∀j x y,xs[j]?=some x->ys[j]?=some y->f x y=some (rD f xs ys j)
 | [],[],k,e=>⟨(aX e).symm,λj x y h=>by simp at h⟩
 | [],_::_,k,e=>⟨(aX e).symm,λj x y h=>by simp at h⟩
 | _::_,[],k,e=>⟨(aX e).symm,λj x y _ h=>by simp at h⟩
 | x::xs,y::ys,k,e=>by
  unfold oS at e
  cases e1:f x y with
  | none=>rw[e1]at e;cases e
  | some p=>
   rw[e1]at e;obtain⟨q,e2,m⟩:=bx.mp e;obtain⟨h1,B⟩:=p7 e2;have g:rD f (x::xs) (y::ys) 0=p:=by simp[rD,e1]
   have ps:∀j,rD f (x::xs) (y::ys) (j+1)=rD f xs ys j:=λj=>by simp[rD]
   refine⟨?_,λj a b d c=>?_⟩
   ·rw[<- m,h1,aW,aW,Nat.succ_min_succ,List.range_succ_eq_map,List.all_cons,List.all_map,g];have:(rD f (x::xs) (y::ys) ∘ Nat.succ)=rD f xs ys:=funext ps;rw[this,Bool.and_assoc];simp
   ·cases j with
    | zero=>
     simp at d c;subst d c;rw[g];exact e1
    | succ j=>rw[ps];exact B j a b (by simpa using d)<|by simpa using c
def p9{f:A->A->bn}(hf:∀a b x y u v k,AV X.K ρ H a x->AV X.K ρ H b y->RelV x u->RelV y v->f a b=some k->SeqAt.EqAt B s u v k){us ts:ba}{k:Bool}
  (r1:AVs X.K ρ H xs vs) (r2:AVs X.K ρ H ys ws) (U:Vals vs us) (Z:Vals ws ts) (e:oS f xs ys=some k):∀j (h1:j<us.toArray.size) (h2:j<ts.toArray.size),SeqAt.EqAt B s us.toArray[j] ts.toArray[j] (rD f xs ys j):=by
 intro j h1 h2;have L:=r1.length;have J:=r2.length;have N:=U.length;have M:=Z.length;have G:j<xs.length:=by simp at h1;lia
 have hy:j<ys.length:=by simp at h2;lia
 have e1:xs[j]?=some xs[j]:=aG G;have e2:ys[j]?=some ys[j]:=aG hy;obtain⟨x,ex,c⟩:=r1.get e1;obtain⟨y,q,F⟩:=r2.get e2;obtain⟨u,g,d⟩:=U.get ex;obtain⟨t,m,rt⟩:=Z.get q;have C:us.toArray[j]=u:=by
  have:us[j]?=some us.toArray[j]:=by simp at h1;simp[h1]
  rw[g]at this;exact(aX this).symm
 have p:ts.toArray[j]=t:=by
  have:ts[j]?=some ts.toArray[j]:=by simp at h2;simp[h2]
  rw[m]at this;exact(aX this).symm
 rw[C,p];exact hf _ _ x y u t _ c F d rt<|(p7 e).2 j _ _ e1 e2
def in1_units(B:az):B.in1.units=B.units+1:=rfl
theorem C5(I:Inv X pins σ H s)(R:Rel X.K ρ H S):∀(n:Nat) (B:az) (a b:A) (x y:V) (u v:aa) (k:Bool),B.units+n<cLine->AV X.K ρ H a x->AV X.K ρ H b y->RelV x u->RelV y v->qZ S n a b=some k->Al B s u v k
 | 0,_,_,_,_,_,_,_,_,_,_,_,_,_,e=>nomatch e
 | n+1,B,a,b,x,y,u,v,k,hu,ha,hb,rx,ry,e=>by
  have d:B.units<cLine:=()
  have c:∀a b x y u v k,AV X.K ρ H a x->AV X.K ρ H b y->RelV x u->RelV y v->qZ S n a b=some k->SeqAt.EqAt B.in1 s u v k:=λa b x y u v k h1 O J M U=>(C5 I R n B.in1 a b x y u v k (by rw[in1_units];lia) h1 O J M U).2.1;have same:=λ(z:y=x)=>sR I R (n+1) a b x u k ha (z ▸ hb) rx e;have g:∀{p q:aj},x=.ref p->y=.ref q->u=.ref p->v=.ref q->SeqAt.RcAt B s u v k->SeqAt.EqAt B s u v k:=λ{p q} f F z3 z4 h=>by
   subst z3 z4;by_cases P:p=q
   ·subst P;rw[same<|F.trans f.symm];exact .same _
   ·exact .of_refs P h
  rcases Bl e with⟨i,j,xs,ys,rfl,rfl,e1,e2,e⟩|⟨h,h',e1,e2,e,_⟩
  ·obtain⟨p,rfl,h1⟩:=um ha;obtain⟨q,rfl,O⟩:=um hb;obtain⟨vs,J,r1⟩:=R.lst h1<|gU e1;obtain⟨Y,M,r2⟩:=R.lst O<|gU e2;obtain⟨us,C,p1,_⟩:=I.list<|kr.of J;obtain⟨ts,m,p2,_⟩:=I.list<|kr.of M;have N:=g rfl rfl rx ry
   cases(show u=Value.ref p from rx)
   cases(show v=Value.ref q from ry)
   have W:=r1.length;have l2:=r2.length;have l3:=C.length;have l4:=m.length;have G:=(p7 e).1;by_cases T:xs.length=ys.length
   ·rw[<- T,Nat.min_self,bg,Bool.and_true]at G;have L:us.toArray.size=ts.toArray.size:=by simp;lia
    have f:=SeqAt.RcAt.lists p1.isList p2.isList L d<|p9 c r1 r2 C m e;have F:=SeqAt.RcNeAt.lists p1.isList p2.isList L d<|p9 c r1 r2 C m e;rw[aU,<- l3,<- W,<- G]at f F;exact⟨f,N f,F⟩
   ·have:(xs.length == ys.length)=false:=by simpa using T
    rw[this,Bool.and_false]at G;subst G;have L:(us.toArray.size != ts.toArray.size)=true:=by simp;lia
    have f:=SeqAt.RcAt.lists_lengths p1.isList p2.isList L d;exact⟨f,N f,SeqAt.RcNeAt.lists_lengths p1.isList p2.isList L d⟩
  ·rcases zu h h' with⟨xs,ys,rfl,rfl⟩|Z
   ·obtain⟨rfl,p,vs,rfl,J,r1⟩:=t7 ha e1;obtain⟨rfl,q,Y,rfl,M,r2⟩:=t7 hb e2;have N:=g rfl rfl rx ry
    cases(show u=Value.ref p from rx)
    cases(show v=Value.ref q from ry)
    obtain⟨us,C,p1,_⟩:=I.tuple<|jT.of J;obtain⟨ts,m,p2,_⟩:=I.tuple<|jT.of M;have G:=(p7 e).1;have f:=SeqAt.RcAt.tuples p1 p2 d<|p9 c r1 r2 C m e;have F:=SeqAt.RcNeAt.tuples p1 p2 d<|p9 c r1 r2 C m e;rw[aU,aU,<- C.length,<- m.length,<- r1.length,<- r2.length,<- G]at f F;exact⟨f,N f,F⟩
   ·exact L4 d (zf I R ha rx e1) (zf I R hb ry e2) Z e
end
section
variable {X:Cx}
abbrev jm (j:Bool)(a b:A)(S:gE):R A:=opt (qZ S 12 a b) λk=>.ok (.bl<|if j then !k else k) S
def qN(j:X.A.units+64<cLine):jh X (compareOp .Eq) (r2 X<|jm false):=λpins s σ H x y v u Q I rx ry h9=>by
 x_go;obtain⟨k,e,h⟩:=gT h;exact(C5 I R 12 X.A a b x y v u k (by omega) va vb rx ry e).1 _ _ _ _ ⟨.bl _,H,I,rfl,h _ _ _ .refl R<|.bl _⟩
def vf(j:X.A.units+64<cLine):jh X (compareOp .NotEq) (r2 X<|jm true):=λpins s σ H x y v u Q I rx ry h9=>by
 x_go;obtain⟨k,e,h⟩:=gT h;exact(C5 I R 12 X.A a b x y v u k (by omega) va vb rx ry e).2.2 _ _ _ _ ⟨.bl _,H,I,rfl,h _ _ _ .refl R<|.bl _⟩
end
section
variable {X:Cx}{pos:Pos}{a b:aC}
meta abbrev Pt:=ae->gE->R (bj)
abbrev lM:Pt:=λ_ S=>.ok none S
abbrev mw (c:Ex):Pt:=λτ S=>(c τ S).bind λa S1=>match a with
 | .int i=>.ok (some i) S1
 | _=>.no
abbrev tO (X:Cx)(c:Pt):TO:=λσ H Q=>∃ρ S τ,Rel X.K ρ H S/\SR X.K ρ H τ σ/\(c τ S).post (λo d=>∀ρ' H',Ext ρ ρ' H H'->Rel X.K ρ' H' d->Q o H') (XE X ρ H)
abbrev AO (X:Cx)(e:Option aC)(c:Pt):Prop:=PO X e<|tO X c
def nQ:AO X none lM:=λpins s σ H Q I ⟨ρ,S,τ,R,r,h⟩=>Fe pins s σ H Q I<|h ρ H .refl R
def n_{c:Ex}(j:AE X a c):AO X (some a) (mw c):=λpins s σ H Q I ⟨ρ,S,τ,R,r,h⟩=>FQ j pins s σ H Q I ⟨ρ,S,τ,R,r,gB (gG h) .refl λx S1 h1 ρ1 H1 v e1 R1 d=>by
 cases d<;>first|exact h1.elim|exact⟨_,rfl,h1 ρ1 H1 e1 R1⟩⟩
abbrev tY (xs:ae)(lo hi:bj):ae:=(xs.drop<|HT.je xs.length 0 lo).take<|HT.je xs.length xs.length hi-HT.je xs.length 0 lo
def AVs.cut{K:aq}{H:Hp}(r:AVs K ρ H xs vs)(lo hi:bj):AVs K ρ H (tY xs lo hi) (vG vs lo hi):=by
 unfold tY vG;rw[r.length];exact(r.drop _).take _
abbrev Ld (a:A)(lo hi:bj)(S:gE):R A:=match a with
 | .ref n=>opt (gH S n) λxs=>.ok (.ref S.length) (S++[.lst<|tY xs lo hi])
 | .frz xs=>.ok (.ref S.length) (S++[.lst<|tY xs lo hi])
 | .tup xs=>gd (¬(HT.je xs.length 0 lo=0/\HT.je xs.length xs.length hi=xs.length)) (.ok (.tup<|tY xs lo hi) S)
 | _=>.no
abbrev Mj (c:Ex)(lo hi:Pt):Ex:=λτ S=>(c τ S).bind λa S1=>(lo τ S1).bind λl d=>(hi τ d).bind λu e=>Ld a l u e
abbrev rS (X:Cx):V->bj->bj->Hp->VK->Prop:=λx lo hi H Q=>∃ρ S a,Rel X.K ρ H S/\AV X.K ρ H a x/\(Ld a lo hi S).post (pS X ρ H Q) (XE X ρ H)
def IP:Kf X (rS X):=λpins s σ H x v e f lo hi g Q I rx hs pl d h9=>by
 obtain⟨ρ,S,a,R,va,h⟩:=h9
 cases va with
 | @tup p xs c h1 r1=>
  obtain⟨hc,h⟩:=gQ h;exact IV pins s σ H _ v e f lo hi g Q I rx hs pl d ⟨p,c,rfl,(jT.of h1),by rw[<- r1.length];exact hc,pT R (r1.cut lo hi) .refl h⟩
 | @frz p xs c h1 r1=>exact yu pins s σ H _ v e f lo hi g Q I rx hs pl d ⟨p,c,rfl,h1.Ho,i_ R (r1.cut lo hi) .refl h⟩
 | @ref p n j=>
  kst_p;obtain⟨c,h1,r1⟩:=R.lst j<|gU hn;exact yu pins s σ H _ v e f lo hi g Q I rx hs pl d ⟨p,c,rfl,kr.of h1,i_ R (r1.cut lo hi) .refl h⟩
 | _=>exact h.elim
def L0{lo:Option aC}{c:Ex}{cl ch:Pt}(J:AE X e c)(L:AO X lo cl)(M:AO X hi ch):AE X (.Subscript e (.Slice lo hi none p2) pos) (Mj c cl ch):=PE.imp (vB IP J L M) λσ H Q h9=>by
 z_go;refine⟨ρ,S,τ,R,r,gB (gG h) .refl λa S1 h1 ρ1 H1 x e1 R1 m=>⟨ρ1,S1,τ,R1,r.ext e1,gB (gG h1) e1 λl j B g H2 e2 R2=>⟨g,j,τ,R2,r.ext<|e1.trans e2,gB (gG B) (e1.trans e2) λu p k f C d q=>?_⟩⟩⟩;exact⟨f,p,a,q,m.ext<|e2.trans d,gB k (e1.trans<|e2.trans d) λ_ _ z=>z.ext<|e1.trans<|e2.trans d⟩
abbrev K2 (a:A)(S:gE):R A:=match a with
 | .ref n=>opt (gH S n) λxs=>.ok (.ref S.length) (S++[.lst xs.reverse])
 | .tup xs=>.ok (.tup xs.reverse) S
 | _=>.no
abbrev g6 (f:ae->gE->R A)(d:kq):Ex:=λτ S=>(d τ S).bind λc S1=>f c S1
def vZ{f:ae->gE->R A}{d:kq}{H:Hp}{Q:VK}(h:tE X (g6 f d) σ H Q):Nb (rN X f) (tL X d) σ H Q:=by
 kcj_m;exact⟨ρ,S,τ,R,r,gB (gG h) .refl λe S1 h1 ρ1 H1 g e1 R1 c=>⟨ρ1,S1,e,R1,c,gB h1 e1 λ_ _ z=>z.ext e1⟩⟩
variable {x:Str}{p:Pos}{e:aC}{es:List aC}{id T:String}{f:ae->gE->R A}{d:kq}
def g5(hc:g7 X (.builtin id)<|rN X f)(L:X.mg x=none)(hv:bootBuiltins x=some (.builtin id))(M:AL X (e::es) d)(hg:Gl X x<|>ε)(hn:x ≠ "__name__"<|>δ)(j:(x == ("__debug__" : Str))=false<|>δ)
  (U:starEach (e::es) X.env=(false,eval e X.env)::starEach es X.env<|>ε) (J:((backTo pos<|starEach es X.env).any (·.1)=false)<|>ε):AE X (.Call (.Name x p) (e::es) [] pos) (g6 f d):=
 PE.imp (u5 hc hg L hv M hn j U J) λ_ _ _ h=>vZ h
def jb(hc:g7 X (.type T)<|rN X f)(L:X.mg x=none)(hv:bootBuiltins x=some (.type T))(M:AL X (e::es) d)(hg:Gl X x<|>ε)(hn:x ≠ "__name__"<|>δ)(j:(x == ("__debug__" : Str))=false<|>δ)
  (U:starEach (e::es) X.env=(false,eval e X.env)::starEach es X.env<|>ε) (J:((backTo pos<|starEach es X.env).any (·.1)=false)<|>ε):AE X (.Call (.Name x p) (e::es) [] pos) (g6 f d):=
 PE.imp (sF hc hg L hv M hn j U J) λ_ _ _ h=>vZ h
def uX(J:X.mg x=none)(hv:bootBuiltins x=some (.type T))(hg:Gl X x<|>ε)(hn:x ≠ "__name__"<|>δ)(j:(x == ("__debug__" : Str))=false<|>δ):AE X (.Name x pos) (eC<|.ty T):=
 PE.imp (Fq (v:=.ty T) hg J hv rfl hn j) λσ H Q ⟨ρ,S,τ,R,r,h⟩=>h ρ H _ .refl R<|.ty T
abbrev A.seq (S:gE):A->Option (ae)
 | .tup xs=>some xs
 | .frz xs=>some xs
 | .ref n=>gH S n
 | _=>none
def Ak{K:aq}{H:Hp}{x:A}(h:AVs K ρ H [x] vs):∃v,vs=[v]/\AV K ρ H x v:=by
 cases h with
 | cons h t=>cases t;exact⟨_,rfl,h⟩
def ME{K:aq}{H:Hp}{x:A}(h:AVs K ρ H [x,y] vs):∃v w,vs=[v,w]/\AV K ρ H x v/\AV K ρ H y w:=by
 cases h with
 | cons h t=>obtain⟨w,rfl,h'⟩:=Ak t;exact⟨_,_,rfl,h,h'⟩
abbrev f1 (g:A->gE->R A):ae->gE->R A:=λc S=>match c with
 | [x]=>g x S
 | _=>.no
abbrev f2 (g:A->A->gE->R A):ae->gE->R A:=λc S=>match c with
 | [x,y]=>g x y S
 | _=>.no
def Ga{g:A->gE->R A}{P:A->gE->Prop}{E:Str->gE->Prop}(h:(f1 g as S).post P E):∃x,as=[x]/\(g x S).post P E:=by
 match as,h with
 | [],h=>exact h.elim
 | [x],h=>exact⟨x,rfl,h⟩
 | _::_::_,h=>exact h.elim
def Fj{g:A->A->gE->R A}{P:A->gE->Prop}{E:Str->gE->Prop}(h:(f2 g as S).post P E):∃x y,as=[x,y]/\(g x y S).post P E:=by
 match as,h with
 | [],h=>exact h.elim
 | [_],h=>exact h.elim
 | [x,y],h=>exact⟨x,y,rfl,h⟩
 | _::_::_::_,h=>exact h.elim
def Kl{g:A->gE->R A}{H:Hp}{Q:VK}(h:rN X (f1 g) vs H Q):∃v,vs=[v]/\∃ρ S x,Rel X.K ρ H S/\AV X.K ρ H x v/\(g x S).post (pS X ρ H Q) (XE X ρ H):=by
 obtain⟨ρ,S,c,R,v,h⟩:=h;obtain⟨x,rfl,h⟩:=Ga h;obtain⟨w,rfl,hv⟩:=Ak v;exact⟨w,rfl,ρ,S,x,R,hv,h⟩
def Nh{g:A->A->gE->R A}{H:Hp}{Q:VK}(h:rN X (f2 g) vs H Q):∃v w,vs=[v,w]/\∃ρ S x y,Rel X.K ρ H S/\AV X.K ρ H x v/\AV X.K ρ H y w/\(g x y S).post (pS X ρ H Q) (XE X ρ H):=by
 obtain⟨ρ,S,e,R,v,h⟩:=h;obtain⟨x,y,rfl,h⟩:=Fj h;obtain⟨w,d,rfl,hv,c⟩:=ME v;exact⟨w,d,rfl,ρ,S,x,y,R,hv,c,h⟩
abbrev oN (x:A)(S:gE):R A:=match x with
 | .str x=>gd (x.length<=sizeLine) (.ok (.int x.length) S)
 | .tup xs=>.ok (.int xs.length) S
 | .frz xs=>.ok (.int xs.length) S
 | .ref n=>opt (gH S n) λxs=>.ok (.int xs.length) S
 | _=>.no
def r_:g7 X (.builtin "len") (rN X<|f1 oN):=g7.imp B4 λe H Q h0=>by
 ksr_p;clear h0
 cases hv with
 | str z=>
  obtain⟨d,h⟩:=gQ h;exact⟨_,_,rfl,⟨d,rfl⟩,h _ _ _ .refl R<|.int _⟩
 | @tup p xs us h1 r=>exact⟨_,us.length,rfl,.inr ⟨us,(jT.of h1),rfl⟩,by rw[<- r.length];exact h _ _ _ .refl R<|.int _⟩
 | @frz p xs us h1 r=>exact⟨_,us.length,rfl,.inl ⟨us,h1.Ho,rfl⟩,by rw[<- r.length];exact h _ _ _ .refl R<|.int _⟩
 | ref c=>
  kst_p;obtain⟨us,h1,r⟩:=R.lst c<|gU hn;exact⟨_,us.length,rfl,.inl ⟨us,kr.of h1,rfl⟩,by rw[<- r.length];exact h _ _ _ .refl R<|.int _⟩
 | _=>exact h.elim
abbrev w_ (x:A)(S:gE):R A:=match x with
 | .int i=>.ok (.int<|if i<0 then -i else i) S
 | _=>.no
def yV:g7 X (.builtin "abs") (rN X<|f1 w_):=g7.imp De λc H Q h0=>by
 ksr_p;clear h0
 cases hv<;>first|exact h.elim|exact⟨_,rfl,h _ _ _ .refl R<|.int _⟩
abbrev Ef (x y:A)(S:gE):R A:=match x,y with
 | .int i,.int j=>.ok (.int<|if j>i then j else i) S
 | _,_=>.no
def Ij(hc:X.calm=true):g7 X (.builtin "max") (rN X<|f2 Ef):=g7.imp (Ah hc) λd H Q h0=>by
 obtain⟨w,e,rfl,ρ,S,x,y,R,hv,c,h⟩:=Nh h0;clear h0
 cases hv<;>first|exact h.elim|(cases c<;>first|exact h.elim|exact⟨_,_,rfl,h _ _ _ .refl R<|.int _⟩)
abbrev Eg (x y:A)(S:gE):R A:=match x,y with
 | .int i,.int j=>.ok (.int<|if j<i then j else i) S
 | _,_=>.no
def I_(hc:X.calm=true):g7 X (.builtin "min") (rN X<|f2 Eg):=g7.imp (Ax hc) λd H Q h0=>by
 obtain⟨w,e,rfl,ρ,S,x,y,R,hv,c,h⟩:=Nh h0;clear h0
 cases hv<;>first|exact h.elim|(cases c<;>first|exact h.elim|exact⟨_,_,rfl,h _ _ _ .refl R<|.int _⟩)
abbrev n9 (x:A)(S:gE):R A:=match x with
 | .int i=>.ok (.int i) S
 | .bl k=>.ok (.int<|if k then 1 else 0) S
 | .str y=>opt (PySem.intText? y) λn=>gd (y.length<=640) (.ok (.int n) S)
 | _=>.no
def t8:g7 X (.type "int") (rN X<|f1 n9):=λpins s σ H xs us Q I c h0=>by
 ksr_p;clear h0
 cases hv with
 | int i=>exact su pins s σ H _ us Q I c (.inl ⟨i,rfl,h _ _ _ .refl R<|.int _⟩)
 | bl k=>exact su pins s σ H _ us Q I c (.inr ⟨k,rfl,h _ _ _ .refl R<|.int _⟩)
 | str y=>
  obtain⟨n,hn,h⟩:=gT h;obtain⟨d,h⟩:=gQ h;exact AF pins s σ H _ us Q I c ⟨y,n,rfl,d,hn,h _ _ _ .refl R<|.int _⟩
 | _=>exact h.elim
abbrev Fb (x y:A)(S:gE):R A:=match x,y with
 | .int i,.int j=>.ok (.rng i j) S
 | _,_=>.no
abbrev yU (i j:Int):Prop:=(-(2 ^ 62)<=i/\i<2 ^ 62/\-(2 ^ 62)<=j/\j<2 ^ 62)/\(j-i).toNat<=1000
instance (i j:Int):Decidable (yU i j):=by unfold yU;infer_instance
abbrev sJ (x:A)(S:gE):R A:=match x with
 | .rng i j=>gd (yU i j) (.ok (.ref S.length)<|S++[.lst<|(Ad i j).map .int])
 | .tup xs=>.ok (.ref S.length) (S++[.lst xs])
 | .frz xs=>.ok (.ref S.length) (S++[.lst xs])
 | .ref n=>opt (gH S n) λxs=>.ok (.ref S.length) (S++[.lst xs])
 | _=>.no
def HU(hc:X.calm=true):g7 X (.type "list") (rN X<|f1 sJ):=λpins s σ H c us Q I rx h0=>by
 ksr_p;clear h0
 cases hv with
 | @rng p i j e=>
  obtain⟨d,h⟩:=gQ h;exact rz hc pins s σ H _ us Q I rx ⟨p,i,j,rfl,e,d.1,d.2,i_ R (qE _) .refl h⟩
 | @tup p xs c h1 r=>exact kC pins s σ H _ us Q I rx ⟨p,c,rfl,.inr<|jT.of h1,i_ R r .refl h⟩
 | @frz p xs c h1 r=>exact kC pins s σ H _ us Q I rx ⟨p,c,rfl,.inl h1.Ho,i_ R r .refl h⟩
 | @ref p n e=>
  kst_p;obtain⟨c,h1,r⟩:=R.lst e<|gU hn;exact kC pins s σ H _ us Q I rx ⟨p,c,rfl,.inl<|kr.of h1,i_ R r .refl h⟩
 | _=>exact h.elim
abbrev BV (x:A)(S:gE):R A:=match x with
 | .rng i j=>gd (yU i j) (.ok (.tup<|(Ad i j).map .int) S)
 | .tup xs=>.ok (.tup xs) S
 | .frz xs=>.ok (.tup xs) S
 | .ref n=>opt (gH S n) λxs=>.ok (.tup xs) S
 | _=>.no
abbrev A.ED:ae->Option (List Bool)
 | []=>some []
 | .bl b::xs=>(A.ED xs).map (b::·)
 | _=>none
theorem BF{K:aq}{H:Hp}:∀{xs:ae}{vs:List V}{bs:List Bool},AVs K ρ H xs vs->A.ED xs=some bs->vs=bs.map V.bl
 | _,_,_,.nil,e=>by cases e;rfl
 | x::xs,_,bs,.cons h t,e=>by
  cases x with
  | bl b=>
   obtain⟨c,e1,rfl⟩:=bx.mp (show(A.ED xs).map (b::·)=some bs from e)
   cases h
   rw[BF t e1];rfl
  | _=>cases e
abbrev AX (x:A)(S:gE):R A:=match x with
 | .ref n=>opt (gH S n) λxs=>opt (A.ED xs) λbs=>.ok (.bl<|bs.all λb=>b) S
 | _=>.no
def GF(hc:X.calm=true):g7 X (.builtin "all") (rN X<|f1 AX):=g7.imp (Aq hc) λc H Q h0=>by
 ksr_p;clear h0
 cases hv with
 | @ref p n d=>
  kst_p;obtain⟨bs,e,h⟩:=gT h;obtain⟨c,h1,r⟩:=R.lst d<|gU hn;rw[BF r e]at h1;exact⟨p,bs,rfl,kr.of h1,h _ _ _ .refl R<|.bl _⟩
 | _=>exact h.elim
abbrev insI (x:Int):ag->ag
 | []=>[x]
 | y::ys=>if x<=y then x::y::ys else y::insI x ys
abbrev sortI:ag->ag
 | []=>[]
 | x::xs=>insI x<|sortI xs
theorem insI_perm(x:Int):∀ys:ag,(insI x ys).Perm (x::ys)
 | []=>List.Perm.refl _
 | y::ys=>by
  unfold insI;by_cases h:x<=y
  ·rw[aJ h]
  ·rw[aI h];exact((insI_perm x ys).cons y).trans (List.Perm.swap x y ys)
theorem sortI_perm:∀xs:ag,(sortI xs).Perm xs
 | []=>List.Perm.refl _
 | x::xs=>(insI_perm x<|sortI xs).trans<|(sortI_perm xs).cons x
theorem yN(x:Int):∀ys:ag,ys.Pairwise (·<=·)->(insI x ys).Pairwise (·<=·)
 | [],_=>dJ _ _
 | y::ys,h=>by
  unfold insI;obtain⟨h1,f⟩:=dU.mp h;by_cases d:x<=y
  ·rw[aJ d];exact dU.mpr ⟨λz c=>(bH.mp c).elim (λe=>e ▸ d) λc=>Int.le_trans d<|h1 z c,h⟩
  ·rw[aI d];refine dU.mpr ⟨λz c=>?_,yN x ys f⟩
   rcases bH.mp ((insI_perm x ys).mem_iff.mp c)with e|c
   ·subst e;lia
   ·exact h1 z c
theorem qQ:∀xs:ag,(sortI xs).Pairwise (·<=·)
 | []=>List.Pairwise.nil
 | x::xs=>yN x _<|qQ xs
abbrev A.kd:A->gE->Option Kd
 | .non,_=>some .non
 | .bl _,_=>some .bl
 | .int _,_=>some .int
 | .str _,_=>some .str
 | .tup _,_=>some .tup
 | .ref n,S=>(gH S n).map λ_=>.lst
 | _,_=>none
def EL{K:aq}(k:Kd):PySem.W.kitOne K k.ty (.type "str")=some (decide<|k=.str):=by cases k<;>rfl
abbrev tM (k:Kd)(c:String):bn:=if c = "int" then some (decide<|k=.int\/k=.bl)else if c = "bool" then some (decide<|k=.bl)else if c = "tuple" then some (decide<|k=.tup)else if c = "list" then some (decide<|k=.lst)else if c = "str" then some (decide<|k=.str)else none
def zk{K:aq}{k:Kd}{b:Bool}(h:tM k c=some b):PySem.W.kitOne K k.ty (.type c)=some b:=by
 unfold tM at h;split at h
 ·rename_i e;subst e;rw[<- h];exact E9 k
 ·split at h
  ·rename_i e;subst e;rw[<- h];exact DA k
  ·split at h
   ·rename_i e;subst e;rw[<- h];exact kit_tuple k
   ·split at h
    ·rename_i e;subst e;rw[<- h];exact Bb k
    ·split at h
     ·rename_i e;subst e;rw[<- h];exact EL k
     ·cases h
abbrev xq (x y:A)(S:gE):R A:=match y with
 | .ty c=>opt (x.kd S) λk=>opt (tM k c) λb=>.ok (.bl b) S
 | _=>.no
def Ks{K:aq}{H:Hp}{x:A}{v:V}{k:Kd}(R:Rel K ρ H S)(h:AV K ρ H x v)(e:x.kd S=some k):(∃p vs,v=.ref p/\jT K H p vs/\k=.tup)\/HW H v k:=by
 cases h with
 | non=>cases e;exact .inr rfl
 | bl b=>cases e;exact .inr ⟨b,rfl⟩
 | int i=>cases e;exact .inr ⟨i,rfl⟩
 | str i=>cases e;exact .inr ⟨i,rfl⟩
 | tup h r=>cases e;exact .inl ⟨_,_,rfl,(jT.of h),rfl⟩
 | ref h=>
  obtain⟨xs,e1,e2⟩:=bx.mp e;obtain⟨vs,h1,_⟩:=R.lst h (gU e1)
  cases e2
  exact .inr ⟨_,vs,rfl,h1⟩
 | _=>cases e
def vg:g7 X (.builtin "isinstance") (rN X<|f2 xq):=λpins s σ H m us Q I rx h0=>by
 obtain⟨w,J,rfl,ρ,S,x,y,R,hv,e,h⟩:=Nh h0;clear h0
 cases e with
 | ty c=>
  obtain⟨k,j,h⟩:=gT h;obtain⟨b,f,d⟩:=gT h;have d:pS X ρ H Q (.bl b) S:=d;clear h
  rcases Ks R hv j with⟨p,m,rfl,B,rfl⟩|hd
  ·obtain⟨G,F,rfl,r1,r2⟩:=vals2 rx;obtain⟨g,q,⟨o,h1,C,_⟩,_⟩:=I.tuple B
   cases(show _=Value.ref p from r1)
   cases(show _=Value.type c from r2)
   exact bX PySem.W.kitx_tuple I.uC ⟨o,h1,C⟩ (zk f) (λz=>nomatch z) λtk=>⟨.bl b,H,I.tok _,rfl,d _ _ _ .refl R<|.bl _⟩
  ·exact vE (c:=c) pins s σ H _ us Q I rx ⟨w,_,b,rfl,hd.NG,zk f,d _ _ _ .refl R<|.bl _⟩
 | _=>exact h.elim
end
theorem Oq:∀(N:Nat) (l:am),l.Nodup->(∀x∈l,x<N)->l.length<=N
 | 0,l,_,h=>by
  cases l with
  | nil=>exact aL _
  | cons a l=>exact absurd (h a<|aQ ..)<|Nat.not_lt_zero _
 | N+1,l,nd,h=>by
  have h1:=Oq N (l.erase N) (nd.erase N) λx c=>by
   have:=h x<|List.mem_of_mem_erase c;have:x≠N:=λz=>by
    subst z;exact(List.Nodup.not_mem_erase nd) c
   lia
  have:=List.le_length_erase (l:=l) (a:=N)
  lia
def w6{N:Nat}{g:Nat->Nat}(h:∀i,i<N->g i<N)(inj:∀i j,i<j->j<N->g i≠g j):((List.range N).map g).Perm (List.range N):=by
 have k:((List.range N).map g).Nodup:=by
  unfold List.Nodup;rw[cH];intro i j hi f e;rw[aN,bC]at hi f;rw[fD,fD,eW,eW];exact inj i j e f
 have lt:∀x∈(List.range N).map g,x<N:=λx c=>by
  obtain⟨i,hi,rfl⟩:=eG.mp c;exact h i<|cR.mp hi
 refine(List.perm_ext_iff_of_nodup k List.nodup_range).mpr λa=>⟨λd=>cR.mpr<|lt a d,λd=>?_⟩;refine Classical.byContradiction λhn=>?_;have:=Oq N (a::(List.range N).map g) (di.mpr ⟨hn,k⟩) λx c=>by
  rcases bH.mp c with rfl|c
  ·exact cR.mp d
  ·exact lt x c
 rw[aW,aN,bC]at this
 lia
def range_getD{α:Type}(l:List α)(d:α):(List.range l.length).map (λi=>l.getD i d)=l:=by
 apply dD;intro i;rw[aY];by_cases c:i<l.length
 ·rw[cG c];show some (l.getD i d)=_;rw[aM,aG c];rfl
 ·rw[bJ<|by rw[bC];lia,bJ ()];rfl
theorem A8{K:aq}{H:Hp}{α:Type}{f:α->A}{h:α->V}:∀{l:List α},(∀a∈l,AV K ρ H (f a)<|h a)->AVs K ρ H (l.map f) (l.map h)
 | [],_=>.nil
 | a::l,e=>.cons (e a<|aQ ..)<|A8 λb c=>e b<|aV _ c
abbrev RS.post (r:RS)(N:ae->gE->Prop)(T:A->gE->Prop)(B C:ae->gE->Prop)(E:Str->gE->Prop):Prop:=match r with
 | .nx τ S=>N τ S
 | .rt a S=>T a S
 | .bk τ S=>B τ S
 | .ct τ S=>C τ S
 | .ex c S=>E c S
 | .no=>False
abbrev RS.of {α:Type}(r:R α)(f:α->gE->RS):RS:=match r with
 | .ok a S=>f a S
 | .ex c S=>.ex c S
 | .no=>.no
def of_post{α:Type}{r:R α}{f:α->gE->RS}{N B C:ae->gE->Prop}{T:A->gE->Prop}{E:Str->gE->Prop}(h:(RS.of r f).post N T B C E):r.post (λa S=>(f a S).post N T B C E) E:=by
 cases r<;>exact h
def RS.mono{r:RS}{N B C j J L:ae->gE->Prop}{T M:A->gE->Prop}{E U:Str->gE->Prop}(h:r.post N T B C E)(hn:∀τ S,N τ S->j τ S)(Z:∀a S,T a S->M a S)(hb:∀τ S,B τ S->J τ S)(hc:∀τ S,C τ S->L τ S)(he:∀c S,E c S->U c S):r.post j M J L U:=by
 cases r with
 | nx τ S=>exact hn _ _ h
 | rt a S=>exact Z _ _ h
 | bk τ S=>exact hb _ _ h
 | ct τ S=>exact hc _ _ h
 | ex c S=>exact he _ _ h
 | no=>exact h.elim
abbrev zP (X:Cx)(ρ:bb)(H:Hp)(N:L2.St->Hp->Prop):ae->gE->Prop:=λd e=>∀ρ' H' c,Ext ρ ρ' H H'->Rel X.K ρ' H' e->SR X.K ρ' H' d c->N c H'
def zP.ext{H H':Hp}{N:L2.St->Hp->Prop}(h:zP X ρ H N τ S)(e:Ext ρ ρ' H H'):zP X ρ' H' N τ S:=λc H2 d e2=>h c H2 d<|e.trans e2
abbrev rX (X:Cx)(ρ:bb)(H:Hp)(D:Ends)(r:RS):Prop:=r.post (zP X ρ H D.nx) (pS X ρ H D.rt) (zP X ρ H D.bk) (zP X ρ H D.ct)<|XE X ρ H
def rX.ext{H H':Hp}{r:RS}(h:rX X ρ H D r)(e:Ext ρ ρ' H H'):rX X ρ' H' D r:=RS.mono h (λ_ _ z=>z.ext e) (λ_ _ z=>z.ext e) (λ_ _ z=>z.ext e) (λ_ _ z=>z.ext e) λ_ _ z=>z.ext e
abbrev tS (X:Cx)(c:Sm):TS:=λD σ H=>∃ρ S τ,Rel X.K ρ H S/\SR X.K ρ H τ σ/\rX X ρ H D (c τ S)
abbrev AS (X:Cx)(st:aE)(c:Sm):Prop:=PS X st<|tS X c
abbrev Fi (X:Cx)(j:List aE)(c:Sm):Prop:=ue X j<|tS X c
abbrev tG (X:Cx)(g:Tg):TG:=λv σ H Q=>∃ρ S τ a,Rel X.K ρ H S/\SR X.K ρ H τ σ/\AV X.K ρ H a v/\(g a τ S).post (zP X ρ H Q) (XE X ρ H)
abbrev AG (X:Cx)(e:aC)(g:Tg):Prop:=PG X e<|tG X g
meta abbrev EC:=ae->ae->gE->R (ae)
abbrev OM (X:Cx)(g:EC):Gz:=λd σ H Q=>∃ρ S τ c,Rel X.K ρ H S/\SR X.K ρ H τ σ/\AVs X.K ρ H c d/\(g c τ S).post (zP X ρ H Q) (XE X ρ H)
abbrev Mv (X:Cx)(es:List aC)(g:EC):Prop:=K_ X es<|OM X g
section
variable {X:Cx}{pos:Pos}{a b e:aC}{st:aE}{rest:List aE}{c d:Sm}
def PS.imp{t t':TS}(h:PS X st t)(i:∀D σ H,t' D σ H->t D σ H):PS X st t':=λpins s σ H D I q=>h pins s σ H D I<|i D σ H q
def ue.imp{t t':TS}(h:ue X rest t)(i:∀D σ H,t' D σ H->t D σ H):ue X rest t':=λpins s σ H D I q=>h pins s σ H D I<|i D σ H q
def PG.imp{t t':TG}(h:PG X e t)(i:∀v σ H Q,t' v σ H Q->t v σ H Q):PG X e t':=λpins s σ H v u Q I r q=>h pins s σ H v u Q I r<|i _ _ _ _ q
abbrev iD (i:Nat):Tg:=λa τ S=>.ok (τ.set i a) S
theorem ir{i:Nat}{x:Str}(j:X.N.Nodup)(hi:X.N[i]?=some x<|>ε)(J:Loc X.env.scope x:=by first|exact Or.inl rfl|exact Or.inr rfl)(hf:X.fn x=true\/X.env.scope.names.lookup x=some .local<|>γ):AG X (.Name x pos) (iD i):=
 PG.imp (yt j hi J hf) λv σ H Q ⟨ρ,S,τ,a,R,r,va,h⟩=>h ρ H _ .refl R<|r.set va
abbrev FU:EC:=λc τ S=>match c with
 | []=>.ok τ S
 | _=>.no
abbrev vF (g:Tg)(gs:EC):EC:=λd τ S=>match d with
 | a::d=>(g a τ S).bind λc S1=>gs d c S1
 | []=>.no
def nP:Mv X [] FU:=λpins s σ H c us Q I r ⟨ρ,S,τ,e,R,d,va,h⟩=>Fc pins s σ H c us Q I r (by
 cases va with
 | nil=>exact⟨rfl,h ρ H σ .refl R d⟩
 | cons _ _=>exact h.elim)
def iF{g:Tg}{gs:EC}(h1:AG X e g)(J:Mv X es gs)(hs:(assignEach (e::es) X.env).map (·.2)=assign e X.env::(assignEach es X.env).map (·.2)<|>ε):Mv X (e::es) (vF g gs):=
 λpins s σ H f us Q I r ⟨ρ,S,τ,q,R,p,va,h⟩=>Er h1 J hs pins s σ H f us Q I r (by
  cases va with
  | nil=>exact h.elim
  | cons k j=>exact⟨_,_,rfl,ρ,S,τ,_,R,p,k,gB (gG h) .refl λd S1 h1 ρ1 H1 m e1 R1 c=>⟨ρ1,S1,d,_,R1,c,j.ext e1,gB h1 e1 λ_ _ z=>z.ext e1⟩⟩)
abbrev F4 (n:Nat)(gs:EC):Tg:=λa τ S=>match a with
 | .tup xs | .ktu xs=>gd (xs.length=n) (gs xs τ S)
 | _=>.no
def qY{k n:Nat}{gs:EC}(hc:X.calm=true)(h:Mv X es gs)(hn:(assignEach es X.env).length=n<|>ε)(j:(assignEach es X.env).findIdx? (·.1)=none<|>ε):AG X (.Tuple es k pos) (F4 n gs):=
 PG.imp (IG hc h hn j) λv σ H Q h9=>by
  obtain⟨ρ,S,τ,a,R,r,va,h⟩:=h9
  cases va with
  | tup h1 r1=>
   obtain⟨c,h⟩:=gQ h;exact⟨_,_,rfl,jT.of h1,by rw[<- r1.length];exact c,ρ,S,τ,_,R,r,r1,h⟩
  | ktu h1 r1=>
   obtain⟨c,h⟩:=gQ h;exact⟨_,_,rfl,.inr h1,by rw[<- r1.length];exact c,ρ,S,τ,_,R,r,r1,h⟩
  | _=>exact h.elim
abbrev vJ (o i v:A)(S:gE):R Unit:=match o,i with
 | .ref n,.int k=>opt (gH S n) λxs=>opt (ye xs.length k) λj=>.ok Unit.unit (S.set n<|.lst<|xs.set j v)
 | _,_=>.no
abbrev OA (X:Cx):FA:=λo i v H Q=>∃ρ S d e c,Rel X.K ρ H S/\AV X.K ρ H d o/\AV X.K ρ H e i/\AV X.K ρ H c v/\(vJ d e c S).post (λ_ f=>∀ρ' H',Ext ρ ρ' H H'->Rel X.K ρ' H' f->Q H') (XE X ρ H)
def EN:JQ X (OA X):=λpins s σ H o i v f iv u Q I C F B h9=>by
 obtain⟨ρ,S,J,L,K,R,h1,q,g,h⟩:=h9
 cases h1 with
 | @ref p n c=>
  cases q with
  | int k=>
   kst_p;obtain⟨j,d,h⟩:=gT h;obtain⟨m,e,r⟩:=R.lst c<|gU hn;obtain⟨ex,G⟩:=R.put c (gU hn)<|r.set g j;exact set_list pins s σ H _ _ v f iv u Q I C F B ⟨p,m,k,j,rfl,rfl,e,by rw[<- r.length];exact d,h _ _ ex G⟩
  | _=>exact h.elim
 | _=>exact h.elim
abbrev Mc (co j:Ex):Tg:=λa τ S=>(co τ S).bind λo S1=>(j τ S1).bind λi c=>(vJ o i a c).bind λ_ d=>.ok τ d
def Bg{co J:Ex}(L:AE X o co)(hi:AE X i J)
  (M:(∀v,assign (.Subscript o i pos) X.env v=(do
   let ov <- holding [v] (eval o X.env)
   let iv <- holding [v,ov] (eval i X.env)
   standAt pos
   holding [v,ov,iv] (setItem ov iv v)
   release [v,ov,iv] []))<|>ζ):AG X (.Subscript o i pos) (Mc co J):=PG.imp (HK L hi EN M) λv σ H Q h9=>by
 obtain⟨ρ,S,τ,a,R,r,va,h⟩:=h9;refine⟨ρ,S,τ,R,r,gB (gG h) .refl λo S1 h1 ρ1 H1 x e1 R1 k=>⟨ρ1,S1,τ,R1,r.ext e1,gB (gG h1) e1 λi f p d H2 y e2 R2 g=>?_⟩⟩;refine⟨d,f,o,i,a,R2,k.ext e2,g,va.ext<|e1.trans e2,gB (gG p) (e1.trans e2) λ_ B j c q e m=>?_⟩;exact j c q σ ((e1.trans e2).trans e) m<|r.ext<|(e1.trans e2).trans e
abbrev j6:Sm:=λτ S=>.nx τ S
abbrev gY (c d:Sm):Sm:=λτ S=>match c τ S with
 | .nx e f=>d e f
 | r=>r
def g8:Fi X [] j6:=ue.imp E3 λD σ H ⟨ρ,S,τ,R,r,h⟩=>h ρ H σ .refl R r
def Ge{H:Hp}(h:tS X (gY c d) D σ H):LY (tS X c) (tS X d) D σ H:=by
 kcj_m;refine⟨ρ,S,τ,R,r,?_⟩;unfold gY at h
 cases hc:c τ S with
 | nx e S1=>
  rw[hc]at h;exact λρ1 H1 f e1 R1 r1=>⟨ρ1,S1,e,R1,r1,rX.ext h e1⟩
 | rt a S1=>rw[hc]at h;exact h
 | bk e S1=>rw[hc]at h;exact h
 | ct e S1=>rw[hc]at h;exact h
 | ex x S1=>rw[hc]at h;exact h
 | no=>rw[hc]at h;exact h
def gF(h1:AS X st c)(j:Fi X rest d):Fi X (st::rest) (gY c d):=ue.imp (Ez h1 j) λD σ H h=>Ge h
def gJ(h1:AS X st c):Fi X [st] c:=EU h1
abbrev Hw:Sm:=λτ S=>.bk τ S
abbrev LM:Sm:=λτ S=>.ct τ S
abbrev yD (e:Ex):Sm:=λτ S=>.of (e τ S) λ_ S1=>.nx τ S1
def y9{f:Ex}(j:AE X e f)(hs:swapsWith e none pos.line X.env=pure false<|>ε):AS X (.Expr e pos) (yD f):=PS.imp (Gg j hs) λD σ H ⟨ρ,S,τ,R,r,h⟩=>
 ⟨ρ,S,τ,R,r,gB (of_post h) .refl λa S1 h1 ρ1 H1 x e1 R1 c=>h1 ρ1 H1 σ e1 R1<|r.ext e1⟩
abbrev iR (e:Ex):Sm:=λτ S=>.of (e τ S) λa S1=>.rt a S1
def gZ{f:Ex}(j:AE X e f):AS X (.Return (some e) pos) (iR f):=PS.imp (II j) λD σ H ⟨ρ,S,τ,R,r,h⟩=>⟨ρ,S,τ,R,r,gB (of_post h) .refl λa S1 h1=>h1⟩
abbrev LI:Sm:=λτ S=>.rt .non S
abbrev rC (t:Te)(c d:Sm):Sm:=λτ S=>.of (t τ S) λb S1=>match b with|true=>c τ S1|false=>d τ S1
def jc{t:Te}(j:AT X e t)(J:Fi X ca c)(L:Fi X cb d):AS X (.If e ca cb pos) (rC t c d):=PS.imp (KP j J L) λD σ H h9=>by
 z_go;refine⟨ρ,S,τ,R,r,gB (of_post h) .refl λb S1 h1 ρ1 H1 e1 R1=>?_⟩
 cases b with
 | true=>rw[aJ rfl];exact⟨ρ1,S1,τ,R1,r.ext e1,rX.ext h1 e1⟩
 | false=>rw[aI bE];exact⟨ρ1,S1,τ,R1,r.ext e1,rX.ext h1 e1⟩
abbrev iy (e:Ex)(g:Tg):Sm:=λτ S=>.of (e τ S) λa S1=>.of (g a τ S1) λc d=>.nx c d
def EG{f:Ex}{g:Tg}{H:Hp}(h:tS X (iy f g) D σ H):FT (tE X f) (tG X g) D σ H:=by
 kcj_m;exact⟨ρ,S,τ,R,r,gB (of_post h) .refl λa S1 h1 ρ1 H1 x e1 R1 d=>⟨ρ1,S1,τ,a,R1,r.ext e1,d,gB (of_post h1) e1 λc j e=>zP.ext e e1⟩⟩
def wG{tg:aC}{f:Ex}{g:Tg}(j:AE X e f)(hg:AG X tg g)(hs:swapsWithSole [tg] e pos.line X.env=pure false<|>ε)(hw:swappedStores [tg] e X.env=pure none<|>ε)
  (h1:(assignEach [tg] X.env).map (·.2)=[assign tg X.env]<|>ε):AS X (.Assign [tg] e pos) (iy f g):=PS.imp (IL j hg hs hw h1) λD σ H h=>EG h
def g4{i:Nat}{x:Str}{f:Ex}(j:X.N.Nodup)(J:AE X e f)(hi:X.N[i]?=some x<|>ε)(L:Loc X.env.scope x:=by first|exact Or.inl rfl|exact Or.inr rfl)(hs:(swapsWith e (some<|.Name x pos') pos.line X.env=pure false)<|>ε)(hf:X.fn x=true\/X.env.scope.names.lookup x=some .local<|>γ) :
  AS X (.Assign [.Name x pos'] e pos) (iy f<|iD i):=PS.imp (HJ j hi L J hs hf) λD σ H ⟨ρ,S,τ,R,r,h⟩=>
 ⟨ρ,S,τ,R,r,gB (of_post h) .refl λa S1 h1 ρ1 H1 x e1 R1 c=>h1 ρ1 H1 _ e1 R1<|(r.ext e1).set c⟩
abbrev Mz (i j:Nat)(c:kq):Sm:=λτ S=>.of (c τ S) λd S1=>match d with
 | [a,b]=>.nx ((τ.set i a).set j b) S1
 | _=>.no
abbrev ip (X:Cx)(f:A->A->gE->R A):My:=λx y H Q=>∃ρ S a b,Rel X.K ρ H S/\AV X.K ρ H a x/\AV X.K ρ H b y/\(f a b S).post (pS X ρ H Q) (XE X ρ H)
abbrev M1 (a b:A)(S:gE):R A:=match a,b with
 | .int i,.int j=>.ok (.int<|i+j) S
 | _,_=>.no
abbrev C3 (i:Nat)(f:A->A->gE->R A)(e:Ex):Sm:=λτ S=>if (τ.getD i .unb).jf then .no else .of (e τ S) λb S1=>.of (f (τ.getD i .unb) b S1) λc d=>.nx (τ.set i c) d
def Ig{i:Nat}{x:Str}{c:Ex}{f:A->A->gE->R A}(L:X.N.Nodup)(M:AE X e c)(U:MR X op<|ip X f)(hi:X.N[i]?=some x<|>ε)(J:Loc X.env.scope x:=by first|exact Or.inl rfl|exact Or.inr rfl)(hf:X.fn x=true\/X.env.scope.names.lookup x=some .local<|>γ) :
  AS X (.AugAssign (.Name x pos') op e pos) (C3 i f c):=PS.imp (Jx L hi J M U hf) λD σ H h9=>by
 z_go;have d:∀x,τ[i]?=some x->x.jf=false->(RS.of (c τ S) λb S1=>.of (f x b S1) λc j=>.nx (τ.set i c) j).post (zP X ρ H D.nx) (pS X ρ H D.rt) (zP X ρ H D.bk) (zP X ρ H D.ct) (XE X ρ H) ->
   ∃x,σ[i]?=some (some x)/\tE X c σ H λy H1=>ip X f x y H1 λz H2=>D.nx (σ.set i<|some z) H2:=by
  intro x hi J h
  rcases r.at i x hi with z|⟨v,e,q⟩
  ·subst z;cases J
  ·refine⟨v,e,ρ,S,τ,R,r,gB (of_post h) .refl λb S1 h1 ρ1 H1 y e1 R1 m=>⟨ρ1,S1,x,b,R1,q.ext e1,m,gB (of_post h1) e1 λw j p g H2 z e2 R2 k=>?_⟩⟩;exact p g H2 _ (e1.trans e2) R2<|(r.ext<|e1.trans e2).set k
 unfold C3 rX at h;rw[aM]at h
 cases hi:τ[i]? with
 | none=>rw[hi]at h;exact h.elim
 | some x=>
  rw[hi]at h
  cases J:x.jf with
  | true=>rw[show(some x).getD .unb=x from rfl,J]at h;exact h.elim
  | false=>rw[show(some x).getD .unb=x from rfl,J]at h;exact d x hi J h
abbrev FP (a b:A)(S:gE):R A:=match a,b with
 | .ref n,.int i=>opt (gH S n) λxs=>gd (0<=i) (opt (xs[i.toNat]?) λx=>.ok x S)
 | _,_=>.no
abbrev LQ (co J L:Ex)(f:A->A->gE->R A):Sm:=λτ S=>.of (co τ S) λo S1=>.of (J τ S1) λi c=>.of (FP o i c) λx e=>.of (L τ e) λy d=>.of (f x y d) λz g=>.of (vJ o i z g) λ_ j=>.nx τ j
abbrev j_ (t:Te)(c:Sm):Nat->Sm
 | 0=>λ_ _=>.no
 | n+1=>λτ S=>.of (t τ S) λb S1=>match b with
  | false=>.nx τ S1
  | true=>match c τ S1 with
   | .nx d e=>j_ t c n d e
   | .ct d e=>j_ t c n d e
   | .bk d e=>.nx d e
   | r=>r
def BL(n:Nat){t:Te}(U:PassesOwn (model X.prog X.w) X.A X.env X.xe)(Z:AT X e t)(hb:Fi X body c):AS X (.While e body [] pos) (j_ t c n):=PS.imp (Ba U Z hb) λD σ H h9=>by
 z_go;refine⟨λm p H'=>∃ρ' g d,Ext ρ ρ' H H'/\Rel X.K ρ' H' g/\SR X.K ρ' H' d p/\rX X ρ' H' D (j_ t c m d g),⟨n,ρ,S,τ,.refl,R,r,h⟩,?_⟩;rintro m N H1 ⟨ρ1,S1,j,e1,R1,r1,h1⟩
 cases m with
 | zero=>exact h1.elim
 | succ m=>
  refine⟨ρ1,S1,j,R1,r1,gB (of_post h1) .refl λb G f F H2 e2 R2=>?_⟩
  cases b with
  | false=>rw[aI bE];exact f F H2 N e2 R2 (r1.ext e2)
  | true=>
   rw[aJ rfl];refine⟨λp H'=>∃ρ' g d,Ext ρ ρ' H H'/\Rel X.K ρ' H' g/\SR X.K ρ' H' d p/\rX X ρ' H' D (j_ t c m d g),λp H' z=>⟨m,c6 _,z⟩,F,G,j,R2,r1.ext e2,?_⟩;have f:rX X ρ1 H1 D (match c j G with
    | .nx d g=>j_ t c m d g
    | .ct d g=>j_ t c m d g
    | .bk d g=>.nx d g
    | r=>r):=f
   cases hc:c j G with
   | nx k B=>rw[hc]at f;exact λq O L C M J=>⟨q,B,k,(e1.trans e2).trans C,M,J,rX.ext f<|e2.trans C⟩
   | ct k B=>rw[hc]at f;exact λq O L C M J=>⟨q,B,k,(e1.trans e2).trans C,M,J,rX.ext f<|e2.trans C⟩
   | bk k B=>rw[hc]at f;exact zP.ext f e2
   | rt a B=>rw[hc]at f;exact pS.ext f e2
   | ex x B=>rw[hc]at f;exact XE.ext f e2
   | no=>rw[hc]at f;exact f
end
structure Src where
 k:Nat
 get:Nat->gE->Option A
 fin:gE->Bool
structure JR (K:aq)(s:Src)(J:It)(ρ0:bb)(H0:Hp):Prop where
 go:∀(i:Nat) (S:gE) (H:Hp) (ρ:bb) (x:A),Ext0 ρ0 ρ H0 H->Rel K ρ H S->s.get i S=some x->J.go i H/\∀v H',J.yld i H v H'->Ext ρ ρ H H'/\Rel K ρ H' S/\AV K ρ H' x v
 stop:∀(S:gE) (H:Hp) (ρ:bb),Ext0 ρ0 ρ H0 H->Rel K ρ H S->s.fin S=true->J.stop s.k H
meta abbrev Ic:=ae->gE->R Src
abbrev tI (X:Cx)(c:Ic):TI:=λσ H Q=>∃ρ S τ,Rel X.K ρ H S/\SR X.K ρ H τ σ/\(c τ S).post (λs d=>∀ρ' H' J,Ext ρ ρ' H H'->Rel X.K ρ' H' d->JR X.K s J ρ' H'->Q J H') (XE X ρ H)
abbrev AI (X:Cx)(tg iter:aC)(c:Ic):Prop:=PI X tg iter<|tI X c
abbrev kN (xs:ae):Src:=⟨xs.length,λi _=>xs[i]?,λ_=>true⟩
abbrev m7 (n k:Nat):Src:=⟨k,λi S=>(gH S n).bind (·[i]?),λS=>match gH S n with
 | some ys=>decide (ys.length<=k)
 | none=>false⟩
abbrev qg (lo hi:Int):Src:=⟨(hi-lo).toNat,λi _=>if i<(hi-lo).toNat then some (.int<|lo+i)else none,λ_=>true⟩
abbrev oA (c:Ex):Ic:=λτ S=>(c τ S).bind λa S1=>match a with
 | .tup xs=>.ok (kN xs) S1
 | .frz xs=>.ok (kN xs) S1
 | .ref n=>opt (gH S1 n) λxs=>.ok (m7 n xs.length) S1
 | .str x=>gd (x.cps.all (· < 128)=true) (.ok (kN<|x.cps.toList.map λc=>.str ⟨#[c]⟩) S1)
 | _=>.no
section
variable {X:Cx}{pos:Pos}{tg e a:aC}
def J8{K:aq}{j:Hp}{p:aj}(h:jT K j p vs)(r:AVs K ρ0 j xs vs):JR K (kN xs) (MQ K p) ρ0 j where
 go:=λi S H ρ x e R g=>by
  obtain⟨v,c,d⟩:=(AVs.iz e r).get g;have hs:=e.N7 h;refine⟨⟨vs,v,hs,c⟩,λw H' ⟨e1,y⟩=>?_⟩;subst e1;have:=y vs hs;rw[c]at this
  cases this
  exact⟨.refl,R,d⟩
 stop:=λS H ρ e R _=>⟨vs,e.N7 h,by rw[<- r.length];exact aL _⟩
def HX{K:aq}{j:Hp}{p:aj}(h:Fz K j p vs)(r:AVs K ρ0 j xs vs):JR K (kN xs) (Mx K p) ρ0 j where
 go:=λi S H ρ x e R g=>by
  obtain⟨v,c,d⟩:=(AVs.iz e r).get g;have hs:=(e.fz h).Ho;refine⟨⟨vs,v,hs,c⟩,λw H' ⟨e1,y⟩=>?_⟩;subst e1;have:=y vs hs;rw[c]at this
  cases this
  exact⟨.refl,R,d⟩
 stop:=λS H ρ e R _=>⟨vs,(e.fz h).Ho,by rw[<- r.length];exact aL _⟩
def Il{K:aq}{J:bb}{L:Hp}{p:aj}{n k:Nat}(h:J[n]?=some p):JR K (m7 n k) (Mx K p) J L where
 go:=λi S H ρ x e R g=>by
  obtain⟨ys,hn,j⟩:=cA.mp<|show(gH S n).bind (·[i]?)=some x from g;obtain⟨c,h1,r⟩:=R.lst (e.get h)<|gU hn;obtain⟨v,d,f⟩:=r.get j;refine⟨⟨c,v,kr.of h1,d⟩,λw H' ⟨e1,y⟩=>?_⟩;subst e1;have:=y c<|kr.of h1;rw[d]at this
  cases this
  exact⟨.refl,R,f⟩
 stop:=λS H ρ e R g=>by
  have g:(match gH S n with
   | some ys=>decide (ys.length<=k)
   | none=>false)=true:=g
  cases hn:gH S n with
  | none=>rw[hn]at g;cases g
  | some ys=>
   rw[hn]at g;obtain⟨c,h1,r⟩:=R.lst (e.get h)<|gU hn;exact⟨c,kr.of h1,by rw[<- r.length];exact cU g⟩
def JI{K:aq}{j:Hp}{lo hi:Int}:JR K (qg lo hi) (Mr lo (hi-lo).toNat) ρ0 j where
 go:=λi S H ρ x e R g=>by
  have g:(if i<(hi-lo).toNat then some (A.int<|lo+i)else none)=some x:=g;by_cases c:i<(hi-lo).toNat
  ·rw[aJ c]at g
   cases g
   refine⟨c,λw H' ⟨e1,y⟩=>?_⟩;subst e1 y;exact⟨.refl,R,.int _⟩
  ·rw[aI c]at g;cases g
 stop:=λS H ρ e R _=>aL _
def HC{K:aq}{J:Hp}{x:Str}:JR K (kN<|x.cps.toList.map λc=>A.str ⟨#[c]⟩) (Nm x) ρ0 J where
 go:=λi S H ρ y e R g=>by
  have g:(x.cps.toList.map λc=>A.str ⟨#[c]⟩)[i]?=some y:=g;rw[aY]at g;obtain⟨c,hc,rfl⟩:=bx.mp g;rw[cL]at hc;refine⟨(c9.mp hc).1,λw H' ⟨e1,j,d,f⟩=>?_⟩;rw[hc]at d
  cases d
  subst e1 f;exact⟨.refl,R,.str _⟩
 stop:=λS H ρ e R _=>by
  show(x.cps.toList.map λc=>A.str ⟨#[c]⟩).length=x.cps.size;rw[aN,bA]
def oH{c:Ex}(J:AE X e c):AI X tg e (oA c):=λpins s σ H Q I h9=>by
 z_go;have d:=gG h
 cases hc:c τ S with
 | no=>rw[hc]at d;exact d.elim
 | ex x S1=>
  rw[hc]at d;exact DF J pins s σ H Q I ⟨ρ,S,τ,R,r,by rw[hc];exact d⟩
 | ok a S1=>
  rw[hc]at d
  cases a with
  | tup xs=>
   refine DF J pins s σ H Q I ⟨ρ,S,τ,R,r,?_⟩;rw[hc];intro ρ1 H1 x e1 R1 f
   cases f with
   | tup h1 r1=>exact⟨_,rfl,⟨_,(jT.of h1)⟩,d ρ1 H1 _ e1 R1<|J8 (jT.of h1) r1⟩
  | frz xs=>
   refine zF J pins s σ H Q I ⟨ρ,S,τ,R,r,?_⟩;rw[hc];intro ρ1 H1 x e1 R1 f
   cases f with
   | frz h1 r1=>exact⟨_,rfl,⟨_,h1.Ho⟩,d ρ1 H1 _ e1 R1<|HX h1 r1⟩
  | ref n=>
   obtain⟨xs,hn,d⟩:=gT d;refine zF J pins s σ H Q I ⟨ρ,S,τ,R,r,?_⟩;rw[hc];intro ρ1 H1 x e1 R1 f
   cases f with
   | ref g=>
    obtain⟨k,h1,r1⟩:=R1.lst g<|gU hn;exact⟨_,rfl,⟨_,kr.of h1⟩,d ρ1 H1 _ e1 R1<|Il g⟩
  | str x=>
   obtain⟨j,d⟩:=gQ d;refine HM J pins s σ H Q I ⟨ρ,S,τ,R,r,?_⟩;rw[hc];intro ρ1 H1 v e1 R1 f
   cases f with
   | str=>exact⟨x,rfl,j,d ρ1 H1 _ e1 R1 HC⟩
  | _=>exact d.elim
abbrev bnd (i:Int):Prop:=-(2 ^ 62)<=i/\i<2 ^ 62
instance (i:Int):Decidable (bnd i):=by unfold bnd;infer_instance
abbrev o9 (c:Ex):Ic:=λτ S=>(c τ S).bind λa S1=>match a with
 | .int j=>gd (bnd j) (.ok (qg 0 j) S1)
 | _=>.no
def oF{p:Pos}{c:Ex}(J:X.mg "range" = none)(L:AE X a c)(hg:Gl X "range"<|>ε)(hs:starEach [a] X.env=[(false,eval a X.env)]<|>ε):AI X tg (.Call (.Name "range" p) [a] [] pos) (o9 c):=λpins s σ H Q I h9=>by
 z_go;refine AA hg J (kR L qF hs) hs pins s σ H Q I ⟨ρ,S,τ,R,r,gB (gG h) .refl λx S1 h1 ρ1 H1 v e1 R1 e=>?_⟩
 cases e with
 | int j=>
  obtain⟨d,h1⟩:=gQ h1;exact⟨_,rfl,d.1,d.2,by have:=h1 ρ1 H1 _ e1 R1 JI;rwa [Int.sub_zero]at this⟩
 | _=>exact h1.elim
abbrev jO (s:Src)(g:Tg)(c:Sm):Nat->Nat->Sm
 | 0,_=>λτ S=>if s.fin S then .nx τ S else .no
 | k+1,i=>λτ S=>match s.get i S with
  | none=>.no
  | some x=>.of (g x τ S) λf S1=>match c f S1 with
   | .nx d e=>jO s g c k (i+1) d e
   | .ct d e=>jO s g c k (i+1) d e
   | .bk d e=>.nx d e
   | r=>r
abbrev pN (src:Ic)(g:Tg)(c:Sm):Sm:=λτ S=>.of (src τ S) λs S1=>jO s g c s.k 0 τ S1
def o6{iter:aC}{src:Ic}{g:Tg}{c:Sm}(hp:PassesOwn (model X.prog X.w) X.A X.env X.xe)(hc:X.calm=true)(hi:AI X tg iter src)(hg:AG X tg g)(hb:Fi X body c)
  (hs:(∀x,foldedSetIterable iter X.env x=pure x)<|>ζ):AS X (.For tg iter body [] pos) (pN src g c):=PS.imp (IM hp hc hi hg hb hs) λD σ H h9=>by
 z_go;refine⟨ρ,S,τ,R,r,gB (of_post h) .refl λs S1 h1 ρ1 H1 J e1 R1 jr=>?_⟩;refine⟨λi m G H'=>m+i=s.k/\∃ρ' B d,Ext ρ1 ρ' H1 H'/\Rel X.K ρ' H' B/\SR X.K ρ' H' d G/\rX X ρ' H' D (jO s g c m i d B),⟨s.k,rfl,ρ1,S1,τ,.refl,R1,r.ext e1,rX.ext h1 e1⟩,?_⟩;rintro i m U H2 ⟨hm,j,C,L,e2,R2,r2,p⟩
 cases m with
 | zero=>
  left;have p:rX X j H2 D (if s.fin C then .nx L C else .no):=p
  cases hf:s.fin C with
  | false=>rw[hf]at p;exact p.elim
  | true=>
   rw[hf]at p;refine⟨by rw[show i=s.k by lia];exact jr.stop C H2 j e2.toExt0 R2 hf,p j H2 U .refl R2 r2⟩
 | succ m=>
  right;have p:rX X j H2 D (match s.get i C with
   | none=>.no
   | some x=>.of (g x L C) λτ1 S1=>match c τ1 S1 with
    | .nx d B=>jO s g c m (i+1) d B
    | .ct d B=>jO s g c m (i+1) d B
    | .bk d B=>.nx d B
    | r=>r):=p
  cases Y:s.get i C with
  | none=>rw[Y]at p;exact p.elim
  | some x=>
   rw[Y]at p;obtain⟨hgo,hy⟩:=jr.go i C H2 j x e2.toExt0 R2 Y;refine⟨hgo,λG H'=>m+(i+1)=s.k/\∃ρ' B d,Ext ρ1 ρ' H1 H'/\Rel X.K ρ' H' B/\SR X.K ρ' H' d G/\rX X ρ' H' D (jO s g c m (i+1) d B),λG H' z=>⟨m,c6 _,z⟩,λv H3 y=>?_⟩;obtain⟨T,R3,v3⟩:=hy v H3 y;refine⟨j,C,L,x,R3,r2.ext T,v3,gB (of_post p) T λO S4 q Z H4 σ4 e4 R4 r4=>⟨Z,S4,O,R4,r4,?_⟩⟩;have e:=T.trans e4
   cases f:c O S4 with
   | nx F N=>rw[f]at q;exact λM H5 W P R5 V=>⟨(),M,N,F,(e2.trans e).trans P,R5,V,rX.ext q<|e.trans P⟩
   | ct F N=>rw[f]at q;exact λM H5 W P R5 V=>⟨(),M,N,F,(e2.trans e).trans P,R5,V,rX.ext q<|e.trans P⟩
   | bk F N=>rw[f]at q;exact zP.ext q e
   | rt x5 N=>rw[f]at q;exact pS.ext q e
   | ex x5 N=>rw[f]at q;exact XE.ext q e
   | no=>rw[f]at q;exact q
end
abbrev R.nR {α β:Type}(r:R α)(f:α->gE->R β):R β:=match r with
 | .ok a S=>f a S
 | _=>.no
def nM{α β:Type}{r:R α}{f:α->gE->R β}{b:β}(h:r.nR f=.ok b S2):∃a S,r=.ok a S/\f a S=.ok b S2:=by
 cases r with
 | ok a S=>exact⟨a,S,rfl,h⟩
 | ex _ _=>cases h
 | no=>cases h
def wK{α β:Type}{r:R α}{f:α->gE->R β}{P:β->gE->Prop}{E:Str->gE->Prop}(h:(r.nR f).post P E):∃a S,r=.ok a S/\(f a S).post P E:=by
 cases r with
 | ok a S=>exact⟨a,S,rfl,h⟩
 | ex _ _=>exact h.elim
 | no=>exact h.elim
def Jk{α β:Type}{o:Option β}{f:β->R α}{a:α}(h:opt o f=.ok a S):∃b,o=some b/\f b=.ok a S:=by
 cases o with
 | none=>cases h
 | some b=>exact⟨b,rfl,h⟩
abbrev jG (s:Src)(g:Tg)(t:Te)(e:Ex):Nat->Nat->ae->gE->R (ae)
 | 0,_=>λ_ S=>if s.fin S then .ok [] S else .no
 | k+1,i=>λτ S=>opt (s.get i S) λx=>(g x τ S).nR λc S1=>(t c S1).nR λb d=>match b with
  | true=>(e c d).nR λy j=>(jG s g t e k (i+1) c j).nR λys f=>.ok (y::ys) f
  | false=>jG s g t e k (i+1) c d
abbrev jL (cap:List<|bo)(τ:ae):ae:=cap.map λo=>match o with
 | some j=>τ.getD j .unb
 | none=>.unb
abbrev jF (cap:List<|bo)(src:Ic)(g:Tg)(t:Te)(e:Ex):Ex:=λτ S=>(src τ S).bind λs S1=>(jG s g t e s.k 0 (jL cap τ) S1).nR λys c=>newL ys c
abbrev rH:Te:=λ_ S=>.ok true S
def v5{s:Src}{g:Tg}{t:Te}{e:Ex}{k:Nat}{T:Prop}(h:jG s g t e (k+1) i τ S=.ok zs S')
  (q:∀x τ1 S1 b S2,s.get i S=some x->g x τ S=.ok τ1 S1->t τ1 S1=.ok b S2->(b=true->∃y S3 ws,e τ1 S2=.ok y S3/\jG s g t e k (i+1) τ1 S3=.ok ws S'/\zs=y::ws)->(b=false->jG s g t e k (i+1) τ1 S2=.ok zs S')->T):T:=by
 obtain⟨x,d,h⟩:=Jk h;obtain⟨τ1,S1,h1,h⟩:=nM h;obtain⟨b,S2,j,h⟩:=nM h;refine q x τ1 S1 b S2 d h1 j (λc=>?_) λc=>?_
 ·subst c;obtain⟨y,S3,f,h⟩:=nM h;obtain⟨ws,p,m,h⟩:=nM h
  cases h
  exact⟨y,S3,ws,f,m,rfl⟩
 ·subst c;exact h
structure Out (ρ1:bb)(H1:Hp)(D:aj)(accV:List V)(ρ:bb)(H:Hp):Prop where
 e0:Ext0 ρ1 ρ H1 H
 fr:∀a u,a≠D->H1 a=some u->a∉ρ1->H a=some u
 nw:∀a∈ρ,a∈ρ1\/H1 a=none
 nD:D∉ρ
 hD:H D=some (.lst accV)
def Out.stay{H1 L M:Hp}(o:Out ρ1 H1 D accV ρ3 L)(J:H1 D=none)(j:Ext ρ3 ρ7 L M):Out ρ1 H1 D accV ρ7 M:=by
 refine⟨⟨o.e0.pre.trans j.pre,λa u i h=>j.im a u i<|o.e0.im a u i h⟩,λa u na d e=>j.fr a u (o.fr a u na d e) λz=>(o.nw a z).elim e λz=>by(rw[z]at d;cases d),λa g=>?_,λz=>(j.nw D z).elim o.nD λz=>by(rw[o.hD]at z;cases z),j.fr D _ o.hD o.nD⟩;by_cases c:a∈ρ1
 ·exact .inl c
 ·right
  cases q:H1 a with
  | none=>rfl
  | some u=>
   have f:a≠D:=gX q J
   rcases j.nw a g with z|z
   ·exact((o.nw a z).elim c λz=>by(rw[z]at q;cases q)).elim
   ·rw[o.fr a u f q c]at z;cases z
def Out.put{H1 H:Hp}(o:Out ρ1 H1 D accV ρ H)(ex:Ext0 ρ ρ H<|upd H D<|.lst vs):Out ρ1 H1 D vs ρ (upd H D<|.lst vs):=
 ⟨⟨o.e0.pre,λa u i h=>ex.im a u i<|o.e0.im a u i h⟩,λa u na d c=>by rw[gS na];exact o.fr a u na d c,o.nw,o.nD,jn⟩
def Out.end{H1 H:Hp}{D:aj}(o:Out ρ1 H1 D accV ρ H)(j:H1 D=none):Ext ρ1 (ρ++[D]) H1 H:=by
 refine⟨⟨o.e0.pre.trans<|fV _ _,o.e0.im⟩,λa u c na=>o.fr a u (gX c j) c na,λa d=>?_⟩
 rcases bh.mp d with z|z
 ·exact o.nw a z
 ·have:a=D:=by simpa using z
  rw[this];exact .inr j
abbrev Cq (K:aq)(ρ1:bb)(H1:Hp)(D:aj)(ys:ae)(k:Nat)(E:bb->Hp->Prop)(P:Nat->Nat->ae->gE->ae->Prop)(i m:Nat)(σ:L2.St)(H:Hp):Prop:=
 m+i=k/\∃ρ S τ acc zs accV,Out ρ1 H1 D accV ρ H/\E ρ H/\Rel K ρ H S/\SR K ρ H τ σ/\AVs K ρ H acc accV/\P m i τ S zs/\acc++zs=ys
section
variable {K:aq}{ρ1 ρ:bb}{H1 H:Hp}{D:aj}{ys acc zs:ae}{accV:List V}{k i m:Nat}{E:bb->Hp->Prop}{P:Nat->Nat->ae->gE->ae->Prop}{σ:L2.St}{S:gE}{τ:ae}
def Cq.el{T:Prop}(h:Cq K ρ1 H1 D ys k E P i m σ H)(q:∀ρ S τ acc zs accV,m+i=k->Out ρ1 H1 D accV ρ H->E ρ H->Rel K ρ H S->SR K ρ H τ σ->AVs K ρ H acc accV->P m i τ S zs->acc++zs=ys->T):T:=by
 obtain⟨d,ρ,S,τ,acc,zs,accV,h1,g,e,p,f,j,c⟩:=h;exact q ρ S τ acc zs accV d h1 g e p f j c
def Cq.of(j:m+i=k)(o:Out ρ1 H1 D accV ρ H)(e:E ρ H)(R:Rel K ρ H S)(r:SR K ρ H τ σ)(v:AVs K ρ H acc accV)(p:P m i τ S zs)(q:acc++zs=ys):Cq K ρ1 H1 D ys k E P i m σ H:=⟨j,ρ,S,τ,acc,zs,accV,o,e,R,r,v,p,q⟩
end
abbrev Mt (K:aq)(c:Ex):TE:=λσ H Q=>∃ρ S τ a d,Rel K ρ H S/\SR K ρ H τ σ/\c τ S=.ok a d/\∀ρ' H' v,Ext ρ ρ' H H'->Rel K ρ' H' d->AV K ρ' H' a v->Q v H'
abbrev Mk (K:aq)(c:Te):TT:=λσ H Q=>∃ρ S τ a d,Rel K ρ H S/\SR K ρ H τ σ/\c τ S=.ok a d/\∀ρ' H',Ext ρ ρ' H H'->Rel K ρ' H' d->Q a H'
abbrev Ml (K:aq)(g:Tg):TG:=λv σ H Q=>∃ρ S τ a d e,Rel K ρ H S/\SR K ρ H τ σ/\AV K ρ H a v/\g a τ S=.ok d e/\∀ρ' H' c,Ext ρ ρ' H H'->Rel K ρ' H' e->SR K ρ' H' d c->Q c H'
section
variable {X:Cx}{pos:Pos}{tg iter elt e:aC}{ifs:List aC}{scope:Scope}{N:ar}{cap:List (bo)}{src:Ic}{g:Tg}{t:Te}{c:Ex}
def AE.e0{K:aq}(hK:X.K=K)(h:AE X e c):PE X e (Mt K c):=PE.imp h λσ H Q ⟨ρ,S,τ,a,g,R,r,hc,q⟩=>⟨ρ,S,τ,by rw[hK];exact R,by rw[hK];exact r,by rw[hc];exact λρ' H' v e f d=>q ρ' H' v e (by rw[<- hK];exact f)<|by rw[<- hK];exact d⟩
def AG.g0{K:aq}(hK:X.K=K)(h:AG X e g):PG X e (Ml K g):=by
 subst hK;refine PG.imp h λv σ H Q h9=>?_;obtain⟨ρ,S,τ,a,c,d,R,r,va,hc,q⟩:=h9;exact⟨ρ,S,τ,a,R,r,va,by rw[hc];exact q⟩
abbrev MX (X:Cx)(ifs:List aC)(t:Te):Prop:=Ke X ifs<|Mk X.K t
def pR:MX X [] rH:=λpins s σ H Q I ⟨ρ,S,τ,a,c,R,r,hc,q⟩=>Fg pins s σ H Q I<|by cases hc;exact q ρ H .refl R
def Lf{K:aq}{H:Hp}(r:SR K ρ H τ σ)(cap:List<|bo):SR K ρ H (jL cap τ) (cap.map<|IZ σ):=by
 refine⟨by simp[jL],λi a h=>?_⟩;unfold jL at h;rw[aY]at h;obtain⟨o,f,e⟩:=bx.mp h
 cases o with
 | none=>exact .inl e.symm
 | some j=>
  have e:τ.getD j .unb=a:=e
  cases c:τ[j]? with
  | none=>rw[aM,c]at e;exact .inl e.symm
  | some b=>
   rw[aM,c]at e;have e:b=a:=e;subst e
   rcases r.at j b c with z|⟨v,h1,d⟩
   ·exact .inl z
   ·exact .inr ⟨v,by rw[aY,f];show some ((σ[j]?).getD none)=_;rw[h1];rfl,d⟩
def Rel.LF{K:aq}{H:Hp}{p:aj}(R:Rel K ρ H S)(j:H p=none):p∉ρ:=λf=>by
 obtain⟨n,hn,e⟩:=List.mem_iff_getElem.mp f;have g:n<S.length:=by rw[<- R.len];exact hn
 have:=R.at n p S[n] (by rw[aG hn,e]) (aG g)
 cases c:S[n]with
 | lst xs=>rw[c]at this;obtain⟨d,h,_⟩:=this;rw[j]at h;cases h
 | dct _|dki _|dks _|dcp _=>rw[c]at this;obtain⟨d,h,_⟩:=this;rw[j]at h;cases h
 | dcf _|dkf _=>rw[c]at this;obtain⟨_,d,h,_⟩:=this;rw[j]at h;cases h
 | ins _ _=>rw[c]at this;obtain⟨_,_,h⟩:=this;rw[j]at h;cases h
def uM(σ:L2.St)(H:Hp)(Q:VK)(h:tE X (jF cap src g t c) σ H Q):Lm cap (tI X src) (Ml X.K g) (Mk X.K t) (Mt X.K c) σ H Q:=by
 kcj_m;refine⟨ρ,S,τ,R,r,gB (gG h) .refl λs S1 h1 ρ1 H1 J e1 R1 jr D hD=>?_⟩;obtain⟨ys,M,hcg,h1⟩:=wK h1;obtain⟨G,h1⟩:=gQ h1;have h1:pS X ρ H Q (.ref M.length) (M++[.lst ys]):=h1;obtain⟨eD,RD⟩:=R1.im (u:=.lst []) hD;refine⟨Cq X.K ρ1 H1 D ys s.k (λ_ _=>True) λm i τ S zs=>jG s g t c m i τ S=.ok zs M,⟨s.k,.of rfl ⟨eD.toExt0,λa u na hu _=>by rw[gS na];exact hu,λa ha=>.inl ha,R1.LF hD,jn⟩ trivial RD (Lf ((r.ext e1).ext eD) cap) .nil hcg rfl⟩,?_⟩;intro i m σ3 H3 hw;refine hw.el λf L V acc zs accV hm B _ U r3 j d e=>?_;clear hw
 cases m with
 | zero=>
  left;have d:(if s.fin L then Am.R.ok [] L else .no)=.ok zs M:=d
  cases hf:s.fin L with
  | false=>rw[hf]at d;cases d
  | true=>
   rw[hf]at d
   cases d
   rw[bO]at e;subst e;refine⟨by rw[show i=s.k by lia];exact jr.stop _ H3 f B.e0 U hf,?_⟩;obtain⟨RT,gt⟩:=U.take B.hD B.nD j;exact h1 (f++[D]) H3 _ (e1.trans<|B.end hD) RT<|.ref gt
 | succ m=>
  right;refine v5 d λx q S4 b S5 hx T Y hT hF=>?_;have jg:=jr.go i L H3 f x B.e0 U hx;refine⟨jg.1,λv H4 y=>?_⟩;obtain⟨e4,R4,v4⟩:=jg.2 v H4 y;refine⟨f,L,V,x,q,S4,R4,r3.ext e4,v4,T,λZ H5 σ5 e5 R5 O=>⟨Z,S4,q,b,S5,R5,O,Y,λρ6 H6 N R6=>?_⟩⟩;have p:=(e4.trans e5).trans N
  cases b with
  | false=>
   dsimp only;rw[aI bE];exact⟨m,c6 _,.of () (B.stay hD p) trivial R6 (O.ext N) (j.ext p) (hF rfl) e⟩
  | true=>
   dsimp only;rw[aJ rfl];obtain⟨y,S6,ws,he6,W,F⟩:=hT rfl;refine⟨ρ6,S5,q,y,S6,R6,O.ext N,he6,λρ7 H7 w e7 R7 v7=>?_⟩;have P:=B.stay hD<|p.trans e7;obtain⟨C,R8⟩:=R7.out (ws:=accV++[w]) P.hD P.nD;have l1:=j.length;refine⟨accV,P.hD,?_,m,c6 _,.of () (P.put C) trivial R8 ((O.ext<|N.trans e7).iz C) (AVs.iz C<|(j.ext<|p.trans e7).append<|.one v7) W ?_⟩
   ·have:(acc++zs).length<=sizeLine:=by rw[e];exact G
    rw[F,aS,aW]at this
    lia
   ·rw[bG,<- e,F];rfl
def uz(hc:X.calm=true)(j:CpScope X scope N cap)(hi:AI X tg iter src)(hg:∀C s₀ H₀ ex,AG (ji X scope N C s₀ H₀ ex) tg g)(J:∀C s₀ H₀ ex,MX (ji X scope N C s₀ H₀ ex) ifs t)(L:∀C s₀ H₀ ex,AE (ji X scope N C s₀ H₀ ex) elt c)
  (hs:(∀x,foldedSetIterable iter X.env x=pure x)<|>ζ):AE X (.ListComp elt [⟨tg,iter,ifs,0⟩] scope pos) (jF cap src g t c):=
 PE.imp (LH hc j hi (g:=Ml X.K g) (tc:=Mk X.K t) (te:=Mt X.K c) (λC s₀ H₀ ex=>(hg C s₀ H₀ ex).g0 rfl) (λC s₀ H₀ ex=>J C s₀ H₀ ex) (λC s₀ H₀ ex=>(L C s₀ H₀ ex).e0 rfl) hs) uM
def E8{i:Nat}{x:Str}{j:Pos}(M:X.N.Nodup)(hc:X.calm=true)(U:CpScope X scope N cap)(hi:AI X tg iter src)(hg:∀C s₀ H₀ ex,AG (ji X scope N C s₀ H₀ ex) tg g)(Z:∀C s₀ H₀ ex,MX (ji X scope N C s₀ H₀ ex) ifs t)(he:∀C s₀ H₀ ex,AE (ji X scope N C s₀ H₀ ex) elt c)
  (J:X.N[i]?=some x<|>ε) (hx:Loc X.env.scope x:=by first|exact Or.inl rfl|exact Or.inr rfl)
  (L:(swapsWith (.ListComp elt [⟨tg,iter,ifs,0⟩] scope pos) (some<|.Name x pos') j.line X.env=pure true)<|>ε) (hf:X.fn x=true\/X.env.scope.names.lookup x=some .local<|>γ)
  (hs:(∀x,foldedSetIterable iter X.env x=pure x)<|>ζ):AS X (.Assign [.Name x pos'] (.ListComp elt [⟨tg,iter,ifs,0⟩] scope pos) j) (iy (jF cap src g t c)<|iD i):=
 PS.imp (BZ M J hx hc U hi (g:=Ml X.K g) (tc:=Mk X.K t) (te:=Mt X.K c) (λC s₀ H₀ ex=>(hg C s₀ H₀ ex).g0 rfl) (λC s₀ H₀ ex=>Z C s₀ H₀ ex) (λC s₀ H₀ ex=>(he C s₀ H₀ ex).e0 rfl) L hf hs) λD σ H ⟨ρ,S,τ,R,r,h⟩=>
  uM σ H _ ⟨ρ,S,τ,R,r,gB (of_post h) .refl λa S1 h1 ρ1 H1 x e1 R1 d=>h1 ρ1 H1 _ e1 R1<|(r.ext e1).set d⟩
end
abbrev A.lst? (S:gE):A->Option (ae)
 | .ref n=>gH S n
 | _=>none
abbrev Mu (f:A->ae->gE->R A)(co:Ex)(d:kq):Ex:=λτ S=>(co τ S).bind λo S1=>opt (o.lst? S1) λ_=>(d τ S1).bind λe c=>f o e c
abbrev NL (f:A->ae->gE->R A)(co:Ex):Ex:=λτ S=>(co τ S).bind λo S1=>opt (o.lst? S1) λ_=>f o [] S1
abbrev rM (X:Cx)(f:A->ae->gE->R A):V->List V->Hp->VK->Prop:=λx d H Q=>∃ρ S o c,Rel X.K ρ H S/\AV X.K ρ H o x/\AVs X.K ρ H c d/\(f o c S).post (pS X ρ H Q) (XE X ρ H)
section
variable {X:Cx}{apos cpos:Pos}{o e:aC}{es:List aC}{name:Str}{id:String}{f:A->ae->gE->R A}{co:Ex}{d:kq}
def lst?_ty{K:aq}{H:Hp}{x:A}{v:V}(R:Rel K ρ H S)(h:AV K ρ H x v)(e:x.lst? S=some xs):Ma K "list" v H:=by
 cases h with
 | ref h=>
  obtain⟨c,h1,_⟩:=R.lst h<|gU e;exact .inl ⟨rfl,c,kr.of h1⟩
 | _=>cases e
def Hl(slot:Slot "list" name id)(Z:typeOf (.builtin id)=pure (.type "method_descriptor"))(hm:wg X id<|rM X f)(ho:AE X o co)(ha:AL X (e::es) d)
  (L:attributeBase o name X.env (eval o X.env)=eval o X.env<|>ε)
  (U:(((backTo cpos<|starEach (e::es) X.env).all (λx=>!x.1) && (backToKw cpos<|keywordEach [] X.env).all (λx=>x.1.isSome)
   && decide ((e::es).length+([]:List Keyword).length+(if ([]:List Keyword).isEmpty then 0 else 1)<30))=true)<|>ε)
  (M:(apos.endLine == cpos.line)=true<|>ε) (hs:starEach (e::es) X.env=(false,eval e X.env)::starEach es X.env<|>ε) (J:((backTo cpos<|starEach es X.env).any (·.1)=false)<|>ε) :
  AE X (.Call (.Attribute o name apos) (e::es) [] cpos) (Mu f co d):=PE.imp (G1 PySem.F.plainAttrs_list slot Z hm ho ha L U M hs J) λσ H Q h9=>by
 z_go;refine⟨ρ,S,τ,R,r,gB (gG h) .refl λx S1 h1 ρ1 H1 v e1 R1 g=>?_⟩;obtain⟨xs,q,h1⟩:=gT h1;refine⟨lst?_ty R1 g q,ρ1,S1,τ,R1,r.ext e1,gB (gG h1) e1 λm j p c H2 B e2 R2 k=>?_⟩;exact⟨c,j,x,m,R2,g.ext e2,k,gB p (e1.trans e2) λ_ _ z=>z.ext<|e1.trans e2⟩
abbrev mE (o:A)(j:ae)(S:gE):R A:=match o,j with
 | .ref n,[x]=>opt (gH S n) λxs=>gd (xs.length<sizeLine) (.ok .non<|S.set n<|.lst<|xs++[x])
 | _,_=>.no
def vP:wg X "list.append" (rM X mE):=λpins s σ H x m v us Q I rx g h9=>by
 obtain⟨ρ,S,o,e,R,f,va,h⟩:=h9
 cases f with
 | @ref p n c=>
  match e,va,h with
  | [],_,h=>exact h.elim
  | _::_::_,_,h=>exact h.elim
  | [y],va,h=>
   obtain⟨w,rfl,hw⟩:=Ak va;kst_p;obtain⟨d,h⟩:=gQ h;obtain⟨j,h1,r⟩:=R.lst c<|gU hn;obtain⟨ex,k⟩:=R.put c (gU hn)<|r.append<|.one hw;exact sM pins s σ H _ _ v us Q I rx g ⟨p,j,w,rfl,rfl,h1,by rw[<- r.length];exact d,h _ _ _ ex k .non⟩
 | _=>exact h.elim
end
abbrev jM (N:ar)(m:Sm)(j:ae)(S:gE):R A:=match m (j++List.replicate (N.length-j.length) .unb) S with
 | .rt a d=>.ok a d
 | .nx _ d=>.ok .non d
 | .ex c d=>.ex c d
 | _=>.no
abbrev pK (K:aq)(n:Nat)(F:ae->gE->R A):Sp:=λc H Q _=>c.length=n/\∃ρ S e a d,Rel K ρ H S/\AVs K ρ H e c/\F e S=.ok a d/\∀ρ' H' v,Ext ρ ρ' H H'->Rel K ρ' H' d->AV K ρ' H' a v->Q v H'
def F8{K:aq}{H:Hp}{j:ae}(r:AVs K ρ H j vs)(N:ar):SR K ρ H (j++List.replicate (N.length-j.length) .unb) (L2.start N vs):=by
 have d:=r.length;refine⟨by unfold L2.start;simp[d],λi a h=>?_⟩;by_cases hi:i<j.length
 ·rw[bI hi]at h;obtain⟨v,hv,c⟩:=r.get h;exact .inr ⟨v,by unfold L2.start;rw[bI<|by simp;lia,aY,hv];rfl,c⟩
 ·rw[c7 (),List.getElem?_replicate]at h;split at h
  ·exact .inl (aX h).symm
  ·cases h
section
variable {P:ah}{w:af}{K:aq}{mg:Str->bi}{base:ak}
def uB{x:Str}{st:aE}{f:aj}{N ps:ar}{k:Nat}{m:Sm}(F:Fun K x qual st f fd)(Z:FnScope N ps<|gP st)
  (U:∀(cdv:aa) (A:az) (outer:List Env) (s:aA) (H:Hp) (E:XK),Room k (A.deeper<|envOfC qual (gP st) s.heap.objs.size f cdv)->Fi (xy oq P w K mg base N qual (gP st) f cdv A outer s H E).LD (jX st) m) :
  FnOk P w K mg base oq (k+1) f fd ps (pK K ps.length<|jM N m):=by
 refine F.ok Z (λC H Q E h=>h.1) λcdv B outer s H C Q E G ⟨O,ρ,S,p,a,M,R,va,d,q⟩=>⟨_,U cdv B outer s H E G,ρ,S,_,R,F8 va N,?_⟩;unfold jM at d
 cases g:m (p++List.replicate (N.length-p.length) .unb) S with
 | rt b j=>rw[g]at d;cases d;exact q
 | nx τ j=>rw[g]at d;cases d;exact λρ' H' J e L _=>q ρ' H' _ e L .non
 | bk τ j=>rw[g]at d;cases d
 | ct τ j=>rw[g]at d;cases d
 | ex c j=>rw[g]at d;cases d
 | no=>rw[g]at d;cases d
end
meta abbrev pW (P:ah)(w:af)(K:aq)(mg:Str->bi)(base:ak)(k:Nat)(x:Str)(ps:ar)(F:ae->gE->R A):Prop:=Kn P w K mg base k x ps<|pK K ps.length F
abbrev eFn (F:ae->gE->R A)(d:kq):Ex:=λτ S=>(d τ S).bind λe S1=>match F e S1 with
 | .ok a c=>.ok a c
 | _=>.no
section
variable {X:Cx}{pos p:Pos}{e:aC}{es:List aC}{x:Str}{ps:ar}{k:Nat}{F:ae->gE->R A}{d:kq}
def Hr(G:pW X.prog X.w X.K X.mg X.base k x ps F)(M:Room k X.A)(U:AL X (e::es) d)(Z:∀τ S as S',d τ S=.ok as S'->as.length=ps.length)(hg:Gl X x<|>ε)(L:(x == ("__debug__" : Str))=false<|>δ)
  (hs:starEach (e::es) X.env=(false,eval e X.env)::starEach es X.env<|>ε) (J:((backTo pos<|starEach es X.env).any (·.1)=false)<|>ε):AE X (.Call (.Name x p) (e::es) [] pos) (eFn F d):=
 PE.imp (Lb G M U hg L hs J) λσ H Q h9=>by
  z_go;refine⟨ρ,S,τ,R,r,?_⟩;have f:=gG h
  cases hd:d τ S with
  | no=>rw[hd]at f;exact f
  | ex c S1=>rw[hd]at f;exact f
  | ok as S1=>
   rw[hd]at f;intro ρ1 H1 B e1 R1 q;rw[bO];refine⟨by rw[<- q.length];exact Z τ S as S1 hd,ρ1,S1,as,?_⟩;have f:Am.R.post (match F as S1 with
    | .ok a g=>.ok a g
    | _=>.no) (pS X ρ H Q) (XE X ρ H):=f
   cases m:F as S1 with
   | ok a g=>rw[m]at f;exact⟨a,g,R1,q,rfl,λj H2 v e2=>f j H2 v<|e1.trans e2⟩
   | ex c g=>rw[m]at f;exact f.elim
   | no=>rw[m]at f;exact f.elim
def yF:∀τ S as S',gM τ S=.ok as S'->as.length=0:=λτ S as S' h=>by cases h;rfl
def qk{c:Ex}{d:kq}{n:Nat}(h:∀τ S as S',d τ S=.ok as S'->as.length=n):∀τ S as S',gz c d τ S=.ok as S'->as.length=n+1:=λτ S as S' e=>by
 unfold gz at e
 cases hc:c τ S with
 | ok a S1=>
  rw[hc]at e
  cases hd:d τ S1 with
  | ok bs f=>
   have e:R.bind (d τ S1) (λas f=>.ok (a::as) f)=.ok as S':=e;rw[hd]at e;cases e;rw[aW,h τ S1 bs _ hd]
  | ex _ _=>
   have e:R.bind (d τ S1) (λas f=>.ok (a::as) f)=.ok as S':=e;rw[hd]at e;cases e
  | no=>
   have e:R.bind (d τ S1) (λas f=>.ok (a::as) f)=.ok as S':=e;rw[hd]at e;cases e
 | ex _ _=>rw[hc]at e;cases e
 | no=>rw[hc]at e;cases e
end
section
variable {X:Cx}{pos:Pos}{a b c:aC}
abbrev N2 (j:A->A->gE->R A)(J:Ex)(τ:ae)(b k:A)(S:gE):R A:=match k with
 | .bl true=>(J τ S).bind λc d=>j b c d
 | .bl false=>.ok (.bl false) S
 | _=>.no
abbrev Km (f j:A->A->gE->R A)(ca cb J:Ex):Ex:=λτ S=>(ca τ S).bind λa S1=>(cb τ S1).bind λb c=>(f a b c).bind λk d=>N2 j J τ b k d
def HA{f Z:A->A->gE->R A}{ca cb cc:Ex}{H:Hp}{Q:VK}(h:tE X (Km f Z ca cb cc) σ H Q):D7 (r2 X f) (r2 X Z) (tE X ca) (tE X cb) (tE X cc) σ H Q:=by
 kcj_m;refine⟨ρ,S,τ,R,r,gB (gG h) .refl λa S1 h1 ρ1 H1 x e1 R1 K=>⟨ρ1,S1,τ,R1,r.ext e1,gB (gG h1) e1 λb J P p H2 y e2 R2 C=>?_⟩⟩;have g:=e1.trans e2;refine⟨p,J,a,b,R2,K.ext e2,C,gB (gG P) g λk M m e U z F G O=>?_⟩;have d:=g.trans F
 cases k with
 | bl k=>
  cases sH O
  refine⟨k,rfl,?_⟩
  cases k with
  | true=>
   rw[aJ rfl];exact⟨e,M,τ,G,r.ext d,gB (gG m) d λc L T j W w B N V=>⟨j,L,b,c,N,C.ext<|F.trans B,V,gB T (d.trans B) λ_ _ q=>q.ext<|d.trans B⟩⟩
  | false=>
   rw[aI bE];exact m e U _ d G<|.bl false
 | _=>exact m.elim
def L1{f J:A->A->gE->R A}{ca cb L:Ex}(M:jh X (compareOp op)<|r2 X f)(j:jh X (compareOp op')<|r2 X J)(U:AE X a ca)(Z:AE X b cb)(hc:AE X c L)(hm:lastMarks [op,op'] [b,c]=false<|>η) :
  AT X (.Compare a [op,op'] [b,c] pos) (nK<|Km f J ca cb L):=PT.imp (Eh M j U Z hc hm) λσ H Q h9=>by
 z_go;refine HA ⟨ρ,S,τ,R,r,gB (gG h) .refl λc S1 h1 ρ1 H1 x e1 R1 d=>?_⟩
 cases c with
 | bl k=>cases sH d;exact⟨k,rfl,h1 ρ1 H1 e1 R1⟩
 | _=>exact h1.elim
end
section
variable {X:Cx}{pos apos cpos:Pos}{a b o e:aC}{es:List aC}
abbrev rT (x:A)(S:gE):R A:=match x with
 | .int i=>gd (i.natAbs.log2<1920) (.ok (.str<|toString i) S)
 | _=>.no
def tR:g7 X (.type "str") (rN X<|f1 rT):=g7.imp sY λc H Q h0=>by
 ksr_p;clear h0
 cases hv with
 | int i=>
  obtain⟨hc,h⟩:=gQ h;exact⟨i,rfl,hc,h _ _ _ .refl R<|.str _⟩
 | _=>exact h.elim
abbrev wJ (o:A)(j:ae)(S:gE):R A:=match o,j with
 | .str y,[.str z]=>gd ((z.length == 0)=false/\y.length<=sizeLine/\(Txt.split y z).length<=sizeLine) (.ok (.ref S.length)<|S++[.lst<|(Txt.split y z).map .str])
 | _,_=>.no
theorem vt{K:aq}{H:Hp}:∀(ys:ar),AVs K ρ H (ys.map .str) (ys.map .str)
 | []=>.nil
 | y::ys=>.cons (.str y)<|vt ys
def m_split:wg X "str.split" (rM X wJ):=λpins s σ H x j v us Q I rx g h9=>by
 obtain⟨ρ,S,o,d,R,e,va,h⟩:=h9
 cases e with
 | str y=>
  match d,va,h with
  | [],_,h=>exact h.elim
  | w::_::_,_,h=>exact(by cases w<;>exact h.elim)
  | [w],va,h=>
   obtain⟨k,rfl,hw⟩:=Ak va
   cases hw with
   | str z=>
    obtain⟨⟨h1,f,c⟩,h⟩:=gQ h;exact Cu pins s σ H _ _ v us Q I rx g ⟨y,z,rfl,rfl,h1,f,c,i_ R (vt _) .refl h⟩
   | _=>exact h.elim
 | _=>exact h.elim
abbrev jw (o:A)(j:ae)(S:gE):R A:=match o,j with
 | .str y,[.str z]=>.ok (.bl<|0+z.length<=y.length && Builtin.Str.subAt y z 0) S
 | _,_=>.no
def nB:wg X "str.startswith" (rM X jw):=λpins s σ H x f v us Q I rx e h9=>by
 obtain⟨ρ,S,o,c,R,d,va,h⟩:=h9
 cases d with
 | str y=>
  match c,va,h with
  | [],_,h=>exact h.elim
  | w::_::_,_,h=>exact(by cases w<;>exact h.elim)
  | [w],va,h=>
   obtain⟨g,rfl,hw⟩:=Ak va
   cases hw with
   | str z=>exact rB pins s σ H _ _ v us Q I rx e ⟨y,z,rfl,rfl,h _ _ _ .refl R<|.bl _⟩
   | _=>exact h.elim
 | _=>exact h.elim
abbrev F2 (x y:A)(S:gE):R A:=match x,y with
 | .str i,.str j=>.ok (.bl<|!(Builtin.Str.occurrences j i 0 j.length 1).isEmpty) S
 | _,_=>.no
def KG:jh X (compareOp .In) (r2 X F2):=jh.imp An λx y H Q h9=>by
 x_go
 cases va<;>first|exact h.elim|(cases vb<;>first|exact h.elim|exact⟨_,_,rfl,rfl,h _ _ _ .refl R<|.bl _⟩)
def A2{x:Str}{pos:Pos}(j:X.mg x=some (.str y t))(hg:Gl X x<|>ε)(hd:(x == ("__debug__" : Str))=false<|>δ):AE X (.Name x pos) (eC<|.str y):=
 PE.imp (yx (v:=.str y) hg j ⟨t,rfl⟩ hd) λσ H Q ⟨ρ,S,τ,R,r,h⟩=>h ρ H _ .refl R<|.str y
abbrev A.isStr:A->Bool
 | .str _=>true
 | _=>false
abbrev EB (f:A->ae->gE->R A)(co:Ex)(d:kq):Ex:=λτ S=>(co τ S).bind λo S1=>gd (o.isStr=true)<|(d τ S1).bind λe c=>f o e c
def o_{id:String}{f:A->ae->gE->R A}{co:Ex}{d:kq}(slot:Slot "str" name id)(Z:typeOf (.builtin id)=pure (.type "method_descriptor"))(hm:wg X id<|rM X f)(ho:AE X o co)(ha:AL X (e::es) d)
  (L:attributeBase o name X.env (eval o X.env)=eval o X.env<|>ε)
  (U:(((backTo cpos<|starEach (e::es) X.env).all (λx=>!x.1) && (backToKw cpos<|keywordEach [] X.env).all (λx=>x.1.isSome)
   && decide ((e::es).length+([]:List Keyword).length+(if ([]:List Keyword).isEmpty then 0 else 1)<30))=true)<|>ε)
  (M:(apos.endLine == cpos.line)=true<|>ε) (hs:starEach (e::es) X.env=(false,eval e X.env)::starEach es X.env<|>ε) (J:((backTo cpos<|starEach es X.env).any (·.1)=false)<|>ε) :
  AE X (.Call (.Attribute o name apos) (e::es) [] cpos) (EB f co d):=PE.imp (G1 PySem.F.plainAttrs_str slot Z hm ho ha L U M hs J) λσ H Q h9=>by
 z_go;refine⟨ρ,S,τ,R,r,gB (gG h) .refl λx S1 h1 ρ1 H1 v e1 R1 g=>?_⟩;obtain⟨q,h1⟩:=gQ h1;have ty:Ma X.K "str" v H1:=by
  cases g with
  | str z=>rfl
  | _=>cases q
 refine⟨ty,ρ1,S1,τ,R1,r.ext e1,gB (gG h1) e1 λm j p c H2 B e2 R2 k=>?_⟩;exact⟨c,j,x,m,R2,g.ext e2,k,gB p (e1.trans e2) λ_ _ z=>z.ext<|e1.trans e2⟩
abbrev Ek (a b:A)(S:gE):R A:=match a,b with
 | .str z,.int n=>gd (0<=n/\n<=1) (.ok (.str<|if n=1 then z else Str.empty) S)
 | _,_=>.no
def Ik:jh X (binaryOp .Mult) (r2 X Ek):=jh.imp FZ λx y H Q h9=>by
 x_go
 cases va<;>first|exact h.elim|(cases vb<;>first|exact h.elim|(obtain⟨hc,h⟩:=gQ h;exact⟨_,_,rfl,rfl,hc.1,hc.2,h _ _ _ .refl R<|.str _⟩))
end
abbrev MH (F:ae->gE->R A)(d:kq):Ex:=λτ S=>(d τ S).bind λc S1=>F c S1
abbrev FO:List (Str ⊕ Ex)->ae->gE->R Unit
 | [],_,S=>.ok Unit.unit S
 | .inl _::ps,τ,S=>FO ps τ S
 | .inr e::ps,τ,S=>(e τ S).bind λv S1=>match v with
  | .int i=>gd (i.natAbs.log2<64) (FO ps τ S1)
  | _=>.no
abbrev Ja (c:Str)(ps:List<|Str ⊕ Ex):Sm:=λτ S=>.of (FO ps τ S) λ_ S1=>.ex c S1
abbrev Ms (X:Cx):List (Str ⊕ Ex)->List (Str ⊕ TE)
 | []=>[]
 | .inl x::ps=>.inl x::Ms X ps
 | .inr e::ps=>.inr (tE X e)::Ms X ps
abbrev G7 (i:Nat):RS->RS
 | .nx τ S=>.nx (τ.set i .unb) S
 | .bk τ S=>.bk (τ.set i .unb) S
 | .ct τ S=>.ct (τ.set i .unb) S
 | .rt a S=>.rt a S
 | _=>.no
abbrev Lh (i n:Nat)(cs:ar)(c d:Sm):Sm:=λτ S=>match c τ S with
 | .ex x S1=>if x∈cs then G7 i (d ((List.replicate n .unb).set i<|.exn x) S1)else .no
 | r=>r
abbrev M0 (f:Str->bn)(c:Ex):Ex:=λτ S=>(c τ S).bind λv S1=>match v with
 | .exn x=>opt (f x) λb=>.ok (.bl b) S1
 | _=>.no
abbrev OL (tb:List<|Str×Bool):Str->bn:=λx=>tb.lookup x
abbrev KH (F:ae->gE->R A)(d:kq):Ex:=λτ S=>match d τ S with
 | .ok c S1=>F c S1
 | _=>.no
section
variable {d:kq}
abbrev LX (t:Te)(c d:Sm):Sm:=λτ S=>match t τ S with
 | .ok true S1=>c τ S1
 | .ok false S1=>d τ S1
 | _=>.no
end
abbrev GV (i:Nat)(cs:ar)(c d:Sm):Sm:=λτ S=>match c τ S with
 | .ex x S1=>if x∈cs then G7 i (d (τ.set i<|.exn x) S1)else .no
 | r=>r
abbrev J1:Sm:=λ_ _=>.no
def sE{st:aE}:AS X st J1:=PS.imp Cc λD σ H ⟨ρ,S,τ,R,r,h⟩=>h.elim
def Aw{K:aq}{H:Hp}{a:aj}{ns:ag}{F:ae->gE->R A}(j:F5 H)(J:kr K H a<|ns.map V.int)(h:∃S',F [.frz<|ns.map .int] []=.ok (.bl true) S'):pK K 1 F [.ref a] H (λv _=>v=.bl true) λ_ _ _=>False:=by
 obtain⟨S',h⟩:=h;have fz:Fz K H a (ns.map V.int):=by
  rcases J with(h|⟨o,h⟩)|h
  ·rcases j a with z|⟨c,xs,z⟩
   ·rw[h]at z;cases z
   ·rw[h]at z;cases z
  ·exact .inl ⟨o,h⟩
  ·exact .inr h
 exact⟨rfl,[],[],_,_,S',⟨rfl,List.nodup_nil,λn a o h=>by simp at h⟩,.cons (.frz fz<|qE ns) .nil,h,λρ' H' v _ _ hv=>sH hv⟩
def CC{P:ba->Prop}(h:∀a0,P [a0]):∀us:ba,us.length=1->P us
 | [_],_=>h _
def Ka{P:ba->Prop}(h:∀a0 a1,P [a0,a1]):∀us:ba,us.length=2->P us
 | [_,_],_=>h _ _
end Am
namespace Am
open PySem L2
section
variable {α β:Type}{a b:A}{S S1:gE}{τ:ae}{x:α}
@[simp]def R.jR {f:α->gE->R β}:(R.ok x S).bind f=f x S:=rfl
@[simp]def R.yw {f:α->gE->R β}{c:Str}:(R.ex c S:R α).bind f=.ex c S:=rfl
@[simp]def R.i7 {f:α->gE->R β}:(R.ok x S).nR f=f x S:=rfl
@[simp]def RS.of_ok {f:α->gE->RS}:RS.of (R.ok x S) f=f x S:=rfl
@[simp]def RS.GB {f:α->gE->RS}{c:Str}:RS.of (R.ex c S:R α) f=.ex c S:=rfl
@[simp]def iT {f:β->R α}{y:β}:opt (some y) f=f y:=rfl
@[simp]def xY {r:R α}:gd True r=r:=aJ trivial
theorem g_{c:Prop}[Decidable c]{r:R α}(h:c):gd c r=r:=aJ h
@[simp]def jx {i:Nat}:gA i τ S=bif (τ.getD i .unb).jf then .no else .ok (τ.getD i .unb) S:=by unfold gA;cases(τ.getD i .unb).jf<;>rfl
@[simp]def yr {xs:ae}:A.jf (.tup xs)=false:=rfl
@[simp]def ze {xs:ae}:A.jf (.frz xs)=false:=rfl
@[simp]def zN {i:Int}:A.jf (.int i)=false:=rfl
@[simp]def A7 {i:Bool}:A.jf (.bl i)=false:=rfl
@[simp]def xU {i:Str}:A.jf (.str i)=false:=rfl
@[simp]def zH {i:Nat}:A.jf (.ref i)=false:=rfl
@[simp]def zZ:A.jf .non=false:=rfl
@[simp]def yR {i j:Int}:A.jf (.rng i j)=false:=rfl
@[simp]def y_ {c:Str}:A.jf (.exn c)=false:=rfl
@[simp]def Hi:eC a τ S=.ok a S:=rfl
abbrev Lw (f:A->A->gE->R A)(cb:Ex)(τ:ae)(a:A)(S:gE):R A:=(cb τ S).bind<|f a
@[simp]def yZ {f:A->A->gE->R A}{cb:Ex}:Lw f cb τ a S=(cb τ S).bind (f a):=rfl
@[simp]def zK {f:A->A->gE->R A}{ca cb:Ex}:gI f ca cb τ S=(ca τ S).bind (Lw f cb τ):=rfl
@[simp]def DG {f:A->gE->R A}{ca:Ex}:Kq f ca τ S=(ca τ S).bind f:=rfl
@[simp]def yO {c:Ex}:k7 c τ S=(c τ S).bind λa S1=>opt (a.AB S1) λb=>.ok b S1:=rfl
abbrev aB (a:A)(S:gE):R Bool:=match a with
 | .bl b=>.ok b S
 | _=>.no
@[simp]def Gw {b:Bool}:aB (.bl b) S=.ok b S:=rfl
@[simp]def Ck {c:Ex}:nK c τ S=(c τ S).bind aB:=rfl
@[simp]def yz {c:Te}:oG c τ S=(c τ S).bind λb S1=>.ok (!b) S1:=rfl
abbrev JP (d:Te)(τ:ae)(b:Bool)(S:gE):R Bool:=match b with|true=>d τ S|false=>.ok false S
abbrev NF (d:Te)(τ:ae)(b:Bool)(S:gE):R Bool:=match b with|true=>.ok true S|false=>d τ S
@[simp]def Dl {d:Te}:JP d τ true S=d τ S:=rfl
@[simp]def B6 {d:Te}:JP d τ false S=.ok false S:=rfl
@[simp]def GJ {d:Te}:NF d τ true S=.ok true S:=rfl
@[simp]def GR {d:Te}:NF d τ false S=d τ S:=rfl
@[simp]def yp {c d:Te}:Ct c d τ S=(c τ S).bind (JP d τ):=rfl
@[simp]def D4 {c d:Te}:B9 c d τ S=(c τ S).bind (NF d τ):=rfl
@[simp]def zh:rH τ S=.ok true S:=rfl
abbrev Et (d:Ex)(τ:ae)(a:A)(S:gE):R A:=match a with | .bl true=>d τ S | .bl false=>.ok (.bl false) S|_=>.no
abbrev HQ (d:Ex)(τ:ae)(a:A)(S:gE):R A:=match a with | .bl true=>.ok (.bl true) S | .bl false=>d τ S|_=>.no
@[simp]def zB {d:Ex}:Et d τ (.bl true) S=d τ S:=rfl
@[simp]def zx {d:Ex}:Et d τ (.bl false) S=.ok (.bl false) S:=rfl
@[simp]def CQ {d:Ex}:HQ d τ (.bl true) S=.ok (.bl true) S:=rfl
@[simp]def Bw {d:Ex}:HQ d τ (.bl false) S=d τ S:=rfl
@[simp]def yT {c d:Ex}:xJ c d τ S=(c τ S).bind (Et d τ):=by
 unfold xJ
 cases c τ S with
 | ok a S1=>cases a<;>first|rfl|(rename_i b;cases b<;>rfl)
 | _=>rfl
@[simp]def Ed {c d:Ex}:N4 c d τ S=(c τ S).bind (HQ d τ):=by
 unfold N4
 cases c τ S with
 | ok a S1=>cases a<;>first|rfl|(rename_i b;cases b<;>rfl)
 | _=>rfl
abbrev GU (a:A)(S:gE):R A:=match a with | .bl b=>.ok (.bl !b) S|_=>.no
@[simp]def uW {b:Bool}:GU (.bl b) S=.ok (.bl !b) S:=rfl
@[simp]def zM {c:Ex}:Jg c τ S=(c τ S).bind GU:=rfl
abbrev JB (c d:Ex)(τ:ae)(b:Bool)(S:gE):R A:=match b with|true=>c τ S|false=>d τ S
@[simp]def D9 {c d:Ex}:JB c d τ true S=c τ S:=rfl
@[simp]def CS {c d:Ex}:JB c d τ false S=d τ S:=rfl
@[simp]def Du {t:Te}{c d:Ex}:xh t c d τ S=(t τ S).bind (JB c d τ):=rfl
@[simp]def yW:gM τ S=.ok [] S:=rfl
abbrev w9 (a:A)(j:ae)(S:gE):R (ae):=.ok (a::j) S
abbrev GN (d:kq)(τ:ae)(a:A)(S:gE):R (ae):=(d τ S).bind<|w9 a
@[simp]def rW {j:ae}:w9 a j S=.ok (a::j) S:=rfl
@[simp]def u7 {d:kq}:GN d τ a S=(d τ S).bind (w9 a):=rfl
@[simp]def vj {c:Ex}{d:kq}:gz c d τ S=(c τ S).bind (GN d τ):=rfl
@[simp]def zG {d:kq}:Di d τ S=(d τ S).bind λas S1=>gd (as.length<=sizeLine) (.ok (.tup as) S1):=rfl
@[simp]def zd {d:kq}:mj d τ S=(d τ S).bind newL:=rfl
theorem iw{j:ae}(h:j.length<=16777216):newL j S=.ok (.ref S.length) (S++[.lst j]):=g_<|by rw[bS];exact h
@[simp]def vz {f:ae->gE->R A}{d:kq}:g6 f d τ S=(d τ S).bind f:=rfl
abbrev Nd (r:R A):R A:=match r with
 | .ok a S=>.ok a S
 | _=>.no
@[simp]def C8:Nd (.ok a S)=.ok a S:=rfl
abbrev Og (f:ae->gE->R A)(j:ae)(S:gE):R A:=Nd<|f j S
@[simp]def BI {f:ae->gE->R A}{j:ae}:Og f j S=Nd (f j S):=rfl
@[simp]def Bc {f:ae->gE->R A}{d:kq}:eFn f d τ S=(d τ S).bind (Og f):=rfl
@[simp]def Gn {g:A->gE->R A}:f1 g [a] S=g a S:=rfl
@[simp]def Hj {g:A->A->gE->R A}:f2 g [a,b] S=g a b S:=rfl
abbrev IC (h:Pt)(τ:ae)(a:A)(l:bj)(S:gE):R A:=(h τ S).bind<|Ld a l
abbrev N3 (l h:Pt)(τ:ae)(a:A)(S:gE):R A:=(l τ S).bind<|IC h τ a
@[simp]def xQ {h:Pt}{l:bj}:IC h τ a l S=(h τ S).bind (Ld a l):=rfl
@[simp]def Dw {l h:Pt}:N3 l h τ a S=(l τ S).bind (IC h τ a):=rfl
@[simp]def BA {c:Ex}{l h:Pt}:Mj c l h τ S=(c τ S).bind (N3 l h τ):=rfl
@[simp]def vc:lM τ S=.ok none S:=rfl
abbrev Oe (a:A)(S:gE):R (bj):=match a with
 | .int i=>.ok (some i) S
 | _=>.no
@[simp]def z0 {i:Int}:Oe (.int i) S=.ok (some i) S:=rfl
@[simp]def vO {c:Ex}:mw c τ S=(c τ S).bind Oe:=rfl
abbrev J4 (f:A->ae->gE->R A)(d:kq)(τ:ae)(o:A)(S:gE)(_:ae):R A:=(d τ S).bind<|f o
abbrev NV (f:A->ae->gE->R A)(d:kq)(τ:ae)(o:A)(S:gE):R A:=opt (o.lst? S)<|J4 f d τ o S
@[simp]def yg {f:A->ae->gE->R A}{d:kq}{xs:ae}:J4 f d τ a S xs=(d τ S).bind (f a):=rfl
@[simp]def A4 {f:A->ae->gE->R A}{d:kq}:NV f d τ a S=opt (a.lst? S) (J4 f d τ a S):=rfl
@[simp]def Bu {f:A->ae->gE->R A}{c:Ex}{d:kq}:Mu f c d τ S=(c τ S).bind (NV f d τ):=rfl
@[simp]def zX {f:A->ae->gE->R A}{c:Ex}:NL f c τ S=(c τ S).bind λo S1=>opt (o.lst? S1) λ_=>f o [] S1:=rfl
@[simp]def lst?_ref {n:Nat}:A.lst? S (.ref n)=gH S n:=rfl
abbrev RS.seq (r:RS)(d:Sm):RS:=match r with
 | .nx τ S=>d τ S
 | r=>r
@[simp]def RS.C2 {d:Sm}:RS.seq (.nx τ S) d=d τ S:=rfl
@[simp]def RS.Cs {d:Sm}:RS.seq (.rt a S) d=.rt a S:=rfl
@[simp]def RS.DL {d:Sm}{c:Str}:RS.seq (.ex c S) d=.ex c S:=rfl
@[simp]def RS.BP {d:Sm}:RS.seq (.bk τ S) d=.bk τ S:=rfl
@[simp]def RS.Bx {d:Sm}:RS.seq (.ct τ S) d=.ct τ S:=rfl
@[simp]def zA {c d:Sm}:gY c d τ S=RS.seq (c τ S) d:=by unfold gY RS.seq;cases c τ S<;>rfl
@[simp]def zV:j6 τ S=.nx τ S:=rfl
@[simp]def se:Hw τ S=.bk τ S:=rfl
@[simp]def vH:LM τ S=.ct τ S:=rfl
@[simp]def vh {e:Ex}:yD e τ S=RS.of (e τ S) λ_ S1=>.nx τ S1:=rfl
@[simp]def za {e:Ex}:iR e τ S=RS.of (e τ S) .rt:=rfl
@[simp]def uN:LI τ S=.rt .non S:=rfl
abbrev Mf (c d:Sm)(τ:ae)(b:Bool)(S:gE):RS:=match b with|true=>c τ S|false=>d τ S
@[simp]def GH {c d:Sm}:Mf c d τ true S=c τ S:=rfl
@[simp]def G0 {c d:Sm}:Mf c d τ false S=d τ S:=rfl
@[simp]def CM {t:Te}{c d:Sm}:rC t c d τ S=RS.of (t τ S) (Mf c d τ):=rfl
abbrev K6 (g:Tg)(τ:ae)(a:A)(S:gE):RS:=RS.of (g a τ S) .nx
@[simp]def xV {g:Tg}:K6 g τ a S=RS.of (g a τ S) .nx:=rfl
@[simp]def xR {e:Ex}{g:Tg}:iy e g τ S=RS.of (e τ S) (K6 g τ):=rfl
@[simp]def Nj {i:Nat}:iD i a τ S=.ok (τ.set i a) S:=rfl
abbrev HE (a o:A)(τ:ae)(i:A)(S:gE):R (ae):=(vJ o i a S).bind λ_ c=>.ok τ c
abbrev Ob (j:Ex)(τ:ae)(a o:A)(S:gE):R (ae):=(j τ S).bind<|HE a o τ
@[simp]def zw {o i:A}:HE a o τ i S=(vJ o i a S).bind λ_ S3=>.ok τ S3:=rfl
@[simp]def CU {j:Ex}{o:A}:Ob j τ a o S=(j τ S).bind (HE a o τ):=rfl
@[simp]def CI {co j:Ex}:Mc co j a τ S=(co τ S).bind (Ob j τ a):=rfl
@[simp]def Cy {n:Nat}{gs:EC}{xs:ae}:F4 n gs (.tup xs) τ S=gd (xs.length=n) (gs xs τ S):=rfl
@[simp]def Cg:FU [] τ S=.ok τ S:=rfl
@[simp]def Dq {g:Tg}{gs:EC}{j:ae}:vF g gs (a::j) τ S=(g a τ S).bind (gs j):=rfl
abbrev Ow (i j:Nat)(τ:ae)(J:ae)(S:gE):RS:=match J with
 | [a,b]=>.nx ((τ.set i a).set j b) S
 | _=>.no
@[simp]def CL {i j:Nat}:Ow i j τ [a,b] S=.nx ((τ.set i a).set j b) S:=rfl
@[simp]def zj {i j:Nat}{c:kq}:Mz i j c τ S=RS.of (c τ S) (Ow i j τ):=rfl
abbrev B7 (i:Nat)(τ:ae)(c:A)(S:gE):RS:=.nx (τ.set i c) S
abbrev Lk (i:Nat)(f:A->A->gE->R A)(τ:ae)(b:A)(S:gE):RS:=.of (f (τ.getD i .unb) b S)<|B7 i τ
@[simp]def vX {i:Nat}:B7 i τ a S=.nx (τ.set i a) S:=rfl
@[simp]def yf {i:Nat}{f:A->A->gE->R A}:Lk i f τ a S=.of (f (τ.getD i .unb) a S) (B7 i τ):=rfl
@[simp]def yd {i:Nat}{f:A->A->gE->R A}{e:Ex}:C3 i f e τ S=bif (τ.getD i .unb).jf then .no else .of (e τ S) (Lk i f τ):=by
 unfold C3;cases(τ.getD i .unb).jf<;>rfl
abbrev MJ (o i:A)(τ:ae)(z:A)(S:gE):RS:=.of (vJ o i z S) λ_ c=>.nx τ c
abbrev M6 (f:A->A->gE->R A)(o i x:A)(τ:ae)(y:A)(S:gE):RS:=.of (f x y S)<|MJ o i τ
abbrev M5 (j:Ex)(f:A->A->gE->R A)(o i:A)(τ:ae)(x:A)(S:gE):RS:=.of (j τ S)<|M6 f o i x τ
abbrev M_ (j:Ex)(f:A->A->gE->R A)(o:A)(τ:ae)(i:A)(S:gE):RS:=.of (FP o i S)<|M5 j f o i τ
abbrev Oo (j J:Ex)(f:A->A->gE->R A)(τ:ae)(o:A)(S:gE):RS:=.of (j τ S)<|M_ J f o τ
@[simp]def CH {o i:A}:MJ o i τ a S=.of (vJ o i a S) λ_ S6=>.nx τ S6:=rfl
@[simp]def DH {f:A->A->gE->R A}{o i x:A}:M6 f o i x τ a S=.of (f x a S) (MJ o i τ):=rfl
@[simp]def DN {j:Ex}{f:A->A->gE->R A}{o i:A}:M5 j f o i τ a S=.of (j τ S) (M6 f o i a τ):=rfl
@[simp]def Ey {j:Ex}{f:A->A->gE->R A}{o:A}:M_ j f o τ a S=.of (FP o a S) (M5 j f o a τ):=rfl
@[simp]def Ce {j J:Ex}{f:A->A->gE->R A}:Oo j J f τ a S=.of (j τ S) (M_ J f a τ):=rfl
@[simp]def uT {co j J:Ex}{f:A->A->gE->R A}:LQ co j J f τ S=RS.of (co τ S) (Oo j J f τ):=rfl
abbrev RS.end (r:RS):R A:=match r with
 | .rt a d=>.ok a d
 | .nx _ d=>.ok .non d
 | .ex c d=>.ex c d
 | _=>.no
@[simp]def RS.Cz:RS.end (.rt a S)=.ok a S:=rfl
@[simp]def RS.BE:RS.end (.nx τ S)=.ok .non S:=rfl
@[simp]def RS.CK {c:Str}:RS.end (.ex c S)=.ex c S:=rfl
theorem p6 {N:ar}{m:Sm}{j:ae}:jM N m j S=RS.end (m (j++List.replicate (N.length-j.length) .unb) S):=by
 unfold jM RS.end;cases m (j++List.replicate (N.length-j.length) .unb) S<;>rfl
@[simp]def CJ {i j:Int}:iE (.int i) (.int j) S=.ok (.int<|i+j) S:=rfl
@[simp]def By {i j:Int}:aSub (.int i) (.int j) S=.ok (.int<|i-j) S:=rfl
@[simp]def C7 {i j:Int}:M1 (.int i) (.int j) S=.ok (.int<|i+j) S:=rfl
theorem uJ{i j:Int}(h:-18446744073709551616<i)(h':i<18446744073709551616):j3 (.int i) (.int j) S=.ok (.int<|i * j) S:=g_<|by unfold vY;simp;left;exact⟨by omega,by omega⟩
def mul_r{i j:Int}(h:-18446744073709551616<j)(h':j<18446744073709551616):j3 (.int i) (.int j) S=.ok (.int<|i * j) S:=g_<|by unfold vY;simp;right;exact⟨(),()⟩
def sN{i j:Int}(h:0<j):pI (.int i) (.int j) S=.ok (.int<|i % j) S:=g_ h
@[simp]def Gs {i j:Int}:Kr (.int i) (.int j) S=.ok (.bl<|decide<|i<j) S:=rfl
@[simp]def Hq {i j:Int}:FN (.int i) (.int j) S=.ok (.bl<|decide<|i<=j) S:=rfl
@[simp]def GY {i j:Int}:Mp (.int i) (.int j) S=.ok (.bl<|decide<|j<i) S:=rfl
@[simp]def GS {i j:Int}:LZ (.int i) (.int j) S=.ok (.bl<|decide<|j<=i) S:=rfl
@[simp]def GC {i j:Bool}:GA false (.bl i) (.bl j) S=.ok (.bl<|i == j) S:=rfl
@[simp]def Eu {i j:Bool}:GA true (.bl i) (.bl j) S=.ok (.bl<|i != j) S:=rfl
@[simp]def C9 {i:Int}:wV (.int i) S=.ok (.int<|-i) S:=rfl
@[simp]def Em {xs:ae}:oN (.tup xs) S=.ok (.int xs.length) S:=rfl
@[simp]def C1 {xs:ae}:oN (.frz xs) S=.ok (.int xs.length) S:=rfl
@[simp]def Ei {n:Nat}:oN (.ref n) S=opt (gH S n) λxs=>.ok (.int xs.length) S:=rfl
@[simp]def CG {i:Int}:w_ (.int i) S=.ok (.int<|if i<0 then -i else i) S:=rfl
@[simp]def yh {i j:Int}:Ef (.int i) (.int j) S=.ok (.int<|if j>i then j else i) S:=rfl
@[simp]def yE {i j:Int}:Eg (.int i) (.int j) S=.ok (.int<|if j<i then j else i) S:=rfl
@[simp]def zy {i:Int}:n9 (.int i) S=.ok (.int i) S:=rfl
@[simp]def yK {i:Bool}:n9 (.bl i) S=.ok (.int<|if i then 1 else 0) S:=rfl
@[simp]def r8 {i j:Int}:Fb (.int i) (.int j) S=.ok (.rng i j) S:=rfl
@[simp]def GG {xs:ae}{i:Int}:mX (.tup xs) (.int i) S=opt (k9 xs i) λx=>.ok x S:=rfl
@[simp]def GZ {xs:ae}{i:Int}:mX (.frz xs) (.int i) S=opt (k9 xs i) λx=>.ok x S:=rfl
@[simp]def GW {n:Nat}{i:Int}:mX (.ref n) (.int i) S=opt (gH S n) λxs=>opt (k9 xs i) λx=>.ok x S:=rfl
@[simp]def CN {n:Nat}{k:Int}:vJ (.ref n) (.int k) a S=opt (gH S n) λxs=>opt (ye xs.length k) λj=>.ok Unit.unit (S.set n<|.lst<|xs.set j a):=rfl
@[simp]def Bm {n:Nat}{i:Int}:FP (.ref n) (.int i) S=opt (gH S n) λxs=>gd (0<=i) (opt (xs[i.toNat]?) λx=>.ok x S):=rfl
@[simp]def yk {xs:ae}:sJ (.tup xs) S=.ok (.ref S.length) (S++[.lst xs]):=rfl
@[simp]def xK {xs:ae}:sJ (.frz xs) S=.ok (.ref S.length) (S++[.lst xs]):=rfl
@[simp]def zz {n:Nat}:sJ (.ref n) S=opt (gH S n) λxs=>.ok (.ref S.length) (S++[.lst xs]):=rfl
@[simp]def uR {xs:ae}:BV (.tup xs) S=.ok (.tup xs) S:=rfl
@[simp]def uE {n:Nat}:BV (.ref n) S=opt (gH S n) λxs=>.ok (.tup xs) S:=rfl
@[simp]def A5 {xs:ae}:K2 (.tup xs) S=.ok (.tup xs.reverse) S:=rfl
@[simp]def CY {n:Nat}:K2 (.ref n) S=opt (gH S n) λxs=>.ok (.ref S.length) (S++[.lst xs.reverse]):=rfl
@[simp]def Gp {n:Nat}{l u:bj}:Ld (.ref n) l u S=opt (gH S n) λxs=>.ok (.ref S.length) (S++[.lst<|tY xs l u]):=rfl
@[simp]def qA {n:Nat}:mE (.ref n) [a] S=opt (gH S n) λxs=>gd (xs.length<sizeLine) (.ok .non<|S.set n<|.lst<|xs++[a]):=rfl
@[simp]def BO {b:Bool}:A.AB (.bl b) S=some b:=rfl
@[simp]def yG {i:Int}:A.AB (.int i) S=some (i != 0):=rfl
theorem IA{o:O}:(S++[o])[S.length]?=some o:=by simp
@[simp]def g9 {xs:ae}:gH (S++[.lst xs]) S.length=some xs:=qH IA
theorem o5{n:Nat}(h:gH S n=some xs):n<S.length:=(aP.mp<|gU h).1
def ug{n:Nat}(h:n<S.length):gH (S.set n<|.lst ys) n=some ys:=qH<|cB h
def wB{n:Nat}(h:n≠m):gH (S.set n<|.lst ys) m=gH S m:=by unfold gH;rw[ck h]
def qt{xs:ae}{i:Int}{k:Nat}{x:A}(h:i=k)(j:xs[k]?=some x):k9 xs i=some x:=by rw[h];exact FJ j
def DT{n:Nat}{i:Int}{k:Nat}(h:i=k)(j:k<n):ye n i=some k:=by
 subst h;unfold ye;rw[aJ (),aJ ()];simp
end
structure Kp (b:Nat->Prop)(S S':gE):Prop where
 len:S.length<=S'.length
 obj:∀(n:Nat) (o:O),¬b n->S[n]?=some o->S'[n]?=some o
meta abbrev ou:=Kp λ_=>False
def Kp.lst{b:Nat->Prop}(h:Kp b S S')(n:Nat)(xs:ae)(j:¬b n)(e:gH S n=some xs):gH S' n=some xs:=qH<|h.obj n _ j<|gU e
def Kp.refl{b:Nat->Prop}:Kp b S S:=⟨aL _,λ_ _ _ h=>h⟩
def Kp.trans{b:Nat->Prop}(h:Kp b S S1)(h':Kp b S1 S2):Kp b S S2:=⟨bU h.len h'.len,λn xs c e=>h'.obj n xs c<|h.obj n xs c e⟩
def ur{S:gE}{n:Nat}(e:S[n]?=some o):n<S.length:=(aP.mp e).1
def Kp.lay{b:Nat->Prop}{o:O}(h:Kp b S S1):Kp b S (S1++[o]):=⟨bU h.len<|by simp,λn xs c e=>by
 have:=h.obj n xs c e;rw[bI<|ur this];exact this⟩
def Kp.M9{b:Nat->Prop}{S S1:gE}(h:Kp b S S1)(j:b m\/S.length<=m):Kp b S (S1.set m o):=⟨by rw[gp];exact h.len,λn xs c e=>by
 have:m≠n:=λz=>by
  subst z
  rcases j with z|z
  ·exact c z
  ·exact absurd (ur e) ()
 rw[ck this];exact h.obj n xs c e⟩
def Kp.set{b:Nat->Prop}{S S1:gE}(h:Kp b S S1)(j:b m\/S.length<=m):Kp b S (S1.set m<|.lst ys):=h.M9 j
def Kp.mono{b c:Nat->Prop}{S:gE}(h:Kp b S S1)(j:∀n,n<S.length->b n->c n):Kp c S S1:=⟨h.len,λn xs hc e=>h.obj n xs (λz=>hc<|j n (ur e) z) e⟩
def Kp.of0{b:Nat->Prop}(h:ou S S1):Kp b S S1:=h.mono λ_ _ z=>z.elim
def Kp.old{b c:Nat->Prop}{S:gE}(h:Kp b S S1)(h':Kp c S1 S2)(hc:∀n,n<S.length->¬b n->¬c n):Kp b S S2:=⟨bU h.len h'.len,λn xs d e=>h'.obj n xs (hc n (ur e) d)<|h.obj n xs d e⟩
theorem wD{s:Src}{g:Tg}{c:Sm}(Inv:Nat->ae->gE->Prop)(j:RS->Prop)
  (step:∀i τ S,i<s.k->Inv i τ S->∃x τ1 S1,s.get i S=some x/\g x τ S=.ok τ1 S1/\((∃τ' S',c τ1 S1=.nx τ' S'/\Inv (i+1) τ' S')\/(∃a S',c τ1 S1=.rt a S'/\j (.rt a S'))))
  (fin:∀τ S,Inv s.k τ S->s.fin S=true/\j (.nx τ S)):∀k i τ S,k+i=s.k->Inv i τ S->j (jO s g c k i τ S)
 | 0,i,τ,S,hk,hi=>by
  have:i=s.k:=()
  subst this;obtain⟨hf,q⟩:=fin τ S hi;unfold jO;rw[aJ hf];exact q
 | k+1,i,τ,S,hk,hi=>by
  obtain⟨x,τ1,S1,f,hg,h⟩:=step i τ S () hi;unfold jO;rw[f];show j (RS.of (g x τ S) λτ1 S1=>match c τ1 S1 with
   | .nx τ' S'=>jO s g c k (i+1) τ' S'
   | .ct τ' S'=>jO s g c k (i+1) τ' S'
   | .bk τ' S'=>.nx τ' S'
   | r=>r)
  rw[hg];show j (match c τ1 S1 with
   | .nx τ' S'=>jO s g c k (i+1) τ' S'
   | .ct τ' S'=>jO s g c k (i+1) τ' S'
   | .bk τ' S'=>.nx τ' S'
   | r=>r)
  rcases h with⟨τ',S',e,d⟩|⟨a,S',e,q⟩
  ·rw[e];exact wD Inv j step fin k (i+1) τ' S' () d
  ·rw[e];exact q
def t6{lo hi:Int}{c:Sm}{src:Ic}{τ:ae}(hs:src τ S=.ok (qg lo hi) S1)(Inv:Nat->ae->gE->Prop)(J:RS->Prop)(h0:Inv 0 τ S1)
  (step:∀(i:Nat) τ S,(i:Int)<hi-lo->Inv i τ S->(∃τ' S',c (τ.set j<|.int<|lo+i) S=.nx τ' S'/\Inv (i+1) τ' S')\/(∃a S',c (τ.set j<|.int<|lo+i) S=.rt a S'/\J (.rt a S')))
  (fin:∀τ S,Inv (hi-lo).toNat τ S->J (.nx τ S)):J (pN src (iD j) c τ S):=by
 unfold pN;rw[hs];refine wD (s:=qg lo hi) Inv J (λi τ S d h=>?_) (λτ S h=>⟨rfl,fin τ S h⟩) _ 0 τ S1 rfl h0;have d:i<(hi-lo).toNat:=d;exact⟨.int<|lo+i,_,S,aJ d,rfl,step i τ S (by omega) h⟩
def tB{n:Nat}{xs:ae}{g:Tg}{c:Sm}{src:Ic}(hs:src τ S=.ok (m7 n xs.length) S1)(Inv:Nat->ae->gE->Prop)(j:RS->Prop)(h0:Inv 0 τ S1)(J:∀i τ S,Inv i τ S->gH S n=some xs)
  (step:∀(i:Nat) x τ S,xs[i]?=some x->Inv i τ S->∃τ1 S1,g x τ S=.ok τ1 S1/\((∃τ' S',c τ1 S1=.nx τ' S'/\Inv (i+1) τ' S')\/(∃a S',c τ1 S1=.rt a S'/\j (.rt a S'))))
  (fin:∀τ S,Inv xs.length τ S->j (.nx τ S)):j (pN src g c τ S):=by
 unfold pN;rw[hs];refine wD (s:=m7 n xs.length) Inv j (λi τ S d h=>?_) (λτ S h=>⟨?_,fin τ S h⟩) _ 0 τ S1 rfl h0
 ·have d:i<xs.length:=d;obtain⟨τ1,S1,e,q⟩:=step i xs[i] τ S (aG d) h;exact⟨xs[i],τ1,S1,by show(gH S n).bind _=_;rw[J i τ S h];exact aG d,e,q⟩
 ·show(match gH S n with
   | some ys=>decide (ys.length<=xs.length)
   | none=>false)=true
  rw[J _ τ S h];exact bq<|aL _
@[simp]def qO {c:Ex}{τ:ae}{S S1:gE}{j:Int}(h:c τ S=.ok (.int j) S1)(J:bnd j):o9 c τ S=.ok (qg 0 j) S1:=by
 unfold o9;rw[h];exact g_ J
def ud{c:Ex}{n:Nat}{xs:ae}(h:c τ S=.ok (.ref n) S1)(j:gH S1 n=some xs):oA c τ S=.ok (m7 n xs.length) S1:=by
 unfold oA;rw[h];show opt (gH S1 n) _=_;rw[j];rfl
theorem nV{s:Src}{g:Tg}{t:Te}{e:Ex}{P:gE->Prop}{T:ae->Prop}(it:Nat->A)(p:Nat->Bool)(f:Nat->A)
  (J:∀i S,i<s.k->P S->s.get i S=some (it i)) (L:∀S,P S->s.fin S=true)
  (step:∀i τ S,i<s.k->T τ->P S->∃τ1 S1 S2,g (it i) τ S=.ok τ1 S1/\t τ1 S1=.ok (p i) S2/\T τ1/\(p i=false->P S2)/\(p i=true->∃S3,e τ1 S2=.ok (f i) S3/\P S3)) :
  ∀k i τ S,k+i=s.k->T τ->P S->∃S',jG s g t e k i τ S=.ok (((List.range' i k).filter p).map f) S'/\P S'
 | 0,i,τ,S,hk,hT,hP=>⟨S,by unfold jG;rw[aJ<|L S hP];rfl,hP⟩
 | k+1,i,τ,S,hk,hT,hP=>by
  obtain⟨τ1,S1,S2,hg,F,c,C,j⟩:=step i τ S (by omega) hT hP;unfold jG;rw[J i S (by omega) hP,iT,hg,R.i7,F,R.i7,eH,gf]
  cases q:p i with
  | false=>
   obtain⟨S',h1,m⟩:=nV it p f J L step k (i+1) τ1 S2 (by omega) c<|C q;exact⟨S',by simpa using h1,m⟩
  | true=>
   obtain⟨S3,B,d⟩:=j q;obtain⟨S',h1,m⟩:=nV it p f J L step k (i+1) τ1 S3 (by omega) c d;refine⟨S',?_,m⟩
   skip
   rw[B,R.i7,h1];rfl
def AM{s:Src}{src:Ic}{t:Te}{e:Ex}{S1:gE}(hs:src τ S=.ok s S1)(it:Nat->A)(p:Nat->Bool)(f:Nat->A)(J:∀i,i<s.k->s.get i S1=some (it i))(L:s.fin S1=true)
  (M:∀i,i<s.k->t (it i::jL cap τ) S1=.ok (p i) S1) (U:∀i,i<s.k->p i=true->e (it i::jL cap τ) S1=.ok (f i) S1) (Z:s.k<=16777216) :
  jF (none::cap) src (iD 0) t e τ S=.ok (.ref S1.length) (S1++[.lst<|((List.range s.k).filter p).map f]):=by
 unfold jF;rw[hs,R.jR];obtain⟨m,h1,j⟩:=nV (s:=s) (g:=iD 0) (t:=t) (e:=e) (P:=λS=>S=S1) (T:=λc=>∃y,c=y::jL cap τ) it p f (λi S hi h=>by subst h;exact J i hi) (λS h=>by subst h;exact L)
  (λi c S hi ⟨y,hy⟩ h=>by
   subst h hy;exact⟨it i::jL cap τ,S,S,rfl,M i hi,⟨_,rfl⟩,λ_=>rfl,λd=>⟨S,U i hi d,rfl⟩⟩) s.k 0 (jL (none::cap) τ) S1 rfl ⟨_,rfl⟩ rfl
 subst j;rw[h1,R.i7,d_];refine iw ?_;rw[aN];refine bU (List.length_filter_le _ _) ?_;rw[List.length_range'];exact Z
def kh{α β:Type}(xs:List α)(p:α->Bool)(f:α->β):∀(d:α) ,(((List.range xs.length).filter λi=>p<|xs.getD i d).map λi=>f<|xs.getD i d)=(xs.filter p).map f:=by
 intro d
 induction xs with
 | nil=>rfl
 | cons x xs g=>
  rw[aW,List.range_succ_eq_map,gf,gf];have e:((List.filter (λi=>p<|(x::xs).getD i d)<|List.map Nat.succ<|List.range xs.length).map λi=>f<|(x::xs).getD i d)=(xs.filter p).map f:=by
   rw[List.filter_map,eK];rw[<- g];rfl
  show List.map _ (if p x=true then _ else _)=List.map f (if p x=true then _ else _);by_cases c:p x=true
  ·rw[aJ c,aJ c,cQ,cQ,e];rfl
  ·rw[aI c,aI c,e]
def Bt{xs:ae}{src:Ic}{t:Te}{e:Ex}{S1:gE}(hs:src τ S=.ok (kN xs) S1)(p:A->Bool)(f:A->A)
  (j:∀x∈xs,t (x::jL cap τ) S1=.ok (p x) S1) (J:∀x∈xs,p x=true->e (x::jL cap τ) S1=.ok (f x) S1) (L:xs.length<=16777216) :
  jF (none::cap) src (iD 0) t e τ S=.ok (.ref S1.length) (S1++[.lst<|(xs.filter p).map f]):=by
 have c:∀i,i<xs.length->xs.getD i .unb∈xs:=λi hi=>by
  rw[aM,aG hi];exact dN hi
 rw[AM hs (λi=>xs.getD i .unb) (λi=>p<|xs.getD i .unb) (λi=>f<|xs.getD i .unb) (λi hi=>by
  have hi:i<xs.length:=hi;show xs[i]?=_;rw[aM,aG hi];rfl) rfl (λi hi=>j _<|c i hi) (λi hi=>J _<|c i hi) L]
 have:=kh xs p f .unb;show R.ok _ (S1++[O.lst<|((List.range xs.length).filter _).map _])=_;rw[this]
def D6{xs:ae}{src:Ic}{e:Ex}{S1:gE}(hs:src τ S=.ok (kN xs) S1)(f:A->A)
  (j:∀x∈xs,e (x::jL cap τ) S1=.ok (f x) S1) (J:xs.length<=16777216) :
  jF (none::cap) src (iD 0) rH e τ S=.ok (.ref S1.length) (S1++[.lst<|xs.map f]):=by
 rw[Bt hs (λ_=>true) f (λ_ _=>rfl) (λx c _=>j x c) J,fR.mpr λ_ _=>rfl]
@[simp]def Es {cap:List<|bo}{τ:ae}:jL (none::cap) τ=.unb::jL cap τ:=rfl
@[simp]def Dz {cap:List<|bo}{τ:ae}{j:Nat}:jL (some j::cap) τ=τ.getD j .unb::jL cap τ:=rfl
@[simp]def uQ {τ:ae}:jL [] τ=[]:=rfl
theorem vM{x:A}:k9 (x::xs) 0=some x:=qt (k:=0) rfl rfl
def yS{x:A}:k9 (x::y::xs) 1=some y:=qt (k:=1) rfl rfl
def E4{ns:ag}{i:Int}{k:Nat}{x:Int}(h:i=k)(j:ns[k]?=some x):k9 (ns.map A.int) i=some (.int x):=qt h<|by rw[aY,j];rfl
def qU{j:Int}(h:-4611686018427387904<=j)(h':j<4611686018427387904):bnd j:=⟨(),()⟩
theorem ints_map:∀(ns:ag),A.ints (ns.map .int)=some ns
 | []=>rfl
 | n::ns=>by show(A.ints<|ns.map .int).map (n::·)=_;rw[ints_map ns];rfl
theorem oW{n:Nat}:∀(xs ys:ag),oS (qZ S<|n+1) (xs.map .int) (ys.map .int)=some (decide<|xs=ys)
 | [],[]=>rfl
 | [],_::_=>rfl
 | _::_,[]=>rfl
 | x::xs,y::ys=>by
  skip
  skip
  show Option.map _ (oS (qZ S<|n+1) (xs.map .int)<|ys.map .int)=_;rw[oW xs ys]
  skip
  by_cases h1:x=y<;>by_cases c:xs=ys<;>simp[h1,c]
@[simp]def G5 {S:gE}{x y:Bool}:jm false (.bl x) (.bl y) S=.ok (.bl<|x == y) S:=rfl
@[simp]def GQ {S:gE}{x y:Bool}:jm true (.bl x) (.bl y) S=.ok (.bl<|!(x == y)) S:=rfl
@[simp]def G3 {S:gE}{x y:Int}:jm false (.int x) (.int y) S=.ok (.bl<|x == y) S:=rfl
@[simp]def Gq {S:gE}{x y:Int}:jm true (.int x) (.int y) S=.ok (.bl<|!(x == y)) S:=rfl
@[simp]def zS {S:gE}:GA false .non .non S=.ok (.bl true) S:=rfl
@[simp]def zD {S:gE}{xs:ae}:GA false (.tup xs) .non S=.ok (.bl false) S:=rfl
@[simp]def zT {S:gE}{n:Nat}:GA false (.ref n) .non S=.ok (.bl false) S:=rfl
@[simp]def uY {S:gE}:GA true .non .non S=.ok (.bl false) S:=rfl
@[simp]def vQ {S:gE}{xs:ae}:GA true (.tup xs) .non S=.ok (.bl true) S:=rfl
@[simp]def v_ {S:gE}{n:Nat}:GA true (.ref n) .non S=.ok (.bl true) S:=rfl
@[simp]def zC {S:gE}{x:A}{c:String}:xq x (.ty c) S=opt (x.kd S) λk=>opt (tM k c) λb=>.ok (.bl b) S:=rfl
@[simp]def G4 {S:gE}{b:Bool}:A.kd (.bl b) S=some .bl:=rfl
@[simp]def CD {S:gE}{b:Int}:A.kd (.int b) S=some .int:=rfl
@[simp]def BC {S:gE}{b:ae}:A.kd (.tup b) S=some .tup:=rfl
@[simp]def BS {S:gE}:A.kd .non S=some .non:=rfl
@[simp]def D8 {S:gE}{b:Str}:A.kd (.str b) S=some .str:=rfl
@[simp]def B5 {S:gE}{n:Nat}:A.kd (.ref n) S=(gH S n).map λ_=>.lst:=rfl
@[simp]def Cm {S:gE}:newL [] S=.ok (.ref S.length) (S++[.lst []]):=iw<|by simp
@[simp]def Cn {S:gE}{j:A}:newL [j] S=.ok (.ref S.length) (S++[.lst [j]]):=iw<|by simp
@[simp]def Dv {S:gE}{j J:A}:newL [j,J] S=.ok (.ref S.length) (S++[.lst [j,J]]):=iw<|by simp
@[simp]def Bs {S:gE}{j J L:A}:newL [j,J,L] S=.ok (.ref S.length) (S++[.lst [j,J,L]]):=iw<|by simp
@[simp]def Dt {S:gE}{j J L M:A}:newL [j,J,L,M] S=.ok (.ref S.length) (S++[.lst [j,J,L,M]]):=iw<|by simp
@[simp]def Dj {S:gE}{j J L M U:A}:newL [j,J,L,M,U] S=.ok (.ref S.length) (S++[.lst [j,J,L,M,U]]):=iw<|by simp
@[simp]def BR {S:gE}{j J L M U Z:A}:newL [j,J,L,M,U,Z] S=.ok (.ref S.length) (S++[.lst [j,J,L,M,U,Z]]):=iw<|by simp
@[simp]def BG {S:gE}{j J L M U Z x6:A}:newL [j,J,L,M,U,Z,x6] S=.ok (.ref S.length) (S++[.lst [j,J,L,M,U,Z,x6]]):=iw<|by simp
@[simp]def BU {S:gE}{j J L M U Z x6 x7:A}:newL [j,J,L,M,U,Z,x6,x7] S=.ok (.ref S.length) (S++[.lst [j,J,L,M,U,Z,x6,x7]]):=iw<|by simp
@[simp]def BJ {S:gE}{j J L M U Z x6 x7 x8:A}:newL [j,J,L,M,U,Z,x6,x7,x8] S=.ok (.ref S.length) (S++[.lst [j,J,L,M,U,Z,x6,x7,x8]]):=iw<|by simp
@[simp]def yy {S:gE}{j J L M U Z x6 x7 x8 x9:A}:newL [j,J,L,M,U,Z,x6,x7,x8,x9] S=.ok (.ref S.length) (S++[.lst [j,J,L,M,U,Z,x6,x7,x8,x9]]):=iw<|by simp
theorem lK{α:Type}{n:Nat}{r:R α}(h:n<=16777216):gd (n<=sizeLine) r=r:=g_<|by rw[bS];exact h
def GX{α:Type}{n:Nat}{r:R α}(h:n<16777216):gd (n<sizeLine) r=r:=g_<|by rw[bS];exact h
def Gu {x:A}{xs:ae}:(x::xs).getD 0 .unb=x:=rfl
def GP {x:A}{xs:ae}{n:Nat}:(x::xs).getD (n+1) .unb=xs.getD n .unb:=rfl
def LJ {x y:A}{xs:ae}:(x::xs).set 0 y=y::xs:=rfl
def sets {x y:A}{xs:ae}{n:Nat}:(x::xs).set (n+1) y=x::xs.set n y:=rfl
def rep0 {x:A}:List.replicate 0 x=[]:=rfl
def reps {x:A}{n:Nat}:List.replicate (n+1) x=x::List.replicate n x:=rfl
def K7 {x:A}{xs ys:ae}:(x::xs)++ys=x::(xs++ys):=rfl
def Ln {ys:ae}:[]++ys=ys:=rfl
abbrev uV (x:A)(S:gE):R A:=bif x.jf then .no else .ok x S
def BQ {xs:ae}{S:gE}:uV (.tup xs) S=.ok (.tup xs) S:=rfl
def BB {xs:ae}{S:gE}:uV (.frz xs) S=.ok (.frz xs) S:=rfl
def Cf {i:Int}{S:gE}:uV (.int i) S=.ok (.int i) S:=rfl
def G9 {b:Bool}{S:gE}:uV (.bl b) S=.ok (.bl b) S:=rfl
def BD {s:Str}{S:gE}:uV (.str s) S=.ok (.str s) S:=rfl
def Dp {n:Nat}{S:gE}:uV (.ref n) S=.ok (.ref n) S:=rfl
def Cp  {S:gE}:uV (.non) S=.ok (.non) S:=rfl
def BH {i j:Int}{S:gE}:uV (.rng i j) S=.ok (.rng i j) S:=rfl
def Bf {s:Str}{S:gE}:uV (.exn s) S=.ok (.exn s) S:=rfl
def N_ {j:A}{xs:ae}{S:gE}:gA 0 (j::xs) S=uV j S:=jx
def Oj {J j:A}{xs:ae}{S:gE}:gA 1 (J::j::xs) S=uV j S:=jx
def N8 {J L j:A}{xs:ae}{S:gE}:gA 2 (J::L::j::xs) S=uV j S:=jx
def NX {J L M j:A}{xs:ae}{S:gE}:gA 3 (J::L::M::j::xs) S=uV j S:=jx
def NQ {J L M U j:A}{xs:ae}{S:gE}:gA 4 (J::L::M::U::j::xs) S=uV j S:=jx
def NT {J L M U Z j:A}{xs:ae}{S:gE}:gA 5 (J::L::M::U::Z::j::xs) S=uV j S:=jx
def Ot {J L M U Z x5 j:A}{xs:ae}{S:gE}:gA 6 (J::L::M::U::Z::x5::j::xs) S=uV j S:=jx
def Oa {J L M U Z x5 x6 j:A}{xs:ae}{S:gE}:gA 7 (J::L::M::U::Z::x5::x6::j::xs) S=uV j S:=jx
def NS {J L M U Z x5 x6 x7 j:A}{xs:ae}{S:gE}:gA 8 (J::L::M::U::Z::x5::x6::x7::j::xs) S=uV j S:=jx
def NZ {a j:A}{xs:ae}{S:gE}:iD 0 a (j::xs) S=.ok (a::xs) S:=rfl
def NU {a j J:A}{xs:ae}{S:gE}:iD 1 a (j::J::xs) S=.ok (j::a::xs) S:=rfl
def Ol {a j J L:A}{xs:ae}{S:gE}:iD 2 a (j::J::L::xs) S=.ok (j::J::a::xs) S:=rfl
def Oc {a j J L M:A}{xs:ae}{S:gE}:iD 3 a (j::J::L::M::xs) S=.ok (j::J::L::a::xs) S:=rfl
def Ou {a j J L M U:A}{xs:ae}{S:gE}:iD 4 a (j::J::L::M::U::xs) S=.ok (j::J::L::M::a::xs) S:=rfl
def NY {a j J L M U Z:A}{xs:ae}{S:gE}:iD 5 a (j::J::L::M::U::Z::xs) S=.ok (j::J::L::M::U::a::xs) S:=rfl
def Om {a j J L M U Z x6:A}{xs:ae}{S:gE}:iD 6 a (j::J::L::M::U::Z::x6::xs) S=.ok (j::J::L::M::U::Z::a::xs) S:=rfl
def N9 {a j J L M U Z x6 x7:A}{xs:ae}{S:gE}:iD 7 a (j::J::L::M::U::Z::x6::x7::xs) S=.ok (j::J::L::M::U::Z::x6::a::xs) S:=rfl
def NW {a j J L M U Z x6 x7 x8:A}{xs:ae}{S:gE}:iD 8 a (j::J::L::M::U::Z::x6::x7::x8::xs) S=.ok (j::J::L::M::U::Z::x6::x7::a::xs) S:=rfl
def iB:type_of% (anI @R.jR<|anI @R.yw<|anI @R.i7<|anI @RS.of_ok<|anI @RS.GB<|anI @iT<|anI @xY<|anI @N_<|anI @Oj<|anI @N8<|anI @NX<|anI @NQ<|anI @NT<|anI @Ot<|anI @Oa<|anI @NS<|anI @BQ<|anI @BB<|anI @Cf<|anI @G9<|anI @BD<|anI @Dp<|anI @Cp<|anI @BH<|anI @Bf<|anI @yr<|anI @ze<|anI @zN<|anI @A7<|anI @xU<|anI @zH<|anI @zZ<|anI @yR<|anI @y_<|anI @Hi<|anI @zK<|anI @DG<|anI @yO<|anI @Gw<|anI @Ck<|anI @yz<|anI @yp<|anI @D4<|anI @zh<|anI @zB<|anI @zx<|anI @CQ<|anI @Bw<|anI @yT<|anI @Ed<|anI @uW<|anI @zM<|anI @Du<|anI @yW<|anI @vj<|anI @zG<|anI @zd<|anI @vz<|anI @C8<|anI @Bc<|anI @Gn<|anI @Hj<|anI @BA<|anI @vc<|anI @z0<|anI @vO<|anI @Bu<|anI @zX<|anI @lst?_ref<|anI @RS.C2<|anI @RS.Cs<|anI @RS.DL<|anI @RS.BP<|anI @RS.Bx<|anI @zA<|anI @zV<|anI @se<|anI @vH<|anI @vh<|anI @za<|anI @uN<|anI @CM<|anI @xR<|anI @NZ<|anI @NU<|anI @Ol<|anI @Oc<|anI @Ou<|anI @NY<|anI @Om<|anI @N9<|anI @NW<|anI @CI<|anI @Cy<|anI @Cg<|anI @Dq<|anI @CL<|anI @zj<|anI @yd<|anI @uT<|anI @RS.Cz<|anI @RS.BE<|anI @RS.CK<|anI @CJ<|anI @By<|anI @C7<|anI @Gs<|anI @Hq<|anI @GY<|anI @GS<|anI @GC<|anI @Eu<|anI @C9<|anI @Em<|anI @C1<|anI @Ei<|anI @CG<|anI @yh<|anI @yE<|anI @zy<|anI @yK<|anI @r8<|anI @GG<|anI @GZ<|anI @GW<|anI @CN<|anI @Bm<|anI @yk<|anI @xK<|anI @zz<|anI @uR<|anI @uE<|anI @A5<|anI @CY<|anI @Gp<|anI @qA<|anI @BO<|anI @yG<|anI @g9<|anI @Es<|anI @Dz<|anI @uQ<|anI @G5<|anI @GQ<|anI @G3<|anI @Gq<|anI @zS<|anI @zD<|anI @zT<|anI @uY<|anI @vQ<|anI @v_<|anI @zC<|anI @G4<|anI @CD<|anI @BC<|anI @BS<|anI @D8<|anI @B5<|anI @Cm<|anI @Cn<|anI @Dv<|anI @Bs<|anI @Dt<|anI @Dj<|anI @BR<|anI @BG<|anI @BU<|anI @BJ<|anI @yy<|anI @Gu<|anI @GP<|anI @LJ<|anI @sets<|anI @rep0<|anI @reps<|anI @K7<|anI @Ln<|anI @p6<|anI @yZ<|anI @Dl<|anI @B6<|anI @GJ<|anI @GR<|anI @D9<|anI @CS<|anI @rW<|anI @u7<|anI @BI<|anI @xQ<|anI @Dw<|anI @yg<|anI @A4<|anI @GH<|anI @G0<|anI @xV<|anI @zw<|anI @CU<|anI @vX<|anI @yf<|anI @Ce<|anI @Ey<|anI @DN<|anI @DH<|@CH):=anI @R.jR<|anI @R.yw<|anI @R.i7<|anI @RS.of_ok<|anI @RS.GB<|anI @iT<|anI @xY<|anI @N_<|anI @Oj<|anI @N8<|anI @NX<|anI @NQ<|anI @NT<|anI @Ot<|anI @Oa<|anI @NS<|anI @BQ<|anI @BB<|anI @Cf<|anI @G9<|anI @BD<|anI @Dp<|anI @Cp<|anI @BH<|anI @Bf<|anI @yr<|anI @ze<|anI @zN<|anI @A7<|anI @xU<|anI @zH<|anI @zZ<|anI @yR<|anI @y_<|anI @Hi<|anI @zK<|anI @DG<|anI @yO<|anI @Gw<|anI @Ck<|anI @yz<|anI @yp<|anI @D4<|anI @zh<|anI @zB<|anI @zx<|anI @CQ<|anI @Bw<|anI @yT<|anI @Ed<|anI @uW<|anI @zM<|anI @Du<|anI @yW<|anI @vj<|anI @zG<|anI @zd<|anI @vz<|anI @C8<|anI @Bc<|anI @Gn<|anI @Hj<|anI @BA<|anI @vc<|anI @z0<|anI @vO<|anI @Bu<|anI @zX<|anI @lst?_ref<|anI @RS.C2<|anI @RS.Cs<|anI @RS.DL<|anI @RS.BP<|anI @RS.Bx<|anI @zA<|anI @zV<|anI @se<|anI @vH<|anI @vh<|anI @za<|anI @uN<|anI @CM<|anI @xR<|anI @NZ<|anI @NU<|anI @Ol<|anI @Oc<|anI @Ou<|anI @NY<|anI @Om<|anI @N9<|anI @NW<|anI @CI<|anI @Cy<|anI @Cg<|anI @Dq<|anI @CL<|anI @zj<|anI @yd<|anI @uT<|anI @RS.Cz<|anI @RS.BE<|anI @RS.CK<|anI @CJ<|anI @By<|anI @C7<|anI @Gs<|anI @Hq<|anI @GY<|anI @GS<|anI @GC<|anI @Eu<|anI @C9<|anI @Em<|anI @C1<|anI @Ei<|anI @CG<|anI @yh<|anI @yE<|anI @zy<|anI @yK<|anI @r8<|anI @GG<|anI @GZ<|anI @GW<|anI @CN<|anI @Bm<|anI @yk<|anI @xK<|anI @zz<|anI @uR<|anI @uE<|anI @A5<|anI @CY<|anI @Gp<|anI @qA<|anI @BO<|anI @yG<|anI @g9<|anI @Es<|anI @Dz<|anI @uQ<|anI @G5<|anI @GQ<|anI @G3<|anI @Gq<|anI @zS<|anI @zD<|anI @zT<|anI @uY<|anI @vQ<|anI @v_<|anI @zC<|anI @G4<|anI @CD<|anI @BC<|anI @BS<|anI @D8<|anI @B5<|anI @Cm<|anI @Cn<|anI @Dv<|anI @Bs<|anI @Dt<|anI @Dj<|anI @BR<|anI @BG<|anI @BU<|anI @BJ<|anI @yy<|anI @Gu<|anI @GP<|anI @LJ<|anI @sets<|anI @rep0<|anI @reps<|anI @K7<|anI @Ln<|anI @p6<|anI @yZ<|anI @Dl<|anI @B6<|anI @GJ<|anI @GR<|anI @D9<|anI @CS<|anI @rW<|anI @u7<|anI @BI<|anI @xQ<|anI @Dw<|anI @yg<|anI @A4<|anI @GH<|anI @G0<|anI @xV<|anI @zw<|anI @CU<|anI @vX<|anI @yf<|anI @Ce<|anI @Ey<|anI @DN<|anI @DH<|@CH
def bools:(∀b:Bool,cond false b b=b)/\(∀(α:Type) (x y:α),cond false x y=y)/\(∀(α:Type) (x y:α),cond true x y=x):=⟨λ_=>rfl,λ_ _ _=>rfl,λ_ _ _=>rfl⟩
def i9:(∀(x:Str) (xs:ar),(x::xs).length=xs.length+1)/\([]:ar).length=0/\(∀(x:A) (xs:ae),(x::xs).length=xs.length+1)/\([]:ae).length=0:=⟨λ_ _=>rfl,rfl,λ_ _=>rfl,rfl⟩
section
variable {τ:ae}{S:gE}
def zL {f:ae->gE->R A}{d:kq}:MH f d τ S=(d τ S).bind f:=rfl
abbrev Od (c:Str):Unit->gE->RS:=λ_ S1=>.ex c S1
def BW {c:Str}{u:Unit}:Od c u S=.ex c S:=rfl
def rP {c:Str}{ps:List<|Str ⊕ Ex}:Ja c ps τ S=RS.of (FO ps τ S) (Od c):=rfl
def zm:FO [] τ S=.ok Unit.unit S:=rfl
def ya {x:Str}{ps:List<|Str ⊕ Ex}:FO (.inl x::ps) τ S=FO ps τ S:=rfl
abbrev OH (ps:List<|Str ⊕ Ex)(τ:ae):A->gE->R Unit:=λv S1=>match v with
 | .int i=>gd (i.natAbs.log2<64) (FO ps τ S1)
 | _=>.no
def xW {e:Ex}{ps:List<|Str ⊕ Ex}:FO (.inr e::ps) τ S=(e τ S).bind (OH ps τ):=rfl
abbrev RS.try (i n:Nat)(cs:ar)(d:Sm):RS->RS
 | .ex x S1=>if x∈cs then G7 i (d ((List.replicate n .unb).set i<|.exn x) S1)else .no
 | r=>r
def zq {i n:Nat}{cs:ar}{c d:Sm}:Lh i n cs c d τ S=RS.try i n cs d (c τ S):=by
 unfold Lh RS.try;cases c τ S<;>rfl
def Cj {i n:Nat}{cs:ar}{d:Sm}:RS.try i n cs d (.nx τ S)=.nx τ S:=rfl
def A3 {i n:Nat}{cs:ar}{d:Sm}{a:A}:RS.try i n cs d (.rt a S)=.rt a S:=rfl
def Bo {i n:Nat}{x:Str}{cs:ar}{d:Sm}:RS.try i n (x::cs) d (.ex x S)=G7 i (d ((List.replicate n .unb).set i<|.exn x) S):=aJ<|.head _
def Cw {i:Nat}{a:A}:G7 i (.rt a S)=.rt a S:=rfl
def A6 {i:Nat}:G7 i (.nx τ S)=.nx (τ.set i .unb) S:=rfl
abbrev Ls (f:Str->bn):A->gE->R A:=λv S1=>match v with
 | .exn x=>opt (f x) λb=>.ok (.bl b) S1
 | _=>.no
def ym {f:Str->bn}{c:Ex}:M0 f c τ S=(c τ S).bind (Ls f):=rfl
def Dm {x:Str}{b:Bool}{tb:List<|Str×Bool}:Ls (OL ((x,b)::tb)) (.exn x) S=.ok (.bl b) S:=by
 show opt (List.lookup x ((x,b)::tb)) _=_;rw[c5,bg];rfl
abbrev R.CA {α β:Type}(r:R α)(f:α->gE->R β):R β:=match r with
 | .ok a S=>f a S
 | _=>.no
def uF {α β:Type}{a:α}{f:α->gE->R β}:R.CA (.ok a S) f=f a S:=rfl
def yL {f:ae->gE->R A}{d:kq}:KH f d τ S=R.CA (d τ S) f:=by unfold KH R.CA;cases d τ S<;>rfl
abbrev RS.Ny {α:Type}(r:R α)(f:α->gE->RS):RS:=match r with
 | .ok a S=>f a S
 | _=>.no
def CB {α:Type}{a:α}{f:α->gE->RS}:RS.Ny (.ok a S) f=f a S:=rfl
def xT {t:Te}{c d:Sm}:LX t c d τ S=RS.Ny (t τ S) (Mf c d τ):=by
 unfold LX RS.Ny
 cases t τ S with
 | ok b S1=>cases b<;>rfl
 | ex _ _=>rfl
 | no=>rfl
abbrev RS.DB (i:Nat)(cs:ar)(d:Sm)(τ:ae):RS->RS
 | .ex x S1=>if x∈cs then G7 i (d (τ.set i<|.exn x) S1)else .no
 | r=>r
def vU {i:Nat}{cs:ar}{c d:Sm}:GV i cs c d τ S=RS.DB i cs d τ (c τ S):=by
 unfold GV RS.DB;cases c τ S<;>rfl
def yc {i:Nat}{cs:ar}{d:Sm}{j:ae}:RS.DB i cs d τ (.nx j S)=.nx j S:=rfl
def zY {i:Nat}{cs:ar}{d:Sm}{a:A}:RS.DB i cs d τ (.rt a S)=.rt a S:=rfl
def yC {i:Nat}{x:Str}{cs:ar}{d:Sm}:RS.DB i (x::cs) d τ (.ex x S)=G7 i (d (τ.set i<|.exn x) S):=aJ<|.head _
def uI:A.ED []=some []:=rfl
def oY {b:Bool}{xs:ae}:A.ED (.bl b::xs)=(A.ED xs).map (b::·):=rfl
end
def oh:type_of% (anI @zL<|anI @rP<|anI @BW<|anI @zm<|anI @ya<|anI @xW<|anI @zq<|anI @Cj<|anI @A3<|anI @Bo<|anI @Cw<|anI @A6<|anI @ym<|anI @Dm<|anI @uI<|anI @oY<|anI @uF<|anI @yL<|anI @CB<|anI @xT<|anI @vU<|anI @yc<|anI @zY<|anI @yC<|trivial):=anI @zL<|anI @rP<|anI @BW<|anI @zm<|anI @ya<|anI @xW<|anI @zq<|anI @Cj<|anI @A3<|anI @Bo<|anI @Cw<|anI @A6<|anI @ym<|anI @Dm<|anI @uI<|anI @oY<|anI @uF<|anI @yL<|anI @CB<|anI @xT<|anI @vU<|anI @yc<|anI @zY<|anI @yC<|trivial
end Am
namespace Am
open PySem PySem.Spec PyProof.Rows L2
abbrev Df (K:aq)(x:Str)(st:aE):Prop:=∃(f:aj) (fd:FuncData),PySem.W.nsIn K mainGlobals x=some (some<|.ref f)/\Fun K x x st f fd
inductive En (P:ah) (w:af) (K:aq) (mg:Str->bi) (base:ak):Prop
 | mk (h:ak) (X:K.In h) (G:h.Ns mainGlobals mg)
section
variable {P:ah}{w:af}{K:aq}{mg:Str->bi}{base:ak}{x:Str}{st:aE}{ps:ar}{k:Nat}{F:ae->gE->R A}
def En.at(E:En P w K mg base){f:aj}(h:PySem.W.nsIn K mainGlobals x=some (some<|.ref f)):mg x=some (.ref f):=by
 obtain⟨_,X,G⟩:=E;exact dY X G h
def Df.of{f:aj}{kV ct:aa}(a:PySem.W.nsIn K mainGlobals x=some (some<|.ref f))(l:K.lookup f=some ⟨oc,od,.func<|PySem.W.fnOf x x (mC st) (jX st) (gP st) .none kV doc pm an cdv ct,osl⟩)(c:PySem.W.codeIn K cdv x=true)(k:PySem.W.keepIn K (.ref f)=true):Df K x st:=⟨f,_,a,ID l c k⟩
meta abbrev Bi (x:Str)(st:aE)(ps:ar):Prop:=∀us:ba,us.length=ps.length->∀(kV c f:aa) (e:Option aj) (d ct:aa),bindArgs (PySem.W.fnOf x x (mC st) (jX st) (gP st) .none kV c f e d ct) ⟨us,[]⟩=pure (ps.zip us)
def Df.get(d:Df K x st)(E:En P w K mg base)(b:Bi x st ps):∃f fd,Fun K x x st f fd/\mg x=some (.ref f)/\PySem.W.keepIn K (.ref f)=true/\Binds K fd ps []:=by
 obtain⟨f,fd,a,F⟩:=d;exact⟨f,fd,F,E.at a,F.kp,F.binds λkV c k g e ct us j=>b us j kV c k g e ct⟩
def Df.kA(d:Df K x st)(E:En P w K mg base)(h:∀{f fd},Fun K x x st f fd->FnOk P w K mg base oq k f fd ps (pK K ps.length F))(b:Bi x st ps):pW P w K mg base k x ps F:=by
 obtain⟨f,fd,a,c,e,g⟩:=d.get E b;exact⟨f,fd,h a,c,e,g⟩
end
section
variable {X:Cx}{pos p:Pos}{e1 e2:aC}{x p1 p2:Str}{k K0:Nat}{F:ae->gE->R A}{c1 c2:Ex}
def uO(G:pW X.prog X.w X.K X.mg X.base k x [p1] F)(L:Room K0 X.A)(h1:AE X e1 c1)(M:k<=K0<|>δ)(hg:Gl X x<|>ε)(j:(x == ("__debug__" : Str))=false<|>δ)(J:starEach [e1] X.env=(false,eval e1 X.env)::starEach [] X.env<|>ε)(U:((backTo pos<|starEach [] X.env).any (·.1)=false)<|>ε):AE X (.Call (.Name x p) [e1] [] pos) (eFn F<|gz c1 gM):=Hr G (L.mono M) (gC h1 gK J) (qk yF) hg j J U
def wj(G:pW X.prog X.w X.K X.mg X.base k x [p1,p2] F)(L:Room K0 X.A)(h1:AE X e1 c1)(M:AE X e2 c2)(U:k<=K0<|>δ)(hg:Gl X x<|>ε)(j:(x == ("__debug__" : Str))=false<|>δ)(J:starEach [e1,e2] X.env=(false,eval e1 X.env)::starEach [e2] X.env<|>ε)(Z:starEach [e2] X.env=(false,eval e2 X.env)::starEach [] X.env<|>ε)(hp:((backTo pos<|starEach [e2] X.env).any (·.1)=false)<|>ε):AE X (.Call (.Name x p) [e1,e2] [] pos) (eFn F<|gz c1<|gz c2 gM):=Hr G (L.mono U) (gC h1 (gC M gK Z) J) (qk<|qk yF) hg j J hp
def uD{N P:ar}{j:Scope}(a:j.kind=.function)(b:j.isCoroutine=false)(c:j.isGenerator=false)(h:N.Nodup/\N.take P.length=P/\(∀x∈P,j.names.lookup x=some .local\/j.names.lookup x=some .cell)/\∀y∈j.names,y.2≠.free):FnScope N P j:=⟨a,b,c,h.1,h.2.1,h.2.2.1,h.2.2.2⟩
end
end Am
namespace L2
open PySem PySem.Spec PyProof.Rows
section
variable {X:Cx}
def part_of{v:aa}(p:IsPart v o):∃q:Option<|Int×Tok,v=partValue q/\q.map (·.1)=o:=by
 cases p with
 | none=>exact⟨none,rfl,rfl⟩
 | int i t=>exact⟨some (i,t),rfl,rfl⟩
def IT:Kf X (λx lo hi H Q=>∃y:Str,x=.str y/\(Txt.slice y lo hi).length<=sizeLine/\Q (.str<|Txt.slice y lo hi) H):=by
 intro pins s σ H x v g j lo hi k Q I rx hs pl e h;obtain⟨y,rfl,hy,q⟩:=h;kd_p;obtain⟨f,rfl,rfl⟩:=part_of pl;obtain⟨d,rfl,rfl⟩:=part_of e;obtain⟨o,a,b,c⟩:=hs;refine⟨"str",_,slot_str_getitem.lookup,eT _ _ _,wpAny_getItem_str_slice (l:=f) (u:=d) (st:=none) ⟨o,a,b,c⟩ rfl ?_⟩;unfold sliceMade;unfold Txt.slice at q hy;split
 ·rename_i z;rw[aJ<|by exact z]at q;exact⟨.str y,H,I,⟨t,rfl⟩,q⟩
 ·rename_i z;rw[aI<|by exact z]at q hy;unfold Made.post;exact⟨hy,.str _,H,I.tok _,⟨_,rfl⟩,q⟩
def vV:wg X "str.removeprefix" (λx xs H Q=>∃y z:Str,x=.str y/\xs=[.str z]/\y.length<=sizeLine/\Q (.str<|Txt.removeprefix y z) H):=by
 intro pins s σ H x xs v us Q I rx d h;obtain⟨y,z,rfl,rfl,hy,q⟩:=h;kd_p;obtain⟨w,rfl,c⟩:=vals1 d;obtain⟨u,rfl⟩:=c;exact SCL.removeprefix (λf k e=>⟨.str _,H,I.tok _,⟨_,rfl⟩,q⟩) hy
def vW:wg X "str.removesuffix" (λx xs H Q=>∃y z:Str,x=.str y/\xs=[.str z]/\y.length<=sizeLine/\Q (.str<|Txt.removesuffix y z) H):=by
 intro pins s σ H x xs v us Q I rx d h;obtain⟨y,z,rfl,rfl,hy,q⟩:=h;kd_p;obtain⟨w,rfl,c⟩:=vals1 d;obtain⟨u,rfl⟩:=c;exact SCL.removesuffix (λf k e=>⟨.str _,H,I.tok _,⟨_,rfl⟩,q⟩) hy
abbrev Nv (y z:Str):List V:=[.str (Txt.partition y z).1,.str (Txt.partition y z).2.1,.str (Txt.partition y z).2.2]
def tP:wg X "str.partition" (λx xs H Q=>∃y z:Str,x=.str y/\xs=[.str z]/\(z.length == 0)=false/\y.length<=sizeLine/\∀p,H p=none->Q (.ref p) (upd H p<|.tup<|Nv y z)):=by
 intro pins s σ H x xs v us Q I rx g h;obtain⟨y,z,rfl,rfl,j,hy,q⟩:=h;kd_p;obtain⟨w,rfl,e⟩:=vals1 g;obtain⟨u,rfl⟩:=e;have fin:∀(d:Nat) (a b c:Tok),EP X pins σ Q (.ref s.heap.objs.size) { s with toks:=d,heap:=s.heap.push { cls:=.type "tuple",data:=.seq #[.str (Txt.partition y z).1 a,.str (Txt.partition y z).2.1 b,.str (Txt.partition y z).2.2 c]}}:=λd a b c=>
  ⟨.ref s.heap.objs.size,_,I.laid (t':=d) (o:=.tup<|Nv y z) (λb k q=>aK _ q) (aL _) ⟨(show 3<=sizeLine by decide),[.str (Txt.partition y z).1 a,.str (Txt.partition y z).2.1 b,.str (Txt.partition y z).2.2 c],.cons ⟨a,rfl⟩<|.cons ⟨b,rfl⟩<|.cons ⟨c,rfl⟩ .nil,jJ.new _ _⟩,rfl,q _<|I.hok.fresh<|aL _⟩
 refine eU F.slot_str_partition (eT _ _ _) F.entry_str_partition (F.args_str_partition_2 _ _) (meets_str_partition y z t u j hy) ?_;unfold Txt.partition at fin
 cases f:Builtin.Str.occurrences y z 0 y.length 1 with
 | nil=>rw[f]at fin;exact fin _ _ _ _
 | cons i l=>rw[f]at fin;exact fin _ _ _ _
def Cb:jh X (binaryOp .FloorDiv) (rI (λ_ j=>0<j/\j<1267650600228229401496703205376) λi j=>.int<|i / j):=Mw λi j _ _ _ _ _ hc q=>by
 have h1:(0:Int)<j:=hc.1;have c:j<1267650600228229401496703205376:=hc.2;refine floordiv_int () (by rw[Int.fdiv_eq_ediv_of_nonneg i ()];exact q)<|.inl<|PyProof.noPylong_of_log2 ?_;exact bB ((log2_lt ()).mpr<|show j.natAbs<2 ^ 100 by lia) ⋯
abbrev Kc:List (Str ⊕ TE)->Str->St->Hp->(Str->Hp->Prop)->Prop
 | [],out,_,H,k=>k out H
 | .inl x::ps,out,σ,H,k=>x.length<=1000/\Kc ps (out++x) σ H k
 | .inr t::ps,out,σ,H,k=>t σ H λv H'=>(∃i,v=.int i/\i.natAbs.log2<64/\Kc ps (out++Str.ofString (toString i)) σ H' k)\/∃y:Str,v=.str y/\y.length<=1000/\Kc ps (out++y) σ H' k
theorem qa{Q:VK}:∀{es:List aC}{ps:List<|Str ⊕ TE},FParts X es ps->∀(H:Hp) (s:aA) (out:Str),Inv X pins σ H s->out.length+2000 * es.length<=sizeLine ->
  Kc ps out σ H (λx H'=>Q (.str x) H')->wpAny (model X.prog X.w) X.A (joinParts out<|evalEach es X.env) (EP X pins σ Q) X.xe s
 | _,_,.nil,H,s,out,I,d,h=>joinParts_nilE (joinParts_nil (show EP X pins σ Q _ _ from⟨.str out,H,I.tok _,⟨_,rfl⟩,h⟩)<|by simpa using d)
 | _,_,.txt (x:=x) hp,H,s,out,I,d,h=>by
  refine joinParts_consE<|joinParts_cons<|Calls.Constant_str ?_;rw[aW]at d;have f:=h.1;have c:(out++x).length=out.length+x.length:=strLen_append ..;exact⟨by rw[c];lia,qa hp H _ _ (I.tok _) (by rw[c];lia) h.2⟩
 | _,_,.val (e:=e) (t:=t) he hp,H,s,out,I,d,h=>by
  rw[aW]at d;refine joinParts_consE (joinParts_cons<|FormattedValue_plain<|iP (he pins s σ H _ I h) λv p ⟨x,H1,I1,r1,g⟩=>?_)
  rcases g with⟨i,f,hi,h1⟩|⟨y,f,hi,h1⟩
  ·subst f;obtain⟨tk,rfl⟩:=r1;refine formatField_int_small () ?_;have j:(Str.ofString<|toString i).length<=65:=by
    have:=int_text_length_le (a:=i) (k:=64) ⋯ hi;rw[PySem.ofString_length];exact this
   have c:(out++Str.ofString (toString i)).length=out.length+(Str.ofString<|toString i).length:=strLen_append ..;exact⟨by rw[c];lia,qa hp H1 _ _ (I1.tok _) (by rw[c];lia) h1⟩
  ·subst f;obtain⟨tk,rfl⟩:=r1;have c:(out++y).length=out.length+y.length:=strLen_append ..;refine PyProof.Rows.formatField_str (λm k=>?_) ();exact⟨by rw[c];lia,qa hp H1 _ _ (I1.tok _) (by rw[c];lia) h1⟩
abbrev OC (ps:List<|Str ⊕ TE):TE:=λσ H Q=>Kc ps Str.empty σ H λx H'=>Q (.str x) H'
def KQ(h:FParts X (e1::e2::es) ps)(j:2000 * (e1::e2::es).length<=sizeLine<|>δ):PE X (.JoinedStr (e1::e2::es) pos) (OC ps):=
 λpins s σ H Q I q=>JoinedStr_many<|qa h H s Str.empty I (by rw[show Str.empty.length=0 from rfl,dR];exact j) q
end
end L2
namespace Am
open PySem PySem.Spec PyProof.Rows L2
section
variable {X:Cx}{pos:Pos}
abbrev JZ (a:A)(lo hi:bj)(S:gE):R A:=match a with
 | .str y=>gd ((Txt.slice y lo hi).length<=sizeLine) (.ok (.str<|Txt.slice y lo hi) S)
 | _=>.no
abbrev vC (c:Ex)(lo hi:Pt):Ex:=λτ S=>(c τ S).bind λa S1=>(lo τ S1).bind λl d=>(hi τ d).bind λu e=>JZ a l u e
abbrev Ox (X:Cx):V->bj->bj->Hp->VK->Prop:=λx lo hi H Q=>∃ρ S a,Rel X.K ρ H S/\AV X.K ρ H a x/\(JZ a lo hi S).post (pS X ρ H Q) (XE X ρ H)
def Ni:Kf X (Ox X):=λpins s σ H x v d e lo hi f Q I rx hs pl c h9=>by
 obtain⟨ρ,S,a,R,va,h⟩:=h9
 cases va with
 | str y=>
  obtain⟨hc,h⟩:=gQ h;exact IT pins s σ H _ v d e lo hi f Q I rx hs pl c ⟨y,rfl,hc,h _ _ _ .refl R<|.str _⟩
 | _=>exact h.elim
def sU{lo:Option aC}{c:Ex}{cl ch:Pt}(J:AE X e c)(L:AO X lo cl)(M:AO X hi ch):AE X (.Subscript e (.Slice lo hi none p2) pos) (vC c cl ch):=PE.imp (vB Ni J L M) λσ H Q h9=>by
 z_go;refine⟨ρ,S,τ,R,r,gB (gG h) .refl λa S1 h1 ρ1 H1 x e1 R1 m=>⟨ρ1,S1,τ,R1,r.ext e1,gB (gG h1) e1 λl j B g H2 e2 R2=>⟨g,j,τ,R2,r.ext<|e1.trans e2,gB (gG B) (e1.trans e2) λu p k f C d q=>?_⟩⟩⟩;exact⟨f,p,a,q,m.ext<|e2.trans d,gB k (e1.trans<|e2.trans d) λ_ _ z=>z.ext<|e1.trans<|e2.trans d⟩
abbrev Mb (ok:Str->Str->Prop)[∀y z,Decidable<|ok y z](g:Str->Str->A)(o:A)(j:ae)(S:gE):R A:=match o,j with
 | .str y,[.str z]=>gd (ok y z) (.ok (g y z) S)
 | _,_=>.no
def Jq{id:String}{ok:Str->Str->Prop}[∀y z,Decidable<|ok y z]{g:Str->Str->A}{G:VK->Str->Str->Hp->Prop}
  (J:wg X id λx xs H Q=>∃y z:Str,x=.str y/\xs=[.str z]/\ok y z/\G Q y z H) (hg:∀{ρ H S Q y z},Rel X.K ρ H S->pS X ρ H Q (g y z) S->G Q y z H):wg X id (rM X<|Mb ok g):=λpins s σ H x f v us Q I rx e h9=>by
 obtain⟨ρ,S,o,c,R,d,va,h⟩:=h9
 cases d with
 | str y=>
  match c,va,h with
  | [],_,h=>exact h.elim
  | w::_::_,_,h=>exact(by cases w<;>exact h.elim)
  | [w],va,h=>
   obtain⟨j,rfl,hw⟩:=Ak va
   cases hw with
   | str z=>
    obtain⟨hc,h⟩:=gQ h;exact J pins s σ H _ _ v us Q I rx e ⟨y,z,rfl,rfl,hc,hg R h⟩
   | _=>exact h.elim
 | _=>exact h.elim
abbrev HZ:=Mb (λy _=>y.length<=sizeLine) λy z=>.str<|Txt.removeprefix y z
def Lp:wg X "str.removeprefix" (rM X HZ):=Jq vV λR h=>h _ _ _ .refl R<|.str _
abbrev Hs:=Mb (λy _=>y.length<=sizeLine) λy z=>.str<|Txt.removesuffix y z
def Kx:wg X "str.removesuffix" (rM X Hs):=Jq vW λR h=>h _ _ _ .refl R<|.str _
abbrev Dg:=Mb (λy z=>(z.length == 0)=false/\y.length<=sizeLine) λy z=>.tup [.str (Txt.partition y z).1,.str (Txt.partition y z).2.1,.str (Txt.partition y z).2.2]
def IU:wg X "str.partition" (rM X Dg):=Jq (G:=λQ y z H=>∀p,H p=none->Q (.ref p) (upd H p<|.tup<|Nv y z)) (λpins s σ H x xs v us Q I rx e ⟨y,z,a,b,c,d⟩=>tP pins s σ H x xs v us Q I rx e ⟨y,z,a,b,c.1,c.2,d⟩) λ{ρ H S Q y z} R h=>pT R (.cons (.str _)<|.cons (.str _)<|.cons (.str _) .nil) .refl h
abbrev we:List (Str ⊕ Ex)->Str->ae->gE->R Str
 | [],out,_,S=>.ok out S
 | .inl x::ps,out,τ,S=>gd (x.length<=1000) (we ps (out++x) τ S)
 | .inr e::ps,out,τ,S=>(e τ S).bind λv S1=>match v with
  | .int i=>gd (i.natAbs.log2<64) (we ps (out++Str.ofString (toString i)) τ S1)
  | .str y=>gd (y.length<=1000) (we ps (out++y) τ S1)
  | _=>.no
abbrev Kg (ps:List<|Str ⊕ Ex):Ex:=λτ S=>(we ps Str.empty τ S).bind λx c=>.ok (.str x) c
theorem tV{j:Hp}{k:Str->Hp->Prop}:∀(ps:List<|Str ⊕ Ex) (out:Str) (ρ:bb) (H:Hp) (S:gE),Ext ρ0 ρ j H->Rel X.K ρ H S->SR X.K ρ H τ σ ->
  (we ps out τ S).post (λx S'=>∀ρ' H',Ext ρ0 ρ' j H'->Rel X.K ρ' H' S'->k x H') (XE X ρ0 j)->Kc (Ms X ps) out σ H k
 | [],out,ρ,H,S,e,R,r,h=>h ρ H e R
 | .inl x::ps,out,ρ,H,S,e,R,r,h=>by
  obtain⟨d,h⟩:=gQ h;exact⟨d,tV ps _ ρ H S e R r h⟩
 | .inr a::ps,out,ρ,H,S,e,R,r,h=>by
  refine⟨ρ,S,τ,R,r,?_⟩;have h:=gG h;refine oJ h (λv S1 h1 ρ1 H1 u e1 R1 c=>?_) λf S' z=>z.ext e
  cases v with
  | int i=>
   obtain⟨hi,h1⟩:=gQ h1
   cases c
   exact .inl ⟨i,rfl,hi,tV ps _ ρ1 H1 S1 (e.trans e1) R1 (r.ext e1) h1⟩
  | str y=>
   obtain⟨hi,h1⟩:=gQ h1
   cases c
   exact .inr ⟨y,rfl,hi,tV ps _ ρ1 H1 S1 (e.trans e1) R1 (r.ext e1) h1⟩
  | _=>exact h1.elim
def DQ(j:FParts X (e1::e2::es)<|Ms X ps)(J:2000 * (e1::e2::es).length<=sizeLine<|>δ):AE X (.JoinedStr (e1::e2::es) pos) (Kg ps):=
 PE.imp (KQ j J) λσ H Q h9=>by
 z_go;exact tV ps _ ρ H S .refl R r<|oJ (gG h) (λx S1 h1 ρ1 H1 e1 R1=>h1 ρ1 H1 _ e1 R1<|.str _) λ_ _ z=>z
abbrev BX (a b:A)(S:gE):R A:=match a,b with
 | .str x,.str y=>gd (x.length+y.length<=sizeLine) (.ok (.str<|x++y) S)
 | _,_=>.no
def Fd:MR X .Add (ip X BX):=λpins s σ H x y v u Q I r1 r2 h9=>by
 x_go
 cases va with
 | str x=>
  cases vb with
  | str y=>
   obtain⟨hc,h⟩:=gQ h;obtain⟨t,rfl⟩:=r1;obtain⟨c,rfl⟩:=r2;exact PyProof.Rows.iadd_str (λ_ _=>⟨.str _,H,I.tok _,⟨_,rfl⟩,h _ _ _ .refl R<|.str _⟩) hc
  | _=>exact h.elim
 | _=>exact h.elim
abbrev qL (a b:A)(S:gE):R A:=match a,b with
 | .int i,.int j=>gd (0<j/\j<1267650600228229401496703205376) (.ok (.int<|i / j) S)
 | _,_=>.no
def uf:jh X (binaryOp .FloorDiv) (r2 X qL):=jh.imp Cb λx y H Q h9=>by
 x_go
 cases va<;>first|exact h.elim|(cases vb<;>first|exact h.elim|exact⟨_,_,rfl,rfl,(gQ h).1,(gQ h).2 _ _ _ .refl R<|.int _⟩)
abbrev CP (a b:A)(S:gE):R A:=match a,b with
 | .int i,.int j=>.ok (.int<|Builtin.bitAnd i j) S
 | _,_=>.no
def JC:jh X (binaryOp .BitAnd) (r2 X CP):=λpins s σ H x y v u Q I rx ry h9=>by
 x_go
 cases va with
 | int i=>
  cases vb with
  | int j=>
   kd_p;obtain⟨c,rfl⟩:=ry;exact and_int ⟨.int _,H,I.tok _,⟨_,rfl⟩,h _ _ _ .refl R<|.int _⟩
  | _=>exact h.elim
 | _=>exact h.elim
end
end Am
namespace L2
open PySem PySem.Spec PyProof.Rows
abbrev L_ (lo:Int)(n:Nat):It:=⟨λi _=>i<n,λi H x H'=>H'=H/\x=.int (lo+2 * i),λi _=>n<=i⟩
def C6{P:ah}{w:af}{K:aq}(it:aj)(lo:Int)(n:Nat):Turn P w K tg (L_ lo n) [it] it (λi h=>IsRangeIter h it (lo+(i:Nat) * 2) ((n:Int)-(i:Nat)) 2) where
 mem:=by simp
 obj:=λi h st b c=>by
  have e:b=it:=by simpa using c
  subst e;exact⟨_,st,λv z=>by
   have f:Data.fields _=Data.cell v:=z
   cases f⟩
 keep:=λi h h' st k=>k it (by simp) _ st
 item:=by
  w_up;subst hP hw hK;k_ne;have W:=Walks.range (prog:=X.prog) (w:=X.w) (I.ok.hd hc) it lo 2 n;refine W.item i s _ _ hg st λv h' tk hv d j=>?_;obtain⟨t,rfl⟩:=hv;have I1:Inv X pins σ H { s with heap:=h',toks:=tk }:=I.turned (λb o c e=>j b o (by simpa using c) e) f0 f1 f3 f4 f5;refine⟨_,rfl,vD (s:={ s with heap:=h',toks:=tk }) (n := "range_iterator") d rfl rfl ⋯ ⟨.int<|lo+2 * i,H,I1,⟨t,?_⟩,⟨rfl,rfl⟩,d,λb c=>(hf b c).1⟩⟩;rw[show lo+(i:Int) * 2=lo+2 * i by lia]
 done:=by
  w_up;subst hP hw hK;k_ne;exact wpAny_pyNext_range_end (I.ok.hd hc) st (by have:n<=i:=hg;lia) λh' g=>⟨rfl,I.turned (t':=s.toks) (λb o c e=>g b o c e) f0 f1 f3 f4 f5⟩
 self:=λ_ _ _ _ _ st h=>wpAny_pyIter_rangeiter st h
def u9(a b:Int):Builtin.Range.rangeSize a b 2=if a<b then(b-a+1) / 2 else 0:=by
 unfold Builtin.Range.rangeSize;dsimp[show((2:Int)>0)by decide,b9];split<;>lia
def Aj{a b:Int}(L:-(2 ^ 62)<=a)(j:a<2 ^ 62)(M:-(2 ^ 62)<=b)(J:b<2 ^ 62):Builtin.Range.small a b 2=true:=by
 unfold Builtin.Range.small;rw[u9];dsimp[Builtin.Range.rangeFitsLong,cN,fM,d8,gr,show((2:Int)>0)by decide,b9];split<;>lia
section
variable {X:Cx}{tg:aC}
def Ie{H:Hp}{s:aA}{R:It->Hp->Prop}{E:aa->aA->Prop}{lo hi:Int}{v:Tok}{tk:Nat}(I:Inv X pins σ H s)(h1:-(2 ^ 62)<=lo)(j:lo<2 ^ 62)(J:-(2 ^ 62)<=hi)(L:hi<2 ^ 62)
  (q:R (L_ lo ((hi-lo+1) / 2).toNat) H):wpAny (model X.prog X.w) X.A (pyIter<|.ref s.heap.objs.size) (NI X pins σ tg R) E { s with heap:=s.heap.push { cls:=.type "range",data:=.fields #[.int lo t,.int hi u,.int 2 v]},toks:=tk }:=by
 refine wpAny_pyIter_range (IsRange.new ..) (Aj h1 j J L) ?_;have I1:Inv X pins σ H { s with heap:=s.heap.push { cls:=.type "range",data:=.fields #[.int lo t,.int hi u,.int 2 v]},toks:=tk }:=I.kept λb o e=>aK _ e;refine⟨(s.heap.push { cls:=.type "range",data:=.fields #[.int lo t,.int hi u,.int 2 v]}).objs.size,[(s.heap.push { cls:=.type "range",data:=.fields #[.int lo t,.int hi u,.int 2 v]}).objs.size],_,_,H,rfl,
  I1.kept (t':=tk) λb o e=>aK _ e,C6 _ lo ((hi-lo+1) / 2).toNat,?_,λb c=>?_,q⟩
 ·have e1:lo+((0:Nat):Int) * 2=lo:=by simp
  have e2:((((hi-lo+1) / 2).toNat:Nat):Int)-((0:Nat):Int)=Builtin.Range.rangeSize lo hi 2:=by rw[u9];split<;>lia
  show IsRangeIter _ _ (lo+((0:Nat):Int) * 2) (((((hi-lo+1) / 2).toNat:Nat):Int)-((0:Nat):Int)) 2;rw[e1,e2];exact a_ _ rfl
 ·have e:b=(s.heap.push { cls:=.type "range",data:=.fields #[.int lo t,.int hi u,.int 2 v]}).objs.size:=by simpa using c
  subst e;kl_no
abbrev MM (ta:TA):TI:=λσ H R=>ta σ H λc H1=>∃i j:Int,c=[.int i,.int j,.int 2]/\(-(2 ^ 62)<=i/\i<2 ^ 62/\-(2 ^ 62)<=j/\j<2 ^ 62)/\R (L_ i ((j-i+1) / 2).toNat) H1
def HL{a b:aC}{ta:TA}{p:Pos}(hg:Gl X "range")(M:X.mg "range" = none)(U:PA X [a,b,c] ta)(hs:starEach [a,b,c] X.env=[(false,eval a X.env),(false,eval b X.env),(false,eval c X.env)]<|>ε)(L:starEach [b,c] X.env=[(false,eval b X.env),(false,eval c X.env)]<|>ε) :
  PI X tg (.Call (.Name "range" p) [a,b,c] [] pos) (MM ta):=by
 intro pins s σ H R I h;refine Call_ (ql I hg M boot_range<|dZ (iP (U pos pins s σ H _ I h) λus K ⟨G,H1,I1,r1,f⟩=>?_) (by rw[hs,L])<|by rw[L];rfl);obtain⟨i,j,e,⟨f,k,F,C⟩,q⟩:=f;subst e
 cases r1 with
 | cons r d=>
  cases d with
  | cons m d=>
   cases d with
   | cons g d=>
    cases d
    obtain⟨t,rfl⟩:=r;obtain⟨J,rfl⟩:=m;obtain⟨B,rfl⟩:=g;exact call_range_3 ⋯ (Ie I1 f k F C q)
end
end L2
namespace Am
open PySem PySem.Spec PyProof.Rows L2
section
variable {X:Cx}{tg a b c0:aC}{pos:Pos}
abbrev vA (lo hi:Int):Src:=⟨((hi-lo+1) / 2).toNat,λi _=>if i<((hi-lo+1) / 2).toNat then some (.int<|lo+2 * i)else none,λ_=>true⟩
def KC{K:aq}{j:Hp}{lo hi:Int}:JR K (vA lo hi) (L_ lo ((hi-lo+1) / 2).toNat) ρ0 j where
 go:=λi S H ρ x e R g=>by
  have g:(if i<((hi-lo+1) / 2).toNat then some (A.int<|lo+2 * i)else none)=some x:=g;by_cases c:i<((hi-lo+1) / 2).toNat
  ·rw[aJ c]at g
   cases g
   refine⟨c,λw H' ⟨e1,y⟩=>?_⟩;subst e1 y;exact⟨.refl,R,.int _⟩
  ·rw[aI c]at g;cases g
 stop:=λS H ρ e R _=>aL _
abbrev Nq (a b k:A)(J:gE):R Src:=match a,b,k with
 | .int i,.int j,.int m=>gd (m=2/\bnd i/\bnd j) (.ok (vA i j) J)
 | _,_,_=>.no
def Bd{a b k:A}{P:Src->gE->Prop}{E:Str->gE->Prop}(h:(Nq a b k S3).post P E):∃i j,a=.int i/\b=.int j/\k=.int 2/\bnd i/\bnd j/\P (vA i j) S3:=by
 unfold Nq at h;split at h
 ·obtain⟨⟨z,h1,c⟩,h⟩:=gQ h;exact⟨_,_,rfl,rfl,by rw[z],h1,c,h⟩
 ·exact h.elim
abbrev qI (c d:Ex)(e:Ex):Ic:=λτ S=>(c τ S).bind λa S1=>(d τ S1).bind λb f=>(e τ f).bind λk g=>Nq a b k g
def AK{c d e:Ex}{i j:Int}(h:c τ S=.ok (.int i) S1)(h':d τ S1=.ok (.int j) S2)(J:e τ S2=.ok (.int 2) S3)(M:bnd i)(L:bnd j):qI c d e τ S=.ok (vA i j) S3:=by
 unfold qI;rw[h];show(d τ S1).bind _=_;rw[h'];show(e τ S2).bind _=_;rw[J];exact aJ ⟨rfl,M,L⟩
def wO{p:Pos}{c d e:Ex}(hm:X.mg "range" = none)(ha:AE X a c)(hb:AE X b d)(hc:AE X c0 e)(hg:Gl X "range"<|>ε)(hs:starEach [a,b,c0] X.env=[(false,eval a X.env),(false,eval b X.env),(false,eval c0 X.env)]<|>ε)(U:starEach [b,c0] X.env=[(false,eval b X.env),(false,eval c0 X.env)]<|>ε)(Z:starEach [c0] X.env=[(false,eval c0 X.env)]<|>ε) :
  AI X tg (.Call (.Name "range" p) [a,b,c0] [] pos) (qI c d e):=λpins s σ H Q I h9=>by
 z_go;refine HL hg hm (kR ha (kR hb (kR hc qF Z)<|by rw[U,Z])<|by rw[hs,U]) hs U pins s σ H Q I ⟨ρ,S,τ,R,r,gB (gG h) .refl λx S1 h1 ρ1 H1 v e1 R1 G=>⟨ρ1,S1,τ,R1,r.ext e1,gB (gG h1) e1 λy q L m H2 w e2 R2 B=>⟨m,q,τ,R2,(r.ext e1).ext e2,gB (gG L) (e1.trans e2) λz T F k O u C J K=>?_⟩⟩⟩;obtain⟨i,j,N,hy,P,g,f,M⟩:=Bd F;subst N hy P
 cases G
 cases B
 cases K
 exact⟨_,_,rfl,⟨g.1,g.2,f.1,f.2⟩,M k O _ ((e1.trans e2).trans C) J KC⟩
end
end Am
namespace L2
open PySem PySem.Spec PyProof.Rows
section
variable {X:Cx}
abbrev ER (ns:ag):Sx.Ord where
 lt i j:=decide (ns.getD i 0<ns.getD j 0)
 E5 i:=bz (by omega)
 tr i j k h1 h2:=bq (by have:=cU h1;have:=cU h2;omega)
 neg i j k h:=by
  have:=cU h;by_cases c:ns.getD i 0<ns.getD j 0
  ·exact .inl (bq c)
  ·exact .inr<|bq<|by omega
theorem uh:∀{vs:ba}{ns:ag},IntsAre vs ns->vs.length=ns.length/\∀i,i<vs.length->∃t,vs.getD i .none=.int (ns.getD i 0) t
 | _,_,.nil=>⟨rfl,λi h=>absurd h<|Nat.not_lt_zero _⟩
 | _,_,.cons n t h=>by
  obtain⟨h1,c⟩:=uh h;refine⟨bQ (·+1) h1,λi hi=>?_⟩
  cases i with
  | zero=>exact⟨t,rfl⟩
  | succ i=>exact c i<|by simpa using hi
theorem qh{f:Nat->Int}{h:Nat->aa}:∀(l:am),(∀i∈l,∃t,h i=.int (f i) t)->Vals (l.map λi=>V.int<|f i) (l.map h)
 | [],_=>.nil
 | i::l,e=>.cons (e i<|aQ ..)<|qh l λj c=>e j<|aV _ c
def xE{s:aA}{H:Hp}{Q:VK}{h':ak}{tk:Nat}{L:ba}{ns:ag}(I1:Inv X pins σ H { s with heap:=h',toks:=tk })(M:Sx.RO ns.length)(hi:IntsAre L ns)(hz:L.length<=sizeLine)
  (q:∀l g,H l=none->Sx.Cl g 0 ns.length->Sx.So (ER ns) g 0 ns.length->Q (.ref l) (upd H l<|.lst<|(List.range ns.length).map λi=>V.int<|ns.getD (g i) 0)) :
  wpAny (model X.prog X.w) X.A.in1 (do
   let l <- newList L
   let _ <- holding [l] (call (Value.builtin "list.sort") [l] [])
   ret l) (λfin s'=>∃v,fin=Fin.done (Flow.ret v)/\EP X pins σ Q v s') X.xe { s with heap:=h',toks:=tk }:=by
 obtain⟨C,c⟩:=uh hi;refine aF<|wpAny_newList ?_;have d:(h'.push<|seqObj "list" L.toArray 0).get? h'.objs.size=some (seqObj "list" L.toArray 0):=a_ _ rfl
 skip
 refine aF (cP<|cM slot_list_sort ⟨_,d,rfl⟩ entry_list_sort (Sx.Au (o:=ER ns) (kd:=oneType') d hz (by rw[C];exact M) (λm F k=>?_) (λm i j f J K F k=>?_) λg hc hs=>⟨_,rfl,?_⟩)<|args_list_sort _)
 ·obtain⟨a,b,r,rfl⟩:∃a b r,L=a::b::r:=by
   cases L with
   | nil=>simp at m
   | cons a L=>cases L with
    | nil=>simp at m
    | cons b r=>exact⟨a,b,r,rfl⟩
  exact wpAny_of_eq (keyKind_ints hi) k
 ·obtain⟨t,e1⟩:=c i f;obtain⟨u,e2⟩:=c j J;show wpAny _ _ (keyLt' oneType' (L.getD i .none)<|L.getD j .none) F K _;rw[e1,e2,keyLt'_oneType];exact Sx.F_ true k
 ·rw[C]at hc hs ⊢;obtain⟨e,G⟩:=sortedHeap_at (out:=((List.range ns.length).map λi=>L.getD (g i) .none).toArray) d;have old:∀b p,h'.get? b=some p->(sortedHeap (h'.push<|seqObj "list" L.toArray 0) h'.objs.size L ((List.range ns.length).map λi=>L.getD (g i) .none).toArray).get? b=some p:=λb p B=>by
   rw[sortedHeap_old (bw<|bf B)<|by rw[cE];exact d7<|bf B];exact aK _ B
  refine aH ⟨_,rfl,.ref h'.objs.size,_,I1.laid (t':=tk) (o:=.lst<|(List.range ns.length).map λi=>V.int<|ns.getD (g i) 0) old (aL _) ?_,rfl,q _ g (I1.hok.fresh<|aL _) hc hs⟩;refine⟨by rw[aN,bC];omega,(List.range ns.length).map λi=>L.getD (g i) .none,e,qh _ λi hi=>c _ (by have:=(hc i (b_ _)<|cR.mp hi).2;omega),G⟩
end
end L2
namespace Am
open PySem PySem.Spec PyProof.Rows L2
section
def Fy{ns:ag}{g:Nat->Nat}(c:Sx.Cl g 0 ns.length)(J:Sx.So (ER ns) g 0 ns.length):(List.range ns.length).map (λi=>ns.getD (g i) 0)=sortI ns:=by
 refine yM ?_ ?_ (qQ ns)
 ·refine List.Perm.trans ?_ (sortI_perm ns).symm;have p:=w6 (N:=ns.length) (g:=g) (λi hi=>(c i (b_ _) hi).2) λi j d e z=>by
   have:=J i j (b_ _) d e;rw[z]at this;exact this.E5
  have:=p.map λi=>ns.getD i 0;rw[eK,range_getD]at this;exact this
 ·rw[cH];intro i j hi e d;rw[aN,bC]at hi e;rw[fD,fD,eW,eW];have:=of_decide_eq_false (J i j (b_ _) d e).ge
  lia
end
end Am
namespace L2
open PySem PySem.Spec PyProof.Rows
def JM:bootBuiltins "set" = some (.type "set"):=by decide +kernel
theorem v9:∀{ns:ag}{its:ba},Vals (ns.map V.int) its->IntsAre its ns
 | [],_,.nil=>.nil
 | n::ns,_::its,.cons r rs=>by
  obtain⟨t,rfl⟩:=r;exact .cons n t<|v9 rs
def CO(ns:ag):firstMet (λi=>ns.getD i 0) ns.length=ns.foldl step_dedup []:=by
 unfold firstMet;congr 1;refine List.ext_getElem (by simp) λi h1 c=>?_;simp[aG c]
abbrev Up (xs:Array Nat):Prop:=∀i j (hi:i<j) (hj:j<xs.size),xs[i]<xs[j]
theorem sX(xs:Array Nat)(j:Nat)(u:Up xs):∀(f lo hi:Nat),hi-lo<=f->lo<=hi->hi<=xs.size->(∀i (h:i<xs.size),i<lo->xs[i]<j)->(∀i (h:i<xs.size),hi<=i->j<=xs[i]) ->
  SetTable.below.go xs j f lo hi<=xs.size/\(∀i (h:i<xs.size),i<SetTable.below.go xs j f lo hi->xs[i]<j)/\(∀i (h:i<xs.size),SetTable.below.go xs j f lo hi<=i->j<=xs[i])
 | 0,lo,hi,hf,hl,hs,h1,h2=>by
  unfold SetTable.below.go;have:lo=hi:=()
  subst this;exact⟨hs,h1,h2⟩
 | f+1,lo,hi,hf,hl,hs,h1,h2=>by
  unfold SetTable.below.go;by_cases c:lo<hi
  ·rw[aJ c];have k:(lo+hi) / 2<xs.size:=()
   have e:xs.getD ((lo+hi) / 2) j=xs[(lo+hi) / 2]:=by simp[Array.getD,k]
   dsimp only;rw[e];by_cases d:xs[(lo+hi) / 2]<j
   ·rw[aJ d];refine sX xs j u f _ _ () () hs (λi h g=>?_) h2;by_cases q:i=(lo+hi) / 2
    ·subst q;exact d
    ·exact lt_trans (u i _ () k) d
   ·rw[aI d];refine sX xs j u f _ _ () () () h1 λi h g=>?_;by_cases q:i=(lo+hi) / 2
    ·subst q;lia
    ·have:=u ((lo+hi) / 2) i () h
     lia
  ·rw[aI c];have:lo=hi:=()
   subst this;exact⟨hs,h1,h2⟩
def ng{xs:Array Nat}(u:Up xs)(j:Nat):SetTable.below xs j<=xs.size/\(∀i (h:i<xs.size),i<SetTable.below xs j->xs[i]<j)/\(∀i (h:i<xs.size),SetTable.below xs j<=i->j<=xs[i]):=
 sX xs j u xs.size 0 xs.size () () () (λi h z=>absurd z ()) λi h z=>absurd h ()
def wH{xs:Array Nat}(u:Up xs){i:Nat}(h:i<xs.size):SetTable.below xs (xs[i]+1)=i+1:=by
 obtain⟨h1,e,d⟩:=ng u<|xs[i]+1;refine Nat.le_antisymm (fy λc=>?_) (fy λc=>?_)
 ·have a:=e (i+1) () c;have b:=u i (i+1) () ()
  lia
 ·have:=d i h ()
  lia
def AQ(u:Up xs):SetTable.below xs 0=0:=by
 obtain⟨h1,d,e⟩:=ng u 0;refine Nat.le_antisymm (fy λc=>?_)<|b_ _;have:=d 0 () c
 lia
def Cd{xs:Array Nat}{p x:Nat}(h:p<=xs.size)(i:Nat):(SetTable.insertAt xs p x)[i]?=if i<p then xs[i]? else if i=p then some x else xs[i-1]?:=by
 unfold SetTable.insertAt;rw[Array.getElem?_append];have e:((xs.extract 0 p).push x).size=p+1:=by simp;lia
 rw[e];by_cases c:i<p
 ·rw[aJ (),aJ c,Array.getElem?_push,aI<|by simp;lia];rw[fh];simp[c]
  lia
 ·rw[aI c];by_cases d:i=p
  ·subst d;rw[aJ (),aJ rfl,Array.getElem?_push,aJ<|by simp;lia]
  ·rw[aI (),aI d,fh];by_cases q:i-(p+1)<xs.size-p
   ·rw[aJ ()];congr 1
    lia
   ·rw[aI (),dW ()]
def HP:Up xs ↔ ∀i j a b:Nat,i<j->xs[i]?=some a->xs[j]?=some b->a<b:=by
 constructor
 ·intro u i j a b c f d;obtain⟨h1,rfl⟩:=c9.mp f;obtain⟨g,rfl⟩:=c9.mp d;exact u i j c g
 ·intro h i j c e;exact h i j _ _ c (bM ())<|bM e
def Hu(u:Up xs)(hn:xs[SetTable.below xs j]?≠some j):Up (SetTable.insertAt xs (SetTable.below xs j) j):=by
 obtain⟨h1,J,C⟩:=ng u j;have B:∀i (h:i<xs.size),SetTable.below xs j<=i->j<xs[i]:=λi h hi=>by
  have a:=C i h hi;by_cases q:xs[i]=j
  ·by_cases r:SetTable.below xs j=i
   ·exact absurd (by rw[r,bM h,q]) hn
   ·have b:=C (SetTable.below xs j) ()<|aL _;have c:=u (SetTable.below xs j) i () h
    lia
  ·lia
 refine HP.mpr λi k a b p e d=>?_;rw[Cd h1]at e d;have g:∀{i a:Nat},xs[i]?=some a->∃h:i<xs.size,xs[i]=a:=λh=>c9.mp h;by_cases c1:i<SetTable.below xs j
 ·rw[aJ c1]at e;obtain⟨F,rfl⟩:=g e;have G:=J i F c1;by_cases c2:k<SetTable.below xs j
  ·rw[aJ c2]at d;obtain⟨f,rfl⟩:=g d;exact u i k p f
  ·rw[aI c2]at d;by_cases m:k=SetTable.below xs j
   ·rw[aJ m]at d
    cases d
    exact G
   ·rw[aI m]at d;obtain⟨f,rfl⟩:=g d;exact lt_trans G<|B _ f ()
 ·rw[aI c1]at e;rw[aI<|show ¬k<SetTable.below xs j by lia,aI<|show ¬k=SetTable.below xs j by lia]at d;obtain⟨f,rfl⟩:=g d;by_cases m:i=SetTable.below xs j
  ·rw[aJ m]at e
   cases e
   exact B _ f ()
  ·rw[aI m]at e;obtain⟨F,rfl⟩:=g e;exact u _ _ () f
def A1(n:Nat):Up (Array.range n):=λi j c d=>by
 simp at d;simp;exact c
structure Sr (t:SetTable):Prop where
 up:Up t.place
 dm:t.dummies=#[]
def yi(j:Nat):SetTable.has #[] j=false:=rfl
def Sr.slot{t:SetTable}(r:Sr t)(j:Nat):t.slot j=if t.place[SetTable.below t.place j]? == some j then .live (SetTable.below t.place j)else .empty:=by
 unfold SetTable.slot;rw[r.dm,yi];rfl
def JG(t:SetTable)(p:SetTable.Probe):(t.advance p).dummy=p.dummy:=by
 unfold SetTable.advance;split<;>rfl
theorem vN{t:SetTable}(r:Sr t)(f:Nat->Int)(h:Int):∀(n:Nat) (p:SetTable.Probe) (j:Nat) (d:bo),p.dummy=none->SetTable.probe.go t f h n p=some (.empty j d)->d=none/\t.slot j=.empty
 | 0,p,j,d,_,e=>by unfold SetTable.probe.go at e;cases e
 | n+1,p,j,d,hp,e=>by
  unfold SetTable.probe.go at e
  cases hs:t.slot p.j with
  | empty=>
   rw[hs]at e
   cases e
   exact⟨hp,hs⟩
  | dummy=>
   rw[r.slot]at hs;split at hs<;>cases hs
  | live i=>
   rw[hs]at e;dsimp only at e;split at e
   ·cases e
   ·exact vN r f h n _ j d (by rw[JG];exact hp) e
def FH{t:SetTable}(r:Sr t){h:Int}{b:Bool}(e:t.freeSlot h=some (j,b)):b=false/\t.place[SetTable.below t.place j]?≠some j:=by
 unfold SetTable.freeSlot at e;split at e
 ·next j' d hp=>
  obtain⟨hd,hs⟩:=vN r _ _ _ _ _ _ rfl hp;subst hd
  cases e
  refine⟨rfl,λz=>?_⟩;rw[r.slot,show Option.getD none j'=j' from rfl]at *
  rw[z]at hs;simp at hs
 ·cases e
def Sr.z8(t:SetTable)(n:Nat):Sr (t.standIn n):=⟨A1 n,rfl⟩
def Sr.put{t:SetTable}(r:Sr t)(h:t.place[SetTable.below t.place j]?≠some j):Sr (t.put j).1:=by
 refine⟨Hu r.up h,?_⟩;show(if SetTable.has t.dummies j=true then _ else t.dummies)=#[];rw[r.dm,yi];rfl
def Sr.lay{t:SetTable}(r:Sr t)(es:Array<|Int×aa)(h:Int)(x:aa):Sr (layNew t es h x).2.1/\(layNew t es h x).2.1.led=t.led:=by
 unfold layNew;split
 ·next j b e=>
  have q:=r.put (FH r e).2;dsimp only;unfold SetTable.orStandIn;split
  ·exact⟨q,rfl⟩
  ·exact⟨Sr.z8 _ _,rfl⟩
 ·exact⟨Sr.z8 _ _,rfl⟩
def Sr.laid{plain:Bool}{t:SetTable}(e:SetTable.laid mask finger moves led plain hs=some (t,o)):Sr t/\t.led=led:=by
 unfold SetTable.laid at e
 cases hc:SetTable.layClean mask hs with
 | none=>rw[hc]at e;cases e
 | some c=>
  rw[hc]at e
  cases e
  refine⟨⟨?_,rfl⟩,rfl⟩;have f:(((List.range<|mask+1).filterMap λj=>(c.getD j none).map (j,·)).map (·.1)).Pairwise (· < ·):=by
   rw[List.pairwise_map,List.pairwise_filterMap];refine List.Pairwise.imp (λ{a b} hab x hx y hy=>?_) List.pairwise_lt_range;obtain⟨_,_,rfl⟩:=bx.mp hx;obtain⟨_,_,rfl⟩:=bx.mp hy;exact hab
  intro i j d g;rw[List.getElem_toArray,List.getElem_toArray];exact cH.mp f i j _ _ d
def Sr.KU{t:SetTable}(r:Sr t)(es:Array<|Int×aa)(n:Nat):Sr (relayAll t es n).2.1/\(relayAll t es n).2.1.led=t.led:=by
 unfold relayAll;split
 ·next t' o e=>
  dsimp only;split
  ·exact Sr.laid e
  ·exact⟨Sr.z8 _ _,rfl⟩
 ·exact⟨Sr.z8 _ _,rfl⟩
section
variable {P:ah}{w:af}{A:az}{E:aa->aA->Prop}{s:aA}
abbrev mG (P:ah)(w:af)(b:Bool)(h:ak)(a:aj)(S:Int->Bool)(n:Nat):Prop:=
 ∃o es ep t,h.get? a=some o/\o.ExactSet/\o.data=.set es ep t/\ElemsOf (intKind P w) es.toList/\(∀k,S k=true ↔ ∃e∈es.toList,(intKind P w).is k e.2=true)/\es.size<scanBound/\t.fits es.size=true/\es.size=n/\Sr t/\t.led=b
def stored{h:ak}{a:aj}{o:Obj}{es:Array<|Int×aa}(J:h.get? a=some o)(hd:o.data=.set es ep t)(j:Array<|Int×aa)(t':SetTable):(h.update a<|Obj.putSet j t').get? a=some { o with data:=.set j (ep+1) t' }:=by
 have q:=bT (Obj.putSet j t') J (by rw[putSet_of j t' hd];rfl)
 rwa [putSet_of j t' hd]at q
def G8{g:Bool->Sem Unit}{b:Bool}(hg:∀(c:Bool) (s1:aA) (q:Unit->aA->Prop),q Unit.unit s1->wpAny (model P w) A (g c) q E s1){a:aj}{o:Obj}{es J:Array<|Int×aa}{M:SetTable}(Z:s.heap.get? a=some o)(hx:o.ExactSet)(hd:o.data=.set es ep t)
  {S':Int->Bool} (el:ElemsOf (intKind P w) J.toList) (mm:∀k',S' k'=true ↔ ∃e∈J.toList,(intKind P w).is k' e.2=true) (U:J.size<scanBound) (hf:M.fits J.size=true) (r:Sr M) (hl:M.led=b) {wd:Bool} {R:bn->aA->Prop}
  (k:∀h',Heap.SameBut a s.heap h'->mG P w b h' a S' J.size->R (some true) { s with heap:=h' }) :
  wpAny (model P w) A (do
   storeSet a J M
   if (!wd && M.tooFull)=true then do
     g (relayAll M J<|SetTable.grown J.size).2.2
     storeSet a (relayAll M J<|SetTable.grown J.size).1 (relayAll M J<|SetTable.grown J.size).2.1
     pure (some true)
    else pure (some true)) R E s:=by
 refine aF<|wpAny_storeSet_of Z hd ?_<|fits_of_scanBound U;have h1:=stored Z hd J M;have C:=b8 s.heap a<|Obj.putSet J M;split
 ·have f:=relayAll_perm M J<|SetTable.grown J.size;have p:=relayAll_fits M J<|SetTable.grown J.size;have j:=r.KU J<|SetTable.grown J.size;generalize relayAll M J (SetTable.grown J.size)=L at f p j ⊢;obtain⟨d,F,G⟩:=L;dsimp only at f p j ⊢;have sz:d.size=J.size:=by rw[<- bA,f.length_eq,bA]
  have B:d.size<scanBound:=by rw[sz];exact U
  refine aF<|hg _ _ _<|aF<|wpAny_storeSet_of h1 rfl ?_<|fits_of_scanBound B;exact aH<|k _ (C.trans<|b8 _ a _) ⟨_,d,_,F,stored h1 rfl d F,hx,rfl,el.perm f,λk'=>(mm k').trans ⟨λ⟨e,m,q⟩=>⟨e,f.mem_iff.mpr m,q⟩,λ⟨e,m,q⟩=>⟨e,f.mem_iff.mp m,q⟩⟩,B,p,sz,j.1,j.2.trans hl⟩
 ·exact aH<|k _ C ⟨_,J,_,M,h1,hx,rfl,el,mm,U,hf,rfl,r,hl⟩
def MD{a:aj}{S:Int->Bool}{n:Nat}{k:Int}{x:aa}{b:Bool}{Q:Bool->aA->Prop}(hk:(intKind P w).is k x=true)(hx:x.scannable=true)(hS:mG P w b s.heap a S n)(room:n+1<scanBound)
  (q:∀h',Heap.SameBut a s.heap h'->mG P w b h' a (λk'=>S k' || decide (k'=k)) (if S k then n else n+1)->Q (!S k) { s with heap:=h' }):wpAny (model P w) A (setAddHashed a x<|(intKind P w).hash k) Q E s:=by
 obtain⟨o,es,ep,t,C,V,hd,el,U,Y,hf,hn,r,T⟩:=hS;have b1:es.size+1<scanBound:=by rw[hn];exact room
 unfold setAddHashed setAddHashedIn;refine cP<|aF<|bL C hd hf ?_;dsimp only;rw[byScan_of hx Y el];dsimp[↓reduceIte];unfold setAddByScan;refine aF (aF<|dH<|aF<|wpAny_setScan_of hk C hd hf el ?_)
 cases Z:List.findIdx? (λe=>(intKind P w).is k e.2) es.toList with
 | some j=>
  dsimp only;obtain⟨hj,pj,_⟩:=List.findIdx?_eq_some_iff_getElem.mp Z;have M:S k=true:=(U k).mpr ⟨_,dN hj,pj⟩;have z:=q s.heap (Heap.SameBut.refl a s.heap) ⟨o,es,ep,t,C,V,hd,el,λk'=>by
   rw[fM,d8,<- U k'];exact⟨λv=>v.elim id λe=>by rw[e];exact M,.inl⟩,Y,hf,by rw[M];exact hn,r,T⟩
  rw[M]at z;exact aH<|aH z
 | none=>
  dsimp only;have M:S k=false:=Bool.eq_false_iff.mpr λz=>by
   obtain⟨e,he,hp⟩:=(U k).mp z;have:=List.findIdx?_eq_none_iff.mp Z e he;rw[hp]at this;cases this
  have p:=layNew_perm t es ((intKind P w).hash k) x;have J:=layNew_fits t es ((intKind P w).hash k) x;have f:=r.lay es ((intKind P w).hash k) x;generalize layNew t es ((intKind P w).hash k) x=L at p J f ⊢;obtain⟨m,t1,wd,gv⟩:=L;dsimp only at p J f ⊢;rw[fm]at p;have K:=(el.push hk hx).perm p;have F:=mem_push_iff hk U p;have W:m.size=n+1:=by rw[<- bA,p.length_eq,aS,bA,hn];rfl
  have G:m.size<scanBound:=by rw[W];exact room
  have fin:∀h',Heap.SameBut a s.heap h'->mG P w b h' a (λk'=>S k' || decide (k'=k)) m.size->Q true { s with heap:=h' }:=λh' N d=>by
   have z:=q h' N;rw[M]at z;rw[W]at d;exact z d
  have gw:∀(c:Bool) (O:aA) (B:Unit->aA->Prop),B Unit.unit O->wpAny (model P w) A (match c with|true=>rule "set.scan.the-table-gave-way" | false=>pure Unit.unit) B E O:=λc O B g=>by cases c<;>first|exact aH g|exact dH g
  refine aF<|gw _ _ _ ?_;split
  ·refine aF ?_;rw[hashByValue_scannable 8 hx];refine aH (G8 (λc O B g=>by cases c<;>first|exact aH g|exact dH g) C V hd K F G ?_ ?_ ?_ λh' N d=>aH<|fin h' N d)
   ·split
    ·exact J
    ·exact SetTable.fits_plain_off J
   ·split
    ·exact f.1
    ·exact⟨f.1.up,f.1.dm⟩
   ·split
    ·exact f.2.trans T
    ·exact f.2.trans T
  ·refine aF<|aH ?_;dsimp[↓reduceIte];exact G8 (λc O B g=>by cases c<;>first|exact aH g|exact dH g) C V hd K F G J f.1 (f.2.trans T) λh' N d=>aH<|fin h' N d
end
section
variable {P:ah}{w:af}{A:az}{E:aa->aA->Prop}{s:aA}
abbrev tw (w:af):Bool:=!w.params.followText "set-order"
abbrev j4 (w:af):Obj:={ cls:=.type "set",dict:=none,data:=.set #[] 0 (.fresh 0 0<|tw w)}
def B8(a:aa){q:aa->aA->Prop}(h:q (.ref s.heap.objs.size) { s with heap:=s.heap.push<|j4 w}):codeAny (model P w) A (.call (.builtin "set.__new__") ⟨[.type "set",a],[]⟩) (wants q E) s:=by
 refine codeAny_of_tree ?_;show wpAny (model P w) A.in1 (do checkBuiltinCall "set.__new__" ⟨[.type "set",a],[]⟩;again (.builtin "set.__new__" ⟨[.type "set",a],[]⟩)) _ _ s;refine aF<|wpAny_of_eq (PySem.F.newCall_set_1 a)<|aH ⟨fF PySem.F.plain_set_new _,dX PySem.F.entry_set_new ?_⟩;rw[dF PySem.F.plain_set_new _];unfold Builtin.«set.__new__» Builtin.Frozenset.newClass;have c:=sub_set_self;obtain⟨f,g,d,tk,e⟩:=s;dsimp only
 wp_walk
 refine wpAny_askSetting<|aH ?_;dsimp only;dsimp[newObj];refine aF<|wpAny_alloc<|aH<|aH ?_;exact h
def HN{h:ak}{a:aj}(J:h.get? a=some (j4 w)):mG P w (tw w) h a (λ_=>false) 0:=
 ⟨_,#[],0,_,J,⟨rfl,rfl,rfl⟩,rfl,(λe c=>by cases c),(λk=>⟨(λz=>by cases z),(λ⟨e,c,_⟩=>by cases c)⟩),⋯,rfl,rfl,⟨(λi j f d=>absurd d<|by simp[SetTable.fresh]),rfl⟩,rfl⟩
def mG.congr{b:Bool}{a:aj}{S S':Int->Bool}{n:Nat}(r:mG P w b h a S n)(e:∀k,S k=S' k)(j:n=n'):mG P w b h a S' n':=by
 have:S=S':=funext e;subst this;subst j;exact r
def mG.at{b:Bool}{h h':ak}{a:aj}{S:Int->Bool}{n:Nat}(r:mG P w b h a S n)(k:∀o,h.get? a=some o->h'.get? a=some o):mG P w b h' a S n:=by
 obtain⟨o,es,ep,t,c,rest⟩:=r;exact⟨o,es,ep,t,k o c,rest⟩
section
variable {R:Result->aA->Prop}{I:aj}{fp wr:bb}{G:Array GenState->Array GenState->Prop}{n:Nat}{V:Nat->aa->Prop}{St:Nat->aA->Prop}
def LU{b:Bool}(W:WalksS P w A.in1 I fp wr G n V St)(a:aj)(U:a∉fp)(val:Nat->Int)(hv:∀i v,V i v->∃t,v=.int (val i) t)(Z:n+1<scanBound) :
  ∀(k i:Nat) (s:aA),n-i=k->i<=n->St i s->mG P w b s.heap a (λk'=>(firstMet val i).any (· == k')) (firstMet val i).length ->
   (∀s',Moved (a::wr) G s s'->mG P w b s'.heap a (λk'=>(firstMet val n).any (· == k')) (firstMet val n).length->R (.ok<|.ret .none) s') ->
   codeAny (model P w) A (.builtin "set.update.loop" ⟨[.ref a,.ref I],[]⟩) R s:=by
 have L:a∉wr:=λh=>U<|W.sub _ h;have sub:∀c∈wr,c∈a::wr:=λc hc=>aV _ hc;intro k
 induction k with
 | zero=>
  intro i s O hi d B F;have:i=n:=()
  subst this;refine dX eN ?_;rw[dF cW _];show wpAny (model P w) A.in1 (pyNext (.ref I) >>= _) _ _ s;refine aF<|W.done s _ _ d λs' f=>?_;show wpAny (model P w) A.in1 (ret Value.none) _ _ s';exact aH<|F s' (f.mono sub)<|B.at λo e=>f.heap a _ L e
 | succ k N=>
  intro i s O hi d B F;have lt:i<n:=()
  refine dX eN ?_;rw[dF cW _];show wpAny (model P w) A.in1 (pyNext (.ref I) >>= _) _ _ s;refine aF<|W.item i s _ _ lt d λv s' hP g f=>?_;obtain⟨t,rfl⟩:=hv i v hP;have K:=B.at (h':=s'.heap) λo e=>f.heap a _ L e;show wpAny (model P w) A.in1 (holding [Value.int (val i) t] (setAdd a<|.int (val i) t) >>= _) _ _ s';refine aF<|cP ?_;unfold setAdd;refine cP<|aF<|(intKind P w).pyHash (k:=val i) (intKind_is _ _ _ _) ?_;have m:(firstMet val i).length+1<scanBound:=by have:=firstMet_length_le val i;lia
  refine MD (s:={ s' with toks:=s'.toks+1 }) (intKind_is _ _ _ _) rfl K m λh' M q=>?_;have C:=q.congr (S':=λk'=>(firstMet val<|i+1).any (· == k')) (n':=(firstMet val<|i+1).length) (λk'=>by rw[firstMet_succ,step_any]) (by rw[firstMet_succ,step_length]);refine aH ⟨fF cW _,N (i+1) _ () lt (W.frame _ s' _ _ g (Nat.le_succ _) λc hc o e=>?_) C λJ p j=>?_⟩
  ·rw[M.2 c (λz:c=a=>U<|by rw[<- z];exact hc)];exact e
  ·refine F J (Moved.trans W.gtrans ((f.mono sub).then_heap (Nat.le_succ _) λc o hc e=>?_) p) j;rw[M.2 c (λz:c=a=>hc<|by rw[z];exact aQ)];exact e
end
end
section
variable {P:ah}{w:af}{A:az}{E:aa->aA->Prop}{s:aA}
def Ai{items:Array aa}{ns:ag}{q:aa->aA->Prop}(hh:A.handled=none)(hl:s.heap.IsList l items)(hi:IntsAre items.toList ns)(hb:items.size+1<scanBound)
  (h:∀(h':ak) (tk:Nat),mG P w (tw w) h' s.heap.objs.size (λk'=>(firstMet (λi=>ns.getD i 0) items.size).any (· == k')) (firstMet (λi=>ns.getD i 0) items.size).length ->
   (∀b o,b<s.heap.objs.size->s.heap.get? b=some o->h'.get? b=some o)->q (.ref s.heap.objs.size) { s with heap:=h',toks:=tk }) :
  wpAny (model P w) A (call (.type "set") [.ref l]) q E s:=by
 obtain⟨c,tl,Y⟩:=cj.mro;have K:=cj.made;have Z:=cj.sub;refine wpAny_call<|codeAny_of_tree ?_;show wpAny (model P w) _ (callAny (.type "set") _) _ _ _;refine aH ⟨Code.quiet_builtin _ ∅,dX PySem.F.entry_type_call ?_⟩;rw[Around.under_plain (weight_type_call_type "set" [.ref l] []) rfl];have h1:=cj.notType;have h2:=cj.canCreate;have hct:=PySem.F.typeCall_set_1 (.ref l)
 repeat (any_goals (first|assumption|wp_step))
 refine eF (B8 (.ref l) (E:=E) (q:=λT s1=>T=.ref s.heap.objs.size/\s1={ s with heap:=s.heap.push<|j4 w}) ⟨rfl,rfl⟩) λr s1 M=>?_
 cases r with
 | error e=>exact M
 | ok fl=>
  cases fl with
  | ret T=>
   obtain⟨rfl,rfl⟩:=M;have V:(s.heap.push<|j4 w).get? s.heap.objs.size=some (j4 w):=a_ _ rfl;have hT:Shared.TypeIs { s with heap:=s.heap.push<|j4 w} (.ref s.heap.objs.size) "set" := ⟨_,V,rfl⟩;have hli:=cj.init.lookup;have hbi:=cj.init.bind (.ref s.heap.objs.size)
   repeat (any_goals (first|assumption|wp_step))
   refine eF (codeAny_call_builtin (R:=wants (λr W=>r=.none/\∃h' tk,W={ s with heap:=h',toks:=tk }/\mG P w (tw w) h' s.heap.objs.size (λk'=>(firstMet (λi=>ns.getD i 0) items.size).any (· == k')) (firstMet (λi=>ns.getD i 0) items.size).length /\
     (∀b o,b<s.heap.objs.size->s.heap.get? b=some o->h'.get? b=some o)) E) cj.init.plain PySem.F.entry_set_init<|check_set_init_1 hT ?_) λr2 W d=>?_
   ·obtain⟨ol,k,j,O,m⟩:=hl;obtain⟨oc,od,oda,J⟩:=ol;simp only at j m;subst j;subst m;have g:(s.heap.push<|j4 w).get? l=some { cls:=.type "list",dict:=od,data:=.seq items O,slots:=J }:=aK _ k;have g1:=PySem.F.sub_list_set;have g2:=PySem.F.sub_list_frozenset;have g3:(Value.type "list" == Value.type "dict")=false:=by decide
    have p:(s.heap.push<|j4 w).IsList l items:=⟨_,g,rfl,O,rfl⟩;unfold Builtin.«set.__init__» noKeywords Builtin.Frozenset.updateFrom;generalize hPI:pyIter=PI
    wp_walk
    subst hPI;refine f7 p<|aF<|wpAny_runValue ?_;have U:l<s.heap.objs.size:=bf k;have h3:A.in1.in1.in1.handled=none:=by simp[hh]
    have nI:l≠(s.heap.push<|j4 w).objs.size:=by rw[cE];exact bw (d7 U)
    have sf:s.heap.objs.size∉[(s.heap.push<|j4 w).objs.size,l]:=by
     rw[cE];dsimp[bH,aR,List.not_mem_nil,or_false,not_or];exact⟨bw<|c6 _,gh U⟩
    refine LU ((Walks.list h3 _ l nI items).toS) s.heap.objs.size sf (λi=>ns.getD i 0) (λi v hv=>IntsAre.int_at hi i v<|by rw[cL];exact hv) hb (items.size-0) 0 _ () (b_ _)
     ⟨⟨_,a_ _ rfl,rfl,rfl⟩,(p.push _)⟩ ((HN<|aK _ V).congr (λ_=>rfl) rfl) λs' B f=>?_
    obtain⟨h',g',d',G,L⟩:=s';have eg:g'=s.gens:=B.gens;have ed:d'=s.drawn:=B.drawn;have eo:L=s.os:=B.os;subst eg;subst ed;subst eo;show wpAny _ _ _ _ _ _;refine aH ?_;show wpAny (model P w) _ (ret Value.none) _ _ _;refine aH ⟨rfl,h',G,rfl,f,λb o hb e=>B.heap b o ?_<|aK _<|aK _ e⟩;dsimp[bH,aR,List.not_mem_nil,or_false,not_or];exact⟨bw hb,by rw[cE];exact bw<|d7 hb⟩
   ·cases r2 with
    | error e=>exact d
    | ok C=>
     cases C with
     | ret r=>
      obtain⟨rfl,h',tk,rfl,f,N⟩:=d
      repeat (any_goals (first|assumption|wp_step))
      exact h _ _ f N
     | _=>exact d.elim
  | _=>exact M.elim
end
def iC:Slot "set_iterator" "__next__" "set_iterator.__next__" :=
 .of (owner := "set_iterator") (n := "__next__") (by rw[typeLookup_type,fu];kernel_rfl) ∅ ∅ ∅ (by first|exact .inl ∅|exact .inr ∅) (by rw[fW];kernel_rfl)
def nF:entryFor table "set_iterator.__next__" = some Builtin.«set_iterator.__next__»:=entryFor_of_tree<|by kernel_rfl
def Ej:Manifest.owners.lookup (String.ofList ['r','o','t','a','r','e','t','i','_','t','e','s'].reverse)=some Manifest.sig_set_iterator:=by kernel_rfl
def nL(a:aa):argsOk "set_iterator.__next__" ⟨[a],[]⟩:=by
 unfold argsOk;rw[signature?_of (id := "set_iterator.__next__") (n:=['_','_','t','x','e','n','_','_']) (o:=['r','o','t','a','r','e','t','i','_','t','e','s']) (by kernel_rfl) Ej];kernel_rfl
def Eo:entryFor table "set.__iter__" = some Builtin.«frozenset.__iter__»:=entryFor_alias (id' := "frozenset.__iter__") (by kernel_rfl) rfl ∅ (by kernel_rfl)
section
variable {P:ah}{w:af}{A:az}{E:aa->aA->Prop}{s:aA}
theorem tK{α:Type}:∀(l:List α) (i:Nat) (h:i<l.length),(l[i]::l.eraseIdx i).Perm l
 | x::l,0,_=>.refl _
 | x::l,i+1,h=>((List.Perm.swap x _ _)).trans<|(tK l i<|by simpa using h).cons x
theorem zJ{α:Type}(next:Nat->Nat):∀(f k:Nat) (l:List α) (out:Array α),l.length=f->(pickOrder.go next f k l out).toList.Perm (out.toList++l)
 | 0,k,l,out,h=>by
  rw[dO.mp h];unfold pickOrder.go;rw[bO]
 | f+1,k,l,out,h=>by
  have lt:next k % l.length<l.length:=mod_lt _ ();unfold pickOrder.go;rw[aG lt];refine(zJ next f (k+1) _ _ (by rw[fX lt];lia)).trans ?_;rw[fm,bG];exact List.Perm.append_left _<|tK _ _ lt
def oR{α:Type}(next:Nat->Nat)(xs:Array α):(pickOrder next xs).toList.Perm xs.toList:=by
 have:=zJ next xs.size 0 xs.toList #[] (by rw[bA]);simpa[pickOrder]using this
theorem zQ{α:Type}:∀(n:Nat) (xs:List α) (s:aA) (Q:List α->aA->Prop),xs.length=n->(∀ys d,ys.Perm xs->Q ys { s with drawn:=d })->wpAny M A (drawOrder n xs) Q E s
 | 0,xs,s,Q,h,q=>by
  rw[dO.mp h];rw[dO.mp h]at q;unfold drawOrder;exact aH<|q [] s.drawn<|.refl _
 | n+1,[],s,Q,h,q=>nomatch h
 | n+1,x::xs,s,Q,h,q=>by
  unfold drawOrder;refine aF (λe p c=>⟨by simp,?_⟩);generalize hj:M.w.draws .order (s.drawn.get .order) % (x::xs).length=j;have lt:j<(x::xs).length:=by rw[<- hj];exact mod_lt _ (by simp)
  show wpAny M A _ Q E { s with drawn:=s.drawn.bump .order };rw[aG lt];refine aF (zQ n ((x::xs).eraseIdx j) _ _ (by rw[fX lt];simp at h ⊢;lia) λys d hy=>aH<|q _ d ?_);exact(List.Perm.cons _ hy).trans (tK _ _ lt)
abbrev pP (h:ak)(I a:aj)(first:aa)(i n ep:Nat):Prop:=∃o,h.get? I=some o/\o.cls=.type "set_iterator" /\ o.data=.fields #[first,.int i 0,.ref a,.int n 0,.int ep 0]
def pP.ty {I a:aj}{f:aa}{i n ep:Nat}(h:pP s.heap I a f i n ep):s.TypeIs (.ref I) "set_iterator" := let⟨o,ho,hc,_⟩:=h;⟨o,ho,hc⟩
def pP.at {h h':ak}{I a:aj}{f:aa}{i n ep:Nat}(x:pP h I a f i n ep)(k:∀o,h.get? I=some o->h'.get? I=some o):pP h' I a f i n ep:=let⟨o,ho,r⟩:=x;⟨o,k o ho,r⟩
def pP.set {h:ak}{I a:aj}{f g:aa}{i j n ep:Nat}(x:pP h I a f i n ep):pP ((h.update I<|Obj.mapFields λfs=>fs.setIfInBounds 0 g).update I<|Obj.mapFields λfs=>fs.setIfInBounds 1<|.int j 0) I a g j n ep:=by
 obtain⟨o,d,hc,hd⟩:=x;have h1:=bT (Obj.mapFields λfs=>fs.setIfInBounds 0 g) d<|dc<|bW hd _;have c:=bW hd λfs=>fs.setIfInBounds 0 g;refine⟨_,bT _ h1<|dc<|bW c _,(gb ..).trans<|(gb ..).trans hc,?_⟩;rw[bW c];simp
def pP.MO {h:ak}{I a:aj}{f:aa}{i j n ep:Nat}(x:pP h I a f i n ep):pP (h.update I<|Obj.mapFields λfs=>fs.setIfInBounds 1<|.int j 0) I a f j n ep:=by
 obtain⟨o,c,hc,hd⟩:=x;refine⟨_,bT _ c<|dc<|bW hd _,(gb ..).trans hc,?_⟩;rw[bW hd];simp
section
variable {I a:aj}{i ep:Nat}{o:Obj}{es:Array (Int×aa)}{t:SetTable}{Q:bi->aA->Prop}
def A_ {J sl':Nat}{x:aa}(hi:pP s.heap I a (.int J 0) i es.size ep)(L:s.heap.get? a=some o)(hd:o.data=.set es ep t)(hf:t.fits es.size=true)
  (hn:∀(A:az) (E:aa->aA->Prop) (Q:Option (aa×Nat)->aA->Prop),Q (some (x,sl')) s->wpAny (model P w) A (setNext a J i ep) Q E s)
  (q:∀h',pP h' I a (.int sl' 0) (i+1) es.size ep->Heap.SameBut I s.heap h'->Q (some x) { s with heap:=h' }):wpAny (model P w) A (pyNext<|.ref I) Q E s:=by
 have ty:=hi.ty;obtain⟨m,d,e,c⟩:=id hi;unfold pyNext;kj_on;refine aF<|aH<|aF<|fY d c ?_;show wpAny (model P w) _ (setEntries a >>= _) _ _ s;refine aF<|aF<|bL L hd hf<|aH ?_;rw[aI<|show ¬_ by simp];show wpAny (model P w) _ (setNext a (J:Int).toNat (i:Int).toNat (ep:Int).toNat >>= _) _ _ s;rw[bR,bR,bR];refine aF<|hn _ _ _ ?_;have f:=bT (Obj.mapFields λfs=>fs.setIfInBounds 0<|rawInt sl') d<|dc<|bW c _;have k:=bW c λfs=>fs.setIfInBounds 0<|rawInt sl';refine aF (ee d c (show _ by simp) ?_);refine aF (ee (i:=1) (x:=rawInt<|(i:Int)+1) f k (show _ by simp) ?_);refine aH ⟨_,rfl,aH<|q _ (hi.set (g:=.int sl' 0) (j:=i+1))<|(b8 ..).trans<|b8 ..⟩
def yJ {j:Nat}(J:A.handled=none)(hi:pP s.heap I a (.int j 0) i es.size ep)(L:s.heap.get? a=some o)(hd:o.data=.set es ep t)(hf:t.fits es.size=true)
  (hn:∀(A:az) (E:aa->aA->Prop) (Q:Option (aa×Nat)->aA->Prop),Q none s->wpAny (model P w) A (setNext a j i ep) Q E s)
  (q:∀h',Heap.ExtBut I s.heap h'->Q none { s with heap:=h' }):wpAny (model P w) A (pyNext<|.ref I) Q E s:=by
 have ty:=hi.ty;obtain⟨f,d,e,c⟩:=id hi;unfold pyNext;kj_on;refine aF<|aH<|aF<|fY d c ?_;show wpAny (model P w) _ (setEntries a >>= _) _ _ s;refine aF<|aF<|bL L hd hf<|aH ?_;rw[aI<|show ¬_ by simp];show wpAny (model P w) _ (setNext a (j:Int).toNat (i:Int).toNat (ep:Int).toNat >>= _) _ _ s;rw[bR,bR,bR];refine aF<|hn _ _ _ ?_;refine aF (ee d c (show _ by simp) ?_);show wpAny (model P w) _ (newExc (.type "StopIteration") [] >>= _) _ _ _;refine aF ?_;dsimp[newExc,newTuple];refine aF (bP (aF (m:=firstArgMember _ _)<|wpAny_of_eq (a:=Value.none) (by first|rfl|(dsimp[firstArgMember];rfl))<|bP ?_<|by size_fits)<|by size_fits);dsimp[raiseNew];have hn:A.in1.handled=none:=J;refine aF<|wpAny_handled<|?_;rw[hn];refine aF<|aH<|wpAny_throw<|?_;refine aF<|wpAny_isInstance (b:=true) (T := "StopIteration") ⟨_,a_ _ rfl,rfl⟩ isSubtype_stop<|aH<|q _<|((b8 ..).extBut.push _).push _
section
variable {T:aj}{pl:am}{oT:Obj}{kT:Nat}
def Jp {p:Nat}{e:Int×aa}(hi:pP s.heap I a (.ref T) i es.size ep)(L:s.heap.get? T=some oT)(dT:oT.data=.seq (pl.map λi:Nat=>rawInt i).toArray kT)(J:s.heap.get? a=some o)(hd:o.data=.set es ep t)(hf:t.fits es.size=true)
  (M:pl[i]?=some p) (U:es[p]?=some e) (q:∀h',pP h' I a (.ref T) (i+1) es.size ep->Heap.SameBut I s.heap h'->Q (some e.2) { s with heap:=h' }):wpAny (model P w) A (pyNext<|.ref I) Q E s:=by
 have ty:=hi.ty;obtain⟨g,d,f,c⟩:=id hi;unfold pyNext;kj_on;refine aF<|aH<|aF<|fY d c ?_;show wpAny (model P w) _ (setEntries a >>= _) _ _ s;refine aF<|aF<|bL J hd hf<|aH ?_;rw[aI<|show ¬_ by simp];refine aF<|wpAny_seqItems L dT ?_;have e1:(pl.map λi:Nat=>rawInt i).toArray[(i:Int).toNat]?=some (rawInt p):=by
  rw[bR,cK,aY,M];rfl
 dsimp only;rw[e1];show wpAny (model P w) _ (setNextDrawn a (p:Int).toNat (ep:Int).toNat >>= _) _ _ s;rw[bR,bR];unfold setNextDrawn;refine aF<|aF<|bL J hd hf ?_;dsimp only;rw[aI<|show ¬_ by simp];refine aF<|aH ?_;rw[U];refine aH ?_;refine aF (ee (i:=1) (x:=rawInt<|(i:Int)+1) d c (show _ by simp) ?_);exact aH ⟨_,rfl,aH<|q _ (hi.MO (j:=i+1))<|b8 ..⟩
def Gd (J:A.handled=none)(hi:pP s.heap I a (.ref T) i es.size ep)(L:s.heap.get? T=some oT)(dT:oT.data=.seq (pl.map λi:Nat=>rawInt i).toArray kT)(M:s.heap.get? a=some o)(hd:o.data=.set es ep t)(hf:t.fits es.size=true)
  (U:pl.length<=i) (q:∀h',Heap.ExtBut I s.heap h'->Q none { s with heap:=h' }):wpAny (model P w) A (pyNext<|.ref I) Q E s:=by
 have ty:=hi.ty;obtain⟨j,d,e,c⟩:=id hi;unfold pyNext;kj_on;refine aF<|aH<|aF<|fY d c ?_;show wpAny (model P w) _ (setEntries a >>= _) _ _ s;refine aF<|aF<|bL M hd hf<|aH ?_;rw[aI<|show ¬_ by simp];refine aF<|wpAny_seqItems L dT ?_;have e1:(pl.map λi:Nat=>rawInt i).toArray[(i:Int).toNat]?=none:=by
  rw[bR,cK,bJ<|by rw[aN];exact U]
 dsimp only;rw[e1];have f:=bT (Obj.mapFields λfs=>fs.setIfInBounds 0<|rawInt 0) d<|dc<|bW c _;have g:=bW c λfs=>fs.setIfInBounds 0<|rawInt 0;refine aF (ee d c (show _ by simp) ?_);refine aF (ee (i:=2) (x:=.none) f g (show _ by simp) ?_);show wpAny (model P w) _ (newExc (.type "StopIteration") [] >>= _) _ _ _;refine aF ?_;dsimp[newExc,newTuple];refine aF (bP (aF (m:=firstArgMember _ _)<|wpAny_of_eq (a:=Value.none) (by first|rfl|(dsimp[firstArgMember];rfl))<|bP ?_<|by size_fits)<|by size_fits);dsimp[raiseNew];have hn:A.in1.handled=none:=J;refine aF<|wpAny_handled<|?_;rw[hn];refine aF<|aH<|wpAny_throw<|?_;refine aF<|wpAny_isInstance (b:=true) (T := "StopIteration") ⟨_,a_ _ rfl,rfl⟩ isSubtype_stop<|aH<|q _<|(((b8 ..).trans<|b8 ..).extBut.push _).push _
end
end
end
def vK:Slot "set_iterator" "__iter__" "set_iterator.__iter__" :=
 .of (owner := "set_iterator") (n := "__iter__") (by rw[typeLookup_type,fu];kernel_rfl) ∅ ∅ ∅ (by first|exact .inl ∅|exact .inr ∅) (by rw[fW];kernel_rfl)
def Co:entryFor table "set_iterator.__iter__" = some Builtin.«dict_keyiterator.__iter__»:=entryFor_alias (id' := "dict_keyiterator.__iter__") (by kernel_rfl) rfl ∅ (by kernel_rfl)
def Ci(a:aa):argsOk "set_iterator.__iter__" ⟨[a],[]⟩:=by
 unfold argsOk;rw[signature?_of (id := "set_iterator.__iter__") (n:=['_','_','r','e','t','i','_','_']) (o:=['r','o','t','a','r','e','t','i','_','t','e','s']) (by kernel_rfl) Ej];kernel_rfl
def rm:Slot "set" "__iter__" "set.__iter__" :=
 .of (owner := "set") (n := "__iter__") (by rw[typeLookup_type,fu];kernel_rfl) ∅ ∅ ∅ (by first|exact .inl ∅|exact .inr ∅) (by rw[fW];kernel_rfl)
def Jb:Manifest.owners.lookup (String.ofList ['t','e','s'].reverse)=some Manifest.sig_set:=by kernel_rfl
def wR(a:aa):argsOk "set.__iter__" ⟨[a],[]⟩:=by
 unfold argsOk;rw[signature?_of (id := "set.__iter__") (n:=['_','_','r','e','t','i','_','_']) (o:=['t','e','s']) (by kernel_rfl) Jb];kernel_rfl
section
variable {P:ah}{w:af}{A:az}{E:aa->aA->Prop}{s:aA}{I a:aj}{ep:Nat}{o:Obj}{es:Array (Int×aa)}{t:SetTable}
def tX{Q:Bool->aA->Prop}(h:Q (w.params.followText "set-order") s):wpAny (model P w) A setsByText Q E s:=by
 unfold setsByText;exact aF<|wpAny_askSetting<|aH h
def sG {j i:Nat}{Q:Option (aa×Nat)->aA->Prop}(J:w.params.followText "set-order" = true)(L:s.heap.get? a=some o)(hd:o.data=.set es ep t)(hf:t.fits es.size=true)
  (h:Q (((pickOrder (w.params.setOrder a ep) es)[i]?).map λe=>(e.2,j)) s):wpAny (model P w) A (setNext a j i ep) Q E s:=by
 unfold setNext;refine aF<|bL L hd hf ?_;dsimp only;refine aF<|tX ?_;rw[aJ J,aI<|show ¬_ by simp];unfold setWalk;refine aF<|aF<|bL L hd hf ?_;dsimp only;refine aF<|tX ?_;rw[aJ J];refine aF<|wpAny_askSetting<|aH<|aH h
def qi {J i:Nat}{Q:Option (aa×Nat)->aA->Prop}(L:w.params.followText "set-order" = false)(M:s.heap.get? a=some o)(hd:o.data=.set es ep t)(hf:t.fits es.size=true)(U:t.led=true)(Z:(!t.plain && decide (es.size>1))=false)
  (h:Q (match es[SetTable.below t.place J]?,t.place[SetTable.below t.place J]? with
   | some (_,x),some j=>some (x,j+1)
   | _,_=>none) s):wpAny (model P w) A (setNext a J i ep) Q E s:=by
 unfold setNext;refine aF<|bL M hd hf ?_;dsimp only;refine aF<|tX ?_;rw[aI<|by rw[L];exact bE];show wpAny (model P w) A (if (!t.plain && decide (es.size>1))=true then _ else _) _ _ s;rw[aI<|by rw[Z];exact bE];refine aF (m:=if (!t.led && !es.isEmpty)=true then unsupported "set:maker-not-led" else pure Unit.unit) ?_;rw[aI<|by rw[U];exact bE];exact aH<|aH h
abbrev SW (P:ah)(w:af)(A:az)(a:aj)(h0:ak)(j:ba)(v:aa)(h':ak):Prop:=
 ∃(I:aj) (fp:bb) (ord:ba) (St:Nat->ak->Prop),v=.ref I/\ord.Perm j/\h0.objs.size<=I/\(∀b,b<h0.objs.size->b≠a->b∉fp)/\Walks P w A I fp [I] ord.length (λi v=>ord[i]?=some v) St/\St 0 h'/\∀b o,h0.get? b=some o->h'.get? b=some o
def oQ {first:aa}{i n:Nat}{Q:aa->aA->Prop}(hi:pP s.heap I a first i n ep)(q:Q (.ref I) s):wpAny (model P w) A (pyIter<|.ref I) Q E s:=by
 refine wpAny_pyIter_slot hi.ty vK<|cM vK hi.ty Co ?_<|Ci _;exact aH ⟨_,rfl, "set_iterator",_,hi.ty,iC.lookup,q⟩
def wA (L:A.handled=none)(M:a≠I)(J:w.params.followText "set-order" = true)(hd:o.data=.set es ep t)(hf:t.fits es.size=true) :
  Walks P w A I [I,a] [I] es.size (λi v=>((pickOrder (w.params.setOrder a ep) es).toList.map (·.2))[i]?=some v) (λi h=>pP h I a (.int 0 0) i es.size ep/\h.get? a=some o):=by
 have sz:(pickOrder (w.params.setOrder a ep) es).size=es.size:=by
  have:=(oR (w.params.setOrder a ep) es).length_eq
  rwa [bA,bA]at this
 exact {
  sub:=λb J=>by rw[aR.mp J];exact aQ ..
  frame:=λ_ _ _ st d=>⟨st.1.at<|d I<|aQ ..,d a (aV _<|aQ ..) o st.2⟩
  item:=λi s Q E lt st q=>A_ (x:=((pickOrder (w.params.setOrder a ep) es)[i]'()).2) (sl':=0) st.1 st.2 hd hf (λp j g c=>sG J st.2 hd hf<|by rw[bM ()];exact c)
   λh' m f=>q _ h' s.toks (by rw[aY,cL,bM ()];rfl) ⟨m,f.extBut a o M st.2⟩ λb x nb e=>f.extBut b x (λz=>nb<|aR.mpr z) e
  done:=λs Q E st q=>yJ L st.1 st.2 hd hf (λp j g c=>sG J st.2 hd hf<|by rw[dW ()];exact c) λh' k=>q h' s.toks λb x nb e=>k b x (λz=>nb<|aR.mpr z) e
  self:=λ_ _ _ _ st q=>oQ st.1 q }
def u0 (U:A.handled=none)(Z:a≠I)(J:w.params.followText "set-order" = false)(hd:o.data=.set es ep t)(hf:t.fits es.size=true)(L:t.led=true)(M:(!t.plain && decide (es.size>1))=false)(hs:Sr t) :
  Walks P w A I [I,a] [I] es.size (λi v=>(es.toList.map (·.2))[i]?=some v) (λi h=>(∃sl:Nat,SetTable.below t.place sl=i/\pP h I a (.int sl 0) i es.size ep)/\h.get? a=some o):=by
 have sz:t.place.size=es.size:=by
  unfold SetTable.fits at hf;rw[cN,gr]at hf;exact hf.1
 exact {
  sub:=λb J=>by rw[aR.mp J];exact aQ ..
  frame:=λ_ _ _ st g=>by
   obtain⟨⟨sl,h1,d⟩,c⟩:=st;exact⟨⟨sl,h1,d.at<|g I<|aQ ..⟩,g a (aV _<|aQ ..) o c⟩
  item:=λi s Q E lt st q=>by
   obtain⟨⟨sl,h1,d⟩,c⟩:=st;refine A_ (x:=(es[i]'lt).2) (sl':=t.place[i]'()+1) d c hd hf (λC p m f=>qi J c hd hf L M ?_) λh' B j=>q _ h' s.toks (by rw[aY,cL,bM lt];rfl) ⟨⟨_,wH hs.up (),B⟩,j.extBut a o Z c⟩ λb x nb e=>j.extBut b x (λz=>nb<|aR.mpr z) e;rw[h1,bM lt,bM<|show i<t.place.size by lia];exact f
  done:=λs Q E st q=>by
   obtain⟨⟨sl,h1,d⟩,c⟩:=st;refine yJ U d c hd hf (λC p m f=>qi J c hd hf L M ?_) λh' k=>q h' s.toks λb x nb e=>k b x (λz=>nb<|aR.mpr z) e;rw[h1,dW<|aL _];exact f
  self:=λ_ _ _ _ st q=>by
   obtain⟨⟨sl,h1,d⟩,c⟩:=st;exact oQ d q }
def vS {T:aj}{oT:Obj}{pl:am}{kT:Nat}(L:A.handled=none)(M:a≠I)(U:T≠I)(dT:oT.data=.seq (pl.map λi:Nat=>rawInt i).toArray kT)(J:pl.Perm<|List.range es.size)(hd:o.data=.set es ep t)(hf:t.fits es.size=true) :
  Walks P w A I [I,a,T] [I] es.size (λi v=>(pl.map λp=>(es.getD p (0,.none)).2)[i]?=some v) (λi h=>pP h I a (.ref T) i es.size ep/\h.get? a=some o/\h.get? T=some oT):=by
 have B:pl.length=es.size:=by rw[J.length_eq,bC]
 exact {
  sub:=λb j=>by rw[aR.mp j];exact aQ ..
  frame:=λ_ _ _ st c=>⟨st.1.at<|c I<|by simp,c a (by simp) o st.2.1,c T (by simp) oT st.2.2⟩
  item:=λi s Q E lt st q=>by
   have f:pl[i]?=some (pl[i]'()):=aG _;have g:pl[i]'()<es.size:=cR.mp<|J.mem_iff.mp<|dN _;refine Jp st.1 st.2.2 dT st.2.1 hd hf f (bM g) λh' m d=>q _ h' s.toks (by rw[aY,f];simp[Array.getD,g]) ⟨m,d.extBut a o M st.2.1,d.extBut T oT U st.2.2⟩ λb x nb e=>d.extBut b x (λz=>nb<|aR.mpr z) e
  done:=λs Q E st q=>Gd L st.1 st.2.2 dT st.2.1 hd hf () λh' k=>q h' s.toks λb x nb e=>k b x (λz=>nb<|aR.mpr z) e
  self:=λ_ _ _ _ st q=>oQ st.1 q }
def K5 {Q:aa->aA->Prop}(L:A.handled=none)(J:s.heap.get? a=some o)(M:o.ExactSet)(hd:o.data=.set es ep t)(hf:t.fits es.size=true)(hz:es.size<scanBound)(hs:Sr t)(U:t.led=tw w)
  (q:∀v h' d,SW P w A a s.heap (es.toList.map (·.2)) v h'->Q v { s with heap:=h',drawn:=d }):wpAny (model P w) A (pyIter<|.ref a) Q E s:=by
 have ty:s.TypeIs (.ref a) "set" := ⟨o,J,M.1⟩;have B:=bf J;have G:(es.toList.map (·.2)).length=es.size:=by simp
 refine wpAny_pyIter_slot ty rm<|cM rm ty Eo ?_<|wR _;unfold Builtin.«frozenset.__iter__»;refine aF<|aF<|aH<|aH ?_;refine aF<|aF<|aF<|bL J hd hf<|aH<|aH ?_;refine aF<|aF<|bL J hd hf ?_;dsimp only;refine aF (tX<|aH ?_)
 cases m:w.params.followText "set-order" with
 | true=>
  rw[aI<|show ¬((!true && _)=true)by simp];refine aF<|aH<|aF<|aF<|bL J hd hf<|aH ?_;kln_w;refine q _ _ s.drawn ⟨s.heap.objs.size,[s.heap.objs.size,a],(pickOrder (w.params.setOrder a ep) es).toList.map (·.2),(λi h=>pP h s.heap.objs.size a (.int 0 0) i es.size ep/\h.get? a=some o),rfl,(oR _ _).map _,aL _,λb h1 f=>by simp;exact⟨bw h1,f⟩,?_,⟨⟨_,a_ _ rfl,rfl,rfl⟩,aK _ J⟩,λb o e=>aK _ e⟩;have W:=wA (P:=P) (I:=s.heap.objs.size) (a:=a) L (bw B) m hd hf;rw[aN,(oR (w.params.setOrder a ep) es).length_eq,bA];exact W
 | false=>
  have k:t.led=true:=by rw[U];unfold tw;rw[m];rfl
  by_cases g:(!t.plain && decide (es.size>1))=true
  ·show wpAny (model P w) A.in1 (if (!false && (!t.plain && decide (es.size>1)))=true then _ else _) _ _ s;rw[aJ<|show(!false && (!t.plain && decide (es.size>1)))=true by rw[g];rfl];refine aF<|zQ es.size (List.range es.size) s _ bC λys d hy=>?_;refine aF (wpAny_newTuple ?_<|by rw[aN,hy.length_eq,bC];unfold scanBound at hz;unfold sizeLine;lia);have j:(s.heap.push { cls:=.type "tuple",data:=.seq (ys.map λi:Nat=>rawInt i).toArray }).get? a=some o:=aK _ J;refine aF<|aF<|bL j hd hf<|aH ?_;kln_w;have c:(s.heap.push { cls:=.type "tuple",data:=.seq (ys.map λi:Nat=>rawInt i).toArray }).objs.size=s.heap.objs.size+1:=cE ..;have F:(s.heap.push { cls:=.type "tuple",data:=.seq (ys.map λi:Nat=>rawInt i).toArray }).get? s.heap.objs.size=some { cls:=.type "tuple",data:=.seq (ys.map λi:Nat=>rawInt i).toArray }:=a_ _ rfl;refine q _ _ d ⟨_,[(s.heap.push { cls:=.type "tuple",data:=.seq (ys.map λi:Nat=>rawInt i).toArray }).objs.size,a,s.heap.objs.size],ys.map λp=>(es.getD p (0,.none)).2,(λi h=>pP h (s.heap.push { cls:=.type "tuple",data:=.seq (ys.map λi:Nat=>rawInt i).toArray }).objs.size a (.ref s.heap.objs.size) i es.size ep/\h.get? a=some o/\h.get? s.heap.objs.size=some { cls:=.type "tuple",data:=.seq (ys.map λi:Nat=>rawInt i).toArray }),rfl,?_,by rw[c];lia,λb h1 f=>by rw[c];simp;exact⟨(),f,()⟩,?_,⟨⟨_,a_ _ rfl,rfl,rfl⟩,aK _ j,aK _ F⟩,λb o e=>aK _<|aK _ e⟩
   ·refine(hy.map _).trans (.of_eq ?_);refine List.ext_getElem (by simp) λi h1 f=>?_;simp at h1;simp[Array.getD,h1]
   ·rw[aN,hy.length_eq,bC];exact vS L (by rw[c];exact bw<|d7 B) (by rw[c];exact bw<|c6 _) rfl hy hd hf
  ·have g:(!t.plain && decide (es.size>1))=false:=by simpa using g
   show wpAny (model P w) A.in1 (if (!false && (!t.plain && decide (es.size>1)))=true then _ else _) _ _ s;rw[aI<|show ¬((!false && (!t.plain && decide (es.size>1)))=true)by rw[g];simp];refine aF<|aH<|aF<|aF<|bL J hd hf<|aH ?_;kln_w;refine q _ _ s.drawn ⟨s.heap.objs.size,[s.heap.objs.size,a],es.toList.map (·.2),(λi h=>(∃C:Nat,SetTable.below t.place C=i/\pP h s.heap.objs.size a (.int C 0) i es.size ep)/\h.get? a=some o),rfl,.refl _,aL _,λb h1 f=>by simp;exact⟨bw h1,f⟩,?_,⟨⟨0,AQ hs.up,⟨_,a_ _ rfl,rfl,rfl⟩⟩,aK _ J⟩,λb o e=>aK _ e⟩;rw[G];exact u0 L (bw B) m hd hf k g hs
end
section
variable {P:ah}{w:af}{A:az}{E:aa->aA->Prop}{s:aA}{I a:aj}{ep:Nat}{o:Obj}{es:Array (Int×aa)}{t:SetTable}
def Dy{Q:Bool->aA->Prop}(j:s.TypeIs (.ref a) "set")(h:Q false s):wpAny (model P w) A (Builtin.List.listLengthHint<|.ref a) Q E s:=by
 unfold Builtin.List.listLengthHint;refine aF<|wpAny_specialOf j PySem.F.slot_set_len.lookup ?_;generalize hid:("set.__len__" : String)=id0
 wp_delta
 rw[show splitId id0=some ("set", "__len__")from by subst hid;decide +kernel];subst hid;refine aF (wpAny_isInstance (T := "set") (b:=true) j (by rw[fW];kernel_rfl) ?_);refine wpAny_ite_split (λc=>absurd c ⋯) λ_=>?_;refine wpAny_ite_split (λ_=>?_) λc=>absurd ∅ c;refine aF<|wpAny_typeOf j ?_;exact aH h
def L7{R:ba->aA->Prop}(hh:A.handled=none)(ho:s.heap.get? a=some o)(hx:o.ExactSet)(hd:o.data=.set es ep t)(hf:t.fits es.size=true)(hz:es.size<scanBound)(hs:Sr t)(hl:t.led=tw w)
  (h:∀(h':ak) (tk:Nat) (d:Drawn) (ord:ba),ord.Perm (es.toList.map (·.2))->(∀b o,s.heap.get? b=some o->h'.get? b=some o)->R ord { s with heap:=h',toks:=tk,drawn:=d }) :
  wpAny (model P w) A (collect<|.ref a) R E s:=by
 have la:=bf ho;unfold collect;refine aF<|wpAny_runValue<|dX entry_proto_collect' ?_;rw[dF PySem.F.plain_proto_collect _];refine aF<|bP ?_;refine aH ⟨fF PySem.F.plain_list_iadd _,dX entry_list_iadd' ?_⟩;rw[dF PySem.F.plain_list_iadd _];have g0:(s.heap.push {}).get? s.heap.objs.size=some { cls:=.type "list",data:=.seq #[]}:=a_ _ rfl;have T:(s.heap.push {}).get? a=some o:=aK _ ho;have ty:Shared.TypeIs { s with heap:=s.heap.push {}} (.ref a) "set" := ⟨o,T,hx.1⟩;have sz:(s.heap.push {}).objs.size=s.heap.objs.size+1:=cE ..;show wpAny _ A.in1 (Builtin.List.listExtendWith (.ref s.heap.objs.size) (.ref a)<|.ref s.heap.objs.size) _ _ _;unfold Builtin.List.listExtendWith;refine aF<|wpAny_typeOf ty ?_;have n1:Builtin.List.listSameRef (.ref s.heap.objs.size) (.ref a)=false:=by simp[Builtin.List.listSameRef,eE<|bw la]
 dsimp[n1,show(Value.type "set" == Value.type "list")=false by decide,show(Value.type "set" == Value.type "tuple")=false by decide,Bool.or_false,br,cg];refine aF<|K5 (A:=A.in1) (s:={ s with heap:=s.heap.push {}}) hh T hx hd hf hz hs hl λv h1 d W=>?_;obtain⟨I,fp,ord,St,rfl,Y,hI,V,W,st,N⟩:=W;have on:ord.length=es.size:=by rw[Y.length_eq];simp
 have nS:s.heap.objs.size∉fp:=V _ (by rw[sz];lia)<|gh la;have m:∀(p:ak) (c:Nat),St 0 p->(∀b f,b≠s.heap.objs.size->h1.get? b=some f->p.get? b=some f)->p.get? s.heap.objs.size=some { cls:=.type "list",data:=.seq #[] c } ->
   codeAny (model P w) A (.builtin "list.extend.loop" ⟨[.ref s.heap.objs.size,.ref I,.ref s.heap.objs.size],[]⟩) (λr s'=>∃(h':ak) (tk:Nat) (q:Nat),r=.ok (.ret<|.ref s.heap.objs.size)/\s'={ s with heap:=h',toks:=tk,drawn:=d } /\
    (∀b f,s.heap.get? b=some f->h'.get? b=some f)/\h'.get? s.heap.objs.size=some { cls:=.type "list",dict:=none,data:=.seq ord.toArray q,slots:=#[]}) { s with heap:=p,drawn:=d }:=by
  intro p c O k2 B;refine codeAny_extend_loopS W.toS (by rw[on];unfold scanBound at hz;unfold sizeLine;lia) _ nS _ ord.length 0 _ #[] c rfl (b_ _) O B (ItemsOf.nil _) λs' acc q Z C g=>?_;rw[Moved.eq_with Z];have ea:acc=ord.toArray:=by
   apply Array.ext';refine dD λj=>?_;show acc.toList[j]?=ord[j]?;rw[cL]
   cases e:acc[j]? with
   | some v=>exact(g.2 j v e).symm
   | none=>
    have:acc.size<=j:=Array.getElem?_eq_none_iff.mp e;rw[bJ<|by rw[<- g.1];exact this]
  subst ea;refine⟨s'.heap,s'.toks,q,rfl,rfl,λb f e=>Z.heap b f (λM=>?_)<|k2 b f (bw<|bf e)<|N b f<|aK _ e,C⟩;have lb:=bf e
  rcases bH.mp M with z|z
  ·exact absurd z (bw lb)
  ·have:=aR.mp z;have k:(s.heap.push {}).objs.size<=I:=hI;rw[sz]at k;exact absurd lb<|by rw[this];exact Nat.not_lt.mpr<|Nat.le_of_succ_le k
 have L:=N _ _ g0;have J:Shared.TypeIs { s with heap:=h1,drawn:=d } (.ref a) "set" := ⟨o,N _ _ T,hx.1⟩;refine aF<|cP<|Dy J ?_;refine wpAny_ite_split (λ_=>?_) (λ_=>aH ⟨fF PySem.F.plain_extend_loop _,eF (m h1 0 st (λ_ _ _ e=>e) L) λr s' U=>?_⟩)
 ·refine aF<|dH ?_;refine aF ?_;show wpAny _ _ (updateSeq s.heap.objs.size (·.push .none) >>= λ_=>updateSeq s.heap.objs.size (·.pop)) _ _ _;refine aF<|wpAny_updateSeq L rfl ?_;have B:=bT (Obj.mapSeq (·.push Value.none)) L rfl;refine wpAny_updateSeq (hz:=by seq_fits) B rfl ?_;have C:=bT (Obj.mapSeq (·.pop)) B rfl;refine aH ⟨fF PySem.F.plain_extend_loop _,eF (m _ _ (W.frame 0 _ _ st λb M f e=>?_) (λb f nb e=>?_) C) λr s' U=>?_⟩
  ·have nb:b≠s.heap.objs.size:=λz=>nS<|z ▸ M;exact(cD _ _<|eE nb).trans ((cD _ _<|eE nb).trans e)
  ·exact(cD _ _<|eE nb).trans ((cD _ _<|eE nb).trans e)
  ·obtain⟨h',tk,q,rfl,rfl,G,K⟩:=U;show wpAny _ A (load s.heap.objs.size >>= _) _ _ _;refine aF<|wpAny_load K ?_;exact aH<|h h' tk d ord Y G
 ·obtain⟨h',tk,q,rfl,rfl,G,K⟩:=U;show wpAny _ A (load s.heap.objs.size >>= _) _ _ _;refine aF<|wpAny_load K ?_;exact aH<|h h' tk d ord Y G
end
abbrev JL (P:ah)(w:af)(o:Obj)(ns:ag):Prop:=∃es ep t,o.ExactSet/\o.data=.set es ep t/\(∃ms:ag,IntsAre (es.toList.map (·.2)) ms/\ms.Perm ns)/\es.size<scanBound/\t.fits es.size=true/\Sr t/\t.led=tw w
theorem qR{P:ah}{w:af}:∀(es:List<|Int×aa),ElemsOf (intKind P w) es->∃ms:ag,IntsAre (es.map (·.2)) ms/\∀k,(∃e∈es,(intKind P w).is k e.2=true)->k∈ms
 | [],_=>⟨[],.nil,λk ⟨_,h,_⟩=>nomatch h⟩
 | e::es,h=>by
  obtain⟨ms,h1,g⟩:=qR es λx c=>h x<|aV _ c;obtain⟨⟨k,m,_⟩,_⟩:=h e<|aQ ..;obtain⟨t,f⟩:=f6 (k:=k) (v:=e.2) m;refine⟨k::ms,by rw[cQ,f];exact .cons k t h1,λj ⟨x,c,q⟩=>?_⟩
  rcases bH.mp c with rfl|c
  ·obtain⟨p,d⟩:=f6 (k:=j) (v:=x.2) q;have z:=f.symm.trans d
   injection z with z
   rw[<- z];exact aQ ..
  ·exact aV _<|g j ⟨x,c,q⟩
def D0{ds ms:ag}(j:ds.Nodup)(h:∀x∈ds,x∈ms)(J:ms.length=ds.length):ms.Perm ds:=by
 induction ds generalizing ms with
 | nil=>rw[dO.mp J]
 | cons d ds e=>
  have hd:=h d<|aQ ..;have p:=List.perm_cons_erase hd;refine p.trans (List.Perm.cons d<|e (di.mp j).2 (λx c=>?_) (by have:=p.length_eq;simp at this J;lia));have nx:x≠d:=λz=>(di.mp j).1 (z ▸ c)
  rcases bH.mp (p.mem_iff.mp<|h x<|aV _ c)with z|z
  ·exact absurd z nx
  ·exact z
def Ae:∀{vs ws:ba},ws.Perm vs->∀{ms:ag},IntsAre vs ms->∃ks:ag,IntsAre ws ks/\ks.Perm ms:=by
 intro vs ws p
 induction p with
 | nil=>exact λh=>⟨_,h,.refl _⟩
 | cons x _ g=>
  intro ms h
  cases h with
  | cons n t h=>
   obtain⟨ks,h1,d⟩:=g h;exact⟨n::ks,.cons n t h1,d.cons n⟩
 | swap x y l=>
  intro ms h
  cases h with
  | cons n t h=>cases h with
   | cons m u h=>exact⟨m::n::_,.cons m u<|.cons n t h,.swap ..⟩
 | trans _ _ e c=>
  intro ms h;obtain⟨ks,h1,d⟩:=c h;obtain⟨k,j,f⟩:=e h1;exact⟨k,j,f.trans d⟩
def Jl{P:ah}{w:af}{h:ak}{a:aj}{ns:ag}(J:ns.Nodup)(r:mG P w (tw w) h a (λk=>ns.any (· == k)) ns.length):∃o,h.get? a=some o/\JL P w o ns:=by
 obtain⟨o,es,ep,t,e,c,hd,el,m,p,hf,hn,hs,f⟩:=r;obtain⟨d,h1,j⟩:=qR es.toList el;have g:d.length=es.size:=by
  have:=(uh h1).1;rw[aN,bA]at this;exact this.symm
 refine⟨o,e,es,ep,t,c,hd,⟨d,h1,D0 J (λx c=>j x<|(m x).mp ?_)<|by rw[g,hn]⟩,p,hf,hs,f⟩;rw[List.any_eq_true];exact⟨x,c,bg _⟩
theorem vL:∀(ns acc:ag),(acc++ns).Nodup->ns.foldl step_dedup acc=acc++ns
 | [],acc,_=>(bO _).symm
 | n::ns,acc,h=>by
  have hn:n∉acc:=λz=>by
   have:=f_.mp h;exact this.2.2 n z n (aQ ..) rfl
  have e:step_dedup acc n=acc++[n]:=by
   unfold step_dedup;rw[aI<|by rw[List.any_eq_true];rintro⟨x,c,q⟩;exact hn<|by rw[<- (gr.mp q)];exact c]
  rw[fJ,e,vL ns (acc++[n])<|by rw[bG];exact h,bG];rfl
section
variable {X:Cx}
def Ac(hc:X.calm=true):g7 X (.type "set") (λxs H Q=>∃(p:aj) (ns:ag),xs=[.ref p]/\kr X.K H p (ns.map V.int)/\ns.length<4000/\ns.Nodup/\∀r o,JL X.prog X.w o ns->H r=none->Q (.ref r) (upd H r<|.frz o<|.own r)):=by
 gn_on;obtain⟨p,ns,rfl,hs,C,g,q⟩:=h;obtain⟨u,rfl,rx⟩:=vals1 r
 cases rx
 obtain⟨its,j,pl,B⟩:=I.list hs;have f:its.toArray.size=ns.length:=by
  have:=j.length;rw[aN]at this;rw[aU,this]
 refine Ai (I.ok.hd hc) pl.isList (v9 (its:=its.toArray.toList)<|by simpa using j) (by rw[f];unfold scanBound;lia) λh' tk d k=>?_;rw[f,CO,vL ns [] g]at d;obtain⟨o,c,m⟩:=Jl g d;exact⟨.ref s.heap.objs.size,_,I.laid (o:=.frz o<|.own s.heap.objs.size) (t':=tk) (λb o e=>k b o (bf e) e) (aL _) ⟨c,_,c⟩,rfl,q _ o m I.fresh⟩
def Inv.OJ{H:Hp}{s:aA}{d:Drawn}(I:Inv X pins σ H s):Inv X pins σ H { s with drawn:=d }:=⟨I.ok,I.os,I.bare,I.base,I.loc,I.cell,I.free,I.freeC,I.pin,I.hok,I.len⟩
def wo(hc:X.calm=true):g7 X (.builtin "sorted") (λxs H Q=>∃(r:aj) (o:Obj) (u:HO) (ns:ag),xs=[.ref r]/\H r=some (.frz o u)/\JL X.prog X.w o ns /\
  ∀l g (ms:ag),ms.Perm ns->H l=none->Sx.Cl g 0 ms.length->Sx.So (ER ms) g 0 ms.length->Q (.ref l) (upd H l<|.lst<|(List.range ms.length).map λi=>V.int<|ms.getD (g i) 0)):=by
 gn_on;obtain⟨j,o,u,ns,rfl,N,L,q⟩:=h;obtain⟨v,rfl,rx⟩:=vals1 r
 cases rx
 obtain⟨es,ep,t,O,hd,⟨ms,F,P⟩,C,hf,hs,K⟩:=L;have J:s.heap.get? j=some o:=(show i6 _ _ H s.heap j (.frz o u)from I.hok j _ N).1;refine Calls.call_function_entry kind_sorted plain_sorted entry_sorted (args_sorted1 _) ?_;unfold Builtin.«sorted»;refine aF (m:=checkCount "sorted" 1 1 _)<|aH ?_;refine aF<|L7 (show X.A.in1.handled=none from I.ok.hd hc) J O hd hf C hs K λh' tk d G B M=>?_;obtain⟨ks,k,c⟩:=Ae B F;exact xE (s:={ s with drawn:=d }) (I.kept (t':=tk) M).OJ (Sx.Ji _) k (by
  have:=B.length_eq;dsimp[aN,bA]at this;unfold scanBound at C;unfold sizeLine;lia) λl g f p e=>q l g ks (c.trans P) f p e
end
end L2
namespace Am
open PySem PySem.Spec PyProof.Rows L2
section
variable {X:Cx}
abbrev L6 (a:A)(S:gE):R A:=match a with
 | .ref n=>opt (gH S n) λxs=>opt (A.ints xs) λns=>gd (ns.length<4000/\ns.Pairwise (· < ·)) (.ok (.ref S.length)<|S++[.lst<|ns.map .int])
 | _=>.no
abbrev Jd (c:Ex):Ex:=λτ S=>(c τ S).bind λa S1=>L6 a S1
def xH{x:Str}{p:Pos}{e:aC}{c:Ex}(hc:X.calm=true)(hm:X.mg x=none)(hv:bootBuiltins x=some (.builtin "sorted"))(hm':X.mg y=none)(hv':bootBuiltins y=some (.type "set"))(ha:AE X e c)
  (hg:Gl X x<|>ε) (hn:x ≠ "__name__"<|>δ) (hdb:(x == ("__debug__" : Str))=false<|>δ) (hg':Gl X y<|>ε) (hn':y ≠ "__name__"<|>δ) (Z:(y == ("__debug__" : Str))=false<|>δ)
  (he':starEach [e] X.env=(false,eval e X.env)::starEach [] X.env<|>ε) (hpl':((backTo cpos<|starEach [] X.env).any (·.1)=false)<|>ε)
  (he:starEach [.Call (.Name y p') [e] [] cpos] X.env=(false,eval (.Call (.Name y p') [e] [] cpos) X.env)::starEach [] X.env<|>ε) (hpl:((backTo pos<|starEach [] X.env).any (·.1)=false)<|>ε) :
  AE X (.Call (.Name x p) [.Call (.Name y p') [e] [] cpos] [] pos) (Jd c):=
 PE.imp (u5 (wo hc) hg hm hv (kR (sF (Ac hc) hg' hm' hv' (kR ha qF he') hn' Z he' hpl') qF he) hn hdb he hpl) λσ H Q h9=>by
  z_go;refine⟨ρ,S,τ,R,r,gB (gG h) .refl λa S1 h1 ρ1 H1 v e1 R1 L=>?_⟩
  cases L with
  | ref F=>
   rename_i p' n;obtain⟨xs,hn,h1⟩:=gT h1;obtain⟨f,hi,h1⟩:=gT h1;obtain⟨⟨M,C⟩,h1⟩:=gQ h1;obtain⟨U,J,G⟩:=R1.lst F<|gU hn;have P:=E1 G hi;subst P;refine⟨p',f,rfl,kr.of J,M,C.imp λh=>Int.ne_of_lt h,λB o N O=>?_⟩;obtain⟨ex,R2⟩:=R1.im (u:=.frz o<|.own B) O;refine⟨B,o,_,f,rfl,jn,N,λl g d T m q k=>?_⟩;have e:(List.range d.length).map (λi=>d.getD (g i) 0)=f:=by
    rw[Fy q k];exact yM ((sortI_perm d).trans T) (qQ d)<|C.imp λh=>Int.le_of_lt h
   have j:∀ρ H,AVs X.K ρ H (f.map .int) ((List.range d.length).map λi=>V.int<|d.getD (g i) 0):=by
    intro ρ H;rw[<- e,eK];exact A8 λi _=>.int _
   exact i_ R2 (j _ _) (e1.trans ex) h1 l m
  | _=>exact h1.elim
end
end Am
namespace Po
open Am
meta abbrev Pl:=List<|Int×Int
abbrev val (d:Pl)(k:Int):Int:=((d.find? λp=>decide<|p.1=k).map (·.2)).getD 0
abbrev has (d:Pl)(k:Int):Bool:=d.any λp=>decide<|p.1=k
abbrev put (d:Pl)(k v:Int):Pl:=if has d k=true then d.map (λp=>if p.1=k then(p.1,v)else p)else d++[(k,v)]
abbrev acc (d:Pl)(k v:Int):Pl:=put d k<|val d k+v
structure Ok (l:Pl):Prop where
 up:l.Pairwise λp q=>p.1<q.1
 nz:∀p∈l,p.2≠0
abbrev turn (a:Pl):Pl:=a.reverse.map λp=>(-p.1,p.2)
abbrev iv (d:Pl):List (Int×A):=d.map λp=>(p.1,.int p.2)
abbrev pA (p:Int×Int):A:=.tup [.int p.1,.int p.2]
abbrev pl (l:Pl):ae:=l.map pA
end Po
namespace Tb
abbrev fg (r:ag)(x:Int):Nat:=r.findIdx λy=>decide<|x<y
abbrev put:List (ag)->Int->List (ag)
 | [],x=>[[x]]
 | r::rs,x=>if fg r x=r.length then(r++[x])::rs else r.set (fg r x) x::put rs (r.getD (fg r x) 0)
abbrev row:List (ag)->Int->Nat
 | [],_=>0
 | r::rs,x=>if fg r x=r.length then 0 else row rs (r.getD (fg r x) 0)+1
abbrev bump:am->Nat->am
 | [],_=>[1]
 | n::ns,0=>(n+1)::ns
 | n::ns,i+1=>n::bump ns i
abbrev add:List (ag)->Nat->Int->List (ag)
 | [],_,k=>[[k]]
 | q::qs,0,k=>(q++[k])::qs
 | q::qs,i+1,k=>q::add qs i k
abbrev gs (r:ag)(x:Int):am:=(List.range r.length).filter λk=>decide<|x<r.getD k 0
end Tb
namespace Am
open PySem L2
abbrev Rows (S:gE):am->List (ag)->Prop
 | [],[]=>True
 | r::rs,x::T=>gH S r=some (x.map .int)/\Rows S rs T
 | _,_=>False
def eq_nil{a b:Nat}{xs:ae}(h:gH S a=some xs)(h':gH S b=some []):qZ S 12 (.ref a) (.ref b)=some xs.isEmpty:=by
 show(gH S a).bind (λxs=>(gH S b).bind λys=>oS (qZ S 11) xs ys)=_;rw[h,cO,h',cO]
 cases xs<;>rfl
def LC{a b:Nat}{xs ys:ag}(h:gH S a=some (xs.map .int))(h':gH S b=some (ys.map .int)):qZ S 12 (.ref a) (.ref b)=some (decide<|xs=ys):=by
 show(gH S a).bind (λxs=>(gH S b).bind λys=>oS (qZ S 11) xs ys)=_;rw[h,cO,h',cO];exact oW xs ys
def sV{a b:A}{k:Bool}(h:qZ S 12 a b=some k):jm false a b S=.ok (.bl k) S:=by unfold jm;rw[h];rfl
def xx{a b:A}{k:Bool}(h:qZ S 12 a b=some k):jm true a b S=.ok (.bl<|!k) S:=by unfold jm;rw[h];rfl
def getD_at{r:ag}{k:Nat}(h:k<r.length):r[k]?=some (r.getD k 0):=by rw[aM,aG h];rfl
end Am
namespace K81
open PySem L2 Am
abbrev top (i:Nat):aE:=PySem.Challenge.pw_undercells_k81_polynomials_written.main.body.getD i<|.Pass ⟨0,0,0,0⟩
meta abbrev mh:aE:=top 10
meta abbrev lE:ar:=["number", "told", "piece"]
meta abbrev k_:ar:=["number"]
abbrev j5:Te:=
 nK (gI LZ (gA 0)<|eC<|.int 10000000000000000000000000000000000000000000000000000000000000000)
abbrev mQ:Sm:=
 gY (J1)
 (J1)
abbrev lY:Sm:=
 gY (iy (g6 (f1 w_)<|gz (gA 0) gM)<|iD 0)
 (gY (iy (eC<|.str<|PySem.Str.ofString "")<|iD 1)
 (gY (j_ j5
 mQ 1000000)
 (iR<|gI iE (g6 (f1 rT)<|gz (gA 0) gM)<|gA 1)))
abbrev jt:ae->gE->R A:=jM lE lY
meta abbrev l8:aE:=top 11
meta abbrev lq:ar:=["power", "number", "size", "letter"]
meta abbrev lP:ar:=["power", "number"]
abbrev lR:Sm:=
 gY (iy (eFn jt<|gz (gA 1) gM)<|iD 2)
 (gY (rC (nK<|gI (jm false) (gA 0)<|eC<|.int 0)
 (iR<|gA 2)
 j6)
 (gY (iy (xh (nK<|gI (jm false) (gA 0)<|eC<|.int 1) (eC<|.str<|PySem.Str.ofString "v")<|Kg [.inl "v^",.inr<|gA 0])<|iD 3)
 (iR<|xh (nK<|gI (jm false) (gA 2)<|eC<|.str<|PySem.Str.ofString "1") (gA 3)<|Kg [.inr<|gA 2,.inl "*",.inr<|gA 3])))
abbrev iJ:ae->gE->R A:=jM lq lR
meta abbrev lX:aE:=top 12
meta abbrev l7:ar:=["poly", "told", "power", "number", "sign"]
meta abbrev jW:ar:=["poly"]
abbrev mR:Ic:=
 oA (gA 0)
abbrev jZ:Sm:=
 gY (iy (xh (nK<|gI Kr (gA 3)<|eC<|.int 0) (eC<|.str<|PySem.Str.ofString "-")<|eC<|.str<|PySem.Str.ofString "+")<|iD 4)
 (C3 1 BX<|Kg [.inl " ",.inr<|gA 4,.inl " ",.inr<|eFn iJ<|gz (gA 2)<|gz (gA 3) gM])
abbrev l9:Sm:=
 gY (rC (oG<|k7<|gA 0)
 (iR<|eC<|.str<|PySem.Str.ofString "0")
 j6)
 (gY (iy (eC<|.str<|PySem.Str.ofString "")<|iD 1)
 (gY (pN mR (F4 2<|vF (iD 2)<|vF (iD 3) FU)
 jZ)
 (iR<|xh (k7<|EB jw (gA 1)<|gz (eC<|.str<|PySem.Str.ofString " + ") gM) (vC (gA 1) (mw<|eC<|.int 3) lM)<|gI iE (eC<|.str<|PySem.Str.ofString "-")<|vC (gA 1) (mw<|eC<|.int 3) lM)))
abbrev iA:ae->gE->R A:=jM l7 l9
meta abbrev kg:aE:=top 13
meta abbrev j7:ar:=["text"]
meta abbrev jk:ar:=["text"]
abbrev j9:Sm:=
 gY (rC (B9 (oG<|nK<|Km FN FN (eC<|.int 1) (g6 (f1 oN)<|gz (gA 0) gM)<|eC<|.int 30)<|oG<|k7<|g6 (f1 AX)<|gz (jF [none] (oA<|gA 0) (iD 0) rH<|gI F2 (gA 0)<|eC<|.str<|PySem.Str.ofString "0123456789") gM)
 (J1)
 j6)
 (gY (rC (Ct (k7<|EB jw (gA 0)<|gz (eC<|.str<|PySem.Str.ofString "0") gM)<|nK<|gI (jm true) (gA 0)<|eC<|.str<|PySem.Str.ofString "0")
 (J1)
 j6)
 (iR<|g6 (f1 n9)<|gz (gA 0) gM))
abbrev h_:ae->gE->R A:=jM j7 j9
meta abbrev kD:aE:=top 14
meta abbrev kZ:ar:=["text", "power"]
meta abbrev kG:ar:=["text"]
abbrev kQ:Sm:=
 gY (rC (nK<|gI (jm false) (gA 0)<|eC<|.str<|PySem.Str.ofString "")
 (iR<|eC<|.int 1)
 j6)
 (gY (iy (EB HZ (gA 0)<|gz (eC<|.str<|PySem.Str.ofString "^") gM)<|iD 1)
 (iR<|xh (k7<|EB jw (gA 1)<|gz (eC<|.str<|PySem.Str.ofString "-") gM) (Kq wV<|eFn h_<|gz (vC (gA 1) (mw<|eC<|.int 1) lM) gM)<|eFn h_<|gz (gA 1) gM))
abbrev jd:ae->gE->R A:=jM kZ kQ
meta abbrev lg:aE:=top 15
meta abbrev l_:ar:=["sign", "text", "ahead", "letter", "behind", "power", "size"]
meta abbrev lQ:ar:=["sign", "text"]
abbrev lH:Sm:=
 gY (iy (EB Dg (gA 1)<|gz (eC<|.str<|PySem.Str.ofString "v") gM)<|F4 3<|vF (iD 2)<|vF (iD 3)<|vF (iD 4) FU)
 (gY (iy (xh (k7<|gA 3) (eFn jd<|gz (gA 4) gM)<|eC<|.int 0)<|iD 5)
 (gY (iy (xh (Ct (k7<|gA 3)<|oG<|k7<|gA 2) (eC<|.int 1)<|eFn h_<|gz (EB Hs (gA 2)<|gz (eC<|.str<|PySem.Str.ofString "*") gM) gM)<|iD 6)
 (iR<|Di<|gz (gA 5)<|gz (xh (nK<|gI (jm false) (gA 0)<|eC<|.str<|PySem.Str.ofString "-") (Kq wV<|gA 6)<|gA 6) gM)))
abbrev iI:ae->gE->R A:=jM l_ lH
meta abbrev k8:aE:=top 16
meta abbrev kP:ar:=["text", "signed", "parts"]
meta abbrev kW:ar:=["text"]
abbrev kL:Sm:=
 gY (iy (xh (k7<|EB jw (gA 0)<|gz (eC<|.str<|PySem.Str.ofString "-") gM) (gI iE (eC<|.str<|PySem.Str.ofString "- ")<|vC (gA 0) (mw<|eC<|.int 1) lM)<|gI iE (eC<|.str<|PySem.Str.ofString "+ ")<|gA 0)<|iD 1)
 (gY (iy (EB wJ (gA 1)<|gz (eC<|.str<|PySem.Str.ofString " ") gM)<|iD 2)
 (gY (rC (k7<|gI CP (g6 (f1 oN)<|gz (gA 2) gM)<|eC<|.int 1)
 (J1)
 j6)
 (iR<|jF [none,some 2] (qI (eC<|.int 0) (g6 (f1 oN)<|gz (gA 2) gM)<|eC<|.int 2) (iD 0) rH<|eFn iI<|gz (gI mX (gA 1)<|gA 0)<|gz (gI mX (gA 1)<|gI iE (gA 0)<|eC<|.int 1) gM)))
abbrev iO:ae->gE->R A:=jM kP kL
meta abbrev iX:aE:=top 17
meta abbrev iY:ar:=["poly", "powers"]
meta abbrev iV:ar:=["poly"]
abbrev iW:Sm:=
 gY (iy (jF [none,none] (oA<|gA 0) (F4 2<|vF (iD 0)<|vF (iD 1) FU) rH<|gA 0)<|iD 1)
 (gY (rC (B9 (nK<|gI Mp (g6 (f1 oN)<|gz (gA 0) gM)<|eC<|.int 40)<|nK<|gI (jm true) (gA 1)<|Jd<|gA 1)
 (iR<|eC<|.bl false)
 j6)
 (iR<|g6 (f1 AX)<|gz (jF [none,none] (oA<|gA 0) (F4 2<|vF (iD 0)<|vF (iD 1) FU) rH<|xJ (gI (jm true) (gA 1)<|eC<|.int 0)<|gI FN (g6 (f1 w_)<|gz (gA 0) gM)<|eC<|.int 60) gM))
abbrev ie:ae->gE->R A:=jM iY iW
meta abbrev lB:aE:=top 18
meta abbrev lW:ar:=["text", "poly"]
meta abbrev lz:ar:=["text"]
abbrev lG:Sm:=
 gY (iy (xh (nK<|gI (jm false) (gA 0)<|eC<|.str<|PySem.Str.ofString "0") (mj gM)<|eFn iO<|gz (gA 0) gM)<|iD 1)
 (gY (rC (B9 (oG<|k7<|eFn ie<|gz (gA 1) gM)<|nK<|gI (jm true) (eFn iA<|gz (gA 1) gM)<|gA 0)
 (J1)
 j6)
 (iR<|gA 1))
abbrev iK:ae->gE->R A:=jM lW lG
meta abbrev oV:aE:=top 20
meta abbrev oM:ar:=["_law_script", "_law_k", "_law_cell", "_law_state"]
meta abbrev oU:ar:=["_law_script", "_law_k"]
abbrev ow:Sm:=
 gY (iy (eC<|.int 0)<|iD 2)
 (gY (rC (nK<|gI Kr (gA 1)<|g6 (f1 oN)<|gz (gA 0) gM)
 (iy (g6 (f1 w_)<|gz (gI mX (gA 0)<|gA 1) gM)<|iD 2)
 j6)
 (gY (iy (gI iE (eC<|.int 1)<|gI pI (gI iE (gI iE (gI iE (gI pI (gA 2)<|eC<|.int 2147483647)<|gI j3 (gI j3 (eC<|.int 7919)<|gA 1)<|gA 1)<|gI j3 (eC<|.int 17)<|gA 1)<|eC<|.int 3)<|eC<|.int 2147483646)<|iD 3)
 (iR<|mj<|gz (gI j3 (gA 2)<|g6 (f1 n9)<|gz (gI LZ (gA 2)<|gI z_ (eC<|.int 10)<|eC<|.int 18) gM)<|gz (gA 3) gM)))
abbrev kj:ae->gE->R A:=jM oM ow
meta abbrev lZ:aE:=top 21
meta abbrev jV:ar:=["_law_bag_here", "_law_many", "_law_found"]
meta abbrev jU:ar:=["_law_bag_here", "_law_many"]
abbrev jS:Sm:=
 gY (rC (nK<|gI Mp (gI mX (gA 0)<|eC<|.int 0)<|eC<|.int 0)
 (gY (iy (gI pI (gI mX (gA 0)<|eC<|.int 0)<|gA 1)<|iD 2)
 (gY (iy (gI qL (gI mX (gA 0)<|eC<|.int 0)<|gA 1)<|Mc (gA 0)<|eC<|.int 0)
 (iR<|gA 2)))
 j6)
 (gY (iy (gI pI (gI j3 (gI mX (gA 0)<|eC<|.int 1)<|eC<|.int 48271)<|eC<|.int 2147483647)<|Mc (gA 0)<|eC<|.int 1)
 (iR<|gI pI (gI qL (gI pI (gI j3 (gI mX (gA 0)<|eC<|.int 1)<|gI iE (gI qL (gI mX (gA 0)<|eC<|.int 1)<|eC<|.int 65536)<|eC<|.int 9)<|eC<|.int 2147483629)<|eC<|.int 32)<|gA 1))
abbrev gO:ae->gE->R A:=jM jV jS
meta abbrev mq:aE:=top 22
meta abbrev ly:ar:=["_law_thing"]
meta abbrev mz:ar:=["_law_thing"]
abbrev lD:Sm:=
 iR (xJ (g6 (f2 xq)<|gz (gA 0)<|gz (eC<|.ty "int") gM)<|Jg<|g6 (f2 xq)<|gz (gA 0)<|gz (eC<|.ty "bool") gM)
abbrev iZ:ae->gE->R A:=jM ly lD
meta abbrev kI:aE:=top 23
meta abbrev kJ:ar:=["_law_bag_here", "_law_wide"]
meta abbrev kB:ar:=["_law_bag_here"]
abbrev kO:Sm:=
 gY (iy (gI mX (mj<|gz (eC<|.int 1)<|gz (eC<|.int 1)<|gz (eC<|.int 9)<|gz (gI aSub (gI z_ (eC<|.int 10)<|eC<|.int 30)<|eC<|.int 1) gM)<|eFn gO<|gz (gA 0)<|gz (eC<|.int 4) gM)<|iD 1)
 (iR<|gI j3 (gI iE (eC<|.int 1)<|eFn gO<|gz (gA 0)<|gz (gA 1) gM)<|gI aSub (eC<|.int 1)<|gI j3 (eC<|.int 2)<|eFn gO<|gz (gA 0)<|gz (eC<|.int 2) gM)
abbrev ja:ae->gE->R A:=jM kJ kO
meta abbrev m_:aE:=top 24
meta abbrev mV:ar:=["_law_bag_here", "_law_power", "_law_found", "_law_place"]
meta abbrev nj:ar:=["_law_bag_here"]
abbrev nW:Ic:=
 o9 (eFn gO<|gz (gA 0)<|gz (gI mX (mj<|gz (eC<|.int 4)<|gz (eC<|.int 9)<|gz (eC<|.int 41) gM)<|eFn gO<|gz (gA 0)<|gz (eC<|.int 3) gM) gM)
abbrev kE:Sm:=
 gY (rC (nK<|gI FN (gA 1)<|eC<|.int 60)
 (yD<|Mu mE (gA 2)<|gz (Di<|gz (gA 1)<|gz (eFn ja<|gz (gA 0) gM) gM) gM)
 j6)
 (iy (gI iE (gI iE (gA 1)<|eC<|.int 1)<|eFn gO<|gz (gA 0)<|gz (gI mX (mj<|gz (eC<|.int 1)<|gz (eC<|.int 2)<|gz (eC<|.int 9) gM)<|eFn gO<|gz (gA 0)<|gz (eC<|.int 3) gM) gM)<|iD 1)
abbrev nh:Sm:=
 gY (iy (gI iE (gI aSub (eFn gO<|gz (gA 0)<|gz (gI mX (mj<|gz (eC<|.int 3)<|gz (eC<|.int 61)<|gz (eC<|.int 100) gM)<|eFn gO<|gz (gA 0)<|gz (eC<|.int 3) gM) gM)<|eC<|.int 60)<|gI mX (mj<|gz (eC<|.int 59)<|gz (eC<|.int 0)<|gz (eC<|.int 0) gM)<|eFn gO<|gz (gA 0)<|gz (eC<|.int 3) gM)<|iD 1)
 (gY (iy (mj gM)<|iD 2)
 (gY (pN nW (iD 3)
 kE)
 (iR<|gA 2)))
abbrev jE:ae->gE->R A:=jM mV nh
meta abbrev mU:aE:=top 25
meta abbrev nk:ar:=["_law_power", "_law_number_here", "_law_size", "_law_letter"]
meta abbrev m8:ar:=["_law_power", "_law_number_here"]
abbrev mY:Sm:=
 gY (iy (g6 (f1 w_)<|gz (gA 1) gM)<|iD 2)
 (gY (iy (eC<|.str<|PySem.Str.ofString "v")<|iD 3)
 (gY (rC (nK<|gI (jm true) (gA 0)<|eC<|.int 1)
 (iy (gI iE (eC<|.str<|PySem.Str.ofString "v^")<|g6 (f1 rT)<|gz (gA 0) gM)<|iD 3)
 j6)
 (gY (rC (nK<|gI (jm false) (gA 0)<|eC<|.int 0)
 (iR<|g6 (f1 rT)<|gz (gA 2) gM)
 j6)
 (gY (rC (nK<|gI (jm false) (gA 2)<|eC<|.int 1)
 (iR<|gA 3)
 j6)
 (iR<|gI iE (gI iE (g6 (f1 rT)<|gz (gA 2) gM)<|eC<|.str<|PySem.Str.ofString "*")<|gA 3)))))
abbrev jj:ae->gE->R A:=jM nk mY
meta abbrev nq:aE:=top 26
meta abbrev ny:ar:=["_law_poly_here", "_law_text_here", "_law_power", "_law_number_here"]
meta abbrev nc:ar:=["_law_poly_here"]
abbrev nE:Ic:=
 oA (Mj (gA 0) (mw<|eC<|.int 1) lM)
abbrev kM:Sm:=
 iy (gI iE (gI iE (gA 1)<|gI mX (mj<|gz (eC<|.str<|PySem.Str.ofString " + ")<|gz (eC<|.str<|PySem.Str.ofString " - ") gM)<|g6 (f1 n9)<|gz (gI Kr (gA 3)<|eC<|.int 0) gM)<|eFn jj<|gz (gA 2)<|gz (gA 3) gM) (iD 1)
abbrev mT:Sm:=
 gY (rC (nK<|gI (jm false) (gA 0)<|mj gM)
 (iR<|eC<|.str<|PySem.Str.ofString "0")
 j6)
 (gY (iy (gI iE (gI Ek (eC<|.str<|PySem.Str.ofString "-")<|g6 (f1 n9)<|gz (gI Kr (gI mX (gI mX (gA 0)<|eC<|.int 0)<|eC<|.int 1)<|eC<|.int 0) gM)<|eFn jj<|gz (gI mX (gI mX (gA 0)<|eC<|.int 0)<|eC<|.int 0)<|gz (gI mX (gI mX (gA 0)<|eC<|.int 0)<|eC<|.int 1) gM)<|iD 1)
 (gY (pN nE (F4 2<|vF (iD 2)<|vF (iD 3) FU)
 kM)
 (iR<|gA 1)))
abbrev jC:ae->gE->R A:=jM ny mT
meta abbrev rg:aE:=top 27
meta abbrev qC:ar:=["_law_found", "_law_due", "_law_term_here"]
meta abbrev qy:ar:=["_law_found", "_law_due"]
abbrev qM:Ic:=
 oA (gA 0)
abbrev qz:Sm:=
 rC (B9 (oG<|k7<|g6 (f2 xq)<|gz (gA 2)<|gz (eC<|.ty "tuple") gM)<|B9 (oG<|k7<|eFn iZ<|gz (gI mX (gA 2)<|eC<|.int 0) gM)<|oG<|k7<|eFn iZ<|gz (gI mX (gA 2)<|eC<|.int 1) gM)
 (iR<|eC<|.bl false)
 j6
abbrev rf:Sm:=
 gY (rC (B9 (oG<|k7<|g6 (f2 xq)<|gz (gA 0)<|gz (eC<|.ty "list") gM)<|nK<|gI (jm true) (gA 0)<|gA 1)
 (iR<|eC<|.bl false)
 j6)
 (gY (pN qM (iD 2)
 qz)
 (iR<|eC<|.bl true))
abbrev lU:ae->gE->R A:=jM qC rf
meta abbrev DJ:aE:=top 28
meta abbrev Eb:ar:=["_law_script", "_law_k", "_law_bag_here", "_law_poly_here", "_law_handed", "_law_text_here", "_law_turn", "_law_found"]
meta abbrev Gk:ar:=["_law_script"]
abbrev uo:Ic:=
 o9 (eC<|.int 2)
abbrev sQ:Sm:=
 gY (iy (eFn iK<|gz (gA 5) gM)<|iD 7)
 (gY (rC (oG<|k7<|eFn lU<|gz (gA 7)<|gz (gA 3) gM)
 (iR<|eC<|.bl false)
 j6)
 (yD<|Mu mE (gA 7)<|gz (Di<|gz (eC<|.int 99)<|gz (eC<|.int 1) gM) gM))
abbrev xO:Ic:=
 o9 (g6 (f2 Ef)<|gz (eC<|.int 1)<|gz (g6 (f2 Eg)<|gz (eC<|.int 5)<|gz (g6 (f1 oN)<|gz (gA 0) gM) gM) gM)
abbrev yP:Sm:=
 gY (iy (eFn kj<|gz (gA 0)<|gz (gA 1) gM)<|iD 2)
 (gY (iy (eFn jE<|gz (gA 2) gM)<|iD 3)
 (gY (iy (g6 (f1 sJ)<|gz (gA 3) gM)<|iD 4)
 (gY (iy (eFn iA<|gz (gA 4) gM)<|iD 5)
 (gY (rC (B9 (oG<|k7<|g6 (f2 xq)<|gz (gA 5)<|gz (eC<|.ty "str") gM)<|B9 (nK<|gI (jm true) (gA 5)<|eFn jC<|gz (gA 3) gM)<|nK<|gI (jm true) (gA 4)<|gA 3)
 (iR<|eC<|.bl false)
 j6)
 (pN uo (iD 6)
 sQ)))))
abbrev B0:Sm:=
 gY (pN xO (iD 1)
 yP)
 (iR<|xJ (gI (jm false) (eFn iA<|gz (mj gM) gM)<|eC<|.str<|PySem.Str.ofString "0")<|gI (jm false) (eFn iK<|gz (eC<|.str<|PySem.Str.ofString "0") gM)<|mj gM)
abbrev r6:ae->gE->R A:=jM Eb B0
section
variable {P:ah}{w:af}{K:aq}{mg:Str->bi}{base:ak}{f:aj}{fd:FuncData}
def kK:FnScope lE k_ (gP mh):=uD rfl rfl rfl ∅
def uv(F:Fun K "show_size" "show_size" mh f fd)(j:mg "abs" = none)(J:mg "str" = none)(L:∃t,mg "PIECE" = some (.int 10000000000000000000000000000000000000000000000000000000000000000 t)):FnOk P w K mg base oq 1 f fd k_ (pK K 1 jt):=uB (m:=lY) F kK λd B c s H E e=>
 gF (g4 (i:=0) kK.nd<|g5 yV j uy<|gC (gu 0) gK)
 (gF (g4 (i:=1) kK.nd gW)
 (gF (BL 1000000 dw (ig LK (gu 0)<|nY L.choose_spec)
 (gF (sE)
 (gJ<|sE)))
 (gJ<|gZ<|gR i8 (jb tR J qj<|gC (gu 0) gK)<|gu 1)))
def kY:FnScope lq lP (gP l8):=uD rfl rfl rfl ∅
def ux(F:Fun K "show_term" "show_term" l8 f fd)(j:pW P w K mg base 1 "show_size" k_ jt):FnOk P w K mg base oq 2 f fd lP (pK K 2 iJ):=uB (m:=lR) F kY λe B d s H E c=>
 gF (g4 (i:=2) kY.nd<|uO j c<|gu 1)
 (gF (jc (ig (qN c.units) (gu 0) gD)
 (gJ<|gZ<|gu 2)
 g8)
 (gF (g4 (i:=3) kY.nd<|mP (ig (qN c.units) (gu 0) gD) gW<|DQ (ps:=[.inl "v^",.inr<|gA 0])<|.txt<|.val (gu 0) .nil)
 (gJ<|gZ<|mP (ig (qN c.units) (gu 2) gW) (gu 3)<|DQ (ps:=[.inr<|gA 2,.inl "*",.inr<|gA 3])<|.val (gu 2)<|.txt<|.val (gu 3) .nil)))
def iL:FnScope l7 jW (gP lX):=uD rfl rfl rfl ∅
def uc(F:Fun K "show_poly" "show_poly" lX f fd)(j:pW P w K mg base 2 "show_term" lP iJ):FnOk P w K mg base oq 3 f fd jW (pK K 1 iA):=uB (m:=l9) F iL λe B c s H E d=>
 gF (jc (jA<|iG<|gu 0)
 (gJ<|gZ gW)
 g8)
 (gF (g4 (i:=1) iL.nd gW)
 (gF (o6 dw rfl (oH<|gu 0) (qY rfl<|iF (ir (i:=2) iL.nd)<|iF (ir (i:=3) iL.nd) nP)
 (gF (g4 (i:=4) iL.nd<|mP (ig (Gf d.units) (gu 3) gD) gW gW)
 (gJ<|Ig (i:=1) iL.nd (DQ (ps:=[.inl " ",.inr<|gA 4,.inl " ",.inr<|eFn iJ<|gz (gA 2)<|gz (gA 3) gM])<|.txt<|.val (gu 4)<|.txt<|.val (wj j d (gu 2)<|gu 3) .nil) Fd)))
 (gJ<|gZ<|mP (iG<|o_ cX cY nB (gu 1)<|gC gW gK) (sU (gu 1) (n_ gD) nQ)<|gR i8 gW<|sU (gu 1) (n_ gD) nQ)))
def q_:FnScope j7 jk (gP kg):=uD rfl rfl rfl ∅
def qv(F:Fun K "read_number" "read_number" kg f fd)(j:mg "all" = none)(J:mg "len" = none)(L:mg "int" = none)(M:∃t,mg "FIGURES" = some (.str (PySem.Str.ofString "0123456789") t))(U:∃t,mg "MOST_FIGURES" = some (.int 30 t)):FnOk P w K mg base oq 1 f fd jk (pK K 1 h_):=uB (m:=j9) F q_ λe B c s H E d=>
 gF (jc (AW.at<|pB (jA<|L1 F0 F0 gD (g5 r_ J oz<|gC (gu 0) gK)<|nY U.choose_spec)<|oK<|jA<|iG<|g5 (GF rfl) j Ew<|gC (uz (N:=["sign"]) (cap:=[none]) rfl (zO [] rfl ∅ ∅ ∅ ∅ ∅ (nofun) trivial) (oH<|gu 0) (λ_ _ _ _=>ir (i:=0) (show(["sign"]:ar).Nodup by decide +kernel) rfl (Or.inl rfl)<|.inr rfl) (λ_ _ _ _=>pR) λ_ _ _ _=>lO KG (gu 0)<|A2 M.choose_spec) gK)
 (gJ<|sE)
 g8)
 (gF (jc (AW.at<|CZ (iG<|o_ cX cY nB (gu 0)<|gC gW gK)<|zI<|ig (vf d.units) (gu 0) gW)
 (gJ<|sE)
 g8)
 (gJ<|gZ<|jb t8 L qo<|gC (gu 0) gK))
def mL:FnScope kZ kG (gP kD):=uD rfl rfl rfl ∅
def rE(F:Fun K "read_power" "read_power" kD f fd)(j:pW P w K mg base 1 "read_number" jk h_):FnOk P w K mg base oq 2 f fd kG (pK K 1 jd):=uB (m:=kQ) F mL λe B c s H E d=>
 gF (jc (ig (qN d.units) (gu 0) gW)
 (gJ<|gZ gD)
 g8)
 (gF (g4 (i:=1) mL.nd<|o_ PySem.F.slot_str_removeprefix PySem.F.type_str_removeprefix Lp (gu 0)<|gC gW gK)
 (gJ<|gZ<|mP (iG<|o_ cX cY nB (gu 1)<|gC gW gK) (Ec<|uO j d<|sU (gu 1) (n_ gD) nQ)<|uO j d<|gu 1))
def iN:FnScope l_ lQ (gP lg):=uD rfl rfl rfl ∅
def sP(F:Fun K "read_term" "read_term" lg f fd)(j:pW P w K mg base 2 "read_power" kG jd)(J:pW P w K mg base 1 "read_number" jk h_):FnOk P w K mg base oq 3 f fd lQ (pK K 2 iI):=uB (m:=lH) F iN λe B c s H E d=>
 gF (wG (o_ PySem.F.slot_str_partition PySem.F.type_str_partition IU (gu 1)<|gC gW gK)<|qY rfl<|iF (ir (i:=2) iN.nd)<|iF (ir (i:=3) iN.nd)<|iF (ir (i:=4) iN.nd) nP)
 (gF (g4 (i:=5) iN.nd<|mP (iG<|gu 3) (uO j d<|gu 4) gD)
 (gF (g4 (i:=6) iN.nd<|mP (AW.at<|CZ (iG<|gu 3)<|zI<|jA<|iG<|gu 2) gD<|uO J d<|o_ PySem.F.slot_str_removesuffix PySem.F.type_str_removesuffix Kx (gu 2)<|gC gW gK)
 (gJ<|gZ<|wm<|gC (gu 5)<|gC (mP (ig (qN d.units) (gu 0) gW) (Ec<|gu 6)<|gu 6) gK)))
def jY:FnScope kP kW (gP k8):=uD rfl rfl rfl ∅
def rF(F:Fun K "read_terms" "read_terms" k8 f fd)(j:mg "len" = none)(J:mg "range" = none)(L:pW P w K mg base 3 "read_term" lQ iI):FnOk P w K mg base oq 4 f fd kW (pK K 1 iO):=uB (m:=kL) F jY λe B c s H E d=>
 gF (g4 (i:=1) jY.nd<|mP (iG<|o_ cX cY nB (gu 0)<|gC gW gK) (gR i8 gW<|sU (gu 0) (n_ gD) nQ)<|gR i8 gW<|gu 0)
 (gF (g4 (i:=2) jY.nd<|o_ PySem.F.slot_str_split PySem.F.type_str_split m_split (gu 1)<|gC gW gK)
 (gF (jc (iG<|gR JC (g5 r_ j oz<|gC (gu 2) gK) gD)
 (gJ<|sE)
 g8)
 (gJ<|gZ<|uz (N:=["at", "parts"]) (cap:=[none,some 2]) rfl (zO ["parts"] rfl ∅ ∅ ∅ ∅ ∅ (List.forall_mem_cons.mpr ⟨by first|exact Or.inl rfl|exact Or.inr rfl,(nofun)⟩) ⟨rfl,by decide +kernel,trivial⟩) (wO J gD (g5 r_ j oz<|gC (gu 2) gK) gD) (λ_ _ _ _=>ir (i:=0) (show(["at", "parts"]:ar).Nodup by decide +kernel) rfl (Or.inl rfl)<|.inr rfl) (λ_ _ _ _=>pR) λ_ _ _ _=>wj L d (iH (gu 1)<|gu 0)<|iH (gu 1)<|gR i8 (gu 0) gD)))
def jv:FnScope iY iV (gP iX):=uD rfl rfl rfl ∅
def mF(F:Fun K "is_within_bounds" "is_within_bounds" iX f fd)(j:mg "sorted" = none)(J:mg "set" = none)(L:mg "len" = none)(M:mg "all" = none)(U:mg "abs" = none)(Z:∃t,mg "MOST_TERMS" = some (.int 40 t))(Pe:∃t,mg "GREATEST_POWER" = some (.int 60 t)):FnOk P w K mg base oq 1 f fd iV (pK K 1 ie):=uB (m:=iW) F jv λe B c s H E d=>
 gF (E8 (i:=1) (N:=["power", "number"]) (cap:=[none,none]) jv.nd rfl (zO [] rfl ∅ ∅ ∅ ∅ ∅ (nofun) trivial) (oH<|gu 0) (λ_ _ _ _=>qY rfl<|iF (ir (i:=0) (show(["power", "number"]:ar).Nodup by decide +kernel) rfl (Or.inl rfl)<|.inr rfl)<|iF (ir (i:=1) (show(["power", "number"]:ar).Nodup by decide +kernel) rfl (Or.inl rfl)<|.inr rfl) nP) (λ_ _ _ _=>pR) λ_ _ _ _=>gu 0)
 (gF (jc (AW.at<|pB (ig (Li d.units) (g5 r_ L oz<|gC (gu 0) gK)<|nY Z.choose_spec)<|oK<|ig (vf d.units) (gu 1)<|xH rfl j AR J JM<|gu 1)
 (gJ<|gZ r9)
 g8)
 (gJ<|gZ<|g5 (GF rfl) M Ew<|gC (uz (N:=["power", "number"]) (cap:=[none,none]) rfl (zO [] rfl ∅ ∅ ∅ ∅ ∅ (nofun) trivial) (oH<|gu 0) (λ_ _ _ _=>qY rfl<|iF (ir (i:=0) (show(["power", "number"]:ar).Nodup by decide +kernel) rfl (Or.inl rfl)<|.inr rfl)<|iF (ir (i:=1) (show(["power", "number"]:ar).Nodup by decide +kernel) rfl (Or.inl rfl)<|.inr rfl) nP) (λ_ _ _ _=>pR) λ_ _ _ _=>wz (lO (vf d.units) (gu 1) gD)<|wF<|lO F0 (g5 yV U uy<|gC (gu 0) gK)<|nY Pe.choose_spec) gK))
def nX:FnScope lW lz (gP lB):=uD rfl rfl rfl ∅
def tW(F:Fun K "read_poly" "read_poly" lB f fd)(j:pW P w K mg base 4 "read_terms" kW iO)(J:pW P w K mg base 3 "show_poly" jW iA)(L:pW P w K mg base 1 "is_within_bounds" iV ie):FnOk P w K mg base oq 5 f fd lz (pK K 1 iK):=uB (m:=lG) F nX λe B d s H E c=>
 gF (g4 (i:=1) nX.nd<|mP (ig (qN c.units) (gu 0) gW) (ju gK)<|uO j c<|gu 0)
 (gF (jc (AW.at<|pB (jA<|iG<|uO L c<|gu 1)<|oK<|ig (vf c.units) (uO J c<|gu 1)<|gu 0)
 (gJ<|sE)
 g8)
 (gJ<|gZ<|gu 1))
def kH:FnScope oM oU (gP oV):=uD rfl rfl rfl ∅
def xF(F:Fun K "_law_bag" "_law_bag" oV f fd)(j:mg "len" = none)(J:mg "abs" = none)(L:mg "int" = none):FnOk P w K mg base oq 1 f fd oU (pK K 2 kj):=uB (m:=ow) F kH λe B c s H E d=>
 gF (g4 (i:=2) kH.nd gD)
 (gF (jc (ig (Gf d.units) (gu 1)<|g5 r_ j oz<|gC (gu 0) gK)
 (gJ<|g4 (i:=2) kH.nd<|g5 yV J uy<|gC (iH (gu 0)<|gu 1) gK)
 g8)
 (gF (g4 (i:=3) kH.nd<|gR i8 gD<|gR sC (gR i8 (gR i8 (gR i8 (gR sC (gu 2) gD)<|gR pH (gR pH gD<|gu 1)<|gu 1)<|gR pH gD<|gu 1) gD) gD)
 (gJ<|gZ<|ju<|gC (gR pH (gu 2)<|jb t8 L qo<|gC (lO LK (gu 2)<|gR GD gD gD) gK)<|gC (gu 3) gK)))
def nH:FnScope jV jU (gP lZ):=uD rfl rfl rfl ∅
def tu(F:Fun K "_law_digit" "_law_digit" lZ f fd):FnOk P w K mg base oq 1 f fd jU (pK K 2 gO):=uB (m:=jS) F nH λe B c s H E d=>
 gF (jc (ig (Li d.units) (iH (gu 0) gD) gD)
 (gF (g4 (i:=2) nH.nd<|gR sC (iH (gu 0) gD)<|gu 1)
 (gF (wG (gR uf (iH (gu 0) gD)<|gu 1)<|Bg (gu 0) gD)
 (gJ<|gZ<|gu 2)))
 g8)
 (gF (wG (gR sC (gR pH (iH (gu 0) gD) gD) gD)<|Bg (gu 0) gD)
 (gJ<|gZ<|gR sC (gR uf (gR sC (gR pH (iH (gu 0) gD)<|gR i8 (gR uf (iH (gu 0) gD) gD) gD) gD) gD)<|gu 1))
def sO:FnScope ly mz (gP mq):=uD rfl rfl rfl ∅
def sZ(F:Fun K "_law_whole" "_law_whole" mq f fd)(j:mg "isinstance" = none)(J:mg "bool" = none)(L:mg "int" = none):FnOk P w K mg base oq 1 f fd mz (pK K 1 iZ):=uB (m:=lD) F sO λd B c s H E e=>
 gJ (gZ<|wz (g5 vg j iS<|gC (gu 0)<|gC (uX L qo) gK)<|wF<|HV<|g5 vg j iS<|gC (gu 0)<|gC (uX J FY) gK)
def mS:FnScope kJ kB (gP kI):=uD rfl rfl rfl ∅
def rG(F:Fun K "_law_number" "_law_number" kI f fd)(j:pW P w K mg base 1 "_law_digit" jU gO):FnOk P w K mg base oq 2 f fd kB (pK K 1 ja):=uB (m:=kO) F mS λe B c s H E d=>
 gF (g4 (i:=1) mS.nd<|iH (ju<|gC gD<|gC gD<|gC gD<|gC (gR DM (gR GD gD gD) gD) gK)<|wj j d (gu 0) gD)
 (gJ<|gZ<|gR pH (gR i8 gD<|wj j d (gu 0)<|gu 1)<|gR DM gD<|gR pH gD<|wj j d (gu 0) gD)
def jq:FnScope mV nj (gP m_):=uD rfl rfl rfl ∅
def vq(F:Fun K "_law_poly" "_law_poly" m_ f fd)(J:mg "range" = none)(j:pW P w K mg base 1 "_law_digit" jU gO)(L:pW P w K mg base 2 "_law_number" kB ja):FnOk P w K mg base oq 3 f fd nj (pK K 1 jE):=uB (m:=nh) F jq λe B d s H E c=>
 gF (g4 (i:=1) jq.nd<|gR i8 (gR DM (wj j c (gu 0)<|iH (ju<|gC gD<|gC gD<|gC gD gK)<|wj j c (gu 0) gD) gD)<|iH (ju<|gC gD<|gC gD<|gC gD gK)<|wj j c (gu 0) gD)
 (gF (g4 (i:=2) jq.nd<|ju gK)
 (gF (o6 dw rfl (oF J<|wj j c (gu 0)<|iH (ju<|gC gD<|gC gD<|gC gD gK)<|wj j c (gu 0) gD) (ir (i:=3) jq.nd)
 (gF (jc (ig F0 (gu 1) gD)
 (gJ<|y9<|Hl PySem.F.slot_list_append PySem.F.type_list_append vP (gu 2)<|gC (wm<|gC (gu 1)<|gC (uO L c<|gu 0) gK) gK)
 g8)
 (gJ<|g4 (i:=1) jq.nd<|gR i8 (gR i8 (gu 1) gD)<|wj j c (gu 0)<|iH (ju<|gC gD<|gC gD<|gC gD gK)<|wj j c (gu 0) gD)))
 (gJ<|gZ<|gu 2)))
def jQ:FnScope nk m8 (gP mU):=uD rfl rfl rfl ∅
def ve(F:Fun K "_law_term" "_law_term" mU f fd)(J:mg "abs" = none)(j:mg "str" = none):FnOk P w K mg base oq 1 f fd m8 (pK K 2 jj):=uB (m:=mY) F jQ λe B c s H E d=>
 gF (g4 (i:=2) jQ.nd<|g5 yV J uy<|gC (gu 1) gK)
 (gF (g4 (i:=3) jQ.nd gW)
 (gF (jc (ig (vf d.units) (gu 0) gD)
 (gJ<|g4 (i:=3) jQ.nd<|gR i8 gW<|jb tR j qj<|gC (gu 0) gK)
 g8)
 (gF (jc (ig (qN d.units) (gu 0) gD)
 (gJ<|gZ<|jb tR j qj<|gC (gu 2) gK)
 g8)
 (gF (jc (ig (qN d.units) (gu 2) gD)
 (gJ<|gZ<|gu 3)
 g8)
 (gJ<|gZ<|gR i8 (gR i8 (jb tR j qj<|gC (gu 2) gK) gW)<|gu 3)))))
def jo:FnScope ny nc (gP nq):=uD rfl rfl rfl ∅
def uU(F:Fun K "_law_text" "_law_text" nq f fd)(j:mg "int" = none)(J:pW P w K mg base 1 "_law_term" m8 jj):FnOk P w K mg base oq 2 f fd nc (pK K 1 jC):=uB (m:=mT) F jo λe B d s H E c=>
 gF (jc (ig (qN c.units) (gu 0)<|ju gK)
 (gJ<|gZ gW)
 g8)
 (gF (g4 (i:=1) jo.nd<|gR i8 (gR Ik gW<|jb t8 j qo<|gC (lO (Gf c.units) (iH (iH (gu 0) gD) gD) gD) gK)<|wj J c (iH (iH (gu 0) gD) gD)<|iH (iH (gu 0) gD) gD)
 (gF (o6 dw rfl (oH<|L0 (gu 0) (n_ gD) nQ) (qY rfl<|iF (ir (i:=2) jo.nd)<|iF (ir (i:=3) jo.nd) nP)
 (gJ<|g4 (i:=1) jo.nd<|gR i8 (gR i8 (gu 1)<|iH (ju<|gC gW<|gC gW gK)<|jb t8 j qo<|gC (lO (Gf c.units) (gu 3) gD) gK)<|wj J c (gu 2)<|gu 3))
 (gJ<|gZ<|gu 1)))
def sj:FnScope qC qy (gP rg):=uD rfl rfl rfl ∅
def Af(F:Fun K "_law_is" "_law_is" rg f fd)(j:mg "isinstance" = none)(L:mg "list" = none)(M:mg "tuple" = none)(J:pW P w K mg base 1 "_law_whole" mz iZ):FnOk P w K mg base oq 2 f fd qy (pK K 2 lU):=uB (m:=rf) F sj λe B c s H E d=>
 gF (jc (AW.at<|pB (jA<|iG<|g5 vg j iS<|gC (gu 0)<|gC (uX L yq) gK)<|oK<|ig (vf d.units) (gu 0)<|gu 1)
 (gJ<|gZ r9)
 g8)
 (gF (o6 dw rfl (oH<|gu 0) (ir (i:=2) sj.nd)
 (gJ (jc (AW.at<|pB (jA<|iG<|g5 vg j iS<|gC (gu 2)<|gC (uX M DZ) gK)<|pB (jA<|iG<|uO J d<|iH (gu 2) gD)<|oK<|jA<|iG<|uO J d<|iH (gu 2) gD)
 (gJ<|gZ r9)
 g8)))
 (gJ<|gZ r9))
def lC:FnScope Eb Gk (gP DJ):=uD rfl rfl rfl ∅
set_option smartUnfolding false in
theorem Iw(F:Fun K "law" "law" DJ f fd)(j:mg "range" = none)(M:mg "max" = none)(U:mg "min" = none)(Z:mg "len" = none)(O1:mg "list" = none)(OW:mg "isinstance" = none)(OV:mg "str" = none)(Pr:pW P w K mg base 1 "_law_bag" oU kj)(Pu:pW P w K mg base 3 "_law_poly" nj jE)(J:pW P w K mg base 3 "show_poly" jW iA)(Pw:pW P w K mg base 2 "_law_text" nc jC)(L:pW P w K mg base 5 "read_poly" lz iK)(Px:pW P w K mg base 2 "_law_is" qy lU):FnOk P w K mg base oq 6 f fd Gk (pK K 1 r6):=uB (m:=B0) F lC λe B d s H E c=>
 gF (o6 dw rfl (oF j<|g5 (Ij rfl) M JH<|gC gD<|gC (g5 (I_ rfl) U Io<|gC gD<|gC (g5 r_ Z oz<|gC (gu 0) gK) gK) gK) (ir (i:=1) lC.nd)
 (gF (g4 (i:=2) lC.nd<|wj Pr c (gu 0)<|gu 1)
 (gF (g4 (i:=3) lC.nd<|uO Pu c<|gu 2)
 (gF (g4 (i:=4) lC.nd<|jb (HU rfl) O1 yq<|gC (gu 3) gK)
 (gF (g4 (i:=5) lC.nd<|uO J c<|gu 4)
 (gF (jc (AW.at<|pB (jA<|iG<|g5 vg OW iS<|gC (gu 5)<|gC (uX OV qj) gK)<|pB (ig (vf c.units) (gu 5)<|uO Pw c<|gu 3)<|oK<|ig (vf c.units) (gu 4)<|gu 3)
 (gJ<|gZ r9)
 g8)
 (gJ (o6 dw rfl (oF j gD) (ir (i:=6) lC.nd)
 (gF (g4 (i:=7) lC.nd<|uO L c<|gu 5)
 (gF (jc (jA<|iG<|wj Px c (gu 7)<|gu 3)
 (gJ<|gZ r9)
 g8)
 (gJ<|y9<|Hl PySem.F.slot_list_append PySem.F.type_list_append vP (gu 7)<|gC (wm<|gC gD<|gC gD gK) gK)))))))))))
 (gJ<|gZ<|wz (lO (qN c.units) (uO J c<|ju gK) gW)<|wF<|lO (qN c.units) (uO L c gW)<|ju gK)
end
end K81
namespace Tx
open PySem
def zc(a:Str):Str.empty++a=a:=by
 show(⟨#[]++a.cps⟩:Str)=a;rw[Array.empty_append]
def EH(a:Str):a++Str.empty=a:=by
 show(⟨a.cps++#[]⟩:Str)=a;rw[Array.append_empty]
def jz(a b:Str):(a++b).length=a.length+b.length:=by
 show(a.cps++b.cps).size=_;rw[Array.size_append];rfl
abbrev tx (i:Int):Str:=Str.ofString<|toString i
def JD{i:Int}(h:0<=i):0<(tx i).length:=by
 obtain⟨m,rfl⟩:=Int.eq_ofNat_of_zero_le h;unfold tx;rw[show((m:Nat):Int)=Int.ofNat m from rfl,PyProof.Rows.text_ofNat];have:=PyProof.Rows.tDigits_len_ge 10 m;show 0<(List.toArray _).size;rw[aU,aN];lia
end Tx
namespace Sp
open PySem L2
open Builtin.Str (occurrences partsBetween strSub subAt)
open StrLaws (occBody partsFrom)
abbrev P (x:Str)(c i:Nat):Bool:=decide<|x.cps.toList[i]?=some c
def uS(x:Str)(c i:Nat):subAt x ⟨#[c]⟩ i=true ↔ x.cps.toList[i]?=some c:=by
 rw[StrLaws.subAt_eq];exact StrLaws.take1_drop
def pM(c:Nat):(⟨#[c]⟩:Str).length=1:=rfl
def size_eq(x:Str):x.length=x.cps.toList.length:=by rw[bA];rfl
theorem xB(x:Str)(c:Nat):∀(k a:Nat) (st:Array Nat×Nat),a+k=x.length+1->st.1.size<=a->st.2<=a ->
  (forIn (List.range' a k) st<|occBody x ⟨#[c]⟩ x.length<|x.length+1).run.fst.toList=st.1.toList++(List.range' a k).filter (P x c)
 | 0,a,st,_,_,_=>by
  show st.1.toList=st.1.toList++[];rw[bO]
 | k+1,a,st,h,h1,h2=>by
  rw[eH,List.forIn_cons];unfold occBody;by_cases q:x.cps.toList[a]?=some c
  ·have e:a<x.length:=by
    rw[size_eq];exact(aP.mp q).1
   have d:P x c a=true:=bq q;rw[aJ ⟨⟨⟨(),h2⟩,by rw[pM];lia⟩,(uS x c a).mpr q⟩,List.filter_cons_of_pos d];have:=xB x c k (a+1) (st.1.push a,a+1) () (by dsimp[Array.size_push];lia)<|aL _;rw[fm]at this;show(forIn (List.range' (a+1) k) (st.1.push a,a+(⟨#[c]⟩:Str).length)<|occBody x ⟨#[c]⟩ x.length<|x.length+1).run.fst.toList=_;rw[pM,this,bG];rfl
  ·have d:¬P x c a=true:=λz=>q<|cU z;rw[aI λz=>q<|(uS x c a).mp z.2,eZ d];exact xB x c k (a+1) (st.1,st.2) () (show st.1.size<=a+1 by lia)<|show st.2<=a+1 by lia
def Ng(x:Str)(c:Nat):occurrences x ⟨#[c]⟩ 0 x.length (x.length+1)=(List.range' 0<|x.length+1).filter (P x c):=by
 rw[StrLaws.occ_eq];exact xB x c (x.length+1) 0 (#[],0) () (aL _)<|aL _
abbrev jI (c:Nat):am->am->List (am)
 | cur,[]=>[cur]
 | cur,d::ds=>if d=c then cur::jI c [] ds else jI c (cur++[d]) ds
abbrev mk (l:am):Str:=⟨l.toArray⟩
def AD(x:Str):mk x.cps.toList=x:=rfl
def oO(x:Str)(i j:Nat):strSub x i j=mk ((x.cps.toList.drop i).take<|j-i):=by
 rw[<- StrLaws.strSub_toList];rfl
theorem rj(x:Str)(c:Nat):∀(k a i:Nat),i+k=x.length->a<=i->partsFrom x 1 a ((List.range' i<|k+1).filter<|P x c)=(jI c ((x.cps.toList.drop a).take<|i-a)<|x.cps.toList.drop i).map mk
 | 0,a,i,h,ha=>by
  have d:¬P x c i=true:=λz=>by
   have:=(aP.mp<|cU z).1;rw[<- size_eq]at this
   lia
  rw[eH,eZ d,List.drop_eq_nil_of_le<|show x.cps.toList.length<=i by rw[<- size_eq];lia];show[strSub x a x.length]=[mk _];rw[oO,show i=x.length by lia]
 | k+1,a,i,h,ha=>by
  have hi:i<x.cps.toList.length:=by rw[<- size_eq];lia
  rw[eH,cI hi];by_cases q:x.cps.toList[i]=c
  ·have d:P x c i=true:=bq (by rw[aG hi,q]);rw[List.filter_cons_of_pos d];show strSub x a i::partsFrom x 1 (i+1) ((List.range' (i+1)<|k+1).filter<|P x c)=(if x.cps.toList[i]=c then _ else _:List<|am).map mk;rw[aJ q,rj x c k (i+1) (i+1) ()<|aL _,cQ,oO,fj,c8]
  ·have d:¬P x c i=true:=λz=>by
    have z:=cU z;rw[aG hi]at z;exact q<|aX z
   rw[eZ d,rj x c k a (i+1) () ()];show _=(if x.cps.toList[i]=c then _ else jI c _ _:List<|am).map mk;rw[aI q];congr 2;rw[show i+1-a=(i-a)+1 by lia,List.take_add_one,eV,show a+(i-a)=i by lia,aG hi];rfl
def LO(x:Str){c:Nat}(h:c<256):¬Builtin.Str.strKind x<Builtin.Str.strKind ⟨#[c]⟩:=by
 have:Builtin.Str.strKind ⟨#[c]⟩=1:=by
  unfold Builtin.Str.strKind;rw[aJ<|by simp;exact h]
 rw[this];unfold Builtin.Str.strKind;split
 ·lia
 ·split<;>lia
def CV(x:Str){c:Nat}(hc:c<256)(h:1<=x.length):Txt.split x ⟨#[c]⟩=(jI c [] x.cps.toList).map mk:=by
 have e0:=rj x c x.length 0 0 ()<|aL _;rw[dM,fj,c8]at e0;unfold Txt.split;rw[aI<|by rw[fM,d8,d8];exact λz=>z.elim (λz=>by rw[pM]at z;lia)<|LO x hc,Ng,<- e0,StrLaws.partsBetween_eq,pM];split
 ·rename_i z;rw[List.isEmpty_iff]at z;rw[z];show[x]=[strSub x 0 x.length];rw[oO,dM,e_<|by rw[<- size_eq];lia,AD]
 ·rfl
theorem nu(c:Nat):∀(a cur r:am),c∉a->jI c cur (a++r)=jI c (cur++a) r
 | [],cur,r,_=>by rw[bO];rfl
 | d::a,cur,r,h=>by
  show(if d=c then _ else jI c (cur++[d]) (a++r))=_;rw[aI λz=>h<|by rw[z];exact aQ ..,nu c a _ r λz=>h<|aV _ z,bG];rfl
def oX(a b:Str):(a++b).cps.toList=a.cps.toList++b.cps.toList:=Array.toList_append
theorem mW(c:Nat):∀(a:Str) (rest:ar),(Str.join ⟨#[c]⟩ (a::rest)).cps.toList=a.cps.toList++rest.flatMap λt=>c::t.cps.toList
 | a,[]=>(bO _).symm
 | a,b::rest=>by
  show(a++⟨#[c]⟩++Str.join ⟨#[c]⟩ (b::rest)).cps.toList=_;rw[oX,oX,mW c b rest,bG];rfl
theorem pG(c:Nat):∀(a:Str) (rest:ar),c∉a.cps.toList->(∀t∈rest,c∉t.cps.toList)->jI c [] (a.cps.toList++rest.flatMap λt=>c::t.cps.toList)=(a::rest).map λt=>t.cps.toList
 | a,[],h,_=>by
  rw[nu c _ _ _ h];rfl
 | a,b::rest,h,h'=>by
  rw[nu c _ _ _ h];show jI c ([]++a.cps.toList) (c::(b.cps.toList++rest.flatMap λt=>c::t.cps.toList))=_;show(if c=c then([]++a.cps.toList)::jI c [] _ else _)=_;rw[aJ rfl,pG c b rest (h' b<|aQ ..) λt d=>h' t<|aV _ d];rfl
def wZ{l:ar}{c:Nat}(hc:c<256)(j:l≠[])(h:∀t∈l,c∉t.cps.toList)(J:1<=(Str.join ⟨#[c]⟩ l).length):Txt.split (Str.join ⟨#[c]⟩ l) ⟨#[c]⟩=l:=by
 rw[CV _ hc J]
 cases l with
 | nil=>exact absurd rfl j
 | cons a rest=>
  rw[mW,pG c a rest (h a<|aQ ..) λt d=>h t<|aV _ d,eK];exact List.map_id _
def small:∀i:Nat,i<21->((Tx.tx (i:Int)).cps.toList.all λc=>decide (48<=c) && decide (c<=57))=true/\1<=(Tx.tx (i:Int)).length/\(Tx.tx (i:Int)).length<=2/\(0<i->subAt (Tx.tx (i:Int)) "0" 0=false):=by decide +kernel
def Nu:∀c:Nat,c<58->48<=c->(occurrences (Str.ofString "0123456789") ⟨#[c]⟩ 0 (Str.ofString "0123456789").length 1).isEmpty=false:=by decide +kernel
end Sp
namespace Pt
open PySem L2
open Builtin.Str (occurrences strSub subAt)
open Sp (mk)
meta abbrev C (x:Str):am:=x.cps.toList
def ext{a b:Str}(h:C a=C b):a=b:=by
 cases a;cases b
 exact bQ Str.mk<|toList_inj.mp h
def jN(a b:Str):C (a++b)=C a++C b:=Sp.oX a b
def qK(l:am):C (mk l)=l:=rfl
abbrev dg (m:Nat):am:=(Nat.toDigits 10 m).map Char.toNat
def mZ(m:Nat):C (Tx.tx m)=dg m:=PySem.W.KIN.signs_num m
def lV(m:Nat):∀c∈dg m,48<=c/\c<=57:=λc hc=>by
 obtain⟨d,h,e⟩:=eG.mp hc;have:=Char.isDigit_iff_toNat.mp<|Nat.isDigit_of_mem_toDigits ⋯ ⋯ h;rw[<- e];exact this
def zU(m:Nat):dg m≠[]:=λh=>Nat.toDigits_ne_nil<|List.map_eq_nil_iff.mp h
def qG(h:m<10 ^ 30):(dg m).length<=30:=by
 unfold dg;rw[aN];exact(c_ ⋯ ⋯).mpr h
def A0{k:Nat}(h:dg m=dg k):m=k:=by
 rw[<- fG m,<- fG k];exact bQ _ h
def Lg:∀d<10,d≠0->(Nat.digitChar d).toNat≠48:=by decide
def EW:∀(m:Nat),0<m->∃c l,dg m=c::l/\c≠48:=by
 intro m
 induction m using Nat.strongRecOn with
 | ind m f=>
  intro h;unfold dg;rw[Nat.toDigits_eq_if ⋯];by_cases c:m<10
  ·rw[aJ c];exact⟨_,[],rfl,Lg m c ()⟩
  ·rw[aI c,dj];obtain⟨d,l,e,q⟩:=f (m / 10) () ();unfold dg at e;rw[e];exact⟨d,l++_,rfl,q⟩
def reads{m:Nat}(h:m<10 ^ 30):PySem.intText? (Tx.tx m)=some (m:Int):=by
 have hd:NumText.AllDigits (C<|Tx.tx m):=by rw[mZ];exact lV m
 have hn:C (Tx.tx m)≠[]:=by rw[mZ];exact zU m
 have c:(C<|Tx.tx m).length<=30:=by rw[mZ];exact qG h
 have e:PySem.intText? (Tx.tx m)=some ((NumText.digitsVal (C<|Tx.tx m):Nat):Int):=intText_digits hd hn (by rw[Sp.size_eq];exact bU c ⋯);rw[mZ]at e;exact e.trans<|bQ (λz:Nat=>some (z:Int))<|fG m
def LN{m:Nat}:Tx.tx m=Str.ofString "1" ↔ m=1:=by
 constructor
 ·intro h;have:C (Tx.tx m)=C (Tx.tx (1:Nat)):=bQ C h;rw[mZ,mZ]at this;exact A0 this
 ·intro h;subst h;rfl
theorem DR{α β:Type}{f:α->Option β}{g:α->β}:∀(l:List α),(∀x∈l,f x=some (g x))->l.filterMap f=l.map g
 | [],_=>rfl
 | x::l,h=>by rw[eL,h x<|aQ ..,DR l λy hy=>h y<|aV _ hy];rfl
def m9(y:Str){k:Nat}(h:k<=y.length):C (Txt.slice y (some (k:Int)) none)=(C y).drop k:=by
 have e:Builtin.Str.strSliceIndices (some (k:Int)) none 1 y.length=(List.range<|y.length-k).map λj=>k+j:=by
  rw[<- StrLaws.strSliceIndices_plain (a:=k) (b:=y.length) h (aL _)];unfold Builtin.Str.strSliceIndices;simp;congr 1;rw[aI ()]
  lia
 unfold Txt.slice;rw[e];split
 ·rename_i z;have:y.length-k=y.length:=by simpa using z
  by_cases d:k=0
  ·rw[d,dM]
  ·have g:y.length=0:=()
   have:C y=[]:=List.eq_nil_of_length_eq_zero (by rw[<- Sp.size_eq];exact g);rw[this,List.drop_nil]
 ·show((List.range<|y.length-k).map λj=>k+j).filterMap (λx=>y.cps[x]?)=_;rw[List.filterMap_map];refine dD λi=>?_;have f:(List.range<|y.length-k).filterMap ((λx=>y.cps[x]?) ∘ λj=>k+j)=(List.range<|y.length-k).map λj=>(C y).getD (k+j) 0:=by
   refine DR _ λj c=>?_;have:=cR.mp c;have lt:k+j<(C y).length:=by rw[<- Sp.size_eq];lia
   show y.cps[k+j]?=some ((C y).getD (k+j) 0);rw[<- cL,aM,aG lt];rfl
  rw[f,aY,eV];by_cases hi:i<y.length-k
  ·have lt:k+i<(C y).length:=by rw[<- Sp.size_eq];lia
   rw[cG hi,aG lt,fN,aM,aG lt];rfl
  ·rw[bJ<|by rw[bC];lia,bJ<|by rw[<- Sp.size_eq];lia];rfl
def uw{x:Str}{c i:Nat}:StrLaws.At x ⟨#[c]⟩ x.length i ↔ (C x)[i]?=some c:=by
 constructor
 ·intro h;exact(Sp.uS x c i).mp h.2
 ·intro h;have:=(aP.mp h).1;have:i<x.length:=by rw[Sp.size_eq];exact this
  exact⟨by rw[Sp.pM];lia,(Sp.uS x c i).mpr h⟩
def FE{x:Str}{c:Nat}(h:c∉C x):Txt.partition x ⟨#[c]⟩=(x,Str.empty,Str.empty):=by
 rcases fO x ⟨#[c]⟩with z|⟨i,_,z,_⟩
 ·exact z.1
 ·exact absurd (aZ<|uw.mp z) h
def xP{x:Str}{c:Nat}{a b:am}(e:C x=a++c::b)(h:c∉a):Txt.partition x ⟨#[c]⟩=(mk a,⟨#[c]⟩,mk b):=by
 have f:(C x)[a.length]?=some c:=by rw[e,c7<|aL _,fj];rfl
 rcases fO x ⟨#[c]⟩with z|⟨i,z,q,r⟩
 ·exact absurd (uw.mpr f) (z.2 _)
 ·have hi:i=a.length:=by
   have q:=uw.mp q
   rcases Nat.lt_trichotomy i a.length with l|l|l
   ·rw[e,bI l]at q;exact absurd (aZ q) h
   ·exact l
   ·exact absurd (uw.mpr f)<|r _ l
  have l:x.length=a.length+(b.length+1):=by rw[Sp.size_eq];show(C x).length=_;rw[e,aS,aW]
  rw[z,Sp.oO,Sp.oO,hi,Sp.pM];show(mk<|(C x).drop 0 |>.take (a.length-0),_,mk<|((C x).drop<|a.length+1).take<|x.length-(a.length+1))=_;rw[e,dM,Nat.sub_zero,List.take_left];have d:(a++c::b).drop (a.length+1)=b:=by
   rw[<- List.drop_drop,List.drop_left];rfl
  rw[d,l,e_ ()]
def JU{x:Str}{c:Nat}{a:am}(e:C x=a++[c]):Txt.removesuffix x ⟨#[c]⟩=mk a:=by
 have l:x.length=a.length+1:=by rw[Sp.size_eq];show(C x).length=_;rw[e,aS];rfl
 rw[StrLaws.removesuffix_eq,aJ]
 ·show mk (((C x).drop 0).take<|x.length-(⟨#[c]⟩:Str).length-0)=_;rw[e,dM,l,Sp.pM,Nat.sub_zero,fZ,List.take_left]
 ·rw[cN];refine⟨bq<|by rw[Sp.pM,l];lia,(Sp.uS x c _).mpr ?_⟩;show(C x)[_]?=_;rw[e,l,Sp.pM,fZ,c7<|aL _,fj];rfl
def JY{x:Str}{c:Nat}(h:c∉C x):Txt.removesuffix x ⟨#[c]⟩=x:=by
 rw[StrLaws.removesuffix_eq,aI];intro z;rw[cN]at z;exact h<|aZ<|(Sp.uS x c _).mp z.2
def J9{x:Str}{c:Nat}{b:am}(e:C x=c::b):Txt.removeprefix x ⟨#[c]⟩=mk b:=by
 have l:x.length=b.length+1:=by rw[Sp.size_eq];show(C x).length=_;rw[e];rfl
 unfold Txt.removeprefix;rw[aJ<|(Sp.uS x c 0).mpr<|by show(C x)[0]?=_;rw[e];rfl];show(if (x.length-(⟨#[c]⟩:Str).length == x.length)=true then x else strSub x (⟨#[c]⟩:Str).length x.length)=_;rw[Sp.pM,aI<|by rw[gr];lia,Sp.oO];show mk (((C x).drop 1).take<|x.length-1)=_;rw[e,l];show mk (b.take<|b.length+1-1)=_;rw[fZ,dP]
abbrev rJ (q:Int×Int):Nat:=if q.2<0 then 45 else 43
abbrev pL (p:Int):Str:=if p=1 then "v" else "v^" ++ Tx.tx p
abbrev term (q:Int×Int):Str:=if q.1=0 then Tx.tx q.2.natAbs else if q.2.natAbs=1 then pL q.1 else Tx.tx q.2.natAbs ++ "*" ++ pL q.1
abbrev sg (q:Int×Int):Str:=⟨#[rJ q]⟩
abbrev mO (p:Int):am:=(if p<0 then[45]else[])++dg p.natAbs
def Lr:∀m<60,C (Tx.tx<|Int.negSucc m)=mO (Int.negSucc m):=by decide +kernel
def MT{p:Int}(h0:-60<=p):C (Tx.tx p)=mO p:=by
 cases p with
 | ofNat m=>
  unfold mO;rw[aI<|show ¬Int.ofNat m<0 from Int.not_lt.mpr<|Int.natCast_nonneg m,fK];exact mZ m
 | negSucc m=>exact Lr m ()
abbrev uA (p:Int):am:=118::if p=1 then[]else 94::mO p
def El{p:Int}(h0:-60<=p):C (pL p)=uA p:=by
 unfold pL uA;by_cases h:p=1
 ·rw[aJ h,aJ h];rfl
 ·rw[aI h,aI h,jN,MT h0];rfl
def qu{q:Int×Int}(h0:-60<=q.1):C (term q)=if q.1=0 then dg q.2.natAbs else if q.2.natAbs=1 then uA q.1 else dg q.2.natAbs++42::uA q.1:=by
 unfold term;by_cases h:q.1=0
 ·rw[aJ h,aJ h];exact mZ _
 ·rw[aI h,aI h];by_cases c:q.2.natAbs=1
  ·rw[aJ c,aJ c];exact El h0
  ·rw[aI c,aI c,jN,jN,mZ,El h0,bG];rfl
def EV{p:Int}:∀c∈mO p,c=45\/(48<=c/\c<=57):=λc hc=>by
 unfold mO at hc
 rcases bh.mp hc with z|z
 ·split at z
  ·exact .inl (aR.mp z)
  ·cases z
 ·exact .inr<|lV _ c z
def yI{p:Int}:∀c∈uA p,c=118\/c=94\/c=45\/(48<=c/\c<=57):=λc hc=>by
 unfold uA at hc
 rcases bH.mp hc with z|z
 ·exact .inl z
 ·split at z
  ·cases z
  ·rcases bH.mp z with z|z
   ·exact .inr (.inl z)
   ·exact .inr<|.inr<|EV c z
def DW{q:Int×Int}(h0:-60<=q.1):∀c∈C (term q),c=118\/c=94\/c=45\/c=42\/(48<=c/\c<=57):=λc hc=>by
 rw[qu h0]at hc;split at hc
 ·exact .inr (.inr<|.inr<|.inr<|lV _ c hc)
 ·split at hc
  ·rcases yI c hc with z|z|z|z
   ·exact .inl z
   ·exact .inr (.inl z)
   ·exact .inr (.inr<|.inl z)
   ·exact .inr<|.inr<|.inr<|.inr z
  ·rcases bh.mp hc with z|z
   ·exact .inr (.inr<|.inr<|.inr<|lV _ c z)
   ·rcases bH.mp z with z|z
    ·exact .inr (.inr<|.inr<|.inl z)
    ·rcases yI c z with z|z|z|z
     ·exact .inl z
     ·exact .inr (.inl z)
     ·exact .inr (.inr<|.inl z)
     ·exact .inr<|.inr<|.inr<|.inr z
def AN{q:Int×Int}(h0:-60<=q.1):∃c l,C (term q)=c::l/\c≠45/\c≠32:=by
 have fd:∀(m:Nat) (r:am),∃c l,dg m++r=c::l/\c≠45/\c≠32:=λm r=>by
  cases e:dg m with
  | nil=>exact absurd e (zU m)
  | cons c l=>
   have:=lV m c (by rw[e];exact aQ ..);exact⟨c,l++r,rfl,(),()⟩
 rw[qu h0];split
 ·have:=fd q.2.natAbs []
  rwa [bO]at this
 ·split
  ·exact⟨118,_,rfl,by decide,by decide⟩
  ·exact fd _ _
def jB{q:Int×Int}(h0:-60<=q.1)(h1:q.1<=60)(h:q.2.natAbs<10 ^ 30):(term q).length<=36:=by
 have d:(mO q.1).length<=3:=by
  unfold mO;rw[aS];have:(dg q.1.natAbs).length<=2:=by
   unfold dg;rw[aN];exact(c_ ⋯ ⋯).mpr ()
  split
  ·show 1+_<=_;lia
  ·show 0+_<=_;lia
 have c:(uA q.1).length<=5:=by
  unfold uA;split
  ·decide
  ·show(_+1)+1<=5;lia
 have hd:=qG h;rw[Sp.size_eq];show(C<|term q).length<=_;rw[qu h0];split
 ·lia
 ·split
  ·lia
  ·rw[aS,aW];lia
abbrev mJ (q:Int×Int):am:=32::rJ q::32::C (term q)
abbrev R0 (q:Int×Int):am:=(if q.2<0 then[45]else[])++C (term q)
abbrev tp:List (Int×Int)->Str
 | [] => "0"
 | q::l=>mk<|R0 q++l.flatMap mJ
abbrev nA (l:List<|Int×Int):ar:=l.flatMap λq=>[sg q,term q]
theorem rR:∀(l:List<|Int×Int),(nA l).flatMap (λt=>32::C t)=l.flatMap mJ
 | []=>rfl
 | q::l=>by
  show 32::C (sg q)++(32::C (term q)++(nA l).flatMap λt=>32::C t)=_;rw[rR l];rfl
def uL(q:Int×Int)(l:List<|Int×Int):C (Str.join ⟨#[32]⟩<|nA (q::l))=rJ q::32::(C (term q)++l.flatMap mJ):=by
 show C (Str.join ⟨#[32]⟩ (sg q::term q::nA l))=_;rw[show C (Str.join ⟨#[32]⟩ (sg q::term q::nA l))=C (sg q)++(term q::nA l).flatMap (λt=>32::C t)from Sp.mW 32 _ _];show rJ q::(32::C (term q)++(nA l).flatMap λt=>32::C t)=_;rw[rR];rfl
def EF{l:List<|Int×Int}{t:Str}(h:t∈nA l):∃q∈l,t=sg q\/t=term q:=by
 obtain⟨q,c,h⟩:=List.mem_flatMap.mp h
 rcases bH.mp h with z|z
 ·exact⟨q,c,.inl z⟩
 ·exact⟨q,c,.inr<|aR.mp z⟩
def Ao{q:Int×Int}(h0:∀x∈q::l,-60<=x.1):Txt.split (Str.join ⟨#[32]⟩<|nA (q::l)) ⟨#[32]⟩=nA (q::l):=by
 refine Sp.wZ ⋯ (λz=>nomatch z) (λt c z=>?_) ?_
 ·obtain⟨x,d,e⟩:=EF c
  rcases e with e|e
  ·rw[e]at z;have:32=rJ x:=aR.mp z;unfold rJ at this;split at this<;>lia
  ·rw[e]at z;have:=DW (h0 x d) 32 z
   lia
 ·rw[Sp.size_eq];show 1<=(C _).length;rw[uL];show 1<=_+1
  lia
end Pt
namespace Sy
open Tb
abbrev hd (T:List<|ag)(y:Int):ag:=match T with
 | []=>[y]
 | u::_=>if fg u y=u.length then u++[y]else u.set (fg u y) y
abbrev plain (T:List<|ag):ag:=T.reverse.flatten
end Sy
namespace K81
open PySem L2 Am
abbrev uq (S:gE)(b:Nat):Prop:=∃g st:Int,gH S b=some [.int g,.int st]/\0<=g/\0<=st/\st<4294967296
def uq.kp{b:Nat}{c:Nat->Prop}(h:uq S b)(k:Kp c S S')(j:¬c b):uq S' b:=by
 obtain⟨g,st,e,q⟩:=h;exact⟨g,st,k.lst b _ j e,q⟩
def F7{S:gE}{ns:ag}{k:Int}(h0:0<=k)(h1:k<=100):∃S',kj [.frz<|ns.map .int,.int k] S=.ok (.ref S.length) S'/\uq S' S.length/\ou S S':=by
 have f:z_ (.int 10) (.int 18)=λS=>R.ok (.int 1000000000000000000) S:=by
  funext S;exact g_ ⟨by decide,by decide,by decide⟩
 have d:∀c:Int,0<=c->∃S',((RS.seq (.nx [A.frz<|ns.map .int,.int k,.int c,.unb] S) (gY (iy (gI iE (eC<|.int 1)<|gI pI (gI iE (gI iE (gI iE (gI pI (gA 2)<|eC<|.int 2147483647)<|gI j3 (gI j3 (eC<|.int 7919)<|gA 1)<|gA 1)<|gI j3 (eC<|.int 17)<|gA 1)<|eC<|.int 3)<|eC<|.int 2147483646)<|iD 3)
   (iR<|mj<|gz (gI j3 (gA 2)<|g6 (f1 n9)<|gz (gI LZ (gA 2)<|gI z_ (eC<|.int 10)<|eC<|.int 18)<|gM)<|gz (gA 3)<|gM))).end=.ok (.ref S.length) S')/\uq S' S.length/\ou S S':=by
  intro c hc;have F:pI (.int c) (.int 2147483647)=λS=>R.ok (.int<|c % 2147483647) S:=by funext S;exact sN ⋯
  have B:∀x:Int,pI (.int x) (.int 2147483646)=λS=>R.ok (.int<|x % 2147483646) S:=λx=>by funext S;exact sN ⋯
  have p:∀x:Int,j3 (.int 7919) (.int x)=λS=>R.ok (.int<|7919 * x) S:=λx=>by funext S;exact uJ ⋯ ⋯
  have q:j3 (.int<|7919 * k) (.int k)=λS=>R.ok (.int<|7919 * k * k) S:=by funext S;exact mul_r () ()
  have g:∀x:Int,j3 (.int 17) (.int x)=λS=>R.ok (.int<|17 * x) S:=λx=>by funext S;exact uJ ⋯ ⋯
  have G:∀b:Bool,j3 (.int c) (.int<|if b=true then 1 else 0)=λS=>R.ok (.int<|c * (if b=true then 1 else 0)) S:=λb=>by
   funext S
   refine mul_r ?_ ?_<;>cases b<;>decide
  have m:0<=1+(c % 2147483647+7919 * k * k+17 * k+3) % 2147483646:=by
   have:=fP (c % 2147483647+7919 * k * k+17 * k+3) (show(2147483646:Int)≠0 by decide)
   lia
  have J:1+(c % 2147483647+7919 * k * k+17 * k+3) % 2147483646<4294967296:=by
   have:=eX (c % 2147483647+7919 * k * k+17 * k+3) (show(0:Int)<2147483646 by decide)
   lia
  refine⟨S++[.lst [.int<|c * (if decide (1000000000000000000<=c)=true then 1 else 0),.int<|1+(c % 2147483647+7919 * k * k+17 * k+3) % 2147483646]],?_,⟨_,_,g9,?_,m,J⟩,Kp.refl.lay⟩
  ·dsimp[iB,bools,F,B,p,q,g,f,G]
  ·refine Int.mul_nonneg hc ?_;split<;>decide
 have j:∀x:Int,0<=(if x<0 then -x else x):=by intro x;split<;>lia
 unfold kj ow oM;dsimp[iB,bools,i9,Nat.reduceAdd,Nat.reduceSub,aN];by_cases e:k<(ns.length:Int)
 ·have hn:k.toNat<ns.length:=()
  have C:k9 (ns.map A.int) k=some (.int ns[k.toNat]):=E4 (k:=k.toNat) ()<|aG hn;rw[bq e];dsimp[iB,bools,C];exact d _<|j _
 ·rw[bz e];dsimp[iB,bools];exact d 0<|Int.le_refl 0
def tQ{i j:Int}(h:0<j)(h':j<1267650600228229401496703205376):qL (.int i) (.int j) S=.ok (.int<|i / j) S:=g_ ⟨h,h'⟩
def digit{b:Nat}{m:Int}(h:uq S b)(h1:1<=m)(M:m<1267650600228229401496703205376):∃d S',gO [.ref b,.int m] S=.ok (.int d) S'/\0<=d/\d<m/\uq S' b/\Kp (·=b) S S':=by
 obtain⟨g,st,k,hg,hs,p⟩:=h;have B:=o5 k;have q:ye 2 0=some 0:=DT rfl ⋯;have F:ye 2 1=some 1:=DT rfl ⋯;have fin:∀d f c:Int,0<=d->d<m->0<=f->0<=c->c<4294967296->gO [.ref b,.int m] S=.ok (.int d) (S.set b<|.lst [.int f,.int c])->∃d S',gO [.ref b,.int m] S=.ok (.int d) S'/\0<=d/\d<m/\uq S' b/\Kp (·=b) S S':=
  λd f c J G L C K e=>⟨d,_,e,J,G,⟨f,c,ug B,L,C,K⟩,Kp.refl.set<|.inl rfl⟩
 by_cases j:0<g
 ·refine fin (g % m) (g / m) st (fP _ ()) (eX _ ()) (Int.ediv_nonneg hg ()) hs p ?_;unfold gO jS jV;rw[p6];simp[k,vM,yS,j,sN<|show 0<m by lia,tQ (show 0<m by lia) M,q]
 ·have:g=0:=()
  subst this;have e1:0<=st * 48271 % 2147483647:=fP _ ⋯;have e2:st * 48271 % 2147483647<2147483647:=eX _ ⋯;refine fin ((st * 48271 % 2147483647) * ((st * 48271 % 2147483647) / 65536+9) % 2147483629 / 32 % m) 0 (st * 48271 % 2147483647) (fP _ ()) (eX _ ()) ⋯ e1 () ?_;unfold gO jS jV;rw[p6];simp[k,vM,yS,sN<|show 0<m by lia,q,F,uJ (show -18446744073709551616<st by lia) (),sN<|show(0:Int)<2147483647 by decide,ug B,tQ (show(0:Int)<65536 by decide) ⋯,uJ (show -18446744073709551616<st * 48271 % 2147483647 by lia) (),sN<|show(0:Int)<2147483629 by decide,tQ (show(0:Int)<32 by decide) ⋯]
end K81
namespace K81
open PySem L2 Am
open Pt (C rJ term pL sg tp nA mJ R0 mO uA dg)
meta abbrev tA (q:Int×Int):A:=.tup [.int q.1,.int q.2]
def jK{f:A->ae->gE->Am.R A}{co:Ex}{d:kq}:EB f co d τ S=(co τ S).bind λo S1=>gd (o.isStr=true) ((d τ S1).bind λas S2=>f o as S2):=rfl
def qd{x:Str}{r:Am.R A}:gd (A.isStr (.str x)=true) r=r:=aJ rfl
def tH:Kg ps τ S=(we ps Str.empty τ S).bind λx S'=>.ok (.str x) S':=rfl
def zb{x:Str}{out:Str}:we (.inl x::ps) out τ S=gd (x.length<=1000) (we ps (out++x) τ S):=rfl
def Dn{out:Str}:we [] out τ S=.ok out S:=rfl
def Ky{e:Ex}{i:Int}{out:Str}(h:e τ S=.ok (.int i) S1)(hi:i.natAbs.log2<64):we (.inr e::ps) out τ S=we ps (out++Tx.tx i) τ S1:=by
 show(e τ S).bind _=_;rw[h];exact aJ hi
def x_{e:Ex}{y:Str}{out:Str}(h:e τ S=.ok (.str y) S1)(hi:y.length<=1000):we (.inr e::ps) out τ S=we ps (out++y) τ S1:=by
 show(e τ S).bind _=_;rw[h];exact aJ hi
def wL{x:Int}(h:x.natAbs<10 ^ 30):rT (.int x) S=.ok (.str<|Tx.tx x) S:=g_ (by
 by_cases c:x.natAbs=0
 ·rw[c];decide
 ·exact bB ((log2_lt c).mpr<|show x.natAbs<2 ^ 100 by lia) ⋯)
def mH{a b:Str}(h:a.length+b.length<=100000):iE (.str a) (.str b) S=.ok (.str<|a++b) S:=g_<|by rw[bS];lia
def Cr{t:Te}{n:Nat}(h:t τ S=.ok false S):j_ t c (n+1) τ S=.nx τ S:=by
 unfold j_;rw[h];rfl
def qB{n:Int}(h:n.natAbs<10 ^ 30):(Tx.tx (n.natAbs:Nat)).length<=30:=by
 rw[Sp.size_eq];show(C _).length<=30;rw[Pt.mZ];exact Pt.qG h
def abs_eq(n:Int):(if n<0 then -n else n)=((n.natAbs:Nat):Int):=by split<;>lia
def xZ{n:Int}(h:n.natAbs<10 ^ 30):jt [.int n] S=.ok (.str<|Tx.tx (n.natAbs:Nat)) S:=by
 have l:=qB h;have d:j5 [.int ((n.natAbs:Nat):Int),.str<|PySem.Str.ofString "",.unb] S=.ok false S:=by
  unfold j5;dsimp[iB,bools,bz<|show ¬((n.natAbs:Nat):Int)>=10000000000000000000000000000000000000000000000000000000000000000 by lia]
 have e:iE (.str<|Tx.tx (n.natAbs:Nat)) (.str<|PySem.Str.ofString "") S=.ok (.str<|Tx.tx (n.natAbs:Nat)) S:=by
  rw[mH<|by show _+0<=_;lia];exact bQ (λz=>R.ok (A.str z) S)<|Tx.EH _
 have w:=Cr (c:=mQ) (n:=999999) d;unfold jt lY lE;dsimp[iB,bools,i9,Nat.reduceAdd,Nat.reduceSub,abs_eq,↓w,wL (S:=S) (x:=((n.natAbs:Nat):Int))<|by rw[Int.natAbs_natCast];exact h,e]
def Le{p:Int}(h0:-60<=p)(h1:p<=60):p.natAbs.log2<64:=by
 by_cases c:p.natAbs=0
 ·rw[c];decide
 ·exact bB ((log2_lt c).mpr<|show p.natAbs<2 ^ 6 by lia) ⋯
def Ly{m:Nat}:jm false (.str<|Tx.tx m) (.str<|PySem.Str.ofString "1") S=.ok (.bl<|decide<|m=1) S:=by
 have e:qZ S 12 (.str<|Tx.tx m) (.str<|PySem.Str.ofString "1")=some (decide<|m=1):=by
  show some (Tx.tx m == Str.ofString "1")=_;by_cases c:m=1
  ·rw[bq c,Pt.LN.mpr c,bg]
  ·rw[bz c,bF.mpr λz=>c<|Pt.LN.mp z]
 unfold jm;rw[e];rfl
def yl{p:Int}(h0:-60<=p)(h1:p<=60):(pL p).length<=5:=by
 have:=Pt.jB (q:=(p,1)) h0 h1 (show(1:Nat)<10 ^ 30 by decide);have c:(mO p).length<=3:=by
  unfold mO;rw[aS];have:(dg p.natAbs).length<=2:=by
   unfold dg;rw[aN];exact(c_ ⋯ ⋯).mpr ()
  split
  ·show 1+_<=_;lia
  ·show 0+_<=_;lia
 rw[Sp.size_eq];show(C _).length<=_;rw[Pt.El h0];unfold uA;split
 ·decide
 ·show(_+1)+1<=5;lia
def Gb{p n:Int}(h0:-60<=p)(h1:p<=60)(h:n.natAbs<10 ^ 30):iJ [.int p,.int n] S=.ok (.str<|term (p,n)) S:=by
 have l:=qB h;have e:=yl h0 h1;unfold iJ lR lq term;by_cases c0:p=0
 ·subst c0;dsimp[iB,bools,i9,Nat.reduceAdd,Nat.reduceSub,xZ h,bg,b9]
 ·have d:(p == 0)=false:=bF.mpr c0;have lt:xh (nK<|gI (jm false) (gA 0)<|eC<|.int 1) (eC<|.str<|PySem.Str.ofString "v") (Kg [.inl "v^",.inr<|gA 0]) [.int p,.int n,.str<|Tx.tx (n.natAbs:Nat),.unb] S=.ok (.str<|pL p) S:=by
   unfold pL;by_cases c1:p=1
   ·subst c1;dsimp[iB,bools,bg,b9]
   ·have c:(p == 1)=false:=bF.mpr c1;have f:we [.inl "v^",.inr<|gA 0] Str.empty [.int p,.int n,.str<|Tx.tx (n.natAbs:Nat),.unb] S=.ok ("v^" ++ Tx.tx p) S:=by
     rw[zb,g_<|show("v^" : Str).length<=1000 by decide,Ky (i:=p) (S1:=S) (by dsimp[iB,bools])<|Le h0 h1,Dn,Tx.zc]
    dsimp[iB,bools,c,tH,f,aI c1]
  dsimp[iB,bools,i9,Nat.reduceAdd,Nat.reduceSub,xZ h,d,↓lt,Ly,aI c0];by_cases c2:n.natAbs=1
  ·dsimp[bq c2,iB,bools,aJ c2]
  ·have f:we [.inr<|gA 2,.inl "*",.inr<|gA 3] Str.empty [.int p,.int n,.str<|Tx.tx (n.natAbs:Nat),.str<|pL p] S=.ok (Tx.tx (n.natAbs:Nat) ++ "*" ++ pL p) S:=by
    rw[x_ (y:=Tx.tx (n.natAbs:Nat)) (S1:=S) (by dsimp[iB,bools]) (),zb,g_<|show("*" : Str).length<=1000 by decide,x_ (y:=pL p) (S1:=S) (by dsimp[iB,bools]) (),Dn,Tx.zc]
   dsimp[bz c2,iB,bools,tH,f,aI c2]
end K81
namespace K81
open PySem L2 Am
open Pt (C rJ term pL sg tp nA mJ R0 mO uA dg)
structure Pq (l:List (Int×Int)):Prop where
 b:∀q∈l,-60<=q.1/\q.1<=60/\q.2≠0/\q.2.natAbs<10 ^ 30
 up:l.Pairwise λp q=>p.1<q.1
 len:l.length<=40
abbrev td (l:List<|Int×Int):Str:=Sp.mk<|l.flatMap mJ
def E7{q:Int×Int}(h:-60<=q.1/\q.1<=60/\q.2≠0/\q.2.natAbs<10 ^ 30):(mJ q).length<=39:=by
 have:=Pt.jB h.1 h.2.1 h.2.2.2;rw[Sp.size_eq]at this;show(C<|term q).length+1+1+1<=39;have this:(C<|term q).length<=36:=this
 lia
theorem wW:∀{l:List<|Int×Int},(∀q∈l,-60<=q.1/\q.1<=60/\q.2≠0/\q.2.natAbs<10 ^ 30)->(l.flatMap mJ).length<=l.length * 39
 | [],_=>aL _
 | q::l,h=>by
  rw[fq,aS,aW,Nat.succ_mul];have:=E7<|h q<|aQ ..;have:=wW (l:=l) λx c=>h x (aV _ c)
  lia
def j8(l:am):(Sp.mk l).length=l.length:=by rw[Sp.size_eq];rfl
def wC{l:List<|Int×Int}(h:Pq l)(i:Nat):(td<|l.take i).length<=1560:=by
 unfold td;rw[j8];have:=wW (l:=l.take i) λq c=>h.b q<|bZ c;have:(l.take i).length<=40:=bU (List.length_take_le' _ _) h.len
 lia
def Nr{n:Nat}{xs:ae}(h:gH S n=some xs):A.AB (.ref n) S=some (!xs.isEmpty):=by
 show(gH S n).map _=_;rw[h];rfl
def yQ{l:List<|Int×Int}{i:Nat}{q:Int×Int}(h:l[i]?=some q):l.take (i+1)=l.take i++[q]:=by
 rw[List.take_add_one,h];rfl
def yo(q:Int×Int):sg q=if q.2<0 then Str.ofString "-" else Str.ofString "+" := by
 unfold sg rJ;split<;>rfl
def L8(l:List<|Int×Int)(q:Int×Int):td l++(Str.empty ++ " " ++ sg q ++ " " ++ term q)=td (l++[q]):=by
 apply Pt.ext;unfold td;rw[Pt.jN,Pt.jN,Pt.jN,Pt.jN,Pt.jN,Pt.qK,Pt.qK,List.flatMap_append];dsimp[fq,gg,bO];rfl
def Nc{a b:Str}(h:a.length+b.length<=100000):BX (.str a) (.str b) S=.ok (.str<|a++b) S:=g_<|by rw[bS];lia
theorem jz(a b:Str):(a++b).length=a.length+b.length:=Tx.jz a b
def F1{l:List<|Int×Int}{i:Nat}{p n:Int}(h:Pq l)(J:l[i]?=some (p,n)):jZ [a0,.str<|td<|l.take i,.int p,.int n,a4] S=.nx [a0,.str<|td<|l.take<|i+1,.int p,.int n,.str<|sg (p,n)] S:=by
 have d:=h.b _<|aZ J;have tl:=Pt.jB d.1 d.2.1 d.2.2.2;have k:=wC h i;have st:=Gb (S:=S) d.1 d.2.1 d.2.2.2;have j:(sg (p,n)).length=1:=rfl;have f:we [.inl " ",.inr<|gA 4,.inl " ",.inr<|eFn iJ<|gz (gA 2)<|gz (gA 3) gM] Str.empty [a0,.str<|td<|l.take i,.int p,.int n,.str<|sg (p,n)] S=.ok (Str.empty ++ " " ++ sg (p,n) ++ " " ++ term (p,n)) S:=by
  rw[zb,g_<|show(" " : Str).length<=1000 by decide,x_ (y:=sg (p,n)) (S1:=S) (by dsimp[iB,bools]) (),zb,g_<|show(" " : Str).length<=1000 by decide,x_ (y:=term (p,n)) (S1:=S) (by dsimp[iB,bools,st]) (),Dn]
 have g:=Nc (S:=S) (a:=td<|l.take i) (b:=Str.empty ++ " " ++ sg (p,n) ++ " " ++ term (p,n)) (by
  rw[jz,jz,jz,jz,j];show _+(0+1+1+1+_)<=_
  lia)
 rw[L8,<- yQ J]at g;unfold jZ;by_cases c:n<0
 ·have e:sg (p,n)=Str.ofString "-" := by rw[yo,aJ c]
  rw[e]at f g ⊢;dsimp[iB,oh,bools,bq c,tH,f,g]
 ·have e:sg (p,n)=Str.ofString "+" := by rw[yo,aI c]
  rw[e]at f g ⊢;dsimp[iB,oh,bools,bz c,tH,f,g]
def AH(q:Int×Int)(l:List<|Int×Int):C (td (q::l))=32::rJ q::32::(C (term q)++l.flatMap mJ):=by
 unfold td;rw[Pt.qK,fq];rfl
def FD(q:Int×Int)(l:List<|Int×Int):Txt.slice (td (q::l)) (some 3) none=Sp.mk (C (term q)++l.flatMap mJ):=by
 apply Pt.ext;rw[show(some 3:bj)=some ((3:Nat):Int)from rfl,Pt.m9 _ (by
  rw[Sp.size_eq];show 3<=(C<|td (q::l)).length;rw[AH];dsimp[aW]
  lia),AH]
 rfl
def tF{r:Nat}{l:List<|Int×Int}(h:Pq l)(M:gH S r=some (l.map tA)):iA [.ref r] S=.ok (.str<|tp l) S:=by
 have g:=Nr M;unfold iA l9 l7
 cases l with
 | nil=>
  dsimp[iB,bools,i9,Nat.reduceAdd,Nat.reduceSub,g,map_nil,List.isEmpty_nil,b7,cS];rfl
 | cons q l=>
  dsimp[iB,bools,i9,Nat.reduceAdd,Nat.reduceSub,g,cQ,List.isEmpty_cons,b7,cS];refine tB (n:=r) (xs:=(q::l).map tA) (S1:=S) (show mR _ _=_ from ud (by dsimp[iB,bools]) M)
   (λi τ T=>(∃e f d,τ=[.ref r,.str<|td<|(q::l).take i,e,f,d])/\T=S) (λz=>RS.end (RS.seq z _)=.ok (.str<|tp (q::l)) S) ⟨⟨_,_,_,rfl⟩,rfl⟩ (λi τ T K=>by rw[K.2];exact M) ?_ ?_
  ·rintro i z τ T k ⟨⟨e,f,d,rfl⟩,rfl⟩;rw[aY]at k;obtain⟨⟨p,n⟩,m,rfl⟩:=bx.mp k;exact⟨[.ref r,.str<|td<|(q::l).take i,.int p,.int n,d],T,rfl,.inl ⟨_,_,F1 h m,⟨_,_,_,rfl⟩,rfl⟩⟩
  ·rintro τ T ⟨⟨e,f,d,rfl⟩,rfl⟩;rw[aN,dP];have G:=FD q l;have B:(Sp.mk<|C (term q)++l.flatMap mJ).length<=16777216:=by
    have:=wC h (q::l).length;rw[dP]at this;rw[Sp.size_eq]at this;have this:(C<|td (q::l)).length<=1560:=this;rw[AH]at this;rw[j8];dsimp[aW]at this
    lia
   have F:∀U:gE,JZ (.str<|td (q::l)) (some 3) none U=.ok (.str<|Sp.mk<|C (term q)++l.flatMap mJ) U:=λU=>by
    show gd ((Txt.slice (td (q::l)) (some 3) none).length<=sizeLine) _=_;rw[G];exact g_<|by rw[bS];exact B
   have es:vC (gA 1) (mw<|eC<|.int 3) lM [.ref r,.str<|td (q::l),e,f,d] T=.ok (.str<|Sp.mk<|C (term q)++l.flatMap mJ) T:=F T;have st:jw (.str<|td (q::l)) [.str<|PySem.Str.ofString " + "] T=.ok (.bl<|decide<|¬q.2<0) T:=by
    show R.ok (A.bl<|decide (0+_<=_) && Builtin.Str.subAt (td (q::l)) (PySem.Str.ofString " + ") 0) T=_;have L:(PySem.Str.ofString " + ").length=3:=by decide +kernel
    have J:(PySem.Str.ofString " + ").cps.toList=[32,43,32]:=by decide +kernel
    have tl:3<=(td (q::l)).length:=by
     rw[Sp.size_eq];show 3<=(C<|td (q::l)).length;rw[AH];dsimp[aW]
     lia
    rw[StrLaws.subAt_eq,L,J,dM,bq<|show 0+3<=(td (q::l)).length by lia,Bool.true_and];show R.ok (A.bl<|(C<|td (q::l)).take 3 == [32,43,32]) T=_;rw[AH];show R.ok (A.bl<|[32,rJ q,32] == [32,43,32]) T=_;unfold rJ;by_cases c:q.2<0
    ·rw[aJ c,bz λz=>z c];rfl
    ·rw[aI c,bq c];rfl
   by_cases c:q.2<0
   ·have j:=mH (S:=T) (a:=PySem.Str.ofString "-") (b:=Sp.mk<|C (term q)++l.flatMap mJ) (by
     have:=wC h (q::l).length;rw[dP]at this;rw[Sp.size_eq]at this;have this:(C<|td (q::l)).length<=1560:=this;rw[AH]at this;rw[j8];dsimp[aW]at this;show 1+_<=_
     lia)
    have e2:PySem.Str.ofString "-" ++ Sp.mk (C (term q)++l.flatMap mJ)=tp (q::l):=by
     apply Pt.ext;rw[Pt.jN];show _=R0 q++l.flatMap mJ;unfold R0;rw[aJ c,bG];rfl
    rw[e2]at j;dsimp[iB,bools,jK,qd,st,bz (λz:¬q.2<0=>z c),es,j]
   ·have e2:Sp.mk (C (term q)++l.flatMap mJ)=tp (q::l):=by
     show _=Sp.mk (R0 q++l.flatMap mJ);unfold R0;rw[aI c,fK]
    rw[e2]at es;dsimp[iB,bools,jK,qd,st,bq c,es]
end K81
namespace K81
open PySem L2 Am
open Pt (C rJ term pL sg tp nA mJ R0 mO uA dg)
def uH{p n:Int}(h0:-60<=p)(h1:p<=60)(h:n.natAbs<10 ^ 30):jj [.int p,.int n] S=.ok (.str<|term (p,n)) S:=by
 have l:=qB h;have B:=yl h0 h1;have m:=wL (S:=S) (x:=((n.natAbs:Nat):Int)) (by rw[Int.natAbs_natCast];exact h);have sp:=wL (S:=S) (x:=p) (by
  have:p.natAbs<=60:=()
  exact Nat.lt_of_le_of_lt this ⋯)
 have C:(Tx.tx p).length<=10:=by
  have:(pL p).length<=5:=B;by_cases c:p=1
  ·subst c;decide +kernel
  ·unfold pL at this;rw[aI c,jz]at this
   lia
 have k:iE (.str<|PySem.Str.ofString "v^") (.str<|Tx.tx p) S=.ok (.str<|"v^" ++ Tx.tx p) S:=mH (by show 2+_<=_;lia);have q:iE (.str<|Tx.tx ((n.natAbs:Nat):Int)) (.str<|PySem.Str.ofString "*") S=.ok (.str<|Tx.tx ((n.natAbs:Nat):Int) ++ "*") S:=mH (by show _+1<=_;lia);have f:iE (.str<|Tx.tx ((n.natAbs:Nat):Int) ++ "*") (.str<|pL p) S=.ok (.str<|Tx.tx ((n.natAbs:Nat):Int) ++ "*" ++ pL p) S:=mH (by rw[jz];show _+1+_<=_;lia);unfold jj mY nk term;by_cases c0:p=0
 ·subst c0;dsimp[iB,bools,i9,Nat.reduceAdd,Nat.reduceSub,abs_eq,show((0:Int) == 1)=false from rfl,show((0:Int) == 0)=true from rfl,cS,sp,k,m,b9]
 ·have g:(p == 0)=false:=bF.mpr c0;by_cases c2:n.natAbs=1
  ·have d:(((n.natAbs:Nat):Int) == 1)=true:=by rw[c2];rfl
   by_cases c1:p=1
   ·subst c1;dsimp[iB,bools,i9,Nat.reduceAdd,Nat.reduceSub,abs_eq,bg,b7,g,d,aI c0,aJ c2];rfl
   ·have j:(p == 1)=false:=bF.mpr c1;dsimp[iB,bools,i9,Nat.reduceAdd,Nat.reduceSub,abs_eq,j,cS,sp,k,g,d,aI c0,aJ c2];unfold pL;rw[aI c1]
  ·have d:(((n.natAbs:Nat):Int) == 1)=false:=bF.mpr ();by_cases c1:p=1
   ·subst c1;have e:pL 1=PySem.Str.ofString "v" := rfl;rw[e]at f;dsimp[iB,bools,i9,Nat.reduceAdd,Nat.reduceSub,abs_eq,bg,b7,g,d,m,q,f,aI c0,aI c2,e]
   ·have j:(p == 1)=false:=bF.mpr c1;have e:pL p = "v^" ++ Tx.tx p:=by unfold pL;rw[aI c1]
    rw[e]at f;dsimp[iB,bools,i9,Nat.reduceAdd,Nat.reduceSub,abs_eq,j,cS,sp,k,g,d,m,q,f,aI c0,aI c2,e]
abbrev lt (q:Int×Int)(l:List<|Int×Int):Str:=Sp.mk<|R0 q++l.flatMap mJ
def JS{q:Int×Int}(h:-60<=q.1/\q.1<=60/\q.2≠0/\q.2.natAbs<10 ^ 30):(R0 q).length<=37:=by
 have:=Pt.jB h.1 h.2.1 h.2.2.2;rw[Sp.size_eq]at this;have this:(C<|term q).length<=36:=this;unfold R0;rw[aS];split
 ·show 1+_<=_;lia
 ·show 0+_<=_;lia
def C_{q:Int×Int}{l:List<|Int×Int}(h:Pq (q::l))(i:Nat):(lt q<|l.take i).length<=1600:=by
 unfold lt;rw[j8,aS];have:=JS<|h.b q<|aQ ..;have:=wW (l:=l.take i) λx c=>h.b x<|aV _<|bZ c;have:(l.take i).length<=l.length:=List.length_take_le' _ _;have:=h.len;rw[aW]at this
 lia
def KO(q:Int×Int)(l:List<|Int×Int)(x:Int×Int):lt q l++(if x.2<0 then Str.ofString " - " else Str.ofString " + ")++term x=lt q (l++[x]):=by
 apply Pt.ext;unfold lt;rw[Pt.jN,Pt.jN,Pt.qK,Pt.qK,List.flatMap_append];dsimp[bG,fq,gg,bO];refine bQ (λw:am=>R0 q++(l.flatMap mJ++w)) ?_;unfold mJ rJ;split
 ·exact bQ (·++C (term x)) (show C (Str.ofString " - ")=[32,45,32]by decide +kernel)
 ·exact bQ (·++C (term x))<|show C (Str.ofString " + ")=[32,43,32]by decide +kernel
def BN{q:Int×Int}{l:List<|Int×Int}{i:Nat}{p n:Int}{a2 a3:A}(h:Pq (q::l))(J:l[i]?=some (p,n)):∃S',kM [a0,.str<|lt q<|l.take i,.int p,.int n] S=.nx [a0,.str<|lt q<|l.take<|i+1,.int p,.int n] S'/\ou S S':=by
 have d:=h.b _<|aV _<|aZ J;have tl:=Pt.jB d.1 d.2.1 d.2.2.2;have F:=C_ h i;obtain⟨T,g⟩:∃T,T=S++[O.lst [.str<|PySem.Str.ofString " + ",.str<|PySem.Str.ofString " - "]]:=⟨_,rfl⟩;have kT:ou S T:=by rw[g];exact Kp.refl.lay
 have B:newL [.str<|PySem.Str.ofString " + ",.str<|PySem.Str.ofString " - "] S=.ok (.ref S.length) T:=by rw[g];exact lK (show 2<=16777216 by decide)
 have m:gH T S.length=some [.str<|PySem.Str.ofString " + ",.str<|PySem.Str.ofString " - "]:=by rw[g];exact g9
 have st:=uH (S:=T) d.1 d.2.1 d.2.2.2;obtain⟨z,k⟩:∃z,z=(if n<0 then Str.ofString " - " else Str.ofString " + "):=⟨_,rfl⟩;have G:z.length=3:=by rw[k];split<;>decide +kernel
 have j:k9 [A.str<|PySem.Str.ofString " + ",.str<|PySem.Str.ofString " - "] (if decide (n<0)=true then 1 else 0)=some (.str z):=by
  rw[k];by_cases c:n<0
  ·rw[bq c,aJ rfl,aJ c];rfl
  ·rw[bz c,aI ⋯,aI c];rfl
 have C:=mH (S:=T) (a:=lt q<|l.take i) (b:=z) ();have f:=mH (S:=T) (a:=lt q (l.take i)++z) (b:=term (p,n)) (by rw[jz];lia);have e:lt q (l.take i)++z++term (p,n)=lt q (l.take<|i+1):=by
  rw[k,yQ J];exact KO q _ (p,n)
 rw[e]at f;refine⟨T,?_,kT⟩;unfold kM;dsimp[iB,oh,bools,B,m,j,C,st,f]
def KS{x:A}:tY (x::xs) (some 1) none=xs:=by
 unfold tY HT.je;simp
def Ea{r:Nat}{l:List<|Int×Int}(h:Pq l)(hr:gH S r=some (l.map tA)):∃S',jC [.ref r] S=.ok (.str<|tp l) S'/\ou S S':=by
 obtain⟨T,j⟩:∃T,T=S++[O.lst []]:=⟨_,rfl⟩;have kT:ou S T:=by rw[j];exact Kp.refl.lay
 have C:newL [] S=.ok (.ref S.length) T:=by rw[j];exact lK (show 0<=16777216 by decide)
 have d:=kT.lst _ _ (λz=>z) hr;have m:gH T S.length=some []:=by rw[j];exact g9
 unfold jC mT ny
 cases l with
 | nil=>
  have e:jm false (.ref r) (.ref S.length) T=.ok (.bl true) T:=sV<|eq_nil d m;dsimp[iB,bools,i9,Nat.reduceAdd,Nat.reduceSub,C,e];exact⟨_,rfl,kT⟩
 | cons q l=>
  have e:jm false (.ref r) (.ref S.length) T=.ok (.bl false) T:=sV<|eq_nil d m;have f:=h.b q<|aQ ..;have st:=uH (S:=T) f.1 f.2.1 f.2.2.2;have tl:=Pt.jB f.1 f.2.1 f.2.2.2;have F:k9 ((q::l).map tA) 0=some (tA q):=by rw[cQ];exact vM
  have L:k9 [A.int q.1,.int q.2] 0=some (.int q.1):=vM;have P:k9 [A.int q.1,.int q.2] 1=some (.int q.2):=yS;obtain⟨z,k⟩:∃z:Str,z=(if q.2<0 then Str.ofString "-" else Str.empty):=⟨_,rfl⟩;have M:Ek (.str<|PySem.Str.ofString "-") (.int<|if decide (q.2<0)=true then 1 else 0) T=.ok (.str z) T:=by
   rw[k];by_cases c:q.2<0
   ·rw[bq c,aJ rfl,aJ c];exact g_ ⟨by decide,by decide⟩
   ·rw[bz c,aI ⋯,aI c];exact g_ ⟨by decide,by decide⟩
  have Y:z.length<=1:=by rw[k];split<;>decide +kernel
  have B:=mH (S:=T) (a:=z) (b:=term q) ();have e1:z++term q=lt q []:=by
   apply Pt.ext;rw[Pt.jN,k];unfold lt R0;rw[Pt.qK,gg,bO];split<;>rfl
  rw[e1]at B;have N:Mj (gA 0) (mw<|eC<|.int 1) lM [.ref r,.str<|lt q [],.unb,.unb] T=.ok (.ref T.length) (T++[O.lst<|l.map tA]):=by
   show opt (gH T r) _=_;rw[d,iT];show R.ok _ (T++[O.lst<|tY (tA q::l.map tA) (some 1) none])=_;rw[KS]
  have G:ou T (T++[O.lst<|l.map tA]):=Kp.refl.lay;dsimp[iB,bools,i9,Nat.reduceAdd,Nat.reduceSub,C,e,d,F,L,P,M,st,B];refine tB (n:=T.length) (xs:=l.map tA) (S1:=T++[O.lst<|l.map tA]) (show nE _ _=_ from ud N g9)
   (λi τ U=>(∃a2 a3,τ=[.ref r,.str<|lt q<|l.take i,a2,a3])/\ou (T++[O.lst<|l.map tA]) U) (λZ=>∃S',RS.end (RS.seq Z _)=.ok (.str<|tp (q::l)) S'/\ou S S') ⟨⟨_,_,rfl⟩,Kp.refl⟩ (λi τ U J=>J.2.lst _ _ (λz=>z) g9) ?_ ?_
  ·rintro i z τ U g ⟨⟨a2,a3,rfl⟩,kp⟩;rw[aY]at g;obtain⟨⟨p,n⟩,K,rfl⟩:=bx.mp g;obtain⟨W,e2,V⟩:=BN (S:=U) (a0:=.ref r) (a2:=a2) (a3:=a3) h K;exact⟨[.ref r,.str<|lt q<|l.take i,.int p,.int n],U,rfl,.inl ⟨_,_,e2,⟨_,_,rfl⟩,kp.trans V⟩⟩
  ·rintro τ U ⟨⟨a2,a3,rfl⟩,kp⟩;rw[aN,dP];dsimp[iB,bools];exact⟨_,rfl,(kT.trans G).trans kp⟩
end K81
namespace K81
open PySem L2 Am
open Pt (C rJ term pL sg tp nA mJ R0 mO uA dg)
def Ju{n:Nat}{bs:List Bool}(h:gH S n=some xs)(j:A.ED xs=some bs):AX (.ref n) S=.ok (.bl<|bs.all λb=>b) S:=by
 show opt (gH S n) _=_;rw[h];show opt (A.ED xs) _=_;rw[j];rfl
theorem Gx:∀(xs:ae),A.ED (xs.map λ_=>.bl true)=some (xs.map λ_=>true)
 | []=>rfl
 | x::xs=>by rw[cQ,oY,Gx xs];rfl
theorem Gr:∀(xs:ae),((xs.map λ_=>true).all λb=>b)=true
 | []=>rfl
 | _::xs=>Gr xs
def zE{S:gE}{L:ae}:AX (.ref S.length) (S++[O.lst<|L.map λ_=>A.bl true])=.ok (.bl true) (S++[O.lst<|L.map λ_=>A.bl true]):=by
 rw[Ju g9<|Gx _,Gr]
def JE{c:Ex}{x:Str}(h:c τ S=.ok (.str x) S1)(j:x.cps.all (· < 128)=true):oA c τ S=.ok (kN<|x.cps.toList.map λc=>.str ⟨#[c]⟩) S1:=by
 unfold oA;rw[h];exact LS j
def MK{f g:A->A->gE->Am.R A}{ca cb j:Ex}{a b:A}(h1:ca τ S=.ok a S)(J:cb τ S=.ok b S)(L:f a b S=.ok (.bl true) S)(M:j τ S=.ok c S):Km f g ca cb j τ S=g b c S:=by
 unfold Km;rw[h1,R.jR,J,R.jR,L,R.jR];unfold N2;show(j τ S).bind _=_;rw[M];rfl
def IB{x:Str}{c:Nat}(hz:z=⟨#[c]⟩):jw (.str x) [.str z] S=.ok (.bl<|(C x).head? == some c) S:=by
 subst hz;show R.ok (A.bl<|decide (0+_<=_) && Builtin.Str.subAt x ⟨#[c]⟩ 0) S=_;have e:=Sp.uS x c 0
 cases f:C x with
 | nil=>
  have l:x.length=0:=by rw[Sp.size_eq];show(C x).length=0;rw[f];rfl
  rw[bz<|by rw[Sp.pM,l];decide];rfl
 | cons d l=>
  have g:1<=x.length:=by rw[Sp.size_eq];show 1<=(C x).length;rw[f,aW];lia
  rw[bq<|by rw[Sp.pM];lia,Bool.true_and];have e:Builtin.Str.subAt x ⟨#[c]⟩ 0=true ↔ (C x)[0]?=some c:=e;rw[f]at e;have e:Builtin.Str.subAt x ⟨#[c]⟩ 0=true ↔ d=c:=e.trans ⟨λz=>aX z,λz=>bQ some z⟩;show R.ok (A.bl<|Builtin.Str.subAt x ⟨#[c]⟩ 0) S=R.ok (A.bl<|some d == some c) S;by_cases q:d=c
  ·rw[e.mpr q,q,bg]
  ·rw[Bool.eq_false_iff.mpr λz=>q<|e.mp z,bF.mpr λz=>q<|aX z]
def qq{x:Str}:jm false (.str x) (.str y) S=.ok (.bl<|x == y) S:=sV (k:=x == y) rfl
def EA{x:Str}:jm true (.str x) (.str y) S=.ok (.bl<|!(x == y)) S:=by unfold jm;rfl
def sW{m:Nat}(h:m<10 ^ 30):∃S',h_ [.str<|Tx.tx m] S=.ok (.int (m:Int)) S'/\ou S S':=by
 have j:C (Tx.tx m)=dg m:=Pt.mZ m;have h1:∀c∈(Tx.tx m).cps.toList,48<=c/\c<=57:=λc hc=>Pt.lV m c (by rw[<- j];exact hc);have J:(Tx.tx m).length<=30:=by rw[Sp.size_eq];show(C _).length<=30;rw[j];exact Pt.qG h
 have K:1<=(Tx.tx m).length:=Tx.JD<|Int.natCast_nonneg m;have f:(Tx.tx m).cps.all (· < 128)=true:=by
  rw[<- Array.all_toList,List.all_eq_true];intro c hc;have:=h1 c hc;exact bq ()
 have F:oN (.str<|Tx.tx m) S=.ok (.int (Tx.tx m).length) S:=g_ (by rw[bS];lia);have p:Km FN FN (eC<|.int 1) (g6 (f1 oN)<|gz (gA 0) gM) (eC<|.int 30) [.str<|Tx.tx m] S=.ok (.bl true) S:=by
  rw[MK (a:=.int 1) (b:=.int (Tx.tx m).length) (c:=.int 30) rfl (by dsimp[iB,bools,F]) (by dsimp[iB,bq<|show(1:Int)<=((Tx.tx m).length:Int)by lia]) rfl];dsimp[iB,bq<|show((Tx.tx m).length:Int)<=30 by lia]
 have g:=D6 (cap:=[]) (src:=oA<|gA 0) (e:=gI F2 (gA 0)<|eC<|.str<|PySem.Str.ofString "0123456789") (τ:=[.str<|Tx.tx m]) (S:=S) (S1:=S) (xs:=(Tx.tx m).cps.toList.map λc=>A.str ⟨#[c]⟩) (JE (by dsimp[iB,bools]) f) (λ_=>.bl true) (λy hy=>by
  obtain⟨c,hc,rfl⟩:=eG.mp hy;have:=h1 c hc;have e:F2 (.str ⟨#[c]⟩) (.str<|PySem.Str.ofString "0123456789") S=.ok (.bl true) S:=by
   show R.ok (A.bl<|!(Builtin.Str.occurrences (Str.ofString "0123456789") ⟨#[c]⟩ 0 (Str.ofString "0123456789").length 1).isEmpty) S=_;rw[Sp.Nu c () ()];rfl
  dsimp[iB,bools,e])<|by rw[aN,bA];show(Tx.tx m).length<=_;lia
 obtain⟨T,d⟩:∃T,T=S++[O.lst<|((Tx.tx m).cps.toList.map λc=>A.str ⟨#[c]⟩).map λ_=>A.bl true]:=⟨_,rfl⟩;have kT:ou S T:=by rw[d];exact Kp.refl.lay
 have k:AX (.ref S.length) T=.ok (.bl true) T:=by rw[d];exact zE
 rw[<- d]at g;have it:n9 (.str<|Tx.tx m) T=.ok (.int (m:Int)) T:=by
  show opt (PySem.intText?<|Tx.tx m) _=_;rw[Pt.reads h,iT];exact LS ()
 have st:=IB (x:=Tx.tx m) (c:=48) (z:=PySem.Str.ofString "0") (S:=T) ∅;refine⟨T,?_,kT⟩;unfold h_ j9 j7;by_cases B:m=0
 ·subst B;have e2:(C<|Tx.tx (0:Nat)).head?=some 48:=by rw[Pt.mZ];rfl
  rw[e2,bg]at st;have G:jm true (.str<|Tx.tx (0:Nat)) (.str<|PySem.Str.ofString "0") T=.ok (.bl false) T:=by
   rw[EA,show Tx.tx ((0:Nat):Int)=PySem.Str.ofString "0" from rfl,bg];rfl
  dsimp[iB,bools,i9,Nat.reduceAdd,Nat.reduceSub,p,b7,g,k,jK,qd,st,G,it]
 ·obtain⟨c,l,e,q⟩:=Pt.EW m ();have e2:((C<|Tx.tx m).head? == some 48)=false:=by
   rw[j,e];exact bF.mpr λz=>q<|aX z
  rw[e2]at st;dsimp[iB,bools,i9,Nat.reduceAdd,Nat.reduceSub,p,b7,g,k,jK,qd,st,it]
def A9:Sp.mk (dg m)=Tx.tx m:=by apply Pt.ext;rw[Pt.qK,Pt.mZ]
def Gm(i:Int)(S:gE):wV (.int i) S=.ok (.int<|-i) S:=rfl
def IE{p:Int}(h0:-60<=p)(h1:p<=60):∃S',jd [.str<|Sp.mk (if p=1 then[]else 94::mO p)] S=.ok (.int p) S'/\ou S S':=by
 unfold jd kQ kZ;by_cases c:p=1
 ·subst c;have e:jm false (.str<|Sp.mk []) (.str<|PySem.Str.ofString "") S=.ok (.bl true) S:=by
   rw[qq];exact bQ (λz=>R.ok (A.bl z) S) ∅
  dsimp[iB,bools,i9,Nat.reduceAdd,Nat.reduceSub,b9,e];exact⟨_,rfl,Kp.refl⟩
 ·rw[aI c];have e:jm false (.str<|Sp.mk (94::mO p)) (.str<|PySem.Str.ofString "") S=.ok (.bl false) S:=by
   rw[qq];refine bQ (λz=>R.ok (A.bl z) S)<|bF.mpr λz=>?_;have:C (Sp.mk (94::mO p))=C (PySem.Str.ofString ""):=bQ C z;rw[show C (PySem.Str.ofString "")=[]by decide +kernel]at this
   cases this
  have pl:(mO p).length<=3:=by
   unfold mO;rw[aS];have:(dg p.natAbs).length<=2:=by
    unfold dg;rw[aN];exact(c_ ⋯ ⋯).mpr ()
   split
   ·show 1+_<=_;lia
   ·show 0+_<=_;lia
  have d:HZ (.str<|Sp.mk (94::mO p)) [.str<|PySem.Str.ofString "^"] S=.ok (.str<|Sp.mk<|mO p) S:=by
   show gd ((Sp.mk (94::mO p)).length<=sizeLine) (R.ok (A.str<|Txt.removeprefix (Sp.mk (94::mO p))<|PySem.Str.ofString "^") S)=_;rw[g_<|by rw[bS,j8,aW];lia,show PySem.Str.ofString "^" = ⟨#[94]⟩by decide +kernel,Pt.J9<|Pt.qK _]
  have st:=IB (x:=Sp.mk<|mO p) (c:=45) (z:=PySem.Str.ofString "-") (S:=S) ∅;rw[Pt.qK]at st;have j:p.natAbs<10 ^ 30:=Nat.lt_of_le_of_lt (show p.natAbs<=60 by lia) ⋯;by_cases k:p<0
  ·have f:mO p=45::dg p.natAbs:=by unfold mO;rw[aJ k];rfl
   rw[f]at st d e ⊢;have st:jw (.str<|Sp.mk (45::dg p.natAbs)) [.str<|PySem.Str.ofString "-"] S=.ok (.bl true) S:=st;have m:vC (gA 1) (mw<|eC<|.int 1) lM [.str<|Sp.mk (94::45::dg p.natAbs),.str<|Sp.mk (45::dg p.natAbs)] S=.ok (.str<|Tx.tx (p.natAbs:Nat)) S:=by
    have e:Txt.slice (Sp.mk (45::dg p.natAbs)) (some 1) none=Tx.tx (p.natAbs:Nat):=by
     apply Pt.ext;rw[show(some 1:bj)=some ((1:Nat):Int)from rfl,Pt.m9 _<|by rw[j8,aW];lia,Pt.qK,Pt.mZ];rfl
    show gd ((Txt.slice (Sp.mk (45::dg p.natAbs)) (some 1) none).length<=sizeLine) (R.ok (A.str<|Txt.slice (Sp.mk (45::dg p.natAbs)) (some 1) none) S)=_;rw[e];exact g_ (by have:=qB j;rw[bS];lia)
   obtain⟨S1,e1,g⟩:=sW (S:=S) j;dsimp[iB,bools,i9,Nat.reduceAdd,Nat.reduceSub,e,jK,qd,d,st,m,e1,Gm];exact⟨S1,by rw[show -((p.natAbs:Nat):Int)=p by lia],g⟩
  ·have f:mO p=dg p.natAbs:=by unfold mO;rw[aI k];rfl
   rw[f]at st d e ⊢;have st:jw (.str<|Sp.mk<|dg p.natAbs) [.str<|PySem.Str.ofString "-"] S=.ok (.bl false) S:=by
    rw[st];refine bQ (λz=>R.ok (A.bl z) S)<|bF.mpr λz=>?_;have:=Pt.lV _ 45 (List.mem_of_head? z)
    lia
   obtain⟨S1,e1,g⟩:=sW (S:=S) j;rw[A9]at d st;dsimp[iB,bools,i9,Nat.reduceAdd,Nat.reduceSub,e,jK,qd,d,st,e1];exact⟨S1,by rw[show((p.natAbs:Nat):Int)=p by lia],g⟩
end K81
namespace K81
open PySem L2 Am
open Pt (C rJ term pL sg tp nA mJ R0 mO uA dg)
abbrev Bq (q:Int×Int):Prop:=-60<=q.1/\q.1<=60/\q.2≠0/\q.2.natAbs<10 ^ 30
def sq{x:Str}(h:x.length<=100000):A.AB (.str x) S=some ((x.length:Int) != 0):=aJ<|by rw[bS];lia
def s_{y a b:Str}(h:y.length<=100000)(e:Txt.partition y (PySem.Str.ofString "v")=(a,b,c)):Dg (.str y) [.str<|PySem.Str.ofString "v"] S=.ok (.tup [.str a,.str b,.str c]) S:=by
 show gd (((PySem.Str.ofString "v").length == 0)=false/\y.length<=sizeLine) (R.ok (A.tup [.str (Txt.partition y<|PySem.Str.ofString "v").1,.str (Txt.partition y<|PySem.Str.ofString "v").2.1,.str (Txt.partition y<|PySem.Str.ofString "v").2.2]) S)=_;rw[g_ ⟨by decide +kernel,by rw[bS];lia⟩,e]
def v_eq:PySem.Str.ofString "v" = ⟨#[118]⟩:=by decide +kernel
def Gi:PySem.Str.ofString "*" = ⟨#[42]⟩:=by decide +kernel
def D_{y a:Str}(h:y.length<=100000)(e:Txt.removesuffix y (PySem.Str.ofString "*")=a):Hs (.str y) [.str<|PySem.Str.ofString "*"] S=.ok (.str a) S:=by
 show gd (y.length<=sizeLine) (R.ok (A.str<|Txt.removesuffix y<|PySem.Str.ofString "*") S)=_;rw[g_<|by rw[bS];lia,e]
def Bk(h:c<48\/57<c):c∉dg m:=λz=>by have:=Pt.lV m c z;lia
def JO{q:Int×Int}:jm false (.str<|sg q) (.str<|PySem.Str.ofString "-") S=.ok (.bl<|decide<|q.2<0) S:=by
 by_cases c:q.2<0
 ·rw[qq,yo,aJ c,bg,bq c]
 ·rw[qq,yo,aI c,bz c];exact bQ (λz=>R.ok (A.bl z) S) ∅
def vp(x y:A):gd (([x,y]:ae).length<=sizeLine)=λr:Am.R A=>r:=by funext r;exact lK<|show 2<=16777216 by decide
def vd:gd (2<=sizeLine)=λr:Am.R A=>r:=by funext r;exact lK<|show 2<=16777216 by decide
def wQ{q:Int×Int}:xh (nK<|gI (jm false) (gA 0)<|eC<|.str<|PySem.Str.ofString "-") (Kq wV<|gA 6) (gA 6) [.str<|sg q,a1,a2,a3,a4,.int q.1,.int ((q.2.natAbs:Nat):Int)] S=.ok (.int q.2) S:=by
 have g:=JO (S:=S) (q:=q);by_cases c:q.2<0
 ·rw[bq c]at g;dsimp[iB,oh,bools,g,Gm,show -((q.2.natAbs:Nat):Int)=q.2 by lia]
 ·rw[bz c]at g;dsimp[iB,oh,bools,g,show((q.2.natAbs:Nat):Int)=q.2 by lia]
def HH{q:Int×Int}(h:Bq q):∃S',iI [.str<|sg q,.str<|term q] S=.ok (tA q) S'/\ou S S':=by
 obtain⟨h0,h1,M,g⟩:=h;have tl:=Pt.jB h0 h1 g;have L:=qB g;have d:=Pt.qu (q:=q) h0;unfold iI lH l_;by_cases c0:q.1=0
 ·rw[aJ c0]at d;have te:term q=Tx.tx (q.2.natAbs:Nat):=by unfold term;rw[aJ c0]
  have e:Txt.partition (term q) (PySem.Str.ofString "v")=(term q,Str.empty,Str.empty):=by
   rw[v_eq];exact Pt.FE<|by rw[d];exact Bk ()
  have p1:=s_ (S:=S) (show(term q).length<=100000 by lia) e;have p:=D_ (S:=S) (y:=Tx.tx (q.2.natAbs:Nat)) (a:=Tx.tx (q.2.natAbs:Nat)) () (by rw[Gi];exact Pt.JY<|by rw[Pt.mZ];exact Bk ());have e0:A.AB (.str Str.empty) S=some false:=by rw[sq ⋯];rfl
  obtain⟨S1,e1,k⟩:=sW (S:=S) g;have f:=wQ (S:=S1) (q:=q) (a1:=.str<|term q) (a2:=.str<|term q) (a3:=.str Str.empty) (a4:=.str Str.empty);rw[c0]at f;rw[te]at p1 f ⊢;refine⟨S1,?_,k⟩;dsimp[iB,oh,bools,i9,Nat.reduceAdd,Nat.reduceSub,jK,qd,p1,g_<|show([_,_,_]:ae).length=3 from rfl,e0,p,e1,↓f,vp,vd];rw[show tA q=.tup [.int 0,.int q.2]by unfold tA;rw[c0]]
 ·rw[aI c0]at d;obtain⟨b,F⟩:∃b,b=(if q.1=1 then[]else 94::mO q.1):=⟨_,rfl⟩;have G:uA q.1=118::b:=by unfold uA;rw[F]
  have j:A.AB (.str (⟨#[118]⟩:Str)) S=some true:=by rw[sq ⋯];rfl
  obtain⟨S1,e1,k⟩:=IE (S:=S) h0 h1;rw[<- F]at e1;by_cases c1:q.2.natAbs=1
  ·rw[aJ c1,G]at d;have e:Txt.partition (term q) (PySem.Str.ofString "v")=(Sp.mk [],⟨#[118]⟩,Sp.mk b):=by
    rw[v_eq];exact Pt.xP (a:=[]) d λz=>nomatch z
   have p1:=s_ (S:=S) (show(term q).length<=100000 by lia) e;have e0:A.AB (.str<|Sp.mk []) S1=some false:=by rw[sq ⋯];rfl
   have c:A.AB (.str (⟨#[118]⟩:Str)) S1=some true:=by rw[sq ⋯];rfl
   have f:=wQ (S:=S1) (q:=q) (a1:=.str<|term q) (a2:=.str<|Sp.mk []) (a3:=.str ⟨#[118]⟩) (a4:=.str<|Sp.mk b);rw[c1,show((1:Nat):Int)=1 from rfl]at f;refine⟨S1,?_,k⟩;dsimp[iB,oh,bools,i9,Nat.reduceAdd,Nat.reduceSub,jK,qd,p1,g_<|show([_,_,_]:ae).length=3 from rfl,j,e1,c,e0,cS,↓f,vp,vd]
  ·rw[aI c1,G]at d;have m:C (term q)=(dg q.2.natAbs++[42])++118::b:=by rw[d,bG];rfl
   have e:Txt.partition (term q) (PySem.Str.ofString "v")=(Sp.mk<|dg q.2.natAbs++[42],⟨#[118]⟩,Sp.mk b):=by
    rw[v_eq];refine Pt.xP m λz=>?_
    rcases bh.mp z with z|z
    ·exact Bk () z
    ·cases aR.mp z
   have p1:=s_ (S:=S) (show(term q).length<=100000 by lia) e;have N:(Sp.mk<|dg q.2.natAbs++[42]).length<=100:=by
    rw[j8,aS];have:=Pt.qG g;show _+1<=_
    lia
   have K:1<=(Sp.mk<|dg q.2.natAbs++[42]).length:=by rw[j8,aS];show 1<=_+1;lia
   have e0:A.AB (.str<|Sp.mk<|dg q.2.natAbs++[42]) S1=some true:=by
    rw[sq ()];refine bQ some<|bne_iff_ne.mpr ()
   have c:A.AB (.str (⟨#[118]⟩:Str)) S1=some true:=by rw[sq ⋯];rfl
   have p:=D_ (S:=S1) (y:=Sp.mk<|dg q.2.natAbs++[42]) (a:=Tx.tx (q.2.natAbs:Nat)) () (by rw[Gi,Pt.JU<|Pt.qK _,A9]);obtain⟨B,e2,J⟩:=sW (S:=S1) g;have f:=wQ (S:=B) (q:=q) (a1:=.str<|term q) (a2:=.str<|Sp.mk<|dg q.2.natAbs++[42]) (a3:=.str ⟨#[118]⟩) (a4:=.str<|Sp.mk b);refine⟨B,?_,k.trans J⟩;dsimp[iB,oh,bools,i9,Nat.reduceAdd,Nat.reduceSub,jK,qd,p1,g_<|show([_,_,_]:ae).length=3 from rfl,j,e1,c,e0,b7,p,e2,↓f,vp,vd]
end K81
namespace K81
open PySem L2 Am
def Fw{s:Src}{xs:ae}{src:Ic}{t:Te}{e:Ex}(hs:src τ S=.ok s S1)(L:s.k=xs.length)(b:Nat->Prop)(hg:∀T,Kp b S1 T->∀i:Nat,i<xs.length->s.get i T=xs[i]?)(J:∀T,Kp b S1 T->s.fin T=true)(p:A->Bool)(f:A->A)
  (step:∀x∈xs,∀T,Kp b S1 T->∃T1,t (x::jL cap τ) T=.ok (p x) T1/\Kp b T T1/\(p x=true->∃T2,e (x::jL cap τ) T1=.ok (f x) T2/\Kp b T1 T2)) (M:xs.length<=16777216) :
  ∃S',jF (none::cap) src (iD 0) t e τ S=.ok (.ref S'.length) (S'++[.lst<|(xs.filter p).map f])/\Kp b S1 S':=by
 have j:∀i,i<xs.length->xs.getD i .unb∈xs:=λi hi=>by
  rw[aM,aG hi];exact dN hi
 obtain⟨S',h1,B⟩:=nV (s:=s) (g:=iD 0) (t:=t) (e:=e) (P:=λT=>Kp b S1 T) (T:=λc=>∃y,c=y::jL cap τ) (λi=>xs.getD i .unb) (λi=>p<|xs.getD i .unb) (λi=>f<|xs.getD i .unb) (λi T hi h=>by
   rw[L]at hi;rw[hg T h i hi,aM,aG hi];rfl) J
  (λi c T hi hy h=>by
   obtain⟨y,rfl⟩:=hy;rw[L]at hi;obtain⟨T1,e1,d,q⟩:=step _ (j i hi) T h;refine⟨xs.getD i .unb::jL cap τ,T,T1,rfl,e1,⟨_,rfl⟩,λ_=>h.trans d,λm=>?_⟩;obtain⟨T2,e2,C⟩:=q m;exact⟨T2,e2,(h.trans d).trans C⟩) s.k 0 (jL (none::cap) τ) S1 rfl ⟨_,rfl⟩ Kp.refl
 refine⟨S',?_,B⟩;unfold jF;rw[hs,R.jR,h1,R.i7,L,<- d_,kh xs p f .unb];refine iw ?_;rw[aN];exact bU (List.length_filter_le _ _) M
open Pt (C rJ term pL sg tp nA mJ R0 mO uA dg)
theorem tD:∀(l:List<|Int×Int),(nA l).length=2 * l.length
 | []=>rfl
 | q::l=>by
  show(nA l).length+1+1=2 * (l.length+1);rw[tD l];lia
theorem DO:∀(l:List<|Int×Int) (i:Nat) (h:i<l.length),(nA l)[2 * i]?=some (sg l[i])/\(nA l)[2 * i+1]?=some (term l[i])
 | q::l,0,_=>⟨rfl,rfl⟩
 | q::l,i+1,h=>by
  have:=DO l i<|Nat.lt_of_succ_lt_succ h;show(sg q::term q::nA l)[2 * (i+1)]?=_/\(sg q::term q::nA l)[2 * (i+1)+1]?=_;rw[show 2 * (i+1)=2 * i+1+1 by lia];exact this
def Im(h:Pq l):(tp l).length<=1700:=by
 cases l with
 | nil=>decide +kernel
 | cons q l=>
  have:=C_ h l.length;rw[dP]at this;exact bU this ⋯
def xg(q:Int×Int)(l:List<|Int×Int):C (tp (q::l))=R0 q++l.flatMap mJ:=rfl
abbrev N6 (l:List<|Int×Int)(x:A):A:=match x with
 | .int j=>tA (l.getD (j.toNat / 2) (0,0))
 | _=>.unb
def Ih{S:gE}{q:Int×Int}(h:Pq (q::l)):∃(W:Nat) (S':gE),iO [.str<|tp (q::l)] S=.ok (.ref W) S'/\gH S' W=some ((q::l).map tA)/\ou S S'/\S.length<=W:=by
 have hb:=h.b q<|aQ ..;have pl:=Im h;have V:(q::l).length<=40:=h.len;obtain⟨J,Y⟩:∃J,J=Str.join ⟨#[32]⟩ (nA (q::l)):=⟨_,rfl⟩;have F:C J=rJ q::32::(C (term q)++l.flatMap mJ):=by rw[Y];exact Pt.uL q l
 have sp:Txt.split J ⟨#[32]⟩=nA (q::l):=by rw[Y];exact Pt.Ao λx L=>(h.b x L).1
 have f:J.length<=1800:=by
  rw[Sp.size_eq]at pl ⊢;have pl:(C<|tp (q::l)).length<=1700:=pl;show(C J).length<=1800;rw[xg]at pl;rw[F];unfold R0 at pl;dsimp[aS,aW]at pl ⊢
  lia
 obtain⟨S1,j⟩:∃S1,S1=S++[O.lst<|(nA (q::l)).map .str]:=⟨_,rfl⟩;have U:ou S S1:=by rw[j];exact Kp.refl.lay
 have G:gH S1 S.length=some ((nA (q::l)).map .str):=by rw[j];exact g9
 have Z:wJ (.str J) [.str<|PySem.Str.ofString " "] S=.ok (.ref S.length) S1:=by
  have e:PySem.Str.ofString " " = ⟨#[32]⟩:=by decide +kernel
  rw[j,<- sp];show gd (((PySem.Str.ofString " ").length == 0)=false/\J.length<=sizeLine/\(Txt.split J<|PySem.Str.ofString " ").length<=sizeLine) (R.ok (A.ref S.length)<|S++[O.lst<|(Txt.split J<|PySem.Str.ofString " ").map .str])=_;rw[e];exact g_ ⟨rfl,by rw[bS];lia,by rw[sp,tD,bS];lia⟩
 have st:=IB (x:=tp (q::l)) (c:=45) (z:=PySem.Str.ofString "-") (S:=S) ∅;have P:(((nA (q::l)).map A.str).length:Int)=2 * (l.length+1:Nat):=by rw[aN,tD,aW];lia
 have N:CP (.int (((nA (q::l)).map A.str).length:Int)) (.int 1) S1=.ok (.int 0) S1:=by
  rw[P];show R.ok (A.int<|Builtin.bitAnd (2 * (l.length+1:Nat)) 1) S1=_;refine bQ (λz=>R.ok (A.int z) S1) ?_;unfold Builtin.bitAnd;rw[bq<|show(0:Int)<=2 * ((l.length+1:Nat):Int)by lia,bq<|show(0:Int)<=1 by decide];show((((2 * ((l.length+1:Nat):Int)).toNat &&& (1:Int).toNat:Nat)):Int)=0;rw[show(1:Int).toNat=1 from rfl,Nat.and_one_is_mod]
  lia
 obtain⟨S2,B,k2⟩:=Fw (cap:=[some 2]) (t:=rH) (e:=eFn iI<|gz (gI mX (gA 1)<|gA 0)<|gz (gI mX (gA 1)<|gI iE (gA 0)<|eC<|.int 1) gM) (τ:=[.str<|tp (q::l),.str J,.ref S.length]) (S:=S1) (S1:=S1) (src:=qI (eC<|.int 0) (g6 (f1 oN)<|gz (gA 2) gM)<|eC<|.int 2) (s:=vA 0<|2 * (l.length+1:Nat)) (xs:=(List.range<|l.length+1).map λm:Nat=>A.int ((2 * m:Nat):Int))
  (AK (S1:=S1) (S2:=S1) (by dsimp[iB,bools]) (by dsimp[iB,bools,G,P]) (by dsimp[iB,bools]) (qU ⋯ ⋯)<|qU ()<|by rw[aW]at V;lia)
  (by show((2 * ((l.length+1:Nat):Int)-0+1) / 2).toNat=_;rw[aN,bC];lia) (λ_=>False) (λT _ i hi=>by
   rw[aN,bC]at hi;show(if i<((2 * ((l.length+1:Nat):Int)-0+1) / 2).toNat then some (A.int<|0+2 * i)else none)=_;rw[aJ (),aY,cG hi,Int.zero_add];rfl) (λ_ _=>rfl) (λ_=>true) (N6 (q::l)) (λx L T kT=>by
   obtain⟨m,p,rfl⟩:=eG.mp L;have p:m<(q::l).length:=cR.mp p;have lT:=kT.lst _ _ (λz=>z) G;obtain⟨a1,a2⟩:=DO (q::l) m p;have x1:k9 ((nA (q::l)).map A.str) ((2 * m:Nat):Int)=some (.str<|sg (q::l)[m]):=by
    exact qt (k:=2 * m) rfl<|by rw[aY,a1];rfl
   have B:k9 ((nA (q::l)).map A.str) (((2 * m:Nat):Int)+1)=some (.str<|term (q::l)[m]):=by
    exact qt (k:=2 * m+1) ()<|by rw[aY,a2];rfl
   obtain⟨M,e',k'⟩:=HH (S:=T) (q:=(q::l)[m])<|h.b _<|dN p;refine⟨T,rfl,Kp.refl,λ_=>⟨M,?_,k'⟩⟩;show eFn iI _ [.int ((2 * m:Nat):Int),.ref S.length] T=.ok (tA<|(q::l).getD (((2 * m:Nat):Int).toNat / 2) (0,0)) M;have g:(q::l).getD (((2 * m:Nat):Int).toNat / 2) (0,0)=(q::l)[m]:=by
    rw[bR,show 2 * m / 2=m by lia,aM,aG p];rfl
   rw[g];dsimp[iB,oh,bools,lT,x1,B,e']) (by rw[aN,bC];rw[aW]at V;lia)
 have ys:(((List.range<|l.length+1).map λm:Nat=>A.int ((2 * m:Nat):Int)).filter λ_=>true).map (N6 (q::l))=(q::l).map tA:=by
  rw[fR.mpr λ_ _=>rfl,eK];refine dD λi=>?_;rw[aY,aY];by_cases hi:i<l.length+1
  ·rw[cG hi,aG<|show i<(q::l).length from hi];show some (tA<|(q::l).getD (((2 * i:Nat):Int).toNat / 2) (0,0))=some (tA (q::l)[i]);rw[bR,show 2 * i / 2=i by lia,aM,aG<|show i<(q::l).length from hi];rfl
  ·rw[bJ<|by rw[bC];lia,bJ<|by rw[aW];lia];rfl
 rw[ys]at B;refine⟨S2.length,S2++[O.lst<|(q::l).map tA],?_,g9,(U.trans k2).lay,(U.trans k2).len⟩;unfold iO kL kP;by_cases c:q.2<0
 ·have e1:((C<|tp (q::l)).head? == some 45)=true:=by
   rw[xg];unfold R0;rw[aJ c];rfl
  rw[e1]at st;have sl:vC (gA 0) (mw<|eC<|.int 1) lM [.str<|tp (q::l),.unb,.unb] S=.ok (.str<|Sp.mk<|C (term q)++l.flatMap mJ) S:=by
   have e:Txt.slice (tp (q::l)) (some 1) none=Sp.mk (C (term q)++l.flatMap mJ):=by
    apply Pt.ext;rw[show(some 1:bj)=some ((1:Nat):Int)from rfl,Pt.m9 _ (by
     rw[Sp.size_eq];show 1<=(C<|tp (q::l)).length;rw[xg];unfold R0;rw[aJ c];dsimp[aS,aW]
     lia),xg]
    unfold R0;rw[aJ c];rfl
   show gd ((Txt.slice (tp (q::l)) (some 1) none).length<=sizeLine) (R.ok (A.str<|Txt.slice (tp (q::l)) (some 1) none) S)=_;rw[e];refine g_ ?_;rw[Sp.size_eq]at f;have f:(C J).length<=1800:=f;rw[F]at f;rw[j8,bS];dsimp[aW]at f
   lia
  have K:iE (.str<|PySem.Str.ofString "- ") (.str<|Sp.mk<|C (term q)++l.flatMap mJ) S=.ok (.str J) S:=by
   rw[mH (by
    rw[Sp.size_eq]at f;have f:(C J).length<=1800:=f;rw[F]at f;rw[j8];dsimp[aW]at f;show 2+_<=_
    lia)]
   refine bQ (λz=>R.ok (A.str z) S)<|Pt.ext ?_;rw[Pt.jN,F];unfold rJ;rw[aJ c];rfl
  dsimp[iB,oh,bools,i9,Nat.reduceAdd,Nat.reduceSub,jK,qd,st,↓sl,K,Z,G,N,show((0:Int) != 0)=false from rfl,↓B]
 ·have e1:((C<|tp (q::l)).head? == some 45)=false:=by
   obtain⟨d,r,e,n1,_⟩:=Pt.AN (q:=q) hb.1;rw[xg];unfold R0;rw[aI c,e];exact bF.mpr λz=>n1<|aX z
  rw[e1]at st;have K:iE (.str<|PySem.Str.ofString "+ ") (.str<|tp (q::l)) S=.ok (.str J) S:=by
   rw[mH<|by show 2+_<=_;lia];refine bQ (λz=>R.ok (A.str z) S)<|Pt.ext ?_;rw[Pt.jN,F,xg];unfold R0 rJ;rw[aI c,aI c];rfl
  dsimp[iB,oh,bools,i9,Nat.reduceAdd,Nat.reduceSub,jK,qd,st,K,Z,G,N,show((0:Int) != 0)=false from rfl,↓B]
end K81
namespace K81
open PySem L2 Am
open Pt (C rJ term pL sg tp nA mJ R0 mO uA dg)
def Gj{S:gE}{r:Nat}{l:List<|Int×Int}{e:Ex}(f:Int×Int->A)(J:gH S r=some (l.map tA))(L:∀q∈l,∀T,e [.int q.1,.int q.2] T=.ok (f q) T)(M:l.length<=40) :
  jF [none,none] (oA<|gA 0) (F4 2<|vF (iD 0)<|vF (iD 1) FU) rH e [.ref r,a1] S=.ok (.ref S.length) (S++[.lst<|l.map f]):=by
 obtain⟨m,d,j⟩:=nV (s:=m7 r (l.map tA).length) (g:=F4 2<|vF (iD 0)<|vF (iD 1) FU) (t:=rH) (e:=e)
  (P:=λS1=>S1=S) (T:=λc=>∃y z,c=[y,z]) (λi=>tA<|l.getD i (0,0)) (λ_=>true) (λi=>f<|l.getD i (0,0))
  (λi S1 hi k=>by
   have hi:i<l.length:=by have:i<(l.map tA).length:=hi;rwa [aN]at this
   show(gH S1 r).bind _=_;rw[k,J,cO,aY,aM,aG hi];rfl)
  (λS1 k=>by
   show(match gH S1 r with
    | some ys=>decide (ys.length<=(l.map tA).length)
    | none=>false)=true
   rw[k,J];simp)
  (λi c S1 hi ⟨y,z,hy⟩ k=>by
   have hi:i<l.length:=by have:i<(l.map tA).length:=hi;rwa [aN]at this
   subst hy k;have p:l.getD i (0,0)∈l:=by rw[aM,aG hi];exact dN hi
   exact⟨[.int (l.getD i (0,0)).1,.int (l.getD i (0,0)).2],S1,S1,by dsimp[iB,bools,g_<|show([_,_]:ae).length=2 from rfl],rfl,⟨_,_,rfl⟩,λ_=>rfl,λ_=>⟨S1,L _ p S1,rfl⟩⟩)
  (l.map tA).length 0 (jL [none,none] [.ref r,a1]) S rfl ⟨_,_,rfl⟩ rfl
 subst j;have B:((List.range' 0 (l.map tA).length).filter λ_=>true).map (λi=>f<|l.getD i (0,0))=l.map f:=by
  rw[fR.mpr λ_ _=>rfl,aN];refine dD λi=>?_;rw[aY,aY,<- d_];by_cases hi:i<l.length
  ·rw[cG hi,aG hi,fN,fN,aM,aG hi];rfl
  ·rw[bJ<|by rw[bC];lia,bJ ()];rfl
 rw[B]at d;unfold jF;rw[ud (S1:=m) (by dsimp[iB,bools]) J,R.jR];show R.nR (jG (m7 r (l.map tA).length) _ _ _ (l.map tA).length 0 _ _) _=_;rw[d,R.i7,iw<|by rw[aN];lia]
def Jc{r:Nat}{l:List<|Int×Int}(h:Pq l)(Z:gH S r=some (l.map tA)):∃S',ie [.ref r] S=.ok (.bl true) S'/\ou S S':=by
 have m:=h.len;have c1:=Gj (S:=S) (a1:=.unb) (e:=gA 0) (λq=>.int q.1) Z (λq _ T=>rfl) m;obtain⟨S1,f⟩:∃S1,S1=S++[O.lst<|l.map λq=>A.int q.1]:=⟨_,rfl⟩;have g:ou S S1:=by rw[f];exact Kp.refl.lay
 have G:(l.map λq=>A.int q.1)=(l.map Prod.fst).map .int:=by rw[eK];rfl
 have k:gH S1 S.length=some ((l.map Prod.fst).map .int):=by rw[f,<- G];exact g9
 rw[<- f]at c1;obtain⟨c,d⟩:∃c,c=S1++[O.lst<|(l.map Prod.fst).map .int]:=⟨_,rfl⟩;have j:ou S1 c:=by rw[d];exact Kp.refl.lay
 have p:gH c S1.length=some ((l.map Prod.fst).map .int):=by rw[d];exact g9
 have M:(l.map Prod.fst).Pairwise (· < ·):=List.pairwise_map.mpr h.up;have N:L6 (.ref S.length) S1=.ok (.ref S1.length) c:=by
  show opt (gH S1 S.length) _=_;rw[k,iT,ints_map,iT,d];exact g_ ⟨by rw[aN];lia,M⟩
 have e2:jm true (.ref S.length) (.ref S1.length) c=.ok (.bl false) c:=by
  have:=xx<|LC (j.lst _ _ (λz=>z) k) p;rw[bq rfl]at this;exact this
 have r2:=j.lst _ _ (λz=>z)<|g.lst _ _ (λz=>z) Z;have c2:=Gj (S:=c) (a1:=.ref S.length) (e:=xJ (gI (jm true) (gA 1)<|eC<|.int 0)<|gI FN (g6 (f1 w_)<|gz (gA 0) gM)<|eC<|.int 60) (λ_=>.bl true) r2 (λq J T=>by
  obtain⟨U,P,K,_⟩:=h.b q J;have F:(q.2 == 0)=false:=bF.mpr K;dsimp[iB,oh,bools,F,cS,abs_eq,bq<|show((q.1.natAbs:Nat):Int)<=60 by lia]) m
 have B:(l.map λ_:Int×Int=>A.bl true)=(l.map tA).map λ_=>A.bl true:=by rw[eK];rfl
 rw[B]at c2;have C:=zE (S:=c) (L:=l.map tA);refine⟨c++[O.lst<|(l.map tA).map λ_=>A.bl true],?_,(g.trans j).lay⟩;unfold ie iW iY;dsimp[iB,oh,bools,i9,Nat.reduceAdd,Nat.reduceSub,↓c1,g.lst _ _ (λz=>z) Z,aN,bz<|show ¬((l.length:Int)>40)by lia,Jd,N,e2,↓c2,C]
def NB{q:Int×Int}(h:Bq q):(tp (q::l) == PySem.Str.ofString "0")=false:=by
 refine bF.mpr λz=>?_;have z:C (tp (q::l))=[48]:=bQ C z;rw[xg]at z;unfold R0 at z;obtain⟨h0,h1,j,g⟩:=h;by_cases c:q.2<0
 ·rw[aJ c]at z
  cases z
 ·rw[aI c,fK,Pt.qu h0]at z;by_cases c0:q.1=0
  ·rw[aJ c0]at z
   cases hd:dg q.2.natAbs with
   | nil=>exact Pt.zU _ hd
   | cons d r=>
    rw[hd]at z;have z:d::(r++l.flatMap mJ)=[48]:=z
    injection z with e f
    have:dg q.2.natAbs=dg 0:=by rw[hd,e,(List.append_eq_nil_iff.mp f).1];rfl
    have:=Pt.A0 this
    lia
  ·rw[aI c0]at z;by_cases c1:q.2.natAbs=1
   ·rw[aJ c1]at z
    cases z
   ·rw[aI c1]at z;have:=bQ List.length z;dsimp[aS,aW,fL]at this;have:1<=(dg q.2.natAbs).length:=List.length_pos_iff.mpr (Pt.zU _)
    lia
def zo{S:gE}{l:List<|Int×Int}(h:Pq l):∃(W:Nat) (S':gE),iK [.str<|tp l] S=.ok (.ref W) S'/\gH S' W=some (l.map tA)/\ou S S'/\S.length<=W:=by
 have c:∀(W:Nat) (S1:gE),gH S1 W=some (l.map tA)->ou S S1->S.length<=W->xh (nK<|gI (jm false) (gA 0)<|eC<|.str<|PySem.Str.ofString "0") (mj gM) (eFn iO<|gz (gA 0) gM) [.str<|tp l,.unb] S=.ok (.ref W) S1 ->
   ∃(W:Nat) (S':gE),iK [.str<|tp l] S=.ok (.ref W) S'/\gH S' W=some (l.map tA)/\ou S S'/\S.length<=W:=λW S1 j g f e=>by
  obtain⟨d,e2,m⟩:=Jc h j;have k:=m.lst _ _ (λz=>z) j;have B:=tF h k;have p:jm true (.str<|tp l) (.str<|tp l) d=.ok (.bl false) d:=by rw[EA,bg];rfl
  refine⟨W,d,?_,k,g.trans m,f⟩;unfold iK lG lW;dsimp[iB,oh,bools,i9,Nat.reduceAdd,Nat.reduceSub,↓e,e2,b7,B,p]
 cases l with
 | nil=>
  refine c S.length (S++[O.lst []]) g9 Kp.refl.lay (aL _) ?_;have e0:jm false (.str<|tp []) (.str<|PySem.Str.ofString "0") S=.ok (.bl true) S:=by
   rw[qq];exact bQ (λz=>R.ok (A.bl z) S) ∅
  have F:newL [] S=.ok (.ref S.length) (S++[O.lst []]):=lK (show 0<=16777216 by decide);dsimp[iB,oh,bools,e0,F]
 | cons q l=>
  obtain⟨W,S1,e1,C,g,f⟩:=Ih (S:=S) h;refine c W S1 C g f ?_;have e0:jm false (.str<|tp (q::l)) (.str<|PySem.Str.ofString "0") S=.ok (.bl false) S:=by
   rw[qq,NB<|h.b q<|aQ ..]
  dsimp[iB,oh,bools,e0,e1]
end K81
namespace K81
open PySem L2 Am
open Pt (tp)
def Kw:z_ (.int 10) (.int 30) S=.ok (.int 1000000000000000000000000000000) S:=g_ ⟨by decide,by decide,by decide⟩
def Jt{b:Nat}(h:uq S b):∃(v:Int) (S':gE),ja [.ref b] S=.ok (.int v) S'/\v≠0/\v.natAbs<10 ^ 30/\uq S' b/\Kp (·=b) S S':=by
 have bl:b<S.length:=by obtain⟨_,_,e,_⟩:=h;exact o5 e
 obtain⟨c,f⟩:∃c:ae,c=[.int 1,.int 1,.int 9,.int 999999999999999999999999999999]:=⟨_,rfl⟩;have V:newL [.int 1,.int 1,.int 9,.int 999999999999999999999999999999] S=.ok (.ref S.length) (S++[O.lst c]):=by rw[f];exact iw (show 4<=16777216 by decide)
 have k:ou S (S++[O.lst c]):=Kp.refl.lay;obtain⟨q,B,e2,q0,Z,U,p⟩:=digit (m:=4) (h.kp k λz=>z) ⋯ ⋯;have C:gH B S.length=some c:=p.lst _ _ (by show ¬S.length=b;lia) g9;obtain⟨m,M,J,m1⟩:∃m:Int,k9 c q=some (.int m)/\1<=m/\m<=999999999999999999999999999999:=by
  have:q=0\/q=1\/q=2\/q=3:=()
  rw[f]
  rcases this with rfl|rfl|rfl|rfl
  ·exact⟨1,rfl,by decide,by decide⟩
  ·exact⟨1,rfl,by decide,by decide⟩
  ·exact⟨9,rfl,by decide,by decide⟩
  ·exact⟨_,rfl,by decide,by decide⟩
 obtain⟨d,S3,G,d0,d1,P,W⟩:=digit (m:=m) U J ();obtain⟨g,j,T,g0,g1,L,K⟩:=digit (m:=2) P ⋯ ⋯;have N:j3 (.int 2) (.int g) j=.ok (.int<|2 * g) j:=uJ ⋯ ⋯;have F:j3 (.int<|1+d) (.int<|1-2 * g) j=.ok (.int<|(1+d) * (1-2 * g)) j:=mul_r () ();have Y:=((k.of0.trans p).trans W).trans K;refine⟨(1+d) * (1-2 * g),j,?_,?_,?_,L,Y⟩
 ·unfold ja kO kJ;dsimp[iB,oh,bools,i9,Nat.reduceAdd,Nat.reduceSub,Kw,show(1000000000000000000000000000000:Int)-1=999999999999999999999999999999 from rfl,V,e2,C,M,G,T,N,F]
 ·have:g=0\/g=1:=()
  rcases this with rfl|rfl<;>lia
 ·have:g=0\/g=1:=()
  rcases this with rfl|rfl<;>lia
def some_of{a b c d:Int}(h0:0<=d)(h1:d<3){P:Int->Prop}(j:P a)(J:P b)(L:P c):∃m:Int,k9 [A.int a,.int b,.int c] d=some (.int m)/\P m:=by
 have:d=0\/d=1\/d=2:=()
 rcases this with rfl|rfl|rfl
 ·exact⟨_,rfl,j⟩
 ·exact⟨_,rfl,J⟩
 ·exact⟨_,rfl,L⟩
def pQ{S:gE}{b:Nat}{x y z:Int}(h:uq S b){P:Int->Prop}(J:P x)(L:P y)(M:P z):∃(d m:Int) (S':gE),newL [.int x,.int y,.int z] S=.ok (.ref S.length) (S++[O.lst [.int x,.int y,.int z]])/\gO [.ref b,.int 3] (S++[O.lst [.int x,.int y,.int z]])=.ok (.int d) S'/\gH S' S.length=some [.int x,.int y,.int z]/\k9 [A.int x,.int y,.int z] d=some (.int m)/\P m/\uq S' b/\Kp (·=b) S S':=by
 have bl:b<S.length:=by obtain⟨_,_,e,_⟩:=h;exact o5 e
 have c:ou S (S++[O.lst [A.int x,.int y,.int z]]):=Kp.refl.lay;obtain⟨q,g,e2,B,k,p,f⟩:=digit (m:=3) (h.kp c λz=>z) ⋯ ⋯;obtain⟨m,j,C⟩:=some_of B k J L M;exact⟨q,m,g,iw<|show 3<=16777216 by decide,e2,f.lst _ _ (by show ¬S.length=b;lia) g9,j,C,p,c.of0.trans f⟩
def EJ{S:gE}{b:Nat}(h:uq S b):∃(W:Nat) (l:List<|Int×Int) (S':gE),jE [.ref b] S=.ok (.ref W) S'/\Pq l/\gH S' W=some (l.map tA)/\uq S' b/\Kp (·=b) S S'/\S.length<=W:=by
 have bl:b<S.length:=by obtain⟨_,_,e,_⟩:=h;exact o5 e
 obtain⟨d1,m1,S1,n1,e1,l1,a1,p1,b1,k1⟩:=pQ (x:=3) (y:=61) (z:=100) h (P:=λm=>1<=m/\m<=100) ⋯ ⋯ ⋯;obtain⟨p0,S2,e2,q0,q1,b2,k2⟩:=digit (m:=m1) b1 p1.1 ();obtain⟨d3,m3,f,n3,e3,l3,a3,p3,b3,k3⟩:=pQ (x:=59) (y:=0) (z:=0) b2 (P:=λm=>0<=m/\m<=59) ⋯ ⋯ ⋯;obtain⟨V,C⟩:∃V,V=f++[O.lst []]:=⟨_,rfl⟩;have k4:ou f V:=by rw[C];exact Kp.refl.lay
 have n4:newL [] f=.ok (.ref f.length) V:=by rw[C];exact lK (show 0<=16777216 by decide)
 have l4:gH V f.length=some (([]:List<|Int×Int).map tA):=by rw[C];exact g9
 have b4:=b3.kp k4 λz=>z;obtain⟨d5,m5,S5,n5,e5,l5,a5,p5,b5,k5⟩:=pQ (x:=4) (y:=9) (z:=41) b4 (P:=λm=>1<=m/\m<=41) ⋯ ⋯ ⋯;obtain⟨M,S6,e6,r0,r1,b6,k6⟩:=digit (m:=m5) b5 p5.1 ();have k46:=(k5.trans k6);have l13:=((k1.trans k2).trans k3).len;have b3l:b<f.length:=()
 have l6:gH S6 f.length=some (([]:List<|Int×Int).map tA):=k46.lst _ _ (by show ¬f.length=b;lia) l4;unfold jE nh mV;dsimp[iB,oh,bools,i9,Nat.reduceAdd,Nat.reduceSub,n1,e1,l1,a1,e2,n3,e3,l3,a3,n4];refine t6 (lo:=0) (hi:=M) (S1:=S6) (show nW _ _=_ from qO (by dsimp[iB,oh,bools,n5,e5,l5,a5,e6])<|qU () ())
  (λi τ T=>∃(p:Int) (a3:A) (l:List<|Int×Int),τ=[.ref b,.int p,.ref f.length,a3]/\gH T f.length=some (l.map tA)/\l.length<=i/\-60<=p/\(∀q∈l,-60<=q.1/\q.1<=60/\q.2≠0/\q.2.natAbs<10 ^ 30/\q.1<p)/\l.Pairwise (λp q=>p.1<q.1)/\uq T b/\Kp (λx=>x=b\/x=f.length) S6 T)
  (λZ=>∃(W:Nat) (l:List<|Int×Int) (S':gE),RS.end (RS.seq Z _)=.ok (.ref W) S'/\Pq l/\gH S' W=some (l.map tA)/\uq S' b/\Kp (·=b) S S'/\S.length<=W)
  ⟨_,_,[],rfl,l6,aL _,(),(λq G=>nomatch G),List.Pairwise.nil,b6,Kp.refl⟩ ?_ ?_
 ·rintro i τ T hi ⟨p,a3',l,rfl,Y,ll,pl,U,pw,hB,kp⟩;left;have next:∀(T1:gE),uq T1 b->∃(c:Int) (T2:gE),0<=c/\(iy (gI iE (gI iE (gA 1)<|eC<|.int 1)<|eFn gO<|gz (gA 0)<|gz (gI mX (mj<|gz (eC<|.int 1)<|gz (eC<|.int 2)<|gz (eC<|.int 9) gM)<|eFn gO<|gz (gA 0)<|gz (eC<|.int 3) gM) gM)<|iD 1) [.ref b,.int p,.ref f.length,.int<|0+(i:Int)] T1=.nx [.ref b,.int<|p+1+c,.ref f.length,.int<|0+(i:Int)] T2/\uq T2 b/\Kp (·=b) T1 T2:=λT1 hb1=>by
   obtain⟨d,m,U1,n,e,lu,au,pm,bu,ku⟩:=pQ (x:=1) (y:=2) (z:=9) hb1 (P:=λm=>1<=m/\m<=9) ⋯ ⋯ ⋯;obtain⟨c,U2,e',c0,c1,bc,kc⟩:=digit (m:=m) bu pm.1 ();exact⟨c,U2,c0,by dsimp[iB,oh,bools,n,e,lu,au,e'],bc,ku.trans kc⟩
  by_cases c:p<=60
  ·obtain⟨v,T1,e1',v0,v1,b1',N⟩:=Jt hB;have L:=N.lst _ _ (by show ¬f.length=b;lia) Y;obtain⟨T2,B⟩:∃T2,T2=T1.set f.length (.lst<|(l++[(p,v)]).map tA):=⟨_,rfl⟩;have ap:mE (.ref f.length) [.tup [.int p,.int v]] T1=.ok .non T2:=by
    rw[B,dj];show opt (gH T1 f.length) _=_;rw[L,iT];exact GX (by
     rw[aN];have:i<41:=by
      have:(i:Int)<M:=()
      lia
     lia)
   have kS:Kp (λx=>x=f.length) T1 T2:=by rw[B];exact Kp.refl.set (.inl rfl)
   have b2':uq T2 b:=b1'.kp kS (by show ¬b=f.length;lia);obtain⟨J,T3,c0,F,k,j⟩:=next T2 b2';refine⟨[.ref b,.int<|p+1+J,.ref f.length,.int<|0+(i:Int)],T3,?_,p+1+J,_,l++[(p,v)],rfl,?_,?_,(),?_,?_,k,?_⟩
   ·unfold kE;dsimp[iB,oh,bools,bq c,Y,e1',vd,vp,ap];exact F
   ·refine j.lst _ _ (by show ¬f.length=b;lia) ?_;rw[B];exact ug (o5 L)
   ·rw[aS];show _+1<=_;lia
   ·intro q G
    rcases bh.mp G with z|z
    ·obtain⟨a,K,g,d,e⟩:=U q z;exact⟨a,K,g,d,()⟩
    ·rw[aR.mp z];exact⟨pl,c,v0,v1,by show p<p+1+J;lia⟩
   ·refine bN.mpr ⟨pw,dJ _ _,λx hx y hy=>?_⟩;rw[aR.mp hy];exact(U x hx).2.2.2.2
   ·refine kp.trans (((N.mono ?_).trans<|kS.mono ?_).trans<|j.mono ?_)
    ·exact λx _ z=>.inl z
    ·exact λx _ z=>.inr z
    ·exact λx _ z=>.inl z
  ·obtain⟨J,T3,c0,F,k,j⟩:=next T hB;refine⟨[.ref b,.int<|p+1+J,.ref f.length,.int<|0+(i:Int)],T3,?_,p+1+J,_,l,rfl,j.lst _ _ (by show ¬f.length=b;lia) Y,(),(),λq G=>?_,pw,k,kp.trans<|j.mono λx _ z=>.inl z⟩
   ·unfold kE;dsimp[iB,oh,bools,bz c];exact F
   ·obtain⟨a,K,g,d,e⟩:=U q G;exact⟨a,K,g,d,()⟩
 ·rintro τ T ⟨p,a3',l,rfl,Y,ll,pl,U,pw,hB,kp⟩;dsimp[iB,bools];refine⟨_,l,_,rfl,⟨λq G=>?_,pw,()⟩,Y,hB,?_,l13⟩
  ·obtain⟨a,K,g,d,e⟩:=U q G;exact⟨a,K,g,d⟩
  ·exact(((k1.trans k2).trans k3).trans<|(k4.of0.trans k5).trans k6).old kp λn ln z z'=>by
    rcases z' with z'|z'
    ·exact z z'
    ·lia
end K81
namespace K81
open PySem L2 Am
open Pt (tp)
def La{i:Int}:iZ [.int i] S=.ok (.bl true) S:=by
 unfold iZ lD ly;dsimp[iB,bools,i9,Nat.reduceAdd,Nat.reduceSub,show tM .int "int" = some true from rfl,show tM .int "bool" = some false from rfl,cS]
theorem v8{n:Nat}:∀(l:List<|Int×Int),oS (qZ S<|n+2) (l.map tA) (l.map tA)=some true
 | []=>rfl
 | q::l=>by
  have h:qZ S (n+2) (tA q) (tA q)=some true:=by
   have:=oW (S:=S) (n:=n) [q.1,q.2] [q.1,q.2];rw[bq rfl]at this;exact this
  show(qZ S (n+2) (tA q)<|tA q).bind _=_;rw[h,cO,v8 l];rfl
def KJ{a b:Nat}{l:List<|Int×Int}(h:gH S a=some (l.map tA))(h':gH S b=some (l.map tA)):qZ S 12 (.ref a) (.ref b)=some true:=by
 show(gH S a).bind _=_;rw[h,cO,h',cO];exact v8 (n:=9) l
def JW{a b:Nat}{l:List<|Int×Int}(h:gH S a=some (l.map tA))(h':gH S b=some (l.map tA)):lU [.ref a,.ref b] S=.ok (.bl true) S:=by
 have e:jm true (.ref a) (.ref b) S=.ok (.bl false) S:=xx (k:=true)<|KJ h h';unfold lU rf qC;dsimp[iB,oh,bools,i9,Nat.reduceAdd,Nat.reduceSub,h,fN,show tM .lst "list" = some true from rfl,b7,e];refine tB (n:=a) (xs:=l.map tA) (S1:=S) (show qM _ _=_ from ud (by dsimp[iB,bools]) h)
  (λi τ T=>(∃x,τ=[.ref a,.ref b,x])/\T=S) (λZ=>RS.end (RS.seq Z _)=.ok (.bl true) S) ⟨⟨_,rfl⟩,rfl⟩ (λi τ T d=>by rw[d.2];exact h) ?_ ?_
 ·rintro i z τ T c ⟨⟨x,rfl⟩,rfl⟩;rw[aY]at c;obtain⟨q,j,rfl⟩:=bx.mp c;have g:k9 [A.int q.1,.int q.2] 0=some (.int q.1):=vM;have f:k9 [A.int q.1,.int q.2] 1=some (.int q.2):=yS;refine⟨[.ref a,.ref b,tA q],T,rfl,.inl ⟨[.ref a,.ref b,tA q],T,?_,⟨_,rfl⟩,rfl⟩⟩;unfold qz;dsimp[iB,oh,bools,show tM .tup "tuple" = some true from rfl,b7,g,f,La]
 ·rintro τ T ⟨⟨x,rfl⟩,rfl⟩;dsimp[iB,bools]
def IK(ns:ag)(hl:ns.length<=63):∃S',r6 [.frz<|ns.map .int] []=.ok (.bl true) S':=by
 have pn:Pq []:=⟨(λq hq=>nomatch hq),List.Pairwise.nil,b_ _⟩;unfold r6 B0 Eb;dsimp[iB,oh,bools,i9,Nat.reduceAdd,Nat.reduceSub];obtain⟨M,hM,m1⟩:∃M:Int,(if (if (ns.length:Int)<5 then(ns.length:Int)else 5)>1 then(if (ns.length:Int)<5 then(ns.length:Int)else 5)else 1)=M/\M<=5:=⟨_,rfl,by split<;>split<;>lia⟩;refine t6 (lo:=0) (hi:=M) (S1:=[]) (show xO _ _=_ from qO (by dsimp[iB,oh,bools,aN,hM])<|qU () ())
  (λi τ T=>∃N y2 y3 P Y e d,τ=[.frz<|ns.map .int,N,y2,y3,P,Y,e,d])
  (λZ=>∃S',RS.end (RS.seq Z _)=.ok (.bl true) S') ⟨_,_,_,_,_,_,_,rfl⟩ ?_ ?_
 ·rintro i τ T hi ⟨N,y2,y3,P,Y,e,d,rfl⟩;left;obtain⟨T1,e1,b1,k1⟩:=F7 (S:=T) (ns:=ns) (k:=0+(i:Int)) () ();obtain⟨W,l,T2,e2,C,w2,b2,k2,lw⟩:=EJ b1;obtain⟨T3,c⟩:∃T3,T3=T2++[O.lst<|l.map tA]:=⟨_,rfl⟩;have k3:ou T2 T3:=by rw[c];exact Kp.refl.lay
  have F:gH T3 T2.length=some (l.map tA):=by rw[c];exact g9
  have li:sJ (.ref W) T2=.ok (.ref T2.length) T3:=by
   show opt (A.seq T2<|.ref W) _=_;rw[show A.seq T2 (.ref W)=gH T2 W from rfl,w2,iT,c]
  have w3:=k3.lst _ _ (λz=>z) w2;have e3:=tF (S:=T3) C F;obtain⟨f,e4,k4⟩:=Ea (S:=T3) C w3;have w4:=k4.lst _ _ (λz=>z) w3;have l4:=k4.lst _ _ (λz=>z) F;have L:jm true (.str<|tp l) (.str<|tp l) f=.ok (.bl false) f:=by rw[EA,bg];rfl
  have J:jm true (.ref T2.length) (.ref W) f=.ok (.bl false) f:=xx (k:=true)<|KJ l4 w4;have m:∃(B g:A) (S':gE),pN uo (iD 6) sQ [.frz<|ns.map .int,.int<|0+(i:Int),.ref T.length,.ref W,.ref T2.length,.str<|tp l,e,d] f=.nx [.frz<|ns.map .int,.int<|0+(i:Int),.ref T.length,.ref W,.ref T2.length,.str<|tp l,B,g] S':=by
   refine t6 (lo:=0) (hi:=2) (S:=f) (S1:=f) (show uo _ _=_ from qO (by dsimp[iB,bools])<|qU ⋯ ⋯)
    (λj τ U=>(∃e d,τ=[.frz<|ns.map .int,.int<|0+(i:Int),.ref T.length,.ref W,.ref T2.length,.str<|tp l,e,d])/\gH U W=some (l.map tA))
    (λZ=>∃(B g:A) (S':gE),Z=.nx [.frz<|ns.map .int,.int<|0+(i:Int),.ref T.length,.ref W,.ref T2.length,.str<|tp l,B,g] S') ⟨⟨_,_,rfl⟩,w4⟩ ?_ ?_
   ·rintro j τ U hj ⟨⟨e,d,rfl⟩,K⟩;left;obtain⟨V,U1,e5,G,k5,lv⟩:=zo (S:=U) C;have w1:=k5.lst _ _ (λz=>z) K;have e6:=JW G w1;have vn:V≠W:=λz=>by have:=o5 K;lia
    have ap:mE (.ref V) [.tup [.int 99,.int 1]] U1=.ok .non (U1.set V<|.lst<|l.map tA++[.tup [.int 99,.int 1]]):=by
     show opt (gH U1 V) _=_;rw[G,iT];exact GX (by rw[aN];have:=C.len;lia)
    refine⟨[.frz<|ns.map .int,.int<|0+(i:Int),.ref T.length,.ref W,.ref T2.length,.str<|tp l,.int<|0+(j:Int),.ref V],U1.set V<|.lst<|l.map tA++[.tup [.int 99,.int 1]],?_,⟨_,_,rfl⟩,(wB vn).trans w1⟩;unfold sQ;dsimp[iB,oh,bools,e5,e6,b7,G,vd,vp,ap]
   ·rintro τ U ⟨⟨e,d,rfl⟩,K⟩;exact⟨e,d,U,rfl⟩
  obtain⟨B,g,S',x⟩:=m;refine⟨[.frz<|ns.map .int,.int<|0+(i:Int),.ref T.length,.ref W,.ref T2.length,.str<|tp l,B,g],S',?_,_,_,_,_,_,_,_,rfl⟩;unfold yP;dsimp[iB,oh,bools,e1,e2,li,e3,show tM Kd.str "str" = some true from rfl,b7,e4,L,J];exact x
 ·rintro τ T ⟨N,y2,y3,P,Y,e,d,rfl⟩;obtain⟨T1,p⟩:∃T1,T1=T++[O.lst []]:=⟨_,rfl⟩;have n1:newL [] T=.ok (.ref T.length) T1:=by rw[p];exact lK (show 0<=16777216 by decide)
  have l1:gH T1 T.length=some (([]:List<|Int×Int).map tA):=by rw[p];exact g9
  have e1:=tF (S:=T1) pn l1;obtain⟨V,T2,e2,v2,k2,_⟩:=zo (S:=T1) pn;have t0:tp []=PySem.Str.ofString "0" := rfl;rw[t0]at e1 e2;have q1:jm false (.str<|PySem.Str.ofString "0") (.str<|PySem.Str.ofString "0") T1=.ok (.bl true) T1:=by rw[qq,bg]
  obtain⟨T3,c⟩:∃T3,T3=T2++[O.lst []]:=⟨_,rfl⟩;have k3:ou T2 T3:=by rw[c];exact Kp.refl.lay
  have n3:newL [] T2=.ok (.ref T2.length) T3:=by rw[c];exact lK (show 0<=16777216 by decide)
  have F:gH T3 T2.length=some []:=by rw[c];exact g9
  have q2:jm false (.ref V) (.ref T2.length) T3=.ok (.bl true) T3:=sV<|eq_nil (k3.lst _ _ (λz=>z) v2) F;dsimp[iB,oh,bools,n1,e1,q1,e2,n3,q2];exact⟨_,rfl⟩
end K81
namespace K81
open PySem L2 Am
def all_mk{l:PySem.W.OpenLaw}{w:af}{K:aq}{h:ak}{mg:Str->bi}{fa:aj}(X:K.In h)(G:h.Ns mainGlobals mg)(hfa:mg "law" = some (.ref fa))
  (a1:Df K "show_size" mh)
  (a2:Df K "show_term" l8)
  (a3:Df K "show_poly" lX)
  (a4:Df K "read_number" kg)
  (a5:Df K "read_power" kD)
  (a6:Df K "read_term" lg)
  (a7:Df K "read_terms" k8)
  (a8:Df K "is_within_bounds" iX)
  (a9:Df K "read_poly" lB)
  (a10:Df K "_law_bag" oV)
  (a11:Df K "_law_digit" lZ)
  (a12:Df K "_law_whole" mq)
  (a13:Df K "_law_number" kI)
  (a14:Df K "_law_poly" m_)
  (a15:Df K "_law_term" mU)
  (a16:Df K "_law_text" nq)
  (a17:Df K "_law_is" rg)
  (a18:Df K "law" DJ)
  (PF:PySem.W.nsIn K mainGlobals "abs" = some none)
  (PJ:PySem.W.nsIn K mainGlobals "str" = some none)
  (PK:PySem.W.nsIn K mainGlobals "all" = some none)
  (PL:PySem.W.nsIn K mainGlobals "len" = some none)
  (PM:PySem.W.nsIn K mainGlobals "int" = some none)
  (PN:PySem.W.nsIn K mainGlobals "range" = some none)
  (PR:PySem.W.nsIn K mainGlobals "sorted" = some none)
  (PU:PySem.W.nsIn K mainGlobals "set" = some none)
  (PV:PySem.W.nsIn K mainGlobals "isinstance" = some none)
  (PX:PySem.W.nsIn K mainGlobals "bool" = some none)
  (PY:PySem.W.nsIn K mainGlobals "list" = some none)
  (PZ:PySem.W.nsIn K mainGlobals "tuple" = some none)
  (P0:PySem.W.nsIn K mainGlobals "max" = some none)
  (P1:PySem.W.nsIn K mainGlobals "min" = some none)
  {Py:Tok} (P4:PySem.W.nsIn K mainGlobals "PIECE" = some (some<|.int 10000000000000000000000000000000000000000000000000000000000000000 Py))
  {Pz:Tok} (P5:PySem.W.nsIn K mainGlobals "FIGURES" = some (some<|.str (PySem.Str.ofString "0123456789") Pz))
  {PB:Tok} (P6:PySem.W.nsIn K mainGlobals "MOST_FIGURES" = some (some<|.int 30 PB))
  {PC:Tok} (P7:PySem.W.nsIn K mainGlobals "MOST_TERMS" = some (some<|.int 40 PC))
  {PD:Tok} (P8:PySem.W.nsIn K mainGlobals "GREATEST_POWER" = some (some<|.int 60 PD))
  : ∃fd:FuncData,(∀(s:aA) (v:aa),BindsTo s fd ⟨[v],[]⟩ [("_law_script",v)])/\∀base:ak,K.In base->base.Ns mainGlobals mg->FnOk l.prog w K mg base oq 6 fa fd ["_law_script"] (pK K 1 r6):=by
 obtain⟨f,fd,a,F⟩:=a18;have e:=hfa.symm.trans (dY X G a)
 cases e
 have d:=bK X G PF;have m:=bK X G PJ;have p:=bK X G PK;have c:=bK X G PL;have g:=bK X G PM;have j:=bK X G PN;have Pb:=bK X G PR;have Pc:=bK X G PU;have k:=bK X G PV;have Ph:=bK X G PX;have B:=bK X G PY;have L:=bK X G PZ;have Pn:=bK X G P0;have Pp:=bK X G P1;have O5:∃t,mg "PIECE" = some (.int 10000000000000000000000000000000000000000000000000000000000000000 t):=⟨Py,dY X G P4⟩;have V:∃t,mg "FIGURES" = some (.str (PySem.Str.ofString "0123456789") t):=⟨Pz,dY X G P5⟩;have O9:∃t,mg "MOST_FIGURES" = some (.int 30 t):=⟨PB,dY X G P6⟩;have Pd:∃t,mg "MOST_TERMS" = some (.int 40 t):=⟨PC,dY X G P7⟩;have Pe:∃t,mg "GREATEST_POWER" = some (.int 60 t):=⟨PD,dY X G P8⟩;refine⟨fd,λs v=>(by obtain⟨_,_,_,_,_,_,_,_,_,rfl,_,_⟩:=F.ex;exact .of_eq rfl),λbase _ _=>?_⟩;have E:En l.prog w K mg base:=⟨h,X,G⟩;have O6:=a1.kA E (λF=>uv F d m O5)<|CC λ_ _ _ _ _ _ _=>rfl;have T:=a2.kA E (λF=>ux F O6)<|Ka λ_ _ _ _ _ _ _ _=>rfl;have q:=a3.kA E (λF=>uc F T)<|CC λ_ _ _ _ _ _ _=>rfl;have J:=a4.kA E (λF=>qv F p c g V O9)<|CC λ_ _ _ _ _ _ _=>rfl;have P:=a5.kA E (λF=>rE F J)<|CC λ_ _ _ _ _ _ _=>rfl;have Pa:=a6.kA E (λF=>sP F P J)<|Ka λ_ _ _ _ _ _ _ _=>rfl;have Pf:=a7.kA E (λF=>rF F c j Pa)<|CC λ_ _ _ _ _ _ _=>rfl;have M:=a8.kA E (λF=>mF F Pb Pc c p d Pd Pe)<|CC λ_ _ _ _ _ _ _=>rfl;have O4:=a9.kA E (λF=>tW F Pf q M)<|CC λ_ _ _ _ _ _ _=>rfl;have Pr:=a10.kA E (λF=>xF F c d g)<|Ka λ_ _ _ _ _ _ _ _=>rfl;have C:=a11.kA E (λF=>tu F)<|Ka λ_ _ _ _ _ _ _ _=>rfl;have Y:=a12.kA E (λF=>sZ F k Ph g)<|CC λ_ _ _ _ _ _ _=>rfl;have N:=a13.kA E (λF=>rG F C)<|CC λ_ _ _ _ _ _ _=>rfl;have O:=a14.kA E (λF=>vq F j C N)<|CC λ_ _ _ _ _ _ _=>rfl;have Z:=a15.kA E (λF=>ve F d m)<|Ka λ_ _ _ _ _ _ _ _=>rfl;have U:=a16.kA E (λF=>uU F g Z)<|CC λ_ _ _ _ _ _ _=>rfl;have Px:=a17.kA E (λF=>Af F k B L Y)<|Ka λ_ _ _ _ _ _ _ _=>rfl;exact Iw F j Pn Pp c B k m Pr O q U O4 Px
def walk{l:PySem.W.OpenLaw}{q:ah}{M:(Str->bi)->ak->Prop}{L:af->ak->Prop}{d:DefRec}{K:Params->aq}(hn:l.most=some 63)(J:d.params.defaults=[])
  (U:∀(w:af) (h:ak),L w h->(K w.params).In h)
  (F:∀(w:af) (mg:Str->bi) (fa:aj) (h:ak),(K w.params).In h->h.Ns mainGlobals mg->mg d.name=some (.ref fa) ->
   ∃fd:FuncData,(∀(s:aA) (u:aa),BindsTo s fd ⟨[u],[]⟩ [("_law_script",u)])/\∀base:ak,(K w.params).In base->base.Ns mainGlobals mg->FnOk l.prog w (K w.params) mg base oq 6 fa fd ["_law_script"] (pK (K w.params) 1 r6)) :
  PySem.W.WalkO q loose M L l.row.toRowW d [] (λf vs=>PySem.call f vs):=
 L2.EY (n:=63) (k:=6) (x := "_law_script") (CX:=λ_=>oq) (sp:=λw=>pK (K w.params) 1 r6) hn ⋯ J ⟨rfl,by decide,by decide,rfl⟩ U F (λ_ H a g e j c=>Aw j c<|IK g e) λ_ _ _ _ _ z=>z
end K81
open PySem PySem.W PyProof.Rows
namespace PySem.W.Fast
local macro_rules|`(command|universe $x*)=>do return Lean.mkNullNode (←x.mapM λx=>`(command|def $x:ident:=Nat))
universe tw6610311443333304127 tw14340914532052878068 tw5447609869909861530 tw8879749070040254749 tw456211775068269313 tw7006901500399247704 tw12370756575664750454 tw11915910453840303855 tw3088107645820192830 tw2549633435366958192 tw15615235889863654494 tw6306627623654851915 tw9187206249252620126 tw6010534484721464926 tw16605454682016153354 tw8335409280747737339 tw2464330258690538318 tw16358690990518055511 tw12145229511394879972 tw13404656881754180532 tw18241856770877908751 tw5397921838739089821 tw7164260093478266797 tw9313987199705673767 tw16534399175201721711 tw1055055612680555234 tw12874011672440179669 tw9707034654975873041 tw17186774479819985790 tw8487187689897711641 tw4406929857540049581 tw9710938439897706398 tw6942187975630967471 tw6398650048011357897 tw3847748986049356376 tw9579644373668268272 tw14926234130767684521 tw17866116510655108539 tw6275845257631423207 tw14411722462948542652 tw12852727740159642515 tw14328968583056187439 tw6997836163060395328 tw1377354175586844003 tw1231206563704880265 tw5207022586971582521 tw11273151903284764826 tw8088038486172577285 tw189748016633672951 tw1561063019186157122 tw17909394830239955660 tw5953003936211692921 tw13644079840346353940 tw92168480516870360 tw7669568677321664590 tw4499220177838245537 tw14335798725393422354 tw682150634946135571 tw14453179073749077754 tw3416728263702933604 tw15838319130894000676 tw8932484677239377150 tw3949628037488168088 tw17605597586012474870 tw4950283208150778290 tw13399075407576537578 tw15146222808765879940 tw12423851645085254989 tw9452572290095001719 tw3407769404610427049 tw18015291865567155766 tw7614408856078071639 tw11332498965496408952 tw10947691349171935036 tw14565672937304201439 tw11034097693905815202 tw7500910585244485106 tw5255896052399431419 tw13763831940640582538 tw1599997055461287050 tw7436638486396928676 tw18231465747860203878 tw9969275738660283689 tw3036703447594359380 tw4612786862721675379 tw4815383216861201319 tw12200989531615807394 tw17242672662487281968 tw9944912950644309228 tw4761539869838202278 tw8549587214645174424 tw18185072905820953224 tw642284870773059627 tw6188962294060578665 tw14623418812627191103 tw3318981313694564529 tw13766804370625094399 tw4713348024779324923 tw7483294456855915025 tw11564139718091476341 tw16453134429451198609 tw10562527220572389055 tw15015204563899134205 tw9935298902390982791 tw2671471770816400994 tw8811348376769969701 tw15824162729904257789 tw12701881350297121636 tw8209245479950975769 tw5695471982861328541 tw15820245672929970163 tw4364354874562799212 tw9377972658831084536 tw12489359562265942566 tw15859087470209350900 tw13030237045244209027 tw16206205653853617863 tw6664361397160879499 tw5032537996211518891 tw9947839225448284558 tw7131838380547852802 tw2049233932067504100 tw1833467719732483700 tw8200357854625032795 tw4540442384655826440 tw9032347593707791095 tw11430608885128292721 tw12573469635655184514 tw13022252854183498927 tw13144749930518262132 tw4714911137828949486 tw3001648399681432484 tw18007578168940220112 tw13167681525349577332 tw13923941831253840986 tw7577043883321464173 tw7225434415618411212 tw16828279082965011666 tw8898901225986880745 tw9314755839443518987
end PySem.W.Fast
set_option maxRecDepth 100000 in
set_option maxHeartbeats 0 in
theorem PySem.Challenge.cw_undercells_k81_polynomials_written_holds : PySem.Challenge.rw_undercells_k81_polynomials_written.Holds := by
 w_on;o_law;k_head;(case hw=>w_witness2)
 k_fill
 refine K81.walk (l:=PySem.Challenge.rw_undercells_k81_polynomials_written) rfl rfl (fun w h Y=>PySem.W.kIn_of Y) ?F
 case F=>
  intro w mg fa h KX G hmg;refine' K81.all_mk KX G hmg (.of ?_ ?_ ?_ ?_) (.of ?_ ?_ ?_ ?_) (.of ?_ ?_ ?_ ?_) (.of ?_ ?_ ?_ ?_) (.of ?_ ?_ ?_ ?_) (.of ?_ ?_ ?_ ?_) (.of ?_ ?_ ?_ ?_) (.of ?_ ?_ ?_ ?_) (.of ?_ ?_ ?_ ?_) (.of ?_ ?_ ?_ ?_) (.of ?_ ?_ ?_ ?_) (.of ?_ ?_ ?_ ?_) (.of ?_ ?_ ?_ ?_) (.of ?_ ?_ ?_ ?_) (.of ?_ ?_ ?_ ?_) (.of ?_ ?_ ?_ ?_) (.of ?_ ?_ ?_ ?_) (.of ?_ ?_ ?_ ?_) ?_ ?_ ?_ ?_ ?_ ?_ ?_ ?_ ?_ ?_ ?_ ?_ ?_ ?_ ?_ ?_ ?_ ?_ ?_
  any_goals first|k_is|kernel_rfl
