import PyProof.Rows.All
import Wide.All
import OpenK.AllK
import Wide.FinOn
import Lean
import PyProof.EqAt
import PyProof.EqKinds
import PyProof.TupleCall
import PySem.Challenge.RW_undercells_k15_words_with_numbers_left_o
set_option autoImplicit true
set_option relaxedAutoImplicit true
set_option Elab.async false
set_option linter.all false
set_option maxRecDepth 100000
set_option maxHeartbeats 4000000
local macro_rules|`(command|abbrev $n:declId $s:optDeclSig $v:declVal)=>`(command|noncomputable def $n:declId $s:optDeclSig $v:declVal)|`(command|meta abbrev $n:declId $s:optDeclSig $v:declVal)=>`(command|@[reducible]noncomputable def $n:declId $s:optDeclSig $v:declVal)
local macro_rules|`(∅)=>`(by decide +kernel)
local macro_rules|`(⋯)=>`(by decide)
local macro_rules|`(tactic|dsimp[$l,*])=>`(tactic|simp only[$l,*])|`(tactic|dsimp[$l,*]$o:location)=>`(tactic|simp only[$l,*]$o:location)
local macro_rules(kind:=Lean.Parser.Term.structInst)|`({})=>`({cls:=.type "list",data:=.seq ([]:List PySem.Value).toArray})
set_option hygiene false
local macro_rules|`(tactic|z_go)=>`(tactic|obtain⟨ρ,S,τ,R,r,h⟩:=h9)
local macro_rules|`(tactic|x_go)=>`(tactic|intro X hP hw hK hc i pins s σ H E I hf st hg)
local macro_rules|`(tactic|w_up)=>`(tactic|intro pins s σ H Q I h)
local macro_rules|`(tactic|k_ne)=>`(tactic|obtain⟨ρ,S,a,b,R,va,vb,h⟩:=h9)
local macro_rules|`(tactic|kt_k)=>`(tactic|intro pins s σ H xs us Q I r h)
local macro_rules|`(tactic|kd_p)=>`(tactic|intro pins s σ H x y v u Q I rx ry h)
local macro_rules|`(tactic|gn_on)=>`(tactic|obtain⟨f0,f1,f2,f3,f4,f5⟩:=hf it (by simp))
local macro_rules|`(tactic|gp_on)=>`(tactic|refine⟨ρ,S,τ,R,r,iT (iV h) .refl λa S1 h1 ρ1 H1 x e1 R1 v1=>⟨ρ1,S1,τ,R1,r.ext e1,iT (iV h1) e1 λb S2 h2 ρ2 H2 y e2 R2 v2=>?_⟩⟩)
local macro_rules|`(tactic|kj_on)=>`(tactic|refine aF (d7 (bY (name:=Str.ofString "__next__") ty jW (cj jW ty rK ?_ (se _)))))
local macro_rules|`(tactic|kcf_m)=>`(tactic|obtain⟨xs,hn,h⟩:=jb h)
local macro_rules|`(tactic|kcj_m)=>`(tactic|exact⟨ρ1,S1,τ,R1,r.ext e1,iT h1 e1 λ_ _ z=>z.ext e1⟩)
local macro_rules|`(tactic|kpc_g)=>`(tactic|intro pins s σ H D I h)
local macro_rules|`(tactic|kpf_c)=>`(tactic|obtain⟨w,rfl,ρ,S,x,R,hv,h⟩:=NF h0)
local macro_rules|`(tactic|ksr_p)=>`(tactic|obtain⟨⟨old,st1⟩,st2⟩:=st)
local macro_rules|`(tactic|kst_p)=>`(tactic|obtain⟨ρ,S,τ,R,r,h⟩:=h)
local macro_rules|`(tactic|kln_w)=>`(tactic|exact I1.yM (aN _) (I1.hok.fresh (aN _)))
local macro_rules|`(tactic|kl_no)=>`(tactic|obtain⟨u,rfl,rx⟩:=vals1 r)
local macro_rules|`(tactic|mg_lt)=>`(tactic|refine aQ (wpS_lift (c7 ⟨rfl,?_⟩)))
local macro_rules|`(tactic|cb_eq)=>`(tactic|obtain⟨t,rfl⟩:=rx)
local macro_rules|`(tactic|o_rec)=>`(tactic|refine aF (br (aH ⟨_,rfl, "set_iterator",_,⟨_,aU _ rfl,rfl⟩,jW.lookup,?_⟩)))
local macro_rules|`(tactic|f_are)=>`(tactic|refine aQ (jn (kr hy) ?_))
set_option hygiene true
local macro_rules|`(())=>`(by lia)
@[reducible]def ag:=List Int
@[reducible]def am:=List Nat
@[reducible]def ar:=List PySem.Str
@[reducible]def ba:=List PySem.Value
@[reducible]def bb:=List PySem.Addr
@[reducible]def bd:=Option PySem.Value
@[reducible]def bi:=Option Int
@[reducible]def bj:=Option Bool
@[reducible]def bo:=Option Nat
@[reducible]def bp:=List<|PySem.Addr×PySem.Obj
def aF:=@PySem.wpAny_bind
def aG:=@List.getElem?_eq_getElem
def aH:=@PySem.wpAny_pure
def aI:=@List.getElem?_eq_some_iff
def aJ:=@PySem.Heap.get?_push_of_some
def aK:=@List.length_map
def aL:=@if_neg
def aM:=@if_pos
def aN:=@Nat.le_refl
def aO:=@List.getD_eq_getElem?_getD
def aP:=@List.size_toArray
def aQ:=@PyProof.Rows.wpS_bind
def aR:=@List.mem_cons_self
def aS:=@Option.some.inj
def aT:=@List.mem_cons_of_mem
def aU:=@PySem.Heap.get?_push_size
def aV:=@PySem.Heap.lt_size
def aW:=@PyProof.Rows.wpS_pure
def aX:=@Bool.false_ne_true
def aY:=@List.length_append
def aZ:=@Nat.ne_of_lt
def a_:=@List.getElem?_map
def bf:=@List.mem_of_getElem?
def bg:=@List.forall_mem_cons
def bh:=@List.mem_singleton
def bq:=@List.length_cons
def br:=@PySem.wpAny_newObj_type
def bu:=@Option.map_eq_some_iff
def bw:=@List.length_set
def bx:=@Nat.lt_of_lt_of_le
def bz:=@beq_self_eq_true
def bA:=@Bool.false_eq_true
def bB:=@List.mem_cons
def bC:=@List.mem_append
def bD:=@Array.length_toList
def bE:=@Int.toNat_natCast
def bF:=@List.mem_append_right
def bG:=@List.getElem?_eq_none
def bH:=@decide_eq_true
def bI:=@PySem.W.mg_none_of
def bJ:=@List.length_take
def bK:=@List.mem_of_mem_take
def bL:=@decide_eq_false
def bM:=@List.getElem?_append_left
def bN:=@Array.getElem?_eq_getElem
def bO:=@PySem.Heap.get?_update_self
def bP:=@PySem.Obj.data_mapFields
def bQ:=@List.getElem?_set_self
def bR:=@List.getElem?_set_ne
def bS:=@List.append_assoc
def bT:=@PySem.wpAny_setState_of
def bU:=@List.drop_eq_getElem_cons
def bV:=@Bool.and_eq_true
def bW:=@List.length_range
def bX:=@Nat.le_trans
def bY:=@PySem.wpAny_callSpecial?_slot
def bZ:=@PySem.Heap.SameBut.update
def b5:=@List.append_nil
def b6:=@List.mem_append_left
def b7:=@PySem.Heap.get?_update_other
def b8:=@List.pairwise_append
def b9:=@PyProof.Rows.slot_tuple_getitem
def b_:=@PyProof.Rows.wpS_forRange
def cg:=@PySem.W.kia_one
def cj:=@PySem.wpAny_call_entry
def ck:=@PySem.wpAny_truthy_bool
def cu:=@PySem.wpAny_holding
def cC:=@List.length_drop
def cD:=@List.getElem_mem
def cE:=@Nat.zero_le
def cF:=@PySem.Obj.isFreed_of_fields
def cG:=@Ne.symm
def cH:=@List.ext_getElem?
def cI:=@List.length_eq_zero_iff
def cJ:=@Option.bind_eq_some_iff
def cK:=@if_false
def cL:=@List.pairwise_cons
def cM:=@List.map_append
def cN:=@List.pairwise_iff_getElem
def cO:=@List.replicate_succ
def cP:=@PySem.W.mg_of
def cQ:=@List.map_set
def cR:=@PySem.PassesOwn.never
def cS:=@PySem.wpAny_mono
def cT:=@PySem.F.called_set
def cU:=@PySem.wpAny_field
def cV:=@PySem.Around.under_plainId
def cW:=@PyProof.Rows.callWith_type1
def cX:=@List.mem_range
def cY:=@PySem.wpAny_setField
def cZ:=@List.take_of_length_le
def c5:=@PySem.codeAny_builtin
def c6:=@List.getElem?_toArray
def c7:=@PySem.wpAny_rule
def c8:=@Option.getD_some
def c9:=@Nat.lt_succ_self
def c_:=@List.getElem_map
def dc:=@PySem.AutoSeq1.wpAny_loadPart'
def dg:=@PySem.F.slot_list_append
def dh:=@PySem.F.type_list_append
def di:=@PySem.Heap.size_push
def dj:=@List.reverse_cons
def dw:=@List.flatten_cons
def dz:=@of_decide_eq_true
def dB:=@List.nodup_cons
def dD:=@PySem.W.hideAll_get
def dF:=@PySem.mem_of_lookup
def dG:=@PyProof.Rows.wpS_mono
def dH:=@List.getElem?_range
def dI:=@PyProof.Rows.F.plain_set_update_loop
def dJ:=@if_true
def dM:=@List.map_map
def dN:=@PySem.sizeLine_eq
def dO:=@List.map_cons
def dP:=@PySem.F.slot_tuple_iterator_next
def dQ:=@Array.getElem?_eq_some_iff
def dR:=@Array.getElem?_toList
def dS:=@List.findIdx?_eq_some_iff_getElem
def dU:=@PySem.wpAny_passesOwn
def dW:=@List.take_succ_eq_append_getElem
def dX:=@List.mem_of_mem_drop
def dY:=@Int.le_refl
def dZ:=@Nat.lt_irrefl
def d7:=@PySem.wpAny_attempt
def d8:=@Bool.not_true
def d9:=@List.filterMap_cons
def d_:=@List.getElem_inj
def ee:=@List.getElem?_replicate
def ef:=@Option.bind_some
def eB:=@PySem.W.of_hideAll
def eE:=@PySem.codeAny_mono
def eF:=@List.mem_map
def eG:=@Nat.zero_add
def eK:=@PyProof.Rows.wpS_modify
def eL:=@Array.getElem?_eq_none
def eN:=@List.set_append_right
def eO:=@List.take_append_drop
def eS:=@PySem.Obj.cls_mapFields
def eT:=@Nat.lt_succ_of_lt
def eU:=@PySem.Calls.evalArgs_plain
def eV:=@PySem.Value.type.inj
def eW:=@List.getElem_toArray
def eX:=@List.take_zero
def eY:=@List.length_eraseIdx_of_lt
def eZ:=@Nat.le_of_not_lt
def e8:=@List.lookup_cons
def e9:=@List.range'_succ
def e_:=@PyProof.Rows.F.entry_set_update_loop
def ff:=@List.map_congr_left
def fh:=@Option.isSome_iff_exists
def fj:=@List.getElem?_take_of_lt
def fm:=@PySem.F.args_tuple_add_2
def fq:=@PySem.plainId_quiet
def fu:=@List.sum_cons
def fB:=@PySem.wpAny_execs_nil
def fC:=@Nat.not_lt_zero
def fD:=@PySem.wpAny_pyIter_tuple
def fE:=@List.mem_filterMap
def fF:=@beq_iff_eq
def fG:=@List.getElem?_drop
def fH:=@List.getElem_range
def fJ:=@Int.emod_lt_of_pos
def fK:=@PySem.F.entry_tuple_add
def fL:=@List.pairwise_singleton
def fM:=@congrArg
def fN:=@Nat.ne_of_gt
def fO:=@PySem.wpAny_pyIter_list
def fP:=@PySem.F.slot_tuple_add
def fQ:=@PySem.Calls.callWith_builtin
def fR:=@List.pairwise_map
def fS:=@List.pairwise_lt_range
def fU:=@PySem.wpAny_seqItems
def fV:=@PySem.wpAny_pyIter_enum
def fW:=@PyProof.Rows.wpS_get
def fX:=@Array.getElem?_extract
def fY:=@List.range_succ_eq_map
def fZ:=@List.Perm.refl
def f6:=@Nat.lt_of_succ_lt_succ
def f7:=@List.getElem?_set
def f9:=@Array.getElem?_setIfInBounds_ne
def f_:=@List.length_replicate
def gb:=@List.length_filter_le
def gc:=@PySem.builtinLookup_eq_fast
def gf:=@PySem.wpAny_isInstance
def gh:=@List.prefix_refl
def gq:=@List.ext_getElem
def gr:=@Nat.add_assoc
def gu:=@List.range_eq_range'
def gz:=@PySem.wpAny_of_eq
def gC:=@PySem.Sem.wp_pure
def gD:=@List.getElem?_of_mem
def gE:=@List.foldl_cons
def gF:=@List.length_nil
def gG:=@Int.emod_nonneg
def gH:=@Option.map_some
def gI:=@List.length_reverse
def gJ:=@List.flatMap_append
def gK:=@PySem.wpAny_typeOf
def gM:=@Nat.sub_self
def gO:=@PySem.wpAny_Call_Name_kw
def gP:=@List.getElem?_append_right
def gQ:=@PySem.Heap.IsSliceOf.new
def gR:=@PySem.call_meets
def gS:=@PySem.wpAny_runValue
def gT:=@Bool.not_false
def gU:=@List.drop_zero
def gW:=@List.prefix_append
def gX:=@PySem.isSubtype_type
def gY:=@PySem.wpAny_fieldsOf
def gZ:=@List.map_replicate
def g7:=@Nat.mul_le_mul
def g8:=@PySem.Value.isInt_shape
def g9:=@PySem.slot_list_getitem
def g_:=@Nat.le_succ
def h_:=@Array.toList_push
def ie:=@List.nodup_append
def ig:=@decide_eq_true_eq
def ir:=@List.flatMap_cons
def iu:=@PySem.wpAny_standAt
def iw:=@PySem.evalPart_none
def iy:=@List.all_cons
def iz:=@PySem.wpAny_handled
def iA:=@List.all_eq_true
def iB:=@List.filter_cons
def iC:=@List.countP_cons
def iD:=@Nat.le_of_lt
def iE:=@PySem.wpAny_call
def iF:=@Nat.sub_zero
def iG:=@List.mem_filter
def iH:=@List.of_mem_zip
def iI:=@Int.le_antisymm
def iJ:=@List.filter_map
def iK:=@Nat.le_antisymm
def iL:=@Bool.and_false
def iM:=@Array.size_zip
@[reducible]def aa:=PySem.Value
@[reducible]def af:=PySem.World
@[reducible]def ah:=PySem.Program
@[reducible]def aj:=PySem.Addr
@[reducible]def ak:=PySem.Heap
@[reducible]def au:=PySem.W.Frag
@[reducible]def az:=PySem.Around
@[reducible]def aA:=PySem.Shared
@[reducible]def aC:=PySem.Expr
@[reducible]def aE:=PySem.Stmt
def anI{a b:Prop}(h:a)(k:b):a/\b:=⟨h,k⟩
open Array (size_map)
open List (all_map map_drop map_take)
open Nat (lt_or_ge mod_lt)
open Option (getD_none)
namespace L2
open PySem PySem.Spec PyProof.Rows
meta abbrev Key:=Sum Int Str
abbrev LH:Key->aa->Bool
 | .inl k,v=>Value.isInt k v
 | .inr x,v=>Value.isStrOf x v
abbrev RJ (w:af):Key->Int
 | .inl k=>hashInt k
 | .inr x=>hashStr w x
def jK:∀{k:Key}{v:aa},LH k v=true->(∃i t,k=Sum.inl i/\v=Value.int i t)\/(∃x t,k=Sum.inr x/\v=Value.str x t)
 | .inl i,v,h=>by
  obtain⟨t,e⟩:=g8 (k:=i) (v:=v) h;exact .inl ⟨i,t,rfl,e⟩
 | .inr x,v,h=>by
  obtain⟨t,e⟩:=Value.isStrOf_shape (x:=x) (v:=v) h;exact .inr ⟨x,t,rfl,e⟩
def NW(a b:Int):decide ((Sum.inl a:Key)=Sum.inl b)=(a == b):=by
 by_cases e:a=b
 ·subst e;simp
 ·have h:¬(Sum.inl a:Key)=Sum.inl b:=λq=>e<|Sum.inl.inj q;rw[bL h];exact(beq_eq_false_iff_ne.mpr e).symm
def OD(a b:Str):decide ((Sum.inr a:Key)=Sum.inr b)=decide (a=b):=by
 by_cases e:a=b
 ·subst e;simp
 ·have h:¬(Sum.inr a:Key)=Sum.inr b:=λq=>e<|Sum.inr.inj q;rw[bL h,bL e]
def OF(a:Int)(b:Str):decide ((Sum.inl a:Key)=Sum.inr b)=false:=bL λq=>nomatch q
def N5(a:Str)(b:Int):decide ((Sum.inr a:Key)=Sum.inl b)=false:=bL λq=>nomatch q
abbrev xV (prog:ah)(w:af):PySem.KeyKind prog w Key where
 is:=LH
 hash:=RJ w
 inj:=λv a b ha hb=>by
  rcases jK ha with⟨i,t,rfl,rfl⟩|⟨x,t,rfl,rfl⟩
  ·rcases jK hb with⟨j,u,rfl,e⟩|⟨y,u,rfl,e⟩
   ·injection e with e1 _;rw[e1]
   ·exact nomatch e
  ·rcases jK hb with⟨j,u,rfl,e⟩|⟨y,u,rfl,e⟩
   ·exact nomatch e
   ·injection e with e1 _;rw[e1]
 byValue:=λk v h=>by
  rcases jK h with⟨i,t,rfl,rfl⟩|⟨x,t,rfl,rfl⟩<;>rfl
 pyHash:=λhv h=>by
  rcases jK hv with⟨i,t,rfl,rfl⟩|⟨x,t,rfl,rfl⟩
  ·exact wpAny_pyHash_int h
  ·exact wpAny_pyHash_str h
 eqBool:=λhu hv h=>by
  rcases jK hu with⟨i,t,rfl,rfl⟩|⟨x,t,rfl,rfl⟩
  ·rcases jK hv with⟨j,u,rfl,rfl⟩|⟨y,u,rfl,rfl⟩
   ·rw[NW]at h;exact wpAny_eqBool_int h
   ·rw[OF]at h;exact SeqAt.EqAt.int_str i t y u _ _ _ _ h
  ·rcases jK hv with⟨j,u,rfl,rfl⟩|⟨y,u,rfl,rfl⟩
   ·rw[N5]at h;exact SeqAt.EqAt.str_int x t j u _ _ _ _ h
   ·rw[OD]at h;exact wpAny_eqBool_str h
 «strs»:=λk x t v h=>by
  rcases jK h with⟨i,u,rfl,e⟩|⟨y,u,rfl,e⟩
  ·exact nomatch e
  ·injection e with e1 _
   subst e1
   cases v<;>rfl
inductive V where
 | non|bl (b:Bool)|int (i:Int)|str (x:Str)|byt (b:Array UInt8)|flt (b:UInt64)|ref (a:aj)|ty (n:String)
 deriving DecidableEq
abbrev RelV:V->aa->Prop
 | .non,u=>u=Value.none
 | .bl b,u=>u=Value.bool b
 | .int i,u=>∃t,u=Value.int i t
 | .str x,u=>∃t,u=Value.str x t
 | .byt b,u=>∃t,u=Value.bytes b t
 | .flt b,u=>∃t,u=Value.float b t
 | .ref a,u=>u=Value.ref a
 | .ty n,u=>u=Value.type n
meta abbrev Vals:List V->ba->Prop:=Paired RelV
def Vals.length{xs:List V}{us:ba}(r:Vals xs us):xs.length=us.length:=Paired.length r
theorem Vals.get:∀{xs:List V}{us:ba}{i:Nat}{x:V},Vals xs us->xs[i]?=some x->∃u,us[i]?=some u/\RelV x u
 | _,_,_,_,.nil,e=>by simp at e
 | _,_,0,_,.cons r _,e=>by simp at e;subst e;exact⟨_,rfl,r⟩
 | _,_,i+1,x,.cons _ t,e=>by
  obtain⟨u,h1,h2⟩:=Vals.get (i:=i) (x:=x) t (by simpa using e);exact⟨u,by simpa using h1,h2⟩
theorem Vals.set{x:V}(r:RelV x u):∀{xs:List V}{us:ba}(i:Nat),Vals xs us->Vals (xs.set i x) (us.set i u)
 | _,_,_,.nil=>.nil
 | _,_,0,.cons _ t=>.cons r t
 | _,_,i+1,.cons q t=>.cons q<|Vals.set r i t
theorem Vals.append:∀{xs ys:List V}{us ws:ba},Vals xs us->Vals ys ws->Vals (xs++ys) (us++ws)
 | _,_,_,_,.nil,s=>s
 | _,_,_,_,.cons r t,s=>.cons r<|Vals.append t s
theorem Vals.take:∀{xs:List V}{us:ba}(n:Nat),Vals xs us->Vals (xs.take n) (us.take n)
 | _,_,0,_=>.nil
 | _,_,_+1,.nil=>.nil
 | _,_,n+1,.cons r t=>.cons r<|Vals.take n t
theorem Vals.drop:∀{xs:List V}{us:ba}(n:Nat),Vals xs us->Vals (xs.drop n) (us.drop n)
 | _,_,0,r=>r
 | _,_,_+1,.nil=>.nil
 | _,_,n+1,.cons _ t=>Vals.drop n t
abbrev Oe:Option V->bd->Prop
 | some v,some u=>RelV v u
 | none,none=>True
 | _,_=>False
abbrev KV {κ:Type}:List (κ×V)->List (κ×aa)->Prop:=Paired λ(p:κ×V) (q:κ×aa)=>p.1=q.1/\RelV p.2 q.2
abbrev kV:Key->V
 | .inl i=>.int i
 | .inr x=>.str x
inductive HO where
 | lst (xs:List V)
 | tup (xs:List V)
 | dK (kvs:List<|Key×V)|dT (kvs:List<|List Key×V)
 | set (S:Int->Bool) (n:Nat)
 | ins (C dx:aj) (fs:List<|Str×V)
 | own (x:aj)
 | xd (fs:List<|Str×V)
 | met (f x:aj)
 | rng (lo hi:Int)
 | frz (o:Obj) (u:HO)
 | tbl (ps:Array aa)
 | ext (φ:ak->Prop)
meta abbrev Hp:=aj->Option HO
abbrev upd (H:Hp)(a:aj)(o:HO):Hp:=λb=>if b=a then some o else H b
def jx{H:Hp}{a:aj}:upd H a o a=some o:=by unfold upd;rw[aM rfl]
def i6{H:Hp}{a:aj}(h:b≠a):upd H a o b=H b:=by unfold upd;rw[aL h]
def jd{H:Hp}{a:aj}(h:H a=some o)(h':H b=none):a≠b:=by
 intro e;subst e;rw[h]at h';cases h'
abbrev lV (h:ak)(a:aj)(items:Array aa):Prop:=∃o,h.get? a=some o/\o.cls=.type "tuple" /\ o.dict=none/\∃n,o.data=.seq items n
def lV.tup{a:aj}:lV h a items->IsTup h a items:=λ⟨o,e,c,_,n,d⟩=>⟨o,e,c,n,d⟩
def lV.new(h:ak)(items:Array aa):lV (h.push { cls:=.type "tuple",data:=.seq items }) h.objs.size items:=⟨_,aU _ rfl,rfl,rfl,_,rfl⟩
def lV.lt{h:ak}{a:aj}(x:lV h a items):a<h.objs.size:=let⟨_,ho,_⟩:=x;aV ho
section
variable (P:ah) (w:af)
abbrev j6 (H:Hp)(h:ak)(a:aj):HO->Prop
 | .lst xs=>xs.length<=sizeLine/\∃(its:ba) (n:Nat),Vals xs its/\h.get? a=some { cls:=.type "list",data:=.seq its.toArray n }
 | .tup xs=>xs.length<=sizeLine/\∃its:ba,Vals xs its/\lV h a its.toArray
 | .dK kvs=>kvs.length<=sizeLine/\(a == sysModules)=false/\∃vs,KV kvs vs/\h.DictOf (xV P w) a vs
 | .dT kvs=>kvs.length<=sizeLine/\(a == sysModules)=false/\∃xs:List<|List Key×aj×aa,
   Paired (λ(p:List Key×V) (q:List Key×aj×aa)=>p.1=q.1/\H q.2.1=some (.tup<|p.1.map kV)/\RelV p.2 q.2.2) kvs xs /\
   ∃o es ep,h.get? a=some o/\o.ExactDict/\o.data=.dict es ep/\es.toList=xs.map (entryOfKey<|tupleKind<|xV P w)/\(xs.map (·.1)).Nodup
 | .set S n=>h.SetOf (intKind P w) a S n
 | .ins C dx fs=>H dx=some (.own a)/\fs.length<=1000/\dx≠a/\h.get? a=some (PySem.W.instObj C dx) /\
   ∃mA,h.Ns1 dx mA/\(∀f,Oe (fs.lookup f)<|mA f)/\PySem.Within mA (fs.map (·.1))
 | .own _=>∃o,h.get? a=some o
 | .xd fs=>∃mA,h.Ns1 a mA/\∀f,Oe (fs.lookup f) (mA f)
 | .rng lo hi=>∃t u v,h.get? a=some { cls:=.type "range",data:=.fields #[.int lo t,.int hi u,.int 1 v]}
 | .frz o u=>h.get? a=some o/\j6 H h a u
 | .tbl ps=>h.get? a=some { cls:=.none,data:=.fields ps }
 | .met f x=>h.get? a=some (PySem.W.methodObj (.ref f)<|.ref x)
 | .ext φ=>φ h/\(∃o,h.get? a=some o)/\∀h1 h2:ak,φ h1->(∀o,h1.get? a=some o->h2.get? a=some o)->φ h2
abbrev sU (H:Hp)(h:ak):Prop:=∀a o,H a=some o->j6 P w H h a o
end
section
variable {P:ah}{w:af}{H H':Hp}{h h':ak}{a:aj}{o:HO}
def j6.lt(x:j6 P w H h a o):a<h.objs.size:=by
 cases o with
 | lst xs=>obtain⟨_,_,_,_,e⟩:=x;exact aV e
 | tup xs=>obtain⟨_,_,_,p⟩:=x;exact lV.lt p
 | dK kvs=>obtain⟨_,_,_,_,o,_,_,e,_⟩:=x;exact aV e
 | dT kvs=>obtain⟨_,_,_,_,o,_,_,e,_⟩:=x;exact aV e
 | set S n=>obtain⟨o,_,_,_,e,_⟩:=x;exact aV e
 | ins C dx fs=>obtain⟨_,_,_,e,_⟩:=x;exact aV e
 | own y=>obtain⟨_,e⟩:=x;exact aV e
 | xd fs=>obtain⟨_,⟨_,_,_,e,_⟩,_⟩:=x;exact aV e
 | rng lo hi=>obtain⟨_,_,_,e⟩:=x;exact aV e
 | frz ob u=>obtain⟨e,_⟩:=x;exact aV e
 | tbl ps=>exact aV (show h.get? a=some _ from x)
 | met f y=>exact aV (show h.get? a=some _ from x)
 | ext φ=>obtain⟨_,⟨_,e⟩,_⟩:=x;exact aV e
theorem Paired.O0{α β:Type}{F G:α->β->Prop}:∀{l₁:List α}{l₂:List β},Paired F l₁ l₂->(∀a b,F a b->G a b)->Paired G l₁ l₂
 | _,_,.nil,_=>.nil
 | _,_,.cons r t,f=>.cons (f _ _ r)<|Paired.O0 t f
def j6.stay(x:j6 P w H h a o)(k:∀b u,(b=a\/H b=some (.own a))->h.get? b=some u->h'.get? b=some u)
  (ho:∀b,H b=some (.own a)->H' b=some (.own a)) (ht:∀b xs,H b=some (.tup xs)->H' b=some (.tup xs)):j6 P w H' h' a o:=by
 induction o with
 | lst xs=>obtain⟨z,its,n,r,e⟩:=x;exact⟨z,its,n,r,k _ _ (.inl rfl) e⟩
 | tup xs=>obtain⟨z,its,r,ob,e,c⟩:=x;exact⟨z,its,r,ob,k _ _ (.inl rfl) e,c⟩
 | dK kvs=>obtain⟨z,y,vs,r,ob,es,ep,e,c⟩:=x;exact⟨z,y,vs,r,ob,es,ep,k _ _ (.inl rfl) e,c⟩
 | dT kvs=>
  obtain⟨z,y,xs,r,ob,es,ep,e,c⟩:=x;exact⟨z,y,xs,Paired.O0 r λp q z=>⟨z.1,ht _ _ z.2.1,z.2.2⟩,ob,es,ep,k _ _ (.inl rfl) e,c⟩
 | set S n=>obtain⟨ob,es,ep,t,e,c⟩:=x;exact⟨ob,es,ep,t,k _ _ (.inl rfl) e,c⟩
 | ins C dx fs=>
  obtain⟨d,z,ne,e,mA,⟨od,es,ep,e2,c⟩,r⟩:=x;exact⟨ho _ d,z,ne,k _ _ (.inl rfl) e,mA,⟨od,es,ep,k _ _ (.inr d) e2,c⟩,r⟩
 | own y=>obtain⟨ob,e⟩:=x;exact⟨ob,k _ _ (.inl rfl) e⟩
 | xd fs=>obtain⟨mA,⟨od,es,ep,e,c⟩,r⟩:=x;exact⟨mA,⟨od,es,ep,k _ _ (.inl rfl) e,c⟩,r⟩
 | rng lo hi=>obtain⟨t,u,v,e⟩:=x;exact⟨t,u,v,k _ _ (.inl rfl) e⟩
 | frz ob u ih=>obtain⟨e,q⟩:=x;exact⟨k _ _ (.inl rfl) e,ih q⟩
 | tbl ps=>
  have e:h.get? a=some { cls:=.none,data:=.fields ps }:=x
  skip
  exact k a _ (.inl rfl) e
 | met f y=>
  have e:h.get? a=some (PySem.W.methodObj (.ref f)<|.ref y):=x
  skip
  exact k a _ (.inl rfl) e
 | ext φ=>obtain⟨p,⟨o,e⟩,st⟩:=x;exact⟨st _ _ p λo q=>k _ _ (.inl rfl) q,⟨o,k _ _ (.inl rfl) e⟩,st⟩
def sU.lt(x:sU P w H h)(e:H a=some o):a<h.objs.size:=(x a o e).lt
def sU.fresh(x:sU P w H h)(e:h.objs.size<=a):H a=none:=by
 cases q:H a with
 | none=>rfl
 | some u=>exact absurd (bx (x.lt q) e)<|dZ _
def sU.kept(x:sU P w H h)(k:∀b u,h.get? b=some u->h'.get? b=some u):sU P w H h':=λa o e=>
 (x a o e).stay (λb u _ q=>k b u q) (λ_ q=>q) λ_ _ q=>q
def sU.laid(x:sU P w H h)(k:∀b u,h.get? b=some u->h'.get? b=some u)(hp:h.objs.size<=a)(new:j6 P w (upd H a o) h' a o):sU P w (upd H a o) h':=λb u e=>by
 have hn:=x.fresh hp;by_cases hb:b=a
 ·subst hb;rw[jx]at e;cases e;exact new
 ·rw[i6 hb]at e;exact(x b u e).stay (λc v _ q=>k c v q) (λc q=>by rw[i6<|jd q hn];exact q) λc xs q=>by rw[i6<|jd q hn];exact q
end
abbrev Rd (H:Hp)(a:aj)(u:HO):Prop:=H a=some u\/∃o,H a=some (.frz o u)
def Rd.ok{P:ah}{w:af}{H:Hp}{a:aj}(r:Rd H a u)(x:sU P w H h):j6 P w H h a u:=by
 rcases r with r|⟨o,r⟩
 ·exact x a u r
 ·obtain⟨_,q⟩:=x a _ r;exact q
abbrev QK:Option HO->Prop
 | some (.lst _)=>True
 | some (.dK _)=>True
 | some (.dT _)=>True
 | some (.set _ _)=>True
 | some (.ins _ _ _)=>True
 | some (.ext _)=>True
 | _=>False
section
variable {P:ah}{w:af}{H:Hp}{h h':ak}{x e:aj}{o':HO}
def sU.write(ok:sU P w H h)(mu:QK<|H x)(he:e=x\/H e=some (.own x))(k:∀b u,b≠e->h.get? b=some u->h'.get? b=some u)(heo:∃u,h'.get? e=some u)
  (new:j6 P w (upd H x o') h' x o'):sU P w (upd H x o') h':=λb u q=>by
 have nown:∀c y,H c=some (.own y)->c≠x:=λc y r z=>by subst z;rw[r]at mu;exact mu
 have ntup:∀c xs,H c=some (.tup xs)->c≠x:=λc xs r z=>by subst z;rw[r]at mu;exact mu
 by_cases hb:b=x
 ·subst hb;rw[jx]at q;cases q;exact new
 ·rw[i6 hb]at q;by_cases hbe:b=e
  ·have q':H b=some (.own x):=by
    rcases he with z|z
    ·exact absurd (hbe.trans z) hb
    ·rw[hbe];exact z
   rw[q]at q';cases q';obtain⟨v,hv⟩:=heo;exact⟨v,by rw[hbe];exact hv⟩
  ·refine(ok b u q).stay (λc v hc r=>k c v ?_ r) (λc r=>by rw[i6<|nown c b r];exact r) λc xs r=>by rw[i6<|ntup c xs r];exact r
   rcases hc with rfl|hc
   ·exact hbe
   ·rintro rfl
    rcases he with z|z
    ·exact nown c b hc z
    ·rw[hc]at z;cases z;exact hb rfl
end
structure Un (fs ex:bb)(H H':Hp)(h h':ak):Prop where
 keep:∀b o,h.get? b=some o->H b=none->b∉fs->b∉ex->h'.get? b=some o
 slot:∀b o,h.get? b=some o->H b=none->b∈fs->b∉ex->∃sl,h'.get? b=some { o with slots:=sl }
 free:∀b o,h.get? b=some o->H b=none->b∉ex->H' b=none
 there:∀b o,h.get? b=some o->b∉ex->∃o',h'.get? b=some o'
 tups:∀b xs,H b=some (.tup xs)->H' b=some (.tup xs)
 frzs:∀b o u,H b=some (.frz o u)->H' b=some (.frz o u)
 tbls:∀b ps,H b=some (.tbl ps)->∃more,H' b=some (.tbl<|ps++more)
section
variable {fs ex:bb}{H H1:Hp}{h h1 h':ak}{a x e:aj}{o:HO}
def Un.any(u:Un fs ex H H1 h h1){ob:Obj}(q:h.get? b=some ob)(n:H b=none)(hx:b∉ex):∃sl,h1.get? b=some { ob with slots:=sl }:=by
 by_cases hb:b∈fs
 ·exact u.slot b ob q n hb hx
 ·exact⟨ob.slots,u.keep b ob q n hb hx⟩
def Un.kept(k:∀b u,h.get? b=some u->h'.get? b=some u):Un fs ex H H h h':=
 ⟨λb ob q _ _ _=>k b ob q,λb ob q _ _ _=>⟨ob.slots,k b ob q⟩,λ_ _ _ n _=>n,λb ob q _=>⟨ob,k b ob q⟩,λ_ _ q=>q,λ_ _ _ q=>q,λ_ ps q=>⟨#[],by rw[q];simp⟩⟩
def Un.refl:Un fs ex H H h h:=Un.kept λ_ _ q=>q
def Un.laid(k:∀b u,h.get? b=some u->h'.get? b=some u)(hp:h.objs.size<=a)(hn:H a=none):Un fs ex H (upd H a o) h h' where
 keep:=λb u q _ _ _=>k b u q
 slot:=λb u q _ _ _=>⟨u.slots,k b u q⟩
 free:=λb u q n _=>by rw[i6<|aZ<|bx (aV q) hp];exact n
 there:=λb u q _=>⟨u,k b u q⟩
 tups:=λb xs q=>by rw[i6<|jd q hn];exact q
 frzs:=λb u xs q=>by rw[i6<|jd q hn];exact q
 tbls:=λb ps q=>⟨#[],by rw[i6<|jd q hn,q];simp⟩
def Un.write(mu:QK<|H x)(he:e=x\/H e=some (.own x))(k:∀b u,b≠e->h.get? b=some u->h'.get? b=some u)(heo:∃u,h'.get? e=some u):Un fs ex H (upd H x o) h h':=by
 have hx:∀b,H b=none->b≠x:=λb n z=>by subst z;rw[n]at mu;exact mu
 have hb:∀b,H b=none->b≠e:=λb n z=>by
  subst z
  rcases he with r|r
  ·exact hx b n r
  ·rw[n]at r;cases r
 have hm:∀b u,H b=some u->¬QK (some u)->b≠x:=λb u q nm z=>by subst z;rw[q]at mu;exact nm mu
 refine⟨λb u q n _ _=>k b u (hb b n) q,λb u q n _ _=>⟨u.slots,k b u (hb b n) q⟩,λb u q n _=>by rw[i6<|hx b n];exact n,λb u q _=>?_,
  λb xs q=>by rw[i6<|hm b _ q λz=>z];exact q,λb u xs q=>by rw[i6<|hm b _ q λz=>z];exact q,λb ps q=>⟨#[],by rw[i6<|hm b _ q λz=>z,q];simp⟩⟩
 by_cases hbe:b=e
 ·subst hbe;exact heo
 ·exact⟨u,k b u hbe q⟩
end
abbrev QI (h:ak)(H:Hp):bb:=(List.range h.objs.size).filter λa=>(H a).isSome
abbrev yD (h:ak)(H:Hp):ak:=PySem.W.hideAll h<|QI h H
def EW(h:ak)(H:Hp):(yD h H).objs.size=h.objs.size:=PySem.W.hideAll_size _ _
def IT{h:ak}{H:Hp}(e:h.get? b=some o)(n:H b=none):(yD h H).get? b=some o:=
 dD _ e λhm=>by
  have q:(H b).isSome=true:=(iG.mp hm).2;rw[n]at q;simp at q
def K9{h:ak}{H:Hp}(e:(yD h H).get? b=some o):h.get? b=some o/\H b=none:=by
 have e':h.get? b=some o:=eB (QI h H) e;refine⟨e',?_⟩
 cases q:H b with
 | none=>rfl
 | some x=>
  have hm:b∈QI h H:=iG.mpr ⟨cX.mpr<|aV e',by simp[q]⟩;have z:(yD h H).get? b=none:=PySem.W.hideAll_none (QI h H) hm;rw[z]at e;cases e
abbrev KJ (g h:ak)(L:aj):bp:=(List.range h.objs.size).filterMap λa=>if a=L\/(g.get? a).isSome=true then none else(h.get? a).map λo=>(a,o)
abbrev rest (g h:ak)(L d:aj):bp:=(KJ g h L).filter λp=>decide<|p.1≠d
structure Mod (K:au)(mg:Str->bd)(base:ak):Prop where
 kin:K.In base
 glob:base.Ns mainGlobals mg
 blt:∃mb,base.Ns builtinsNs mb/\∀x:Str,x ≠ "__name__" -> mb x=bootBuiltins x
 nolimit:base.NoLimit
structure Cx where
 prog:ah
 w:af
 K:au
 mg:Str->bd
 base:ak
 A:az
 N:ar
 s₀:aA
 H₀:Hp
 env:Env
 outer:List Env
 stack:List Env
 ex:bb
 fn:Str->Bool
 calm:Bool
 pn:bp
 xe:aa->aA->Prop
abbrev frs (l:List Env):bb:=l.filterMap (·.frame)
meta abbrev Cx.fs (X:Cx):bb:=frs X.outer
abbrev O8 (sc:Scope)(x:Str):Prop:=sc.names.lookup x=some .local\/sc.names.lookup x=some .cell\/sc.names.lookup x=some .free
abbrev Loc (sc:Scope)(x:Str):Prop:=sc.names.lookup x=some .local\/sc.names.lookup x=some .cell
abbrev Look (env:Env)(h:ak)(m:Str->bd)(x:Str)(u:aa):Prop:=
 (env.kindOf x=some .local/\m x=some u)\/((env.kindOf x=some .cell\/env.kindOf x=some .free)/\∃c,env.cells.lookup x=some c/\h.IsCell c (some u))
structure Cx.Ok (X:Cx):Prop where
 mod:Mod X.K X.mg X.base
 kind:X.env.scope.kind=.function
 glob:X.env.globals=mainGlobals
 blt:X.env.builtins=builtinsNs
 above:X.s₀.heap.objs.size<=X.env.locals
 inj:∀x y c,X.env.cells.lookup x=some c->X.env.cells.lookup y=some c->x=y
 has:∀x,(X.env.kindOf x=some .cell\/X.env.kindOf x=some .free)->∃c,X.env.cells.lookup x=some c
 cab:∀x c,X.fn x=true->X.env.cells.lookup x=some c->X.s₀.heap.objs.size<=c
 hd:X.calm=true->X.A.handled=none
 frames:X.A.frames=some X.stack
 stk:X.stack=X.outer\/(X.stack=X.env::X.outer/\X.env.frame=some X.env.locals)
 exf:∀b∈X.ex,b≠X.env.locals/\∀x c,X.env.cells.lookup x=some c->c≠b
 bs:∀b o,X.base.get? b=some o->X.s₀.heap.get? b=some o/\X.H₀ b=none
 bsz:X.base.objs.size<=X.s₀.heap.objs.size
 noex:∀b o,X.base.get? b=some o->b∉X.ex
 exfs:∀b∈X.ex,b∉X.fs
 pV:X.s₀.heap.FunFrames X.base X.outer
 frf:∀b∈X.fs,X.H₀ b=none
structure Inv (X:Cx)(pins:bp)(σ:List (Option V))(H:Hp)(s:aA):Prop where
 ok:X.Ok
 os:s.os=X.s₀.os
 bare:AllBare s.gens
 base:Un X.fs X.ex X.H₀ H X.s₀.heap s.heap
 loc:∃m,s.heap.Ns X.env.locals m/\∀(i:Nat) (x:Str) (v:V),X.N[i]?=some x->σ[i]?=some (some v)->O8 X.env.scope x->∃u,RelV v u/\Look X.env s.heap m x u
 cell:∀x c,X.env.cells.lookup x=some c->∃v,s.heap.IsCell c v
 free:H X.env.locals=none
 freeC:∀x c,X.env.cells.lookup x=some c->H c=none
 pin:∀p∈X.pn++pins,s.heap.get? p.1=some p.2/\H p.1=none/\p.1≠X.env.locals/\p.1∉X.fs/\∀v,p.2.data≠.cell v
 hok:sU X.prog X.w H s.heap
 len:σ.length=X.N.length
section
variable {X:Cx}{pins:bp}{σ:List (Option V)}{H H':Hp}{s:aA}{h':ak}
def Cx.Ok.Rr(ok:X.Ok)(e:X.base.get? b=some o):b∉X.fs:=λhb=>by
 have:=(ok.pV.mem hb).1;rw[e]at this;cases this
def Inv.bs(I:Inv X pins σ H s):∀b o,X.base.get? b=some o->s.heap.get? b=some o/\H b=none:=λb o e=>
 ⟨I.base.keep b o (I.ok.bs b o e).1 (I.ok.bs b o e).2 (I.ok.Rr e)<|I.ok.noex b o e,I.base.free b o (I.ok.bs b o e).1 (I.ok.bs b o e).2<|I.ok.noex b o e⟩
def Inv.bk(I:Inv X pins σ H s):∀b o,X.base.get? b=some o->s.heap.get? b=some o:=λb o e=>(I.bs b o e).1
def Inv.mod(I:Inv X pins σ H s):Mod X.K X.mg X.base:=I.ok.mod
def Inv.wD(I:Inv X pins σ H s):X.K.In s.heap:=I.ok.mod.kin.keeps I.bk
def Inv.lt(I:Inv X pins σ H s):X.env.locals<s.heap.objs.size:=let⟨_,hn,_⟩:=I.loc;hn.lt
def Inv.sz(I:Inv X pins σ H s):X.s₀.heap.objs.size<=s.heap.objs.size:=bX I.ok.above<|iD I.lt
def Inv.Rw(I:Inv X pins σ H s){a:aj}(h:s.heap.objs.size<=a):a∉X.fs:=λhb=>by
 obtain⟨_,o,ho,_⟩:=I.ok.pV.mem hb;exact absurd (bx (aV ho)<|bX I.sz h)<|dZ _
def Inv.JJ(I:Inv X pins σ H s):∀x c,X.env.cells.lookup x=some c->c≠X.env.locals:=λx c e z=>by
 obtain⟨v,o,ho,hd⟩:=I.cell x c e;obtain⟨m,⟨o',es,ep,ho',hd',_⟩,_⟩:=I.loc;rw[z,ho']at ho;cases ho;rw[hd']at hd;cases hd
def Inv.pV(I:Inv X pins σ H s):s.heap.FunFrames X.base X.outer:=by
 have all:∀(l:List Env),(∀b∈frs l,b∈X.fs)->X.s₀.heap.FunFrames X.base l->s.heap.FunFrames X.base l:=by
  intro l
  induction l with
  | nil=>intro _ _;trivial
  | cons env r ih=>
   intro hs hl;obtain⟨hk,⟨L,o,hf,hn,ho,hd⟩,hr⟩:=hl;have hL:L∈X.fs:=hs L (by unfold frs;rw[d9,hf];exact aR);obtain⟨sl,e⟩:=I.base.slot L o ho (I.ok.frf L hL) hL λz=>I.ok.exfs L z hL;exact⟨hk,⟨L,_,hf,hn,e,hd⟩,ih (λb hb=>hs b<|by unfold frs;rw[d9,hf];exact aT _ hb) hr⟩
 exact all X.outer (λ_ hb=>hb) I.ok.pV
def Inv.stack(I:Inv X pins σ H s):s.heap.FunFrames X.base X.stack:=by
 rcases I.ok.stk with e|⟨e,hf⟩
 ·rw[e];exact I.pV
 ·rw[e];obtain⟨m,hn,_⟩:=I.loc;refine .cons (by rw[I.ok.kind];decide) hf hn ?_ I.pV;exact Heap.get?_none_of_le<|bX I.ok.bsz I.ok.above
def Inv.wk(I:Inv X pins σ H s):∀b∈frs X.stack,b∈X.env.locals::X.fs:=λb hb=>by
 rcases I.ok.stk with e|⟨e,hf⟩
 ·rw[e]at hb;exact aT _ hb
 ·rw[e]at hb;unfold frs at hb;rw[d9,hf]at hb;exact hb
def Inv.uT(I:Inv X pins σ H s):∀b∈frs X.stack,H b=none:=λb hb=>by
 rcases bB.mp (I.wk b hb)with e|hb
 ·rw[e];exact I.free
 ·obtain⟨_,o,ho,_⟩:=I.ok.pV.mem hb;exact I.base.free b o ho (I.ok.frf b hb) λz=>I.ok.exfs b z hb
def Inv.step{g':Array GenState}{t':Nat}{d':Drawn}{ch:bb}(I:Inv X pins σ H s)
  (hch:∀b∈ch,(b∈X.ex\/X.s₀.heap.objs.size<=b)/\b≠X.env.locals/\(∀x c,X.env.cells.lookup x=some c->c≠b)/\∀p∈X.pn++pins,p.1≠b)
  (keep:∀b o,b≠X.env.locals->b∉X.fs->b∉ch->s.heap.get? b=some o->H b=none->h'.get? b=some o)
  (slot:∀b o,b≠X.env.locals->b∈X.fs->b∉ch->s.heap.get? b=some o->H b=none->∃sl,h'.get? b=some { o with slots:=sl }) (free:∀b o,b∉ch->s.heap.get? b=some o->H b=none->H' b=none)
  (there:∀b o,b∉ch->s.heap.get? b=some o->∃o',h'.get? b=some o')
  (tups:∀b xs,H b=some (.tup xs)->H' b=some (.tup xs)) (frzs:∀b o u,H b=some (.frz o u)->H' b=some (.frz o u)) (tbls:∀b ps,H b=some (.tbl ps)->∃more,H' b=some (.tbl<|ps++more))
  (ns:∀m,s.heap.Ns X.env.locals m->h'.Ns X.env.locals m) (hok:sU X.prog X.w H' h') (hg:AllBare g') :
  Inv X pins σ H' { s with heap:=h',gens:=g',drawn:=d',toks:=t' }:=by
 have neL:∀b o,X.s₀.heap.get? b=some o->b≠X.env.locals:=λb o e=>aZ<|bx (aV e) I.ok.above;have neC:∀b o,X.s₀.heap.get? b=some o->b∉X.ex->b∉ch:=λb o e hx hb=>by
  rcases(hch b hb).1 with z|z
  ·exact hx z
  ·exact absurd (bx (aV e) z)<|dZ _
 have cellK:∀x c,X.env.cells.lookup x=some c->∀v,s.heap.IsCell c v->h'.IsCell c v:=λx c e v ⟨o,ho,hd⟩=>by
  have nch:c∉ch:=λz=>(hch c z).2.2.1 x c e rfl;by_cases hc:c∈X.fs
  ·obtain⟨sl,q⟩:=slot c o (I.JJ x c e) hc nch ho<|I.freeC x c e;exact⟨_,q,hd⟩
  ·exact⟨o,keep c o (I.JJ x c e) hc nch ho<|I.freeC x c e,hd⟩
 refine⟨I.ok,I.os,hg,⟨λb o e n hb hx=>?_,λb o e n hb hx=>?_,λb o e n hx=>?_,λb o e hx=>?_,λb xs e=>tups b xs<|I.base.tups b xs e,λb o xs e=>frzs b o xs<|I.base.frzs b o xs e,λb ps e=>?_⟩,?_,λx c e=>?_,?_,λx c e=>?_,λp hp=>?_,hok,I.len⟩
 ·exact keep b o (neL b o e) hb (neC b o e hx) (I.base.keep b o e n hb hx) (I.base.free b o e n hx)
 ·obtain⟨sl,e1⟩:=I.base.slot b o e n hb hx;obtain⟨sl',e2⟩:=slot b _ (neL b o e) hb (neC b o e hx) e1<|I.base.free b o e n hx;exact⟨sl',e2⟩
 ·obtain⟨o',e1⟩:=I.base.there b o e hx;exact free b o' (neC b o e hx) e1 (I.base.free b o e n hx)
 ·obtain⟨o',e1⟩:=I.base.there b o e hx;exact there b o' (neC b o e hx) e1
 ·obtain⟨m1,e1⟩:=I.base.tbls b ps e;obtain⟨m2,e2⟩:=tbls b _ e1;exact⟨m1++m2,by rw[e2,Array.append_assoc]⟩
 ·obtain⟨m,hn,hl⟩:=I.loc;refine⟨m,ns m hn,λi x v e1 e2 e3=>?_⟩;obtain⟨u,r,l⟩:=hl i x v e1 e2 e3;refine⟨u,r,?_⟩
  rcases l with l|⟨k,c,e,z⟩
  ·exact .inl l
  ·exact .inr ⟨k,c,e,cellK x c e _ z⟩
 ·obtain⟨v,z⟩:=I.cell x c e;exact⟨v,cellK x c e v z⟩
 ·obtain⟨m,⟨o,_,_,ho,_⟩,_⟩:=I.loc;exact free _ o (λz=>(hch _ z).2.1 rfl) ho I.free
 ·obtain⟨v,o,ho,hd⟩:=I.cell x c e;exact free c o (λz=>(hch c z).2.2.1 x c e rfl) ho (I.freeC x c e)
 ·obtain⟨e,n,ne,nf,d⟩:=I.pin p hp;have nch:p.1∉ch:=λz=>(hch p.1 z).2.2.2 p hp rfl;exact⟨keep p.1 p.2 ne nf nch e n,free p.1 p.2 nch e n,ne,nf,d⟩
def Inv.un{t':Nat}(I:Inv X pins σ H s)(u:Un X.fs [] H H' s.heap h')(hok:sU X.prog X.w H' h'):Inv X pins σ H' { s with heap:=h',toks:=t' }:=by
 obtain⟨m,⟨o,es,ep,ho,r⟩,_⟩:=id I.loc;obtain⟨sl,hL⟩:=u.any ho I.free (by simp);exact I.step (g':=s.gens) (d':=s.drawn) (ch:=[]) (nofun) (λb o _ hb _ e n=>u.keep b o e n hb<|by simp) (λb o _ hb _ e n=>u.slot b o e n hb<|by simp) (λb o _ e n=>u.free b o e n<|by simp) (λb o _ e=>u.there b o e<|by simp) u.tups u.frzs u.tbls (λm' hm=>by
  obtain⟨o',es',ep',ho',r'⟩:=hm;rw[ho]at ho';cases ho';exact⟨_,es',ep',hL,r'⟩) hok I.bare
def Inv.call{g':Array GenState}{t':Nat}{d':Drawn}{ch:bb}(I:Inv X pins σ H s)(u:Un (frs X.stack) ch H H' s.heap h')(hok:sU X.prog X.w H' h')(hg:AllBare g')
  (hch:∀b∈ch,(b∈X.ex\/X.s₀.heap.objs.size<=b)/\b≠X.env.locals/\(∀x c,X.env.cells.lookup x=some c->c≠b)/\∀p∈X.pn++pins,p.1≠b) :
  Inv X pins σ H' { s with heap:=h',gens:=g',drawn:=d',toks:=t' }:=by
 obtain⟨m,⟨o,es,ep,ho,r⟩,_⟩:=id I.loc;obtain⟨sl,hL⟩:=u.any ho I.free λz=>(hch _ z).2.1 rfl;exact I.step (ch:=ch) hch (λb o hL hb hc e n=>u.keep b o e n (λz=>(bB.mp<|I.wk b z).elim hL hb) hc) (λb o _ _ hc e n=>u.any e n hc) (λb o hc e n=>u.free b o e n hc) (λb o hc e=>u.there b o e hc) u.tups u.frzs u.tbls (λm' hm=>by
  obtain⟨o',es',ep',ho',r'⟩:=hm;rw[ho]at ho';cases ho';exact⟨_,es',ep',hL,r'⟩) hok hg
def Inv.turned{t':Nat}{it:aj}(I:Inv X pins σ H s)(k:∀b o,b≠it->s.heap.get? b=some o->h'.get? b=some o)(hn:H it=none)(hL:it≠X.env.locals)
  (h1:it∈X.ex\/X.s₀.heap.objs.size<=it) (h2:∀x c,X.env.cells.lookup x=some c->c≠it) (h3:∀p∈X.pn++pins,p.1≠it):Inv X pins σ H { s with heap:=h',toks:=t' }:=by
 have nit:∀b u,H b=some u->b≠it:=λb u e z=>by rw[z,hn]at e;cases e
 refine I.step (g':=s.gens) (d':=s.drawn) (ch:=[it]) (λb hb=>?_) (λb o _ _ hc e _=>k b o (λz=>hc<|by simp[z]) e) (λb o _ _ hc e _=>⟨o.slots,k b o (λz=>hc<|by simp[z]) e⟩) (λ_ _ _ _ n=>n)
  (λb o hc e=>⟨o,k b o (λz=>hc<|by simp[z]) e⟩) (λ_ _ e=>e) (λ_ _ _ e=>e) (λb ps e=>⟨#[],by rw[e];simp⟩) (λm hm=>?_) (λb u e=>?_) I.bare
 ·have e:b=it:=by simpa using hb
  subst e;exact⟨h1,hL,h2,h3⟩
 ·obtain⟨o,es,ep,ho,r⟩:=hm;exact⟨o,es,ep,k _ o (cG hL) ho,r⟩
 ·refine(I.hok b u e).stay (λc v hc q=>k c v ?_ q) (λ_ q=>q) λ_ _ q=>q
  rcases hc with z|z
  ·rw[z];exact nit b u e
  ·exact nit c _ z
def Inv.tok(I:Inv X pins σ H s)(t:Nat):Inv X pins σ H { s with toks:=t }:=I.un (h':=s.heap) (t':=t) Un.refl I.hok
def Inv.kept{t':Nat}(I:Inv X pins σ H s)(k:∀b u,s.heap.get? b=some u->h'.get? b=some u):Inv X pins σ H { s with heap:=h',toks:=t' }:=I.un (Un.kept k)<|I.hok.kept k
def Inv.laid{a:aj}{t':Nat}(I:Inv X pins σ H s)(k:∀b u,s.heap.get? b=some u->h'.get? b=some u)(hp:s.heap.objs.size<=a)(new:j6 X.prog X.w (upd H a o) h' a o) :
  Inv X pins σ (upd H a o) { s with heap:=h',toks:=t' }:=I.un (Un.laid k hp<|I.hok.fresh hp)<|I.hok.laid k hp new
def Inv.write{x:aj}{t':Nat}(I:Inv X pins σ H s)(mu:QK<|H x)(he:e=x\/H e=some (.own x))(k:∀b u,b≠e->s.heap.get? b=some u->h'.get? b=some u)(heo:∃u,h'.get? e=some u)
  (new:j6 X.prog X.w (upd H x o) h' x o):Inv X pins σ (upd H x o) { s with heap:=h',toks:=t' }:=I.un (Un.write mu he k heo)<|I.hok.write mu he k heo new
def Inv.Du{pins':bp}(I:Inv X pins σ H s)(h:∀p∈pins',s.heap.get? p.1=some p.2/\H p.1=none/\p.1≠X.env.locals/\p.1∉X.fs/\∀v,p.2.data≠.cell v):Inv X pins' σ H s:=
 ⟨I.ok,I.os,I.bare,I.base,I.loc,I.cell,I.free,I.freeC,λp hp=>(bC.mp hp).elim (λz=>I.pin p<|b6 _ z)<|h p,I.hok,I.len⟩
def vn{N:ar}(hN:N.Nodup){i j:Nat}{x:Str}(a:N[i]?=some x)(b:N[j]?=some x):i=j:=by
 obtain⟨h1,e1⟩:=aI.mp a;obtain⟨h2,e2⟩:=aI.mp b;exact(d_ hN).mp (e1.trans e2.symm)
def Ej{A:az}{E:aa->aA->Prop}{i:Nat}{x:Str}{v:V}{Q:Unit->aA->Prop}(I:Inv X pins σ H s)(hN:X.N.Nodup)(hi:X.N[i]?=some x)(hx:Loc X.env.scope x)(r:RelV v u)
  (h:∀s',Inv X pins (σ.set i<|some v) H s'->(∃a,Heap.SameBut a s.heap s'.heap/\(a=X.env.locals\/X.env.cells.lookup x=some a))->Q Unit.unit s') (hf:X.fn x=true\/X.env.scope.names.lookup x=some .local:=by first|exact .inl rfl|exact .inr rfl|assumption):wpAny M A (storeName X.env x u) Q E s:=by
 obtain⟨m,hn,hl⟩:=id I.loc;have hcls:(X.env.scope.kind == .class || (X.env.scope.kind == .module && X.env.locals != X.env.globals))=false:=by rw[I.ok.kind];rfl
 have hiσ:i<σ.length:=by rw[I.len];exact(aI.mp hi).1
 have JJ:=I.JJ;have tracked:∀{a:aj} {h':ak},(∃o,s.heap.get? a=some o/\H a=none)->Heap.SameBut a s.heap h'->sU X.prog X.w H h':=λ{a h'} ha hs b ob e=>by
  obtain⟨_,_,hfree⟩:=ha;refine(I.hok b ob e).stay (λc w' hc q=>(hs.2 c ?_).trans q) (λ_ q=>q) λ_ _ q=>q;rintro rfl
  rcases hc with rfl|hc
  ·rw[hfree]at e;cases e
  ·rw[hfree]at hc;cases hc
 rcases hx with hk|hk
 ·refine wpAny_storeName_local hk hn (λh' hn' hs=>?_) hcls;obtain⟨oL,_,_,hoL,_⟩:=id hn;refine h _ ⟨I.ok,I.os,I.bare,⟨λb o e n hb hx=>?_,λb o e n hb hx=>?_,I.base.free,λb o e hx=>?_,I.base.tups,I.base.frzs,I.base.tbls⟩,⟨_,hn',λj y v' e1 e2 e3=>?_⟩,λy c e=>?_,I.free,I.freeC,λp hp=>?_,tracked ⟨oL,hoL,I.free⟩ hs,by simpa using I.len⟩ ⟨_,hs,.inl rfl⟩
  ·exact(hs.2 b<|aZ<|bx (aV e) I.ok.above).trans (I.base.keep b o e n hb hx)
  ·obtain⟨sl,e1⟩:=I.base.slot b o e n hb hx;exact⟨sl,(hs.2 b<|aZ<|bx (aV e) I.ok.above).trans e1⟩
  ·obtain⟨o',e1⟩:=I.base.there b o e hx;exact⟨o',(hs.2 b<|aZ<|bx (aV e) I.ok.above).trans e1⟩
  ·by_cases hj:j=i
   ·subst hj;rw[hi]at e1;cases e1;rw[bQ hiσ]at e2
    cases e2
    exact⟨u,r,.inl ⟨hk,by simp⟩⟩
   ·rw[bR<|cG hj]at e2;obtain⟨u',r',q⟩:=hl j y v' e1 e2 e3;refine⟨u',r',?_⟩
    rcases q with⟨k,e⟩|⟨k,c,e,z⟩
    ·refine .inl ⟨k,?_⟩;have:y≠x:=λe=>hj<|vn hN e1<|e ▸ hi;simp[this,e]
    ·exact .inr ⟨k,c,e,z.sameBut hs<|JJ y c e⟩
  ·obtain⟨w',z⟩:=I.cell y c e;exact⟨w',z.sameBut hs<|JJ y c e⟩
  ·obtain⟨e,n,ne,nf,d⟩:=I.pin p hp;exact⟨(hs.2 p.1 ne).trans e,n,ne,nf,d⟩
 ·have hfn:X.fn x=true:=by
   rcases hf with z|z
   ·exact z
   ·rw[z]at hk;cases hk
  obtain⟨c,hc⟩:=I.ok.has x<|.inl hk;obtain⟨w',z⟩:=I.cell x c hc;refine wpAny_storeName_cell I.ok.kind hk hc z λh' hc' hs=>?_;obtain⟨oc,hoc,hocd⟩:=id z;refine h { s with heap:=h' } ⟨I.ok,I.os,I.bare,⟨λb o e n hb hx=>?_,λb o e n hb hx=>?_,I.base.free,λb o e hx=>?_,I.base.tups,I.base.frzs,I.base.tbls⟩,⟨m,hn.sameBut hs<|cG<|JJ x c hc,λj y v' e1 e2 e3=>?_⟩,λy c' e=>?_,I.free,I.freeC,λp hp=>?_,tracked ⟨oc,hoc,I.freeC x c hc⟩ hs,by simpa using I.len⟩ ⟨c,hs,.inr hc⟩
  ·exact(hs.2 b<|aZ<|bx (aV e)<|I.ok.cab x c hfn hc).trans (I.base.keep b o e n hb hx)
  ·obtain⟨sl,e1⟩:=I.base.slot b o e n hb hx;exact⟨sl,(hs.2 b<|aZ<|bx (aV e)<|I.ok.cab x c hfn hc).trans e1⟩
  ·obtain⟨o',e1⟩:=I.base.there b o e hx;exact⟨o',(hs.2 b<|aZ<|bx (aV e)<|I.ok.cab x c hfn hc).trans e1⟩
  ·by_cases hj:j=i
   ·subst hj;rw[hi]at e1;cases e1;rw[bQ hiσ]at e2
    cases e2
    exact⟨u,r,.inr ⟨.inl hk,c,hc,hc'⟩⟩
   ·rw[bR<|cG hj]at e2;obtain⟨u',r',q⟩:=hl j y v' e1 e2 e3;refine⟨u',r',?_⟩
    rcases q with q|⟨k,c',e,z'⟩
    ·exact .inl q
    ·refine .inr ⟨k,c',e,z'.sameBut hs ?_⟩;rintro rfl;exact hj<|vn hN e1<|I.ok.inj _ _ _ e hc ▸ hi
  ·by_cases hcc:c'=c
   ·subst hcc;exact⟨_,hc'⟩
   ·obtain⟨w2,z2⟩:=I.cell y c' e;exact⟨w2,z2.sameBut hs hcc⟩
  ·obtain⟨e,n,ne,nf,d⟩:=I.pin p hp;refine⟨(hs.2 p.1 ?_).trans e,n,ne,nf,d⟩;intro q;rw[q,hoc]at e;have q':oc=p.2:=aS e;exact d w'<|by rw[<- q'];exact hocd
def n8{A:az}{E:aa->aA->Prop}{i:Nat}{x:Str}{v:V}{Q:Unit->aA->Prop}(I:Inv X pins σ H s)(hN:X.N.Nodup)(hi:X.N[i]?=some x)(hx:Loc X.env.scope x)(r:RelV v u)
  (h:∀s',Inv X pins (σ.set i<|some v) H s'->Q Unit.unit s') (hf:X.fn x=true\/X.env.scope.names.lookup x=some .local:=by first|exact .inl rfl|exact .inr rfl|assumption):wpAny M A (storeName X.env x u) Q E s:=
 Ej I hN hi hx r (λs' I' _=>h s' I') hf
def Inv.Lu{s':aA}{ch:bb}(I:Inv X pins σ H s)(ho:s'.os=s.os)(u:Un (frs X.stack) ch H H' s.heap s'.heap)(hok:sU X.prog X.w H' s'.heap)(hg:AllBare s'.gens)
  (hch:∀b∈ch,(b∈X.ex\/X.s₀.heap.objs.size<=b)/\b≠X.env.locals/\(∀x c,X.env.cells.lookup x=some c->c≠b)/\∀p∈X.pn++pins,p.1≠b):Inv X pins σ H' s':=by
 obtain⟨h',g',d',t',o'⟩:=s';have e:o'=s.os:=ho;subst e;exact I.call (g':=g') (t':=t') (d':=d') u hok hg hch
end
meta abbrev XK:=aa->Option aj->Hp->Prop
meta abbrev St:=List<|Option V
meta abbrev VK:=V->Hp->Prop
meta abbrev TE:=St->Hp->VK->Prop
meta abbrev TT:=St->Hp->(Bool->Hp->Prop)->Prop
meta abbrev TA:=St->Hp->(List V->Hp->Prop)->Prop
structure Ends where
 nx:St->Hp->Prop
 rt:VK
 bk:St->Hp->Prop:=λ_ _=>False
 ct:St->Hp->Prop:=λ_ _=>False
meta abbrev TS:=Ends->St->Hp->Prop
abbrev EP (X:Cx)(pins:bp)(σ:St)(Q:VK)(u:aa)(s':aA):Prop:=∃v H',Inv X pins σ H' s'/\RelV v u/\Q v H'
abbrev TP (X:Cx)(pins:bp)(σ:St)(Q:Bool->Hp->Prop)(b:Bool)(s':aA):Prop:=∃H',Inv X pins σ H' s'/\Q b H'
abbrev AP (X:Cx)(pins:bp)(σ:St)(Q:List V->Hp->Prop)(us:ba)(s':aA):Prop:=∃vs H',Inv X pins σ H' s'/\Vals vs us/\Q vs H'
abbrev SP (X:Cx)(pins:bp)(D:Ends)(f:Flow)(s':aA):Prop:=
 match f with
 | .next=>∃σ' H',Inv X pins σ' H' s'/\D.nx σ' H'
 | .brk=>∃σ' H',Inv X pins σ' H' s'/\D.bk σ' H'
 | .cont=>∃σ' H',Inv X pins σ' H' s'/\D.ct σ' H'
 | .ret u=>∃v σ' H',Inv X pins σ' H' s'/\RelV v u/\D.rt v H'
abbrev PE (X:Cx)(e:aC)(t:TE):Prop:=
 ∀(pins:bp) (s:aA) (σ:St) (H:Hp) (Q:VK),Inv X pins σ H s->t σ H Q->wpAny (model X.prog X.w) X.A (eval e X.env) (EP X pins σ Q) X.xe s
abbrev PT (X:Cx)(e:aC)(t:TT):Prop:=
 ∀(pins:bp) (s:aA) (σ:St) (H:Hp) (Q:Bool->Hp->Prop),Inv X pins σ H s->t σ H Q->wpAny (model X.prog X.w) X.A (isTrue e X.env<|eval e X.env) (TP X pins σ Q) X.xe s
abbrev PW (X:Cx)(e:aC)(t:TT):Prop:=
 ∀(whole:Sem aa) (pins:bp) (s:aA) (σ:St) (H:Hp) (Q:Bool->Hp->Prop),Inv X pins σ H s->t σ H Q->wpAny (model X.prog X.w) X.A (isTrue e X.env whole) (TP X pins σ Q) X.xe s
abbrev PA (X:Cx)(es:List aC)(t:TA):Prop:=
 ∀(pos:Pos) (pins:bp) (s:aA) (σ:St) (H:Hp) (Q:List V->Hp->Prop),Inv X pins σ H s->t σ H Q->wpAny (model X.prog X.w) X.A (spliced<|backTo pos<|starEach es X.env) (AP X pins σ Q) X.xe s
abbrev PS (X:Cx)(st:aE)(t:TS):Prop:=
 ∀(pins:bp) (s:aA) (σ:St) (H:Hp) (D:Ends),Inv X pins σ H s->t D σ H->wpAny (model X.prog X.w) X.A (exec st X.env) (SP X pins D) X.xe s
abbrev xM (X:Cx)(st:List aE)(t:TS):Prop:=
 ∀(pins:bp) (s:aA) (σ:St) (H:Hp) (D:Ends),Inv X pins σ H s->t D σ H->wpAny (model X.prog X.w) X.A (execs st X.env) (SP X pins D) X.xe s
def jP{α:Type}{t:Sem α}{Q Q':α->aA->Prop}{A:az}{E:aa->aA->Prop}(h:wpAny M A t Q E s)(hQ:∀a s,Q a s->Q' a s):wpAny M A t Q' E s:=cS h hQ λ_ _ x=>x
section
variable {X:Cx}
abbrev O5 (i:Nat):TE:=λσ H Q=>∃v,σ[i]?=some (some v)/\Q v H
abbrev tC (v:V):TE:=λ_ H Q=>Q v H
def HB{i:Nat}{x:Str}(hN:X.N[i]?=some x)(hv:O8 X.env.scope x)(hd:(x == ("__debug__" : Str))=false:=by decide)(hcd:(x == ("__classdict__" : Str))=false:=by decide):PE X (.Name x pos) (O5 i):=by
 w_up;obtain⟨v,e,h⟩:=h;obtain⟨m,hn,hl⟩:=I.loc;obtain⟨u,r,l⟩:=hl i x v hN e hv;have fin:EP X pins σ Q u s:=⟨v,H,I,r,h⟩
 rcases l with⟨hk,hm⟩|⟨hk,c,hc,hcell⟩
 ·exact wpAny_Name (wpAny_loadName_local I.ok.kind hk hn hm fin) hd
 ·rcases hk with hk|hk
  ·exact wpAny_Name (wpAny_loadName_cell I.ok.kind hk hc hcell fin) hd
  ·exact wpAny_Name (wpAny_loadName_free I.ok.kind hk hc hcell fin hcd) hd
def Bv{i j pos}:PE X (.Constant (.int i) j pos) (tC<|.int i):=λ_ _ _ H _ I h=>wpAny_Constant_int ⟨.int i,H,I.tok _,⟨_,rfl⟩,h⟩
def O3{b j pos}:PE X (.Constant (.bool b) j pos) (tC<|.bl b):=λ_ _ _ H _ I h=>Constant_bool ⟨.bl b,H,I,rfl,h⟩
def N4{j pos}:PE X (.Constant .none j pos) (tC .non):=λ_ _ _ H _ I h=>Constant_none ⟨.non,H,I,rfl,h⟩
abbrev Gl (X:Cx)(x:Str):Prop:=X.env.kindOf x=some .globalImplicit
def uY{E:aa->aA->Prop}{H:Hp}{x:Str}{Q:aa->aA->Prop}(I:Inv X pins σ H s)(hg:Gl X x)(hm:X.mg x=some u)(h:Q u s)
  (hd:(x == ("__debug__" : Str))=false:=by decide):wpAny (model X.prog X.w) X.A (eval (.Name x pos) X.env) Q E s:=
 Calls.Name_function_global I.ok.kind hg (Calls.loadGlobal_global (by rw[I.ok.glob];exact I.mod.glob.keeps I.bk) hm h) hd
def qL{E:aa->aA->Prop}{H:Hp}{x:Str}{Q:aa->aA->Prop}(I:Inv X pins σ H s)(hg:Gl X x)(hm:X.mg x=none)(hv:bootBuiltins x=some u)(h:Q u s)
  (hn:x ≠ "__name__" := by decide) (hd:(x == ("__debug__" : Str))=false:=by decide):wpAny (model X.prog X.w) X.A (eval (.Name x pos) X.env) Q E s:=by
 obtain⟨mb,h1,h2⟩:=I.mod.blt;exact Calls.Name_function_global I.ok.kind hg (Calls.loadGlobal_builtin (by rw[I.ok.glob];exact I.mod.glob.keeps I.bk) hm (by rw[I.ok.blt];exact h1.keeps I.bk) ((h2 x hn).trans hv) h) hd
def Lc{x:Str}{v:V}(hg:Gl X x)(hm:X.mg x=some u)(r:RelV v u)(hd:(x == ("__debug__" : Str))=false:=by decide):PE X (.Name x pos) (tC v):=
 λ_ _ _ H _ I h=>uY I hg hm ⟨v,H,I,r,h⟩ hd
def CO{x:Str}{v:V}(hg:Gl X x)(hm:X.mg x=none)(hv:bootBuiltins x=some u)(r:RelV v u)(hn:x ≠ "__name__" := by decide)(hd:(x == ("__debug__" : Str))=false:=by decide):PE X (.Name x pos) (tC v):=
 λ_ _ _ H _ I h=>qL I hg hm hv ⟨v,H,I,r,h⟩ hn hd
variable {a b:aC}{ta tb:TE}{pos:Pos}
variable {tA tB':TT}{rest:List aC}
abbrev Qn (t u:TT):TT:=λσ H Q=>t σ H λc H1=>if c=true then u σ H1 Q else Q false H1
abbrev SS (t u:TT):TT:=λσ H Q=>t σ H λc H1=>if c=true then Q true H1 else u σ H1 Q
abbrev R_ (t:TT):TT:=λσ H Q=>t σ H λc H1=>Q (!c) H1
def K4(ha:PT X a tA):PW X (.BoolOp .And [a] pos) tA:=by
 intro wh pins s σ H Q I h;refine isTrue_and (jP (ha pins s σ H Q I h) λc s1 e=>?_)
 cases c with
 | true=>exact isTrue_and_nil e
 | false=>exact e
def MP(ha:PT X a tA):PW X (.BoolOp .Or [a] pos) tA:=by
 intro wh pins s σ H Q I h;refine isTrue_or (jP (ha pins s σ H Q I h) λc s1 e=>?_)
 cases c with
 | false=>exact isTrue_or_nil e
 | true=>exact e
def MD(ha:PT X a tA)(hb:PW X (.BoolOp .And (b::rest) pos) tB'):PW X (.BoolOp .And (a::b::rest) pos) (Qn tA tB'):=by
 intro wh pins s σ H Q I h;refine isTrue_and (jP (ha pins s σ H _ I h) λc s1 ⟨H1,I1,q1⟩=>?_)
 cases c with
 | true=>exact hb wh pins s1 σ H1 Q I1 q1
 | false=>exact⟨H1,I1,q1⟩
def Pk(ha:PT X a tA)(hb:PW X (.BoolOp .Or (b::rest) pos) tB'):PW X (.BoolOp .Or (a::b::rest) pos) (SS tA tB'):=by
 intro wh pins s σ H Q I h;refine isTrue_or (jP (ha pins s σ H _ I h) λc s1 ⟨H1,I1,q1⟩=>?_)
 cases c with
 | true=>exact⟨H1,I1,q1⟩
 | false=>exact hb wh pins s1 σ H1 Q I1 q1
def Oq(ha:PT X a tA):PT X (.UnaryOp .Not a pos) (R_ tA):=by
 w_up;exact isTrue_not<|ha pins s σ H (λc H1=>Q (!c) H1) I h
abbrev QB (ta tb:TE):TE:=λσ H Q=>ta σ H λx H1=>∃c,x=.bl c/\if c=true then tb σ H1 Q else Q (.bl false) H1
abbrev PD (ta:TE):TE:=λσ H Q=>ta σ H λx H1=>∃c,x=.bl c/\Q (.bl<|!c) H1
def Nq{op}{t:TE}(h:PE X a t):PE X (.BoolOp op [a] pos) t:=λpins s σ H Q I hw=>BoolOp_one<|h pins s σ H Q I hw
def MU(ha:PE X a ta)(hb:PE X (.BoolOp .And (b::rest) pos) tb):PE X (.BoolOp .And (a::b::rest) pos) (QB ta tb):=by
 w_up;refine BoolOp_and<|jP (ha pins s σ H _ I h) λv s1 ⟨x,H1,I1,r1,q1⟩=>?_;obtain⟨c,rfl,q1⟩:=q1
 cases r1
 refine ck ?_
 cases c with
 | true=>exact hb pins s1 σ H1 Q I1 q1
 | false=>exact⟨.bl false,H1,I1,rfl,q1⟩
def MR(ha:PE X a ta):PE X (.UnaryOp .Not a pos) (PD ta):=by
 w_up;refine UnaryOp_<|jP (ha pins s σ H _ I h) λv s1 ⟨x,H1,I1,r1,q1⟩=>?_;obtain⟨c,rfl,q1⟩:=q1
 cases r1
 exact not_of<|ck ⟨.bl<|!c,H1,I1,rfl,q1⟩
abbrev Tj (t:TT)(ta tb:TE):TE:=λσ H Q=>t σ H λc H1=>if c=true then ta σ H1 Q else tb σ H1 Q
def Ik(hc:PT X c tA)(ha:PE X a ta)(hb:PE X b tb):PE X (.IfExp c a b pos) (Tj tA ta tb):=by
 w_up;refine wpAny_IfExp (jP (hc pins s σ H _ I h) λd s1 ⟨H1,I1,q1⟩=>?_)
 cases d with
 | true=>exact ha pins s1 σ H1 Q I1 q1
 | false=>exact hb pins s1 σ H1 Q I1 q1
end
abbrev lE (K:au)(H:Hp)(a:aj)(xs:List V):Prop:=
 Rd H a (.lst xs) \/
  ∃(o:Obj) (its:Array aa) (n:Nat),K.lookup a=some o/\o.cls=.type "list" /\ o.dict=none/\o.data=.seq its n/\its.size<=sizeLine/\Vals xs its.toList
abbrev kQ (K:au)(H:Hp)(a:aj)(xs:List V):Prop:=
 Rd H a (.tup xs) \/
  ∃(o:Obj) (its:Array aa) (n:Nat),K.lookup a=some o/\o.cls=.type "tuple" /\ o.dict=none/\o.data=.seq its n/\its.size<=sizeLine/\Vals xs its.toList
abbrev Rz:aa->Option V
 | .none=>some .non
 | .bool b=>some (.bl b)
 | .int i _=>some (.int i)
 | .str x _=>some (.str x)
 | .bytes b _=>some (.byt b)
 | .float b _=>some (.flt b)
 | .ref a=>some (.ref a)
 | .type n=>some (.ty n)
 | _=>none
def RelV.abs{x:V}(r:RelV x u):Rz u=some x:=by
 cases x with
 | non=>cases r;rfl
 | bl _=>cases r;rfl
 | int _=>obtain⟨t,rfl⟩:=r;rfl
 | str _=>obtain⟨t,rfl⟩:=r;rfl
 | byt _=>obtain⟨t,rfl⟩:=r;rfl
 | flt _=>obtain⟨t,rfl⟩:=r;rfl
 | ref _=>cases r;rfl
 | ty _=>cases r;rfl
def RelV.inj{x:V}(r:RelV x u)(q:RelV y u):x=y:=aS<|r.abs.symm.trans q.abs
theorem Vals.inj:∀{xs ys:List V}{us:ba},Vals xs us->Vals ys us->xs=ys
 | _,_,_,.nil,.nil=>rfl
 | _,_,_,.cons r t,.cons r' t'=>by rw[r.inj r',Vals.inj t t']
section
variable {X:Cx}{pins:bp}{σ:St}{H:Hp}{s:aA}{a:aj}{xs ys:List V}
def lE.of{K:au}(h:H a=some (.lst xs)):lE K H a xs:=.inl<|.inl h
def kQ.of{K:au}(h:H a=some (.tup xs)):kQ K H a xs:=.inl<|.inl h
def Inv.list(I:Inv X pins σ H s)(h:lE X.K H a xs):∃its:ba,Vals xs its/\PlainL s.heap a its.toArray/\xs.length<=sizeLine:=by
 rcases h with h|⟨o,its,n,hk,hc,hd,hs,hz,r⟩
 ·obtain⟨z,its,n,r,e⟩:=h.ok I.hok;exact⟨its,r,⟨_,n,e,rfl,rfl,rfl⟩,z⟩
 ·refine⟨its.toList,r,⟨o,n,I.wD a o hk,hc,hd,by simpa using hs⟩,?_⟩;have e:=r.length;dsimp[bD]at e
  lia
def Inv.tuple(I:Inv X pins σ H s)(h:kQ X.K H a xs):∃its:ba,Vals xs its/\IsTup s.heap a its.toArray/\xs.length<=sizeLine:=by
 rcases h with h|⟨o,its,n,hk,hc,_,hs,hz,r⟩
 ·obtain⟨z,its,r,p⟩:=h.ok I.hok;exact⟨its,r,p.tup,z⟩
 ·refine⟨its.toList,r,⟨o,I.wD a o hk,hc,n,by simpa using hs⟩,?_⟩;have e:=r.length;dsimp[bD]at e
  lia
def Inv.NI(I:Inv X pins σ H s)(h:kQ X.K H a xs):∃o,s.heap.get? a=some o/\o.cls=.type "tuple" /\ o.dict=none:=by
 rcases h with h|⟨o,its,n,hk,hc,hd,hs,hz,r⟩
 ·obtain⟨z,its,r,o,e,c,d,_⟩:=h.ok I.hok;exact⟨o,e,c,d⟩
 ·exact⟨o,I.wD a o hk,hc,hd⟩
def Inv.zO(I:Inv X pins σ H s)(h:lE X.K H a xs)(h':lE X.K H a ys):xs=ys:=by
 obtain⟨its,r,⟨o,n,e,_,_,d⟩,_⟩:=I.list h;obtain⟨its',r',⟨o',n',e',_,_,d'⟩,_⟩:=I.list h';rw[e]at e';cases e';rw[d]at d'
 injection d' with d1 _
 have:its=its':=by simpa using fM Array.toList d1
 subst this;exact r.inj r'
def Inv.tD(I:Inv X pins σ H s)(h:kQ X.K H a xs)(h':kQ X.K H a ys):xs=ys:=by
 obtain⟨its,r,⟨o,e,_,n,d⟩,_⟩:=I.tuple h;obtain⟨its',r',⟨o',e',_,n',d'⟩,_⟩:=I.tuple h';rw[e]at e';cases e';rw[d]at d'
 injection d' with d1 _
 have:its=its':=by simpa using fM Array.toList d1
 subst this;exact r.inj r'
end
meta abbrev Cx.wW (X:Cx)(E:aa->aA->Prop):Cx:={ X with xe:=E }
meta abbrev Cx.Qs (X:Cx):Cx:=X.wW λ_ _=>False
def Cx.Ok.wW{X:Cx}(ok:X.Ok)(E:aa->aA->Prop):(X.wW E).Ok:=
 ⟨ok.mod,ok.kind,ok.glob,ok.blt,ok.above,ok.inj,ok.has,ok.cab,ok.hd,ok.frames,ok.stk,ok.exf,ok.bs,ok.bsz,ok.noex,ok.exfs,ok.pV,ok.frf⟩
def Cx.Ok.pW{X:Cx}{E:aa->aA->Prop}(ok:(X.wW E).Ok):X.Ok:=
 ⟨ok.mod,ok.kind,ok.glob,ok.blt,ok.above,ok.inj,ok.has,ok.cab,ok.hd,ok.frames,ok.stk,ok.exf,ok.bs,ok.bsz,ok.noex,ok.exfs,ok.pV,ok.frf⟩
section
variable {X:Cx}{pins:bp}{σ:St}{H:Hp}{s:aA}{E:aa->aA->Prop}
def Inv.wW(I:Inv X pins σ H s)(E:aa->aA->Prop):Inv (X.wW E) pins σ H s:=⟨I.ok.wW E,I.os,I.bare,I.base,I.loc,I.cell,I.free,I.freeC,I.pin,I.hok,I.len⟩
def Inv.pW(I:Inv (X.wW E) pins σ H s):Inv X pins σ H s:=⟨I.ok.pW,I.os,I.bare,I.base,I.loc,I.cell,I.free,I.freeC,I.pin,I.hok,I.len⟩
def SP.pW{f:Flow}(h:SP (X.wW E) pins D f s'):SP X pins D f s':=by
 cases f with
 | next=>obtain⟨σ',H',I,q⟩:=h;exact⟨σ',H',I.pW,q⟩
 | brk=>obtain⟨σ',H',I,q⟩:=h;exact⟨σ',H',I.pW,q⟩
 | cont=>obtain⟨σ',H',I,q⟩:=h;exact⟨σ',H',I.pW,q⟩
 | ret u=>obtain⟨v,σ',H',I,r,q⟩:=h;exact⟨v,σ',H',I.pW,r,q⟩
def xM.Qs{st:List aE}{t:TS}(h:xM X.Qs st t):xM X st t:=λpins s σ H D I hw=>
 cS (h pins s σ H D (I.wW _) hw) (λ_ _ q=>q.pW) λ_ _ z=>False.elim z
end
section
variable {X:Cx}{st:aE}{rest:List aE}{t u:TS}{e:aC}{te:TE}{pos:Pos}
abbrev Pe:TS:=λD σ H=>D.nx σ H
abbrev Qx (t u:TS):TS:=λD σ H=>t { D with nx:=u D } σ H
def J1:xM X [] Pe:=λ_ _ σ H _ I h=>fB ⟨σ,H,I,h⟩
def Gf(h1:PS X st t)(h2:xM X rest u):xM X (st::rest) (Qx t u):=by
 kpc_g;refine wpAny_execs_cons (jP (h1 pins s σ H { D with nx:=u D } I h) λf s1 q=>?_)
 cases f with
 | next=>
  obtain⟨σ',H',I',q⟩:=q;exact h2 pins s1 σ' H' D I' q
 | ret v=>exact q
 | brk=>exact q
 | cont=>exact q
def Km(h1:PS X st t):xM X [st] t:=by
 kpc_g;refine wpAny_execs_cons (jP (h1 pins s σ H D I h) λf s1 q=>?_)
 cases f with
 | next=>exact fB q
 | ret v=>exact q
 | brk=>exact q
 | cont=>exact q
def Inv.quiet{H:Hp}(I:Inv X pins σ H s):interactive X.env=false:=by simp[interactive,I.ok.kind]
abbrev Qq (te:TE):TS:=λD σ H=>te σ H λ_ H1=>D.nx σ H1
def Ld(he:PE X e te)(hs:swapsWith e none pos.line X.env=pure false:=by rfl):PS X (.Expr e pos) (Qq te):=by
 kpc_g;exact wpAny_Expr_any (jP (he pins s σ H _ I h) λv s1 ⟨x,H1,I1,r1,q1⟩=>⟨σ,H1,I1,q1⟩) I.quiet hs
abbrev Q_ (te:TE):TS:=λD σ H=>te σ H D.rt
def NQ(he:PE X e te):PS X (.Return (some e) pos) (Q_ te):=by
 kpc_g;exact wpAny_Return_some<|jP (he pins s σ H _ I h) λv s1 ⟨x,H1,I1,r1,q1⟩=>⟨x,σ,H1,I1,r1,q1⟩
abbrev Ri (c:TT)(t u:TS):TS:=λD σ H=>c σ H λb H1=>if b=true then t D σ H1 else u D σ H1
def Qt{a:List aE}{tc:TT}(hc:PT X c tc)(ha:xM X a t)(hb:xM X b u):PS X (.If c a b pos) (Ri tc t u):=by
 kpc_g;refine wpAny_If (jP (hc pins s σ H _ I h) λd s1 ⟨H1,I1,q1⟩=>?_)
 cases d with
 | true=>exact ha pins s1 σ H1 D I1 q1
 | false=>exact hb pins s1 σ H1 D I1 q1
end
meta abbrev TG:=V->St->Hp->(St->Hp->Prop)->Prop
meta abbrev LN:=List V->St->Hp->(St->Hp->Prop)->Prop
abbrev PG (X:Cx)(target:aC)(t:TG):Prop:=
 ∀(pins:bp) (s:aA) (σ:St) (H:Hp) (v:V) (u:aa) (Q:St->Hp->Prop),Inv X pins σ H s->RelV v u->t v σ H Q ->
  wpAny (model X.prog X.w) X.A (assign target X.env u) (λ_ s'=>∃σ' H',Inv X pins σ' H' s'/\Q σ' H') X.xe s
abbrev Qa (X:Cx)(ts:List aC)(t:LN):Prop:=
 ∀(pins:bp) (s:aA) (σ:St) (H:Hp) (vs:List V) (us:ba) (Q:St->Hp->Prop),Inv X pins σ H s->Vals vs us->t vs σ H Q ->
  wpAny (model X.prog X.w) X.A (assignInOrder ((assignEach ts X.env).map (·.2)) us) (λ_ s'=>∃σ' H',Inv X pins σ' H' s'/\Q σ' H') X.xe s
meta abbrev Ke:=V->V->V->Hp->(Hp->Prop)->Prop
abbrev N7 (X:Cx)(t:Ke):Prop:=
 ∀(pins:bp) (s:aA) (σ:St) (H:Hp) (o i v:V) (ov iv u:aa) (Q:Hp->Prop),Inv X pins σ H s->RelV o ov->RelV i iv->RelV v u->t o i v H Q ->
  wpAny (model X.prog X.w) X.A (setItem ov iv u) (λ_ s'=>∃H',Inv X pins σ H' s'/\Q H') X.xe s
meta abbrev S_:=V->V->Hp->VK->Prop
section
variable {X:Cx}{pos:Pos}
abbrev Gb (i:Nat):TG:=λv σ H Q=>Q (σ.set i<|some v) H
def Ef{i:Nat}{x:Str}(hN:X.N.Nodup)(hi:X.N[i]?=some x)(hx:Loc X.env.scope x)(hf:X.fn x=true\/X.env.scope.names.lookup x=some .local:=by first|exact .inl rfl|exact .inr rfl|assumption):PG X (.Name x pos) (Gb i):=by
 intro pins s σ H v u Q I r h;exact wpAny_assign_Name<|n8 I hN hi hx r (λs' I'=>⟨_,H,I',h⟩) hf
abbrev Ro:LN:=λvs σ H Q=>vs=[]/\Q σ H
abbrev Qm (t:TG)(u:LN):LN:=λvs σ H Q=>∃v r,vs=v::r/\t v σ H λσ' H'=>u r σ' H' Q
def Kf:Qa X [] Ro:=by
 intro pins s σ H vs us Q I r h;obtain⟨e,h⟩:=h;subst e
 cases r
 exact assignInOrder_nil ⟨σ,H,I,h⟩
def Jm{t:TG}{u:LN}(h1:PG X e t)(h2:Qa X es u)
  (hs:(assignEach (e::es) X.env).map (·.2)=assign e X.env::(assignEach es X.env).map (·.2):=by rfl):Qa X (e::es) (Qm t u):=by
 intro pins s σ H vs us Q I r h;obtain⟨v,vr,e1,h⟩:=h;subst e1
 cases r with
 | cons r rr=>
  rw[hs];refine assignInOrder_cons<|jP (h1 pins s σ H _ _ _ I r h) λ_ s1 ⟨σ1,H1,I1,q1⟩=>?_;exact h2 pins s1 σ1 H1 _ _ Q I1 rr q1
abbrev Rh (K:au)(n:Nat)(t:LN):TG:=λv σ H Q=>∃a xs,v=.ref a/\kQ K H a xs/\xs.length=n/\t xs σ H Q
def M7{k:Nat}{t:LN}{n:Nat}(hc:X.calm=true)(h:Qa X es t)
  (hn:(assignEach es X.env).length=n:=by rfl) (hst:(assignEach es X.env).findIdx? (·.1)=none:=by rfl):PG X (.Tuple es k pos) (Rh X.K n t):=by
 intro pins s σ H v u Q I r hw;obtain⟨a,xs,e1,hq,hl,hw⟩:=hw;subst e1
 cases r
 obtain⟨its,rv,ht,hz⟩:=I.tuple hq;refine assign_Tuple_tuple (I.ok.hd hc) ht (by simp[hn,<- hl,rv.length]) hst λh' hx=>?_;have I1:Inv X pins σ H { s with heap:=h' }:=I.kept (t':=s.toks) λb o e=>hx b o (aZ<|aV e) e;exact h pins _ σ H xs _ Q I1 (by simpa using rv) hw
abbrev Sl (to ti:TE)(t:Ke):TG:=λv σ H Q=>to σ H λo H1=>ti σ H1 λi H2=>t o i v H2 λH3=>Q σ H3
def Mz{to ti:TE}{t:Ke}(ho:PE X o to)(hi:PE X i ti)(hs:N7 X t)
  (ha:∀v,assign (.Subscript o i pos) X.env v=(do
   let ov <- holding [v] (eval o X.env)
   let iv <- holding [v,ov] (eval i X.env)
   standAt pos
   holding [v,ov,iv] (setItem ov iv v)
   release [v,ov,iv] []):=by intro _;rfl):PG X (.Subscript o i pos) (Sl to ti t):=by
 intro pins s σ H v u Q I r h;rw[ha];refine aF<|cu<|jP (ho pins s σ H _ I h) λov s1 ⟨x,H1,I1,r1,q1⟩=>?_;refine aF<|cu<|jP (hi pins s1 σ H1 _ I1 q1) λiv s2 ⟨y,H2,I2,r2,q2⟩=>?_;refine aF<|iu<|aF<|cu<|jP (hs pins s2 σ H2 x y v ov iv u _ I2 r1 r2 r q2) λ_ s3 ⟨H3,I3,q3⟩=>?_;exact wpAny_release ⟨σ,H3,I3,q3⟩
abbrev KN (te:TE)(g:TG):TS:=λD σ H=>te σ H λx H1=>g x σ H1 D.nx
def Oa{tg:aC}{te:TE}{g:TG}(he:PE X e te)(hg:PG X tg g)(hs:swapsWithSole [tg] e pos.line X.env=pure false:=by rfl)(hw:swappedStores [tg] e X.env=pure none:=by rfl)
  (h1:(assignEach [tg] X.env).map (·.2)=[assign tg X.env]:=by rfl):PS X (.Assign [tg] e pos) (KN te g):=by
 kpc_g;refine wpAny_Assign_stores (jP (he pins s σ H _ I h) λv s1 ⟨x,H1,I1,r1,q1⟩=>?_) hs hw;rw[h1];exact jP (hg pins s1 σ H1 x v _ I1 r1 q1) λ_ s2 q=>q
def NN{i:Nat}{x:Str}{te:TE}(hN:X.N.Nodup)(hi:X.N[i]?=some x)(hx:Loc X.env.scope x)(he:PE X e te)(hs:swapsWith e (some<|.Name x pos') pos.line X.env=pure false:=by rfl)(hf:X.fn x=true\/X.env.scope.names.lookup x=some .local:=by first|exact .inl rfl|exact .inr rfl|assumption) :
  PS X (.Assign [.Name x pos'] e pos) (KN te<|Gb i):=by
 kpc_g;refine wpAny_Assign_Name (jP (he pins s σ H _ I h) λv s1 ⟨y,H1,I1,r1,q1⟩=>?_) hs;exact n8 I1 hN hi hx r1 (λs2 I2=>⟨_,H1,I2,q1⟩) hf
abbrev RQ (i j:Nat)(ta:TA):TS:=λD σ H=>ta σ H λvs H1=>∃v w,vs=[v,w]/\D.nx ((σ.set i<|some v).set j<|some w) H1
def N1{i j:Nat}{x:Str}{a:aC}{ta:TA}{kt k2 pt2}(hc:X.calm=true)(hN:X.N.Nodup)(hi:X.N[i]?=some x)(hj:X.N[j]?=some y)(hij:i≠j)
  (hx:X.env.scope.names.lookup x=some .local) (hy:X.env.scope.names.lookup y=some .local) (ha:PA X [a,b] ta)
  (hw:swappedStores [.Tuple [.Name x px,.Name y py] kt pt] (.Tuple [a,b] k2 pt2) X.env=pure (some [x,y]))
  (hs:swapsWithSole [.Tuple [.Name x px,.Name y py] kt pt] (.Tuple [a,b] k2 pt2) pos.line X.env=pure false:=by rfl) :
  PS X (.Assign [.Tuple [.Name x px,.Name y py] kt pt] (.Tuple [a,b] k2 pt2) pos) (RQ i j ta):=by
 kpc_g;rw[exec_Assign_arm];refine aF<|iu ?_;rw[hs];refine aF<|aH ?_;rw[aL ⋯];refine aF<|Tuple_<|jP (ha _ pins s σ H _ I h) λus s1 ⟨vs,H1,I1,r1,q1⟩=>?_;obtain⟨v,w,e1,q1⟩:=q1;subst e1;obtain⟨u1,u2,rfl,rv,rw'⟩:∃u1 u2,us=[u1,u2]/\RelV v u1/\RelV w u2:=by
  cases r1 with
  | cons p q=>
   cases q with
   | cons p' q'=>
    cases q'
    exact⟨_,_,rfl,p,p'⟩
 refine br ?_ (by show 2<=sizeLine;decide);have I2:Inv X pins σ H1 { s1 with heap:=s1.heap.push { cls:=.type "tuple",data:=.seq [u1,u2].toArray }}:=I1.kept (t':=s1.toks) λb o e=>aJ _ e;rw[hw];refine aF (aH ?_)
 skip
 refine aF<|c7<|aF<|unpackItems_tuple (items:=#[u1,u2]) (I.ok.hd hc) (IsTup.new s1.heap _) λh' hx'=>?_;have I3:=I2.kept (h':=h') (t':=s1.toks) λb o e=>hx' b o (aZ<|aV e) e
 skip
 refine aF<|assignInOrder_cons<|wpAny_bindName<|n8 I3 hN hj (.inl hy) rw' (λs2 I4=>?_)<|.inr hy;refine assignInOrder_cons<|wpAny_bindName<|n8 I4 hN hi (.inl hx) rv (λs3 I5=>assignInOrder_nil<|aH ?_)<|.inr hx;rw[List.set_comm _ _<|cG hij]at I5;exact⟨_,H1,I5,q1⟩
end
section
variable {X:Cx}{pos:Pos}
abbrev Jz (c:TT)(tb:TS):TS:=λD σ H=>∃W:Nat->St->Hp->Prop,(∃m,W m σ H)/\∀m σ H,W m σ H ->
 c σ H λb H1=>if b=true then ∃N:St->Hp->Prop,(∀σ' H',N σ' H'->∃m',m'<m/\W m' σ' H')/\tb { D with nx:=N,ct:=N,bk:=D.nx } σ H1 else D.nx σ H1
def FI{tc:TT}{tb:TS}(hp:PassesOwn (model X.prog X.w) X.A X.env X.xe)(hc:PT X c tc)(hb:xM X body tb):PS X (.While c body [] pos) (Jz tc tb):=by
 kpc_g;obtain⟨W,⟨m0,w0⟩,turn⟩:=h;refine wpAny_While<|codeAny_whileLoop (λn s'=>∃σ' H',Inv X pins σ' H' s'/\W n σ' H') ?_ m0 ⟨σ,H,I,w0⟩;rintro n s1 ⟨σ1,H1,I1,w1⟩;refine dU hp (jP (hc pins s1 σ1 H1 _ I1<|turn n σ1 H1 w1) λb s2 ⟨H2,I2,q2⟩=>?_)
 cases b with
 | true=>
  obtain⟨N,hN,q2⟩:=q2;rw[aM rfl];refine dU hp (jP (hb pins s2 σ1 H2 _ I2 q2) λf s3 q3=>?_)
  cases f with
  | next=>
   obtain⟨σ3,H3,I3,n3⟩:=q3;obtain⟨m',hm,w3⟩:=hN σ3 H3 n3;exact⟨m',hm,σ3,H3,I3,w3⟩
  | cont=>
   obtain⟨σ3,H3,I3,n3⟩:=q3;obtain⟨m',hm,w3⟩:=hN σ3 H3 n3;exact⟨m',hm,σ3,H3,I3,w3⟩
  | brk=>exact q3
  | ret v=>exact q3
 | false=>
  rw[aL aX];exact fB ⟨σ1,H2,I2,q2⟩
end
structure It where
 go:Nat->Hp->Prop
 yld:Nat->Hp->V->Hp->Prop
 stop:Nat->Hp->Prop
abbrev tP (X:Cx)(pins:bp)(H:Hp)(b:aj):Prop:=
 H b=none/\b≠X.env.locals/\b∉X.fs/\(b∈X.ex\/X.s₀.heap.objs.size<=b)/\(∀x c,X.env.cells.lookup x=some c->c≠b)/\∀p∈X.pn++pins,p.1≠b
def Inv.yM{H H':Hp}{s:aA}(I:Inv X pins σ H s)(hb:s.heap.objs.size<=b)(hn:H' b=none):tP X pins H' b:=by
 refine⟨hn,fN<|bx I.lt hb,I.Rw hb,.inr<|bX I.sz hb,λx c e z=>?_,λp hp z=>?_⟩
 ·obtain⟨v,q⟩:=I.cell x c e;exact absurd (bx q.lt<|by rw[z];exact hb) (dZ _)
 ·exact absurd (bx (aV (I.pin p hp).1)<|by rw[z];exact hb)<|dZ _
structure Turn (P:ah)(w:af)(K:au)(tg:aC)(J:It)(fp:bb)(it:aj)(tn:Nat->ak->Prop):Prop where
 mem:it∈fp
 obj:∀i h,tn i h->∀b∈fp,∃o,h.get? b=some o/\∀v,o.data≠.cell v
 keep:∀i h h',tn i h->(∀b∈fp,∀o,h.get? b=some o->h'.get? b=some o)->tn i h'
 item:∀(X:Cx),X.prog=P->X.w=w->X.K=K->X.calm=true->∀(i:Nat) (pins:bp) (s:aA) (σ:St) (H:Hp) (E:aa->aA->Prop),Inv X pins σ H s->(∀b∈fp,tP X pins H b)->tn i s.heap->J.go i H ->
  wpAny (model P w) X.A (pyNext<|.ref it) (λr s1=>∃u,r=some u /\
   wpAny (model P w) X.A (letOwnedTupleGo tg (.ref it) u) (λ_ s2=>∃x H',Inv X pins σ H' s2/\RelV x u/\J.yld i H x H'/\tn (i+1) s2.heap/\∀b∈fp,H' b=none) E s1) E s
 done:∀(X:Cx),X.prog=P->X.w=w->X.K=K->X.calm=true->∀(i:Nat) (pins:bp) (s:aA) (σ:St) (H:Hp) (E:aa->aA->Prop),Inv X pins σ H s->(∀b∈fp,tP X pins H b)->tn i s.heap->J.stop i H ->
  wpAny (model P w) X.A (pyNext<|.ref it) (λr s1=>r=none/\Inv X pins σ H s1) E s
 self:∀(A:az) (i:Nat) (s:aA) (Q:aa->aA->Prop) (E:aa->aA->Prop),tn i s.heap->Q (.ref it) s->wpAny (model P w) A (pyIter<|.ref it) Q E s
meta abbrev TI:=St->Hp->(It->Hp->Prop)->Prop
abbrev Sn (X:Cx)(pins:bp)(σ:St)(tg:aC)(R:It->Hp->Prop)(itv:aa)(s2:aA):Prop:=
 ∃(it:aj) (fp:bb) (tn:Nat->ak->Prop) (J:It) (H':Hp),itv=.ref it/\Inv X pins σ H' s2/\Turn X.prog X.w X.K tg J fp it tn/\tn 0 s2.heap/\(∀b∈fp,tP X pins H' b)/\R J H'
abbrev PI (X:Cx)(tg iter:aC)(wi:TI):Prop:=
 ∀(pins:bp) (s:aA) (σ:St) (H:Hp) (R:It->Hp->Prop),Inv X pins σ H s->wi σ H R ->
  wpAny (model X.prog X.w) X.A (eval iter X.env) (λv s1=>wpAny (model X.prog X.w) X.A (pyIter v) (Sn X pins σ tg R) X.xe s1) X.xe s
def B_{A:az}{E:aa->aA->Prop}{s:aA}{o:Obj}{n:String}{Q:Unit->aA->Prop}(ho:s.heap.get? it=some o)(hc:o.cls=.type n)(hd:o.data=.fields vs)
  (hn:["enumerate", "zip", "dict_itemiterator", "dict_reverseitemiterator", "odict_iterator", "itertools.zip_longest", "itertools.pairwise"].contains n=false) (hQ:Q Unit.unit s):wpAny M A (letOwnedTupleGo tg (.ref it) u) Q E s:=by
 unfold letOwnedTupleGo
 cases tg<;>first
  | exact aH hQ
  | (cases u<;>first
    | exact aH hQ
    | (refine aF (wpAny_load ho ?_)
       rw[hc,hd];show wpAny M A (if (["enumerate", "zip", "dict_itemiterator", "dict_reverseitemiterator", "odict_iterator", "itertools.zip_longest", "itertools.pairwise"].contains n && vs[0]? == some (rawInt _))=true then _ else _) Q E s;rw[aL<|by intro h;rw[hn,Bool.false_and]at h;cases h];exact aH hQ))
abbrev QH (K:au)(a:aj):It:=
 ⟨λi H=>∃xs x,lE K H a xs/\xs[i]?=some x,λi H x H'=>H'=H/\∀xs,lE K H a xs->xs[i]?=some x,λi H=>∃xs,lE K H a xs/\xs.length<=i⟩
abbrev RV (K:au)(a:aj):It:=
 ⟨λi H=>∃xs x,kQ K H a xs/\xs[i]?=some x,λi H x H'=>H'=H/\∀xs,kQ K H a xs->xs[i]?=some x,λi H=>∃xs,kQ K H a xs/\xs.length<=i⟩
abbrev P4 (lo:Int)(n:Nat):It:=⟨λi _=>i<n,λi H x H'=>H'=H/\x=.int (lo+i),λi _=>n<=i⟩
def EM{P:ah}{w:af}{K:au}(a it:aj):Turn P w K tg (QH K a) [it] it (λi h=>h.IsListIter it a i) where
 mem:=by simp
 obj:=λi h st b hb=>by
  have e:b=it:=by simpa using hb
  subst e;obtain⟨o,e,c,d⟩:=st;exact⟨o,e,λv z=>by rw[d]at z;cases z⟩
 keep:=λi h h' st k=>st.at λo e=>k it (by simp) o e
 item:=by
  x_go;subst hP hw hK;obtain⟨xs,x,hq,hx⟩:=hg;obtain⟨its,rv,p,hz⟩:=I.list hq;obtain⟨u,hu,ru⟩:=rv.get hx;gn_on;refine wpAny_pyNext_list_item st p.isList (x:=u) (by simpa using hu) λh' st' sb=>?_;have I1:Inv X pins σ H { s with heap:=h' }:=I.turned (t':=s.toks) (λb o hb e=>(sb.2 b hb).trans e) f0 f1 f3 f4 f5;obtain⟨o,e,c,d⟩:=id st';exact⟨u,rfl,B_ (s:={ s with heap:=h' }) e c d ⋯ ⟨x,H,I1,ru,⟨rfl,λys hy=>by rw[I.zO hy hq];exact hx⟩,st',λb hb=>(hf b hb).1⟩⟩
 done:=by
  x_go;subst hP hw hK;obtain⟨xs,hq,hx⟩:=hg;obtain⟨its,rv,p,hz⟩:=I.list hq;gn_on;have hl:=rv.length;exact wpAny_pyNext_list_end (I.ok.hd hc) st p.isList (by simp;omega) λh' eb=>⟨rfl,I.turned (t':=s.toks) (λb o hb e=>eb b o hb e) f0 f1 f3 f4 f5⟩
 self:=λ_ _ _ _ _ st h=>wpAny_pyIter_listiter st h
def BS{P:ah}{w:af}{K:au}(a it:aj):Turn P w K tg (RV K a) [it] it (λi h=>h.IsTupleIter it a i) where
 mem:=by simp
 obj:=λi h st b hb=>by
  have e:b=it:=by simpa using hb
  subst e;obtain⟨o,e,c,d⟩:=st;exact⟨o,e,λv z=>by rw[d]at z;cases z⟩
 keep:=λi h h' st k=>st.at λo e=>k it (by simp) o e
 item:=by
  x_go;subst hP hw hK;obtain⟨xs,x,hq,hx⟩:=hg;obtain⟨its,rv,p,hz⟩:=I.tuple hq;obtain⟨u,hu,ru⟩:=rv.get hx;gn_on;refine wpAny_pyNext_tuple_item st (show s.heap.IsTuple a its.toArray from p) (x:=u) (by simpa using hu) λh' st' sb=>?_;have I1:Inv X pins σ H { s with heap:=h' }:=I.turned (t':=s.toks) (λb o hb e=>(sb.2 b hb).trans e) f0 f1 f3 f4 f5;obtain⟨o,e,c,d⟩:=id st';exact⟨u,rfl,B_ (s:={ s with heap:=h' }) e c d ⋯ ⟨x,H,I1,ru,⟨rfl,λys hy=>by rw[I.tD hy hq];exact hx⟩,st',λb hb=>(hf b hb).1⟩⟩
 done:=by
  x_go;subst hP hw hK;obtain⟨xs,hq,hx⟩:=hg;obtain⟨its,rv,p,hz⟩:=I.tuple hq;gn_on;have hl:=rv.length;exact wpAny_pyNext_tuple_end (I.ok.hd hc) st (show s.heap.IsTuple a its.toArray from p) (by simp;lia) λh' eb=>⟨rfl,I.turned (t':=s.toks) (λb o hb e=>eb b o hb e) f0 f1 f3 f4 f5⟩
 self:=λ_ _ _ _ _ st h=>wpAny_pyIter_tupleiter st h
def Bo{P:ah}{w:af}{K:au}(it:aj)(lo:Int)(n:Nat):Turn P w K tg (P4 lo n) [it] it (λi h=>IsRangeIter h it (lo+(i:Nat) * 1) ((n:Int)-(i:Nat)) 1) where
 mem:=by simp
 obj:=λi h st b hb=>by
  have e:b=it:=by simpa using hb
  subst e;exact⟨_,st,λv z=>by
   have z':Data.fields _=Data.cell v:=z
   cases z'⟩
 keep:=λi h h' st k=>k it (by simp) _ st
 item:=by
  x_go;subst hP hw hK;gn_on;have W:=Walks.range (prog:=X.prog) (w:=X.w) (I.ok.hd hc) it lo 1 n;refine W.item i s _ _ hg st λv h' tk hv st' kk=>?_;obtain⟨t,rfl⟩:=hv;have I1:Inv X pins σ H { s with heap:=h',toks:=tk }:=I.turned (λb o hb e=>kk b o (by simpa using hb) e) f0 f1 f3 f4 f5;refine⟨_,rfl,B_ (s:={ s with heap:=h',toks:=tk }) (n := "range_iterator") st' rfl rfl ⋯ ⟨.int<|lo+i,H,I1,⟨t,?_⟩,⟨rfl,rfl⟩,st',λb hb=>(hf b hb).1⟩⟩;rw[Int.mul_one]
 done:=by
  x_go;subst hP hw hK;gn_on;exact wpAny_pyNext_range_end (I.ok.hd hc) st (by have:n<=i:=hg;lia) λh' eb=>⟨rfl,I.turned (t':=s.toks) (λb o hb e=>eb b o hb e) f0 f1 f3 f4 f5⟩
 self:=λ_ _ _ _ _ st h=>wpAny_pyIter_rangeiter st h
section
variable {X:Cx}{tg:aC}
abbrev Ql (K:au)(tl:TE):TI:=λσ H R=>tl σ H λx H1=>∃a,x=.ref a/\(∃xs,lE K H1 a xs)/\R (QH K a) H1
abbrev RB (K:au)(tl:TE):TI:=λσ H R=>tl σ H λx H1=>∃a,x=.ref a/\(∃xs,kQ K H1 a xs)/\R (RV K a) H1
def Ea{tl:TE}(hl:PE X l tl):PI X tg l (Ql X.K tl):=by
 intro pins s σ H R I h;refine jP (hl pins s σ H _ I h) λv s1 ⟨x,H1,I1,r1,q1⟩=>?_;obtain⟨a,e,⟨xs,hq⟩,q⟩:=q1;subst e
 cases r1
 obtain⟨its,rv,p,hz⟩:=I1.list hq;refine fO p.isList ?_;refine⟨s1.heap.objs.size,[s1.heap.objs.size],_,_,H1,rfl,I1.kept (t':=s1.toks) λb o e=>aJ _ e,EM a _,⟨_,aU _ rfl,rfl,rfl⟩,λb hb=>?_,q⟩;have e:b=s1.heap.objs.size:=by simpa using hb
 subst e;kln_w
def Ih{tl:TE}(hl:PE X l tl):PI X tg l (RB X.K tl):=by
 intro pins s σ H R I h;refine jP (hl pins s σ H _ I h) λv s1 ⟨x,H1,I1,r1,q1⟩=>?_;obtain⟨a,e,⟨xs,hq⟩,q⟩:=q1;subst e
 cases r1
 obtain⟨its,rv,p,hz⟩:=I1.tuple hq;refine fD (show s1.heap.IsTuple a its.toArray from p) ?_;refine⟨s1.heap.objs.size,[s1.heap.objs.size],_,_,H1,rfl,I1.kept (t':=s1.toks) λb o e=>aJ _ e,BS a _,⟨_,aU _ rfl,rfl,rfl⟩,λb hb=>?_,q⟩;have e:b=s1.heap.objs.size:=by simpa using hb
 subst e;kln_w
def zk{H:Hp}{s:aA}{R:It->Hp->Prop}{E:aa->aA->Prop}{lo hi:Int}{v:Tok}{tk:Nat}(I:Inv X pins σ H s)(h1:-(2 ^ 62)<=lo)(h2:lo<2 ^ 62)(h3:-(2 ^ 62)<=hi)(h4:hi<2 ^ 62)
  (q:R (P4 lo (hi-lo).toNat) H):wpAny (model X.prog X.w) X.A (pyIter<|.ref s.heap.objs.size) (Sn X pins σ tg R) E { s with heap:=s.heap.push { cls:=.type "range",data:=.fields #[.int lo t,.int hi u,.int 1 v]},toks:=tk }:=by
 refine wpAny_pyIter_range (IsRange.new ..) (small_one h1 h2 h3 h4) ?_;have I1:Inv X pins σ H { s with heap:=s.heap.push { cls:=.type "range",data:=.fields #[.int lo t,.int hi u,.int 1 v]},toks:=tk }:=I.kept λb o e=>aJ _ e;refine⟨(s.heap.push { cls:=.type "range",data:=.fields #[.int lo t,.int hi u,.int 1 v]}).objs.size,[(s.heap.push { cls:=.type "range",data:=.fields #[.int lo t,.int hi u,.int 1 v]}).objs.size],_,_,H,rfl,
  I1.kept (t':=tk) λb o e=>aJ _ e,Bo _ lo (hi-lo).toNat,?_,λb hb=>?_,q⟩
 ·have e1:lo+((0:Nat):Int) * 1=lo:=by simp
  have e2:(((hi-lo).toNat:Nat):Int)-((0:Nat):Int)=Builtin.Range.rangeSize lo hi 1:=by rw[rangeSize_one];split<;>lia
  skip
  rw[e1,e2];exact aU _ rfl
 ·have e:b=(s.heap.push { cls:=.type "range",data:=.fields #[.int lo t,.int hi u,.int 1 v]}).objs.size:=by simpa using hb
  subst e;kln_w
abbrev p_ (ta:TA):TI:=λσ H R=>ta σ H λvs H1=>∃j:Int,vs=[.int j]/\-(2 ^ 62)<=j/\j<2 ^ 62/\R (P4 0 j.toNat) H1
abbrev o4 (ta:TA):TI:=λσ H R=>ta σ H λvs H1=>∃i j:Int,vs=[.int i,.int j]/\(-(2 ^ 62)<=i/\i<2 ^ 62/\-(2 ^ 62)<=j/\j<2 ^ 62)/\R (P4 i (j-i).toNat) H1
def E8{a:aC}{ta:TA}{p:Pos}(hg:Gl X "range")(hm:X.mg "range" = none)(ha:PA X [a] ta)(hs:starEach [a] X.env=[(false,eval a X.env)]:=by rfl):PI X tg (.Call (.Name "range" p) [a] [] pos) (p_ ta):=by
 intro pins s σ H R I h;refine Call_<|qL I hg hm boot_range<|cW (jP (ha pos pins s σ H _ I h) λus s1 ⟨vs,H1,I1,r1,q1⟩=>?_) hs rfl;obtain⟨j,e,q1,q2,q⟩:=q1;subst e
 cases r1 with
 | cons r rr=>
  cases rr
  obtain⟨t,rfl⟩:=r;exact call_range_1<|zk I1 () () q1 q2<|by simpa using q
def ET{a b:aC}{ta:TA}{p:Pos}(hg:Gl X "range")(hm:X.mg "range" = none)(ha:PA X [a,b] ta)(hs:starEach [a,b] X.env=[(false,eval a X.env),(false,eval b X.env)]:=by rfl)(hs2:starEach [b] X.env=[(false,eval b X.env)]:=by rfl) :
  PI X tg (.Call (.Name "range" p) [a,b] [] pos) (o4 ta):=by
 intro pins s σ H R I h;refine Call_ (qL I hg hm boot_range<|cW (jP (ha pos pins s σ H _ I h) λus s1 ⟨vs,H1,I1,r1,q1⟩=>?_) (by rw[hs,hs2])<|by rw[hs2];rfl);obtain⟨i,j,e,⟨q1,q2,q3,q4⟩,q⟩:=q1;subst e
 cases r1 with
 | cons r rr=>
  cases rr with
  | cons r' rr=>
   cases rr
   obtain⟨t,rfl⟩:=r;obtain⟨t',rfl⟩:=r';exact call_range_2<|zk I1 q1 q2 q3 q4 q
abbrev Sb (wi:TI)(g:TG)(tb:TS):TS:=λD σ H=>wi σ H λJ H1=>∃W:Nat->Nat->St->Hp->Prop,(∃m,W 0 m σ H1)/\∀i m σ H,W i m σ H ->
 (J.stop i H/\D.nx σ H)\/(J.go i H/\∃N:St->Hp->Prop,(∀σ' H',N σ' H'->∃m',m'<m/\W (i+1) m' σ' H')/\∀x H',J.yld i H x H'->g x σ H' λσ2 H2=>tb { D with nx:=N,ct:=N,bk:=D.nx } σ2 H2)
abbrev vK (fp:bb)(h:ak):bp:=fp.filterMap λb=>(h.get? b).map λo=>(b,o)
def mT{fp:bb}{h:ak}{b:aj}(hb:b∈fp)(e:h.get? b=some o):(b,o)∈vK fp h:=fE.mpr ⟨b,hb,by rw[e];rfl⟩
def E_{fp:bb}{h:ak}{p:aj×Obj}(hp:p∈vK fp h):p.1∈fp/\h.get? p.1=some p.2:=by
 obtain⟨b,hb,e⟩:=fE.mp hp
 cases q:h.get? b with
 | none=>rw[q]at e;cases e
 | some o=>
  rw[q]at e;have e':(b,o)=p:=aS e;subst e';exact⟨hb,q⟩
def Inv.pinned{H:Hp}{s:aA}{fp:bb}(I:Inv X pins σ H s)(hf:∀b∈fp,tP X pins H b)(ho:∀b∈fp,∃o,s.heap.get? b=some o/\∀v,o.data≠.cell v):Inv X (pins++vK fp s.heap) σ H s:=
 I.Du λp hp=>(bC.mp hp).elim (λz=>I.pin p<|bF _ z) λz=>by
  obtain⟨hb,e⟩:=E_ z;obtain⟨f0,f1,f2,_⟩:=hf p.1 hb;obtain⟨o,e',d⟩:=ho p.1 hb;rw[e]at e';cases e';exact⟨e,f0,f1,f2,d⟩
def Inv.qi{H:Hp}(I:Inv X (pins++pl) σ H s):Inv X pins σ H s:=I.Du λp hp=>I.pin p<|bF _<|b6 _ hp
def Oj{iter:aC}{wi:TI}{g:TG}{tb:TS}(hp:PassesOwn (model X.prog X.w) X.A X.env X.xe)(hc:X.calm=true)(hi:PI X tg iter wi)(hg:PG X tg g)(hb:xM X body tb)
  (hs:∀x,foldedSetIterable iter X.env x=pure x:=by intro _;rfl):PS X (.For tg iter body [] pos) (Sb wi g tb):=by
 kpc_g;refine wpAny_For (jP (hi pins s σ H _ I h) λv s1 h1=>jP h1 λitv s2 h2=>?_) hs;obtain⟨it,fp,tn,J,H2,e,I2,T,st2,f2,W,⟨m0,w0⟩,turn⟩:=h2;subst e;have stat:∀{H':Hp},(∀b∈fp,H' b=none)->∀b∈fp,tP X pins H' b:=λhn b hb=>⟨hn b hb,(f2 b hb).2⟩;refine codeAny_forLoop_any (λn s'=>∃i σ' H',Inv X pins σ' H' s'/\tn i s'.heap/\(∀b∈fp,H' b=none)/\W i n σ' H') ?_ m0 ⟨0,σ,H2,I2,st2,λb hb=>(f2 b hb).1,w0⟩;rintro n s3 ⟨i,σ3,H3,I3,st3,fr3,w3⟩
 rcases turn i n σ3 H3 w3 with⟨stop,qn⟩|⟨go,N,hN,step⟩
 ·refine dU hp<|jP (T.done X rfl rfl rfl hc i pins s3 σ3 H3 X.xe I3 (stat fr3) st3 stop) λr s4 ⟨hr,I4⟩=>?_;subst hr;exact fB ⟨σ3,H3,I4,qn⟩
 ·refine dU hp<|jP (T.item X rfl rfl rfl hc i pins s3 σ3 H3 X.xe I3 (stat fr3) st3 go) λr s4 ⟨u,hr,h4⟩=>?_;subst hr;refine dU hp<|jP h4 λ_ s5 ⟨x,H5,I5,r5,y5,st5,fr5⟩=>?_;have I5':=I5.pinned (stat fr5)<|T.obj _ _ st5;refine dU hp<|jP (hg _ s5 σ3 H5 x u _ I5' r5<|step x H5 y5) λ_ s6 ⟨σ6,H6,I6,q6⟩=>?_;refine dU hp<|jP (hb _ s6 σ6 H6 _ I6 q6) λf s7 q7=>?_;have again:∀{σ7:St} {H7:Hp},Inv X (pins++vK fp s5.heap) σ7 H7 s7->N σ7 H7->∃m,m<n/\∃i σ' H',Inv X pins σ' H' s7/\tn i s7.heap/\(∀b∈fp,H' b=none)/\W i m σ' H':=λ{σ7 H7} I7 n7=>by
   obtain⟨m',hm,w7⟩:=hN σ7 H7 n7;refine⟨m',hm,i+1,σ7,H7,I7.qi,T.keep _ _ _ st5 λb hb o e=>(I7.pin (b,o)<|bF _<|bF _<|mT hb e).1,λb hb=>?_,w7⟩;obtain⟨o,e,d⟩:=T.obj _ _ st5 b hb;exact(I7.pin (b,o)<|bF _<|bF _<|mT hb e).2.1
  cases f with
  | next=>obtain⟨σ7,H7,I7,n7⟩:=q7;exact again I7 n7
  | cont=>obtain⟨σ7,H7,I7,n7⟩:=q7;exact again I7 n7
  | brk=>obtain⟨σ7,H7,I7,q7⟩:=q7;exact⟨σ7,H7,I7.qi,q7⟩
  | ret v=>obtain⟨x7,σ7,H7,I7,r7,q7⟩:=q7;exact⟨x7,σ7,H7,I7.qi,r7,q7⟩
end
def rJ{c:TT}{tb:TS}{D:Ends}{H:Hp}(Pv:St->Hp->Prop)(μ:St->Hp->Nat)(h0:Pv σ H)
  (hs:∀σ H,Pv σ H->c σ H λb H1=>if b=true then tb { D with nx:=λσ' H'=>Pv σ' H'/\μ σ' H'<μ σ H,ct:=λσ' H'=>Pv σ' H'/\μ σ' H'<μ σ H,bk:=D.nx } σ H1 else D.nx σ H1)
  (mono:∀σ H Q Q',(∀b H1,Q b H1->Q' b H1)->c σ H Q->c σ H Q'):Jz c tb D σ H:=by
 refine⟨λm σ H=>m=μ σ H/\Pv σ H,⟨_,rfl,h0⟩,?_⟩;rintro m σ H ⟨rfl,p⟩;refine mono σ H _ _ (λb H1 q=>?_) (hs σ H p)
 cases b with
 | true=>exact⟨_,λσ' H' ⟨p',l⟩=>⟨_,l,rfl,p'⟩,q⟩
 | false=>exact q
meta abbrev R2:=V->V->Hp->VK->Prop
abbrev lG (X:Cx)(f:aa->aa->Sem aa)(r:R2):Prop:=
 ∀(pins:bp) (s:aA) (σ:St) (H:Hp) (x y:V) (v u:aa) (Q:VK),Inv X pins σ H s->RelV x v->RelV y u->r x y H Q ->
  wpAny (model X.prog X.w) X.A (f v u) (EP X pins σ Q) X.xe s
abbrev QM (X:Cx)(f:aa->Sem aa)(r:V->Hp->VK->Prop):Prop:=
 ∀(pins:bp) (s:aA) (σ:St) (H:Hp) (x:V) (v:aa) (Q:VK),Inv X pins σ H s->RelV x v->r x H Q ->
  wpAny (model X.prog X.w) X.A (f v) (EP X pins σ Q) X.xe s
abbrev jt (X:Cx)(f:aa)(r:List V->Hp->VK->Prop):Prop:=
 ∀(pins:bp) (s:aA) (σ:St) (H:Hp) (xs:List V) (us:ba) (Q:VK),Inv X pins σ H s->Vals xs us->r xs H Q ->
  wpAny (model X.prog X.w) X.A (call f us) (EP X pins σ Q) X.xe s
abbrev RC (X:Cx)(r:V->Hp->(Bool->Hp->Prop)->Prop):Prop:=
 ∀(pins:bp) (s:aA) (σ:St) (H:Hp) (x:V) (v:aa) (Q:Bool->Hp->Prop),Inv X pins σ H s->RelV x v->r x H Q ->
  wpAny (model X.prog X.w) X.A (truthy v) (TP X pins σ Q) X.xe s
abbrev O9 (r:R2)(ta tb:TE):TE:=λσ H Q=>ta σ H λx H1=>tb σ H1 λy H2=>r x y H2 Q
abbrev SA (r:V->Hp->VK->Prop)(ta:TE):TE:=λσ H Q=>ta σ H λx H1=>r x H1 Q
abbrev rI (C:Int->Int->Prop)(g:Int->Int->V):R2:=λx y H Q=>∃i j,x=.int i/\y=.int j/\C i j/\Q (g i j) H
abbrev Lw (g:Int->Int->V):R2:=λx y H Q=>∃i j,x=.int i/\y=.int j/\Q (g i j) H
abbrev rU (g:Int->V):V->Hp->VK->Prop:=λx H Q=>∃i,x=.int i/\Q (g i) H
section
variable {X:Cx}{a b:aC}{ta tb:TE}{pos:Pos}
def N_(ha:PE X a ta)(hb:PE X b tb){H:Hp}{R:V->V->Hp->Prop}(I:Inv X pins σ H s)
  (h:ta σ H λx H1=>tb σ H1 λy H2=>R x y H2) {Q:aa->aA->Prop} {f:aa->aa->Sem aa}
  (hf:∀v u s2 x y H2,Inv X pins σ H2 s2->RelV x v->RelV y u->R x y H2->wpAny (model X.prog X.w) X.A (f v u) Q X.xe s2) :
  wpAny (model X.prog X.w) X.A (eval a X.env) (λv s₁=>wpAny (model X.prog X.w) X.A (eval b X.env) (λu s₂=>wpAny (model X.prog X.w) X.A (f v u) Q X.xe s₂) X.xe s₁) X.xe s:=by
 refine jP (ha pins s σ H _ I h) λv s1 ⟨x,H1,I1,r1,q1⟩=>?_;refine jP (hb pins s1 σ H1 _ I1 q1) λu s2 ⟨y,H2,I2,r2,q2⟩=>?_;exact hf v u s2 x y H2 I2 r1 r2 q2
def PB{r:R2}(ho:lG X (binaryOp op) r)(ha:PE X a ta)(hb:PE X b tb):PE X (.BinOp a op b pos) (O9 r ta tb):=by
 w_up;exact wpAny_BinOp<|N_ ha hb I h λv u s2 x y H2 I2 rx ry q=>ho pins s2 σ H2 x y v u Q I2 rx ry q
def Hu{r:V->Hp->VK->Prop}(ho:QM X (unaryOp op) r)(ha:PE X a ta):PE X (.UnaryOp op a pos) (SA r ta):=by
 w_up;exact UnaryOp_<|jP (ha pins s σ H _ I h) λv s1 ⟨x,H1,I1,r1,q1⟩=>ho pins s1 σ H1 x v Q I1 r1 q1
def QU{f:aa->aa->Sem aa}{C:Int->Int->Prop}{g:Int->Int->Int}
  (rule:∀(i j:Int) (t u:Tok) (s:aA) (Q:aa->aA->Prop) (E:aa->aA->Prop),C i j->Q (.int (g i j) s.toks) { s with toks:=s.toks+1 }->wpAny (model X.prog X.w) X.A (f (.int i t)<|.int j u) Q E s) :
  lG X f (rI C λi j=>.int<|g i j):=by
 kd_p;obtain⟨i,j,rfl,rfl,hc,q⟩:=h;cb_eq;obtain⟨t',rfl⟩:=ry;exact rule i j t t' s _ _ hc ⟨.int<|g i j,H,I.tok _,⟨_,rfl⟩,q⟩
def PL{f:aa->aa->Sem aa}{g:Int->Int->Int}
  (rule:∀(i j:Int) (t u:Tok) (s:aA) (Q:aa->aA->Prop) (E:aa->aA->Prop),Q (.int (g i j) s.toks) { s with toks:=s.toks+1 }->wpAny (model X.prog X.w) X.A (f (.int i t)<|.int j u) Q E s) :
  lG X f (Lw λi j=>.int<|g i j):=by
 kd_p;obtain⟨i,j,rfl,rfl,q⟩:=h;cb_eq;obtain⟨t',rfl⟩:=ry;exact rule i j t t' s _ _ ⟨.int<|g i j,H,I.tok _,⟨_,rfl⟩,q⟩
def Ka{f:aa->aa->Sem aa}{g:Int->Int->Bool}
  (rule:∀(i j:Int) (t u:Tok) (s:aA) (Q:aa->aA->Prop) (E:aa->aA->Prop),Q (.bool<|g i j) s->wpAny (model X.prog X.w) X.A (f (.int i t)<|.int j u) Q E s) :
  lG X f (Lw λi j=>.bl<|g i j):=by
 kd_p;obtain⟨i,j,rfl,rfl,q⟩:=h;cb_eq;obtain⟨t',rfl⟩:=ry;exact rule i j t t' s _ _ ⟨.bl<|g i j,H,I,rfl,q⟩
abbrev Rf (i j:Int):Prop:=0<=j/\j<=1000000/\i.natAbs<2 ^ 64
abbrev K_ (i j:Int):Prop:=(-(2 ^ 64)<i/\i<2 ^ 64)\/(-(2 ^ 64)<j/\j<2 ^ 64)
def K_.ok{i j:Int}(h:K_ i j):IntMulOk i j:=by
 rcases h with⟨h1,h2⟩|⟨h1,h2⟩
 ·exact .of_left (intBits_le_64 h1 h2)
 ·exact .of_right<|intBits_le_64 h1 h2
def Mv:lG X (binaryOp .Add) (Lw λi j=>.int<|i+j):=PL λ_ _ _ _ _ _ _ q=>add_int q
def MZ:lG X (binaryOp .Sub) (Lw λi j=>.int<|i-j):=PL λ_ _ _ _ _ _ _ q=>sub_int q
def NJ:lG X (binaryOp .Mult) (rI K_ λi j=>.int<|i * j):=QU λ_ _ _ _ _ _ _ hc q=>mul_int q hc.ok
def OI:lG X (binaryOp .Mod) (rI (λ_ j=>0<j) λi j=>.int<|i % j):=QU λi j _ _ _ _ _ hc q=>by
 have h1:(0:Int)<j:=hc;exact mod_int' ()<|by rw[Int.fmod_eq_emod_of_nonneg i ()];exact q
def Mq:lG X (binaryOp .Pow) (rI Rf λi j=>.int<|i ^ j.toNat):=QU λ_ _ _ _ _ _ _ hc q=>pow_int_small hc.1 hc.2.1 hc.2.2 q
theorem To{f:aa->Sem aa}{g:Int->Int}
  (rule:∀(i:Int) (t:Tok) (s:aA) (Q:aa->aA->Prop) (E:aa->aA->Prop),Q (.int (g i) s.toks) { s with toks:=s.toks+1 }->wpAny (model X.prog X.w) X.A (f<|.int i t) Q E s) :
  QM X f (rU λi=>.int<|g i):=by
 intro pins s σ H x v Q I rx h;obtain⟨i,rfl,q⟩:=h;cb_eq;exact rule i t s _ _ ⟨.int<|g i,H,I.tok _,⟨_,rfl⟩,q⟩
def BK:QM X (unaryOp .USub) (rU λi=>.int<|-i):=To λ_ _ _ _ _ q=>neg_int q
end
section
variable {X:Cx}{a b c:aC}{ta tb tc:TE}{pos:Pos}
def Fe{H:Hp}{Q:VK}{k:Bool}(I:Inv X pins σ H s)(q:Q (.bl k) H)(e:k=k'):EP X pins σ Q (.bool k') s:=by
 subst e;exact⟨.bl k,H,I,rfl,q⟩
def Pc:lG X (compareOp .Lt) (Lw λi j=>.bl<|decide<|i<j):=Ka λ_ _ _ _ _ _ _ q=>lt_int q
def Qe:lG X (compareOp .LtE) (Lw λi j=>.bl<|decide<|i<=j):=Ka λ_ _ _ _ _ _ _ q=>le_int q
def PM:lG X (compareOp .Gt) (Lw λi j=>.bl<|decide<|j<i):=Ka λ_ _ _ _ _ _ _ q=>gt_int q
def Qg:lG X (compareOp .GtE) (Lw λi j=>.bl<|decide<|j<=i):=Ka λ_ _ _ _ _ _ _ q=>ge_int q
def Od:lG X (compareOp .Is) (λx y H Q=>y=.non/\Q (.bl<|decide<|x=.non) H):=by
 kd_p;obtain⟨rfl,q⟩:=h
 cases ry
 refine is_none_gen (Fe I q ?_)
 cases x<;>first
  | (cases rx;rfl)
  | (obtain⟨t,rfl⟩:=rx;rfl)
def Le:lG X (compareOp .IsNot) (λx y H Q=>y=.non/\Q (.bl<|!decide (x=.non)) H):=by
 kd_p;obtain⟨rfl,q⟩:=h
 cases ry
 refine isnot_none_gen (Fe I q ?_)
 cases x<;>first
  | (cases rx;rfl)
  | (obtain⟨t,rfl⟩:=rx;rfl)
def FW(b:aC)(h:op≠.In:=by decide)(h2:op≠.NotIn:=by decide):behindInMarks op b=false:=by
 have e1:(op == CmpOp.In)=false:=by cases op<;>first|rfl|exact absurd rfl h
 have e2:(op == CmpOp.NotIn)=false:=by cases op<;>first|rfl|exact absurd rfl h2
 cases b<;>simp[behindInMarks,e1,e2]
def KO{op:CmpOp}{r:R2}(ho:lG X (compareOp op) r)(ha:PE X a ta)(hb:PE X b tb)(hm:behindInMarks op b=false):PE X (.Compare a [op] [b] pos) (O9 r ta tb):=by
 w_up;exact wpAny_Compare1 (N_ ha hb I h λv u s2 x y H2 I2 rx ry q=>ho pins s2 σ H2 x y v u Q I2 rx ry q) hm
abbrev Pd (t:TE):TT:=λσ H Q=>t σ H λx H'=>∃k,x=.bl k/\Q k H'
def KW{op:CmpOp}{r:R2}(ho:lG X (compareOp op) r)(ha:PE X a ta)(hb:PE X b tb)(hm:behindInMarks op b=false):PT X (.Compare a [op] [b] pos) (Pd<|O9 r ta tb):=by
 w_up;refine wpAny_isTrue_Compare1 (jP (ha pins s σ H _ I h) λv s1 ⟨x,H1,I1,r1,q1⟩=>jP (hb pins s1 σ H1 _ I1 q1) λu s2 ⟨y,H2,I2,r2,q2⟩=>
  jP (ho pins s2 σ H2 x y v u _ I2 r1 r2 q2) λc s3 ⟨z,H3,I3,r3,k,e,q3⟩=>?_) hm
 subst e
 cases r3
 exact ck ⟨H3,I3,q3⟩
abbrev IW (r r':R2)(ta tb tc:TE):TE:=λσ H Q=>ta σ H λx H1=>tb σ H1 λy H2=>r x y H2 λz H3=>∃k,z=.bl k /\
 (if k=true then tc σ H3 λw' H4=>r' y w' H4 Q else Q (.bl false) H3)
def Jd{r r':R2}(ho:lG X (compareOp op) r)(ho':lG X (compareOp op') r')(ha:PE X a ta)(hb:PE X b tb)(hc:PE X c tc)
  (hm:lastMarks [op,op'] [b,c]=false:=by with_unfolding_all rfl):PE X (.Compare a [op,op'] [b,c] pos) (IW r r' ta tb tc):=by
 w_up;refine Compare_chain (jP (ha pins s σ H _ I h) λv s1 ⟨x,H1,I1,r1,q1⟩=>chain_link (jP (hb pins s1 σ H1 _ I1 q1) λu s2 ⟨y,H2,I2,r2,q2⟩=>
  jP (ho pins s2 σ H2 x y v u _ I2 r1 r2 q2) λd s3 ⟨z,H3,I3,r3,k,e,q3⟩=>?_)) hm
 subst e
 cases r3
 refine ck ?_
 cases k with
 | false=>exact ite_ff ⟨.bl false,H3,I3,rfl,q3⟩
 | true=>exact ite_tt<|chain_last<|jP (hc pins s3 σ H3 _ I3 q3) λw' s4 ⟨z',H4,I4,r4,q4⟩=>ho' pins s4 σ H4 y z' u w' Q I4 r2 r4 q4
abbrev MY (K:au)(x:V)(H:Hp)(k:Bool):Prop:=
 match x with
 | .non=>k=false
 | .bl b=>k=b
 | .int i=>k=(i != 0)
 | .str y=>y.length<=sizeLine/\k=((y.length:Int) != 0)
 | .byt y=>y.size<=sizeLine/\k=((y.size:Int) != 0)
 | .ref p=>(∃xs,lE K H p xs/\k=!xs.isEmpty)\/(∃xs,kQ K H p xs/\k=!xs.isEmpty)\/∃kvs,H p=some (.dK kvs)/\k=!kvs.isEmpty
 | _=>False
def Bj{κ:Type}{kvs:List<|κ×V}{vs:List<|κ×aa}(r:KV kvs vs):(!vs.isEmpty)=!kvs.isEmpty:=by
 cases r<;>rfl
def vf{xs:List V}{its:ba}(r:Vals xs its):(!its.toArray.isEmpty)=!xs.isEmpty:=by
 cases r<;>simp
def qM:(sizeLine:Nat)<2 ^ 63:=by rw[dN];decide
def NG:RC X (λx H Q=>∃k,MY X.K x H k/\Q k H):=by
 intro pins s σ H x v Q I rx h;obtain⟨k,e,q⟩:=h;have hl:=qM;have hs:sizeLine=16777216:=dN
 cases x with
 | non=>
  cases rx
  have e':k=false:=e;subst e';exact truthy_none ⟨H,I,q⟩
 | bl b=>
  cases rx
  have e':k=b:=e;subst e';exact ck ⟨H,I,q⟩
 | int i=>
  cb_eq;have e':k=(i != 0):=e;subst e';exact PySem.P.truthy_int ⟨H,I,q⟩
 | str y=>
  cb_eq;obtain⟨hy,e'⟩:y.length<=sizeLine/\k=((y.length:Int) != 0):=e;subst e';exact PySem.P.truthy_str () ⟨H,I.tok _,q⟩
 | byt y=>
  cb_eq;obtain⟨hy,e'⟩:y.size<=sizeLine/\k=((y.size:Int) != 0):=e;subst e';exact PySem.W.truthy_bytes () ⟨H,I.tok _,q⟩
 | ref p=>
  cases rx
  have e':(∃xs,lE X.K H p xs/\k=!xs.isEmpty)\/(∃xs,kQ X.K H p xs/\k=!xs.isEmpty)\/∃kvs,H p=some (.dK kvs)/\k=!kvs.isEmpty:=e
  rcases e' with⟨xs,hx,e'⟩|⟨xs,hx,e'⟩|⟨kvs,hx,e'⟩
  ·subst e';obtain⟨its,r,pl,hz⟩:=I.list hx;have hlen:=r.length;exact wpAny_truthy_list pl.isList (by dsimp[aP];lia) ⟨H,I.tok _,by rw[vf r];exact q⟩
  ·subst e';obtain⟨its,r,pl,hz⟩:=I.tuple hx;have hlen:=r.length;exact truthy_tuple pl (by dsimp[aP];lia) ⟨H,I.tok _,by rw[vf r];exact q⟩
  ·subst e';obtain⟨hz,hS,vs,r,m⟩:kvs.length<=sizeLine/\(p == sysModules)=false/\∃vs,KV kvs vs/\s.heap.DictOf (xV X.prog X.w) p vs:=I.hok p _ hx;have hlen:kvs.length=vs.length:=Paired.length r;exact wpAny_truthy_dict hS m () ⟨H,I.tok _,by rw[Bj r];exact q⟩
 | _=>exact(show False from e).elim
def Ge(ha:PE X a ta)(he:∀whole,isTrue a X.env whole=(do let v <- whole;standAt a.pos;holding [v] (truthy v))) :
  PT X a (λσ H Q=>ta σ H λx H'=>∃k,MY X.K x H' k/\Q k H'):=by
 w_up;exact isTrue_plain (jP (ha pins s σ H _ I h) λv s1 ⟨x,H1,I1,r1,q1⟩=>NG pins s1 σ H1 x v Q I1 r1 q1)<|he _
def A2:lG X (binaryOp .Add) (λx y H Q=>∃i j,x=.str i/\y=.str j/\i.length+j.length<=sizeLine/\Q (.str<|i++j) H):=by
 kd_p;obtain⟨i,j,rfl,rfl,hz,q⟩:=h;cb_eq;obtain⟨t',rfl⟩:=ry;exact add_str (λt' tk=>⟨.str<|i++j,H,I.tok _,⟨_,rfl⟩,q⟩) hz
def vals1{x:V}(r:Vals [x] us):∃u,us=[u]/\RelV x u:=by
 cases r with
 | cons r1 r2=>cases r2;exact⟨_,rfl,r1⟩
def vals2{x:V}(r:Vals [x,y] us):∃u w',us=[u,w']/\RelV x u/\RelV y w':=by
 cases r with
 | cons r1 r2=>
  cases r2 with
  | cons r3 r4=>cases r4;exact⟨_,_,rfl,r1,r3⟩
def Gy:jt X (.builtin "abs") (λxs H Q=>∃i,xs=[.int i]/\Q (.int<|if i<0 then -i else i) H):=by
 kt_k;obtain⟨i,rfl,q⟩:=h;obtain⟨u,rfl,t,rfl⟩:=vals1 r;exact call_abs_int λu tk=>⟨.int<|if i<0 then -i else i,H,I.tok _,⟨_,rfl⟩,q⟩
def EN(hc:X.calm=true):jt X (.builtin "max") (λxs H Q=>∃i j,xs=[.int i,.int j]/\Q (.int<|if j>i then j else i) H):=by
 kt_k;obtain⟨i,j,rfl,q⟩:=h;obtain⟨u,w',rfl,⟨t,rfl⟩,⟨t',rfl⟩⟩:=vals2 r;refine max_two_ints (I.ok.hd hc) λh' tk k=>⟨_,H,I.kept k,?_,q⟩;by_cases hj:j>i
 ·rw[aM hj,aM hj];exact⟨_,rfl⟩
 ·rw[aL hj,aL hj];exact⟨_,rfl⟩
def EJ(hc:X.calm=true):jt X (.builtin "min") (λxs H Q=>∃i j,xs=[.int i,.int j]/\Q (.int<|if j<i then j else i) H):=by
 kt_k;obtain⟨i,j,rfl,q⟩:=h;obtain⟨u,w',rfl,⟨t,rfl⟩,⟨t',rfl⟩⟩:=vals2 r;refine min_two_ints (I.ok.hd hc) λh' tk k=>⟨_,H,I.kept k,?_,q⟩;by_cases hj:j<i
 ·rw[aM hj,aM hj];exact⟨_,rfl⟩
 ·rw[aL hj,aL hj];exact⟨_,rfl⟩
def wZ:jt X (.type "int") (λxs H Q=>(∃i,xs=[.int i]/\Q (.int i) H)\/∃k,xs=[.bl k]/\Q (.int<|if k then 1 else 0) H):=by
 kt_k
 rcases h with⟨i,rfl,q⟩|⟨k,rfl,q⟩
 ·obtain⟨u,rfl,t,rfl⟩:=vals1 r;exact call_int_int ⟨.int i,H,I,⟨_,rfl⟩,q⟩
 ·obtain⟨u,rfl,r1⟩:=vals1 r
  cases r1
  exact call_int_bool ⟨.int<|if k then 1 else 0,H,I.tok _,⟨_,rfl⟩,q⟩
abbrev Rk (K:au)(x:V)(H:Hp)(n:Nat):Prop:=
 match x with
 | .str y=>y.length<=sizeLine/\n=y.length
 | .byt y=>y.size<=sizeLine/\n=y.size
 | .ref p=>(∃xs,lE K H p xs/\n=xs.length)\/∃xs,kQ K H p xs/\n=xs.length
 | _=>False
def IB:jt X (.builtin "len") (λxs H Q=>∃x n,xs=[x]/\Rk X.K x H n/\Q (.int n) H):=by
 kt_k;obtain⟨x,n,rfl,e,q⟩:=h;kl_no;have hl:=qM;have hs:sizeLine=16777216:=dN
 cases x with
 | str y=>
  cb_eq;obtain⟨hy,e'⟩:y.length<=sizeLine/\n=y.length:=e;subst e';exact len_str () ⟨.int _,H,I.tok _,⟨_,rfl⟩,q⟩
 | byt y=>
  cb_eq;obtain⟨hy,e'⟩:y.size<=sizeLine/\n=y.size:=e;subst e';exact PySem.W.len_bytes () ⟨.int _,H,I.tok _,⟨_,rfl⟩,q⟩
 | ref p=>
  cases rx
  have e':(∃xs,lE X.K H p xs/\n=xs.length)\/∃xs,kQ X.K H p xs/\n=xs.length:=e
  rcases e' with⟨xs,hx,e'⟩|⟨xs,hx,e'⟩
  ·subst e';obtain⟨its,r',pl,hz⟩:=I.list hx;have hlen:=r'.length;exact Calls.call_len_list pl.isList (by dsimp[aP];lia) ⟨.int xs.length,H,I.tok _,⟨_,by dsimp[aP];rw[hlen]⟩,q⟩
  ·subst e';obtain⟨its,r',pl,hz⟩:=I.tuple hx;have hlen:=r'.length;exact len_tuple pl (by dsimp[aP];lia) ⟨.int xs.length,H,I.tok _,⟨_,by dsimp[aP];rw[hlen]⟩,q⟩
 | _=>exact(show False from e).elim
end
structure ObjM (h:ak)(x dx C:aj)(mA:Str->bd):Prop where
 obj:h.get? x=some (PySem.W.instObj C dx)
 ns:h.Ns1 dx mA
 ne:dx≠x
def EY{h:ak}{mA:Str->bd}(n:h.Ns1 dx mA):∃od,h.get? dx=some od/\∀name,PySem.W.lookIn name od=some (mA name):=by
 obtain⟨o,es,ep,ho,hd,hk,_,hm⟩:=n;refine⟨o,ho,λname=>?_⟩;have e:=hm name;unfold nsFind findBy at e;rw[<- Array.find?_toList]at e;unfold PySem.W.lookIn;rw[hd];dsimp only;split
 ·rename_i y q;rw[q]at e;exact fM some e
 ·rename_i q;rw[q]at e;have a:es.toList.any (·.refKey)=false:=by
   rw[List.any_eq_false];intro y hy;obtain⟨z,t,hkey⟩:=hk y<|Array.mem_toList_iff.mp hy;simp[DictEntry.refKey,hkey]
  have a':¬es.toList.any (·.refKey)=true:=by rw[a];exact aX
  rw[aL a'];exact fM some e
def ObjM.look{x:aj}{mA:Str->bd}(I:ObjM h x dx C mA):∃od,PySem.W.InstAt h x (PySem.W.instObj C dx) C (some od)/\∀name,PySem.W.lookIn name od=some (mA name):=
 let⟨od,ho,hl⟩:=EY I.ns
 ⟨od,⟨I.obj,rfl,rfl,ho⟩,hl⟩
section
variable {P:ah}{w:af}{H:Hp}{h:ak}{a C dx:aj}{fs:List (Str×V)}
def KQ(hok:sU P w H h)(e:H a=some (.ins C dx fs)):∃mA,ObjM h a dx C mA/\(∀f,Oe (fs.lookup f)<|mA f)/\PySem.Within mA (fs.map (·.1))/\fs.length<=1000/\H dx=some (.own a):=by
 obtain⟨d,z,ne,ob,mA,n,r,q⟩:=(show j6 P w H h a (.ins C dx fs)from hok a _ e);exact⟨mA,⟨ob,n,ne⟩,r,q,z,d⟩
end
structure Cls (K:au)(C:aj):Prop where
 pg:PySem.W.plainGet K C Str.empty=true
 hd:PySem.W.hasDictIn K C=true
 po:PySem.W.plainOver K C=true
 sa:PySem.W.findIn K (.ref C) "__setattr__" = some (some<|.builtin "object.__setattr__")
def Cls.get{K:au}(c:Cls K C)(f:Str):PySem.W.plainGet K C f=true:=c.pg
structure Con (K:au)(C:aj)(f:Str)(v:V)(u:aa):Prop where
 at_:PySem.W.findIn K (.ref C) f=some (some u)
 rel:RelV v u
 get:PySem.W.specialIn K u "__get__" = some none
 cp:PySem.W.copiedNames.contains f=false
structure Meth (K:au)(C:aj)(m:Str)(f:aj):Prop where
 at_:PySem.W.findIn K (.ref C) m=some (some<|.ref f)
 fn:PySem.W.isFn K (.ref f)=true
 kp:PySem.W.keepIn K (.ref f)=true
section
variable {X:Cx}{pins:bp}{σ:St}{H:Hp}{s:aA}{A:az}{E:aa->aA->Prop}{Q:aa->aA->Prop}{c:aa}{b:Bool}
inductive TyOf (K:au) (H:Hp):V->aa->Prop where
 | non:TyOf K H .non (.type "NoneType")
 | bl (x:Bool):TyOf K H (.bl x) (.type "bool")
 | int (i:Int):TyOf K H (.int i) (.type "int")
 | str (x:Str):TyOf K H (.str x) (.type "str")
 | flt (x:UInt64):TyOf K H (.flt x) (.type "float")
 | lst {a:aj} {xs:List V} (e:H a=some (.lst xs)):TyOf K H (.ref a) (.type "list")
 | frz {a:aj} {o:Obj} {xs:List V} (e:H a=some (.frz o<|.lst xs)):TyOf K H (.ref a) (.type "list")
 | tup {a:aj} {xs:List V} (e:H a=some (.tup xs)):TyOf K H (.ref a) (.type "tuple")
 | dK {a:aj} {kvs:List<|Key×V} (e:H a=some (.dK kvs)):TyOf K H (.ref a) (.type "dict")
 | dT {a:aj} {kvs:List<|List Key×V} (e:H a=some (.dT kvs)):TyOf K H (.ref a) (.type "dict")
 | ins {a C dx:aj} {fs:List<|Str×V} (e:H a=some (.ins C dx fs)) (cl:Cls K C) (ha:PySem.W.findIn K (.ref C) "__class__" = some (some<|.builtin "object.__class__"))
   (hn:PySem.W.specialIn K (.builtin "object.__class__") "__get__" = some (some<|.builtin "getset_descriptor.__get__")) (htk:PySem.W.takesIn K (.builtin "object.__class__")=some true)
   (hm:PySem.W.mroIn K C (.type "object")=some true):TyOf K H (.ref a)<|.ref C
def Er{x:V}(I:Inv X pins σ H s)(rx:RelV x u)(ty:TyOf X.K H x t)(e:PySem.W.kitOne X.K t c=some b)(h:∀tk,Q (.bool b) { s with toks:=tk }) :
  wpAny (model X.prog X.w) A (call (.builtin "isinstance") [u,c]) Q E s:=by
 cases ty with
 | non=>cases(show u=Value.none from rx);exact cg PySem.W.kitx_none I.wD True.intro e (λz=>nomatch z) h
 | bl y=>cases(show u=Value.bool y from rx);exact cg PySem.W.kitx_bool I.wD True.intro e (λz=>nomatch z) h
 | int i=>obtain⟨t,q⟩:=(show ∃t,u=Value.int i t from rx);cases q;exact cg PySem.W.kitx_int I.wD True.intro e (λz=>nomatch z) h
 | str y=>obtain⟨t,q⟩:=(show ∃t,u=Value.str y t from rx);cases q;exact cg PySem.W.kitx_str I.wD True.intro e (λz=>nomatch z) h
 | flt y=>obtain⟨t,q⟩:=(show ∃t,u=Value.float y t from rx);cases q;exact cg PySem.W.kitx_float I.wD True.intro e (λz=>nomatch z) h
 | @lst a xs ea=>
  cases(show u=Value.ref a from rx)
  obtain⟨_,_,n,_,h1⟩:=(show j6 X.prog X.w H s.heap a (.lst xs)from I.hok a _ ea);exact cg PySem.W.kitx_list I.wD ⟨_,h1,rfl⟩ e (λz=>nomatch z) h
 | @frz a ob xs ea=>
  cases(show u=Value.ref a from rx)
  obtain⟨_,_,_,n,_,h1⟩:=(show j6 X.prog X.w H s.heap a (.frz ob<|.lst xs)from I.hok a _ ea);exact cg PySem.W.kitx_list I.wD ⟨_,h1,rfl⟩ e (λz=>nomatch z) h
 | @tup a xs ea=>
  cases(show u=Value.ref a from rx)
  obtain⟨_,_,_,p⟩:=(show j6 X.prog X.w H s.heap a (.tup xs)from I.hok a _ ea);obtain⟨o,h1,h2,_⟩:=p;exact cg PySem.W.kitx_tuple I.wD ⟨o,h1,h2⟩ e (λz=>nomatch z) h
 | @dK a kvs ea=>
  cases(show u=Value.ref a from rx)
  obtain⟨_,_,vs,_,p⟩:=(show j6 X.prog X.w H s.heap a (.dK kvs)from I.hok a _ ea);obtain⟨o,es,ep,h1,h2,_⟩:=p;exact cg PySem.W.kitx_dict I.wD ⟨o,h1,h2.1⟩ e (λz=>nomatch z) h
 | @dT a kvs ea=>
  cases(show u=Value.ref a from rx)
  obtain⟨_,_,xs,_,o,es,ep,h1,h2,_⟩:=(show j6 X.prog X.w H s.heap a (.dT kvs)from I.hok a _ ea);exact cg PySem.W.kitx_dict I.wD ⟨o,h1,h2.1⟩ e (λz=>nomatch z) h
 | @ins a C dx fs ea cl ha hn htk hm=>
  cases(show u=Value.ref a from rx)
  obtain⟨mA,O,_⟩:=KQ I.hok ea;obtain⟨od,J,_⟩:=O.look;exact cg (PySem.W.kitx_own (cl.get _) cl.hd ha hn htk hm) I.wD J e (λz=>nomatch z) h
end
structure Room (k:Nat)(A:az):Prop where
 hd:A.handled=none
 dp:A.depth+3 * k+5<recursionLimit
 un:A.units+16 * k+200<cLine
def Room.mono{k:Nat}{A:az}(r:Room k A)(h:j<=k):Room j A:=⟨r.hd,by have:=r.dp;lia,by have:=r.un;lia⟩
def Room.deeper{k:Nat}{A:az}(r:Room (k+1) A)(env:Env):Room k (A.deeper env):=
 ⟨r.hd,by have:=r.dp;show A.depth+1+3 * k+5<_;lia,by have:=r.un;show A.units+3+16 * k+200<_;lia⟩
def Room.depth{k:Nat}{A:az}(r:Room k A):A.depth<recursionLimit:=by have:=r.dp;lia
def Room.units{k:Nat}{A:az}(r:Room k A):A.units+64<cLine:=by have:=r.un;lia
abbrev Se:TA:=λ_ H Q=>Q [] H
abbrev QD (ta:TE)(tr:TA):TA:=λσ H Q=>ta σ H λx H1=>tr σ H1 λxs H2=>Q (x::xs) H2
section
variable {X:Cx}{e:aC}{es:List aC}{te:TE}{t:TA}{pos:Pos}
def oK:PA X [] Se:=λ_ _ _ _ H Q I h=>Calls.spliced_nil ⟨[],H,I,.nil,h⟩
def k_(ha:PE X e te)(hr:PA X es t)(hs:starEach (e::es) X.env=(false,eval e X.env)::starEach es X.env:=by rfl):PA X (e::es) (QD te t):=by
 intro pos pins s σ H Q I h;rw[hs]
 skip
 refine Calls.spliced_cons<|jP (ha pins s σ H _ I h) λu s1 ⟨x,H1,I1,r1,q1⟩=>?_;exact jP (hr pos pins s1 σ H1 _ I1 q1) λus s2 ⟨xs,H2,I2,r2,q2⟩=>⟨x::xs,H2,I2,.cons r1 r2,q2⟩
abbrev Rl (t:TA):TE:=λσ H Q=>t σ H λxs H1=>xs.length<=sizeLine/\∀p,H1 p=none->Q (.ref p) (upd H1 p<|.tup xs)
abbrev RG (t:TA):TE:=λσ H Q=>t σ H λxs H1=>xs.length<=sizeLine/\∀p,H1 p=none->Q (.ref p) (upd H1 p<|.lst xs)
def Ml{x1}(h:PA X es t):PE X (.Tuple es x1 pos) (Rl t):=by
 intro pins s σ H Q I hq;refine wpAny_Tuple_spliced (jP (h pos pins s σ H _ I hq) λus s1 ⟨xs,H1,I1,r,z,q⟩=>⟨by rw[<- r.length];exact z,?_⟩);have hf:H1 s1.heap.objs.size=none:=I1.hok.fresh<|aN _;refine⟨.ref s1.heap.objs.size,upd H1 s1.heap.objs.size<|.tup xs,I1.laid (t':=s1.toks) (λb u e=>aJ _ e) (aN _) ?_,rfl,q _ hf⟩;exact⟨z,us,r,⟨_,aU _ rfl,rfl,rfl,_,rfl⟩⟩
def MF(h:PA X es t):PE X (.List es pos) (RG t):=by
 intro pins s σ H Q I hq;refine wpAny_List_spliced (jP (h pos pins s σ H _ I hq) λus s1 ⟨xs,H1,I1,r,z,q⟩=>⟨by rw[<- r.length];exact z,?_⟩);have hf:H1 s1.heap.objs.size=none:=I1.hok.fresh<|aN _;refine⟨.ref s1.heap.objs.size,upd H1 s1.heap.objs.size<|.lst xs,I1.laid (t':=s1.toks) (λb u e=>aJ _ e) (aN _) ?_,rfl,q _ hf⟩;exact⟨z,us,0,r,aU _ rfl⟩
end
meta abbrev Sp:=List V->Hp->VK->XK->Prop
meta abbrev HY:=List Env->Hp->aA->XK->aa->aA->Prop
structure Env0 (P:ah)(w:af)(K:au)(mg:Str->bd)(base:ak)(A:az)(outer:List Env)(s:aA)(H:Hp):Prop where
 frames:A.frames=some outer
 mod:Mod K mg base
 bs:∀b o,base.get? b=some o->s.heap.get? b=some o/\H b=none
 bsz:base.objs.size<=s.heap.objs.size
 pV:s.heap.FunFrames base outer
 frf:∀b∈frs outer,H b=none
 hok:sU P w H s.heap
 bare:AllBare s.gens
abbrev CE (outer:List Env)(P:ah)(w:af)(H:Hp)(s:aA)(Q:VK)(u:aa)(s':aA):Prop:=
 ∃v H',s'.os=s.os/\AllBare s'.gens/\Un (frs outer) [] H H' s.heap s'.heap/\sU P w H' s'.heap/\RelV v u/\Q v H'
abbrev CR (CX:HY)(outer:List Env)(P:ah)(w:af)(H:Hp)(s:aA)(Q:VK)(E:XK)(r:Result)(s':aA):Prop:=
 match r with
 | .ok (.ret u)=>CE outer P w H s Q u s'
 | .ok _=>False
 | .error e=>CX outer H s E e s'
structure FnOk (P:ah)(w:af)(K:au)(mg:Str->bd)(base:ak)(CX:HY)(k:Nat)(f:aj)(fd:FuncData)(ps:ar)(sp:Sp):Prop where
 len:∀vs H Q E,sp vs H Q E->vs.length=ps.length
 run:∀(A:az) (outer:List Env) (s:aA) (H:Hp) (args:Args) (us:ba) (vs:List V) (Q:VK) (E:XK),Room k A->Env0 P w K mg base A outer s H->BindsTo s fd args (ps.zip us)->Vals vs us->sp vs H Q E ->
  codeAny (model P w) A (.call (.ref f) args) (CR CX outer P w H s Q E) s
section
variable {X:Cx}{pins:bp}{σ:St}{H:Hp}{s s':aA}
def Inv.Q7(I:Inv X pins σ H s):Env0 X.prog X.w X.K X.mg X.base X.A X.stack s H:=
 ⟨I.ok.frames,I.ok.mod,I.bs,bX I.ok.bsz I.sz,I.stack,I.uT,I.hok,I.bare⟩
def Inv.after{Q:VK}(I:Inv X pins σ H s)(h:CE X.stack X.prog X.w H s Q u s'):EP X pins σ Q u s':=by
 obtain⟨v,H',os,bare,un,hok,r,q⟩:=h;obtain⟨hh,g,d,t,os'⟩:=s';obtain rfl:os'=s.os:=os;exact⟨v,H',I.call (h':=hh) (g':=g) (d':=d) (t':=t) (ch:=[]) un hok bare λb z=>absurd z<|by simp,r,q⟩
end
abbrev Mb (sp:Sp)(dvs:List V)(E:XK)(t:TA):TE:=λσ H Q=>t σ H λvs H1=>sp (vs++dvs) H1 Q E
abbrev Binds (K:au)(fd:FuncData)(ps:ar)(ds:ba):Prop:=
 ∀(s:aA) (us:ba),K.In s.heap->(us++ds).length=ps.length->BindsTo s fd ⟨us,[]⟩ (ps.zip<|us++ds)
def Binds.all{K:au}{ps:ar}(h:∀us:ba,us.length=ps.length->bindArgs fd ⟨us,[]⟩=pure (ps.zip us)):Binds K fd ps []:=λs us _ hl=>by
 rw[b5]at hl ⊢;exact .of_eq<|h us hl
abbrev Passes (CX:HY)(X:Cx)(E:XK):Prop:=∀(pins:bp) (σ:St) (H:Hp) (s:aA) (e:aa) (s':aA),Inv X pins σ H s->CX X.stack H s E e s'->X.xe e s'
section
variable {X:Cx}{CX:HY}{k:Nat}{f C:aj}{fd:FuncData}{ps:ar}{sp:Sp}{dvs:List V}{ds:ba}{E:XK}{x:Str}{p pos:Pos}{e:aC}{es:List aC}{t:TA}
def Ol{H:Hp}{Q:VK}(F:FnOk X.prog X.w X.K X.mg X.base CX k f fd ps sp)(hr:Room k X.A)(hb:Binds X.K fd ps ds)(hd:Vals dvs ds)(hx:Passes CX X E)
  (I:Inv X pins σ H s) (r:Vals vs us) (h:sp (vs++dvs) H Q E):wpAny (model X.prog X.w) X.A (call (.ref f) us) (EP X pins σ Q) X.xe s:=by
 have r2:Vals (vs++dvs) (us++ds):=r.append hd;have hl:(us++ds).length=ps.length:=by rw[<- r2.length];exact F.len _ _ _ _ h
 refine iE (eE (F.run X.A X.stack s H ⟨us,[]⟩ (us++ds) (vs++dvs) Q E hr I.Q7 (hb s us I.wD hl) r2 h) λr s' hq=>?_)
 cases r with
 | error e=>exact hx pins σ H s e s' I hq
 | ok fl=>
  cases fl with
  | ret u=>exact I.after hq
  | next=>exact False.elim hq
  | brk=>exact False.elim hq
  | cont=>exact False.elim hq
def DQ(F:FnOk X.prog X.w X.K X.mg X.base CX k f fd ps sp)(hr:Room k X.A)(hg:Gl X x)(hm:X.mg x=some (.ref f))(hk:PySem.W.keepIn X.K (.ref f)=true)(hb:Binds X.K fd ps ds)(hd:Vals dvs ds)(hx:Passes CX X E)
  (ha:PA X (e::es) t) (hdb:(x == ("__debug__" : Str))=false:=by decide) (he:starEach (e::es) X.env=(false,eval e X.env)::starEach es X.env:=by rfl) (hpl:(backTo pos<|starEach es X.env).any (·.1)=false:=by rfl) :
  PE X (.Call (.Name x p) (e::es) [] pos) (Mb sp dvs E t):=by
 w_up;refine gO<|uY I hg hm ?_ hdb;refine PySem.W.callWith_K (h₀:=X.base) I.ok.mod.kin hk (jP (ha pos pins s σ H _ I h) λus s1 ⟨vs,H1,I1,r,q⟩=>⟨I1.wD,?_⟩) he hpl;exact Ol F hr hb hd hx I1 r q
structure Mk (K:au)(C f:aj):Prop where
 makes:PySem.W.makesIn K C=true
 init:PySem.W.findIn K (.ref C) "__init__" = some (some<|.ref f)
 fn:PySem.W.isFn K (.ref f)=true
 kp:PySem.W.keepIn K (.ref C)=true
end
section
variable {fd:FuncData}{ps ks:ar}
structure KBinds (K:au)(fd:FuncData)(ps ks:ar)(g:ba->ba->ba)(gV:List V->List V->List V):Prop where
 to:∀(s:aA) (us ws:ba),K.In s.heap->(g us ws).length=ps.length->BindsTo s fd ⟨us,ks.zip ws⟩ (ps.zip<|g us ws)
 rel:∀{vs:List V} {us:ba} {zs:List V} {ws:ba},Vals vs us->Vals zs ws->Vals (gV vs zs) (g us ws)
end
structure FnScope (N P:ar)(sc:Scope):Prop where
 kind:sc.kind=.function
 co:sc.isCoroutine=false
 gen:sc.isGenerator=false
 nd:N.Nodup
 pre:N.take P.length=P
 par:∀x∈P,sc.names.lookup x=some .local\/sc.names.lookup x=some .cell
 nofree:∀y∈sc.names,y.2≠.free
theorem xJ{kindOf:Str->Option NameKind}{x:Str}:∀{binds:List<|Str×aa}{m:Str->bd},(∀v,(x,v)∉binds)->bindL kindOf binds m x=m x
 | [],_,_=>rfl
 | (n,v)::r,m,h=>by
  unfold bindL;rw[xJ λw hw=>h w<|aT _ hw];split
  ·have:x≠n:=by rintro rfl;exact h v aR
   simp[this]
  ·rfl
theorem xK{kindOf:Str->Option NameKind}{x:Str}:∀{binds:List<|Str×aa}{m:Str->bd},(∀v,(x,v)∉binds)->bindC kindOf binds m x=m x
 | [],_,_=>rfl
 | (n,v)::r,m,h=>by
  unfold bindC;rw[xK λw hw=>h w<|aT _ hw];split
  ·rfl
  ·have:x≠n:=by rintro rfl;exact h v aR
   simp[this]
theorem xG{kindOf:Str->Option NameKind}{x:Str}{v:aa}:∀{P:ar}{vs:ba}{i:Nat}{m:Str->bd},P.Nodup->P[i]?=some x->vs[i]?=some v->kindOf x=some .local ->
  bindL kindOf (P.zip vs) m x=some v
 | [],_,_,_,_,h,_,_=>by simp at h
 | _::_,[],_,_,_,_,h,_=>by simp at h
 | p::P,w::vs,0,m,nd,h1,h2,hk=>by
  simp at h1 h2;subst h1;subst h2;show bindL kindOf ((p,w)::P.zip vs) m p=_;unfold bindL;rw[xJ λv hv=>(dB.mp nd).1 (iH hv).1,aM hk];simp
 | p::P,w::vs,i+1,m,nd,h1,h2,hk=>by
  skip
  unfold bindL;exact xG (i:=i) (dB.mp nd).2 (by simpa using h1) (by simpa using h2) hk
theorem xP{kindOf:Str->Option NameKind}{x:Str}{v:aa}:∀{P:ar}{vs:ba}{i:Nat}{m:Str->bd},P.Nodup->P[i]?=some x->vs[i]?=some v->kindOf x≠some .local ->
  bindC kindOf (P.zip vs) m x=some v
 | [],_,_,_,_,h,_,_=>by simp at h
 | _::_,[],_,_,_,_,h,_=>by simp at h
 | p::P,w::vs,0,m,nd,h1,h2,hk=>by
  simp at h1 h2;subst h1;subst h2;show bindC kindOf ((p,w)::P.zip vs) m p=_;unfold bindC;rw[xK λv hv=>(dB.mp nd).1 (iH hv).1,aL hk];simp
 | p::P,w::vs,i+1,m,nd,h1,h2,hk=>by
  skip
  unfold bindC;exact xP (i:=i) (dB.mp nd).2 (by simpa using h1) (by simpa using h2) hk
abbrev start (N:ar)(vs:List V):St:=vs.map some++List.replicate (N.length-vs.length) none
abbrev uE (CX:HY)(P:ah)(w:af)(K:au)(mg:Str->bd)(base:ak)(N:ar)(qual:Str)(scope:Scope)(f:aj)(cd:aa)(A:az)(outer:List Env)(s:aA)(H:Hp)(E:XK):Cx where
 prog:=P
 w:=w
 K:=K
 mg:=mg
 base:=base
 A:=A.deeper (envOfC qual scope s.heap.objs.size f cd)
 N:=N
 s₀:=s
 H₀:=H
 env:=envOfC qual scope s.heap.objs.size f cd
 outer:=outer
 stack:=envOfC qual scope s.heap.objs.size f cd::outer
 ex:=[]
 calm:=true
 fn:=λ_=>true
 pn:=[]
 xe:=λe s'=>wpAny (model P w) (A.deeper<|envOfC qual scope s.heap.objs.size f cd) (leaving (envOfC qual scope s.heap.objs.size f cd) e) (λ_ s''=>CX outer H s E e s'') (λe' s''=>CX outer H s E e' s'') s'
def zB{sc:Scope}{n:Nat}{x:Str}(h:sc.names.lookup x=some .cell):∃c,(cellsFrom n sc.names []).lookup x=some c:=by
 have q:=PySem.W.cellsFrom_some sc.names n []<|.inl h;exact fh.mp q
def E9{CX:HY}{P:ah}{w:af}{K:au}{mg:Str->bd}{base:ak}{N ps:ar}{scope:Scope}{f:aj}{A:az}{outer:List Env}{s:aA}{H:Hp}{E:XK}{vs:List V}
  (S:FnScope N ps scope) (hd:A.handled=none) (e0:Env0 P w K mg base A outer s H) (hl:vs.length=ps.length) (r:Vals vs us)
  (x:InCallC s s.heap.objs.size (bindL (envOfC qual scope s.heap.objs.size f cd).kindOf (ps.zip us) λ_=>none) (cellsFrom (s.heap.objs.size+1) scope.names []) (bindC (envOfC qual scope s.heap.objs.size f cd).kindOf (ps.zip us) λ_=>none) s1) :
  Inv (uE CX P w K mg base N qual scope f cd A outer s H E) [] (start N vs) H s1:=by
 have hpl:ps.length<=N.length:=by have:=fM List.length S.pre;rw[bJ]at this;lia
 obtain⟨h1,tk,rfl,hk⟩:=x.done;have noA:∀b:aj,b∉(uE CX P w K mg base N qual scope f cd A outer s H E).ex:=λb z=>absurd (show b∈([]:bb)from z) (by simp);refine⟨⟨e0.mod,S.kind,rfl,rfl,aN _,λy z c h1 h2=>?_,λy hy=>?_,λy c _ h=>?_,λ_=>hd,Around.frames_deeper e0.frames,.inr ⟨rfl,rfl⟩,λb z=>absurd z<|noA b,e0.bs,e0.bsz,λb _ _=>noA b,λb z=>absurd z<|noA b,e0.pV,e0.frf⟩,
  rfl,e0.bare,Un.kept hk,⟨_,x.toInCall.ns,λi y v h1 h2 h3=>?_⟩,λy c h=>⟨_,x.cell y c h⟩,e0.hok.fresh<|aN _,λy c h=>?_,λp hp=>absurd (show p∈([]:bp)from hp)<|by simp,e0.hok.kept hk,?_⟩
 ·exact name_of_addr x.apart (dF h1) (dF h2)
 ·have hy:scope.names.lookup y=some .cell\/scope.names.lookup y=some .free:=hy
  rcases hy with hy|hy
  ·exact zB hy
  ·exact absurd rfl<|S.nofree _<|dF hy
 ·exact iD (x.above y c<|dF h)
 ·have hi:i<vs.length:=by
   unfold start at h2;by_cases hi:i<vs.length
   ·exact hi
   ·rw[gP<|by simpa using hi]at h2;rw[ee]at h2;split at h2<;>cases h2
  have ha:vs[i]?=some v:=by
   unfold start at h2;rw[bM<|by simpa using hi,a_]at h2
   cases e:vs[i]? with
   | none=>rw[e]at h2;cases h2
   | some a=>rw[e]at h2;cases h2;rfl
  obtain⟨u,hu,rv⟩:=r.get ha;have hp:ps[i]?=some y:=by
   rw[<- S.pre,fj ()];exact h1
  have ndP:ps.Nodup:=by rw[<- S.pre];exact S.nd.sublist (List.take_sublist _ _)
  refine⟨u,rv,?_⟩
  rcases S.par y (bf hp)with k|k
  ·exact .inl ⟨k,xG ndP hp hu k⟩
  ·obtain⟨c,e⟩:=zB (n:=s.heap.objs.size+1) k;refine .inr ⟨.inl k,c,e,?_⟩;have q:=x.cell y c e;rw[xP ndP hp hu<|by show scope.names.lookup y≠_;rw[k];decide]at q;exact q
 ·exact e0.hok.fresh (iD<|x.above y c<|dF h)
 ·unfold start;show _=N.length;rw[aY,aK,f_]
  lia
def Lk{CX:HY}{P:ah}{w:af}{K:au}{mg:Str->bd}{base:ak}{k:Nat}{f:aj}{kV ct:aa}
  {osl:Array<|bd} {N ps:ar} {sp:Sp} (lk:K.lookup f=some ⟨oc,od,.func<|PySem.W.fnOf name qual params body scope dV kV doc pm an cdv ct,osl⟩) (hcd:PySem.W.codeIn K cdv qual=true) (S:FnScope N ps scope)
  (len:∀vs H Q E,sp vs H Q E->vs.length=ps.length)
  (hbody:∀(A:az) (outer:List Env) (s:aA) (H:Hp) (vs:List V) (Q:VK) (E:XK),Room k (A.deeper<|envOfC qual scope s.heap.objs.size f cdv)->sp vs H Q E ->
   ∃t,xM (uE CX P w K mg base N qual scope f cdv A outer s H E) body t/\t { nx:=λ_ H'=>Q .non H',rt:=Q } (start N vs) H) :
  FnOk P w K mg base CX (k+1) f (PySem.W.fnOf name qual params body scope dV kV doc pm an cdv ct) ps sp:=by
 refine⟨len,λA outer s H args us vs Q E hr e0 hb r hsp=>?_⟩;have hl:=len _ _ _ _ hsp;have KX:K.In s.heap:=e0.mod.kin.keeps λb o e=>(e0.bs b o e).1;have lim:s.heap.NoLimit:=e0.mod.nolimit.keeps λb o e=>(e0.bs b o e).1;have hkind:∀y∈ps.zip us,scope.names.lookup y.1=some .local\/(scope.names.lookup y.1=some .cell/\((cellsFrom (s.heap.objs.size+1) scope.names []).lookup y.1).isSome=true):=λ⟨n,v⟩ hy=>by
  rcases S.par n (iH hy).1 with q|q
  ·exact .inl q
  ·exact .inr ⟨q,PySem.W.cellsFrom_some _ _ _<|.inl q⟩
 refine codeAny_call_function hr.depth (KX _ _ lk) rfl S.co S.gen rfl (PySem.W.codeRec_of KX hcd)<|hb _ _ _ _ ?_;refine wpAny_newFunctionEnv_cells S.kind hkind λenv he s1 x=>?_;subst he;refine⟨lim.keeps x.toInCall.keep,codeAny_func ?_⟩;obtain⟨t,ht,hq⟩:=hbody A outer s H vs Q E (hr.deeper _) hsp;have I:Inv (uE CX P w K mg base N qual scope f cdv A outer s H E) [] (start N vs) H s1:=E9 S hr.hd e0 hl r x;refine cS (ht [] s1 (start N vs) H _ I hq) (λfl s' hs=>?_) λe s' hs=>hs;have fin:∀{σ':St} {H':Hp} {v:V} {u:aa},Inv (uE CX P w K mg base N qual scope f cdv A outer s H E) [] σ' H' s'->RelV v u->Q v H'->CE outer P w H s Q u s':=
  λ{σ' H' v u} J rv q=>⟨v,H',J.os,J.bare,J.base,J.hok,rv,q⟩
 cases fl with
 | ret u=>
  obtain⟨v,σ',H',J,rv,q⟩:=hs;exact fin J rv q
 | next=>
  obtain⟨σ',H',J,q⟩:=hs;exact fin (v:=V.non) (u:=Value.none) J rfl q
 | brk=>
  obtain⟨_,_,_,q⟩:=hs;exact False.elim q
 | cont=>
  obtain⟨_,_,_,q⟩:=hs;exact False.elim q
section
variable {X:Cx}{x:Str}{p pos:Pos}{e:aC}{es:List aC}{t:TA}{id T:String}{r:List V->Hp->VK->Prop}
abbrev Sf (r:List V->Hp->VK->Prop)(t:TA):TE:=λσ H Q=>t σ H λvs H1=>r vs H1 Q
def wz(hc:jt X (.builtin id) r)(hg:Gl X x)(hm:X.mg x=none)(hv:bootBuiltins x=some (.builtin id))(ha:PA X (e::es) t)(hn:x ≠ "__name__" := by decide)(hdb:(x == ("__debug__" : Str))=false:=by decide)
  (he:starEach (e::es) X.env=(false,eval e X.env)::starEach es X.env:=by rfl) (hpl:(backTo pos<|starEach es X.env).any (·.1)=false:=by rfl):PE X (.Call (.Name x p) (e::es) [] pos) (Sf r t):=by
 w_up;refine gO<|qL I hg hm hv ?_ hn hdb;exact PyProof.Rows.callWith_builtin1 (jP (ha pos pins s σ H _ I h) λus s1 ⟨vs,H1,I1,r1,q1⟩=>hc pins s1 σ H1 vs us Q I1 r1 q1) he hpl
def xw(hc:jt X (.type T) r)(hg:Gl X x)(hm:X.mg x=none)(hv:bootBuiltins x=some (.type T))(ha:PA X (e::es) t)(hn:x ≠ "__name__" := by decide)(hdb:(x == ("__debug__" : Str))=false:=by decide)
  (he:starEach (e::es) X.env=(false,eval e X.env)::starEach es X.env:=by rfl) (hpl:(backTo pos<|starEach es X.env).any (·.1)=false:=by rfl):PE X (.Call (.Name x p) (e::es) [] pos) (Sf r t):=by
 w_up;refine gO<|qL I hg hm hv ?_ hn hdb;exact cW (jP (ha pos pins s σ H _ I h) λus s1 ⟨vs,H1,I1,r1,q1⟩=>hc pins s1 σ H1 vs us Q I1 r1 q1) he hpl
end
end L2
namespace HT
open PySem PyProof.Rows
section
variable {prog:ah}{w:af}{A:az}{E:aa->aA->Prop}{s:aA}
def KA{vs ws:ba}{Q:aa->aA->Prop}(ht:IsTup s.heap t vs.toArray)(hb:IsTup s.heap b ws.toArray)(hv:vs≠[])
  (h1:ws=[]->Q (.ref t) s) (h2:ws≠[]->Q (.ref s.heap.objs.size) { s with heap:=s.heap.push { cls:=.type "tuple",data:=.seq (vs++ws).toArray }})
  (hsz:vs.length+ws.length<=sizeLine):wpAny (model prog w) A (binaryOp .Add (.ref t)<|.ref b) Q E s:=by
 obtain⟨⟨cls,dd,data,sl⟩,ho,hc,n,hd⟩:=id ht;obtain⟨⟨cls2,dd2,data2,sl2⟩,ho2,hc2,n2,hd2⟩:=id hb;simp only at hc hd hc2 hd2;subst hc hd hc2 hd2;have e:vs.toArray++ws.toArray=(vs++ws).toArray:=by simp
 by_cases hw:ws=[]
 ·exact concat_meets ⟨_,ho,rfl⟩ ⟨_,ho2,rfl⟩ noFill_tuple_add seq_tuple_add fP fK (fm _ _)
   (tuple_addW1 t b vs.toArray ws.toArray n n2 dd dd2 sl sl2 (by simpa using hv)<|by simp[hw]) ⟨ho,ho2,h1 hw⟩
 ·refine concat_meets ⟨_,ho,rfl⟩ ⟨_,ho2,rfl⟩ noFill_tuple_add seq_tuple_add fP fK (fm _ _)
   (tuple_addW2 t b vs.toArray ws.toArray n n2 dd dd2 sl sl2 (by simpa using hv) (by simpa using hw)<|by rw[aP,aP];exact hsz) ⟨ho,ho2,?_⟩
  rw[e];exact h2 hw
abbrev lH (n d:Nat):bi->Nat
 | none=>d
 | some v=>if v<0 then(v+(n:Int)).toNat else min v.toNat n
def Ah(n d:Nat):lH n d none=d:=rfl
def C8(n d k:Nat):lH n d (some (k:Int))=min k n:=by
 show(if (k:Int)<0 then((k:Int)+(n:Int)).toNat else min (k:Int).toNat n)=min k n;rw[aL (),bE]
def Og(n d:Nat)(hd:d<=n)(o:bi):lH n d o<=n:=by
 cases o with
 | none=>exact hd
 | some v=>
  show(if v<0 then(v+(n:Int)).toNat else min v.toNat n)<=n;by_cases hv:v<0
  ·rw[aM hv];lia
  ·rw[aL hv];exact Nat.min_le_right _ _
def Dm(v:Int)(n d:Nat):(if v<0 then max (v+(n:Int)) 0 else min v (n:Int))=((lH n d (some v):Nat):Int):=by
 show(if v<0 then max (v+(n:Int)) 0 else min v (n:Int))=(((if v<0 then(v+(n:Int)).toNat else min v.toNat n):Nat):Int);by_cases hv:v<0
 ·dsimp[aM hv];lia
 ·dsimp[aL hv];lia
def BJ(lo hi:bi)(n:Nat):Builtin.Slice.sliceAdjust lo hi 1 (n:Int)=(((lH n 0 lo:Nat):Int),((lH n n hi:Nat):Int)):=by
 have h1:¬((1:Int)<0):=()
 unfold Builtin.Slice.sliceAdjust;dsimp[h1,cK];refine Prod.ext ?_ ?_
 ·cases lo with
  | none=>rfl
  | some v=>exact Dm v n 0
 ·cases hi with
  | none=>rfl
  | some v=>exact Dm v n n
def Bf(i j:Nat):Builtin.Slice.slicePlaces (i:Int) (j:Int) 1=j-i:=by
 unfold Builtin.Slice.slicePlaces;have h1:(1:Int)>0:=()
 dsimp[h1,dJ,Int.ediv_one];split<;>lia
def vj{v:aa}{Q:bi->aA->Prop}(p:IsPart v o)(h:Q o s):wpAny (model prog w) A (Builtin.Slice.slicePartIndex v) Q E s:=by
 cases p with
 | none=>exact slicePart_none h
 | int i t=>exact slicePart_int h
def t9{lo:bi}{n:Nat}{Q:Int×Int×Nat->aA->Prop}(hs:s.heap.IsSliceOf sl vl vu .none)(pl:IsPart vl lo)(pu:IsPart vu hi)
  (h:Q (((lH n 0 lo:Nat):Int),1,lH n n hi-lH n 0 lo) s):wpAny (model prog w) A (Builtin.Slice.sliceApplied (.ref sl)<|pure (n:Int)) Q E s:=by
 obtain⟨os,hos,hcs,hds⟩:=id hs;unfold Builtin.Slice.sliceApplied Builtin.Slice.sliceFields;refine aF<|aF<|cU hos hds (x:=vl) rfl<|aF<|cU hos hds (x:=vu) rfl<|aF<|cU hos hds (x:=.none) rfl<|aH ?_;refine aF (slicePart_none ?_)
 skip
 rw[aL ⋯];refine aF<|vj pl<|aF<|vj pu<|aF<|aH ?_;show wpAny _ _ (match Builtin.Slice.sliceAdjust lo hi 1 (n:Int)with|(lo,hi)=>pure (lo,(1:Int),Builtin.Slice.slicePlaces lo hi 1)) _ _ s;rw[BJ lo hi n];show wpAny _ _ (pure (((lH n 0 lo:Nat):Int),(1:Int),Builtin.Slice.slicePlaces ((lH n 0 lo:Nat):Int) ((lH n n hi:Nat):Int) 1)) _ _ s;rw[Bf];exact aH h
def Ij(xs:Array aa)(i k:Nat):((List.range k).filterMap λ(m:Nat)=>xs[((i:Int)+(m:Int) * 1).toNat]?).toArray=((xs.toList.drop i).take k).toArray:=by
 have e:(λ(m:Nat)=>xs[((i:Int)+(m:Int) * 1).toNat]?)=λm=>xs[i+m]?:=by
  funext m
  have:((i:Int)+(m:Int) * 1).toNat=i+m:=()
  rw[this]
 rw[e];have:=pick_run xs i k;rw[List.filterMap_map]at this;have e2:((λx=>xs[x]?) ∘ λx=>i+x)=λm=>xs[i+m]?:=rfl;rw[e2]at this;rw[this]
def rZ{items:Array aa}{lo:bi}{Q:aa->aA->Prop}(ht:IsTup s.heap t items)(hs:s.heap.IsSliceOf sl vl vu .none)(pl:IsPart vl lo)(pu:IsPart vu hi)
  (hw:¬(lH items.size 0 lo=0/\lH items.size items.size hi=items.size))
  (h:Q (.ref s.heap.objs.size) { s with heap:=s.heap.push { cls:=.type "tuple",data:=.seq ((items.toList.drop<|lH items.size 0 lo).take<|lH items.size items.size hi-lH items.size 0 lo).toArray }})
  (hsz:items.size<=sizeLine):wpAny (model prog w) A (getItem (.ref t)<|.ref sl) Q E s:=by
 have htake:sizeOk (.seq ((items.toList.drop<|lH items.size 0 lo).take<|lH items.size items.size hi-lH items.size 0 lo).toArray):=by
  show((items.toList.drop<|lH items.size 0 lo).take<|lH items.size items.size hi-lH items.size 0 lo).toArray.size<=sizeLine;rw[aP,bJ,cC,bD];omega
 have hj:lH items.size items.size hi<=items.size:=Og _ _ (aN _) hi;obtain⟨os,hos,hcs,hds⟩:=id hs;have hTs:s.TypeIs (.ref sl) "slice" := ⟨os,hos,hcs⟩;unfold getItem
 try with_reducible refine cu ?_
 first|refine aF (aH ?_)|skip
 refine aF<|wpAny_sequenceKey ht.typeIs ⋯ ?_;refine aF (bY (name:=Str.ofString "__getitem__") ht.typeIs b9
  (cj b9 ht.typeIs entry_tuple_getitem ?_<|args_tuple_getitem _ _))
 show wpAny _ _ (Builtin.Tuple.tupleItemsOf (.ref t) >>= _) _ _ s;refine aF<|tupleItemsOf_ ht ?_;refine aF<|gK hTs ?_;rw[aM ⋯];refine aF<|t9 hs pl pu ?_;have hno:¬((((lH items.size 0 lo:Nat):Int) == 0 && (1:Int) == 1 && (lH items.size items.size hi-lH items.size 0 lo) == items.size)=true):=by
  intro q;rw[bV,bV]at q;have q1:((lH items.size 0 lo:Nat):Int)=0:=eq_of_beq q.1.1;have q2:lH items.size items.size hi-lH items.size 0 lo=items.size:=eq_of_beq q.2;exact hw ⟨by omega,by omega⟩
 show wpAny _ _ (if (((lH items.size 0 lo:Nat):Int) == 0 && (1:Int) == 1 && (lH items.size items.size hi-lH items.size 0 lo) == items.size)=true then _ else _) _ _ s;rw[aL hno,Ij]
 first
  | exact aF (m:=Builtin.Tuple.tupleExact _) (br (aH ⟨_,rfl,aH h⟩) htake)
  | exact aF (m:=Builtin.Tuple.tupleExact _) (br (aF<|aH<|aH ⟨_,rfl,aH h⟩) htake)
  | exact aF (aF (m:=Builtin.Tuple.tupleExact _)<|br (aH<|aH ⟨_,rfl,aH h⟩) htake)
  | exact aF<|aF (m:=Builtin.Tuple.tupleExact _)<|br (aH ⟨_,rfl,aH h⟩) htake
end
end HT
namespace L2
open PySem PySem.Spec PyProof.Rows
meta abbrev TO:=St->Hp->(bi->Hp->Prop)->Prop
abbrev PO (X:Cx)(e:Option aC)(t:TO):Prop:=
 ∀(pins:bp) (s:aA) (σ:St) (H:Hp) (Q:bi->Hp->Prop),Inv X pins σ H s->t σ H Q ->
  wpAny (model X.prog X.w) X.A (evalPart e X.env) (λu s'=>∃o H',Inv X pins σ H' s'/\IsPart u o/\Q o H') X.xe s
abbrev K8:TO:=λ_ H Q=>Q none H
abbrev P0 (t:TE):TO:=λσ H Q=>t σ H λx H1=>∃i,x=.int i/\Q (some i) H1
section
variable {X:Cx}{e:aC}{te:TE}{lo hi:Option aC}{tl th:TO}{pos p2:Pos}
def JU:PO X none K8:=by
 w_up;rw[iw];exact aH ⟨none,H,I,.none,h⟩
def Ko(h:PE X e te):PO X (some e) (P0 te):=by
 intro pins s σ H Q I hw;rw[evalPart_some];refine jP (h pins s σ H _ I hw) λu s1 ⟨x,H1,I1,r1,q1⟩=>?_;obtain⟨i,rfl,q⟩:=q1;obtain⟨t,rfl⟩:=r1;exact⟨some i,H1,I1,.int i t,q⟩
abbrev QF (X:Cx)(r:V->bi->bi->Hp->VK->Prop):Prop:=
 ∀(pins:bp) (s:aA) (σ:St) (H:Hp) (x:V) (v vl vu:aa) (lo hi:bi) (sl:aj) (Q:VK),Inv X pins σ H s->RelV x v->s.heap.IsSliceOf sl vl vu .none->IsPart vl lo->IsPart vu hi->r x lo hi H Q ->
  ∃T id,typeLookup (.type T) "__getitem__" = pure (some<|.builtin id)/\s.TypeIs v T/\wpAny (model X.prog X.w) X.A (getItem v<|.ref sl) (EP X pins σ Q) X.xe s
abbrev SV (r:V->bi->bi->Hp->VK->Prop)(te:TE)(tl th:TO):TE:=λσ H Q=>te σ H λx H1=>tl σ H1 λl H2=>th σ H2 λu H3=>r x l u H3 Q
def Fl{r:V->bi->bi->Hp->VK->Prop}(hr:QF X r)(he:PE X e te)(hl:PO X lo tl)(hu:PO X hi th):PE X (.Subscript e (.Slice lo hi none p2) pos) (SV r te tl th):=by
 w_up;refine Subscript_<|jP (he pins s σ H _ I h) λv s1 ⟨x,H1,I1,r1,q1⟩=>?_;refine wpAny_Slice<|jP (hl pins s1 σ H1 _ I1 q1) λvl s2 ⟨l,H2,I2,pl,q2⟩=>jP (hu pins s2 σ H2 _ I2 q2) λvu s3 ⟨u,H3,I3,pu,q3⟩=>?_;rw[iw];refine aH ?_;have I4:Inv X pins σ H3 { s3 with heap:=s3.heap.push { cls:=.type "slice",data:=.fields #[vl,vu,.none]}}:=I3.kept (t':=s3.toks) λb ob q=>aJ _ q;obtain⟨T,id,hT,ht,hg⟩:=hr pins { s3 with heap:=s3.heap.push { cls:=.type "slice",data:=.fields #[vl,vu,.none]}} σ H3 x v vl vu l u s3.heap.objs.size Q I4 r1 (gQ ..) pl pu q3
 skip
 exact tail_any (ops:=[.ref s3.heap.objs.size,v]) ht hT hg<|by with_unfolding_all rfl
abbrev zJ (xs:List V)(lo hi:bi):List V:=(xs.drop<|HT.lH xs.length 0 lo).take<|HT.lH xs.length xs.length hi-HT.lH xs.length 0 lo
def ur(xs:List V)(lo hi:bi):(zJ xs lo hi).length<=xs.length:=by
 unfold zJ;rw[bJ,cC]
 lia
abbrev RP (K:au):V->bi->bi->Hp->VK->Prop:=λx lo hi H Q=>∃a xs,x=.ref a/\kQ K H a xs /\
 ¬(HT.lH xs.length 0 lo=0/\HT.lH xs.length xs.length hi=xs.length)/\∀p,H p=none->Q (.ref p) (upd H p<|.tup<|zJ xs lo hi)
def MG:QF X (RP X.K):=by
 intro pins s σ H x v vl vu lo hi sl Q I rx hs pl pu h;obtain⟨a,xs,rfl,hx,hw,q⟩:=h
 cases rx
 obtain⟨its,r,ht,hz⟩:=I.tuple hx;have hlen:its.toArray.size=xs.length:=by rw[aP];exact r.length.symm
 refine⟨"tuple",_,b9.lookup,ht.typeIs,?_⟩;refine HT.rZ ht hs pl pu (by rw[hlen];exact hw) ?_ (by rw[hlen];exact hz);rw[hlen];refine⟨.ref s.heap.objs.size,_,I.laid (t':=s.toks) (o:=.tup<|zJ xs lo hi) (λb ob q=>aJ _ q) (aN _) ?_,rfl,q _<|I.hok.fresh<|aN _⟩;exact⟨bX (ur xs lo hi) hz,_,(r.drop<|HT.lH xs.length 0 lo).take<|HT.lH xs.length xs.length hi-HT.lH xs.length 0 lo,lV.new _ _⟩
abbrev PN (K:au):R2:=λx y H Q=>∃a b xs ys,x=.ref a/\y=.ref b/\kQ K H a xs/\kQ K H b ys/\xs≠[]/\xs.length+ys.length<=sizeLine /\
 (ys=[]->Q (.ref a) H)/\(ys≠[]->∀p,H p=none->Q (.ref p) (upd H p<|.tup<|xs++ys))
def Vals.yP(r:Vals xs us):us=[] ↔ xs=[]:=by
 cases r with
 | nil=>simp
 | cons _ _=>simp
def K1:lG X (binaryOp .Add) (PN X.K):=by
 kd_p;obtain⟨a,b,xs,ys,rfl,rfl,ha,hb,hx,hz,q1,q2⟩:=h
 cases rx
 cases ry
 obtain⟨its,r1,p1,_⟩:=I.tuple ha;obtain⟨its2,r2,p2,_⟩:=I.tuple hb;refine HT.KA p1 p2 (λz=>hx<|r1.yP.mp z) (λz=>⟨.ref a,H,I,rfl,q1<|r2.yP.mp z⟩) (λz=>?_) (by rw[<- r1.length,<- r2.length];exact hz);refine⟨.ref s.heap.objs.size,_,I.laid (t':=s.toks) (o:=.tup<|xs++ys) (λb ob q=>aJ _ q) (aN _) ?_,rfl,q2 (λw=>z<|r2.yP.mpr w) _<|I.hok.fresh<|aN _⟩;exact⟨by rw[aY];exact hz,_,r1.append r2,lV.new _ _⟩
end
abbrev rC (n:Nat)(i:Int):bo:=if 0<=i then(if i<n then some i.toNat else none)else if -(n:Int)<=i then some (i+n).toNat else none
abbrev lK {α:Type}(xs:List α)(i:Int):Option α:=(rC xs.length i).bind λj=>xs[j]?
def Cd{n:Nat}{i:Int}(h:rC n i=some j):seqIndex? i n=some j/\j<n/\-(n:Int)<=i/\i<n:=by
 unfold rC at h;by_cases h0:0<=i
 ·rw[aM h0]at h;by_cases h1:i<n
  ·rw[aM h1]at h;have e:i.toNat=j:=aS h;exact⟨by rw[seqIndex_of h0 h1,e],(),(),h1⟩
  ·rw[aL h1]at h;cases h
 ·rw[aL h0]at h;by_cases h1:-(n:Int)<=i
  ·rw[aM h1]at h;have e:(i+n).toNat=j:=aS h;exact⟨by rw[seqIndex_neg () h1,e],(),h1,()⟩
  ·rw[aL h1]at h;cases h
def yK{α:Type}{xs:List α}{i:Int}{v:α}(h:lK xs i=some v):∃j,seqIndex? i xs.length=some j/\xs[j]?=some v/\j<xs.length/\-(xs.length:Int)<=i/\i<xs.length:=by
 unfold lK at h
 cases e:rC xs.length i with
 | none=>rw[e]at h;cases h
 | some j=>
  rw[e]at h;obtain⟨h1,h2,h3,h4⟩:=Cd e;exact⟨j,h1,h,h2,h3,h4⟩
def JZ{α:Type}{xs:List α}{j:Nat}{v:α}(h:xs[j]?=some v):lK xs (j:Int)=some v:=by
 have hj:j<xs.length:=(aI.mp h).1;have e:rC xs.length (j:Int)=some j:=by
  unfold rC;rw[aM (),aM ()];simp
 unfold lK;rw[e];exact h
abbrev C4 (b:aC):Prop:=∀o i,subscripted b false o i=operate [o,i] (getItem o i)
abbrev O7 (X:Cx)(r:R2):Prop:=
 ∀(value slice:aC) (pins:bp) (s:aA) (σ:St) (H:Hp) (x y:V) (v u:aa) (Q:VK),Inv X pins σ H s->RelV x v->RelV y u->r x y H Q ->
  subscripted slice false v u=operate [v,u] (getItem v u)->wpAny (model X.prog X.w) X.A (subscriptTail value slice v u) (EP X pins σ Q) X.xe s
abbrev OQ (X:Cx)(id:String)(r:V->List V->Hp->VK->Prop):Prop:=
 ∀(pins:bp) (s:aA) (σ:St) (H:Hp) (x:V) (xs:List V) (v:aa) (us:ba) (Q:VK),Inv X pins σ H s->RelV x v->Vals xs us->r x xs H Q ->
  wpAny (model X.prog X.w) X.A (call (.builtin id) (v::us)) (EP X pins σ Q) X.xe s
section
variable {X:Cx}{a b:aC}{ta tb:TE}{pos:Pos}
def OV{r:R2}(hr:O7 X r)(ha:PE X a ta)(hb:PE X b tb)(hs:C4 b):PE X (.Subscript a b pos) (O9 r ta tb):=by
 w_up;exact Subscript_<|N_ ha hb I h λv u s2 x y H2 I2 rx ry q=>hr a b pins s2 σ H2 x y v u Q I2 rx ry q<|hs _ _
abbrev Rc (K:au):R2:=λx y H Q=>∃p xs i v,x=.ref p/\y=.int i/\lE K H p xs/\lK xs i=some v/\Q v H
abbrev RW (K:au):R2:=λx y H Q=>∃p xs i v,x=.ref p/\y=.int i/\kQ K H p xs/\lK xs i=some v/\Q v H
abbrev Rb:R2:=λx y H Q=>∃z i c,x=.str z/\y=.int i/\z.length<=sizeLine/\lK z.cps.toList i=some c/\Q (.str ⟨#[c]⟩) H
def Dk:O7 X (Rc X.K):=by
 intro value slice pins s σ H x y v u Q I rx ry h hs;obtain⟨p,xs,i,z,rfl,rfl,hq,he,q⟩:=h
 cases rx
 obtain⟨t,rfl⟩:=ry;obtain⟨its,r,pl,hz⟩:=I.list hq;obtain⟨j,h1,h2,h3,h4,h5⟩:=yK he;obtain⟨w,ew,rw'⟩:=r.get h2;have hl:=r.length;have hn:=qM;have fin:EP X pins σ Q w s:=⟨z,H,I,rw',q⟩;by_cases h0:0<=i
 ·have hj:i.toNat=j:=by
   rw[seqIndex_of h0 h5]at h1;exact aS h1
  exact item_listR pl.isList h0 () (by rw[hj];simpa using ew) fin hs
 ·have hj:(i+(its.toArray.size:Int)).toNat=j:=by
   rw[seqIndex_neg () h4]at h1;rw[aP,<- hl];exact aS h1
  exact subscriptTail_builtinR (x:=w) pl.isList.typeIs g9.lookup
   (wpAny_getItem_list_neg (Q:=λr s'=>r=w/\EP X pins σ Q r s') pl.isList () (by rw[aP]<;>lia) () (by rw[hj];simpa using ew) ⟨rfl,fin⟩) hs
def NX:O7 X (RW X.K):=by
 intro value slice pins s σ H x y v u Q I rx ry h hs;obtain⟨p,xs,i,z,rfl,rfl,hq,he,q⟩:=h
 cases rx
 obtain⟨t,rfl⟩:=ry;obtain⟨its,r,pl,hz⟩:=I.tuple hq;obtain⟨j,h1,h2,h3,h4,h5⟩:=yK he;obtain⟨w,ew,rw'⟩:=r.get h2;have hl:=r.length;have hn:=qM;have fin:EP X pins σ Q w s:=⟨z,H,I,rw',q⟩;exact subscriptTail_builtinR (x:=w) pl.typeIs slot_tuple_getitem.lookup
  (getItem_tuple (j:=j) (Q:=λr s'=>r=w/\EP X pins σ Q r s') pl () () (by rw[aP,<- hl];exact h1) (by simpa using ew) ⟨rfl,fin⟩) hs
def OG:O7 X Rb:=by
 intro value slice pins s σ H x y v u Q I rx ry h hs;obtain⟨z,i,c,rfl,rfl,hz,he,q⟩:=h;cb_eq;obtain⟨t',rfl⟩:=ry;obtain⟨j,h1,h2,h3,h4,h5⟩:=yK he;have hl:z.cps.toList.length=z.length:=by simp[Str.length]
 rw[hl]at h1 h4 h5;have hn:=qM;exact tail_any (typeIs_str s z t) slot_str_getitem.lookup (getItem_str (c:=c) (by
  have e1:decide (i < -(2 ^ 63:Int))=false:=bL ();have e2:decide (i>=2 ^ 63)=false:=bL ();rw[e1,e2,Bool.or_false]) (by rw[h1];simpa using h2) ⟨.str ⟨#[c]⟩,H,I.tok _,⟨_,rfl⟩,q⟩) hs
def Bp(its:ba)(n j:Nat)(u:aa):Obj.mapSeq (·.setIfInBounds j u) { cls:=.type "list",data:=.seq its.toArray n }={ cls:=.type "list",data:=.seq (its.set j u).toArray n }:=by
 simp[Obj.mapSeq]
def Inv.lst{H:Hp}{s:aA}{p:aj}{xs:List V}(I:Inv X pins σ H s)(h:H p=some (.lst xs)) :
  ∃(its:ba) (n:Nat),Vals xs its/\s.heap.get? p=some { cls:=.type "list",data:=.seq its.toArray n }/\xs.length<=sizeLine:=by
 obtain⟨z,its,n,r,e⟩:=I.hok p _ h;exact⟨its,n,r,e,z⟩
def Inv.Ny{H:Hp}{s:aA}{p:aj}{ys:List V}{its its':ba}{n:Nat}{f:Obj->Obj}(I:Inv X pins σ H s)(h:H p=some (.lst xs))
  (ho:s.heap.get? p=some { cls:=.type "list",data:=.seq its.toArray n }) (hf:f { cls:=.type "list",data:=.seq its.toArray n }={ cls:=.type "list",data:=.seq its'.toArray n' }) (r:Vals ys its') (hz:ys.length<=sizeLine) (t:Nat) :
  Inv X pins σ (upd H p<|.lst ys) { s with heap:=s.heap.update p f,toks:=t }:=by
 have e:(s.heap.update p f).get? p=some { cls:=.type "list",data:=.seq its'.toArray n' }:=by
  rw[bO f ho<|by rw[hf]<;>rfl,hf]
 refine I.write (x:=p) (e:=p) (by rw[h];trivial) (.inl rfl) (λb u hb q=>(b7 _ _<|cG hb).trans q) ⟨_,e⟩ ?_;exact⟨hz,its',n',r,e⟩
abbrev O_:V->V->V->Hp->(Hp->Prop)->Prop:=λo i v H Q=>∃p xs k j,o=.ref p/\i=.int k/\H p=some (.lst xs)/\rC xs.length k=some j/\Q (upd H p<|.lst<|xs.set j v)
def set_list:N7 X O_:=by
 intro pins s σ H o i v ov iv u Q I ro ri rv h;obtain⟨p,xs,k,j,rfl,rfl,hp,hj,q⟩:=h
 cases ro
 obtain⟨t,rfl⟩:=ri;obtain⟨its,n,r,ho,hz⟩:=I.lst hp;obtain⟨h1,h2,h3,h4⟩:=Cd hj;have hl:=r.length;have hn:=qM;have I':Inv X pins σ (upd H p<|.lst<|xs.set j v) { s with heap:=s.heap.update p<|Obj.mapSeq (·.setIfInBounds j u)}:=
  I.Ny hp ho (Bp its n j u) (r.set rv j) (by rw[bw];exact hz) s.toks
 by_cases h0:0<=k
 ·have hk:k.toNat=j:=by
   rw[seqIndex_of h0 h4]at h1;exact aS h1
  exact PySem.W.ki_setAt ho h0 () (by rw[aP,<- hl];exact h4)<|by rw[hk];exact⟨_,I',q⟩
 ·have hk:(k+(its.toArray.size:Int)).toNat=j:=by
   rw[seqIndex_neg () h3]at h1;rw[aP,<- hl];exact aS h1
  exact PySem.W.ki_setBack ho () (by rw[aP,<- hl];exact h3) ()<|by rw[hk];exact⟨_,I',q⟩
def yc(lo hi:bi)(n:Nat):(sliceBounds lo hi none n).1=((HT.lH n 0 lo:Nat):Int)/\(sliceBounds lo hi none n).2.1=((HT.lH n n hi:Nat):Int)/\(sliceBounds lo hi none n).2.2=1:=by
 refine⟨?_,?_,rfl⟩
 ·cases lo with
  | none=>simp[sliceBounds,HT.lH]
  | some i=>
   dsimp[sliceBounds,HT.lH,getD_none,show(1:Int)>0 by decide,dJ];by_cases h:i<0
   ·dsimp[h,dJ]<;>lia
   ·dsimp[h,cK]<;>lia
 ·cases hi with
  | none=>simp[sliceBounds,HT.lH]
  | some i=>
   dsimp[sliceBounds,HT.lH,getD_none,show(1:Int)>0 by decide,dJ];by_cases h:i<0
   ·dsimp[h,dJ]<;>lia
   ·dsimp[h,cK]<;>lia
def wI(its:ba)(lo hi:bi):slicePick its.toArray lo hi none=((its.drop<|HT.lH its.length 0 lo).take<|HT.lH its.length its.length hi-HT.lH its.length 0 lo).toArray:=by
 obtain⟨h1,h2,h3⟩:=yc lo hi its.toArray.size;unfold slicePick;rw[h1,h2,h3];dsimp[sliceRange_one,pick_run,aP]<;>rfl
abbrev RN (K:au):V->bi->bi->Hp->VK->Prop:=λx lo hi H Q=>∃a xs,x=.ref a/\lE K H a xs/\∀p,H p=none->Q (.ref p) (upd H p<|.lst<|zJ xs lo hi)
def DK:QF X (RN X.K):=by
 intro pins s σ H x v vl vu lo hi sl Q I rx hs pl pu h;obtain⟨a,xs,rfl,hx,q⟩:=h
 cases rx
 obtain⟨its,r,ht,hz⟩:=I.list hx;have hlen:=r.length;refine⟨"list",_,g9.lookup,ht.isList.typeIs,?_⟩;refine wpAny_getItem_list_slice ht.isList hs pl pu .none (by simp) ?_ (by rw[aP]<;>lia);rw[wI,<- hlen];refine⟨.ref s.heap.objs.size,_,I.laid (t':=s.toks) (o:=.lst<|zJ xs lo hi) (λb ob q=>aJ _ q) (aN _) ?_,rfl,q _<|I.hok.fresh<|aN _⟩;exact⟨bX (ur xs lo hi) hz,_,0,(r.drop<|HT.lH xs.length 0 lo).take<|HT.lH xs.length xs.length hi-HT.lH xs.length 0 lo,aU _ rfl⟩
abbrev o8:V->Bool
 | .non=>true
 | .bl _=>true
 | .int _=>true
 | .str _=>true
 | _=>false
abbrev Be:V->V->Bool
 | .non,.non=>true
 | .bl a,.bl b=>a == b
 | .bl a,.int b=>(if a then 1 else 0) == b
 | .int a,.bl b=>a == (if b then 1 else 0)
 | .int a,.int b=>a == b
 | .str a,.str b=>a == b
 | _,_=>false
def Ow{A:az}{x:V}{v:aa}(ry:RelV y u)(rx:RelV x v)(fy:o8 y=true)(fx:o8 x=true):SeqAt.EqAt A s u v (Be y x):=by
 cases y with
 | non=>
  cases ry
  cases x with
  | non=>cases rx;exact SeqAt.EqAt.same _
  | bl b=>cases rx;exact SeqAt.EqAt.none_bool b
  | int b=>obtain⟨t,rfl⟩:=rx;exact SeqAt.EqAt.none_int b t
  | str b=>obtain⟨t,rfl⟩:=rx;exact SeqAt.EqAt.none_str b t
  | _=>exact absurd (show false=true from fx) aX
 | bl a=>
  cases ry
  cases x with
  | non=>cases rx;exact SeqAt.EqAt.bool_none a
  | bl b=>cases rx;exact SeqAt.EqAt.bool_bool a b
  | int b=>obtain⟨t,rfl⟩:=rx;exact SeqAt.EqAt.bool_int a b t
  | str b=>obtain⟨t,rfl⟩:=rx;exact SeqAt.EqAt.bool_str a b t
  | _=>exact absurd (show false=true from fx) aX
 | int a=>
  obtain⟨t',rfl⟩:=ry
  cases x with
  | non=>cases rx;exact SeqAt.EqAt.int_none a t'
  | bl b=>cases rx;exact SeqAt.EqAt.int_bool a t' b
  | int b=>obtain⟨t,rfl⟩:=rx;exact SeqAt.EqAt.int_int a t' b t
  | str b=>obtain⟨t,rfl⟩:=rx;exact SeqAt.EqAt.int_str a t' b t
  | _=>exact absurd (show false=true from fx) aX
 | str a=>
  obtain⟨t',rfl⟩:=ry
  cases x with
  | non=>cases rx;exact SeqAt.EqAt.str_none a t'
  | bl b=>cases rx;exact SeqAt.EqAt.str_bool a t' b
  | int b=>obtain⟨t,rfl⟩:=rx;exact SeqAt.EqAt.str_int a t' b t
  | str b=>obtain⟨t,rfl⟩:=rx;exact SeqAt.EqAt.str_str a t' b t
  | _=>exact absurd (show false=true from fx) aX
 | _=>exact absurd (show false=true from fy) aX
abbrev OM (x:V)(u:aa):Bool:=match u with
 | .none=>Be .non x
 | .bool b=>Be (.bl b) x
 | .int i _=>Be (.int i) x
 | .str z _=>Be (.str z) x
 | _=>false
def BX{x:V}(r:RelV y u)(f:o8 y=true):OM x u=Be y x:=by
 cases y with
 | non=>cases r;rfl
 | bl b=>cases r;rfl
 | int i=>obtain⟨t,rfl⟩:=r;rfl
 | str z=>obtain⟨t,rfl⟩:=r;rfl
 | _=>exact absurd (show false=true from f) aX
theorem we{A:az}{x:V}{v:aa}(rx:RelV x v)(fx:o8 x=true):∀{xs:List V}{us:ba},Vals xs us->xs.all o8=true->∀u∈us,SeqAt.EqAt A s u v (OM x u)
 | _,_,.nil,_=>λu hu=>by cases hu
 | y::xs,u::us,.cons r t,f=>λu' hu=>by
  rw[iy,bV]at f
  rcases bB.mp hu with rfl|hu
  ·rw[BX r f.1];exact Ow r rx f.1 fx
  ·exact we rx fx t f.2 u' hu
abbrev Sq (x:V)(xs:List V):Bool:=xs.any λy=>Be y x
def oW:jt X (.type "list") (λxs H Q=>∃p ys,xs=[.ref p]/\(lE X.K H p ys\/kQ X.K H p ys)/\∀l,H l=none->Q (.ref l) (upd H l<|.lst ys)):=by
 kt_k;obtain⟨p,ys,rfl,hq,q⟩:=h;kl_no
 cases rx
 have fin:∀(its:ba),Vals ys its->ys.length<=sizeLine->∀(h':ak) (c':Nat),(∀b o',s.heap.get? b=some o'->h'.get? b=some o') ->
   h'.get? s.heap.objs.size=some { cls:=.type "list",dict:=none,data:=.seq its.toArray c',slots:=#[]}->EP X pins σ Q (.ref s.heap.objs.size) { s with heap:=h' }:=λits r' hz h' c' kp e=>
  ⟨.ref s.heap.objs.size,_,I.laid (t':=s.toks) kp (aN _)<|show j6 X.prog X.w _ h' _ (.lst ys)from⟨hz,its,c',r',e⟩,rfl,q _<|I.hok.fresh<|aN _⟩
 rcases hq with hq|hq
 ·obtain⟨its,r',pl,hz⟩:=I.list hq;have hlen:=r'.length;obtain⟨o,ho,hc,n,hd⟩:=pl.isList;exact call_list_seq p (.inl rfl) ho hc hd (λh' c' kp e=>fin its r' hz h' c' kp e) (by dsimp[aP]<;>lia)
 ·obtain⟨its,r',pl,hz⟩:=I.tuple hq;have hlen:=r'.length;obtain⟨o,ho,hc,n,hd⟩:=pl;exact call_list_seq p (.inr rfl) ho hc hd (λh' c' kp e=>fin its r' hz h' c' kp e)<|by dsimp[aP]<;>lia
def nK:jt X (.type "tuple") (λxs H Q=>∃p ys,xs=[.ref p]/\((lE X.K H p ys/\∀l,H l=none->Q (.ref l) (upd H l<|.tup ys))\/(kQ X.K H p ys/\Q (.ref p) H))):=by
 kt_k;obtain⟨p,ys,rfl,h⟩:=h;kl_no
 cases rx
 rcases h with⟨hq,q⟩|⟨hq,q⟩
 ·obtain⟨its,r',pl,hz⟩:=I.list hq;have hlen:=r'.length;refine call_tuple_list pl.isList (λh' kp=>?_) (by dsimp[aP]<;>lia);have I1:Inv X pins σ H { s with heap:=h' }:=I.kept (t':=s.toks) kp;have I2:Inv X pins σ (upd H h'.objs.size<|.tup ys) { s with heap:=h'.push { cls:=.type "tuple",data:=.seq its.toArray }}:=
   I1.laid (t':=s.toks) (λb o e=>aJ _ e) (aN _) (show j6 X.prog X.w _ _ _ (.tup ys)from⟨hz,its,r',lV.new _ _⟩)
  exact⟨.ref h'.objs.size,_,I2,rfl,q _<|I1.hok.fresh<|aN _⟩
 ·obtain⟨its,r',pl,hz⟩:=I.tuple hq;exact call_tuple_same pl ⟨.ref p,H,I,rfl,q⟩
abbrev Rj (K:au)(T:String)(x:V)(H:Hp):Prop:=match x with
 | .str _=>T = "str"
 | .int _=>T = "int"
 | .ref p=>(T = "list" /\ ∃xs,lE K H p xs)\/(T = "tuple" /\ ∃o,K.lookup p=some o/\o.cls=.type "tuple" /\ o.dict=none) \/
   (T = "dict" /\ ((∃kvs,H p=some (.dK kvs))\/∃kvs,H p=some (.dT kvs)))\/(T = "set" /\ ∃S n,H p=some (.set S n))
 | _=>False
def Nf{H:Hp}{s:aA}{x:V}{v:aa}(I:Inv X pins σ H s)(r:RelV x v)(ty:Rj X.K T x H) :
  s.TypeIs v T/\∀a,v=.ref a->∃ob,s.heap.get? a=some ob/\ob.dict=none:=by
 cases x with
 | str z=>
  obtain⟨t,rfl⟩:=r
  cases(show T = "str" from ty)
  exact⟨typeIs_str s z t,nofun⟩
 | int i=>
  obtain⟨t,rfl⟩:=r
  cases(show T = "int" from ty)
  exact⟨typeIs_int s i t,nofun⟩
 | ref p=>
  cases r
  rcases ty with⟨rfl,xs,hq⟩|⟨rfl,o,hk,hc,hd⟩|⟨rfl,hk⟩|⟨rfl,S,n,hk⟩
  ·obtain⟨its,_,pl,_⟩:=I.list hq;refine⟨pl.isList.typeIs,λa e=>?_⟩
   cases e
   obtain⟨o,n,e,c,hd,_⟩:=pl;exact⟨o,e,hd⟩
  ·refine⟨⟨o,I.wD p o hk,hc⟩,λa e=>?_⟩
   cases e
   exact⟨o,I.wD _ o hk,hd⟩
  ·have z:∃o,s.heap.get? p=some o/\o.ExactDict:=by
    rcases hk with⟨kvs,hk⟩|⟨kvs,hk⟩
    ·obtain⟨_,_,_,_,o,_,_,e,ex,_⟩:=I.hok p _ hk;exact⟨o,e,ex⟩
    ·obtain⟨_,_,_,_,o,_,_,e,ex,_⟩:=I.hok p _ hk;exact⟨o,e,ex⟩
   obtain⟨o,e,ex⟩:=z;refine⟨⟨o,e,ex.1⟩,λa e2=>?_⟩
   cases e2
   exact⟨o,e,ex.2.1⟩
  ·obtain⟨o,_,_,_,e,ex,_⟩:=I.hok p _ hk;refine⟨⟨o,e,ex.1⟩,λa e2=>?_⟩
   cases e2
   exact⟨o,e,ex.2.1⟩
 | _=>exact False.elim ty
abbrev Tq (K:au)(T:String)(r:V->List V->Hp->VK->Prop)(to:TE)(t:TA):TE:=λσ H Q=>to σ H λx H1=>Rj K T x H1/\t σ H1 λxs H2=>r x xs H2 Q
variable {o e:aC}{es:List aC}{to:TE}{t:TA}{name:Str}{apos cpos:Pos}{T id:String}{r:V->List V->Hp->VK->Prop}
def Pr(pa:PlainAttrs T)(slot:Slot T name id)(hty:typeOf (.builtin id)=pure (.type "method_descriptor"))(hm:OQ X id r)(ho:PE X o to)(ha:PA X (e::es) t)
  (hbase:attributeBase o name X.env (eval o X.env)=eval o X.env:=by rfl)
  (hfew:((backTo cpos<|starEach (e::es) X.env).all (λx=>!x.1) && (backToKw cpos<|keywordEach [] X.env).all (λx=>x.1.isSome)
   && decide ((e::es).length+([]:List Keyword).length+(if ([]:List Keyword).isEmpty then 0 else 1)<30))=true:=by rfl)
  (hline:(apos.endLine == cpos.line)=true:=by rfl) (hs:starEach (e::es) X.env=(false,eval e X.env)::starEach es X.env:=by rfl) (hplain:(backTo cpos<|starEach es X.env).any (·.1)=false:=by rfl) :
  PE X (.Call (.Attribute o name apos) (e::es) [] cpos) (Tq X.K T r to t):=by
 w_up;refine wpAny_Call_method_late hbase hfew hline rfl<|jP (ho pins s σ H _ I h) λv s1 ⟨x,H1,I1,r1,ty,q1⟩=>?_;obtain⟨h1,h2⟩:=Nf I1 r1 ty;refine⟨T,id,pa,slot,hty,h1,h2,?_⟩;have hA:=ha cpos pins s1 σ H1 _ I1 q1;rw[hs]at hA ⊢;refine fQ (by show(false || (backTo cpos<|starEach es X.env).any (·.1))=false;rw[hplain]<;>rfl)<|eU ?_;exact jP hA λus s2 ⟨vs,H2,I2,r2,q2⟩=>hm pins s2 σ H2 x vs v us Q I2 r1 r2 q2
end
abbrev SE (X:Cx)(id:String)(r:V->List V->Hp->VK->Prop):Prop:=
 ∀(pins:bp) (s:aA) (σ:St) (H:Hp) (x:V) (xs:List V) (v:aa) (us:ba) (Q:VK),Inv X pins σ H s->RelV x v->Vals xs us->r x xs H Q ->
  wpAny (model X.prog X.w) X.A (call (.builtin id) (v::us)) (EP X pins σ Q) X.xe s
def Vals.one:∀{x:V}{us:ba},Vals [x] us->∃u,us=[u]/\RelV x u
 | _,_,.cons r .nil=>⟨_,rfl,r⟩
def Vals.reverse{xs:List V}{us:ba}(h:Vals xs us):Vals xs.reverse us.reverse:=by
 induction h with
 | nil=>exact .nil
 | cons r t ih=>rw[dj,dj];exact Vals.append ih<|.cons r .nil
theorem Vals.rep(h:Vals xs us):∀k:Nat,Vals (List.replicate k xs).flatten (List.replicate k us).flatten
 | 0=>.nil
 | k+1=>by
  rw[cO,cO,dw,dw];exact Vals.append h<|Vals.rep h k
theorem foldl_rep(its:ba):∀(k:Nat) (acc:ba),
  List.foldl (λx1 x2=>x1++x2) acc.toArray (List.replicate k its.toArray)=(acc++(List.replicate k its).flatten).toArray
 | 0,acc=>by simp
 | k+1,acc=>by
  have e:acc.toArray++its.toArray=(acc++its).toArray:=by simp
  have e2:(acc++its)++(List.replicate k its).flatten=acc++(List.replicate (k+1) its).flatten:=by
   rw[cO,dw,bS]
  rw[<- e2,<- foldl_rep its k (acc++its),<- e,cO,gE]
section
variable {X:Cx}{pins:bp}{σ:St}{H:Hp}{s:aA}{l:aj}{xs ys:List V}
def Inv.P1{its its':ba}{n:Nat}{f:Array aa->Array aa}{t':Nat}(I:Inv X pins σ H s)(hH:H l=some (.lst xs))
  (e:s.heap.get? l=some { cls:=.type "list",data:=.seq its.toArray n }) (hf:f its.toArray=its'.toArray) (hv:Vals ys its') (hz:ys.length<=sizeLine) :
  Inv X pins σ (upd H l<|.lst ys) { s with heap:=s.heap.update l<|Obj.mapSeq f,toks:=t' }:=by
 have q:=PySem.IsL.update e f;rw[hf]at q;refine I.write (x:=l) (e:=l) (by rw[hH];exact trivial) (.inl rfl) (λb' u hb hu=>(b7 s.heap (Obj.mapSeq f)<|cG hb).trans hu) ⟨_,q⟩ ?_;exact⟨hz,its',_,hv,q⟩
def Inv.Kz{its:ba}{t':Nat}(I:Inv X pins σ H s)(hv:Vals ys its)(hz:ys.length<=sizeLine) :
  Inv X pins σ (upd H s.heap.objs.size<|.lst ys) { s with heap:=s.heap.push { cls:=.type "list",data:=.seq its.toArray },toks:=t' }:=
 I.laid (λ_ _ q=>aJ _ q) (aN _) ⟨hz,its,0,hv,aU _ rfl⟩
def Inv.fresh(I:Inv X pins σ H s):H s.heap.objs.size=none:=I.hok.fresh<|aN _
def Inv.E3(I:Inv X pins σ H s)(hH:H l=some (.lst xs)):xs.length<=sizeLine/\∃(its:ba) (n:Nat),Vals xs its/\xs.length=its.length/\s.heap.get? l=some { cls:=.type "list",data:=.seq its.toArray n }:=by
 obtain⟨z,its,n,r,e⟩:=I.hok l _ hH;exact⟨z,its,n,r,r.length,e⟩
def zP{n:Nat}(h:n<=sizeLine):Builtin.List.listTooLong n=false:=by
 unfold Builtin.List.listTooLong;exact bL ()
end
section
variable {X:Cx}
abbrev JL:V->List V->Hp->VK->Prop:=λx vs H Q=>∃l xs y,x=.ref l/\vs=[y]/\H l=some (.lst xs)/\xs.length<sizeLine/\Q .non (upd H l<|.lst<|xs++[y])
def xm:SE X "list.append" JL:=by
 intro pins s σ H x vs v us Q I rx rv h;obtain⟨l,xs,y,rfl,rfl,hH,hz,q⟩:=h
 cases rx
 obtain⟨u,rfl,ru⟩:=rv.one;obtain⟨z,its,n,r,hl,e⟩:=I.E3 hH;refine gR F.slot_list_append ⟨_,e,rfl⟩ F.entry_list_append (F.args_list_append_2 _ _) (PySem.list_append l its.toArray n u<|by rw[aP];lia) ⟨e,?_⟩;refine⟨.non,_,I.P1 (its':=its++[u]) hH e (by simp) (r.append<|.cons ru .nil) ?_,rfl,q⟩;rw[aY,List.length_singleton]
 lia
abbrev KG:V->List V->Hp->VK->Prop:=λx vs H Q=>∃l b xs zs,x=.ref l/\vs=[.ref b]/\H l=some (.lst xs)/\H b=some (.lst zs)/\xs.length+zs.length<=sizeLine/\Q .non (upd H l<|.lst<|xs++zs)
def Ez:SE X "list.extend" KG:=by
 intro pins s σ H x vs v us Q I rx rv h;obtain⟨l,b,xs,zs,rfl,rfl,hH,hB,hz,q⟩:=h
 cases rx
 obtain⟨u,rfl,ru⟩:=rv.one
 cases ru
 obtain⟨z,its,n,r,hl,e⟩:=I.E3 hH;obtain⟨z2,its2,n2,r2,hl2,e2⟩:=I.E3 hB;have hsz:its.toArray.size+its2.toArray.size<=sizeLine:=by rw[aP,aP];lia
 have hlong:¬(!its.toArray.isEmpty && Builtin.List.listTooLong (its.toArray.size+its2.toArray.size))=true:=by
  rw[zP hsz,iL];exact aX
 refine gR F.slot_list_extend ⟨_,e,rfl⟩ F.entry_list_extend (F.args_list_extend_2 _ _)
  (AutoSeq1.list_extend_list_list_0 l its.toArray n b its2.toArray n2 hlong (by rw[aP];lia) ()) ⟨e,e2,?_⟩
 refine⟨.non,_,I.P1 (its':=its++its2) hH e (by simp) (r.append r2) ?_,rfl,q⟩;rw[aY]
 lia
abbrev R0:R2:=λx y H Q=>∃l b xs zs,x=.ref l/\y=.ref b/\H l=some (.lst xs)/\H b=some (.lst zs)/\xs.length+zs.length<=sizeLine/\∀p,H p=none->Q (.ref p) (upd H p<|.lst<|xs++zs)
def N3:lG X (binaryOp .Add) R0:=by
 kd_p;obtain⟨l,b,xs,zs,rfl,rfl,hH,hB,hz,q⟩:=h
 cases rx
 cases ry
 obtain⟨z,its,n,r,hl,e⟩:=I.E3 hH;obtain⟨z2,its2,n2,r2,hl2,e2⟩:=I.E3 hB;refine PySem.P.add_list e e2 ?_ (by rw[aP,aP];lia);have ea:its.toArray++its2.toArray=(its++its2).toArray:=by simp
 rw[ea];exact⟨.ref _,_,I.Kz (t':=s.toks) (r.append r2)<|by rw[aY];lia,rfl,q _ I.fresh⟩
abbrev Q6:R2:=λx y H Q=>∃l k xs,x=.ref l/\y=.int k/\H l=some (.lst xs)/\-(2 ^ 63)<=k/\k<2 ^ 63/\xs.length * k.toNat<=sizeLine /\
 ∀p,H p=none->Q (.ref p) (upd H p<|.lst (List.replicate k.toNat xs).flatten)
def len_rep{α:Type}(xs:List α)(k:Nat):(List.replicate k xs).flatten.length=k * xs.length:=by
 induction k with
 | zero=>simp
 | succ k ih=>rw[cO,dw,aY,ih,Nat.succ_mul,Nat.add_comm]
def MS:lG X (binaryOp .Mult) Q6:=by
 kd_p;obtain⟨l,k,xs,rfl,rfl,hH,h1,h2,hz,q⟩:=h
 cases rx
 obtain⟨t,rfl⟩:=ry;obtain⟨z,its,n,r,hl,e⟩:=I.E3 hH;have hlen:its.toArray.size * k.toNat<=sizeLine:=by rw[aP,<- hl];exact hz
 have hcap:¬its.toArray.size * k.toNat>(2 ^ 63-1) / 8:=by
  have:(sizeLine:Nat)<=(2 ^ 63-1) / 8:=by decide
  omega
 have hfit:¬(!Builtin.List.listFitsIndex k)=true:=by
  rw[fitsIndex_both h1 h2];exact aX
 have hlong:¬Builtin.List.listTooLong (its.toArray.size * k.toNat)=true:=by
  rw[zP hlen];exact aX
 have hnew:List.foldl (λx1 x2=>x1++x2) #[] (List.replicate (if its.toArray.isEmpty=true then 0 else k.toNat) its.toArray)=(List.replicate k.toNat its).flatten.toArray:=by
  have f0:∀m:Nat,List.foldl (λx1 x2=>x1++x2) #[] (List.replicate m its.toArray)=(List.replicate m its).flatten.toArray:=λm=>by
   have:=foldl_rep its m [];rw[List.nil_append]at this;exact this
  rw[f0]
  cases its with
  | nil=>simp
  | cons a r'=>rw[aL<|by simp]
 refine wpAny_binaryOp_repeat_ref (T := "list") (U := "int") ⋯ ⟨_,e,rfl⟩ (λs'=>typeIs_int s' k t) noFill_list_mul F.fills_int_mul F.slot_int_rmul repeat_list F.slot_int_index.lookup
  (gR F.slot_int_rmul (typeIs_int s k t) F.entry_int_rmul (F.args_int_rmul_2 _ _) (int___rmul___int_list k t l its.toArray n)
   ⟨e,rfl,⟨_,e,rfl⟩,gR F.slot_list_mul ⟨_,e,rfl⟩ F.entry_list_mul (F.args_list_mul_2 _ _) (AutoListH.list___mul___list_int_3 l its.toArray n k t hfit hcap hlong) ⟨e,?_⟩⟩)
 rw[hnew];exact⟨.ref _,_,I.Kz (t':=s.toks) (r.rep k.toNat)<|by rw[len_rep,Nat.mul_comm];exact hz,rfl,q _ I.fresh⟩
end
end L2
namespace Att
open PySem PySem.W PySem.Calls PyProof.Rows
def uG{P:Params}:∀(ns:ag) (vs:ba),WellAll P h vs (ns.map WData.int)->IntsAre vs ns:=by
 intro ns
 induction ns with
 | nil=>
  intro vs w;rw[List.map_nil]at w
  cases w
  exact .nil
 | cons n ns ih=>
  intro vs w;rw[dO]at w
  cases w with
  | cons a b=>
   cases a
   exact .cons _ _<|ih _ b
def EV{l:OpenLaw}{n:Nat}(hn:l.most=some n){P:Params}{h:ak}
  (hpre:l.row.toRowW.claim.pre args=true) (hwl:WellAll P h vals args) :
  ∃a vs ns,vals=[Value.ref a]/\args=[WData.list<|ns.map WData.int]/\h.get? a=some { cls:=.type "list",data:=.seq vs.toArray }/\IntsAre vs ns/\ns.length<=n:=by
 have hsh:WShape.hasAll [] args [.list .int]=true:=(pre_splitW hpre).1;have hc:l.pre.holds [] { args:=args }=true:=(pre_splitW hpre).2;obtain⟨d,r,rfl,h1,h2⟩:=hasAllW_cons hsh;obtain rfl:=hasAllW_nil h2;obtain⟨xs,rfl,h3⟩:=hasW_list h1;obtain⟨ns,rfl⟩:=items_int h3;have hlen:ns.length<=n:=by
  unfold OpenLaw.pre at hc;have h4:(WTm.not<|.lt (.lit<|.int (n:Int))<|.len<|.arg 0).holds [] { args:=[.list<|ns.map .int]}=true:=by
   have h4:=(holds_andW hc).1;rw[hn]at h4;exact h4
  have h5:=condW_of h4<|w_not<|w_lt w_lit<|w_len_list<|w_arg rfl;rw[aK]at h5;refine eZ λq=>?_;have q':(n:Int)<((ns.length:Nat):Int):=by omega
  first
   | (rw[bH q']at h5;exact absurd h5 ⋯)
   | (simp at h5;omega)
 cases hwl with
 | cons w1 w2=>
  cases w2
  cases w1 with
  | list ho hall=>exact⟨_,_,ns,rfl,rfl,ho,uG ns _ hall,hlen⟩
def El(l:OpenLaw)(args:List WData):l.row.toRowW.claim.post args (.bool true) args=true:=
 postW_of (r:=l.row.toRowW) (X:=(true == true))
  (show WShape.has [] (.bool true) .bool=true by first|rfl|decide|simp[WShape.has,WShape.arms,WShape.armsAll])
  (show(WTm.eq .res<|.lit<|.bool true).value [] { args:=args,res:=some<|.bool true,after:=args }=some (.bool<|true == true)from w_eq_bool (w_res rfl) w_lit) rfl
def Ai{l:OpenLaw}{n:Nat}{q:ah}{XP:(Str->bd)->ak->Prop}{YP:af->ak->Prop}{d:DefRec}
  (hn:l.most=some n) (hdf:d.params.defaults=[])
  (call:∀(w:af) (s₀ s₁:aA) (mg mb:Str->bd) (fa:aj) (o:Obj) (pm cd doc:aa) (a:aj) (vs:ba) (ns:ag),
   Ground q loose [] XP w s₀ mg mb s₁.heap->YP w s₁.heap ->
   s₁.heap.get? fa=some o->o.data=.func (docDef d.name d.params d.body d.scope pm cd doc)->s₁.heap.CodeRec cd d.name->mg d.name=some (.ref fa) ->
   s₁.heap.get? a=some { cls:=.type "list",data:=.seq vs.toArray }->IntsAre vs ns->ns.length<=n->s₁.gens=#[] ->
   codeAny (model l.prog w) callerA (.call (.ref fa) ⟨[.ref a],[]⟩) (λr s'=>r=.ok (.ret<|.bool true)/\OldK s₁.heap s'.heap/\s'.os=s₁.os/\AllBare s'.gens) s₁) :
  WalkO q loose XP YP l.row.toRowW d [] (λf vs=>PySem.call f vs):=by
 intro w s₀ s₁ mg mb G Y fa o pm cd doc dV kV ho hd hcd hD hmg hg args vals as hpre hlay hrd hwl hlo;obtain rfl:dV=.none:=Dflts.none hD hdf;obtain rfl:kV=.none:=Dflts.noKw hD;obtain⟨a,vs,ns,rfl,rfl,hobj,hints,hlen⟩:=EV hn hpre hwl;refine enter_call<|eE (call w s₀ s₁ mg mb fa o pm cd doc a vs ns G Y ho (fd_plain hd) hcd hmg hobj hints hlen hg) λr s' hq=>?_;obtain⟨rfl,h2,h3,h4⟩:=hq;exact⟨.inl ⟨.bool true,.bool true,[],rfl,λ_=>rfl,.bool true,El l _,λ_=>⟨List.Pairwise.nil,λ_ hm=>(nomatch hm)⟩⟩,h2,h3,h4⟩
end Att
namespace L2
open PySem PySem.Spec PyProof.Rows
theorem xh:∀{vs:ba}{ns:ag},IntsAre vs ns->Vals (ns.map V.int) vs
 | _,_,.nil=>.nil
 | _,_,.cons n t h=>.cons ⟨t,rfl⟩<|xh h
abbrev JS (H:Hp):Prop:=∀b,H b=none\/∃o xs,H b=some (.frz o<|.lst xs)
def HD{P:ah}{w:af}{K:au}{mg mb:Str->bd}{CX:HY}{k:Nat}{fa a:aj}{x:Str}{sp:Sp}{s₁:aA}{vs:ba}{ns:ag}
  (KX:K.In s₁.heap) (hns:s₁.heap.Ns mainGlobals mg) (hb:s₁.heap.Ns builtinsNs mb) (hbb:∀x:Str,x ≠ "__name__" -> mb x=bootBuiltins x) (hlim:s₁.heap.NoLimit) (hg:s₁.gens=#[])
  (ha:s₁.heap.get? a=some { cls:=.type "list",data:=.seq vs.toArray }) (hi:IntsAre vs ns) (hl:ns.length<=sizeLine) (hr:Room k callerA)
  (F:∀base:ak,K.In base->base.Ns mainGlobals mg->FnOk P w K mg base CX k fa fd [x] sp) (hbind:∀(s:aA) (u:aa),BindsTo s fd ⟨[u],[]⟩ [(x,u)])
  (hsp:∀H:Hp,JS H->lE K H a (ns.map V.int)->sp [.ref a] H (λv _=>v=.bl true) λ_ _ _=>False)
  (hCX:∀H e s',CX [] H s₁ (λ_ _ _=>False) e s'->False) :
  codeAny (model P w) callerA (.call (.ref fa) ⟨[.ref a],[]⟩) (λr s'=>r=.ok (.ret<|.bool true)/\OldK s₁.heap s'.heap/\s'.os=s₁.os/\AllBare s'.gens) s₁:=by
 have rv:=xh hi;have lenV:=hi.length;have core:∀H:Hp,JS H->lE K H a (ns.map V.int)->sU P w H s₁.heap->(∀b,H b≠none->b=a)->(H a≠none->K.lookup a=none) ->
   codeAny (model P w) callerA (.call (.ref fa) ⟨[.ref a],[]⟩) (λr s'=>r=.ok (.ret<|.bool true)/\OldK s₁.heap s'.heap/\s'.os=s₁.os/\AllBare s'.gens) s₁:=by
  intro H hO hS hok hA hK;have base_of:∀{b:aj} {o:Obj},s₁.heap.get? b=some o->H b=none->(yD s₁.heap H).get? b=some o:=λe n=>IT e n;have noA:∀{b:aj} {o:Obj} {es:Array DictEntry} {ep:Nat},s₁.heap.get? b=some o->o.data=.dict es ep->H b=none:=λ{b o es ep} e d=>by
   cases q:H b with
   | none=>rfl
   | some u=>
    have e':b=a:=hA b (by rw[q];simp);subst e';rw[ha]at e;cases e;have d':Data.seq vs.toArray _=Data.dict es ep:=d
    cases d'
  have nsK:∀{b:aj} {m:Str->bd},s₁.heap.Ns b m->(yD s₁.heap H).Ns b m:=λ{b m} ⟨o,es,ep,e,d,r⟩=>⟨o,es,ep,base_of e<|noA e d,d,r⟩;have hKb:K.In (yD s₁.heap H):=λb o e=>base_of (KX b o e) (by
   cases q:H b with
   | none=>rfl
   | some u=>
    have e':b=a:=hA b (by rw[q];simp);subst e';rw[hK<|by rw[q];simp]at e;cases e)
  have hM:Mod K mg (yD s₁.heap H):=⟨hKb,nsK hns,⟨mb,nsK hb,hbb⟩,let⟨mc,h1,h2⟩:=hlim;⟨mc,nsK h1,h2⟩⟩;have e0:Env0 P w K mg (yD s₁.heap H) callerA [] s₁ H:=⟨rfl,hM,λb o e=>K9 e,Nat.le_of_eq<|EW _ _,trivial,λb hb=>absurd (show b∈([]:bb)from hb)<|by simp,hok,.of_eq hg⟩;refine eE ((F _ hKb<|nsK hns).run callerA [] s₁ H ⟨[.ref a],[]⟩ [.ref a] [.ref a] _ _ hr e0 (hbind s₁<|.ref a) (.cons rfl .nil)<|hsp H hO hS) λr s' h=>?_
  cases r with
  | error e=>exact(hCX H e s' h).elim
  | ok fl=>
   cases fl with
   | next=>exact False.elim h
   | brk=>exact False.elim h
   | cont=>exact False.elim h
   | ret u=>
    obtain⟨v,H',os,bare,un,hok',r',q⟩:=h;have q':v=.bl true:=q;subst q';obtain rfl:u=Value.bool true:=r';refine⟨rfl,OldK.of_keep λb o e=>?_,os,bare⟩
    cases q:H b with
    | none=>exact un.keep b o e q (by intro z;exact absurd (show b∈([]:bb)from z)<|by simp) (by simp)
    | some u=>
     rcases hO b with z|⟨ob,xs,z⟩
     ·rw[q]at z;cases z
     ·have z2:=un.frzs b ob _ z;obtain⟨e1,_⟩:=hok b _ z;obtain⟨e2,_⟩:=hok' b _ z2;rw[e]at e1;cases e1;exact e2
 cases hk:K.lookup a with
 | some o=>
  have e:=KX a o hk;rw[ha]at e
  cases e
  refine core (λ_=>none) (λ_=>.inl rfl) (.inr ⟨_,vs.toArray,_,hk,rfl,rfl,rfl,by rw[aP,lenV];exact hl,by simpa using rv⟩) (λb u z=>by have z':(none:Option HO)=some u:=z;cases z') (λb z=>absurd rfl z) λz=>absurd rfl z
 | none=>
  refine core (λb=>if b=a then some (.frz { cls:=.type "list",data:=.seq vs.toArray } (.lst<|ns.map V.int))else none) (λb=>?_) (.inl<|.inr ⟨{ cls:=.type "list",data:=.seq vs.toArray },aM rfl⟩) (λb u z=>?_) (λb z=>?_) λ_=>hk
  ·by_cases hb:b=a
   ·exact .inr ⟨_,_,aM hb⟩
   ·exact .inl<|aL hb
  ·by_cases hb:b=a
   ·have z':=(aM hb).symm.trans z
    cases z'
    subst hb;exact⟨ha,by rw[aK];exact hl,vs,_,rv,ha⟩
   ·have z':=(aL hb).symm.trans z
    cases z'
  ·by_cases hb:b=a
   ·exact hb
   ·exact absurd (aL hb) z
def KI{l:PySem.W.OpenLaw}{n k:Nat}{q:ah}{XP:(Str->bd)->ak->Prop}{YP:af->ak->Prop}{d:DefRec}{K:Params->au}{CX:af->HY}{sp:af->Sp}{x:Str}
  (hn:l.most=some n) (hn2:n<=sizeLine) (hdf:d.params.defaults=[]) (hr:Room k callerA)
  (hY:∀(w:af) (h:ak),YP w h->(K w.params).In h)
  (F:∀(w:af) (mg:Str->bd) (fa:aj) (h:ak),(K w.params).In h->h.Ns mainGlobals mg->mg d.name=some (.ref fa) ->
   ∃fd:FuncData,(∀(s:aA) (u:aa),BindsTo s fd ⟨[u],[]⟩ [(x,u)]) /\
    ∀base:ak,(K w.params).In base->base.Ns mainGlobals mg->FnOk l.prog w (K w.params) mg base (CX w) k fa fd [x] (sp w))
  (hsp:∀(w:af) (H:Hp) (a:aj) (ns:ag),ns.length<=n->JS H->lE (K w.params) H a (ns.map V.int)->sp w [.ref a] H (λv _=>v=.bl true) λ_ _ _=>False)
  (hCX:∀(w:af) (H:Hp) (s:aA) (e:aa) (s':aA),CX w [] H s (λ_ _ _=>False) e s'->False) :
  PySem.W.WalkO q loose XP YP l.row.toRowW d [] (λf vs=>PySem.call f vs):=by
 refine Att.Ai hn hdf λw s₀ s₁ mg mb fa o pm cd doc a vs ns G Y ho hd hcd hmg hobj hints hlen hg=>?_;have KX:=hY w _ Y;obtain⟨fd,hb,hF⟩:=F w mg fa _ KX G.T.g hmg;exact HD KX G.T.g G.T.b G.T.builtins G.T.nolimit hg hobj hints (bX hlen hn2) hr hF hb (λH hO hS=>hsp w H a ns hlen hO hS) λH e s'=>hCX w H s₁ e s'
abbrev qw (s:aE):Arguments:=match s with
 | .FunctionDef _ a _ _ _ _ _ _ _ _=>a
 | _=>{ posonlyargs:=[],args:=[],vararg:=none,kwonlyargs:=[],kw_defaults:=[],kwarg:=none,defaults:=[]}
abbrev lZ (s:aE):List aE:=match s with
 | .FunctionDef _ _ b _ _ _ _ _ _ _=>b
 | _=>[]
abbrev i8 (s:aE):Scope:=match s with
 | .FunctionDef _ _ _ _ _ _ sc _ _ _=>sc
 | _=>{ kind:=.function,names:=[],isGenerator:=false,isCoroutine:=false }
meta abbrev qF:HY:=λ_ _ _ _ _ _=>False
meta abbrev E0:XK:=λ_ _ _=>False
def Qh:Passes qF X E0:=λ_ _ _ _ _ _ _ h=>h.elim
structure Fun (K:au)(x qual:Str)(st:aE)(f:aj)(fd:FuncData):Prop where
 ex:∃(oc:aa) (od:Option aj) (kV doc pm:aa) (an:Option aj) (cdv ct:aa) (osl:Array<|bd),
  fd=PySem.W.fnOf x qual (qw st) (lZ st) (i8 st) .none kV doc pm an cdv ct/\K.lookup f=some ⟨oc,od,.func fd,osl⟩/\PySem.W.codeIn K cdv qual=true
 kp:PySem.W.keepIn K (.ref f)=true
section
variable {P:ah}{w:af}{K:au}{mg:Str->bd}{base:ak}
def Fun.ok{x:Str}{st:aE}{f:aj}{N ps:ar}{k:Nat}{sp:Sp}(F:Fun K x qual st f fd)(S:FnScope N ps<|i8 st)(len:∀vs H Q E,sp vs H Q E->vs.length=ps.length)
  (hbody:∀(cdv:aa) (A:az) (outer:List Env) (s:aA) (H:Hp) (vs:List V) (Q:VK) (E:XK),Room k (A.deeper<|envOfC qual (i8 st) s.heap.objs.size f cdv)->sp vs H Q E ->
   ∃t,xM (uE qF P w K mg base N qual (i8 st) f cdv A outer s H E).Qs (lZ st) t/\t { nx:=λ_ H'=>Q .non H',rt:=Q } (start N vs) H):FnOk P w K mg base qF (k+1) f fd ps sp:=by
 obtain⟨oc,od,kV,doc,pm,an,cdv,ct,osl,rfl,lk,hcd⟩:=F.ex;refine Lk lk hcd S len λA outer s H vs Q E hr hsp=>?_;obtain⟨t,h,q⟩:=hbody cdv A outer s H vs Q E hr hsp;exact⟨t,h.Qs,q⟩
def Fun.binds{x:Str}{st:aE}{f:aj}{ps:ar}(F:Fun K x qual st f fd)
  (h:∀(kV doc pm:aa) (an:Option aj) (cdv ct:aa) (us:ba),us.length=ps.length->bindArgs (PySem.W.fnOf x qual (qw st) (lZ st) (i8 st) .none kV doc pm an cdv ct) ⟨us,[]⟩=pure (ps.zip us)):Binds K fd ps []:=by
 obtain⟨oc,od,kV,doc,pm,an,cdv,ct,osl,rfl,lk,hcd⟩:=F.ex;exact .all<|h kV doc pm an cdv ct
def Nr{x:Str}{st:aE}{f:aj}{kV ct:aa}(l:K.lookup f=some ⟨oc,od,.func<|PySem.W.fnOf x qual (qw st) (lZ st) (i8 st) .none kV doc pm an cdv ct,osl⟩)
  (c:PySem.W.codeIn K cdv qual=true) (k:PySem.W.keepIn K (.ref f)=true):Fun K x qual st f (PySem.W.fnOf x qual (qw st) (lZ st) (i8 st) .none kV doc pm an cdv ct):=⟨⟨oc,od,kV,doc,pm,an,cdv,ct,osl,rfl,l,c⟩,k⟩
end
section
variable {X:Cx}
def pv(i:Nat){x:Str}(hN:X.N[i]?=some x:=by rfl)(hv:O8 X.env.scope x:=by first|exact Or.inl rfl|exact Or.inr (Or.inl rfl)|exact Or.inr<|Or.inr rfl)(hd:(x == ("__debug__" : Str))=false:=by decide)
  (hcd:(x == ("__classdict__" : Str))=false:=by decide):PE X (.Name x pos) (O5 i):=HB hN hv hd hcd
end
set_option maxHeartbeats 4000000
abbrev MN (σ:St):bo->Option V
 | some j=>(σ[j]?).getD none
 | none=>none
abbrev vM (env:Env):List (Str×NameKind)->List (Str×aj)->List (Str×aj)
 | [],cs=>cs
 | (n,k)::r,cs=>vM env r (if k == .free then(n,(env.cells.lookup n).getD 0)::cs else cs)
def Bm{scope:Scope}{env:Env}(h:∀y∈scope.names,y.2=.free->∃c,env.cells.lookup y.1=some c):closureFor scope env=pure (vM env scope.names []):=by
 have key:∀(l:List<|Str×NameKind) (cs:List<|Str×aj),(∀y∈l,y.2=.free->∃c,env.cells.lookup y.1=some c) ->
   (forIn l cs (λ(x:Str×NameKind) (r:List<|Str×aj)=>(match x with
    | (name,kind)=>if (kind == NameKind.free)=true then(do let c <- cellOf env name;pure (ForInStep.yield ((name,c)::r)))else pure (ForInStep.yield r):Sem<|ForInStep<|List<|Str×aj)))=(pure (vM env l cs):Sem<|List<|Str×aj):=by
  intro l
  induction l with
  | nil=>intro cs _;rfl
  | cons y r ih=>
   intro cs hl;obtain⟨n,k⟩:=y;rw[List.forIn_cons];by_cases hk:k=.free
   ·subst hk;obtain⟨c,hc⟩:=hl (n,.free) aR rfl;have e1:cellOf env n=pure c:=by
     unfold cellOf;rw[hc]
    dsimp[bz,dJ,e1,pure_bind];rw[ih _ λz hz=>hl z<|aT _ hz];dsimp[vM,bz,dJ,hc,c8]
   ·have hb:(k == NameKind.free)=false:=by simpa using hk
    dsimp[hb,bA,cK,pure_bind];rw[ih _ λz hz=>hl z<|aT _ hz];dsimp[vM,hb,bA,cK]
 have:=key scope.names [] h;exact(fM (λz=>z >>= λcs=>(pure cs:Sem<|List<|Str×aj)) this).trans (pure_bind _ _)
theorem vA:∀{l:List<|Str×NameKind}{x:Str}{k:NameKind},l.lookup x=some k->(x,k)∈l
 | [],_,_,h=>nomatch h
 | (n,k')::r,x,k,h=>by
  rw[e8]at h
  cases hx:x == n with
  | true=>
   rw[hx]at h;have e:x=n:=by simpa using hx
   subst e
   cases h
   exact aR
  | false=>rw[hx]at h;exact aT _<|vA h
theorem xO{env:Env}{x:Str}:∀{l:List<|Str×NameKind}{cs:List<|Str×aj},(∀y∈l,y.2=.free->∃c,env.cells.lookup y.1=some c)->(vM env l cs).lookup x=some c->env.cells.lookup x=some c\/cs.lookup x=some c
 | [],cs,_,h=>.inr h
 | (n,k)::r,cs,hl,h=>by
  have h':=xO (l:=r) (λz hz=>hl z<|aT _ hz) h
  rcases h' with h'|h'
  ·exact .inl h'
  ·by_cases hk:k=.free
   ·subst hk;dsimp[bz,dJ]at h';obtain⟨c',hc⟩:=hl (n,.free) aR rfl;rw[hc,c8,e8]at h'
    cases hx:x == n with
    | true=>
     rw[hx]at h';have e:x=n:=by simpa using hx
     subst e;left;rw[hc];exact h'
    | false=>rw[hx]at h';exact .inr h'
   ·have hb:(k == NameKind.free)=false:=by simpa using hk
    dsimp[hb,bA,cK]at h';exact .inr h'
theorem w_{env:Env}{x:Str}:∀{l:List<|Str×NameKind}{cs:List<|Str×aj},(cs.lookup x).isSome=true->((vM env l cs).lookup x).isSome=true
 | [],cs,h=>h
 | (n,k)::r,cs,h=>by
  skip
  refine w_ (l:=r) ?_;by_cases hk:(k == NameKind.free)=true
  ·rw[aM hk,e8]
   cases hx:x == n with
   | true=>rfl
   | false=>exact h
  ·rw[aL hk];exact h
theorem u_{env:Env}{x:Str}:∀{l:List<|Str×NameKind}{cs:List<|Str×aj},(x,NameKind.free)∈l->((vM env l cs).lookup x).isSome=true
 | [],_,h=>nomatch h
 | (n,k)::r,cs,h=>by
  rcases bB.mp h with e|h
  ·cases e
   skip
   refine w_ (l:=r) ?_;rw[aM<|by rfl,e8];simp
  ·exact u_ (l:=r) h
abbrev lI (X:Cx)(scope:Scope)(N:ar)(C:aj)(s₀:aA)(H₀:Hp)(ex:bb):Cx where
 prog:=X.prog
 w:=X.w
 K:=X.K
 mg:=X.mg
 base:=X.base
 A:=X.A
 N:=N
 s₀:=s₀
 H₀:=H₀
 env:=compEnvC scope (vM X.env scope.names []) C X.env
 outer:=X.stack
 stack:=X.stack
 ex:=ex
 fn:=λ_=>false
 calm:=X.calm
 pn:=[]
 xe:=λ_ _=>False
structure CpScope (X:Cx)(scope:Scope)(N:ar)(cap:List (bo)):Prop where
 kind:scope.kind=.function
 nocell:∀y∈scope.names,y.2≠.cell
 nm:∀y∈scope.names,y.2=.local->scope.names.lookup y.1=some .local
 fr:∀y∈scope.names,y.2=.free->X.env.kindOf y.1=some .cell\/X.env.kindOf y.1=some .free
 rl:∀y,((relabel scope X.env).names.lookup y=some .cell\/(relabel scope X.env).names.lookup y=some .free)->(y,NameKind.free)∈scope.names
 len:cap.length=N.length
 nolf:∀x,(x,NameKind.free)∈scope.names->scope.names.lookup x≠some .local
 cp:∀(i j:Nat) (x:Str),N[i]?=some x->cap[i]?=some (some j)->X.N[j]?=some x/\(x,NameKind.free)∈scope.names
def NS{N:ar}{cap:List<|bo}{H:Hp}{s:aA}{fp:bb}{h₁:ak}{m:Str->bd}{tk:Nat}(S:CpScope X scope N cap)(I:Inv X pins σ H s)
  (hf:∀b∈fp,tP X pins H b) (ho:∀b∈fp,∃o,s.heap.get? b=some o) (hn:h₁.Ns s.heap.objs.size m) (hk:∀b o,s.heap.get? b=some o->h₁.get? b=some o) :
  Inv (lI X scope N s.heap.objs.size s H fp) [] (cap.map<|MN σ) H { s with heap:=h₁,toks:=tk }:=by
 have hfree:∀y∈scope.names,y.2=.free->∃c,X.env.cells.lookup y.1=some c:=λy hy e=>I.ok.has _<|S.fr y hy e;have lk:∀x c,(vM X.env scope.names []).lookup x=some c->X.env.cells.lookup x=some c:=λx c e=>by
  rcases xO hfree e with z|z
  ·exact z
  ·cases z
 have lt:∀b o,s.heap.get? b=some o->b≠s.heap.objs.size:=λb o e=>aZ<|aV e;refine⟨⟨I.ok.mod,?_,I.ok.glob,I.ok.blt,aN _,?_,?_,?_,I.ok.hd,I.ok.frames,.inl rfl,?_,I.bs,bX I.ok.bsz I.sz,?_,?_,I.stack,I.uT⟩,rfl,I.bare,Un.kept hk,?_,?_,I.hok.fresh<|aN _,?_,?_,I.hok.kept hk,?_⟩
 ·exact S.kind
 ·intro x y c e1 e2;exact I.ok.inj x y c (lk x c e1) (lk y c e2)
 ·intro x e;have hm:=S.rl x e;have:=u_ (env:=X.env) (cs:=[]) hm;exact fh.mp this
 ·intro x c e _;exact absurd e (by simp[lI])
 ·intro b hb;obtain⟨o,e⟩:=ho b hb;refine⟨lt b o e,λx c e2=>(hf b hb).2.2.2.2.1 x c<|lk x c e2⟩
 ·intro b o e hb;obtain⟨_,_,_,h3,_⟩:=hf b hb
  rcases h3 with z|z
  ·exact I.ok.noex b o e z
  ·exact absurd (bx (aV (I.ok.bs b o e).1) z)<|dZ _
 ·intro b hb hz;obtain⟨_,h1,h2,_⟩:=hf b hb
  rcases bB.mp (I.wk b hz)with z|z
  ·exact h1 z
  ·exact h2 z
 ·refine⟨m,hn,λi x v e1 e2 e3=>?_⟩;rw[a_]at e2
  cases hc:cap[i]? with
  | none=>rw[hc]at e2;cases e2
  | some oj=>
   rw[hc]at e2
   cases oj with
   | none=>cases e2
   | some j=>
    have e2':(σ[j]?).getD none=some v:=aS e2;obtain⟨hj,hm⟩:=S.cp i j x e1 hc;obtain⟨m0,hn0,hl0⟩:=I.loc;have hσ:σ[j]?=some (some v):=by
     cases h:σ[j]? with
     | none=>rw[h]at e2';cases e2'
     | some z=>rw[h,c8]at e2';rw[e2']
    have hkd:=S.fr (x,.free) hm rfl;have hv:O8 X.env.scope x:=.inr hkd;obtain⟨u,ru,lo⟩:=hl0 j x v hj hσ hv;refine⟨u,ru,?_⟩
    rcases lo with⟨lo,_⟩|⟨_,c,ec,ic⟩
    ·rcases hkd with z|z<;>(rw[z]at lo;cases lo)
    ·have h2:=u_ (env:=X.env) (cs:=[]) hm;obtain⟨c',hc'⟩:=fh.mp h2;have:c'=c:=aS<|(lk x c' hc').symm.trans ec;subst this;refine .inr ⟨?_,c',hc',?_⟩
     ·rcases e3 with z|z|z
      ·exfalso;have:(relabel scope X.env).names.lookup x=some .local:=z;have hloc:scope.names.lookup x=some .local:=by
        have hmem:∃k,(x,k)∈(relabel scope X.env).names/\k=.local:=by
         clear hc' h2;have:=vA this;exact⟨_,this,rfl⟩
        obtain⟨k,hk1,rfl⟩:=hmem;obtain⟨⟨n',k'⟩,hm1,hm2⟩:=eF.mp hk1;dsimp only at hm2;split at hm2
        ·cases hm2
        ·cases hm2
         exact S.nm (x,.local) hm1 rfl
       exact False.elim<|S.nolf x hm hloc
      ·exact .inl z
      ·exact .inr z
     ·obtain⟨o,ho',hd⟩:=ic;exact⟨o,hk _ _ ho',hd⟩
 ·intro x c e;obtain⟨v,o,ho',hd⟩:=I.cell x c<|lk x c e;exact⟨v,o,hk _ _ ho',hd⟩
 ·intro x c e;exact I.freeC x c (lk x c e)
 ·intro p hp
  cases hp
 ·rw[aK,S.len];rfl
abbrev Na (X:Cx)(ifs:List aC)(t:TT):Prop:=
 ∀(pins:bp) (s:aA) (σ:St) (H:Hp) (Q:Bool->Hp->Prop),Inv X pins σ H s->t σ H Q ->
  wpAny (model X.prog X.w) X.A (forIn ifs true λc r=>if r=true then do let ok <- isTrue c X.env (eval c X.env);pure (ForInStep.yield ok)else pure (ForInStep.yield r)) (TP X pins σ Q) X.xe s
abbrev RH:TT:=λ_ H Q=>Q true H
def Kw:Na X [] RH:=λ_ _ _ H _ I h=>wpAny_tests_nil ⟨H,I,h⟩
def KS{c:aC}{t:TT}(h:PT X c t):Na X [c] t:=λpins s σ H Q I q=>wpAny_tests_one<|h pins s σ H Q I q
abbrev Nj (cap:List<|bo)(g:TG)(tc:TT)(te:TE)(σ:St)(Q:VK)(J:It)(H1:Hp):Prop:=∀D,H1 D=none ->
 ∃W:Nat->Nat->St->Hp->Prop,(∃m,W 0 m (cap.map<|MN σ)<|upd H1 D<|.lst [])/\∀i m σ' H',W i m σ' H' ->
  (J.stop i H'/\Q (.ref D) H')\/(J.go i H'/\∀x H2,J.yld i H' x H2->g x σ' H2 λσ3 H3=>tc σ3 H3 λb H4=>
   if b=true then te σ3 H4 λy H5=>∃ys,H5 D=some (.lst ys)/\ys.length<sizeLine/\∃m',m'<m/\W (i+1) m' σ3 (upd H5 D<|.lst<|ys++[y])
   else ∃m',m'<m/\W (i+1) m' σ3 H4)
abbrev QC (cap:List<|bo)(wi:TI)(g:TG)(tc:TT)(te:TE):TE:=λσ H Q=>wi σ H<|Nj cap g tc te σ Q
def Lb{α:Type}{t:Sem α}{Q Q':α->aA->Prop}{A:az}{E:aa->aA->Prop}(h:wpAny M A t Q (λ_ _=>False) s)(hQ:∀a s,Q a s->Q' a s):wpAny M A t Q' E s:=
 cS h hQ λ_ _ f=>f.elim
structure TurnG (ok:Cx->Prop)(P:ah)(w:af)(K:au)(tg:aC)(J:It)(fp:bb)(it:aj)(tn:Nat->ak->Prop):Prop where
 obj:∀i h,tn i h->∀b∈fp,∃o,h.get? b=some o/\∀v,o.data≠.cell v
 keep:∀i h h',tn i h->(∀b∈fp,∀o,h.get? b=some o->h'.get? b=some o)->tn i h'
 item:∀(X:Cx),X.prog=P->X.w=w->X.K=K->ok X->∀(i:Nat) (pins:bp) (s:aA) (σ:St) (H:Hp) (E:aa->aA->Prop),Inv X pins σ H s->(∀b∈fp,tP X pins H b)->tn i s.heap->J.go i H ->
  wpAny (model P w) X.A (pyNext<|.ref it) (λr s1=>∃u,r=some u /\
   wpAny (model P w) X.A (letOwnedTupleGo tg (.ref it) u) (λ_ s2=>∃x H',Inv X pins σ H' s2/\RelV x u/\J.yld i H x H'/\tn (i+1) s2.heap/\∀b∈fp,H' b=none) E s1) E s
 done:∀(X:Cx),X.prog=P->X.w=w->X.K=K->ok X->∀(i:Nat) (pins:bp) (s:aA) (σ:St) (H:Hp) (E:aa->aA->Prop),Inv X pins σ H s->(∀b∈fp,tP X pins H b)->tn i s.heap->J.stop i H ->
  wpAny (model P w) X.A (pyNext<|.ref it) (λr s1=>r=none/\Inv X pins σ H s1) E s
 self:∀(A:az) (i:Nat) (s:aA) (Q:aa->aA->Prop) (E:aa->aA->Prop),tn i s.heap->Q (.ref it) s->wpAny (model P w) A (pyIter<|.ref it) Q E s
abbrev Rx (ok:Cx->Prop)(X:Cx)(pins:bp)(σ:St)(tg:aC)(R:It->Hp->Prop)(itv:aa)(s2:aA):Prop:=
 ∃(it:aj) (fp:bb) (tn:Nat->ak->Prop) (J:It) (H':Hp),itv=.ref it/\Inv X pins σ H' s2/\TurnG ok X.prog X.w X.K tg J fp it tn/\tn 0 s2.heap/\(∀b∈fp,tP X pins H' b)/\R J H'
abbrev Ry (ok:Cx->Prop)(X:Cx)(tg iter:aC)(wi:TI):Prop:=
 ∀(pins:bp) (s:aA) (σ:St) (H:Hp) (R:It->Hp->Prop),Inv X pins σ H s->wi σ H R ->
  wpAny (model X.prog X.w) X.A (eval iter X.env) (λv s1=>wpAny (model X.prog X.w) X.A (pyIter v) (Rx ok X pins σ tg R) X.xe s1) X.xe s
def PI.g{iter:aC}{wi:TI}(h:PI X tg iter wi):Ry (λY=>Y.calm=true) X tg iter wi:=λpins s σ H R I q=>
 jP (h pins s σ H R I q) λv s1 h1=>jP h1 λitv s2 ⟨it,fp,tn,J,H',e,I',T,a,b,c⟩=>⟨it,fp,tn,J,H',e,I',⟨T.obj,T.keep,T.item,T.done,T.self⟩,a,b,c⟩
def Cw{ok:Cx->Prop}{X:Cx}{use:Option<|aa->Sem Unit}{Q':aa->aA->Prop}{iter:aC}{N:ar}{wi:TI}{g:TG}{tc:TT}{te:TE}(S:CpScope X scope N cap)(hok:∀C s₀ H₀ ex,(∀a o u,X.H₀ a=some (.frz o u)->H₀ a=some (.frz o u))->ok (lI X scope N C s₀ H₀ ex))(hi:Ry ok X tg iter wi)
  (hg:∀C s₀ H₀ ex,PG (lI X scope N C s₀ H₀ ex) tg g) (ht:∀C s₀ H₀ ex,Na (lI X scope N C s₀ H₀ ex) ifs tc) (he:∀C s₀ H₀ ex,PE (lI X scope N C s₀ H₀ ex) elt te)
  (hs:∀x,foldedSetIterable iter X.env x=pure x:=by intro _;rfl):∀(pins:bp) (s:aA) (σ:St) (H:Hp) (Q:VK),Inv X pins σ H s->QC cap wi g tc te σ H Q ->
  (∀(s6:aA) (C D:aj) (H5:Hp) (m:Str->bd),s6.heap.Ns C m->tP X pins H5 C->(∀h',Heap.SameBut C s6.heap h'->Inv X pins σ H5 { s6 with heap:=h' })->Q (.ref D) H5->∀v,compPost (model X.prog X.w) X.A X.xe use Q' (.ref D) C (.ok v) s6) ->
  wpAny (model X.prog X.w) X.A (comprehension (.ListComp elt [⟨tg,iter,ifs,0⟩] scope pos) scope X.env (firstIterPos [⟨tg,iter,ifs,0⟩] pos) (newList []) (firstAsync [⟨tg,iter,ifs,0⟩]) (firstIter [⟨tg,iter,ifs,0⟩] X.env) use) Q' X.xe s:=by
 intro pins s σ H Q I h hfin;have hfree:∀y∈scope.names,y.2=.free->∃c,X.env.cells.lookup y.1=some c:=λy hy e=>I.ok.has _<|S.fr y hy e;refine wpAny_comprehension_free (use:=use) rfl hs (Bm hfree) S.kind S.nm<|jP (hi pins s σ H _ I h) λxv s1 h1=>jP h1 λitv s2 h2=>?_;obtain⟨it,fp,tn,J,H2,rfl,I2,T,st2,f2,h2⟩:=h2;refine br (wpAny_newFunctionEnv S.nocell (by intro y hy;simp at hy) (λh₁ hns₁ hsb₁=>?_) S.kind);obtain⟨W,⟨m0,w0⟩,turn⟩:=h2 s2.heap.objs.size I2.fresh;dsimp only at hns₁ hsb₁ ⊢;have I3:Inv X pins σ (upd H2 s2.heap.objs.size<|.lst []) { s2 with heap:=s2.heap.push {}}:=I2.Kz (t':=s2.toks) (its:=[]) .nil<|cE _;have hfp:∀b∈fp,∃o,s2.heap.get? b=some o:=λb hb=>by
  obtain⟨o,e,_⟩:=T.obj 0 _ st2 b hb;exact⟨o,e⟩
 have neD:∀b∈fp,b≠s2.heap.objs.size:=λb hb=>by
  obtain⟨o,e⟩:=hfp b hb;exact aZ<|aV e
 have f3:∀b∈fp,tP X pins (upd H2 s2.heap.objs.size<|.lst []) b:=λb hb=>⟨by rw[i6<|neD b hb];exact(f2 b hb).1,(f2 b hb).2⟩;have hDC:s2.heap.objs.size≠(s2.heap.push {}).objs.size:=by rw[di];exact aZ (c9 _)
 have old:∀b o,(s2.heap.push {}).get? b=some o->h₁.get? b=some o:=λb o e=>hsb₁.extBut b o (aZ<|aV e)<|aJ _ e;have I4:=NS (tk:=s2.toks+([]:List<|Str×aa).length) (fp:=fp) S I3 f3 (λb hb=>by
  obtain⟨o,e⟩:=hfp b hb;exact⟨o,aJ _ e⟩) hns₁ old
 have st4:tn 0 h₁:=T.keep _ _ _ st2 λb hb o e=>old b o<|aJ _ e;have hc:=hok (s2.heap.push {}).objs.size { s2 with heap:=s2.heap.push {}} (upd H2 s2.heap.objs.size<|.lst []) fp λa o u e=>by
  have z:=I2.base.frzs a o u e;rw[i6 λq=>by rw[q,I2.fresh]at z;cases z];exact z
 have stat:∀{H':Hp},(∀b∈fp,H' b=none)->∀b∈fp,tP (lI X scope N (s2.heap.push {}).objs.size { s2 with heap:=s2.heap.push {}} (upd H2 s2.heap.objs.size<|.lst []) fp) [] H' b:=λhn b hb=>by
  have ok:=I4.ok;refine⟨hn b hb,(ok.exf b hb).1,ok.exfs b hb,.inl hb,λx c e=>(ok.exf b hb).2 x c e,λp hp=>nomatch hp⟩
 have loop:∀s4:aA,s4={ s2 with heap:=h₁,toks:=s2.toks+([]:List<|Str×aa).length } ->
   codeAny (model X.prog X.w) X.A (.compLoop (.ListComp elt [⟨tg,iter,ifs,0⟩] scope pos) 0 (.ref it) (.ref s2.heap.objs.size)<|compEnvC scope (vM X.env scope.names []) (s2.heap.push {}).objs.size X.env)
    (compPost (model X.prog X.w) X.A X.xe use Q' (.ref s2.heap.objs.size) (s2.heap.push {}).objs.size) s4:=by
  rintro s4 rfl;refine codeAny_loop rfl (λn s'=>∃i σ' H',Inv (lI X scope N (s2.heap.push {}).objs.size { s2 with heap:=s2.heap.push {}} (upd H2 s2.heap.objs.size<|.lst []) fp) [] σ' H' s'/\tn i s'.heap/\(∀b∈fp,H' b=none)/\W i n σ' H') (λn s5 hI=>?_) m0 ⟨0,_,_,I4,st4,λb hb=>(f3 b hb).1,w0⟩;obtain⟨i,σ5,H5,I5,st5,fr5,w5⟩:=hI
  skip
  refine wpAny_noted ?_;rw[compTurn_list];refine aF (iu<|aF ?_)
  rcases turn i n σ5 H5 w5 with⟨stop,q⟩|⟨go,step⟩
  ·refine jP (T.done (lI X scope N (s2.heap.push {}).objs.size { s2 with heap:=s2.heap.push {}} (upd H2 s2.heap.objs.size<|.lst []) fp) rfl rfl rfl hc i [] s5 σ5 H5 _ I5 (stat fr5) st5 stop) λr s6 h9=>?_;obtain⟨hr,I6⟩:=h9;subst hr;obtain⟨m6,hn6,_⟩:=I6.loc;refine aH<|hfin s6 _ _ H5 m6 hn6 (I3.yM (aN _) I6.free) (λh' sb=>?_) q _;have u6:=I6.base;have nC:∀b o,(s2.heap.push {}).get? b=some o->b≠(s2.heap.push {}).objs.size:=λb o e=>aZ<|aV e;refine I3.Lu (ch:=fp) I6.os ⟨λb o e n hb hx=>?_,λb o e n hb hx=>?_,λb o e n hx=>?_,λb o e hx=>?_,u6.tups,u6.frzs,u6.tbls⟩ ?_ I6.bare ?_
   ·exact sb.extBut b o (nC b o e) (u6.keep b o e n hb hx)
   ·obtain⟨sl,z⟩:=u6.slot b o e n hb hx;exact⟨sl,sb.extBut b _ (nC b o e) z⟩
   ·exact u6.free b o e n hx
   ·obtain⟨o',z⟩:=u6.there b o e hx;exact⟨o',sb.extBut b _ (nC b o e) z⟩
   ·intro b o e;have hb:∀c v,H5 c=some v->c≠(s2.heap.push {}).objs.size:=λc v e z=>by
     rw[z]at e;have:=I6.free;rw[show H5 (s2.heap.push {}).objs.size=none from this]at e
     cases e
    refine(I6.hok b o e).stay (λc v hc q=>sb.extBut c v ?_ q) (λ_ q=>q) λ_ _ q=>q
    rcases hc with z|z
    ·rw[z];exact hb b o e
    ·exact hb c _ z
   ·intro b hb;obtain⟨_,z1,_,z3,z4,z5⟩:=f3 b hb;exact⟨z3,z1,z4,z5⟩
  ·refine jP (T.item (lI X scope N (s2.heap.push {}).objs.size { s2 with heap:=s2.heap.push {}} (upd H2 s2.heap.objs.size<|.lst []) fp) rfl rfl rfl hc i [] s5 σ5 H5 _ I5 (stat fr5) st5 go) λr s6 h9=>?_;obtain⟨u,hr,h6⟩:=h9;subst hr;refine aF<|jP h6 λ_ s7 ⟨x,H7,I7,r7,y7,st7,fr7⟩=>?_;have I7':=I7.pinned (stat fr7)<|T.obj _ _ st7;refine aF<|Lb (hg _ _ _ fp _ s7 σ5 H7 x u _ I7' r7<|step x H7 y7) λ_ s8 ⟨σ8,H8,I8,q8⟩=>?_;refine aF<|Lb (ht _ _ _ fp _ s8 σ8 H8 _ I8 q8) λok s9 ⟨H9,I9,q9⟩=>?_;have again:∀{s10:aA} {H10:Hp},Inv (lI X scope N (s2.heap.push {}).objs.size { s2 with heap:=s2.heap.push {}} (upd H2 s2.heap.objs.size<|.lst []) fp) ([]++vK fp s7.heap) σ8 H10 s10->(∃m',m'<n/\W (i+1) m' σ8 H10) ->
     ∃m,m<n/\∃i σ' H',Inv (lI X scope N (s2.heap.push {}).objs.size { s2 with heap:=s2.heap.push {}} (upd H2 s2.heap.objs.size<|.lst []) fp) [] σ' H' s10/\tn i s10.heap/\(∀b∈fp,H' b=none)/\W i m σ' H':=λ{s10 H10} I10 h9=>by
    obtain⟨m',hm,w10⟩:=h9;refine⟨m',hm,i+1,σ8,H10,I10.qi,T.keep _ _ _ st7 λb hb o e=>(I10.pin (b,o)<|bF _<|bF _<|mT hb e).1,λb hb=>?_,w10⟩;obtain⟨o,e,d⟩:=T.obj _ _ st7 b hb;exact(I10.pin (b,o)<|bF _<|bF _<|mT hb e).2.1
   cases ok with
   | false=>
    rw[aL aX]at q9;exact aH ⟨rfl,again I9 q9⟩
   | true=>
    rw[aM rfl]at q9;refine aF<|aF<|Lb (he _ _ _ fp _ s9 σ8 H9 _ I9 q9) λy s10 ⟨v10,H10,I10,r10,ys,hD,hz,w10⟩=>?_;refine aF<|Lb (xm _ s10 σ8 H10 (.ref s2.heap.objs.size) [v10] _ [y] (λ_ H'=>H'=upd H10 s2.heap.objs.size (.lst<|ys++[v10])) I10 rfl (.cons r10 .nil) ⟨_,ys,v10,rfl,rfl,hD,hz,rfl⟩) λ_ s11 ⟨_,H11,I11,_,e11⟩=>?_;subst e11;exact aH<|aH ⟨rfl,again I11 w10⟩
 exact codeAny_compStart_list (loop _ rfl)<|T.self _ 0 _ _ _ st4<|loop _ rfl
def M4{ok:Cx->Prop}{X:Cx}{iter:aC}{N:ar}{wi:TI}{g:TG}{tc:TT}{te:TE}(S:CpScope X scope N cap)(hok:∀C s₀ H₀ ex,(∀a o u,X.H₀ a=some (.frz o u)->H₀ a=some (.frz o u))->ok (lI X scope N C s₀ H₀ ex))(hi:Ry ok X tg iter wi)
  (hg:∀C s₀ H₀ ex,PG (lI X scope N C s₀ H₀ ex) tg g) (ht:∀C s₀ H₀ ex,Na (lI X scope N C s₀ H₀ ex) ifs tc) (he:∀C s₀ H₀ ex,PE (lI X scope N C s₀ H₀ ex) elt te)
  (hs:∀x,foldedSetIterable iter X.env x=pure x:=by intro _;rfl):PE X (.ListComp elt [⟨tg,iter,ifs,0⟩] scope pos) (QC cap wi g tc te):=by
 w_up;rw[eval_ListComp];exact Cw (use:=none) (Q':=EP X pins σ Q) S hok hi hg ht he hs pins s σ H Q I h λs6 C D H5 m hn fk inv q v=>⟨m,hn,λh' sb=>⟨.ref D,H5,inv h' sb,rfl,q⟩⟩
def Pn{X:Cx}{iter:aC}{N:ar}{wi:TI}{g:TG}{tc:TT}{te:TE}(hc:X.calm=true)(S:CpScope X scope N cap)(hi:PI X tg iter wi)
  (hg:∀C s₀ H₀ ex,PG (lI X scope N C s₀ H₀ ex) tg g) (ht:∀C s₀ H₀ ex,Na (lI X scope N C s₀ H₀ ex) ifs tc) (he:∀C s₀ H₀ ex,PE (lI X scope N C s₀ H₀ ex) elt te)
  (hs:∀x,foldedSetIterable iter X.env x=pure x:=by intro _;rfl):PE X (.ListComp elt [⟨tg,iter,ifs,0⟩] scope pos) (QC cap wi g tc te):=
 M4 S (λ_ _ _ _ _=>hc) hi.g hg ht he hs
section
variable {X:Cx}
def Ay{bs:List Bool}:∀{us:ba},Vals (bs.map V.bl) us->LSm.BoolsAre us bs:=by
 induction bs with
 | nil=>intro us r;cases r;exact .nil
 | cons b bs ih=>
  intro us r
  cases r with
  | cons h t=>
   have e:_=Value.bool b:=h;subst e;exact .cons b<|ih t
def Eo(hc:X.calm=true):jt X (.builtin "all") (λxs H Q=>∃(p:aj) (bs:List Bool),xs=[.ref p]/\lE X.K H p (bs.map V.bl)/\Q (.bl<|bs.all id) H):=by
 kt_k;obtain⟨p,bs,rfl,hq,q⟩:=h;kl_no
 cases rx
 obtain⟨its,rv,pl,hz⟩:=I.list hq;have hb:=Ay rv;have hl:=pl.isList;have hlt:p<s.heap.objs.size:=by obtain⟨_,e,_⟩:=hl;exact aV e
 refine call_all_walk<|fO hl ?_;refine⟨s.heap.objs.size,[s.heap.objs.size,p],[s.heap.objs.size],its.toArray.size,_,_,λi=>(bs[i]?).getD true,rfl,Walks.list (A:=X.A.in1) (I.ok.hd hc) _ p (aZ hlt) its.toArray,
  ⟨⟨_,aU _ rfl,rfl,rfl⟩,hl.push _⟩,λi v s' Q' E' hP hQ=>?_,λh' tk hk=>?_⟩
 ·obtain⟨b,e,rfl⟩:=hb.get i v (by simpa using hP);dsimp[e,c8]at hQ;exact ck hQ
 ·have e:((List.range its.toArray.size).all λi=>(bs[i]?).getD true)=bs.all id:=by
   rw[aP,hb.length];exact LSm.range_all bs
  rw[e];exact⟨.bl _,H,I.kept<|LSm.kept_iter hk,rfl,q⟩
def Mt:lG X (compareOp .Is) (λx y H Q=>∃a b,x=.bl a/\y=.bl b/\Q (.bl<|a == b) H):=by
 kd_p;obtain⟨a,b,rfl,rfl,q⟩:=h
 cases rx;cases ry
 exact is_bool ⟨.bl _,H,I,rfl,q⟩
def E6:lG X (compareOp .IsNot) (λx y H Q=>∃a b,x=.bl a/\y=.bl b/\Q (.bl<|a != b) H):=by
 kd_p;obtain⟨a,b,rfl,rfl,q⟩:=h
 cases rx;cases ry
 exact isnot_bool ⟨.bl _,H,I,rfl,q⟩
def yf:jt X (.type "range") (λxs H Q=>∃i j,xs=[.int i,.int j]/\∀p,H p=none->Q (.ref p) (upd H p<|.rng i j)):=by
 kt_k;obtain⟨i,j,rfl,q⟩:=h;obtain⟨u,w',rfl,⟨t,rfl⟩,⟨t',rfl⟩⟩:=vals2 r;refine call_range_2 ⟨.ref s.heap.objs.size,_,I.laid (o:=.rng i j) (λb o e=>aJ _ e) (aN _) ?_,rfl,q _ I.fresh⟩;exact⟨t,t',s.toks,aU _ rfl⟩
abbrev i9 (i j:Int):ag:=(List.range (j-i).toNat).map λk:Nat=>i+(k:Int)
def jw(i j:Int):(i9 i j).length=(j-i).toNat:=by unfold i9;rw[aK,bW]
def vp{i:Int}{n:Nat}{acc:Array aa}(h:ItemsOf (λk v=>∃t,v=Value.int (i+(k:Int) * 1) t) acc n):Vals (((List.range n).map λk:Nat=>i+(k:Int)).map V.int) acc.toList:=by
 obtain⟨hs,hv⟩:=h;have gen:∀(l:ba) (b:Nat),(∀j v,l[j]?=some v->∃t,v=Value.int (i+((b+j:Nat):Int)) t)->Vals (((List.range' b l.length).map λk:Nat=>i+(k:Int)).map V.int) l:=by
  intro l
  induction l with
  | nil=>intro b _;exact .nil
  | cons v l ih=>
   intro b hb;rw[bq,e9,dO,dO];refine .cons ?_ ?_
   ·obtain⟨t,e⟩:=hb 0 v rfl;exact⟨t,by rw[e];simp⟩
   ·refine ih (b+1) λj w hw=>?_;obtain⟨t,e⟩:=hb (j+1) w hw;exact⟨t,by rw[e,show b+(j+1)=b+1+j by lia]⟩
 have:=gen acc.toList 0 λj v hj=>by
  obtain⟨t,e⟩:=hv j v (by simpa using hj);exact⟨t,by rw[e,eG,Int.mul_one]⟩
 rw[bD,hs,<- gu]at this;exact this
def GC{i j:Int}:Builtin.Range.rangeSize i j 1=(((j-i).toNat:Nat):Int):=by rw[rangeSize_one];split<;>omega
def wV(hc:X.calm=true):jt X (.type "list") (λxs H Q=>∃p i j,xs=[.ref p]/\H p=some (.rng i j)/\(-(2 ^ 62)<=i/\i<2 ^ 62/\-(2 ^ 62)<=j/\j<2 ^ 62)/\(j-i).toNat<=1000/\∀l,H l=none->Q (.ref l) (upd H l<|.lst<|(i9 i j).map V.int)):=by
 kt_k;obtain⟨p,i,j,rfl,hp,⟨b1,b2,b3,b4⟩,hn,q⟩:=h;kl_no
 cases rx
 obtain⟨t,u',v,e⟩:=I.hok p _ hp;refine call_list_range (n:=(j-i).toNat) (I.ok.hd hc) e (small_one b1 b2 b3 b4) GC () λh' tk acc' c' hk hS hacc=>?_;refine⟨.ref s.heap.objs.size,_,I.laid (o:=.lst<|(i9 i j).map V.int) hk (aN _) ⟨?_,acc'.toList,c',vp hacc,by rw[hS]⟩,rfl,q _ I.fresh⟩;rw[aK,jw,dN];lia
end
section
variable {X:Cx}
def zU{prog:ah}{w:af}{A:az}{E:aa->aA->Prop}{s:aA}{Q:ba->aA->Prop}{r:aj}{a b c:Int}{v:Tok}{n:Nat}(hh:A.handled=none)(hr:IsRange s.heap r a b c t u v)(hsmall:Builtin.Range.small a b c=true)
  (hn:Builtin.Range.rangeSize a b c=n) (hlen:n<=2 ^ 24)
  (hQ:∀h' tk (acc':Array aa),(∀b o,s.heap.get? b=some o->h'.get? b=some o)->ItemsOf (λi v=>∃t,v=.int (a+i * c) t) acc' n->Q acc'.toList { s with heap:=h',toks:=tk }) :
  wpAny (model prog w) A (collect<|.ref r) Q E s:=by
 unfold collect;refine aF<|gS<|c5 F.entry_proto_collect ?_;rw[cV F.plain_proto_collect _]
 skip
 refine aF<|br ?_;refine aH ⟨fq F.plain_list_iadd _,c5 F.entry_list_iadd ?_⟩;rw[cV F.plain_list_iadd _]
 skip
 have hS:(s.heap.push {}).get? s.heap.objs.size=some { cls:=.type "list",data:=.seq #[] 0 }:=aU _ rfl;have fin':∀(h':ak) (tk:Nat) (acc':Array aa) (c':Nat),(∀b o,b≠s.heap.objs.size->(s.heap.push {}).get? b=some o->h'.get? b=some o) ->
   h'.get? s.heap.objs.size=some { cls:=.type "list",dict:=none,data:=.seq acc' c',slots:=#[]}->ItemsOf (λi v=>∃t,v=.int (a+i * c) t) acc' n ->
   wpAny (model prog w) A (match Value.ref s.heap.objs.size with
   | Value.ref a=>do
    match (<- load a).data with
     | Data.seq xs _=>pure xs.toList
     | _=>unsupported "internal:collect"
   | _=>unsupported "internal:collect") Q E { s with heap:=h',toks:=tk }:=by
  intro h' tk acc' c' hk hS' hacc
  skip
  refine aF<|wpAny_load hS' ?_;refine aH ?_;exact hQ h' tk acc' (λb o e=>hk b o (aZ<|aV e)<|aJ _ e) hacc
 refine cS (wpAny_extend_range (A:=A) (R:=λrr s'=>rr=.ok (.ret<|.ref s.heap.objs.size)/\∃h' tk acc' c',s'={ s with heap:=h',toks:=tk }/\(∀b o,b≠s.heap.objs.size->(s.heap.push {}).get? b=some o->h'.get? b=some o) /\
   h'.get? s.heap.objs.size=some { cls:=.type "list",dict:=none,data:=.seq acc' c',slots:=#[]}/\ItemsOf (λi v=>∃t,v=.int (a+i * c) t) acc' n)
  (s:={ s with heap:=s.heap.push {}}) hh (aJ _ hr) hsmall hn hlen s.heap.objs.size (.ref s.heap.objs.size) 0 hS
  (λh' tk acc' c' hk hS' hacc=>⟨rfl,h',tk,acc',c',rfl,hk,hS',hacc⟩)) (λfin s' h=>?_) λe s' h=>?_
 ·cases fin with
  | done f=>
   obtain⟨e,h',tk,acc',c',rfl,hk,hS',hacc⟩:=h
   cases e
   exact fin' h' tk acc' c' hk hS' hacc
  | again c'=>exact⟨h.1,eE h.2 λr s'' hr=>by
    obtain⟨rfl,h',tk,acc',c',rfl,hk,hS',hacc⟩:=hr;exact fin' h' tk acc' c' hk hS' hacc⟩
 ·exact absurd h.1<|by simp
def qD(l:aj){a b:Int}{v:Tok}{n:Nat}(hsmall:Builtin.Range.small a b 1=true)
  (hn:Builtin.Range.rangeSize a b 1=n) (hlen:n<=1000) :
  Meets (Builtin.«tuple.__new__» ⟨[.type "tuple",.ref l],[]⟩)
   (λA R s=>A.handled=none/\IsRange s.heap l a b 1 t u v/\∀(h':ak) (tk:Nat) (acc':Array aa),(∀b o',s.heap.get? b=some o'->h'.get? b=some o')->ItemsOf (λi v=>∃t,v=.int (a+i * 1) t) acc' n->R (.ok<|.ret<|.ref h'.objs.size) { s with heap:=h'.push { cls:=.type "tuple",data:=.seq acc' },toks:=tk }):=
 .of_wp λprog w A R s h=>by
  obtain⟨hp,g,d,tk,os⟩:=s;obtain⟨hh,ht,h⟩:=h;have hsub:=sub_tuple_self;have hinit:=init_tuple_lookup;have hmh:=madeHere_tuple;have hT:Shared.TypeIs ⟨hp,g,d,tk,os⟩ (.ref l) "range" := ⟨_,ht,rfl⟩;have hh':A.in1.handled=none:=hh
  wp_walk using dc ht,gK hT,zU (A:=A.in1) hh' ht hsmall hn (by omega)
  intro h' tk' acc' hk hacc;show wpAny _ _ (Builtin.Tuple.tupleExact acc'.toList.toArray >>= λv=>ret v) _ _ _;unfold Builtin.Tuple.tupleExact;have e:acc'.toList.toArray=acc':=by simp
  refine aF (br ?_<|by show acc'.toList.toArray.size<=sizeLine;rw[e,hacc.1,dN];omega);refine aH ⟨_,rfl,?_⟩;rw[e];exact h h' tk' acc' hk hacc
def vU(hc:X.calm=true):jt X (.type "tuple") (λxs H Q=>∃p i j,xs=[.ref p]/\H p=some (.rng i j)/\(-(2 ^ 62)<=i/\i<2 ^ 62/\-(2 ^ 62)<=j/\j<2 ^ 62)/\(j-i).toNat<=1000/\∀l,H l=none->Q (.ref l) (upd H l<|.tup<|(i9 i j).map V.int)):=by
 kt_k;obtain⟨p,i,j,rfl,hp,⟨b1,b2,b3,b4⟩,hn,q⟩:=h;kl_no
 cases rx
 obtain⟨t,u',v,e⟩:=I.hok p _ hp;refine callType_new F.called_tuple ⋯ (F.typeCall_tuple_1 _) (F.newCall_tuple_1 _) (λobj=>F.args_object_init_2 obj _) F.entry_tuple_new
  (qD (n:=(j-i).toNat) p (small_one b1 b2 b3 b4) GC hn) ⟨I.ok.hd hc,e,λh' tk acc' hk hacc=>⟨⟨_,aU _ rfl,rfl⟩,?_⟩⟩
 have I1:Inv X pins σ H { s with heap:=h',toks:=tk }:=I.kept hk;refine⟨.ref h'.objs.size,_,I1.laid (t':=tk) (o:=.tup<|(i9 i j).map V.int) (λb o e=>aJ _ e) (aN _) ⟨?_,acc'.toList,vp hacc,?_⟩,rfl,q _<|I1.hok.fresh<|aN _⟩
 ·rw[aK,jw,dN];lia
 ·have e:acc'.toList.toArray=acc':=by simp
  rw[e];exact lV.new _ _
abbrev Sk (K:au)(te:TE):TE:=λσ H Q=>te σ H λx H1=>∃a xs,x=.ref a/\lE K H1 a xs/\∀p,H1 p=none->Q (.ref p) (upd H1 p<|.lst xs.reverse)
def J8{te:TE}{up cp:Pos}(he:PE X e te):PE X (.Subscript e (.Slice none none (some<|.UnaryOp .USub (.Constant (.int 1) kk cp) up) p2) pos) (Sk X.K te):=by
 w_up;refine Subscript_<|jP (he pins s σ H _ I h) λv s1 ⟨x,H1,I1,r1,a,xs,ex,hq,q⟩=>?_;subst ex
 cases r1
 refine wpAny_Slice ?_;rw[iw];refine aH ?_;refine aH ?_;rw[evalPart_some];refine jP ((Hu (a:=.Constant (.int 1) kk cp) BK Bv) pins s1 σ H1 (λv H'=>v=.int (-1)/\H'=H1) I1 ⟨1,rfl,rfl,rfl⟩) λvs s3 h9=>?_;obtain⟨y,H3,I3,r3,ey,eH⟩:=h9;subst ey eH;obtain⟨t,rfl⟩:=r3;have I4:Inv X pins σ H3 { s3 with heap:=s3.heap.push { cls:=.type "slice",data:=.fields #[.none,.none,.int (-1) t]}}:=I3.kept (t':=s3.toks) λb ob q=>aJ _ q;obtain⟨its,rv,pl,hz⟩:=I4.list hq
 skip
 refine tail_any (ops:=[.ref a,.ref s3.heap.objs.size]) pl.isList.typeIs g9.lookup ?_ (by with_unfolding_all rfl);have hlen:=rv.length;refine wpAny_getItem_list_slice pl.isList (gQ ..) .none .none (.int (-1) t) ⋯ ?_ (by rw[aP]<;>lia);rw[PySem.W.krv_pick];refine⟨.ref _,_,I4.Kz (t':=s3.toks) (ys:=xs.reverse) (its:=its.reverse) rv.reverse<|by rw[gI];exact hz,rfl,q _ I4.fresh⟩
def zf:jt X (.builtin "isinstance") (λxs H Q=>∃x t b,xs=[x,.ty c]/\TyOf X.K H x t/\PySem.W.kitOne X.K t (.type c)=some b/\Q (.bl b) H):=by
 kt_k;obtain⟨x,t,b,rfl,ty,e,q⟩:=h;obtain⟨u,w',rfl,rx,rc⟩:=vals2 r
 cases rc
 exact Er I rx ty e λtk=>⟨.bl b,H,I.tok tk,rfl,q⟩
abbrev MJ (K:au):R2:=λx y H Q=>∃a b ys,x=.ref a/\y=.ref b/\kQ K H a []/\kQ K H b ys/\Q (.ref b) H
def Jk:lG X (binaryOp .Add) (MJ X.K):=by
 kd_p;obtain⟨a,b,ys,rfl,rfl,h1,h2,q⟩:=h
 cases rx
 cases ry
 obtain⟨us,r1,p1,_⟩:=I.tuple h1;obtain⟨ws,r2,p2,_⟩:=I.tuple h2
 cases r1
 obtain⟨⟨cls,dd,data,sl⟩,ho,hc,n,hd⟩:=id p1;obtain⟨⟨cls2,dd2,data2,sl2⟩,ho2,hc2,n2,hd2⟩:=id p2;simp only at hc hd hc2 hd2;subst hc hd hc2 hd2;exact concat_meets ⟨_,ho,rfl⟩ ⟨_,ho2,rfl⟩ noFill_tuple_add seq_tuple_add fP fK (fm _ _)
   (tuple_addW0 a b _ ws.toArray n n2 dd dd2 sl sl2<|by simp) ⟨ho,ho2,⟨.ref b,H,I,rfl,q⟩⟩
end
def jG:bootBuiltins "len" = some (.builtin "len"):=by decide +kernel
def OB:bootBuiltins "abs" = some (.builtin "abs"):=by decide +kernel
def M6:bootBuiltins "all" = some (.builtin "all"):=by decide +kernel
def Ot:bootBuiltins "any" = some (.builtin "any"):=by decide +kernel
def HQ:bootBuiltins "max" = some (.builtin "max"):=by decide +kernel
def F9:bootBuiltins "min" = some (.builtin "min"):=by decide +kernel
def ER:bootBuiltins "sorted" = some (.builtin "sorted"):=by decide +kernel
def jY:bootBuiltins "isinstance" = some (.builtin "isinstance"):=by decide +kernel
def vW:bootBuiltins "int" = some (.type "int"):=by decide +kernel
def DY:bootBuiltins "bool" = some (.type "bool"):=by decide +kernel
def oQ:bootBuiltins "list" = some (.type "list"):=by decide +kernel
def mR:bootBuiltins "tuple" = some (.type "tuple"):=by decide +kernel
def rR:bootBuiltins "range" = some (.type "range"):=by decide +kernel
structure Blt (mg:Str->bd):Prop where
 len:mg "len" = none
 abs:mg "abs" = none
 all:mg "all" = none
 any:mg "any" = none
 max:mg "max" = none
 min:mg "min" = none
 sorted:mg "sorted" = none
 isinstance:mg "isinstance" = none
 int:mg "int" = none
 bool:mg "bool" = none
 str:mg "str" = none
 list:mg "list" = none
 tuple:mg "tuple" = none
 range:mg "range" = none
def D6:∀{a b:ag},a.Perm b->a.Pairwise (·<=·)->b.Pairwise (·<=·)->a=b:=λp ha hb=>
 List.Perm.eq_of_pairwise (λx y _ _ h1 h2=>iI h1 h2) ha hb p
def yp(i j:Int):(i9 i j).Pairwise (·<=·):=by
 unfold i9;rw[fR];exact fS.imp λh=>()
def oF(i j:Int):(i9 i j).Nodup:=by
 unfold i9;rw[List.Nodup,fR];exact fS.imp λh=>()
def jF{i j k:Int}:k∈i9 i j ↔ i<=k/\k<j:=by
 unfold i9;rw[eF];constructor
 ·rintro⟨a,ha,rfl⟩;have:=cX.mp ha
  lia
 ·rintro⟨h1,h2⟩;exact⟨(k-i).toNat,cX.mpr (),()⟩
theorem uf:∀{l m:ag},l.Nodup->(∀x∈l,x∈m)->m.length<=l.length->l.Perm m
 | [],m,_,_,h=>by
  have:m=[]:=cI.mp<|Nat.le_zero.mp h;rw[this]
 | a::l,m,nd,hs,hl=>by
  have ha:a∈m:=hs a aR;have nd':=dB.mp nd;have pm:m.Perm (a::m.erase a):=List.perm_cons_erase ha;have ih:=uf (l:=l) (m:=m.erase a) nd'.2 (λx hx=>by
   have hxa:x≠a:=λe=>nd'.1<|e ▸ hx;exact(List.mem_erase_of_ne hxa).mpr (hs x<|aT _ hx)) (by
   rw[List.length_erase_of_mem ha];dsimp[bq]at hl
   lia)
  exact(List.Perm.cons a ih).trans pm.symm
abbrev Kn (P:ah)(w:af)(K:au)(mg:Str->bd)(base:ak)(k:Nat)(x:Str)(ps:ar)(sp:Sp):Prop:=
 ∃(f:aj) (fd:FuncData),FnOk P w K mg base qF k f fd ps sp/\mg x=some (.ref f)/\PySem.W.keepIn K (.ref f)=true/\Binds K fd ps []
def Qk{X:Cx}{k:Nat}{x:Str}{sp:Sp}{t:TA}{p:Pos}(G:Kn X.prog X.w X.K X.mg X.base k x ps sp)(hr:Room k X.A)(ha:PA X (e::es) t)(hg:Gl X x:=by rfl)
  (hdb:(x == ("__debug__" : Str))=false:=by decide) (hs:starEach (e::es) X.env=(false,eval e X.env)::starEach es X.env:=by rfl) (hplain:(backTo pos<|starEach es X.env).any (·.1)=false:=by rfl) :
  PE X (.Call (.Name x p) (e::es) [] pos) (Mb sp [] E0 t):=by
 obtain⟨f,fd,F,hm,hk,hb⟩:=G;exact DQ F hr hg hm hk hb .nil Qh ha hdb hs hplain
abbrev vJ (XN fs:ar):ar->List (bo)->Prop
 | [],[]=>True
 | _::N,none::c=>vJ XN fs N c
 | x::N,some j::c=>XN[j]?=some x/\x∈fs/\vJ XN fs N c
 | _,_=>False
theorem vJ.len{fs:ar}:∀{N:ar}{c:List<|bo},vJ XN fs N c->c.length=N.length
 | [],[],_=>rfl
 | _::N,none::c,h=>fM (·+1) (vJ.len (N:=N) (c:=c) h)
 | _::N,some j::c,h=>fM (·+1) (vJ.len (N:=N) (c:=c) h.2.2)
 | [],_::_,h=>h.elim
 | _::_,[],h=>h.elim
theorem vJ.cp{fs:ar}:∀{N:ar}{c:List<|bo},vJ XN fs N c->∀(i j:Nat) (x:Str),N[i]?=some x->c[i]?=some (some j)->XN[j]?=some x/\x∈fs
 | [],[],_,i,j,x,h1,_=>by simp at h1
 | y::N,none::c,h,i,j,x,h1,h2=>by
  cases i with
  | zero=>simp at h2
  | succ i=>exact vJ.cp (N:=N) (c:=c) h i j x (by simpa using h1)<|by simpa using h2
 | y::N,some k::c,h,i,j,x,h1,h2=>by
  cases i with
  | zero=>
   simp at h1 h2;subst h1 h2;exact⟨h.1,h.2.1⟩
  | succ i=>exact vJ.cp (N:=N) (c:=c) h.2.2 i j x (by simpa using h1)<|by simpa using h2
 | [],_::_,h,_,_,_,_,_=>h.elim
 | _::_,[],h,_,_,_,_,_=>h.elim
def AK{X:Cx}{scope:Scope}{N:ar}(fs:ar)(kind:scope.kind=.function)(nocell:∀y∈scope.names,y.2≠.cell)(nm:∀y∈scope.names,y.2=.local->scope.names.lookup y.1=some .local)
  (nolf:∀y∈scope.names,y.2=.free->scope.names.lookup y.1≠some .local) (hf:∀y∈scope.names,y.2=.free->y.1∈fs) (hfs:∀x∈fs,(x,NameKind.free)∈scope.names) (hk:∀x∈fs,X.env.kindOf x=some .cell\/X.env.kindOf x=some .free) (cp:vJ X.N fs N cap):CpScope X scope N cap where
 kind:=kind
 nocell:=nocell
 nm:=nm
 fr:=λy hy e=>hk _ (hf y hy e)
 rl:=λy h=>by
  have go:∀k,(k=NameKind.cell\/k=NameKind.free)->(relabel scope X.env).names.lookup y=some k->(y,NameKind.free)∈scope.names:=λk hk e=>by
   obtain⟨⟨n',k'⟩,hm1,hm2⟩:=eF.mp<|vA e;dsimp only at hm2;split at hm2
   ·rename_i hc
    cases hm2
    have:k'=.free:=by
     dsimp[bV]at hc;simpa using hc.1.1
    subst this;exact hm1
   ·cases hm2
    rcases hk with rfl|rfl
    ·exact absurd rfl (nocell _ hm1)
    ·exact hm1
  rcases h with h|h
  ·exact go _ (.inl rfl) h
  ·exact go _ (.inr rfl) h
 len:=cp.len
 nolf:=λx hx=>nolf (x,.free) hx rfl
 cp:=λi j x h1 h2=>by
  obtain⟨a,b⟩:=cp.cp i j x h1 h2;exact⟨a,hfs x b⟩
inductive Kd where
 | non|bl|int|str|lst|tup
 deriving DecidableEq
abbrev Kd.ty:Kd->aa
 | .non=>.type "NoneType" | .bl=>.type "bool" | .int=>.type "int" | .str=>.type "str" | .lst=>.type "list" | .tup=>.type "tuple"
abbrev M_ (H:Hp)(x:V):Kd->Prop
 | .non=>x=.non
 | .bl=>∃b,x=.bl b
 | .int=>∃i,x=.int i
 | .str=>∃s,x=.str s
 | .lst=>∃a xs,x=.ref a/\H a=some (.lst xs)
 | .tup=>∃a xs,x=.ref a/\H a=some (.tup xs)
def M_.Ru{K:au}{H:Hp}{x:V}{k:Kd}(h:M_ H x k):TyOf K H x k.ty:=by
 cases k with
 | non=>cases h;exact .non
 | bl=>obtain⟨b,rfl⟩:=h;exact .bl b
 | int=>obtain⟨b,rfl⟩:=h;exact .int b
 | str=>obtain⟨b,rfl⟩:=h;exact .str b
 | lst=>obtain⟨a,xs,rfl,e⟩:=h;exact .lst e
 | tup=>obtain⟨a,xs,rfl,e⟩:=h;exact .tup e
def Kr{K:au}(k:Kd):PySem.W.kitOne K k.ty (.type "int")=some (decide<|k=.int\/k=.bl):=by cases k<;>rfl
def FD{K:au}(k:Kd):PySem.W.kitOne K k.ty (.type "bool")=some (decide<|k=.bl):=by cases k<;>rfl
def kit_tuple{K:au}(k:Kd):PySem.W.kitOne K k.ty (.type "tuple")=some (decide<|k=.tup):=by cases k<;>rfl
def Ff{K:au}(k:Kd):PySem.W.kitOne K k.ty (.type "list")=some (decide<|k=.lst):=by cases k<;>rfl
section
variable {prog:ah}{w:af}{A:az}{E:aa->aA->Prop}{s:aA}
theorem r_{i:Nat}{x:aa}{Q:aa->aA->Prop}(hit:s.heap.IsTupleIter it t i)
  (ht:s.heap.IsTuple t items) (hx:items[i]?=some x) (hQ:∀h',h'.IsTupleIter it t (i+1)->Heap.SameBut it s.heap h'->Q x { s with heap:=h' }) :
  wpAny (model prog w) A (Builtin.SmallTypes.nextOf<|.ref it) Q E s:=by
 obtain⟨o,ho,hc,hd⟩:=id hit;obtain⟨ol,hol,_,nl,hdl⟩:=ht;unfold Builtin.SmallTypes.nextOf;refine aF (bY (name:=Str.ofString "__next__") hit.typeIs dP
  (cj dP hit.typeIs F.entry_tuple_iterator_next ?_<|F.args_tuple_iterator_next_1 _))
 show wpAny _ _ (field (.ref it) 0 >>= _) _ _ s;refine aF (cU ho hd (x:=.ref t) rfl ?_)
 skip
 rw[aL<|show ¬((Value.ref t == Value.none)=true)from aX]
 skip
 refine aF (cU ho hd (x:=.int i 0) rfl ?_)
 skip
 refine aF<|fU hol hdl ?_;dsimp[bE,hx];refine aF (cY ho hd (by simp)<|aH ⟨x,rfl,aH<|hQ _ ?_<|bZ ..⟩);exact⟨_,bO _ ho<|cF<|bP hd _,(eS ..).trans hc,by
  rw[bP hd];simp[rawInt]⟩
def sP{i:Nat}{Q:aa->aA->Prop}(hh:A.handled=none)
  (hit:s.heap.IsTupleIter it t i) (ht:s.heap.IsTuple t items) (hx:items[i]?=none)
  (hE:∀h' e,Heap.ExtBut it s.heap h'->(∃o,h'.get? e=some o/\o.cls=.type "StopIteration")->E (.ref e) { s with heap:=h' }) :
  wpAny (model prog w) A (Builtin.SmallTypes.nextOf<|.ref it) Q E s:=by
 obtain⟨o,ho,hc,hd⟩:=id hit;obtain⟨ol,hol,_,nl,hdl⟩:=ht;unfold Builtin.SmallTypes.nextOf;refine aF (bY (name:=Str.ofString "__next__") hit.typeIs dP
  (cj dP hit.typeIs F.entry_tuple_iterator_next ?_<|F.args_tuple_iterator_next_1 _))
 show wpAny _ _ (field (.ref it) 0 >>= _) _ _ s;refine aF (cU ho hd (x:=.ref t) rfl ?_)
 skip
 rw[aL<|show ¬((Value.ref t == Value.none)=true)from aX]
 skip
 refine aF (cU ho hd (x:=.int i 0) rfl ?_)
 skip
 refine aF<|fU hol hdl ?_;dsimp[bE,hx];refine aF (c7<|aF<|cY ho hd (by simp) ?_)
 skip
 refine aF ?_;dsimp[newExc,newTuple];refine aF (br ?_<|by size_fits);refine aF (m:=firstArgMember _ _) (gz (a:=Value.none) (by first|rfl|(dsimp[firstArgMember];rfl)) ?_);refine br ?_ (by size_fits);dsimp[raiseNew];refine aF (iz ?_)
 first|rw[show A.in1.handled=none from hh]|rw[hh]
 refine aF<|aH<|wpAny_throw ?_;exact hE _ _ (((bZ ..).extBut.push _).push _) ⟨_,aU _ rfl,rfl⟩
end
def FL{prog:ah}{w:af}{A:az}(hh:A.handled=none)(it l:aj)(hne:l≠it)(items:Array aa) :
  Draws prog w A it [it,l] items.size (λi v=>items[i]?=some v) (λi h=>h.IsTupleIter it l i/\h.IsTuple l items) where
 live:=λ_ _ st=>let⟨o,ho,_⟩:=st.1;⟨o,ho⟩
 frame:=λ_ _ _ st hk=>⟨st.1.at λo e=>hk it (by simp) o e,let⟨o,ho,r⟩:=st.2;⟨o,hk l (by simp) o ho,r⟩⟩
 item:=λi s Q E hi st hQ=>by
  refine r_ st.1 st.2 (x:=items[i]) (by simp[hi]) λh' hit' hs'=>?_;exact hQ _ h' s.toks (by simp[hi]) ⟨hit',let⟨o,ho,r⟩:=st.2;⟨o,hs'.extBut l o hne ho,r⟩⟩ hs'
 done:=λs Q E st hE=>sP hh st.1 st.2 (by simp) hE
def zC(l:aj)(items:Array aa) :
  Meets (Builtin.«enumerate.__new__» ⟨[.type "enumerate",.ref l],[]⟩) (λ_ R s=>s.heap.IsTuple l items /\
   R (.ok<|.ret<|.ref (s.heap.push { cls:=.type "tuple_iterator",data:=.fields #[.ref l,.int 0 0]}).objs.size)
    { s with heap:=(s.heap.push { cls:=.type "tuple_iterator",data:=.fields #[.ref l,.int 0 0]}).push { cls:=.type "enumerate",data:=.fields #[.none,.bool false,.ref s.heap.objs.size,rawInt 0,.none,.none]}}):=
 .of_wp λprog w A R s h=>by
  obtain⟨hp,g,d,tk,os⟩:=s;obtain⟨hl,h⟩:=h;have hsub:=sub_enumerate;obtain⟨ol,hol,hcl,nl,hdl⟩:=id hl
  wp_walk using dc hol
  refine wpAny_stack_any λst=>aH ?_;split
  ·rename_i c _ _ _ _ _
   cases(c == Value.type "enumerate")
   ·wp_walk using dc hol,fD hl
    exact⟨_,rfl,h⟩
   ·wp_walk using dc hol,fD hl
    exact⟨_,rfl,h⟩
  ·wp_walk using dc hol,fD hl
   exact⟨_,rfl,h⟩
abbrev Rp (K:au)(a:aj):It:=
 ⟨λi H=>∃xs x,kQ K H a xs/\xs[i]?=some x,λi H x H'=>∃T,H T=none/\x=.ref T/\∀xs y,kQ K H a xs->xs[i]?=some y->H'=upd H T (.tup [.int i,y]),λi H=>∃xs,kQ K H a xs/\xs.length=i⟩
def AU{P:ah}{w:af}{K:au}(a e it:aj)(hei:e≠it):Turn P w K (.Tuple elts x1 tpos) (Rp K a) [e,it] e (λi h=>(∃old,IsEnum h e it i old)/\h.IsTupleIter it a i) where
 mem:=by simp
 obj:=λi h st b hb=>by
  ksr_p;have hb':b=e\/b=it:=by simpa using hb
  rcases hb' with rfl|rfl
  ·exact⟨_,st1,λv z=>by cases z⟩
  ·obtain⟨o,e,c,d⟩:=st2;exact⟨o,e,λv z=>by rw[d]at z;cases z⟩
 keep:=λi h h' st k=>by
  ksr_p;exact⟨⟨old,k e (by simp) _ st1⟩,st2.at λo ho=>k it (by simp) o ho⟩
 item:=by
  x_go;subst hP hw hK;ksr_p;obtain⟨xs,x,hq,hx⟩:=hg;obtain⟨its,rv,p,hz⟩:=I.tuple hq;obtain⟨u,hu,ru⟩:=rv.get hx;have hia:a≠it:=by
   obtain⟨o,ho,hc1,_⟩:=p;obtain⟨o2,ho2,hc2,_⟩:=st2;intro z;rw[z,ho2]at ho
   cases ho
   rw[hc1]at hc2;exact absurd (eV hc2) ⋯
  have hea:e≠a:=by
   obtain⟨o,ho,hc1,_⟩:=p;intro z;rw[<- z,st1]at ho
   cases ho
   exact absurd (eV hc1) ⋯
  have hlt:i<its.toArray.size:=by
   rw[aP];exact(aI.mp hu).1
  refine wpAny_pyNext_enum_itemD (FL (A:=X.A.in1) (I.ok.hd hc) it a hia its.toArray) st1 ⟨st2,p⟩ hlt hei (by simp[hei,hea]) λx' h' tk hP hout hst hT hsz hk=>?_;have ex:x'=u:=by
   have:its.toArray[i]?=some u:=by simpa using hu
   rw[this]at hP;exact(aS hP).symm
  subst ex;refine⟨_,rfl,wpAny_letOwnedTupleGo_enum hout λh2 he2 hs2=>?_⟩;have fT:H s.heap.objs.size=none:=I.hok.fresh<|aN _;have hel:e<s.heap.objs.size:=aV st1;have hil:it<s.heap.objs.size:=by obtain⟨o,ho,_⟩:=st2;exact aV ho
  have k2:∀b o,b≠e->b≠it->s.heap.get? b=some o->h2.get? b=some o:=λb o h1 h3 q=>hs2.extBut b o h1<|hk b o h1 h3 q;have hT2:h2.get? s.heap.objs.size=some { cls:=.type "tuple",data:=.seq #[.int i tk,x']}:=hs2.extBut _ _ (fN hel) hT;obtain⟨e0,e1,e2,e3,e4,e5⟩:=hf e (by simp);obtain⟨i0,i1,i2,i3,i4,i5⟩:=hf it (by simp);have nT:∀b o,s.heap.get? b=some o->b≠s.heap.objs.size:=λb o q=>aZ<|aV q;have ne_tr:∀c v,H c=some v->c≠e/\c≠it:=λc v q=>⟨(λz=>by rw[z,e0]at q;cases q),(λz=>by rw[z,i0]at q;cases q)⟩;have I2:Inv X pins σ (upd H s.heap.objs.size<|.tup [.int i,x]) { s with heap:=h2,toks:=tk+1 }:=by
   refine I.step (g':=s.gens) (d':=s.drawn) (ch:=[e,it]) (λb hb=>?_) (λb o _ _ hch q _=>?_) (λb o _ _ hch q _=>?_) (λb o hch q n=>?_) (λb o hch q=>?_) (λb ys q=>?_) (λb o u' q=>?_) (λb ps q=>?_) (λm hm=>?_) (λb u' q=>?_) I.bare
   ·have hb':b=e\/b=it:=by simpa using hb
    rcases hb' with rfl|rfl
    ·exact⟨e3,e1,e4,e5⟩
    ·exact⟨i3,i1,i4,i5⟩
   ·exact k2 b o (λz=>hch<|by simp[z]) (λz=>hch<|by simp[z]) q
   ·exact⟨o.slots,k2 b o (λz=>hch<|by simp[z]) (λz=>hch<|by simp[z]) q⟩
   ·rw[i6<|nT b o q];exact n
   ·exact⟨o,k2 b o (λz=>hch<|by simp[z]) (λz=>hch<|by simp[z]) q⟩
   ·rw[i6<|jd q fT];exact q
   ·rw[i6<|jd q fT];exact q
   ·exact⟨#[],by rw[i6<|jd q fT,q];simp⟩
   ·obtain⟨o,es,ep,ho,r⟩:=hm;exact⟨o,es,ep,k2 _ o (cG e1) (cG i1) ho,r⟩
   ·by_cases z:b=s.heap.objs.size
    ·subst z;rw[jx]at q
     cases q
     exact⟨by show 2<=sizeLine;decide,[.int i tk,x'],.cons ⟨tk,rfl⟩<|.cons ru .nil,⟨_,hT2,rfl,rfl,0,rfl⟩⟩
    ·rw[i6 z]at q;refine(I.hok b u' q).stay (λc v hc q'=>k2 c v ?_ ?_ q') (λc q'=>?_) λc ys q'=>?_
     ·rcases hc with z|z
      ·rw[z];exact(ne_tr b u' q).1
      ·exact(ne_tr c _ z).1
     ·rcases hc with z|z
      ·rw[z];exact(ne_tr b u' q).2
      ·exact(ne_tr c _ z).2
     ·rw[i6<|jd q' fT];exact q'
     ·rw[i6<|jd q' fT];exact q'
  refine⟨.ref s.heap.objs.size,_,I2,rfl,⟨s.heap.objs.size,fT,rfl,λys y hy hyi=>?_⟩,⟨⟨x',by simpa using he2⟩,?_⟩,λb hb=>?_⟩
  ·rw[I.tD hy hq]at hyi;rw[hx]at hyi
   cases hyi
   rfl
  ·exact hst.1.at λo ho=>hs2.extBut it o (cG hei) ho
  ·have hb':b=e\/b=it:=by simpa using hb
   rcases hb' with rfl|rfl
   ·rw[i6<|aZ hel];exact e0
   ·rw[i6<|aZ hil];exact i0
 done:=by
  x_go;subst hP hw hK;ksr_p;obtain⟨xs,hq,hx⟩:=hg;obtain⟨its,rv,p,hz⟩:=I.tuple hq;obtain⟨i0,i1,i2,i3,i4,i5⟩:=hf it (by simp);have hia:a≠it:=by
   obtain⟨o,ho,hc1,_⟩:=p;obtain⟨o2,ho2,hc2,_⟩:=st2;intro z;rw[z,ho2]at ho
   cases ho
   rw[hc1]at hc2;exact absurd (eV hc2) ⋯
  have hl:=rv.length;have ei:its.toArray.size=i:=by rw[aP,<- hl,hx]
  exact wpAny_pyNext_enum_endD (FL (A:=X.A.in1) (I.ok.hd hc) it a hia its.toArray) st1 ⟨by rw[ei];exact st2,p⟩ λh' eb=>⟨rfl,I.turned (t':=s.toks) (λb o hb q=>eb b o hb q) i0 i1 i3 i4 i5⟩
 self:=λ_ _ _ _ _ st h=>let⟨⟨_,st1⟩,_⟩:=st;fV st1 h
def sd:bootBuiltins "enumerate" = some (.type "enumerate"):=by decide +kernel
section
variable {X:Cx}
abbrev P7 (K:au)(ta:TA):TI:=λσ H R=>ta σ H λvs H1=>∃a xs,vs=[.ref a]/\kQ K H1 a xs/\R (Rp K a) H1
def Jy{a:aC}{ta:TA}{p:Pos}(hg:Gl X "enumerate")(hm:X.mg "enumerate" = none)(ha:PA X [a] ta)(hs:starEach [a] X.env=[(false,eval a X.env)]:=by rfl):PI X (.Tuple elts x1 tpos) (.Call (.Name "enumerate" p) [a] [] pos) (P7 X.K ta):=by
 intro pins s σ H R I h;refine Call_<|qL I hg hm sd<|cW (jP (ha pos pins s σ H _ I h) λus s1 ⟨vs,H1,I1,r1,q1⟩=>?_) hs rfl;obtain⟨t,xs,e,hq,q⟩:=q1;subst e;obtain⟨u,rfl,rx⟩:=vals1 r1
 cases rx
 obtain⟨its,rv,pt,hz⟩:=I1.tuple hq;refine callType_new F.called_enumerate ⋯ (F.typeCall_enumerate_1 _) (F.newCall_enumerate_1 _) (λobj=>F.args_object_init_2 obj _) F.entry_enumerate_new (zC t its.toArray) ⟨pt,⟨_,aU _ rfl,rfl⟩,?_⟩;have I2:Inv X pins σ H1 { s1 with heap:=s1.heap.push { cls:=.type "tuple_iterator",data:=.fields #[.ref t,.int 0 0]}}:=I1.kept (t':=s1.toks) λb o e=>aJ _ e;have I3:Inv X pins σ H1 { s1 with heap:=(s1.heap.push { cls:=.type "tuple_iterator",data:=.fields #[.ref t,.int 0 0]}).push { cls:=.type "enumerate",data:=.fields #[.none,.bool false,.ref s1.heap.objs.size,rawInt 0,.none,.none]}}:=I2.kept (t':=s1.toks) λb o e=>aJ _ e;have he:IsEnum ((s1.heap.push { cls:=.type "tuple_iterator",data:=.fields #[.ref t,.int 0 0]}).push { cls:=.type "enumerate",data:=.fields #[.none,.bool false,.ref s1.heap.objs.size,rawInt 0,.none,.none]}) (s1.heap.push { cls:=.type "tuple_iterator",data:=.fields #[.ref t,.int 0 0]}).objs.size s1.heap.objs.size 0 .none:=aU _ rfl;have hit:((s1.heap.push { cls:=.type "tuple_iterator",data:=.fields #[.ref t,.int 0 0]}).push { cls:=.type "enumerate",data:=.fields #[.none,.bool false,.ref s1.heap.objs.size,rawInt 0,.none,.none]}).IsTupleIter s1.heap.objs.size t 0:=⟨_,aJ _<|aU _ rfl,rfl,rfl⟩;have hne:(s1.heap.push { cls:=.type "tuple_iterator",data:=.fields #[.ref t,.int 0 0]}).objs.size≠s1.heap.objs.size:=by rw[di];exact fN (c9 _)
 refine fV he ⟨_,[_,s1.heap.objs.size],_,_,H1,rfl,I3,AU t _ s1.heap.objs.size hne,⟨⟨.none,he⟩,hit⟩,λb hb=>?_,q⟩;have hb':b=(s1.heap.push { cls:=.type "tuple_iterator",data:=.fields #[.ref t,.int 0 0]}).objs.size\/b=s1.heap.objs.size:=by simpa using hb
 rcases hb' with rfl|rfl
 ·exact I1.yM (by rw[di];exact g_ _) (I2.hok.fresh<|aN _)
 ·kln_w
end
section
variable {prog:ah}{w:af}{A:az}{E:aa->aA->Prop}{s:aA}
def A8(n:Nat):Builtin.Slice.sliceAdjust none none (-1) (n:Int)=((n:Int)-1,-1):=by
 unfold Builtin.Slice.sliceAdjust;rfl
def A3(n:Nat):Builtin.Slice.slicePlaces ((n:Int)-1) (-1) (-1)=n:=by
 unfold Builtin.Slice.slicePlaces;have h1:¬((-1:Int)>0):=by decide
 dsimp[h1,cK];by_cases h:n=0
 ·subst h;simp
 ·rw[aM ()];rw[show(- -1:Int)=1 by decide,Int.ediv_one]
  lia
def sL{n:Nat}{Q:Int×Int×Nat->aA->Prop}(hs:s.heap.IsSliceOf sl .none .none<|.int (-1) t)
  (h:Q ((n:Int)-1,-1,n) s):wpAny (model prog w) A (Builtin.Slice.sliceApplied (.ref sl)<|pure (n:Int)) Q E s:=by
 obtain⟨os,hos,hcs,hds⟩:=id hs;unfold Builtin.Slice.sliceApplied Builtin.Slice.sliceFields;refine aF<|aF<|cU hos hds (x:=.none) rfl<|aF<|cU hos hds (x:=.none) rfl<|aF<|cU hos hds (x:=.int (-1) t) rfl<|aH ?_;refine aF (slicePart_int ?_)
 skip
 rw[aL ⋯];refine aF<|slicePart_none<|aF<|slicePart_none<|aF<|aH ?_;show wpAny _ _ (match Builtin.Slice.sliceAdjust none none (-1) (n:Int)with|(lo,hi)=>pure (lo,(-1:Int),Builtin.Slice.slicePlaces lo hi<|-1)) _ _ s;rw[A8 n];show wpAny _ _ (pure ((n:Int)-1,(-1:Int),Builtin.Slice.slicePlaces ((n:Int)-1) (-1)<|-1)) _ _ s;rw[A3];exact aH h
def IS(xs:Array aa):((List.range xs.size).filterMap λ(m:Nat)=>xs[((xs.size:Int)-1+(m:Int) * (-1)).toNat]?).toArray=xs.toList.reverse.toArray:=by
 have e:(λ(m:Nat)=>xs[((xs.size:Int)-1+(m:Int) * (-1)).toNat]?)=(λx=>xs[x]?) ∘ λk=>xs.size-1-k:=by
  funext m
  have:((xs.size:Int)-1+(m:Int) * (-1)).toNat=xs.size-1-m:=()
  show xs[((xs.size:Int)-1+(m:Int) * (-1)).toNat]?=xs[xs.size-1-m]?;rw[this]
 rw[e,<- List.filterMap_map,PySem.W.krv_range,List.filterMap_reverse,PySem.W.krv_all]
def rP{items:Array aa}{Q:aa->aA->Prop}(ht:IsTup s.heap t items)(hs:s.heap.IsSliceOf sl .none .none<|.int (-1) tk)
  (h:Q (.ref s.heap.objs.size) { s with heap:=s.heap.push { cls:=.type "tuple",data:=.seq items.toList.reverse.toArray }})
  (hsz:items.size<=sizeLine):wpAny (model prog w) A (getItem (.ref t)<|.ref sl) Q E s:=by
 have htake:sizeOk (.seq items.toList.reverse.toArray):=by
  show items.toList.reverse.toArray.size<=sizeLine;rw[aP,gI,bD];exact hsz
 obtain⟨os,hos,hcs,hds⟩:=id hs;have hTs:s.TypeIs (.ref sl) "slice" := ⟨os,hos,hcs⟩;unfold getItem
 try with_reducible refine cu ?_
 first|refine aF (aH ?_)|skip
 refine aF<|wpAny_sequenceKey ht.typeIs ⋯ ?_;refine aF (bY (name:=Str.ofString "__getitem__") ht.typeIs b9
  (cj b9 ht.typeIs entry_tuple_getitem ?_<|args_tuple_getitem _ _))
 show wpAny _ _ (Builtin.Tuple.tupleItemsOf (.ref t) >>= _) _ _ s;refine aF<|tupleItemsOf_ ht ?_;refine aF<|gK hTs ?_;rw[aM ⋯];refine aF<|sL hs ?_;have hno:¬((((items.size:Int)-1) == 0 && (-1:Int) == 1 && items.size == items.size)=true):=by
  intro q;rw[bV,bV]at q;exact absurd q.1.2 ⋯
 show wpAny _ _ (if (((items.size:Int)-1) == 0 && (-1:Int) == 1 && items.size == items.size)=true then _ else _) _ _ s;rw[aL hno,IS]
 first
  | exact aF (m:=Builtin.Tuple.tupleExact _) (br (aH ⟨_,rfl,aH h⟩) htake)
  | exact aF (m:=Builtin.Tuple.tupleExact _) (br (aF<|aH<|aH ⟨_,rfl,aH h⟩) htake)
  | exact aF (aF (m:=Builtin.Tuple.tupleExact _)<|br (aH<|aH ⟨_,rfl,aH h⟩) htake)
  | exact aF<|aF (m:=Builtin.Tuple.tupleExact _)<|br (aH ⟨_,rfl,aH h⟩) htake
end
section
variable {X:Cx}
abbrev O2 (K:au)(te:TE):TE:=λσ H Q=>te σ H λx H1=>∃a xs,x=.ref a/\kQ K H1 a xs/\∀p,H1 p=none->Q (.ref p) (upd H1 p<|.tup xs.reverse)
def CK{te:TE}{up cp:Pos}(he:PE X e te):PE X (.Subscript e (.Slice none none (some<|.UnaryOp .USub (.Constant (.int 1) kk cp) up) p2) pos) (O2 X.K te):=by
 w_up;refine Subscript_<|jP (he pins s σ H _ I h) λv s1 ⟨x,H1,I1,r1,a,xs,ex,hq,q⟩=>?_;subst ex
 cases r1
 refine wpAny_Slice ?_;rw[iw];refine aH ?_;refine aH ?_;rw[evalPart_some];refine jP ((Hu (a:=.Constant (.int 1) kk cp) BK Bv) pins s1 σ H1 (λv H'=>v=.int (-1)/\H'=H1) I1 ⟨1,rfl,rfl,rfl⟩) λvs s3 h9=>?_;obtain⟨y,H3,I3,r3,ey,eH⟩:=h9;subst ey eH;obtain⟨t,rfl⟩:=r3;have I4:Inv X pins σ H3 { s3 with heap:=s3.heap.push { cls:=.type "slice",data:=.fields #[.none,.none,.int (-1) t]}}:=I3.kept (t':=s3.toks) λb ob q=>aJ _ q;obtain⟨its,rv,pl,hz⟩:=I4.tuple hq
 skip
 refine tail_any (ops:=[.ref a,.ref s3.heap.objs.size]) pl.typeIs b9.lookup ?_ (by with_unfolding_all rfl);have hlen:=rv.length;refine rP pl (gQ ..) ?_ (by rw[aP]<;>lia);refine⟨.ref _,_,I4.laid (t':=s3.toks) (o:=.tup xs.reverse) (λb o e=>aJ _ e) (aN _) ⟨by rw[gI];exact hz,its.reverse,rv.reverse,?_⟩,rfl,q _ I4.fresh⟩;exact lV.new _ _
end
end L2
namespace L2
open PySem PySem.Spec PyProof.Rows
open PySem.SeqAt
open PySem.AutoSeq1 (wpAny_loadPart')
open PySem.MeetsSeq PySem.MeetsSeq2 PySem.MeetsSeq3 PySem.SeqAt
section
variable {X:Cx}
def GG:lG X (binaryOp .FloorDiv) (rI (λ_ j=>0<j/\j<18446744073709551616) λi j=>.int<|i / j):=QU λi j _ _ _ _ _ hc q=>by
 have h1:(0:Int)<j:=hc.1;have h2:j<18446744073709551616:=hc.2;refine floordiv_int (by omega) (by rw[Int.fdiv_eq_ediv_of_nonneg i<|by omega];exact q)<|.inl<|PyProof.noPylong_of_log2 ?_;exact bx ((Nat.log2_lt<|by omega).mpr<|show j.natAbs<2 ^ 64 by omega) ⋯
end
end L2
namespace L2
open PySem PySem.Spec PyProof.Rows
abbrev RY (x:Str):It:=⟨λi _=>i<x.cps.size,λi H v H'=>H'=H/\∃c,x.cps[i]?=some c/\v=.str ⟨#[c]⟩,λi _=>i=x.cps.size⟩
def HV{P:ah}{w:af}{K:au}(x:Str)(t:Tok)(it:aj):Turn P w K tg (RY x) [it] it (λi h=>h.IsStrIter it "str_ascii_iterator" x t i) where
 mem:=by simp
 obj:=λi h st b hb=>by
  have e:b=it:=by simpa using hb
  subst e;obtain⟨o,e,c,d⟩:=st;exact⟨o,e,λv z=>by rw[d]at z;cases z⟩
 keep:=λi h h' st k=>let⟨o,ho,r⟩:=st;⟨o,k it (by simp) o ho,r⟩
 item:=by
  x_go;subst hP hw hK;gn_on;have W:=Walks.strAscii (prog:=X.prog) (w:=X.w) (I.ok.hd hc) it x t;refine W.item i s _ _ hg st λv h' tk hv st' kk=>?_;obtain⟨c,u,hcx,rfl⟩:=hv;have I1:Inv X pins σ H { s with heap:=h',toks:=tk }:=I.turned (λb o hb e=>kk b o (by simpa using hb) e) f0 f1 f3 f4 f5;obtain⟨o,e,cc,d⟩:=id st';exact⟨_,rfl,B_ (s:={ s with heap:=h',toks:=tk }) e cc d ⋯ ⟨.str ⟨#[c]⟩,H,I1,⟨u,rfl⟩,⟨rfl,c,hcx,rfl⟩,st',λb hb=>(hf b hb).1⟩⟩
 done:=by
  x_go;subst hP hw hK;gn_on;have hg:i=x.cps.size:=hg;subst hg;have W:=Walks.strAscii (prog:=X.prog) (w:=X.w) (I.ok.hd hc) it x t;exact W.done s _ _ st λh' tk kk=>⟨rfl,I.turned (λb o hb e=>kk b o (by simpa using hb) e) f0 f1 f3 f4 f5⟩
 self:=λ_ _ _ _ _ st h=>wpAny_pyIter_striter_ascii st h
section
variable {X:Cx}{tg:aC}
abbrev Rg (tl:TE):TI:=λσ H R=>tl σ H λx H1=>∃y:Str,x=.str y/\y.cps.all (· < 128)=true/\R (RY y) H1
def Nv{tl:TE}(hl:PE X l tl):PI X tg l (Rg tl):=by
 intro pins s σ H R I h;refine jP (hl pins s σ H _ I h) λv s1 h9=>?_;obtain⟨x,H1,I1,r1,q1⟩:=h9;obtain⟨y,e,ha,q⟩:=q1;subst e;obtain⟨t,rfl⟩:=r1;refine wpAny_pyIter_ascii ha ?_;refine⟨s1.heap.objs.size,[s1.heap.objs.size],_,_,H1,rfl,I1.kept (t':=s1.toks) λb o e=>aJ _ e,HV y t _,⟨_,aU _ rfl,rfl,rfl⟩,λb hb=>?_,q⟩;have e:b=s1.heap.objs.size:=by simpa using hb
 subst e;kln_w
def EA:jt X (.type "int") (λxs H Q=>∃(y:Str) (n:Int),xs=[.str y]/\y.length<=640/\PySem.intText? y=some n/\Q (.int n) H):=by
 intro pins s σ H xs us Q I rv h;obtain⟨y,n,rfl,hl,hn,q⟩:=h;obtain⟨w,rfl,rw'⟩:=vals1 rv;obtain⟨u,rfl⟩:=rw';exact PySem.W.KIN.call_text hn hl ⟨.int n,H,I.tok _,⟨_,rfl⟩,q⟩
end
structure M1 (X:Cx)(o:aC)(m:Str)(apos:Pos)(e:aC)(cpos:Pos):Prop where
 base:attributeBase o m X.env (eval o X.env)=eval o X.env
 few:((backTo cpos<|starEach [e] X.env).all (λx=>!x.1) && (backToKw cpos<|keywordEach [] X.env).all (λx=>x.1.isSome)
  && decide (([e]:List aC).length+([]:List Keyword).length+(if ([]:List Keyword).isEmpty then 0 else 1)<30))=true
 line:(apos.endLine == cpos.line)=true
 trees:backTo cpos (starEach [e] X.env)=[(false,eval e X.env)]
structure M2 (X:Cx)(o:aC)(m:Str)(apos:Pos)(e f:aC)(cpos:Pos):Prop where
 base:attributeBase o m X.env (eval o X.env)=eval o X.env
 few:((backTo cpos<|starEach [e,f] X.env).all (λx=>!x.1) && (backToKw cpos<|keywordEach [] X.env).all (λx=>x.1.isSome)
  && decide (([e,f]:List aC).length+([]:List Keyword).length+(if ([]:List Keyword).isEmpty then 0 else 1)<30))=true
 line:(apos.endLine == cpos.line)=true
 trees:backTo cpos (starEach [e,f] X.env)=[(false,eval e X.env),(false,eval f X.env)]
abbrev C0 (e:aj)(h:ak):Prop:=∃o vs,h.get? e=some o/\o.data=.fields vs/\vs[2]?=some .none/\o.dict=none
abbrev jk (e:aj){α:Type}(m:Sem α):Prop:=∀(M:Model) (Γ:PySem.Ctx) (Q:α->Pos->aA->Prop) (E:aa->Pos->aA->Prop) (p:Pos) (s:aA),Sem.wp M Γ m Q E p s->C0 e s.heap->Sem.wp M Γ m (λa p s=>Q a p s/\C0 e s.heap) (λv p s=>E v p s/\C0 e s.heap) p s
section
variable {e:aj}{α β:Type}
def jk.bind{m:Sem α}{f:α->Sem β}(h1:jk e m)(h2:∀a,jk e<|f a):jk e (m >>= f):=by
 intro M Γ Q E p s h c;rw[Sem.wp_bind']at h ⊢;exact Sem.wp_mono M Γ m (λa p' s' z=>h2 a M Γ Q E p' s' z.1 z.2) (λ_ _ _ z=>z) p s<|h1 M Γ _ _ p s h c
theorem jk.pure(a:α):jk e (pure a:Sem α):=λM Γ Q E p s h c=>by rw[Sem.wp_pure']at h ⊢;exact⟨h,c⟩
def jk.Jg(w:String):jk e (PySem.unsupported w:Sem α):=λM Γ Q E p s h c=>by
 have h:Sem.wp M Γ (.unsupported w:Sem α) Q E p s:=h;rw[Sem.wp_unsupported]at h;exact h.elim
def jk.load(a:aj):jk e (PySem.load a):=λM Γ Q E p s h c=>by
 have h:Sem.wp M Γ (.load a none .pure) Q E p s:=h;show Sem.wp M Γ (.load a none .pure) _ _ p s;rw[Sem.wp_load]at h ⊢;obtain⟨o,ho,h⟩:=h;rw[gC]at h;exact⟨o,ho,by rw[gC];exact⟨h,c⟩⟩
def C0.update{h:ak}{a:aj}{f:Obj->Obj}(c:C0 e h)(hf:∀o vs,o.data=.fields vs->vs[2]?=some .none->∃ws,(f o).data=.fields ws/\ws[2]?=some .none/\(f o).dict=o.dict):C0 e (h.update a f):=by
 obtain⟨o,vs,h1,h2,h3,h4⟩:=c;by_cases z:a=e
 ·subst z;obtain⟨ws,w1,w2,w3⟩:=hf o vs h2 h3;exact⟨f o,ws,bO f h1<|cF w1,w1,w2,w3.trans h4⟩
 ·exact⟨o,vs,by rw[b7 _ _ z];exact h1,h2,h3,h4⟩
def jk.update(a:aj)(f:Obj->Obj)(hf:∀o vs,o.data=.fields vs->vs[2]?=some .none->∃ws,(f o).data=.fields ws/\ws[2]?=some .none/\(f o).dict=o.dict):jk e (PySem.update a f):=λM Γ Q E p s h c=>by
 have h:Sem.wp M Γ (.update a none f .pure) Q E p s:=h;show Sem.wp M Γ (.update a none f .pure) _ _ p s;rw[Sem.wp_update]at h ⊢;obtain⟨ho,h⟩:=h;rw[gC]at h;exact⟨ho,by rw[gC];exact⟨h,c.update hf⟩⟩
def jk.alloc(o:Obj):jk e (PySem.alloc o):=λM Γ Q E p s h c=>by
 have h:Sem.wp M Γ (.alloc o .pure) Q E p s:=h;show Sem.wp M Γ (.alloc o .pure) _ _ p s;rw[Sem.wp_alloc,gC]at h ⊢;obtain⟨ob,vs,h1,h2,h3,h4⟩:=c;exact⟨h,ob,vs,aJ _ h1,h2,h3,h4⟩
def jk.stack:jk e PySem.stack:=λM Γ Q E p s h c=>by
 have h:Sem.wp M Γ (.stack .pure) Q E p s:=h;show Sem.wp M Γ (.stack .pure) _ _ p s;rw[Sem.wp_stack,gC]at h ⊢;exact⟨h,c⟩
def jk.ite{c:Prop}[Decidable c]{a b:Sem α}(h1:jk e a)(h2:jk e b):jk e (if c then a else b):=by
 split
 ·exact h1
 ·exact h2
def jk.field(v:aa)(i:Nat):jk e (PySem.field v i):=by
 unfold PySem.field PySem.fieldsOf;refine jk.bind ?_ λvs=>?_
 ·split
  ·refine jk.bind (jk.load _) λo=>?_;split
   ·exact jk.pure _
   ·exact jk.Jg _
  ·exact jk.Jg _
 ·split
  ·exact jk.pure _
  ·exact jk.Jg _
def jk.setField(v x:aa)(i:Nat)(hi:i≠2):jk e (PySem.setField v i x):=by
 unfold PySem.setField PySem.updateField;split
 ·refine jk.bind (jk.load _) λo=>?_;split
  ·refine jk.ite (jk.update _ _ λo vs h1 h2=>⟨_,bP h1 _,?_,?_⟩) (jk.Jg _)
   ·rw[f9 hi];exact h2
   ·unfold Obj.mapFields;split<;>rfl
  ·exact jk.Jg _
 ·exact jk.Jg _
def jk.frameEnvs:jk e PySem.frameEnvs:=by
 unfold PySem.frameEnvs;exact jk.bind jk.stack λ_=>jk.pure _
def jk.behind(env:Env)(outer:List Env):jk e (behindIsImport env outer):=by
 unfold behindIsImport;refine jk.ite (jk.pure _)<|jk.ite (jk.pure _)<|jk.bind (jk.field _ _) λ_=>jk.pure _
def jk.under:jk e underTheClaimsCaller:=by
 unfold underTheClaimsCaller;exact jk.bind jk.stack λ_=>jk.pure _
def jk.kept(env:Env)(b:Bool)(l:List Env):jk e (keptBack env b l):=by
 unfold keptBack;split
 ·refine jk.ite (jk.pure _) (jk.bind jk.under λ_=>jk.pure _)
 ·exact jk.pure _
theorem jk.ready:∀(l:List Env),jk e (readyFrames l)
 | []=>jk.pure _
 | env::outer=>by
  unfold readyFrames;split
  ·refine jk.bind (jk.load _) λo=>?_;refine jk.ite (jk.pure _) ?_;refine jk.bind (jk.behind _ _) λ_=>jk.bind (jk.kept _ _ _) λ_=>jk.bind (jk.update _ _ λo vs h1 h2=>⟨vs,h1,h2,rfl⟩) λ_=>jk.ready outer
  ·exact jk.Jg _
def jk.frameOf(env:Env):jk e (PySem.frameOf env):=by
 unfold PySem.frameOf;refine jk.bind jk.frameEnvs λl=>jk.bind ?_ λ_=>?_
 ·unfold frameObject;split
  ·exact jk.pure _
  ·exact jk.bind (jk.ready _) λ_=>jk.pure _
 ·split
  ·exact jk.pure _
  ·exact jk.Jg _
def jk.place(f:aj)(b:Bool):jk e (entryPlaceOf f b):=by
 unfold entryPlaceOf;refine jk.bind jk.stack λ_=>?_;split
 ·exact jk.pure _
 ·exact jk.pure _
def jk.entry(a b c d f:aa)(l:ba):jk e (EntryCells.newEntry a b c d f l):=by
 unfold EntryCells.newEntry newFields newObj
 repeat (first|exact jk.pure _|exact jk.Jg _|refine jk.bind (jk.alloc _) λ_=>?_|refine jk.bind (jk.Jg _) λ_=>?_|refine jk.ite ?_ ?_|(refine jk.bind ?_ λ_=>?_))
def jk.flight(v:aa)(f:Option aj):jk e (setFlight v f):=by
 unfold setFlight;refine jk.bind (jk.field _ _) λ_=>jk.ite (jk.setField _ _ _ ⋯)<|jk.pure _
def jk.note(v:aa)(env:Env):jk e (noteFrame v env):=by
 unfold noteFrame;split
 ·refine jk.bind (jk.field _ _) λh=>jk.ite ?_ ?_
  ·refine jk.bind (jk.field _ _) λ_=>jk.ite (jk.pure _) ?_;refine jk.bind (jk.setField _ _ _ ⋯) λ_=>jk.bind (jk.frameOf _) λ_=>jk.bind (jk.place _ _) λ_=>jk.bind (jk.entry _ _ _ _ _ _) λ_=>jk.setField _ _ _ ⋯
  ·refine jk.bind (jk.frameOf _) λ_=>jk.bind (jk.place _ _) λ_=>jk.bind (jk.entry _ _ _ _ _ _) λ_=>jk.setField _ _ _ ⋯
 ·exact jk.Jg _
def jk.leave(v:aa)(env:Env):jk e (leaving env v):=by
 unfold leaving;exact jk.bind (jk.note _ _) λ_=>jk.flight _ _
def jk.any{m:Sem α}{A:az}{Q:α->aA->Prop}{E:aa->aA->Prop}{s:aA}(k:jk e m)(h:wpAny M A m Q E s)(c:C0 e s.heap):wpAny M A m (λa s'=>Q a s'/\C0 e s'.heap) (λv s'=>E v s'/\C0 e s'.heap) s:=
 λΓ p hΓ=>k M Γ _ _ p s (h Γ p hΓ) c
end
def j6.here{P:ah}{w:af}{H:Hp}{h:ak}{a:aj}(x:j6 P w H h a o):∃ob,h.get? a=some ob:=by
 cases o with
 | lst xs=>obtain⟨_,_,_,_,e⟩:=x;exact⟨_,e⟩
 | tup xs=>obtain⟨_,_,_,p⟩:=x;obtain⟨o,e,_⟩:=p;exact⟨_,e⟩
 | dK kvs=>obtain⟨_,_,_,_,o,_,_,e,_⟩:=x;exact⟨_,e⟩
 | dT kvs=>obtain⟨_,_,_,_,o,_,_,e,_⟩:=x;exact⟨_,e⟩
 | set S n=>obtain⟨o,_,_,_,e,_⟩:=x;exact⟨_,e⟩
 | ins C dx fs=>obtain⟨_,_,_,e,_⟩:=x;exact⟨_,e⟩
 | own y=>exact x
 | xd fs=>obtain⟨_,⟨_,_,_,e,_⟩,_⟩:=x;exact⟨_,e⟩
 | rng lo hi=>obtain⟨_,_,_,e⟩:=x;exact⟨_,e⟩
 | frz ob u=>obtain⟨e,_⟩:=x;exact⟨_,e⟩
 | tbl ps=>exact⟨_,(show h.get? a=some _ from x)⟩
 | met f y=>exact⟨_,(show h.get? a=some _ from x)⟩
 | ext φ=>obtain⟨_,⟨o,e⟩,_⟩:=x;exact⟨_,e⟩
structure Fly (l:List Env)(g:ak)(pn:bp)(H:Hp)(e:aj)(cls:aa)(h:ak):Prop where
 ex:∃(B:ak) (a0:aa),Heap.FlyingW B l e cls a0 h/\(∀a u,H a=some u->∃o,B.get? a=some o)/\(∀b o,g.get? b=some o->b∉frs l->∃o',B.get? b=some o')/\(∀p∈pn,∃o',B.get? p.1=some o')/\C0 e h
structure Made (X:Cx)(H:Hp)(e:aj)(cls:aa)(g:ak)(h:ak):Prop where
 ex:∃(g':ak) (vs:ba),Heap.MadeExcOf g' h e cls vs/\g'.FunFrames X.base X.stack/\(∀a u,H a=some u->∃o,g'.get? a=some o)/\(∀b o,g.get? b=some o->∃o',g'.get? b=some o')/\(∀p∈X.pn,∃o',g'.get? p.1=some o')
def CS{g:ak}{cls:aa}(M:Heap.MadeExcOf g h e cls vs):C0 e h:=by
 obtain⟨t,he,_⟩:=M.there;exact⟨_,_,he,rfl,rfl,rfl⟩
abbrev vg (X:Cx)(H:Hp)(e:aj)(cls:aa)(s':aA):Prop:=Made X H e cls X.s₀.heap s'.heap\/Fly X.stack X.s₀.heap X.pn H e cls s'.heap
section
variable {X:Cx}{pins:bp}{σ:L2.St}{H:Hp}{s':aA}{e:aj}{cls:aa}
def wA(I:Inv X pins σ H s')(hex:X.ex=[]){B:ak}(k1:B.StaysIn s'.heap)(k2:B.StaysIn h')(up:s'.heap.UpToSlots h')(c1:∀a u,H a=some u->∃o,B.get? a=some o)(c2:∀b o,X.s₀.heap.get? b=some o->b∉X.fs->∃o',B.get? b=some o') :
  Un X.fs [] X.H₀ H X.s₀.heap h'/\sU X.prog X.w H h':=by
 have nx:∀b:aj,b∉X.ex:=λb z=>by rw[hex]at z;cases z
 have cov:∀b o o',B.get? b=some o'->s'.heap.get? b=some o->h'.get? b=some o:=λb o o' eb es=>by
  have:=k1 b o' eb;rw[es]at this;cases this;exact k2 b o eb
 have slot:∀b o,X.s₀.heap.get? b=some o->X.H₀ b=none->b∈X.fs->∃sl,h'.get? b=some { o with slots:=sl }:=λb o q n hb=>by
  obtain⟨sl,e1⟩:=I.base.slot b o q n hb<|nx b;obtain⟨_,o2,q2,d2⟩:=I.ok.pV.mem hb;rw[q]at q2;cases q2;obtain⟨sl',e2⟩:=up b _ e1 d2;exact⟨sl',e2⟩
 refine⟨⟨λb o q n hb _=>?_,λb o q n hb _=>slot b o q n hb,λb o q n _=>I.base.free b o q n<|nx b,λb o q _=>?_,I.base.tups,I.base.frzs,I.base.tbls⟩,λa u ea=>?_⟩
 ·obtain⟨o',eb⟩:=c2 b o q hb;exact cov b o o' eb (I.base.keep b o q n hb<|nx b)
 ·by_cases hb:b∈X.fs
  ·obtain⟨sl,z⟩:=slot b o q (I.ok.frf b hb) hb;exact⟨_,z⟩
  ·obtain⟨o',eb⟩:=c2 b o q hb;exact⟨o',k2 b o' eb⟩
 ·refine(I.hok a u ea).stay (λb v hb q=>?_) (λ_ q=>q) λ_ _ q=>q
  rcases hb with z|z
  ·subst z;obtain⟨o',eb⟩:=c1 _ u ea;exact cov _ v o' eb q
  ·obtain⟨o',eb⟩:=c1 b _ z;exact cov b v o' eb q
def Bb(I:Inv X pins σ H s')(hst:X.stack=X.env::X.outer)(hf:X.env.frame=some X.env.locals)(hex:X.ex=[])(R:vg X H e cls s'){Q:aA->Prop}{E:aa->aA->Prop}
  (hQ:∀h',Un X.fs [] X.H₀ H X.s₀.heap h'->sU X.prog X.w H h'->Fly X.outer X.s₀.heap [] H e cls h'->Q { s' with heap:=h' }):wpAny (model X.prog X.w) X.A (leaving X.env<|.ref e) (λ_ s''=>Q s'') E s':=by
 have hfr:X.A.frames=some (X.env::X.outer):=by rw[<- hst];exact I.ok.frames
 have nl:∀b o,X.s₀.heap.get? b=some o->b∉X.fs->b∉frs (X.env::X.outer):=λb o q hb z=>by
  unfold frs at z;rw[d9,hf]at z
  rcases bB.mp z with z|z
  ·rw[z]at q;exact absurd (bx (aV q) I.ok.above) (dZ _)
  ·exact hb z
 rcases R with⟨g',vs,M,ffg,m1,m2,_⟩|⟨B,a0,F,c1,c2,_,k0⟩
 ·
  rw[hst]at ffg;have hin:∀env∈(X.env::X.outer),∀b,env.frame=some b->b∈frs (X.env::X.outer):=λenv he b hb=>fE.mpr ⟨env,he,hb⟩;refine cS (jk.any (e:=e) (jk.leave _ _) (wpAny_leaves_madeW (Q:=λ_ s''=>∃h' t,s''={ s' with heap:=h' }/\Heap.FlyingW (PySem.W.hideAll g'<|frs (X.env::X.outer)) X.outer e cls (.ref t) h'/\s'.heap.UpToSlots h') (E:=λ_ _=>False) (base:=PySem.W.hideAll g'<|frs (X.env::X.outer)) hfr hf (λb o q=>eB _ q) (PySem.W.funFrames_hide ffg hin) M λh' t x1 x2 x3 x4=>⟨h',t,rfl,x1,x4⟩)<|CS M) (λ_ s'' z=>?_) λ_ _ z=>z.1.elim;obtain⟨⟨h',t,rfl,x1,x4⟩,k0⟩:=z;have k1:(PySem.W.hideAll g'<|frs (X.env::X.outer)).StaysIn s'.heap:=λb o q=>M.keeps b o<|eB _ q;have c1:∀a u,H a=some u->∃o,(PySem.W.hideAll g'<|frs (X.env::X.outer)).get? a=some o:=λa u ea=>by
   obtain⟨o,q⟩:=m1 a u ea;refine⟨o,dD _ q λz=>?_⟩;rw[<- hst]at z;rw[I.uT a z]at ea;cases ea
  have c2:∀b o,X.s₀.heap.get? b=some o->b∉X.fs->∃o',(PySem.W.hideAll g'<|frs (X.env::X.outer)).get? b=some o':=λb o q hb=>by
   obtain⟨o',q'⟩:=m2 b o q;exact⟨o',dD _ q'<|nl b o q hb⟩
  obtain⟨un,hok⟩:=wA I hex k1 x1.1 x4 c1 c2;exact hQ h' un hok ⟨_,_,x1,c1,λb o q hb=>c2 b o q hb,λp hp=>absurd hp<|by simp,k0⟩
 ·rw[hst]at F c2;refine cS (jk.any (e:=e) (jk.leave _ _) (wpAny_leaves_onW (Q:=λ_ s''=>∃h',s''={ s' with heap:=h' }/\Heap.FlyingW B X.outer e cls a0 h'/\s'.heap.UpToSlots h') (E:=λ_ _=>False) hfr hf F λh' x1 x4=>⟨h',rfl,x1,x4⟩) k0) (λ_ s'' z=>?_) λ_ _ z=>z.1.elim;obtain⟨⟨h',rfl,x1,x4⟩,k0'⟩:=z;have c2':∀b o,X.s₀.heap.get? b=some o->b∉X.fs->∃o',B.get? b=some o':=λb o q hb=>c2 b o q<|nl b o q hb;obtain⟨un,hok⟩:=wA I hex F.1 x1.1 x4 c1 c2';exact hQ h' un hok ⟨_,_,x1,c1,c2',λp hp=>absurd hp<|by simp,k0'⟩
end
abbrev A0 (P:ah)(w:af):HY:=λouter H s E e s''=>∃ea cls H',e=.ref ea/\s''.os=s.os/\AllBare s''.gens/\Un (frs outer) [] H H' s.heap s''.heap/\sU P w H' s''.heap/\Fly outer s.heap [] H' ea cls s''.heap/\E cls none H'
section
variable {P:ah}{w:af}{K:au}{mg:Str->bd}{base:ak}{N:ar}{qual:Str}{scope:Scope}{f:aj}{cd:aa}{A:az}{outer:List Env}{s:aA}{H:Hp}{E:XK}
def EU{H':Hp}{cls:aa}(I:Inv (uE (A0 P w) P w K mg base N qual scope f cd A outer s H E) pins σ' H' s')
  (hf:(envOfC qual scope s.heap.objs.size f cd).frame=some (envOfC qual scope s.heap.objs.size f cd).locals)
  (R:vg (uE (A0 P w) P w K mg base N qual scope f cd A outer s H E) H' ea cls s') (hE:E cls none H'):(uE (A0 P w) P w K mg base N qual scope f cd A outer s H E).xe (.ref ea) s':=by
 refine Bb I rfl hf rfl R (Q:=λs''=>A0 P w outer H s E (.ref ea) s'') λh' un hok fl=>?_;exact⟨ea,cls,H',rfl,I.os,I.bare,un,hok,fl,hE⟩
abbrev EX (X:Cx):XK:=λcls _ H'=>X.ex=[]/\∀pins σ' s' e,Inv X pins σ' H' s'->vg X H' e cls s'->X.xe (.ref e) s'
def FP{X:Cx}(hP:X.prog=P)(hw:X.w=w):Passes (A0 P w) X (EX X):=by
 intro pins σ H s e s' I ⟨ea,cls,H',he,os,bare,un,hok,⟨B,a0,F,c1,c2,_,k0⟩,hE⟩;subst he hP hw;obtain⟨hh,g,d,t,os'⟩:=s';obtain rfl:os'=s.os:=os;refine hE.2 pins σ _ ea (I.call (h':=hh) (g':=g) (d':=d) (t':=t) (ch:=[]) un hok bare λb z=>absurd z<|by simp) (.inr ⟨B,a0,F,c1,λb o q hb=>?_,λp hp=>?_,k0⟩)
 ·obtain⟨o',q'⟩:=I.base.there b o q (by rw[hE.1];simp);exact c2 b o' q' hb
 ·obtain⟨q,_,n1,n2,_⟩:=I.pin p<|b6 _ hp;exact c2 p.1 _ q λz=>(bB.mp<|I.wk _ z).elim n1 n2
abbrev N6 (X:Cx)(C:aj)(t:TA):TS:=λ_ σ H=>t σ H λvs H'=>vs.length<=sizeLine/\EX X (.ref C) none H'
def JB{X:Cx}{x:Str}{t:TA}(O:OwnCls x C bmB newId X.mg X.base)(FB:ExcBaseFacts B newId initId bmB)(hh:X.A.handled=none)(ha:PA X (e::es) t)(hg:Gl X x:=by rfl)
  (hs:starEach (e::es) X.env=(false,eval e X.env)::starEach es X.env:=by rfl) (hplain:(backTo cpos<|starEach es X.env).any (·.1)=false:=by rfl) (hd:(x == ("__debug__" : Str))=false:=by decide) :
  PS X (.Raise (some<|.Call (.Name x np) (e::es) [] cpos) none pos) (N6 X C t):=by
 kpc_g;obtain⟨tl,N,nm,q,bs,hdct,sn,sub,ab,col,dd,k0,k1,k2,k3,k5,mN,hC,hN,hni,T⟩:=O.obj;refine wpAny_Raise_call_subU (C:=C) (nm:=nm) (q:=q) (N:=N) (bs:=bs) (bm:=tl) (hdct:=hdct) (sn:=sn) (sub:=sub) (ab:=ab) (col:=col) (dd:=dd) (k0:=k0) (k1:=k1) (k2:=k2) (k3:=k3) (k5:=k5)
  FB FB.hasB FB (mN:=mN) (T.hasType FB.hasBase) hh (by rw[hs];show(false || (backTo cpos<|starEach es X.env).any (·.1))=false;rw[hplain];rfl) hni (uY I hg O.bound ⟨rfl,?_⟩ hd)
 have hA:=ha cpos pins s σ H _ I h;rw[hs]at hA ⊢;refine eU<|jP hA λus s2 ⟨vs,H2,I2,r2,hl,hex,q2⟩=>?_;refine⟨rfl,by rw[<- r2.length];exact hl,I2.bk _ _ hC,hN.keeps I2.bk,T.keeps I2.bk,λh' ea M=>?_⟩;refine q2 pins σ { s2 with heap:=h' } ea ?_ (.inl ⟨s2.heap,us,M,I2.stack,λa u ea=>?_,λb o q=>?_,λp hp=>⟨_,(I2.pin p<|b6 _ hp).1⟩⟩)
 ·exact I2.kept (t':=s2.toks) M.keeps
 ·exact(I2.hok a u ea).here
 ·exact I2.base.there b o q<|by rw[hex];simp
end
abbrev vt:List (Str ⊕ TE)->St->Hp->(Hp->Prop)->Prop
 | [],_,H,k=>k H
 | .inl x::ps,σ,H,k=>x.length<=1000/\vt ps σ H k
 | .inr t::ps,σ,H,k=>t σ H λv H'=>∃i,v=.int i/\i.natAbs.log2<64/\vt ps σ H' k
inductive FParts (X:Cx):List aC->List (Str ⊕ TE)->Prop
 | nil:FParts X [] []
 | txt {x:Str} {j pos} {es:List aC} {ps:List<|Str ⊕ TE} (h:FParts X es ps):FParts X (.Constant (.str x) j pos::es) (.inl x::ps)
 | val {e:aC} {pos:Pos} {t:TE} {es:List aC} {ps:List<|Str ⊕ TE} (he:PE X e t) (h:FParts X es ps):FParts X (.FormattedValue e (-1) none pos::es) (.inr t::ps)
theorem qU{X:Cx}{Q:VK}:∀{es:List aC}{ps:List<|Str ⊕ TE},FParts X es ps->∀(H:Hp) (s:aA) (out:Str),Inv X pins σ H s->out.length+2000 * es.length<=sizeLine ->
  vt ps σ H (λH'=>∀x:Str,x.length<=sizeLine->Q (.str x) H')->wpAny (model X.prog X.w) X.A (joinParts out<|evalEach es X.env) (EP X pins σ Q) X.xe s
 | _,_,.nil,H,s,out,I,hl,h=>joinParts_nilE (joinParts_nil (show EP X pins σ Q _ _ from⟨.str out,H,I.tok _,⟨_,rfl⟩,h out<|by simpa using hl⟩)<|by simpa using hl)
 | _,_,.txt (x:=x) hp,H,s,out,I,hl,h=>by
  refine joinParts_consE<|joinParts_cons<|Calls.Constant_str ?_;rw[bq]at hl;have hx:=h.1;have hz:(out++x).length=out.length+x.length:=strLen_append ..;exact⟨by rw[hz];lia,qU hp H _ _ (I.tok _) (by rw[hz];lia) h.2⟩
 | _,_,.val (e:=e) (t:=t) he hp,H,s,out,I,hl,h=>by
  rw[bq]at hl;refine joinParts_consE<|joinParts_cons<|FormattedValue_plain<|jP (he pins s σ H _ I h) λv s1 ⟨x,H1,I1,r1,i,hx,hi,h1⟩=>?_;subst hx;obtain⟨tk,rfl⟩:=r1;refine formatField_int_small () ?_;have ht:(Str.ofString<|toString i).length<=65:=by
   have:=int_text_length_le (a:=i) (k:=64) ⋯ hi;rw[PySem.ofString_length];exact this
  have hz:(out++Str.ofString (toString i)).length=out.length+(Str.ofString<|toString i).length:=strLen_append ..;exact⟨by rw[hz];lia,qU hp H1 _ _ (I1.tok _) (by rw[hz];lia) h1⟩
abbrev Th (ps:List<|Str ⊕ TE):TE:=λσ H Q=>vt ps σ H λH'=>∀x:Str,x.length<=sizeLine->Q (.str x) H'
def Ph(h:FParts X (e1::e2::es) ps)(hl:2000 * (e1::e2::es).length<=sizeLine:=by decide):PE X (.JoinedStr (e1::e2::es) pos) (Th ps):=
 λpins s σ H Q I q=>JoinedStr_many<|qU h H s Str.empty I (by rw[show Str.empty.length=0 from rfl,eG];exact hl) q
abbrev Cx.wH (X:Cx)(pn':bp)(xe':aa->aA->Prop):Cx:={ X with xe:=xe',pn:=pn' }
abbrev xu:HO:=.ext λ_=>True
abbrev Cx.hand (X:Cx)(pn':bp)(e:aj)(oe:Obj):Cx:={ X with A:=X.A.mark<|some<|.ref e,calm:=false,xe:=λ_ _=>False,pn:=pn',H₀:=upd X.H₀ e<|.frz oe xu}
structure XO (C:aj)(o:Obj):Prop where
 cls:o.cls=.ref C
 dict:o.dict=none
 ctx:∃vs,o.data=.fields vs/\vs[2]?=some .none
structure Fr0 (X:Cx)(e:aj):Prop where
 no:∀o,X.s₀.heap.get? e≠some o
 tup:∀xs,X.H₀ e≠some (.tup xs)
 frz:∀o u,X.H₀ e≠some (.frz o u)
 tbl:∀ps,X.H₀ e≠some (.tbl ps)
section
variable {X:Cx}{pins:bp}{σ:L2.St}{H:Hp}{s':aA}{e:aj}{cls:aa}
def Et(I:Inv X pins σ H s')(hst:X.stack=X.env::X.outer)(hf:X.env.frame=some X.env.locals)(R:vg X H e cls s'){Q:Unit->aA->Prop}{E:aa->aA->Prop}
  (hQ:∀h' B a0,Heap.HeldW B (X.env::X.outer) e cls a0 X.env.locals h'->B.StaysIn s'.heap->s'.heap.UpToSlots h'->(∀a u,H a=some u->∃o,B.get? a=some o)->(∀b o,X.s₀.heap.get? b=some o->b∉X.fs->∃o',B.get? b=some o')->(∀p∈X.pn,∃o',B.get? p.1=some o')->C0 e h'->Q Unit.unit { s' with heap:=h' }) :
  wpAny (model X.prog X.w) X.A (noteFrame (.ref e) X.env) Q E s':=by
 have hfr:X.A.frames=some (X.env::X.outer):=by rw[<- hst];exact I.ok.frames
 have nl:∀b o,X.s₀.heap.get? b=some o->b∉X.fs->b∉frs (X.env::X.outer):=λb o q hb z=>by
  unfold frs at z;rw[d9,hf]at z
  rcases bB.mp z with z|z
  ·rw[z]at q;exact absurd (bx (aV q) I.ok.above) (dZ _)
  ·exact hb z
 rcases R with⟨g',vs,M,ffg,m1,m2,m3⟩|⟨B,a0,F,c1,c2,c3,k0⟩
 ·rw[hst]at ffg;have hin:∀env∈(X.env::X.outer),∀b,env.frame=some b->b∈frs (X.env::X.outer):=λenv he b hb=>fE.mpr ⟨env,he,hb⟩;have hl:=PySem.W.funFrames_hide ffg hin;obtain⟨t,he,htn,ht⟩:=M.there;have bn:(PySem.W.hideAll g'<|frs (X.env::X.outer)).get? e=none:=by
   cases hq:(PySem.W.hideAll g'<|frs (X.env::X.outer)).get? e with
   | none=>rfl
   | some o'=>have:=eB _ hq;rw[M.new]at this;cases this
  have k1:(PySem.W.hideAll g'<|frs (X.env::X.outer)).StaysIn s'.heap:=λb o q=>M.keeps b o<|eB _ q;have go:wpAny (model X.prog X.w) X.A (noteFrame (.ref e) X.env) (λ_ s''=>∃h',s''={ s' with heap:=h' }/\Heap.HeldW (PySem.W.hideAll g'<|frs (X.env::X.outer)) (X.env::X.outer) e cls (.ref t) X.env.locals h'/\s'.heap.UpToSlots h') (λ_ _=>False) s':=by
   unfold noteFrame;dsimp[hf];refine aF<|cU he rfl (x:=.none) rfl ?_;rw[aL ⋯];refine wpAny_entryW (base:=PySem.W.hideAll g'<|frs (X.env::X.outer)) (a0:=.ref t) hfr (hl.of_keeps λb o hb _=>⟨o,M.keeps b o hb,rfl⟩) hf he k1 bn rfl (by simp) rfl λh' hL=>?_;obtain⟨x1,x2,x3,x4⟩:=hL;exact⟨h',rfl,⟨x1,bn,x2,x3⟩,x4⟩
  refine cS (jk.any (e:=e) (jk.note _ _) go<|CS M) (λ_ s'' z=>?_) λ_ _ z=>z.1.elim;obtain⟨⟨h',rfl,x1,x4⟩,k0⟩:=z;refine hQ h' _ _ x1 k1 x4 (λa u ea=>?_) (λb o q hb=>?_) (λp hp=>?_) k0
  ·obtain⟨o,q⟩:=m1 a u ea;refine⟨o,dD _ q λz=>?_⟩;rw[<- hst]at z;rw[I.uT a z]at ea;cases ea
  ·obtain⟨o',q'⟩:=m2 b o q;exact⟨o',dD _ q'<|nl b o q hb⟩
  ·obtain⟨o',q'⟩:=m3 p hp;obtain⟨q,_,n1,n2,_⟩:=I.pin p<|b6 _ hp;refine⟨o',dD _ q' λz=>?_⟩;rw[<- hst]at z;exact(bB.mp<|I.wk _ z).elim n1 n2
 ·rw[hst]at F c2;refine cS (jk.any (e:=e) (jk.note _ _) (wpAny_looks_onW (Q:=λ_ s''=>∃h',s''={ s' with heap:=h' }/\Heap.HeldW B (X.env::X.outer) e cls a0 X.env.locals h'/\s'.heap.UpToSlots h') (E:=λ_ _=>False) hfr hf F λh' x1 x4=>⟨h',rfl,x1,x4⟩) k0) (λ_ s'' z=>?_) λ_ _ z=>z.1.elim;obtain⟨⟨h',rfl,x1,x4⟩,k0'⟩:=z;exact hQ h' B a0 x1 F.1 x4 c1 (λb o q hb=>c2 b o q<|nl b o q hb) c3 k0'
end
section
variable {X:Cx}{pn' pins:bp}{xe':aa->aA->Prop}{σ:L2.St}{H:Hp}{s':aA}{e C:aj}{B h6:ak}{a0:aa}
def xS(I:Inv (X.wH pn' xe') pins σ H s')(hex:X.ex=[])(F:Heap.FlyingW B (X.env::X.outer) e (.ref C) a0 h6)(k1:B.StaysIn s'.heap)(up:s'.heap.UpToSlots h6)
  (c1:∀a u,H a=some u->∃o,B.get? a=some o) (c2:∀b o,X.s₀.heap.get? b=some o->b∉X.fs->∃o',B.get? b=some o') (c3:∀p∈pn',∃o',B.get? p.1=some o') (k0:C0 e h6) :
  Fr0 X e/\H e=none/\∃oe,XO C oe/\Inv (X.hand pn' e oe) [] σ (upd H e<|.frz oe xu) { s' with heap:=h6 }:=by
 obtain⟨un,hok⟩:=wA I hex k1 F.1 up c1 c2;have hn:H e=none:=by
  cases q:H e with
  | none=>rfl
  | some u=>obtain⟨o,z⟩:=c1 e u q;rw[F.2.1]at z;cases z
 obtain⟨o0,vs0,g1,g2,g3,g5⟩:=k0;have ns:∀o,X.s₀.heap.get? e≠some o:=λo q=>by
  by_cases hb:e∈X.fs
  ·obtain⟨_,o2,q2,d2⟩:=I.ok.pV.mem hb;have q2:X.s₀.heap.get? e=some o2:=q2;rw[q]at q2;cases q2;obtain⟨sl,z⟩:=un.slot e o q (I.ok.frf e hb) hb (by simp);rw[g1]at z;have z:o0=_:=aS z;rw[z]at g2;exact d2 _ g2
  ·obtain⟨o',z⟩:=c2 e o q hb;rw[F.2.1]at z;cases z
 have hs0:∀(b:aj) (ob:Obj),s'.heap.get? b=some ob->(∀vs,ob.data≠.fields vs)->b≠e:=λb ob q d z=>by
  obtain⟨sl,z'⟩:=up b ob q d;rw[z,g1]at z';have z':o0=_:=aS z';rw[z']at g2;exact d _ g2
 obtain⟨m,hm,hl⟩:=id I.loc;have hm':s'.heap.Ns X.env.locals m:=hm;have cel:∀c v,s'.heap.IsCell c v->h6.IsCell c v:=λc v h9=>by
  obtain⟨oc,q,d⟩:=h9;obtain⟨sl,z⟩:=up c oc q λvs y=>by rw[d]at y;cases y
  exact⟨_,z,d⟩
 have lne:X.env.locals≠e:=by
  obtain⟨oL,es,ep,q,d,_⟩:=id hm';exact hs0 _ oL q λvs y=>by rw[d]at y;cases y
 have xo:XO C o0:=by
  obtain⟨_,_,_,oe,vs,T,oT,ts,he,⟨hc,_⟩,hd,_⟩:=F;rw[g1]at he;have he:o0=oe:=aS he;subst he;exact⟨hc,g5,vs0,g2,g3⟩
 have no:∀u,H e≠some u:=λu q=>by rw[hn]at q;cases q
 have fr:Fr0 X e:=⟨ns,λxs q=>no _<|un.tups e xs q,λo u q=>no _<|un.frzs e o u q,λps q=>let⟨_,z⟩:=un.tbls e ps q;no _ z⟩;refine⟨fr,hn,o0,xo,⟨I.ok.mod,I.ok.kind,I.ok.glob,I.ok.blt,I.ok.above,I.ok.inj,I.ok.has,I.ok.cab,λh=>(by cases h),I.ok.frames,I.ok.stk,I.ok.exf,λb o q=>⟨(I.ok.bs b o q).1,?_⟩,I.ok.bsz,I.ok.noex,I.ok.exfs,I.ok.pV,λb hb=>?_⟩,I.os,I.bare,?_,⟨m,up.ns hm',λi x v h1 h2 h3=>?_⟩,λx c h=>?_,?_,λx c h=>?_,λp hp=>?_,λb u q=>?_,I.len⟩
 ·show upd X.H₀ e _ b=none;rw[i6 λz=>ns o<|by rw[<- z];exact(I.ok.bs b o q).1];exact(I.ok.bs b o q).2
 ·show upd X.H₀ e _ b=none;obtain⟨_,o2,q2,d2⟩:=I.ok.pV.mem hb;rw[i6 λz=>ns o2<|by rw[<- z];exact q2];exact I.ok.frf b hb
 ·have h0:∀b o,X.s₀.heap.get? b=some o->upd X.H₀ e (.frz o0 xu) b=none->X.H₀ b=none:=λb o q n=>by
   rwa [i6 λz=>ns o<|by rw[<- z];exact q]at n
  refine⟨λb o q n h _=>un.keep b o q (h0 b o q n) h<|by simp,λb o q n h _=>un.slot b o q (h0 b o q n) h<|by simp,λb o q n _=>?_,λb o q _=>un.there b o q<|by simp,λb xs q=>?_,λb o u q=>?_,λb ps q=>?_⟩
  ·rw[i6 λz=>ns o<|by rw[<- z];exact q];exact un.free b o q (h0 b o q n) (by simp)
  ·have q:upd X.H₀ e (.frz o0 xu) b=some (.tup xs):=q;by_cases hb:b=e
   ·rw[hb,jx]at q;cases q
   ·rw[i6 hb]at q ⊢;exact un.tups b xs q
  ·have q:upd X.H₀ e (.frz o0 xu) b=some (.frz o u):=q;by_cases hb:b=e
   ·rw[hb,jx]at q ⊢;exact q
   ·rw[i6 hb]at q ⊢;exact un.frzs b o u q
  ·have q:upd X.H₀ e (.frz o0 xu) b=some (.tbl ps):=q;by_cases hb:b=e
   ·rw[hb,jx]at q;cases q
   ·rw[i6 hb]at q ⊢;exact un.tbls b ps q
 ·obtain⟨u,r,lk⟩:=hl i x v h1 h2 h3;refine⟨u,r,?_⟩
  rcases lk with⟨k,z⟩|⟨k,c,z,y⟩
  ·exact .inl ⟨k,z⟩
  ·exact .inr ⟨k,c,z,cel c _ y⟩
 ·obtain⟨v,z⟩:=I.cell x c h;exact⟨v,cel c v z⟩
 ·show upd H e _ X.env.locals=none;rw[i6 lne];exact I.free
 ·obtain⟨v,oc,q,d⟩:=I.cell x c h;rw[i6<|hs0 c oc q λvs y=>by rw[d]at y;cases y];exact I.freeC x c h
 ·have hp:p∈pn':=by
   have hp:p∈pn'++[]:=hp
   rwa [b5]at hp
  obtain⟨q,n,n1,n2,d⟩:=I.pin p<|b6 _ hp;obtain⟨o',z⟩:=c3 p hp;have z1:=k1 _ _ z;rw[q]at z1;have z1:p.2=o':=aS z1;refine⟨by rw[z1];exact F.1 _ _ z,?_,n1,n2,d⟩;rw[i6 λy=>by rw[y,F.2.1]at z;cases z];exact n
 ·by_cases hb:b=e
  ·subst hb;rw[jx]at q;cases q;exact⟨g1,trivial,⟨o0,g1⟩,λ_ _ _ _=>trivial⟩
  ·rw[i6 hb]at q;exact(hok b u q).stay (λ_ _ _ z=>z) (λc z=>by rw[i6<|jd z hn];exact z) λc xs z=>by rw[i6<|jd z hn];exact z
end
section
variable {X:Cx}{pins:bp}{σ:L2.St}{H:Hp}{s:aA}
def EG{A:az}{E:aa->aA->Prop}{i:Nat}{n:Str}{v:V}{Q:Unit->aA->Prop}(I:Inv X pins σ H s)(hN:X.N.Nodup)(hi:X.N[i]?=some n)(hlo:X.env.scope.names.lookup n=some .local)(hv:σ[i]?=some (some v))
  (h:∀s',Inv X pins (σ.set i none) H s'->Q Unit.unit s'):wpAny M A (unbindName X.env n) Q E s:=by
 obtain⟨m,hn,hl⟩:=id I.loc;obtain⟨u,r,lk⟩:=hl i n v hi hv<|.inl hlo;have hm:m n=some u:=by
  rcases lk with⟨_,z⟩|⟨k,_⟩
  ·exact z
  ·exfalso;have hk:X.env.kindOf n=some .local:=hlo
   rcases k with k|k<;>(rw[hk]at k;cases k)
 have hcl:(X.env.scope.kind == .class || (X.env.scope.kind == .module && X.env.locals != X.env.globals))=false:=by rw[I.ok.kind];rfl
 refine wpAny_unbindName_local hlo hn hm hcl λh' u' hn' hs=>?_;have far:∀b o,X.s₀.heap.get? b=some o->h'.get? b=s.heap.get? b:=λb o q=>hs.2 b<|aZ<|bx (aV q) I.ok.above;obtain⟨oL,_,_,hoL,_⟩:=id hn;refine h _ ⟨I.ok,I.os,I.bare,⟨λb o q a1 a2 a3=>(far b o q).trans<|I.base.keep b o q a1 a2 a3,λb o q a1 a2 a3=>?_,I.base.free,λb o q a3=>?_,I.base.tups,I.base.frzs,I.base.tbls⟩,⟨_,hn',λj y v' e1 e2 e3=>?_⟩,λy c q=>?_,I.free,I.freeC,λp hp=>?_,λb ob q=>?_,by rw[bw];exact I.len⟩
 ·obtain⟨sl,z⟩:=I.base.slot b o q a1 a2 a3;exact⟨sl,(far b o q).trans z⟩
 ·obtain⟨o',z⟩:=I.base.there b o q a3;exact⟨o',(far b o q).trans z⟩
 ·by_cases hj:j=i
  ·subst hj;have:j<σ.length:=(aI.mp hv).1;rw[bQ this]at e2
   cases e2
  ·rw[bR<|cG hj]at e2;obtain⟨w,r',q⟩:=hl j y v' e1 e2 e3;refine⟨w,r',?_⟩
   rcases q with⟨k,z⟩|⟨k,c,z,y'⟩
   ·have:y≠n:=λz=>hj<|vn hN e1<|z ▸ hi;exact .inl ⟨k,by simp[this,z]⟩
   ·exact .inr ⟨k,c,z,y'.sameBut hs<|I.JJ y c z⟩
 ·obtain⟨w,z⟩:=I.cell y c q;exact⟨w,z.sameBut hs<|I.JJ y c q⟩
 ·obtain⟨z,n0,ne,nf,d⟩:=I.pin p hp;exact⟨(hs.2 p.1 ne).trans z,n0,ne,nf,d⟩
 ·refine(I.hok b ob q).stay (λc w hc z=>(hs.2 c ?_).trans z) (λ_ z=>z) λ_ _ z=>z;intro y
  rcases hc with hc|hc
  ·rw[<- hc,y,I.free]at q;cases q
  ·rw[y,I.free]at hc;cases hc
def Inv.wH(I:Inv X pins σ H s)(xe':aa->aA->Prop):Inv (X.wH (X.pn++pins) xe') [] σ H s:=
 ⟨⟨I.ok.mod,I.ok.kind,I.ok.glob,I.ok.blt,I.ok.above,I.ok.inj,I.ok.has,I.ok.cab,I.ok.hd,I.ok.frames,I.ok.stk,I.ok.exf,I.ok.bs,I.ok.bsz,I.ok.noex,I.ok.exfs,I.ok.pV,I.ok.frf⟩,I.os,I.bare,I.base,I.loc,I.cell,I.free,I.freeC,λp hp=>I.pin p (by
  have hp:p∈(X.pn++pins)++[]:=hp
  rwa [b5]at hp),I.hok,I.len⟩
def Inv.Ei{xe':aa->aA->Prop}(I:Inv (X.wH (X.pn++pins) xe') pins' σ H s):Inv X pins σ H s:=
 ⟨⟨I.ok.mod,I.ok.kind,I.ok.glob,I.ok.blt,I.ok.above,I.ok.inj,I.ok.has,I.ok.cab,I.ok.hd,I.ok.frames,I.ok.stk,I.ok.exf,I.ok.bs,I.ok.bsz,I.ok.noex,I.ok.exfs,I.ok.pV,I.ok.frf⟩,I.os,I.bare,I.base,I.loc,I.cell,I.free,I.freeC,λp hp=>I.pin p<|b6 _ hp,I.hok,I.len⟩
def Inv.NT(I:Inv (X.hand (X.pn++pins) e oe) pins' σ H s)(ok:X.Ok)(f0:Fr0 X e):Inv X pins σ H s:=
 have h0:∀b o,X.s₀.heap.get? b=some o->X.H₀ b=none->upd X.H₀ e (.frz oe xu) b=none:=λb o q n=>by
  rw[i6 λz=>f0.no o<|by rw[<- z];exact q];exact n
 ⟨ok,I.os,I.bare,⟨λb o q n=>I.base.keep b o q<|h0 b o q n,λb o q n=>I.base.slot b o q<|h0 b o q n,λb o q n=>I.base.free b o q<|h0 b o q n,I.base.there,λb xs q=>I.base.tups b xs<|show upd X.H₀ e (.frz oe xu) b=_ by rw[i6 λz=>f0.tup xs<|by rw[<- z];exact q];exact q,λb o u q=>I.base.frzs b o u<|show upd X.H₀ e (.frz oe xu) b=_ by rw[i6 λz=>f0.frz o u<|by rw[<- z];exact q];exact q,λb ps q=>I.base.tbls b ps<|show upd X.H₀ e (.frz oe xu) b=_ by rw[i6 λz=>f0.tbl ps<|by rw[<- z];exact q];exact q⟩,I.loc,I.cell,I.free,I.freeC,λp hp=>I.pin p<|b6 _ hp,I.hok,I.len⟩
end
section
variable {M:Model}{A:az}{E:aa->aA->Prop}{h:ak}{g:Array GenState}{d:Drawn}{t:Nat}{os:OsState}{C N D N':aj}{nm q nm' q':Str}{bs bm bs' bm':ba}{hdct hdct':Bool}{sn sn':ar}{sub sub':ba}{ab ab':Bool}{col col':bj}{dd dd':Option aj}{k0 k1 k2 k3 k5 k0' k1' k2' k3' k5':bd}{newId newId':String}
def wG{oe:Obj}{Q:Bool->aA->Prop}(hC:h.get? C=some (excClassObj nm q C N bs bm hdct sn sub ab col dd k0 k1 k2 k3 k5 newId))(hD:h.get? D=some (excClassObj nm' q' D N' bs' bm' hdct' sn' sub' ab' col' dd' k0' k1' k2' k3' k5' newId'))
  (he:h.get? e=some oe) (hcls:oe.cls=.ref C) (hbase:bm'.contains (.type "BaseException")=true) (hq:Q ((Value.ref C::bm).contains<|.ref D) ⟨h,g,d,t,os⟩):wpAny M A (excMatches (.ref e)<|.ref D) Q E ⟨h,g,d,t,os⟩:=by
 have hcB:(Value.ref D::bm').contains (.type "BaseException")=true:=by rw[List.contains_cons,hbase,Bool.or_true]
 have f:=tc_notTuple;unfold excMatches
 repeat (first|(with_reducible refine wpAny_loadPart_at he ?_;rw[hcls])|with_reducible refine wpAny_loadPart_at hD ?_|(with_reducible refine wpAny_isSubtype_exc hD ?_;rw[hcB])|with_reducible refine wpAny_isSubtype_exc hC ?_|wp_step)
 cases hb:(Value.ref C::bm).contains (.ref D)<;>(rw[hb]at hq;wp_walk;exact hq)
end
abbrev mroIn (K:au)(C:aj):Option (ba):=match K.lookup C with
 | some ⟨.type "type",_,.cls cd,sl⟩=>(match cd.mro,sl.toList with
  | .ref C'::bm,[_,_,_,_,some<|.builtin _,_]=>if C'=C/\cd.hasDel=false then some bm else none
  | _,_=>none)
 | _=>none
structure ClsAt (h:ak)(C:aj)(bm:ba):Prop where
 ex:∃nm q N bs hdct sn sub ab col dd k0 k1 k2 k3 k5 newId,h.get? C=some (excClassObj nm q C N bs bm hdct sn sub ab col dd k0 k1 k2 k3 k5 newId)
def IG{K:au}(X:K.In h)(e:mroIn K C=some bm):ClsAt h C bm:=by
 unfold mroIn at e;split at e
 ·rename_i dd cd sl ho;split at e
  ·rename_i C' bm' k0 k1 k2 k3 n k5 hm hs;split at e
   ·rename_i hc
    cases e
    obtain⟨rfl,hdel⟩:=hc;obtain⟨nm,bs,mro,ns,qn,hd,sn,sub,ab,col,del⟩:=cd;dsimp only at hm hdel;subst hm hdel;have hsl:sl=#[k0,k1,k2,k3,some<|.builtin n,k5]:=by
     obtain⟨l⟩:=sl;simp only at hs;rw[hs]
    subst hsl;exact⟨nm,qn,ns,bs,hd,sn,sub,ab,col,dd,k0,k1,k2,k3,k5,n,X _ _ ho⟩
   ·cases e
  ·cases e
 ·cases e
abbrev RE (i:Nat)(D:Ends):Ends:=⟨λσ H=>D.nx (σ.set i none) H,D.rt,λσ H=>D.bk (σ.set i none) H,λσ H=>D.ct (σ.set i none) H⟩
section
variable {X:Cx}{pins pins':bp}{xe':aa->aA->Prop}{σ:L2.St}{H:Hp}{s':aA}{e C Dc:aj}{bm bmD:ba}{x n:Str}{i:Nat}{De:Ends}{b0:aE}{suite:List aE}{np hp:Pos}
def AH{f:Flow}(hN:X.N.Nodup)(hi:X.N[i]?=some n)(hlo:X.env.scope.names.lookup n=some .local)(ok:X.Ok)(f0:Fr0 X e)(h:SP (X.hand (X.pn++pins) e oe) [] (RE i De) f s2) :
  wpAny (model X.prog X.w) X.A (do bindName X.env n .none;unbindBehindTheSuite X.env n pos) (λ_ s3=>SP X pins De f s3) X.xe s2:=by
 have hl:∀{σ':L2.St} {H':Hp},Inv (X.hand (X.pn++pins) e oe) [] σ' H' s2->(∀s3,Inv X pins (σ'.set i none) H' s3->SP X pins De f s3)->wpAny (model X.prog X.w) X.A (do bindName X.env n .none;unbindBehindTheSuite X.env n pos) (λ_ s3=>SP X pins De f s3) X.xe s2:=λ{σ' H'} J k=>by
  have J:=J.NT ok f0;have hiσ:i<σ'.length:=by rw[J.len];exact(aI.mp hi).1
  refine aF<|wpAny_bindName<|n8 (v:=.non) J hN hi (.inl hlo) rfl (λs3 J3=>?_)<|.inr hlo;unfold unbindBehindTheSuite;refine wpAny_onRaise (EG (v:=.non) J3 hN hi hlo (bQ hiσ) λs4 J4=>k s4 ?_)
  rwa [List.set_set]at J4
 cases f with
 | next=>obtain⟨σ',H',J,q⟩:=h;exact hl J λs3 J3=>⟨_,_,J3,q⟩
 | brk=>obtain⟨σ',H',J,q⟩:=h;exact hl J λs3 J3=>⟨_,_,J3,q⟩
 | cont=>obtain⟨σ',H',J,q⟩:=h;exact hl J λs3 J3=>⟨_,_,J3,q⟩
 | ret u=>obtain⟨v,σ',H',J,r,q⟩:=h;exact hl J λs3 J3=>⟨v,_,_,J3,r,q⟩
def Jv(hst:X.stack=X.env::X.outer)(hf:X.env.frame=some X.env.locals)(hex:X.ex=[])(hN:X.N.Nodup)(hi:X.N[i]?=some n)(hlo:X.env.scope.names.lookup n=some .local)(hg:Gl X x)(hm:X.mg x=some (.ref Dc))(mD:mroIn X.K Dc=some bmD)(hbD:bmD.contains (.type "BaseException")=true)
  (I:Inv (X.wH (X.pn++pins) xe') pins' σ H s') (R:vg (X.wH (X.pn++pins) xe') H e (.ref C) s') (mC:mroIn X.K C=some bm) (hCD:(Value.ref C::bm).contains (.ref Dc)=true)
  (k:∀oe s6,XO C oe->H e=none->Inv (X.hand (X.pn++pins) e oe) [] (σ.set i<|some<|.ref e) (upd H e<|.frz oe xu) s6->wpAny (model X.prog X.w) (X.A.mark<|some<|.ref e) (execs (b0::suite) X.env) (SP (X.hand (X.pn++pins) e oe) []<|RE i De) (λ_ _=>False) s6)
  (ok:X.Ok) (hdb:(x == ("__debug__" : Str))=false) :
  wpAny (model X.prog X.w) X.A (noteFrame (.ref e) X.env) (λ_ s2=>wpAny (model X.prog X.w) X.A (setFlight (.ref e) none) (λ_ s3=>wpAny (model X.prog X.w) X.A (handleBy (.ref e) X.env [.ExceptHandler (some<|.Name x np) (some n) (b0::suite) hp]) (SP X pins De) X.xe s3) X.xe s2) X.xe s':=by
 refine Et I hst hf R λh4 B a0 held k1 up4 c1 c2 c3 z4=>?_;refine cS (jk.any (e:=e) (jk.flight _ _) (wpAny_landsW (Q:=λ_ s''=>∃h',s''={ s' with heap:=h' }/\Heap.FlyingW B (X.env::X.outer) e (.ref C) a0 h'/\h4.UpToSlots h') (E:=λ_ _=>False) held λh' y1 y2=>⟨h',rfl,y1,y2⟩) z4) (λ_ s'' z=>?_) λ_ _ z=>z.1.elim;obtain⟨⟨h5,rfl,F5,up5⟩,z5⟩:=z;obtain⟨_,_,o5,x5,I5⟩:=xS I hex F5 k1 (up4.trans up5) c1 c2 c3 z5;refine wpAny_handleBy_cons (codeAny_handlers_test<|uY (X:=X.hand (X.pn++pins) e o5) I5 hg hm ?_ hdb) (by intro q;cases q);obtain⟨g1,_⟩:=I5.hok e _ jx;obtain⟨_,_,_,_,_,_,_,_,_,_,_,_,_,_,_,_,hC⟩:=(IG I5.wD mC).ex;obtain⟨_,_,_,_,_,_,_,_,_,_,_,_,_,_,_,_,hD⟩:=(IG I5.wD mD).ex;refine wG hC hD g1 x5.cls hbD ?_;rw[hCD];refine codeAny_handlers_suite_as ?_;refine cS (jk.any (e:=e) (jk.flight _ _) (lands_againW (Q:=λ_ s''=>∃h',s''={ s' with heap:=h' }/\Heap.FlyingW B (X.env::X.outer) e (.ref C) a0 h'/\h5.UpToSlots h') (E:=λ_ _=>False) F5 λh' y1 y2=>⟨h',rfl,y1,y2⟩) z5) (λ_ s'' z=>?_) λ_ _ z=>z.1.elim;obtain⟨⟨h6,rfl,F6,up6⟩,z6⟩:=z;obtain⟨f0,n6,o6,x6,I6⟩:=xS I hex F6 k1 ((up4.trans up5).trans up6) c1 c2 c3 z6;refine n8 (X:=X.hand (X.pn++pins) e o6) (v:=.ref e) I6 hN hi (.inl hlo) rfl (λs7 I7=>?_)<|.inr hlo;exact cS (k o6 s7 x6 n6 I7) (λf s8 h8=>AH hN hi hlo ok f0 h8) λ_ _ z=>z.elim
end
open PySem.W in
structure XCls (K:au)(C:aj):Prop where
 ga:findIn K (.ref C) "__getattribute__" = some (some<|.builtin "BaseException.__getattribute__")
 gt:findIn K (.ref C) "__getattr__" = some none
 fc:findObj K C none "__class__" = some (.bind (.builtin "getset_descriptor.__get__")<|.builtin "object.__class__")
 ob:PySem.W.mroIn K C (.type "object")=some true
 bs:subIn K (.ref C) (.type "BaseException")=some true
section
open PySem.W
variable {K:au}{C a:aj}{ox:Obj}{prog:ah}{w:af}{A:az}{E:aa->aA->Prop}{h:ak}{g:Array GenState}{d:Drawn}{t:Nat}{os:OsState}
def FA{Q:Fin->aA->Prop}(x:XCls K C)(X:K.In h)(I:PySem.W.InstAt h a ox C none)(hq:Q (.done<|.ret<|.ref C) ⟨h,g,d,t,os⟩) :
  wpAny (model prog w) A (Builtin.«object.__getattribute__» ⟨[.ref a,.str "__class__" tk],[]⟩) Q E ⟨h,g,d,t,os⟩:=by
 have L0:=I.type (M:=model prog w);have L1:=looks_find (M:=model prog w) X I x.fc;unfold Builtin.«object.__getattribute__»
 repeat (first|with_reducible refine aF (iE ?_)|with_reducible refine iE ?_|lk)
 refine class_get X I x.ob ?_
 repeat lk
 exact hq
def Jp{Q:Unit->aA->Prop}(x:XCls K C)(X:K.In h)(I:PySem.W.InstAt h a ox C none)(hq:Q Unit.unit ⟨h,g,d,t,os⟩):wpAny M A (checkBuiltinCall "BaseException.__getattribute__" ⟨[.ref a,nv],[]⟩) Q E ⟨h,g,d,t,os⟩:=by
 have hk:builtinKind "BaseException.__getattribute__" = some .slot:=by decide +kernel
 have hs:splitId "BaseException.__getattribute__" = some ("BaseException", "__getattribute__"):=by decide +kernel
 have LI:Looks M h (isInstance (.ref a)<|.type "BaseException") true:=(I.type (M:=M)).andThen<|looks_subIn X x.bs;have hA:=F.args_bexc_ga (.ref a) nv;dsimp[checkBuiltinCall,hk,hs];refine aF<|LI.at ?_;show wpAny M A (match Manifest.signature? "BaseException.__getattribute__" with
  | some sig=>Bind.checkArgs "BaseException.__getattribute__" sig { pos:=[Value.ref a,nv]}
  | x=>pure Unit.unit) Q E _
 cases hsig:Manifest.signature? "BaseException.__getattribute__" with
 | none=>exact aH hq
 | some sig=>
  dsimp[argsOk,hsig]at hA;have h2:Bind.checkArgs "BaseException.__getattribute__" sig ⟨[.ref a,nv],[]⟩=pure Unit.unit:=hA;show wpAny M A (Bind.checkArgs "BaseException.__getattribute__" sig ⟨[.ref a,nv],[]⟩) Q E _;rw[h2];exact aH hq
def JK(self:aa):bindSpecial (.builtin "BaseException.__getattribute__") self=pure (.builtin "BaseException.__getattribute__",[self]):=by
 have h1:withoutEnding? "BaseException.__getattribute__" "#opaque" = none:=by decide +kernel
 have h2:withoutEnding? "BaseException.__getattribute__" "#data" = none:=by decide +kernel
 have hk:builtinKind "BaseException.__getattribute__" = some .slot:=by decide +kernel
 dsimp[bindSpecial,typeOf,builtinType,h1,h2,hk];rfl
def Pp{Q:aa->aA->Prop}(x:XCls K C)(X:K.In h)(I:PySem.W.InstAt h a ox C none)(hq:Q (.ref C) ⟨h,g,d,t,os⟩):wpAny (model prog w) A (getAttrBy (.ref a) (.str "__class__" tk) false) Q E ⟨h,g,d,t,os⟩:=by
 have L0:=I.type (M:=model prog w);have L1:=looks_findIn (M:=model prog w) X x.ga;have L2:=looks_findIn (M:=model prog w) X x.gt;unfold getAttrBy;refine cu<|aF<|L0.at<|aF<|L1.at ?_;show wpAny _ _ (if (onTheHeap (Value.ref C) && Value.builtin "BaseException.__getattribute__" == Value.builtin "object.__getattribute__")=true then _ else getAttrByItsOwn (.ref a) (.str "__class__" tk) (.ref C) (.builtin "BaseException.__getattribute__") false false) _ _ _;have ne:(Value.builtin "BaseException.__getattribute__" == Value.builtin "object.__getattribute__")=false:=by decide +kernel
 rw[ne,iL,aL aX];unfold getAttrByItsOwn hookBefore;rw[aM<|show onTheHeap (Value.ref C)=true from rfl];refine aF<|L2.at<|aF<|d7<|cu ?_;unfold callGetattribute boundAndCalled
 skip
 rw[JK,pure_bind];refine iE<|codeAny_call_builtin ∅ F.entry_bexc_ga (Jp x X I<|FA x X I ?_);exact aH hq
def Ht{Q:bd->aA->Prop}(x:XCls K C)(X:K.In h)(I:PySem.W.InstAt h a ox C none)(hq:Q (some<|.ref C) ⟨h,g,d,t+1,os⟩):wpAny (model prog w) A (getAttr? (.ref a) "__class__") Q E ⟨h,g,d,t,os⟩:=by
 unfold getAttr? getAttrBy?;refine aF<|wpAny_mkText<|aF<|d7<|Pp x X I ?_;exact aH hq
abbrev Ti (C a:aj):ak->Prop:=λh=>∃ox,PySem.W.InstAt h a ox C none
def Ib(x:XCls K C)(hc:(clsIn K C).isSome=true):KitX K (.ref a) (.ref C) (Ti C a) where
 ty:=λ_ _ _ ⟨_,I⟩=>I.type
 it:=λ_ _ X _=>by
  unfold clsIn at hc;split at hc
  ·rename_i ho;intro A' Q' E' s' k q;unfold isType loadHead;exact aF (wpAny_loadPart (k _ _<|X _ _ ho)<|aH q)
  ·cases hc
 ne:=λh tp dd its n sl X htp=>by
  refine Bool.eq_false_iff.mpr λq=>?_;have e:C=tp:=Value.ref.inj<|fF.mp q;subst e;unfold clsIn at hc;split at hc
  ·rename_i ho;have z:=(X _ _ ho).symm.trans htp
   cases z
  ·cases hc
 ca:=λ{_ _ _ _ _ s} X ⟨_,I⟩ k=>by
  obtain⟨hh,gg,dd,tt,oo⟩:=s;exact Ht x X I k
end
section
variable {X:Cx}{C:aj}{pins:bp}{σ:L2.St}{H:Hp}{s:aA}
def BC{A:az}{E:aa->aA->Prop}{Q:aa->aA->Prop}{a:aj}(x:XCls X.K C)(hc:(PySem.W.clsIn X.K C).isSome=true)(I:Inv X pins σ H s)(ha:H a=some (.frz oe xu))(hx:XO C oe)(e:PySem.W.kitOne X.K (.ref C) c=some b)(h:∀tk,Q (.bool b) { s with toks:=tk }) :
  wpAny (model X.prog X.w) A (call (.builtin "isinstance") [.ref a,c]) Q E s:=by
 obtain⟨g1,_⟩:=I.hok a _ ha;obtain⟨g2,g5,vs,g3,g4⟩:=hx;refine cg (Ib x hc) I.wD ⟨oe,g1,g2,?_,?_⟩ e (λz=>nomatch z) h
 ·unfold PySem.W.notCls;rw[g3]
 ·rw[g5];trivial
end
end L2
namespace L2
open PySem PySem.Spec PyProof.Rows
def wO:entryFor table "proto.unchain" = some Builtin.«proto.unchain»:=entryFor_of_fast<|by kernel_rfl
section
variable {prog:ah}{w:af}{A:az}{E:aa->aA->Prop}{s:aA}{e n:aj}{oe on:Obj}{vs ns:Array aa}
def AQ{α:Type}{Q:α->aA->Prop}(hh:A.handled=some (.ref e))(he:s.heap.get? e=some oe)(hd:oe.data=.fields vs)(h2:vs[2]?=some .none)(hn:s.heap.get? n=some on)(nd:on.data=.fields ns)(n2:2<ns.size)(ne:e≠n)
  (h:E (.ref n) { s with heap:=s.heap.update n<|Obj.mapFields (·.setIfInBounds 2 (.ref e))}):wpAny (model prog w) A (raiseNew (.ref n):Sem α) Q E s:=by
 unfold raiseNew;refine aF<|iz ?_;rw[hh];show wpAny _ _ (if (Value.ref e != Value.ref n)=true then _ else _) _ _ _;rw[aM<|by simp[ne]];refine aF<|cu<|gS<|c5 wO ?_;unfold Builtin.«proto.unchain»;refine aF<|cU he hd h2 ?_;rw[aM<|show(Value.none == Value.none)=true from rfl];refine aH ?_
 skip
 exact aF<|cY hn nd n2<|wpAny_throw h
def Bs{i:Nat}{Q:bd->aA->Prop}(hh:A.handled=some (.ref e))(he:s.heap.get? e=some oe)(hd:oe.data=.fields vs)(h2:vs[2]?=some .none)(nit:e≠it)
  (hit:s.heap.IsListIter it l i) (hl:s.heap.IsList l items) (hx:items[i]?=none) (hQ:∀h',Heap.ExtBut it s.heap h'->Q none { s with heap:=h' }):wpAny (model prog w) A (pyNext<|.ref it) Q E s:=by
 obtain⟨o,ho,hc,ho2⟩:=id hit;obtain⟨ol,hol,_,nl,hdl⟩:=hl;unfold pyNext;refine aF<|d7<|bY (name:=Str.ofString "__next__") hit.typeIs slot_listiter_next<|cj slot_listiter_next hit.typeIs entry_listiter_next ?_<|args_listiter_next _;show wpAny _ _ (field (.ref it) 0 >>= _) _ _ _;refine aF (cU ho ho2 (x:=.ref l) rfl ?_)
 skip
 rw[aL<|show ¬((Value.ref l == Value.none)=true)from aX]
 skip
 refine aF (cU ho ho2 (x:=.int i 0) rfl ?_)
 skip
 refine aF<|fU hol hdl ?_;dsimp[bE,hx];refine aF (c7<|aF<|cY ho ho2 (by simp) ?_)
 skip
 refine aF ?_;dsimp[newExc,newTuple];refine aF (br ?_<|by size_fits);refine aF (m:=firstArgMember _ _) (gz (a:=Value.none) (by first|rfl|(dsimp[firstArgMember];rfl)) ?_);refine br ?_ (by size_fits);have he1:∀(f:Obj->Obj),(s.heap.update it f).get? e=some oe:=λf=>by rw[b7 _ _<|cG nit];exact he
 have hlt:∀(f:Obj->Obj) (o1:Obj),e≠((s.heap.update it f).push o1).objs.size:=λf o1=>aZ<|aV<|aJ _<|he1 f;refine AQ (A:=A.in1) hh (aJ _<|aJ _<|he1 _) hd h2 (aU _ rfl) rfl (by simp[ownMembersOf]) (hlt _ _) ?_;refine aF<|gf (T := "StopIteration") (b:=true) ⟨_,bO _ (aU _ rfl)<|cF<|bP rfl _,eS ..⟩ isSubtype_stop ?_;refine aH<|hQ _ λb o' hb q=>?_;have q2:=((bZ it (Obj.mapFields λx=>x.setIfInBounds 0 Value.none) (h:=s.heap)).extBut.push { cls:=Value.type "tuple",data:=Data.seq #[]}) b o' hb q;rw[b7 _ _<|cG<|aZ<|aV q2];exact aJ _ q2
def yk(hh:A.handled=some (.ref e))(hd:oe.data=.fields vs)(h2:vs[2]?=some .none)(it ax:aj)(hne:ax≠it)(nit:e≠it)(items:Array aa) :
  Walks prog w A it [it,ax,e] [it] items.size (λi v=>items[i]?=some v) (λi h=>(h.IsListIter it ax i/\h.IsList ax items)/\h.get? e=some oe) where
 sub:=λb hb=>by simp at hb;simp[hb]
 frame:=λ_ _ _ st hk=>⟨⟨st.1.1.at λo q=>hk it (by simp) o q,st.1.2.at λo q=>hk ax (by simp) o q⟩,hk e (by simp) oe st.2⟩
 item:=λi s Q E hi st hQ=>by
  refine wpAny_pyNext_list_item st.1.1 st.1.2 (x:=items[i]) (by simp[hi]) λh' it' sb=>?_;exact hQ _ h' s.toks (by simp[hi]) ⟨⟨it',st.1.2.extBut sb.extBut hne⟩,sb.extBut e oe nit st.2⟩ λb o hb q=>sb.extBut b o (λz=>hb<|by simp[z]) q
 done:=λs Q E st hQ=>Bs hh st.2 hd h2 nit st.1.1 st.1.2 (by simp) λh' q=>hQ h' s.toks λb o hb z=>q b o (λy=>hb<|by simp[y]) z
 self:=λ_ _ _ _ st hQ=>wpAny_pyIter_listiter st.1.1 hQ
end
section
variable {X:Cx}{e C:aj}{oe:Obj}
def E7(hh:X.A.handled=some (.ref e))(h0:X.H₀ e=some (.frz oe xu))(ho:XO C oe):jt X (.builtin "any") (λxs H Q=>∃(p:aj) (bs:List Bool),xs=[.ref p]/\lE X.K H p (bs.map V.bl)/\Q (.bl<|bs.any id) H):=by
 kt_k;obtain⟨p,bs,rfl,hq,q⟩:=h;kl_no
 cases rx
 obtain⟨its,rv,pl,hz⟩:=I.list hq;have hb:=Ay rv;have hl:=pl.isList;obtain⟨ge,_⟩:=I.hok e _<|I.base.frzs e oe xu h0;obtain⟨vs,d1,d2⟩:=ho.ctx;have hlt:p<s.heap.objs.size:=by obtain⟨_,z,_⟩:=hl;exact aV z
 refine call_any_walk<|fO hl ?_;refine⟨s.heap.objs.size,[s.heap.objs.size,p,e],[s.heap.objs.size],its.toArray.size,_,_,λi=>(bs[i]?).getD false,rfl,yk (A:=X.A.in1) hh d1 d2 _ p (aZ hlt) (aZ<|aV ge) its.toArray,
  ⟨⟨⟨_,aU _ rfl,rfl,rfl⟩,hl.push _⟩,aJ _ ge⟩,λi v s' Q' E' hP hQ=>?_,λh' tk hk=>?_⟩
 ·obtain⟨b,z,rfl⟩:=hb.get i v (by simpa using hP);dsimp[z,c8]at hQ;exact ck hQ
 ·have z:((List.range its.toArray.size).any λi=>(bs[i]?).getD false)=bs.any id:=by
   rw[aP,hb.length];exact LSm.range_any bs
  rw[z];exact⟨.bl _,H,I.kept<|LSm.kept_iter hk,rfl,q⟩
end
abbrev OJ (A:az):az:={ A with handled:=none }
abbrev P8 (k:Nat)(A:az):Prop:=Room k<|OJ A
structure Hnd (A:az)(H:Hp)(e:aj)(oe:Obj)(C:aj):Prop where
 hh:A.handled=some (.ref e)
 h0:H e=some (.frz oe xu)
 xo:XO C oe
structure FnOkH (P:ah)(w:af)(K:au)(mg:Str->bd)(base:ak)(k:Nat)(f:aj)(fd:FuncData)(ps:ar)(sp:Sp):Prop where
 len:∀vs H Q E,sp vs H Q E->vs.length=ps.length
 run:∀(A:az) (outer:List Env) (s:aA) (H:Hp) (args:Args) (us:ba) (vs:List V) (Q:VK) (e:aj) (oe:Obj) (C:aj),P8 k A->Hnd A H e oe C->Env0 P w K mg base A outer s H->BindsTo s fd args (ps.zip us)->Vals vs us->sp vs H Q E0 ->
  codeAny (model P w) A (.call (.ref f) args) (CR qF outer P w H s Q E0) s
end L2
namespace L2
open PySem PySem.Spec PyProof.Rows PySem.SeqAt
def vB{prog:ah}{w:af}{A:az}{E:aa->aA->Prop}{β:Type}{f:Nat->β->Sem (ForInStep β)}(I:Nat->β->aA->Prop)(Q:β->aA->Prop)
  (turn:∀i c s,i<b->I i c s->wpAny (model prog w) A (f i c) (λr s'=>match r with | .done c'=>Q c' s' | .yield c'=>I (i+1) c' s') E s)
  (fin:∀c s,I b c s->Q c s) {c:β} {s:aA} (h:I 0 c s):wpAny (model prog w) A (forIn [0:b] c f) Q E s:=by
 rw[Std.Legacy.Range.forIn_eq_forIn_range'];dsimp[Std.Legacy.Range.size,iF,Nat.add_sub_cancel,Nat.div_one];refine wpAny_forIn_list f (λl c s=>∃i,i<=b/\l=List.range' i (b-i) 1/\I i c s) Q ?_ ?_ _ _ ⟨0,cE _,rfl,h⟩
 ·rintro x rest c s ⟨i,hib,hl,hI⟩;have hlt:i<b:=by
   rcases lt_or_ge i b with h'|h'
   ·exact h'
   ·rw[show b-i=0 by lia]at hl;simp at hl
  obtain⟨n,hn⟩:∃n,b-i=n+1:=⟨b-i-1,()⟩;rw[hn,e9]at hl;obtain⟨rfl,rfl⟩:=List.cons.inj hl;refine cS (turn x c s hlt hI) (λr s' h'=>?_) λ_ _ q=>q
  cases r with
  | done c'=>exact h'
  | yield c'=>exact⟨x+1,hlt,by congr 1;lia,h'⟩
 ·rintro c s ⟨i,hib,hl,hI⟩;have:b-i=0:=by
   rcases Nat.eq_zero_or_pos (b-i)with z|z
   ·exact z
   ·obtain⟨n,hn⟩:∃n,b-i=n+1:=⟨b-i-1,()⟩;rw[hn,e9]at hl;cases hl
  have:i=b:=()
  subst this;exact fin c s hI
def wL(l:aj)(items:Array aa)(n:Nat)(dd:Option aj)(sl:Array<|bd)(x:aa)(e:aa->Bool)(j:Nat)(hj:j<items.size)(hit:e items[j]=true)(hno:∀m (hm:m<items.size),m<j->e items[m]=false) :
  Meets (Builtin.«tuple.index» ⟨[.ref l,x],[]⟩)
   (λA R s=>s.heap.get? l=some { cls:=.type "tuple",dict:=dd,data:=.seq items n,slots:=sl }/\(∀y,y∈items->EqAt A.in1 s y x (e y))/\R (.ok<|.ret<|.int j s.toks) { s with toks:=s.toks+1 }):=
 .of_wp λprog w A R s h=>by
  obtain⟨hp,g,d,tk,os⟩:=s;obtain⟨hl,he,h⟩:=h
  wp_walk using wpAny_loadPart' hl,vB (λi b s'=>b.1=none/\s'=⟨hp,g,d,tk,os⟩/\i<=j) _
  case turn=>
   rintro i b s' hi ⟨hb,rfl,hij⟩;have hi':i<items.size:=()
   rw[bN hi'];refine aF (he _ (Array.getElem_mem hi') prog w _ _ ?_)
   rcases lt_or_ge i j with q|q
   ·rw[hno i hi' q]
    wp_walk
    exact⟨rfl,rfl,q⟩
   ·have:i=j:=()
    subst this;rw[hit]
    wp_walk
    exact⟨_,rfl,h⟩
  case fin=>
   rintro⟨b1,b2⟩ s' ⟨hb,rfl,hij⟩
   lia
  case h=>exact⟨rfl,rfl,cE _⟩
abbrev Ng (K:au)(tup:Bool):V->List V->Hp->VK->Prop:=λx vs H Q=>∃(p:aj) (y:V) (xs:List V) (k:Nat) (z:V),x=.ref p/\vs=[y]/\(if tup=true then kQ K H p xs else lE K H p xs)/\o8 y=true/\xs.all o8=true/\xs[k]?=some z/\Be z y=true/\(∀(m:Nat) (z':V),m<k->xs[m]?=some z'->Be z' y=false)/\Q (.int k) H
section
variable {X:Cx}
def q_{xs:List V}{its:ba}{k:Nat}(r:Vals xs its)(f:xs.all o8=true)(hk:xs[k]?=some z)(hz:Be z y=true)(hno:∀m z',m<k->xs[m]?=some z'->Be z' y=false) :
  ∃hj:k<its.toArray.size,OM y its.toArray[k]=true/\∀m (hm:m<its.toArray.size),m<k->OM y its.toArray[m]=false:=by
 have fl:∀m z',xs[m]?=some z'->o8 z'=true:=λm z' h=>iA.mp f z'<|bf h;obtain⟨u,hu,ru⟩:=r.get hk;obtain⟨hj,e⟩:=aI.mp hu;refine⟨by simpa using hj,?_,λm hm hmk=>?_⟩
 ·rw[eW,e,BX ru<|fl k z hk];exact hz
 ·have hm':m<xs.length:=by have:=(aI.mp hk).1;lia
  obtain⟨u',hu',ru'⟩:=r.get<|aG hm';obtain⟨_,e'⟩:=aI.mp hu';rw[eW,e',BX ru'<|fl m _<|aG hm'];exact hno m _ hmk<|aG hm'
def KY:OQ X "tuple.index" (Ng X.K true):=by
 intro pins s σ H x vs v us Q I rx rv ⟨p,y,xs,k,z,hx,hvs,hq,fy,fs,hk,hz,hno,q⟩;subst hx hvs
 cases rx
 obtain⟨u,rfl,ru⟩:=rv.one;obtain⟨its,r,pl,hsz⟩:=I.tuple hq;obtain⟨hj,h1,h2⟩:=q_ r fs hk hz hno;obtain⟨⟨cls,dd,data,sl⟩,ho,hc,n,hd⟩:=id pl;simp only at hc hd;subst hc hd;exact gR F.slot_tuple_index ⟨_,ho,rfl⟩ F.entry_tuple_index (F.args_tuple_index_2 _ _) (wL p its.toArray n dd sl u (OM y) k hj h1 h2) ⟨ho,λw hw=>we ru fy r fs w<|by simpa using hw,.int k,H,I.tok _,⟨_,rfl⟩,q⟩
def KU:OQ X "list.index" (Ng X.K false):=by
 intro pins s σ H x vs v us Q I rx rv ⟨p,y,xs,k,z,hx,hvs,hq,fy,fs,hk,hz,hno,q⟩;subst hx hvs
 cases rx
 obtain⟨u,rfl,ru⟩:=rv.one;obtain⟨its,r,pl,hsz⟩:=I.list hq;obtain⟨hj,h1,h2⟩:=q_ r fs hk hz hno;obtain⟨⟨cls,dd,data,sl⟩,ho,hc,n,hd⟩:=id pl.isList;simp only at hc hd;subst hc hd;have:=qM;have hz':k<xs.length:=(aI.mp hk).1;exact gR F.slot_list_index ⟨_,ho,rfl⟩ F.entry_list_index (F.args_list_index_2 _ _) (SeqAt.list_indexAt p its.toArray n dd sl u (OM y) k hj () h1 h2) ⟨ho,λw hw=>we ru fy r fs w<|by simpa using hw,.int k,H,I.tok _,⟨_,rfl⟩,q⟩
abbrev Rt (K:au)(to:TE)(t:TA):TE:=λσ H Q=>to σ H λx H1=>∃(b:Bool) (p:aj) (xs:List V),x=.ref p/\(if b=true then kQ K H1 p xs else lE K H1 p xs)/\t σ H1 λvs H2=>Ng K b x vs H2 Q
def Ov{to:TE}{t:TA}{apos cpos:Pos}(ho:PE X o to)(ha:PA X (e::es) t)
  (hbase:attributeBase o "index" X.env (eval o X.env)=eval o X.env:=by rfl)
  (hfew:((backTo cpos<|starEach (e::es) X.env).all (λx=>!x.1) && (backToKw cpos<|keywordEach [] X.env).all (λx=>x.1.isSome)
   && decide ((e::es).length+([]:List Keyword).length+(if ([]:List Keyword).isEmpty then 0 else 1)<30))=true:=by rfl)
  (hline:(apos.endLine == cpos.line)=true:=by rfl) (hs:starEach (e::es) X.env=(false,eval e X.env)::starEach es X.env:=by rfl) (hplain:(backTo cpos<|starEach es X.env).any (·.1)=false:=by rfl) :
  PE X (.Call (.Attribute o "index" apos) (e::es) [] cpos) (Rt X.K to t):=by
 w_up;refine wpAny_Call_method_late hbase hfew hline rfl<|jP (ho pins s σ H _ I h) λv s1 ⟨x,H1,I1,r1,b,p,xs,hx,hq,q1⟩=>?_;subst hx
 cases r1
 cases b with
 | true=>
  obtain⟨ob,g1,g2,g3⟩:=I1.NI hq;refine⟨"tuple", "tuple.index",PySem.F.plainAttrs_tuple,PySem.F.slot_tuple_index,PySem.F.type_tuple_index,⟨ob,g1,g2⟩,λa e=>by cases e;exact⟨ob,g1,g3⟩,?_⟩;have hA:=ha cpos pins s1 σ H1 _ I1 q1;rw[hs]at hA ⊢;refine fQ (by show(false || (backTo cpos<|starEach es X.env).any (·.1))=false;rw[hplain]<;>rfl)<|eU ?_;exact jP hA λus s2 ⟨vs,H2,I2,r2,q2⟩=>KY pins s2 σ H2 (.ref p) vs _ us Q I2 rfl r2 q2
 | false=>
  obtain⟨its,r,⟨ob,n,g1,g2,g3,g4⟩,hz⟩:=I1.list hq;refine⟨"list", "list.index",PySem.F.plainAttrs_list,PySem.F.slot_list_index,PySem.F.type_list_index,⟨ob,g1,g2⟩,λa e=>by cases e;exact⟨ob,g1,g3⟩,?_⟩;have hA:=ha cpos pins s1 σ H1 _ I1 q1;rw[hs]at hA ⊢;refine fQ (by show(false || (backTo cpos<|starEach es X.env).any (·.1))=false;rw[hplain]<;>rfl)<|eU ?_;exact jP hA λus s2 ⟨vs,H2,I2,r2,q2⟩=>KU pins s2 σ H2 (.ref p) vs _ us Q I2 rfl r2 q2
end
end L2
namespace L2
open PySem PySem.Spec PyProof.Rows
abbrev OL (K:au)(a:aj):It:=
 ⟨λi H=>∃xs x,lE K H a xs/\xs[i]?=some x,λi H x H'=>∃T,H T=none/\x=.ref T/\∀xs y,lE K H a xs->xs[i]?=some y->H'=upd H T (.tup [.int i,y]),λi H=>∃xs,lE K H a xs/\xs.length=i⟩
def Bk{P:ah}{w:af}{K:au}(a e it:aj)(hei:e≠it):Turn P w K (.Tuple elts x1 tpos) (OL K a) [e,it] e (λi h=>(∃old,IsEnum h e it i old)/\h.IsListIter it a i) where
 mem:=by simp
 obj:=λi h st b hb=>by
  ksr_p;have hb':b=e\/b=it:=by simpa using hb
  rcases hb' with rfl|rfl
  ·exact⟨_,st1,λv z=>by cases z⟩
  ·obtain⟨o,e,c,d⟩:=st2;exact⟨o,e,λv z=>by rw[d]at z;cases z⟩
 keep:=λi h h' st k=>by
  ksr_p;exact⟨⟨old,k e (by simp) _ st1⟩,st2.at λo ho=>k it (by simp) o ho⟩
 item:=by
  x_go;subst hP hw hK;ksr_p;obtain⟨xs,x,hq,hx⟩:=hg;obtain⟨its,rv,p,hz⟩:=I.list hq;obtain⟨u,hu,ru⟩:=rv.get hx;have hia:a≠it:=by
   obtain⟨o,ho,hc1,_⟩:=p.isList;obtain⟨o2,ho2,hc2,_⟩:=st2;intro z;rw[z,ho2]at ho
   cases ho
   rw[hc1]at hc2;exact absurd (eV hc2) ⋯
  have hea:e≠a:=by
   obtain⟨o,ho,hc1,_⟩:=p.isList;intro z;rw[<- z,st1]at ho
   cases ho
   exact absurd (eV hc1) ⋯
  have hlt:i<its.toArray.size:=by
   rw[aP];exact(aI.mp hu).1
  refine wpAny_pyNext_enum_itemD (Draws.list (A:=X.A.in1) (I.ok.hd hc) it a hia its.toArray) st1 ⟨st2,p.isList⟩ hlt hei (by simp[hei,hea]) λx' h' tk hP hout hst hT hsz hk=>?_;have ex:x'=u:=by
   have:its.toArray[i]?=some u:=by simpa using hu
   rw[this]at hP;exact(aS hP).symm
  subst ex;refine⟨_,rfl,wpAny_letOwnedTupleGo_enum hout λh2 he2 hs2=>?_⟩;have fT:H s.heap.objs.size=none:=I.hok.fresh<|aN _;have hel:e<s.heap.objs.size:=aV st1;have hil:it<s.heap.objs.size:=by obtain⟨o,ho,_⟩:=st2;exact aV ho
  have k2:∀b o,b≠e->b≠it->s.heap.get? b=some o->h2.get? b=some o:=λb o h1 h3 q=>hs2.extBut b o h1<|hk b o h1 h3 q;have hT2:h2.get? s.heap.objs.size=some { cls:=.type "tuple",data:=.seq #[.int i tk,x']}:=hs2.extBut _ _ (fN hel) hT;obtain⟨e0,e1,e2,e3,e4,e5⟩:=hf e (by simp);obtain⟨i0,i1,i2,i3,i4,i5⟩:=hf it (by simp);have nT:∀b o,s.heap.get? b=some o->b≠s.heap.objs.size:=λb o q=>aZ<|aV q;have ne_tr:∀c v,H c=some v->c≠e/\c≠it:=λc v q=>⟨(λz=>by rw[z,e0]at q;cases q),(λz=>by rw[z,i0]at q;cases q)⟩;have I2:Inv X pins σ (upd H s.heap.objs.size<|.tup [.int i,x]) { s with heap:=h2,toks:=tk+1 }:=by
   refine I.step (g':=s.gens) (d':=s.drawn) (ch:=[e,it]) (λb hb=>?_) (λb o _ _ hch q _=>?_) (λb o _ _ hch q _=>?_) (λb o hch q n=>?_) (λb o hch q=>?_) (λb ys q=>?_) (λb o u' q=>?_) (λb ps q=>?_) (λm hm=>?_) (λb u' q=>?_) I.bare
   ·have hb':b=e\/b=it:=by simpa using hb
    rcases hb' with rfl|rfl
    ·exact⟨e3,e1,e4,e5⟩
    ·exact⟨i3,i1,i4,i5⟩
   ·exact k2 b o (λz=>hch<|by simp[z]) (λz=>hch<|by simp[z]) q
   ·exact⟨o.slots,k2 b o (λz=>hch<|by simp[z]) (λz=>hch<|by simp[z]) q⟩
   ·rw[i6<|nT b o q];exact n
   ·exact⟨o,k2 b o (λz=>hch<|by simp[z]) (λz=>hch<|by simp[z]) q⟩
   ·rw[i6<|jd q fT];exact q
   ·rw[i6<|jd q fT];exact q
   ·exact⟨#[],by rw[i6<|jd q fT,q];simp⟩
   ·obtain⟨o,es,ep,ho,r⟩:=hm;exact⟨o,es,ep,k2 _ o (cG e1) (cG i1) ho,r⟩
   ·by_cases z:b=s.heap.objs.size
    ·subst z;rw[jx]at q
     cases q
     exact⟨by show 2<=sizeLine;decide,[.int i tk,x'],.cons ⟨tk,rfl⟩<|.cons ru .nil,⟨_,hT2,rfl,rfl,0,rfl⟩⟩
    ·rw[i6 z]at q;refine(I.hok b u' q).stay (λc v hc q'=>k2 c v ?_ ?_ q') (λc q'=>?_) λc ys q'=>?_
     ·rcases hc with z|z
      ·rw[z];exact(ne_tr b u' q).1
      ·exact(ne_tr c _ z).1
     ·rcases hc with z|z
      ·rw[z];exact(ne_tr b u' q).2
      ·exact(ne_tr c _ z).2
     ·rw[i6<|jd q' fT];exact q'
     ·rw[i6<|jd q' fT];exact q'
  refine⟨.ref s.heap.objs.size,_,I2,rfl,⟨s.heap.objs.size,fT,rfl,λys y hy hyi=>?_⟩,⟨⟨x',by simpa using he2⟩,?_⟩,λb hb=>?_⟩
  ·rw[I.zO hy hq]at hyi;rw[hx]at hyi
   cases hyi
   rfl
  ·exact hst.1.at λo ho=>hs2.extBut it o (cG hei) ho
  ·have hb':b=e\/b=it:=by simpa using hb
   rcases hb' with rfl|rfl
   ·rw[i6<|aZ hel];exact e0
   ·rw[i6<|aZ hil];exact i0
 done:=by
  x_go;subst hP hw hK;ksr_p;obtain⟨xs,hq,hx⟩:=hg;obtain⟨its,rv,p,hz⟩:=I.list hq;obtain⟨i0,i1,i2,i3,i4,i5⟩:=hf it (by simp);have hia:a≠it:=by
   obtain⟨o,ho,hc1,_⟩:=p.isList;obtain⟨o2,ho2,hc2,_⟩:=st2;intro z;rw[z,ho2]at ho
   cases ho
   rw[hc1]at hc2;exact absurd (eV hc2) ⋯
  have hl:=rv.length;have ei:its.toArray.size=i:=by rw[aP,<- hl,hx]
  exact wpAny_pyNext_enum_endD (Draws.list (A:=X.A.in1) (I.ok.hd hc) it a hia its.toArray) st1 ⟨by rw[ei];exact st2,p.isList⟩ λh' eb=>⟨rfl,I.turned (t':=s.toks) (λb o hb q=>eb b o hb q) i0 i1 i3 i4 i5⟩
 self:=λ_ _ _ _ _ st h=>let⟨⟨_,st1⟩,_⟩:=st;fV st1 h
section
variable {X:Cx}
abbrev Ms (K:au)(ta:TA):TI:=λσ H R=>ta σ H λvs H1=>∃a xs,vs=[.ref a]/\lE K H1 a xs/\R (OL K a) H1
def G3{a:aC}{ta:TA}{p:Pos}(hg:Gl X "enumerate")(hm:X.mg "enumerate" = none)(ha:PA X [a] ta)(hs:starEach [a] X.env=[(false,eval a X.env)]:=by rfl):PI X (.Tuple elts x1 tpos) (.Call (.Name "enumerate" p) [a] [] pos) (Ms X.K ta):=by
 intro pins s σ H R I h;refine Call_<|qL I hg hm sd<|cW (jP (ha pos pins s σ H _ I h) λus s1 ⟨vs,H1,I1,r1,q1⟩=>?_) hs rfl;obtain⟨t,xs,e,hq,q⟩:=q1;subst e;obtain⟨u,rfl,rx⟩:=vals1 r1
 cases rx
 obtain⟨its,rv,pt,hz⟩:=I1.list hq;refine call_enumerate_list pt.isList λh' he hit hsz hk=>?_;have I3:Inv X pins σ H1 { s1 with heap:=h' }:=I1.kept (t':=s1.toks) hk;have hne:s1.heap.objs.size+1≠s1.heap.objs.size:=()
 refine fV he ⟨_,[_,s1.heap.objs.size],_,_,H1,rfl,I3,Bk t _ s1.heap.objs.size hne,⟨⟨.none,he⟩,hit⟩,λb hb=>?_,q⟩;have hb':b=s1.heap.objs.size+1\/b=s1.heap.objs.size:=by simpa using hb
 rcases hb' with rfl|rfl
 ·exact I1.yM (g_ _) (I1.hok.fresh<|g_ _)
 ·kln_w
end
def Jt{X:Cx}{i:Nat}{spos:Pos}{iter:aC}{N:ar}{wi:TI}{g:TG}{tc:TT}{te:TE}
  (hN:X.N.Nodup) (hi':X.N[i]?=some y) (hx:Loc X.env.scope y) (hc:X.calm=true) (S:CpScope X scope N cap) (hi:PI X tg iter wi)
  (hg:∀C s₀ H₀ ex,PG (lI X scope N C s₀ H₀ ex) tg g) (ht:∀C s₀ H₀ ex,Na (lI X scope N C s₀ H₀ ex) ifs tc) (he:∀C s₀ H₀ ex,PE (lI X scope N C s₀ H₀ ex) elt te)
  (hsw:swapsWith (.ListComp elt [⟨tg,iter,ifs,0⟩] scope pos) (some<|.Name y py) spos.line X.env=pure true)
  (hf:X.fn y=true\/X.env.scope.names.lookup y=some .local) (hs:∀x,foldedSetIterable iter X.env x=pure x:=by intro _;rfl) :
  PS X (.Assign [.Name y py] (.ListComp elt [⟨tg,iter,ifs,0⟩] scope pos) spos) (KN (QC cap wi g tc te)<|Gb i):=by
 kpc_g;rw[exec_Assign_Name_used _ _ _ _ hsw];refine aF (iu<|aF ?_)
 skip
 refine aF<|cS (Cw (ok:=λY=>Y.calm=true) (Q':=λ_ s'=>SP X pins D .next s') S (λ_ _ _ _ _=>hc) (PI.g hi) hg ht he hs pins s σ H _ I h ?_) (λ_ s' hq=>aH<|aH hq) λ_ _ e=>e;intro s6 C Dd H5 m hn fk inv q v;have Ia:=inv s6.heap<|Heap.SameBut.refl _ _;obtain⟨oC,hoC⟩:∃o,s6.heap.get? C=some o/\∀v,o.data≠.cell v:=by
  obtain⟨o,es,ep,e,d,_⟩:=hn;exact⟨o,e,λv z=>by rw[d]at z;cases z⟩
 have Ip:=Ia.pinned (fp:=[C]) (λb hb=>by rw[bh]at hb;rw[hb];exact fk) (λb hb=>by rw[bh]at hb;rw[hb];exact⟨oC,hoC⟩)
 skip
 refine jP (Ef hN hi' hx hf _ s6 σ H5 (.ref Dd) (.ref Dd) _ Ip rfl q) λ_ s7 h9=>?_;obtain⟨σ7,H7,I7,q7⟩:=h9;have hp:=I7.pin (C,oC)<|bF _<|bF _<|mT (bh.mpr rfl) hoC.1;refine⟨m,hn.at' λo e=>by rw[hoC.1]at e;cases e;exact hp.1,λh' sb=>?_⟩;have nC:∀c v,H7 c=some v->c≠C:=λc v e z=>by rw[z,hp.2.1]at e;cases e
 refine⟨σ7,H7,?_,q7⟩;refine I7.qi.Lu (ch:=[C]) rfl ⟨λb o e n hb hx=>?_,λb o e n hb hx=>?_,λb o e n hx=>n,λb o e hx=>?_,λ_ _ e=>e,λ_ _ _ e=>e,λ_ _ e=>⟨#[],by rw[Array.append_empty];exact e⟩⟩ ?_ I7.bare ?_
 ·exact sb.extBut b o (by simpa using hx) e
 ·exact⟨o.slots,sb.extBut b o (by simpa using hx) e⟩
 ·exact⟨o,sb.extBut b o (by simpa using hx) e⟩
 ·intro b o e;refine(I7.hok b o e).stay (λc v hc q=>sb.extBut c v ?_ q) (λ_ q=>q) λ_ _ q=>q
  rcases hc with z|z
  ·rw[z];exact nC b o e
  ·exact nC c _ z
 ·intro b hb;rw[bh]at hb;rw[hb];exact⟨fk.2.2.2.1,fk.2.1,fk.2.2.2.2.1,fk.2.2.2.2.2⟩
end L2
namespace Sx
open PySem PyProof.Rows
structure Ord where
 lt:Nat->Nat->Bool
 J9:∀i,lt i i=false
 tr:∀i j k,lt i j=true->lt j k=true->lt i k=true
 neg:∀i j k,lt i k=true->lt i j=true\/lt j k=true
abbrev P (o:Ord)(i j:Nat):Prop:=o.lt i j=true\/(o.lt j i=false/\i<j)
def Ord.Rm(o:Ord)(h:o.lt i j=true):o.lt j i=false:=by
 cases e:o.lt j i with
 | false=>rfl
 | true=>have:=o.tr _ _ _ h e;rw[o.J9]at this;cases this
def P.J9(h:P o i i):False:=by
 rcases h with h|⟨_,h⟩
 ·rw[o.J9]at h;cases h
 ·lia
def P.trans{k:Nat}(a:P o i j)(b:P o j k):P o i k:=by
 rcases a with a|⟨a,a'⟩
 ·rcases b with b|⟨b,b'⟩
  ·exact .inl (o.tr _ _ _ a b)
  ·rcases o.neg i k j a with z|z
   ·exact .inl z
   ·rw[b]at z;cases z
 ·rcases b with b|⟨b,b'⟩
  ·rcases o.neg j i k b with z|z
   ·rw[a]at z;cases z
   ·exact .inl z
  ·refine .inr ⟨?_,()⟩
   cases e:o.lt k i with
   | false=>rfl
   | true=>
    rcases o.neg k j i e with z|z
    ·rw[b]at z;cases z
    ·rw[a]at z;cases z
def P.of_lt{o:Ord}(h:o.lt i j=true):P o i j:=.inl h
def P.uA{o:Ord}(h:o.lt j i=false)(hij:i<j):P o i j:=.inr ⟨h,hij⟩
def P.lt{o:Ord}(h:P o i j)(hij:j<i):o.lt i j=true:=by
 rcases h with h|⟨_,h⟩
 ·exact h
 ·lia
def P.ge{o:Ord}(h:P o i j):o.lt j i=false:=by
 rcases h with h|⟨h,_⟩
 ·exact o.Rm h
 ·exact h
abbrev So (o:Ord)(g:Nat->Nat)(a b:Nat):Prop:=∀i j,a<=i->i<j->j<b->P o (g i) (g j)
abbrev Cl (g:Nat->Nat)(a b:Nat):Prop:=∀i,a<=i->i<b->a<=g i/\g i<b
abbrev rev (g:Nat->Nat)(i j:Nat):Nat->Nat:=λk=>if i<=k/\k<j then g (i+j-1-k)else g k
abbrev mv (g:Nat->Nat)(src dst:Nat):Nat->Nat:=λk=>if k=dst then g src else if dst<k/\k<=src then g (k-1)else g k
def vm{g:Nat->Nat}{k:Nat}(h:i<=k)(h2:k<j):rev g i j k=g (i+j-1-k):=aM ⟨h,h2⟩
def mq{g:Nat->Nat}{k:Nat}(h:k<i\/j<=k):rev g i j k=g k:=aL ()
def Gq{g:Nat->Nat}:mv g s d d=g s:=aM rfl
def Ac{g:Nat->Nat}{k:Nat}(h:d<k)(h2:k<=s):mv g s d k=g (k-1):=by
 unfold mv;rw[aL (),aM ⟨h,h2⟩]
def yb{g:Nat->Nat}{k:Nat}(hd:d<=s)(h:k<d\/s<k):mv g s d k=g k:=by
 unfold mv;rw[aL (),aL ()]
section
variable {prog:ah}{w:af}{A:az}{E:aa->aA->Prop}{s:aA}{o:Ord}{N:Nat}{f:Nat->Keyed}{kd:SortKind}{g:Nat->Nat}{p:Array (Nat×Nat×Nat)}{st:SortSt}
abbrev xH (prog:ah)(w:af)(A:az)(s:aA)(o:Ord)(N:Nat)(f:Nat->Keyed)(kd:SortKind):Prop:=
 ∀i j,i<N->j<N->∀(E':aa->aA->Prop) (Q:Bool->aA->Prop),Q (o.lt i j) s->wpAny (model prog w) A (keyLt' kd (f i).1 (f j).1) Q E' s
structure Sg (N:Nat)(f:Nat->Keyed)(kd:SortKind)(g:Nat->Nat)(p:Array (Nat×Nat×Nat))(st:SortSt):Prop where
 size:(arrOf st).size=N
 get:∀i,i<N->(arrOf st)[i]?=some (f<|g i)
 lt:∀i,i<N->g i<N
 kind:kindOf st=kd
 failed:failedOf st=none
 pend:pendingOf st=p
def wB(C:xH prog w A s o N f kd)(hk:kindOf st=kd)(hi:i<N)(hj:j<N){Q:bj->SortSt->Prop}(q:Q (some<|o.lt i j) st):wpS (model prog w) A E s (lt' (f i)<|f j) Q st:=by
 rw[lt'_eq];refine aQ<|fW ?_;rw[hk];refine aQ<|wpS_lift<|d7<|C i j hi hj _ _ ⟨rfl,?_⟩;exact aW q
def jn{xs:Array Keyed}{i:Nat}{x:Keyed}(e:xs[i]?=some x){Q:Keyed->SortSt->Prop}(q:Q x st):wpS (model prog w) A E s (elem' xs i) Q st:=by
 rw[elem'_eq,e];exact aW q
def rH(C:xH prog w A s o N f kd)(h:Sg N f kd g p st)(hi:i<N)(hj:j<N){Q:bj->SortSt->Prop}(q:Q (some<|o.lt (g i)<|g j) st):wpS (model prog w) A E s (ltAt' i j) Q st:=by
 rw[ltAt'_eq];refine aQ (fW ?_)
 skip
 exact aQ<|jn (h.get i hi)<|aQ<|jn (h.get j hj)<|wB C h.kind (h.lt i hi) (h.lt j hj) q
def Sg.arr(h:Sg N f kd g p st){xs:Array Keyed}{g':Nat->Nat}(hs:xs.size=N)(hg:∀i,i<N->xs[i]?=some (f<|g' i))(hl:∀i,i<N->g' i<N):Sg N f kd g' p (setArr st xs):=⟨hs,hg,hl,h.kind,h.failed,h.pend⟩
def uJ(h:Sg N f kd g p st)(hj:j<=N){Q:Unit->SortSt->Prop}(q:∀st',Sg N f kd (rev g i j) p st'->Q Unit.unit st'):wpS (model prog w) A E s (reverseSlice' i j) Q st:=by
 rw[reverseSlice'_eq];refine eK (q _<|h.arr (by rw[mirror_size];exact h.size) (λk hk=>?_) λk hk=>?_)
 ·rw[getElem?_mirror_all<|by rw[h.size];exact hj];unfold rev;by_cases c:i<=k/\k<j
  ·rw[aM c,aM c];exact h.get _ (by omega)
  ·rw[aL c,aL c];exact h.get _ hk
 ·unfold rev;by_cases c:i<=k/\k<j
  ·rw[aM c];exact h.lt _ (by omega)
  ·rw[aL c];exact h.lt _ hk
def Mw(h:Sg N f kd g p st){a:Nat}(ha:a<N)(hb:b<=a){Q:Unit->SortSt->Prop}(q:∀st',Sg N f kd (mv g a b) p st'->Q Unit.unit st'):wpS (model prog w) A E s (moveDown' a b) Q st:=by
 rw[moveDown'_eq];refine eK (q _<|h.arr (by rw[bubble_size];exact h.size) (λk hk=>?_) λk hk=>?_)
 ·rw[getElem?_bubble (by rw[h.size];exact ha) _ (),show a-(a-b)=b by lia];unfold mv;by_cases c:k=b
  ·rw[aM c,aM c];exact h.get _ ha
  ·rw[aL c,aL c];by_cases c2:b<k/\k<=a
   ·rw[aM c2,aM c2];exact h.get _ ()
   ·rw[aL c2,aL c2];exact h.get _ hk
 ·unfold mv;by_cases c:k=b
  ·rw[aM c];exact h.lt _ ha
  ·rw[aL c];by_cases c2:b<k/\k<=a
   ·rw[aM c2];exact h.lt _ ()
   ·rw[aL c2];exact h.lt _ hk
structure Rn (o:Ord)(g0 g:Nat->Nat)(a b:Nat):Prop where
 out:∀i,i<a\/b<=i->g i=g0 i
 cl:Cl g a b
 so:So o g a b
def Oc{g0:Nat->Nat}{lo k:Nat}(R:Rn o g0 g lo<|lo+k)(hk:g (lo+k)=lo+k)(hl:l<=k)(h1:∀i,i<l->P o (g<|lo+i) (lo+k))(h2:∀i,l<=i->i<k->P o (lo+k) (g<|lo+i)):Rn o g0 (mv g (lo+k)<|lo+l) lo (lo+(k+1)) where
 out i hi:=by rw[yb () ()];exact R.out i ()
 cl i a b:=by
  by_cases c:i=lo+l
  ·subst c;rw[Gq,hk];lia
  ·by_cases c2:lo+l<i
   ·rw[Ac c2 ()];have:=R.cl (i-1) () ()
    lia
   ·rw[yb () ()];have:=R.cl i () ()
    lia
 so i j a b d:=by
  by_cases c:i=lo+l
  ·subst c;rw[Gq,Ac b (),hk];have:=h2 (j-1-lo) () ()
   rwa [show lo+(j-1-lo)=j-1 by lia]at this
  ·by_cases c2:lo+l<i
   ·rw[Ac c2 (),Ac () ()];exact R.so _ _ () () ()
   ·rw[yb (k:=i) () ()];by_cases c3:j=lo+l
    ·subst c3;rw[Gq,hk];have:=h1 (i-lo) ()
     rwa [show lo+(i-lo)=i by lia]at this
    ·by_cases c4:lo+l<j
     ·rw[Ac c4 ()];exact R.so _ _ () () ()
     ·rw[yb () ()];exact R.so _ _ () () ()
def Nz(C:xH prog w A s o N f kd){g0:Nat->Nat}{lo n ok:Nat}(h:Sg N f kd g p st)(hn:lo+n<=N)(h1:1<=ok)(hok:ok<=n)(R:Rn o g0 g lo<|lo+ok)(hid:∀i,lo+ok<=i->i<lo+n->g0 i=i)
  {Q:Bool->SortSt->Prop} (q:∀g' st',Sg N f kd g' p st'->Rn o g0 g' lo (lo+n)->Q true st'):wpS (model prog w) A E s (binarySort' lo n ok) Q st:=by
 rw[binarySort'_eq,show max ok 1=ok by lia];refine aQ (dG (b_ (I:=λk c st'=>c=(none,Unit.unit)/\∃g',Sg N f kd g' p st'/\Rn o g0 g' lo (lo+min k n))
  (Q:=λc st'=>c=(none,Unit.unit)/\∃g',Sg N f kd g' p st'/\Rn o g0 g' lo (lo+n)) ?step ?fin ?init) ?post)
 case post=>
  rintro c st' ⟨rfl,g',h',R'⟩;exact aW<|q g' st' h' R'
 case init=>exact⟨rfl,g,h,by rw[show min ok n=ok by lia];exact R⟩
 case fin=>
  rintro c st' ⟨hc,g',h',R'⟩;exact⟨hc,g',h',by rwa [show min (max ok n) n=n by lia]at R'⟩
 case step=>
  rintro k c st' hak hkn ⟨rfl,g',h',R'⟩;rw[show min k n=k by lia]at R';have gk:g' (lo+k)=lo+k:=by rw[R'.out _ ()];exact hid _ () ()
  refine aQ (dG (b_ (I:=λx c s2=>s2=st'/\∃u v,c=(none,u,v)/\u<=v/\v<=k/\v-u<=k-x /\
    (∀i,i<u->P o (g'<|lo+i) (lo+k))/\(∀i,v<=i->i<k->P o (lo+k) (g'<|lo+i)))
   (Q:=λc s2=>s2=st'/\∃u v,c=(none,u,v)/\u<=k /\
    (∀i,i<u->P o (g'<|lo+i) (lo+k))/\(∀i,u<=i->i<k->P o (lo+k) (g'<|lo+i))) ?istep ?ifin ?iinit) ?ipost)
  case iinit=>exact⟨rfl,0,k,rfl,(),(),(),λi hi=>(),λi h1 h2=>()⟩
  case ifin=>
   rintro c s2 ⟨rfl,u,v,rfl,huv,hvk,hm,low,top⟩;have:u=v:=()
   subst this;exact⟨rfl,u,u,rfl,hvk,low,top⟩
  case istep=>
   rintro x c s2 _ hxk ⟨rfl,u,v,rfl,huv,hvk,hm,low,top⟩;dsimp only;by_cases hge:u>=v
   ·rw[aM hge];have:u=v:=()
    subst this;exact aW ⟨rfl,u,u,rfl,hvk,low,top⟩
   ·rw[aL hge];have hmk:(u+v) / 2<k:=()
    have gm:=R'.cl (lo+(u+v) / 2) () ();refine aQ<|rH C h' () () ?_;rw[gk]
    cases hless:o.lt (lo+k) (g'<|lo+(u+v) / 2)
    case true=>
     dsimp[dJ];refine aW ⟨rfl,u,(u+v) / 2,rfl,(),(),(),low,λi h1 h2=>?_⟩;by_cases c:i=(u+v) / 2
     ·subst c;exact .inl hless
     ·exact(P.of_lt hless).trans (R'.so _ _ () () ())
    case false=>
     dsimp[bA,cK];refine aW ⟨rfl,(u+v) / 2+1,v,rfl,(),(),(),λi h1=>?_,top⟩;have last:=P.uA hless gm.2;by_cases c:i=(u+v) / 2
     ·subst c;exact last
     ·exact(R'.so _ _ () () ()).trans last
  case ipost=>
   rintro c s2 ⟨rfl,u,v,rfl,huk,low,top⟩;dsimp only;refine aQ<|Mw h' () () λst3 h3=>?_;refine aW ⟨rfl,_,h3,?_⟩;rw[show min (k+1) n=k+1 by lia];exact Oc R' gk huk low top
end
meta abbrev As:=Option (bo)×Nat
meta abbrev Ds:=Option (bo)×Nat×Nat
abbrev GH (lo a nrem:Nat):StateT SortSt Sem As:=
 forIn [a:nrem] ((none,a):As) λ_ c=>do
  let x <- ltAt' (lo+c.2) (lo+c.2-1)
  match x with
  | some b=>if b=true then pure (ForInStep.done (none,c.2))else pure (ForInStep.yield (none,c.2+1))
  | _=>pure<|ForInStep.done (some none,c.2)
abbrev zv (lo n nrem:Nat):StateT SortSt Sem (bo):=do
 reverseSlice' lo (lo+n)
 let c <- GH lo n nrem
 match c.1 with
 | some r=>pure r
 | none=>pure<|some c.2
abbrev Kg (lo n nrem:Nat):StateT SortSt Sem Ds:=
 forIn [n:nrem] ((none,n,0):Ds) λ_ c=>do
  let x <- ltAt' (lo+c.2.1) (lo+c.2.1-1)
  match x with
  | some b=>
   if b=true then
    if c.2.2>0 then do
     reverseSlice' (lo+c.2.1-(c.2.2+1)) (lo+c.2.1)
     pure (ForInStep.yield (none,c.2.1+1,0))
    else pure (ForInStep.yield (none,c.2.1+1,0))
   else do
    let x <- ltAt' (lo+c.2.1-1) (lo+c.2.1)
    match x with
    | some b=>
     if b=true then pure (ForInStep.done (none,c.2.1,c.2.2))
     else pure (ForInStep.yield (none,c.2.1+1,c.2.2+1))
    | _=>pure<|ForInStep.done (some none,c.2.1,c.2.2)
  | _=>pure<|ForInStep.done (some none,c.2.1,c.2.2)
abbrev Fj (lo n nrem:Nat):StateT SortSt Sem (bo):=do
 liftM (rule "list.sort.descending-run")
 let c <- Kg lo (n+1) nrem
 match c.1 with
 | some r=>pure r
 | none=>
  if c.2.2>0 then do
   reverseSlice' (lo+c.2.1-(c.2.2+1)) (lo+c.2.1)
   zv lo c.2.1 nrem
  else zv lo c.2.1 nrem
def count_eq(lo nrem:Nat):countRun' lo nrem=(do
  let c <- GH lo 1 nrem
  match c.1 with
  | some r=>pure r
  | none=>
   if (c.2 == nrem)=true then pure (some c.2)
   else if c.2>1 then do
    let x <- ltAt' lo (lo+c.2-1)
    match x with
    | some b=>if b=true then pure (some c.2)else do
      reverseSlice' lo (lo+c.2)
      Fj lo c.2 nrem
    | _=>pure none
   else Fj lo c.2 nrem):=by
 rw[countRun'_eq];dsimp only;unfold Fj zv Kg GH;congr 1
 funext c
 obtain⟨r,n⟩:=c
 cases r with
 | some r=>rfl
 | none=>
  dsimp only;split
  ·rfl
  ·split
   ·congr 1
    funext x
    cases x with
    | none=>rfl
    | some b=>
     dsimp only;split
     ·rfl
     ·congr 1
      funext _r
      congr 1
      funext _u
      congr 1;congr 1
      funext s2
      obtain⟨r2,n2,q2⟩:=s2
      cases r2 with
      | some r2=>rfl
      | none=>
       dsimp only;split
       ·congr 1
        funext _v
        congr 1
        funext _w
        congr 1
        funext s3
        obtain⟨r3,n3⟩:=s3
        cases r3<;>rfl
       ·congr 1
        funext _w
        congr 1
        funext s3
        obtain⟨r3,n3⟩:=s3
        cases r3<;>rfl
   ·congr 1
    funext _u
    congr 1;congr 1
    funext s2
    obtain⟨r2,n2,q2⟩:=s2
    cases r2 with
    | some r2=>rfl
    | none=>
     dsimp only;split
     ·congr 1
      funext _v
      congr 1
      funext _w
      congr 1
      funext s3
      obtain⟨r3,n3⟩:=s3
      cases r3<;>rfl
     ·congr 1
      funext _w
      congr 1
      funext s3
      obtain⟨r3,n3⟩:=s3
      cases r3<;>rfl
section
variable {prog:ah}{w:af}{A:az}{E:aa->aA->Prop}{s:aA}{o:Ord}{N:Nat}{f:Nat->Keyed}{kd:SortKind}{g g0:Nat->Nat}{p:Array (Nat×Nat×Nat)}{st:SortSt}
def Rn.snoc{a:Nat}(R:Rn o g0 g a b)(hab:a<b)(hb:g b=b)(h:o.lt b (g<|b-1)=false):Rn o g0 g a (b+1) where
 out i hi:=R.out i ()
 cl i h1 h2:=by
  by_cases c:i=b
  ·subst c;lia
  ·have:=R.cl i h1 ();lia
 so i j h1 h2 h3:=by
  by_cases c:j=b
  ·subst c;rw[hb];have l:=R.cl (j-1) () ();have last:P o (g<|j-1) j:=P.uA h l.2;by_cases c2:i=j-1
   ·subst c2;exact last
   ·exact(R.so i (j-1) h1 () ()).trans last
  ·exact R.so i j h1 h2 ()
def IF(C:xH prog w A s o N f kd){lo a:Nat}(h:Sg N f kd g p st)(hn:lo+nrem<=N)(h1:1<=a)(han:a<=nrem)(R:Rn o g0 g lo<|lo+a)(hid:∀i,lo+a<=i->i<lo+nrem->g0 i=i)
  {Q:As->SortSt->Prop} (q:∀n,a<=n->n<=nrem->Rn o g0 g lo (lo+n)->(n=nrem\/o.lt (lo+n) (g<|lo+n-1)=true)->Q (none,n) st):wpS (model prog w) A E s (GH lo a nrem) Q st:=by
 unfold GH;refine b_ (I:=λx c st'=>st'=st/\c=(none,x)/\Rn o g0 g lo (lo+x)) ?step ?fin ⟨rfl,rfl,R⟩
 case fin=>
  rintro c st' ⟨rfl,rfl,R'⟩;rw[show max a nrem=nrem by lia]at R' ⊢;exact q nrem han (aN _) R'<|.inl rfl
 case step=>
  rintro x c st' hax hxn ⟨rfl,rfl,R'⟩;dsimp only;have gx:g (lo+x)=lo+x:=by rw[R'.out _ ()];exact hid _ () ()
  refine aQ<|rH C h () () ?_;rw[gx]
  cases hl:o.lt (lo+x) (g<|lo+x-1)
  case true=>
   dsimp[dJ];exact aW<|q x hax () R'<|.inr hl
  case false=>
   dsimp[bA,cK];exact aW ⟨rfl,rfl,R'.snoc () gx hl⟩
structure Dc (o:Ord)(g0 g:Nat->Nat)(a b q:Nat):Prop where
 out:∀i,i<a\/b<=i->g i=g0 i
 cl:Cl g a b
 few:a+(q+1)<=b
 dn:∀i j,a<=i->i<j->j<b->i<b-(q+1)->P o (g j) (g i)
 id:∀i,b-(q+1)<=i->i<b->g i=i
 al:∀i j,b-(q+1)<=i->i<b->b-(q+1)<=j->j<b->o.lt i j=false
def Dc.turn{a q:Nat}(D:Dc o g0 g a b q):(∀i,i<a\/b<=i->rev g (b-(q+1)) b i=g0 i)/\Cl (rev g (b-(q+1)) b) a b/\(∀i j,a<=i->i<j->j<b->P o (rev g (b-(q+1)) b j) (rev g (b-(q+1)) b i))/\(∀i,b-(q+1)<=i->i<b->∃k,rev g (b-(q+1)) b i=k/\b-(q+1)<=k/\k<b):=by
 have few:=D.few;have inn:∀i,b-(q+1)<=i->i<b->rev g (b-(q+1)) b i=b-(q+1)+b-1-i:=λi h1 h2=>by
  rw[vm h1 h2];exact D.id _ (by omega)<|by omega
 refine⟨λi hi=>?_,λi h1 h2=>?_,λi j h1 h2 h3=>?_,λi h1 h2=>⟨_,inn i h1 h2,by omega,by omega⟩⟩
 ·rw[mq<|by omega];exact D.out i hi
 ·by_cases c:i<b-(q+1)
  ·rw[mq<|by omega];exact D.cl i h1 h2
  ·rw[inn i (by omega) h2];omega
 ·by_cases c:i<b-(q+1)
  ·rw[mq (k:=i)<|by omega];by_cases c2:j<b-(q+1)
   ·rw[mq<|by omega];exact D.dn i j h1 h2 h3 c
   ·rw[inn j (by omega) h3];have:=D.dn i (b-(q+1)+b-1-j) h1 (by omega) (by omega) c
    rwa [D.id _ (by omega)<|by omega]at this
  ·rw[inn i (by omega)<|by omega,inn j (by omega) h3];exact P.uA (D.al _ _ (by omega) (by omega) (by omega)<|by omega)<|by omega
abbrev Fin (o:Ord)(g0 g:Nat->Nat)(a b:Nat):Prop:=(∀i,i<a\/b<=i->g i=g0 i)/\Cl g a b/\(∀i j,a<=i->i<j->j<b->P o (g j) (g i))
def Dc.zF{a:Nat}(D:Dc o g0 g a b 0):Fin o g0 g a b:=⟨D.out,D.cl,λi j h1 h2 h3=>D.dn i j h1 h2 h3 ()⟩
def Fin.rn{a:Nat}(D:Fin o g0 g a b):Rn o g0 (rev g a b) a b where
 out i hi:=by rw[mq hi];exact D.1 i hi
 cl i h1 h2:=by
  rw[vm h1 h2];exact D.2.1 _ () ()
 so i j h1 h2 h3:=by
  rw[vm h1 (),vm () h3];exact D.2.2 _ _ () () ()
def Fin.add{a:Nat}(D:Fin o g0 g a b)(hb:g b=b)(hab:a<b)(h:∀i,a<=i->i<b->P o b (g i)):Dc o g0 g a (b+1) 0 where
 out i hi:=D.1 i ()
 cl i h1 h2:=by
  by_cases c:i=b
  ·subst c;lia
  ·have:=D.2.1 i h1 ();lia
 few:=()
 dn i j h1 h2 h3 _:=by
  by_cases c:j=b
  ·subst c;rw[hb];exact h i h1 h2
  ·exact D.2.2 i j h1 h2 ()
 id i h1 h2:=by
  have:i=b:=()
  rw[this,hb]
 al i j h1 h2 h3 h4:=by
  have:i=j:=()
  rw[this];exact o.J9 _
def CF(C:xH prog w A s o N f kd){lo n:Nat}(h:Sg N f kd g p st)(hn:lo+nrem<=N)(h1:1<=n)(han:n<=nrem)(D:Fin o g0 g lo<|lo+n)(hid:∀i,lo<=i->i<lo+nrem->g0 i=i)
  {Q:bo->SortSt->Prop} (q:∀m g' st',Sg N f kd g' p st'->1<=m->m<=nrem->Rn o g0 g' lo (lo+m)->Q (some m) st'):wpS (model prog w) A E s (zv lo n nrem) Q st:=by
 unfold zv;refine aQ<|uJ h () λst2 h2=>?_;exact aQ<|IF C h2 hn h1 han D.rn (λi a b=>hid i () b) λm hm1 hm2 R _=>aW<|q m _ _ h2 () hm2 R
def Mn(C:xH prog w A s o N f kd){lo n:Nat}(h:Sg N f kd g p st)(hn:lo+nrem<=N)(h1:1<=n)(han:n<=nrem)(D:Dc o g0 g lo (lo+n) 0)(hid:∀i,lo<=i->i<lo+nrem->g0 i=i)
  {Q:Ds->SortSt->Prop} (q:∀m e g' st',Sg N f kd g' p st'->1<=m->m<=nrem->Dc o g0 g' lo (lo+m) e->Q (none,m,e) st'):wpS (model prog w) A E s (Kg lo n nrem) Q st:=by
 unfold Kg;refine b_ (I:=λx c st'=>∃e g',c=(none,x,e)/\Sg N f kd g' p st'/\Dc o g0 g' lo (lo+x) e) ?step ?fin ⟨0,g,rfl,h,D⟩
 case fin=>
  rintro c st' ⟨e,g',rfl,h',D'⟩;rw[show max n nrem=nrem by lia]at D' ⊢;exact q nrem e g' st' h' () (aN _) D'
 case step=>
  rintro x c st' hax hxn ⟨e,g',rfl,h',D'⟩;dsimp only;have few:=D'.few;have gx:g' (lo+x)=lo+x:=by rw[D'.out _ ()];exact hid _ () ()
  have gy:g' (lo+x-1)=lo+x-1:=D'.id _ () ();refine aQ<|rH C h' () () ?_;rw[gx,gy]
  cases hl:o.lt (lo+x) (lo+x-1)
  case true=>
   dsimp[dJ];by_cases he:e>0
   ·rw[aM he];obtain⟨t1,t2,t3,t4⟩:=D'.turn;refine aQ<|uJ h' () λst2 h2=>aW ⟨0,_,rfl,h2,?_⟩;refine Fin.add (b:=lo+x) ⟨t1,t2,t3⟩ (by rw[mq ()];exact gx) () λi a b=>?_;by_cases c:lo+x-(e+1)<=i
    ·obtain⟨k,ek,k1,k2⟩:=t4 i c b;rw[ek]
     rcases o.neg _ k _ hl with z|z
     ·exact .inl z
     ·rw[D'.al _ _ k1 k2 () ()]at z;cases z
    ·rw[mq ()];have:=D'.dn i (lo+x-1) a () () ();rw[gy]at this;exact(P.of_lt hl).trans this
   ·rw[aL he];have:e=0:=()
    subst this;refine aW ⟨0,_,rfl,h',Fin.add (b:=lo+x) D'.zF gx () λi a b=>?_⟩;by_cases c:i=lo+x-1
    ·subst c;rw[gy];exact .inl hl
    ·have:=D'.dn i (lo+x-1) a () () ();rw[gy]at this;exact(P.of_lt hl).trans this
  case false=>
   dsimp[bA,cK];refine aQ<|rH C h' () () ?_;rw[gx,gy]
   cases hg:o.lt (lo+x-1) (lo+x)
   case true=>
    dsimp[dJ];exact aW<|q x e g' st' h' () () D'
   case false=>
    dsimp[bA,cK];refine aW ⟨e+1,g',rfl,h',?_⟩;have eq1:∀i,lo+x-(e+1)<=i->i<lo+x->o.lt i (lo+x)=false/\o.lt (lo+x) i=false:=λi a b=>by
     constructor
     ·cases z:o.lt i (lo+x)with
      | false=>rfl
      | true=>
       rcases o.neg _ (lo+x-1) _ z with y|y
       ·rw[D'.al _ _ a b () ()]at y;cases y
       ·rw[hg]at y;cases y
     ·cases z:o.lt (lo+x) i with
      | false=>rfl
      | true=>
       rcases o.neg _ (lo+x-1) _ z with y|y
       ·rw[hl]at y;cases y
       ·rw[D'.al _ _ () () a b]at y;cases y
    exact {
     out:=λi hi=>D'.out i ()
     cl:=λi a b=>by
      by_cases c:i=lo+x
      ·subst c;lia
      ·have:=D'.cl i a ();lia
     few:=()
     dn:=λi j a b c d=>by
      by_cases z:j=lo+x
      ·subst z;rw[gx];have y:=D'.dn i (lo+x-1) a () () ();rw[gy]at y;have gi:=D'.cl i a ()
       rcases y with y|⟨_,y⟩
       ·rcases o.neg _ (lo+x) _ y with v|v
        ·rw[hg]at v;cases v
        ·exact .inl v
       ·lia
      ·exact D'.dn i j a b () ()
     id:=λi a b=>by
      by_cases z:i=lo+x
      ·subst z;exact gx
      ·exact D'.id i () ()
     al:=λi j a b c d=>by
      by_cases z:i=lo+x
      ·subst z;by_cases y:j=lo+x
       ·subst y;exact o.J9 _
       ·exact(eq1 j () ()).2
      ·by_cases y:j=lo+x
       ·subst y;exact(eq1 i () ()).1
       ·exact D'.al i j () () () ()}
def B8(C:xH prog w A s o N f kd){lo n:Nat}(h:Sg N f kd g p st)(hn:lo+nrem<=N)(han:n+1<=nrem)(D:Dc o g0 g lo (lo+(n+1)) 0)(hid:∀i,lo<=i->i<lo+nrem->g0 i=i)
  {Q:bo->SortSt->Prop} (q:∀m g' st',Sg N f kd g' p st'->1<=m->m<=nrem->Rn o g0 g' lo (lo+m)->Q (some m) st'):wpS (model prog w) A E s (Fj lo n nrem) Q st:=by
 unfold Fj;mg_lt;refine aQ<|Mn C h hn () han D hid λm e g' st' h' m1 m2 D'=>?_;dsimp only;by_cases he:e>0
 ·rw[aM he];obtain⟨t1,t2,t3,_⟩:=D'.turn;exact aQ (uJ h' () λst2 h2=>CF C h2 hn m1 m2 ⟨t1,t2,t3⟩ hid q)
 ·rw[aL he];have:e=0:=()
  subst this;exact CF C h' hn m1 m2 D'.zF hid q
def Hv(C:xH prog w A s o N f kd){lo:Nat}(h:Sg N f kd g p st)(hn:lo+nrem<=N)(h1:1<=nrem)(hid:∀i,lo<=i->i<lo+nrem->g i=i)
  {Q:bo->SortSt->Prop} (q:∀m g' st',Sg N f kd g' p st'->1<=m->m<=nrem->Rn o g g' lo (lo+m)->Q (some m) st'):wpS (model prog w) A E s (countRun' lo nrem) Q st:=by
 rw[count_eq];refine aQ (IF C h hn (aN 1) h1 (g0:=g) ⟨λ_ _=>rfl,λi a b=>?_,λi j a b c=>()⟩ (λi a b=>hid i () b) λn n1 n2 R hor=>?_)
 ·have:i=lo:=()
  subst this;rw[hid i (aN _) ()];lia
 dsimp only;by_cases hnn:n=nrem
 ·rw[aM<|by simpa using hnn];exact aW (q n g st h n1 n2 R)
 ·rw[aL<|by simpa using hnn];have hlt:=hor.resolve_left hnn;rw[hid (lo+n-1) () ()]at hlt;have gn:g (lo+n)=lo+n:=hid _ () ();by_cases hgt:n>1
  ·rw[aM hgt];refine aQ<|rH C h () () ?_;rw[hid lo () (),hid (lo+n-1) () ()]
   cases hr:o.lt lo (lo+n-1)
   case true=>
    dsimp[dJ];exact aW<|q n g st h n1 n2 R
   case false=>
    dsimp[bA,cK];have id':∀i,lo<=i->i<lo+n->g i=i:=λi a b=>hid i a ();have pp:∀i j,lo<=i->i<j->j<lo+n->o.lt i j=false/\o.lt j i=false:=λi j a b c=>by
     have r:=R.so i j a b c;rw[id' i a (),id' j () c]at r;refine⟨?_,r.ge⟩
     cases z:o.lt i j with
     | false=>rfl
     | true=>
      rcases o.neg _ lo _ z with y|y
      ·by_cases x:i=lo
       ·subst x;rw[o.J9]at y;cases y
       ·have r2:=R.so lo i () () ();rw[id' i a (),id' lo () ()]at r2;rw[r2.ge]at y;cases y
      ·rcases o.neg _ (lo+n-1) _ y with x|x
       ·rw[hr]at x;cases x
       ·by_cases v:j=lo+n-1
        ·subst v;rw[o.J9]at x;cases x
        ·have r2:=R.so j (lo+n-1) () () ();rw[id' j () c,id' (lo+n-1) () ()]at r2;rw[r2.ge]at x;cases x
    refine aQ<|uJ h () λst2 h2=>B8 C h2 hn () ?_ hid q;have rin:∀i,lo<=i->i<lo+n->rev g lo (lo+n) i=lo+(lo+n)-1-i:=λi a b=>by rw[vm a b];exact id' _ () ()
    refine Fin.add (b:=lo+n) ⟨λi hi=>mq hi,λi a b=>by rw[rin i a b];lia,λi j a b c=>?_⟩ (by rw[mq ()];exact gn) () λi a b=>?_
    ·rw[rin i a (),rin j () c];exact P.uA (pp _ _ () () ()).2 ()
    ·rw[rin i a b];by_cases x:lo+(lo+n)-1-i=lo+n-1
     ·rw[x];exact .inl hlt
     ·rcases o.neg _ (lo+(lo+n)-1-i) _ hlt with z|z
      ·exact .inl z
      ·rw[(pp _ _ () () ()).1]at z;cases z
  ·rw[aL hgt];have:n=1:=()
   subst this;refine B8 C h hn () ?_ hid q;refine Fin.add (b:=lo+1) ⟨λi hi=>rfl,R.cl,λi j a b c=>()⟩ gn () λi a b=>?_;have:i=lo:=()
   subst this;rw[hid i () ()];rw[show i+1-1=i by lia]at hlt;exact .inl hlt
end
abbrev kj:Bool->Keyed->Array Keyed->Nat->Nat->Nat->StateT SortSt Sem (bo):=sortPriv% PySem.Builtin.gallop
abbrev MA (ask:Nat->StateT SortSt Sem (bj))(n at0:Nat):StateT SortSt Sem (bo):=do
 let mut was:=0
 let mut far:=1
 let mut low:=0
 let mut top:=0
 let some yes <- ask at0|return none
 if yes then
  let most:=n-at0
  for _ in [0:n] do
   if far>=most then break
   let some ok <- ask (at0+far)|return none
   if !ok then break
   was:=far
   far:=2 * far+1
  low:=at0+was+1
  top:=at0+min far most
 else
  let most:=at0+1
  for _ in [0:n] do
   if far>=most then break
   let some hit <- ask (at0-far)|return none
   if hit then break
   was:=far
   far:=2 * far+1
  low:=at0+1-min far most
  top:=at0-was
 for _ in [0:n] do
  if low>=top then break
  let m:=low+(top-low) / 2
  let some ok <- ask m|return none
  if ok then low:=m+1 else top:=m
 return some top
def xU(left:Bool)(key:Keyed)(arr:Array Keyed)(base n hint:Nat):kj left key arr base n hint=MA (λi=>do
  let x <- elem' arr (base+i)
  if left then lt' x key else return (<- lt' key x).map (!·)) n hint:=rfl
section
variable {prog:ah}{w:af}{A:az}{E:aa->aA->Prop}{s:aA}{st:SortSt}
abbrev QT (be:Nat->StateT SortSt Sem (bj))(n l0 h0:Nat):StateT SortSt Sem (bo):=do
 let mut low:=l0
 let mut top:=h0
 for _ in [0:n] do
  if low>=top then break
  let m:=low+(top-low) / 2
  let some ok <- be m|return none
  if ok then low:=m+1 else top:=m
 return some top
def Lm{be:Nat->StateT SortSt Sem (bj)}{n h0:Nat}(b:Nat->Bool)(hbe:∀i,i<n->∀Q:bj->SortSt->Prop,Q (some<|b i) st->wpS (model prog w) A E s (be i) Q st)(hb:∀i j,i<=j->j<n->b j=true->b i=true)
  (hlh:l0<=h0) (hn:h0<=n) (hl:∀i,i<l0->b i=true) (hh:∀i,h0<=i->i<n->b i=false)
  {Q:bo->SortSt->Prop} (q:∀k,k<=n->(∀i,i<k->b i=true)->(∀i,k<=i->i<n->b i=false)->Q (some k) st):wpS (model prog w) A E s (QT be n l0 h0) Q st:=by
 unfold QT;refine aQ (dG (b_ (I:=λx c st'=>st'=st/\∃lo hi,c=(none,lo,hi)/\lo<=hi/\hi<=n/\hi-lo<=n-x/\(∀i,i<lo->b i=true)/\(∀i,hi<=i->i<n->b i=false))
  (Q:=λc st'=>st'=st/\∃k,c=(none,k,k)/\k<=n/\(∀i,i<k->b i=true)/\(∀i,k<=i->i<n->b i=false)) ?step ?fin ⟨rfl,l0,h0,rfl,hlh,hn,(),hl,hh⟩) ?post)
 case post=>
  rintro c st' ⟨rfl,k,rfl,h1,h2,h3⟩;exact aW<|q k h1 h2 h3
 case fin=>
  rintro c st' ⟨rfl,lo,hi,rfl,h1,h2,h3,h4,h5⟩;have:lo=hi:=()
  subst this;exact⟨rfl,lo,rfl,h2,h4,h5⟩
 case step=>
  rintro x c st' _ hx ⟨rfl,lo,hi,rfl,h1,h2,h3,h4,h5⟩;dsimp only;by_cases hge:lo>=hi
  ·rw[aM hge];have:lo=hi:=()
   subst this;exact aW ⟨rfl,lo,rfl,h2,h4,h5⟩
  ·rw[aL hge];have hm:lo+(hi-lo) / 2<hi:=()
   obtain⟨m,hm'⟩:∃m,m=lo+(hi-lo) / 2:=⟨_,rfl⟩;rw[<- hm']at hm ⊢;refine aQ (hbe m () _ ?_)
   cases hv:b m
   ·dsimp[bA,cK];refine aW ⟨rfl,lo,m,rfl,(),(),(),h4,λi a c=>?_⟩
    cases z:b i with
    | false=>rfl
    | true=>rw[hb m i a c z]at hv;cases hv
   ·dsimp[dJ];exact aW ⟨rfl,m+1,hi,rfl,(),h2,(),λi a=>hb i m () () hv,h5⟩
def Cg{be:Nat->StateT SortSt Sem (bj)}{n:Nat}(b:Nat->Bool)(hbe:∀i,i<n->∀Q:bj->SortSt->Prop,Q (some<|b i) st->wpS (model prog w) A E s (be i) Q st)(hb:∀i j,i<=j->j<n->b j=true->b i=true)(hh:hint<n)
  {Q:bo->SortSt->Prop} (q:∀k,k<=n->(∀i,i<k->b i=true)->(∀i,k<=i->i<n->b i=false)->Q (some k) st):wpS (model prog w) A E s (MA be n hint) Q st:=by
 unfold MA;have hb':∀i j,i<=j->j<n->b i=false->b j=false:=λi j a c d=>by
  cases z:b j with
  | false=>rfl
  | true=>rw[hb i j a c z]at d;cases d
 refine aQ (hbe hint hh _ ?_)
 cases hr:b hint
 ·dsimp only;dsimp[bA,cK];refine aQ (dG (b_ (I:=λx c st'=>st'=st/\∃l u,c=(none,l,u)/\x+1<=u/\l<u/\l<=hint/\b (hint-l)=false)
   (Q:=λc st'=>st'=st/\∃l u,c=(none,l,u)/\l<u/\l<=hint/\b (hint-l)=false/\(u>=hint+1\/b (hint-u)=true)) ?step ?fin ⟨rfl,0,1,rfl,by omega,by omega,by omega,hr⟩) ?post)
  case post=>
   rintro c st' ⟨rfl,l,u,rfl,h1,h2,h3,h4⟩;dsimp only;refine(Lm b hbe hb (l0:=hint+1-min u (hint+1)) (h0:=hint-l) (by omega) (by omega) (λi a=>?_) (λi a c=>hb' _ _ a c h3) q:wpS (model prog w) A E s (QT be n _ _) Q st')
   rcases h4 with h4|h4
   ·omega
   ·exact hb i (hint-u) (by omega) (by omega) h4
  case fin=>
   rintro c st' ⟨rfl,l,u,rfl,h1,h2,h3,h4⟩;exact⟨rfl,l,u,rfl,h2,h3,h4,.inl<|by omega⟩
  case step=>
   rintro x c st' _ hx ⟨rfl,l,u,rfl,h1,h2,h3,h4⟩;dsimp only;by_cases hge:u>=hint+1
   ·rw[aM hge];exact aW ⟨rfl,l,u,rfl,h2,h3,h4,.inl hge⟩
   ·rw[aL hge];refine aQ (hbe _ (by omega) _ ?_)
    cases hv:b (hint-u)
    ·dsimp[bA,cK];exact aW ⟨rfl,u,2 * u+1,rfl,by omega,by omega,by omega,hv⟩
    ·dsimp[dJ];exact aW ⟨rfl,l,u,rfl,h2,h3,h4,.inr hv⟩
 ·dsimp only;dsimp[dJ];refine aQ (dG (b_ (I:=λx c st'=>st'=st/\∃l u,c=(none,l,u)/\x+1<=u/\l<u/\hint+l<n/\b (hint+l)=true)
   (Q:=λc st'=>st'=st/\∃l u,c=(none,l,u)/\l<u/\hint+l<n/\b (hint+l)=true/\(u>=n-hint\/b (hint+u)=false)) ?step2 ?fin2 ⟨rfl,0,1,rfl,by omega,by omega,by omega,hr⟩) ?post2)
  case post2=>
   rintro c st' ⟨rfl,l,u,rfl,h1,h2,h3,h4⟩;dsimp only;refine(Lm b hbe hb (l0:=hint+l+1) (h0:=hint+min u (n-hint)) (by omega) (by omega) (λi a=>hb i _ (by omega) h2 h3) (λi a c=>?_) q:wpS (model prog w) A E s (QT be n _ _) Q st')
   rcases h4 with h4|h4
   ·omega
   ·exact hb' (hint+u) i (by omega) c h4
  case fin2=>
   rintro c st' ⟨rfl,l,u,rfl,h1,h2,h3,h4⟩;exact⟨rfl,l,u,rfl,h2,h3,h4,.inl<|by omega⟩
  case step2=>
   rintro x c st' _ hx ⟨rfl,l,u,rfl,h1,h2,h3,h4⟩;dsimp only;by_cases hge:u>=n-hint
   ·rw[aM hge];exact aW ⟨rfl,l,u,rfl,h2,h3,h4,.inl hge⟩
   ·rw[aL hge];refine aQ (hbe _ (by omega) _ ?_)
    cases hv:b (hint+u)
    ·dsimp[gT,dJ];exact aW ⟨rfl,l,u,rfl,h2,h3,h4,.inr hv⟩
    ·dsimp[d8,bA,cK];exact aW ⟨rfl,u,2 * u+1,rfl,by omega,by omega,by omega,hv⟩
end
section
variable {prog:ah}{w:af}{A:az}{E:aa->aA->Prop}{s:aA}{o:Ord}{N:Nat}{f:Nat->Keyed}{kd:SortKind}{st:SortSt}
def Fx(C:xH prog w A s o N f kd)(hk:kindOf st=kd){base n:Nat}{arr:Array Keyed}{h:Nat->Nat}(ha:∀i,i<n->arr[base+i]?=some (f<|h i))(hN:∀i,i<n->h i<key)(hkN:key<N)(so:So o h 0 n)(hh:hint<n)
  {Q:bo->SortSt->Prop} (q:∀k,k<=n->(∀i,i<k->P o (h i) key)->(∀i,k<=i->i<n->P o key (h i))->Q (some k) st):wpS (model prog w) A E s (kj false (f key) arr base n hint) Q st:=by
 rw[xU];refine Cg (λi=>!o.lt key (h i)) (λi hi Q' q'=>?_) (λi j a b c=>?_) hh λk h1 h2 h3=>q k h1 (λi a=>?_) λi a b=>?_
 ·refine aQ<|jn (ha i hi) ?_;dsimp[bA,cK];exact aQ (wB C hk hkN (by have:=hN i hi;lia)<|aW q')
 ·by_cases z:i=j
  ·subst z;exact c
  ·have r:=so i j (cE _) () b;have c':o.lt key (h j)=false:=by simpa using c
   cases e:o.lt key (h i)with
   | false=>rfl
   | true=>
    have:=(P.of_lt e).trans r;rw[this.lt<|hN j b]at c';cases c'
 ·have:=h2 i a;exact P.uA (by simpa using this) (hN i ())
 ·have:=h3 i a b;exact .inl<|by simpa using this
def IJ(C:xH prog w A s o N f kd)(hk:kindOf st=kd){base n:Nat}{arr:Array Keyed}{h:Nat->Nat}(ha:∀i,i<n->arr[base+i]?=some (f<|h i))(hN:∀i,i<n->key<h i/\h i<N)(so:So o h 0 n)(hh:hint<n)
  {Q:bo->SortSt->Prop} (q:∀k,k<=n->(∀i,i<k->P o (h i) key)->(∀i,k<=i->i<n->P o key (h i))->Q (some k) st):wpS (model prog w) A E s (kj true (f key) arr base n hint) Q st:=by
 rw[xU];refine Cg (λi=>o.lt (h i) key) (λi hi Q' q'=>?_) (λi j a b c=>?_) hh λk h1 h2 h3=>q k h1 (λi a=>?_) λi a b=>?_
 ·refine aQ<|jn (ha i hi) ?_;dsimp[dJ];exact wB C hk (hN i hi).2 (by have:=hN i hi;lia) q'
 ·by_cases z:i=j
  ·subst z;exact c
  ·have r:=so i j (cE _) () b;exact(r.trans<|P.of_lt c).lt (hN i ()).1
 ·exact .inl (h2 i a)
 ·exact P.uA (h3 i a b) (hN i b).1
end
abbrev vG:Array Keyed->Array Keyed->StateT SortSt Sem (Array Keyed):=sortPriv% PySem.Builtin.mergeLo
abbrev vQ:Array Keyed->Array Keyed->StateT SortSt Sem (Array Keyed):=sortPriv% PySem.Builtin.mergeHi
abbrev um:Nat->StateT SortSt Sem Unit:=sortPriv% PySem.Builtin.setMinGallop
def K6(m:Nat):um m=modify λs=>SortSt.mk' (kindOf s) (arrOf s) (pendingOf s) m (failedOf s):=rfl
def AM(a b:Array Keyed):vG a b=(do
 rule "list.sort.merge-lo"
 let all_:=a.size+b.size
 let end1 (acc:Array Keyed) (p q:Nat):=acc++a.extract p a.size++b.extract q b.size
 let end2 (acc:Array Keyed) (p q:Nat):=acc++b.extract q b.size++a.extract p a.size
 let mut acc:Array Keyed:=#[<- elem' b 0]
 let mut p:=0
 let mut q:=1
 if q == b.size then return end1 acc p q
 if p+1 == a.size then return end2 acc p q
 let mut mg:=gallopOf (<- get)
 for _ in [0:all_] do
  let mut ca:=0
  let mut cb:=0
  for _ in [0:all_] do
   let some won <- lt' (<- elem' b q) (<- elem' a p)|return end1 acc p q
   if won then
    acc:=acc.push<|<- elem' b q;q:=q+1;cb:=cb+1;ca:=0
    if q == b.size then return end1 acc p q
    if cb>=mg then break
   else
    acc:=acc.push<|<- elem' a p;p:=p+1;ca:=ca+1;cb:=0
    if p+1 == a.size then return end2 acc p q
    if ca>=mg then break
  rule "list.sort.gallop"
  mg:=mg+1
  for _ in [0:all_] do
   if mg>1 then mg:=mg-1
   um mg
   let some k <- kj false (<- elem' b q) a p (a.size-p) 0|return end1 acc p q
   ca:=k
   if k>0 then
    acc:=acc++a.extract p (p+k);p:=p+k
    if p+1 == a.size then return end2 acc p q
    if p == a.size then return end1 acc p q
   acc:=acc.push<|<- elem' b q;q:=q+1
   if q == b.size then return end1 acc p q
   let some k <- kj true (<- elem' a p) b q (b.size-q) 0|return end1 acc p q
   cb:=k
   if k>0 then
    acc:=acc++b.extract q (q+k);q:=q+k
    if q == b.size then return end1 acc p q
   acc:=acc.push<|<- elem' a p;p:=p+1
   if p+1 == a.size then return end2 acc p q
   if ca<7 && cb<7 then break
  mg:=mg+1
  um mg
 unsupported "internal:list.sort.merge-bound"):=rfl
section
variable {o:Ord}{N:Nat}{f:Nat->Keyed}{A B hs:am}{ia ib:Nat}
abbrev fa (f:Nat->Keyed)(l:am):Array Keyed:=(l.map f).toArray
def kD(l:am):(fa f l).size=l.length:=by unfold fa;rw[aP,aK]
def GL(l:am)(i:Nat):(fa f l)[i]?=(l[i]?).map f:=by unfold fa;rw[c6,a_]
def kr{l:am}{i x:Nat}(h:l[i]?=some x):(fa f l)[i]?=some (f x):=by rw[GL,h];rfl
def rX(l:am)(x:Nat):(fa f l).push (f x)=fa f (l++[x]):=by
 unfold fa;rw[List.push_toArray,cM];rfl
def mG(l m:am):fa f l++fa f m=fa f (l++m):=by
 unfold fa;rw[List.append_toArray,cM]
def sI(l:am)(i j:Nat):(fa f l).extract i j=fa f ((l.drop i).take<|j-i):=by
 unfold fa;rw[List.extract_toArray,List.extract_eq_take_drop,map_take,map_drop]
def uS(l:am)(i:Nat):(fa f l).extract i l.length=fa f (l.drop i):=by
 rw[sI,cZ<|by rw[cC];lia]
structure Ab (o:Ord)(N:Nat)(A B:am):Prop where
 sa:A.Pairwise (P o)
 sb:B.Pairwise (P o)
 lt:∀x∈A,∀y∈B,x<y
 nb:∀y∈B,y<N
 na:∀x∈A,x<N
structure Mg (o:Ord)(A B hs:am)(ia ib:Nat):Prop where
 la:ia<=A.length
 lb:ib<=B.length
 len:hs.length=ia+ib
 so:hs.Pairwise (P o)
 mem:∀x∈hs,x∈A\/x∈B
 ua:∀x∈hs,∀y∈A.drop ia,P o x y
 ub:∀x∈hs,∀y∈B.drop ib,P o x y
abbrev Res (o:Ord)(f:Nat->Keyed)(A B:am)(out:Array Keyed):Prop:=∃hs:am,out=fa f hs/\hs.length=A.length+B.length/\hs.Pairwise (P o)/\∀x∈hs,x∈A\/x∈B
def qh{l:am}(h:l.Pairwise<|P o){i j x:Nat}(hx:l[i]?=some x)(hy:l[j]?=some y)(hij:i<j):P o x y:=by
 obtain⟨h1,e1⟩:=aI.mp hx;obtain⟨h2,e2⟩:=aI.mp hy;rw[<- e1,<- e2];exact cN.mp h i j h1 h2 hij
def sq{l:am}{y:Nat}(h:y∈l.drop i):∃j,i<=j/\l[j]?=some y:=by
 obtain⟨k,hk⟩:=gD h;rw[fG]at hk;exact⟨i+k,(),hk⟩
def Mg.ux(ab:Ab o N A B)(m:Mg o A B hs ia ib){x:Nat}(hx:A[ia]?=some x)(h:∀y∈B.drop ib,P o x y):Mg o A B (hs++[x]) (ia+1) ib:=by
 obtain⟨h1,e1⟩:=aI.mp hx;have hd:A.drop ia=x::A.drop (ia+1):=by rw[<- e1];exact bU h1
 refine⟨(),m.lb,by rw[aY,m.len];show ia+ib+1=_;lia,?_,λz hz=>?_,λz hz y hy=>?_,λz hz y hy=>?_⟩
 ·rw[b8];exact⟨m.so,fL ..,λa ha b hb=>by rw[bh.mp hb];exact m.ua a ha x<|by rw[hd];exact aR ..⟩
 ·rcases bC.mp hz with z'|z'
  ·exact m.mem z z'
  ·rw[bh.mp z'];exact .inl<|bf hx
 ·rcases bC.mp hz with z'|z'
  ·exact m.ua z z' y (by rw[hd];exact aT _ hy)
  ·rw[bh.mp z'];obtain⟨j,hj,ej⟩:=sq hy;exact qh ab.sa hx ej ()
 ·rcases bC.mp hz with z'|z'
  ·exact m.ub z z' y hy
  ·rw[bh.mp z'];exact h y hy
def Ab.uN(ab:Ab o N A B)(m:Mg o A B hs ia ib){x:Nat}(hx:B[ib]?=some x)(h:∀y∈A.drop ia,P o x y):Mg o A B (hs++[x]) ia (ib+1):=by
 obtain⟨h1,e1⟩:=aI.mp hx;have hd:B.drop ib=x::B.drop (ib+1):=by rw[<- e1];exact bU h1
 refine⟨m.la,(),by rw[aY,m.len];rfl,?_,λz hz=>?_,λz hz y hy=>?_,λz hz y hy=>?_⟩
 ·rw[b8];exact⟨m.so,fL ..,λa ha b hb=>by rw[bh.mp hb];exact m.ub a ha x<|by rw[hd];exact aR ..⟩
 ·rcases bC.mp hz with z'|z'
  ·exact m.mem z z'
  ·rw[bh.mp z'];exact .inr<|bf hx
 ·rcases bC.mp hz with z'|z'
  ·exact m.ua z z' y hy
  ·rw[bh.mp z'];exact h y hy
 ·rcases bC.mp hz with z'|z'
  ·exact m.ub z z' y (by rw[hd];exact aT _ hy)
  ·rw[bh.mp z'];obtain⟨j,hj,ej⟩:=sq hy;exact qh ab.sb hx ej ()
def n_{l:am}(h:l.Pairwise<|P o){i x:Nat}(hx:l[i]?=some x)(hxy:P o y x):∀z∈l.drop i,P o y z:=λz hz=>by
 obtain⟨j,hj,ej⟩:=sq hz;by_cases c:j=i
 ·subst c;rw[hx]at ej;cases ej;exact hxy
 ·exact hxy.trans<|qh h hx ej ()
def take_snoc{l:am}{k x:Nat}(h:l[i+k]?=some x):(l.drop i).take (k+1)=(l.drop i).take k++[x]:=by
 have h':(l.drop i)[k]?=some x:=by rw[fG];exact h
 obtain⟨h1,e1⟩:=aI.mp h';rw[dW h1,e1]
theorem Mg.vF(ab:Ab o N A B)(m:Mg o A B hs ia ib)(hy:B[ib]?=some y):∀k,ia+k<=A.length->(∀i x,i<k->A[ia+i]?=some x->P o x y)->Mg o A B (hs++(A.drop ia).take k) (ia+k) ib
 | 0,_,_=>by rw[eX,b5];exact m
 | k+1,hk,h=>by
  have ih:=Mg.vF ab m hy k () λi x hi=>h i x ();have hx:A[ia+k]?=some (A[ia+k]'()):=aG _;rw[take_snoc hx,<- bS];exact ih.ux ab hx<|n_ ab.sb hy<|h k _ () hx
theorem Mg.vV(ab:Ab o N A B)(m:Mg o A B hs ia ib)(hy:A[ia]?=some y):∀k,ib+k<=B.length->(∀i x,i<k->B[ib+i]?=some x->P o x y)->Mg o A B (hs++(B.drop ib).take k) ia (ib+k)
 | 0,_,_=>by rw[eX,b5];exact m
 | k+1,hk,h=>by
  have ih:=Mg.vV ab m hy k () λi x hi=>h i x ();have hx:B[ib+k]?=some (B[ib+k]'()):=aG _;rw[take_snoc hx,<- bS];exact ab.uN ih hx<|n_ ab.sa hy<|h k _ () hx
def uU{l:am}(h:l.Pairwise<|P o)(i:Nat):(l.drop i).Pairwise (P o):=h.sublist<|List.drop_sublist ..
def Mg.fin(ab:Ab o N A B)(m:Mg o A B hs ia ib)(h:∀x∈A.drop ia,∀y∈B.drop ib,P o x y):Res o f A B (fa f hs++(fa f A).extract ia A.length++(fa f B).extract ib B.length):=by
 rw[uS,uS,mG,mG];have la:=m.la;have lb:=m.lb;refine⟨_,rfl,by rw[aY,aY,m.len,cC,cC];lia,?_,λx hx=>?_⟩
 ·rw[b8,b8];refine⟨⟨m.so,uU ab.sa _,m.ua⟩,uU ab.sb _,λx hx y hy=>?_⟩
  rcases bC.mp hx with z|z
  ·exact m.ub x z y hy
  ·exact h x z y hy
 ·rcases bC.mp hx with z|z
  ·rcases bC.mp z with z|z
   ·exact m.mem x z
   ·exact .inl<|dX z
  ·exact .inr<|dX z
def Mg.ME(ab:Ab o N A B)(m:Mg o A B hs ia ib)(h:∀x∈A.drop ia,∀y∈B.drop ib,P o y x):Res o f A B (fa f hs++(fa f B).extract ib B.length++(fa f A).extract ia A.length):=by
 rw[uS,uS,mG,mG];have la:=m.la;have lb:=m.lb;refine⟨_,rfl,by rw[aY,aY,m.len,cC,cC];lia,?_,λx hx=>?_⟩
 ·rw[b8,b8];refine⟨⟨m.so,uU ab.sb _,m.ub⟩,uU ab.sa _,λx hx y hy=>?_⟩
  rcases bC.mp hx with z|z
  ·exact m.ua x z y hy
  ·exact h y hy x z
 ·rcases bC.mp hx with z|z
  ·rcases bC.mp z with z|z
   ·exact m.mem x z
   ·exact .inr<|dX z
  ·exact .inl<|dX z
def drop_nil{l:am}(h:l.length<=i):l.drop i=[]:=List.drop_eq_nil_of_le h
def Eh{l:am}(h:l.Pairwise<|P o)(b n:Nat)(hn:b+n<=l.length):So o (λi=>l.getD (b+i) 0) 0 n:=λi j _ hij hj=>
 qh h (i:=b+i) (j:=b+j) (by show _=some (l.getD (b+i) 0);rw[aO,aG<|show b+i<l.length by lia];rfl) (by show _=some (l.getD (b+j) 0);rw[aO,aG<|show b+j<l.length by lia];rfl) ()
def getD_at{l:am}{i:Nat}(h:i<l.length):l[i]?=some (l.getD i 0):=by
 rw[aO,aG h];rfl
end
structure Sm (st st':SortSt):Prop where
 a:arrOf st'=arrOf st
 k:kindOf st'=kindOf st
 p:pendingOf st'=pendingOf st
 f:failedOf st'=failedOf st
def Sm.refl{st:SortSt}:Sm st st:=⟨rfl,rfl,rfl,rfl⟩
def Sm.trans{st:SortSt}(a:Sm st st')(b:Sm st' st''):Sm st st'':=⟨b.a.trans a.a,b.k.trans a.k,b.p.trans a.p,b.f.trans a.f⟩
meta abbrev G:=Option (Array Keyed)×Array Keyed×Nat×Nat×Nat×Nat×Nat
abbrev T3 (a b out:Array Keyed)(ia ib mg ac bc:Nat):StateT SortSt Sem (ForInStep G):=do
 let x <- elem' a ia
 if (ia+1+1 == a.size)=true then pure (ForInStep.done (some<|out.push x++b.extract ib b.size++a.extract (ia+1) a.size,out.push x,ia+1,ib,mg,ac,bc))
 else if (decide (ac<7) && decide (bc<7))=true then pure (ForInStep.done (none,out.push x,ia+1,ib,mg,ac,bc))
 else pure (ForInStep.yield (none,out.push x,ia+1,ib,mg,ac,bc))
abbrev T2 (a b out:Array Keyed)(ia ib mg ac bc:Nat):StateT SortSt Sem (ForInStep G):=do
 let x <- elem' b ib
 if (ib+1 == b.size)=true then pure (ForInStep.done (some<|out.push x++a.extract ia a.size++b.extract (ib+1) b.size,out.push x,ia,ib+1,mg,ac,bc))
 else
  let y <- elem' a ia
  let r <- kj true y b (ib+1) (b.size-(ib+1)) 0
  match r with
  | some k=>
   if k>0 then
    if (ib+1+k == b.size)=true then pure (ForInStep.done (some<|out.push x++b.extract (ib+1) (ib+1+k)++a.extract ia a.size++b.extract (ib+1+k) b.size,out.push x++b.extract (ib+1) (ib+1+k),ia,ib+1+k,mg,ac,k))
    else T3 a b (out.push x++b.extract (ib+1) (ib+1+k)) ia (ib+1+k) mg ac k
   else T3 a b (out.push x) ia (ib+1) mg ac k
  | _=>pure<|ForInStep.done (some<|out.push x++a.extract ia a.size++b.extract (ib+1) b.size,out.push x,ia,ib+1,mg,ac,bc)
abbrev T1 (a b out:Array Keyed)(ia ib mg ac bc:Nat):StateT SortSt Sem (ForInStep G):=do
 um mg
 let x <- elem' b ib
 let r <- kj false x a ia (a.size-ia) 0
 match r with
 | some k=>
  if k>0 then
   if (ia+k+1 == a.size)=true then pure (ForInStep.done (some<|out++a.extract ia (ia+k)++b.extract ib b.size++a.extract (ia+k) a.size,out++a.extract ia (ia+k),ia+k,ib,mg,k,bc))
   else if (ia+k == a.size)=true then pure (ForInStep.done (some<|out++a.extract ia (ia+k)++a.extract (ia+k) a.size++b.extract ib b.size,out++a.extract ia (ia+k),ia+k,ib,mg,k,bc))
   else T2 a b (out++a.extract ia (ia+k)) (ia+k) ib mg k bc
  else T2 a b out ia ib mg k bc
 | _=>pure<|ForInStep.done (some<|out++a.extract ia a.size++b.extract ib b.size,out,ia,ib,mg,ac,bc)
section
variable {prog:ah}{w:af}{A:az}{E:aa->aA->Prop}{s:aA}{o:Ord}{N:Nat}{f:Nat->Keyed}{kd:SortKind}{st st0:SortSt}{X Y hs:am}{ia ib:Nat}
def sj(h:Sm st0 st){Q:Unit->SortSt->Prop}(q:∀st',Sm st0 st'->Q Unit.unit st'):wpS (model prog w) A E s (um m) Q st:=by
 rw[K6];exact eK<|q _<|h.trans ⟨rfl,rfl,rfl,rfl⟩
abbrev On (o:Ord)(f:Nat->Keyed)(X Y:am)(n:Nat)(hs:am)(ia ib:Nat):Prop:=Mg o X Y hs ia ib/\ia+1<X.length/\ib<Y.length/\n<=ia+ib
abbrev G2 (o:Ord)(f:Nat->Keyed)(X Y:am)(n:Nat)(st0:SortSt):ForInStep G->SortSt->Prop:=λr st'=>Sm st0 st'/\match r with
 | .done c=>(∃r z,c=(some r,z)/\Res o f X Y r)\/∃hs ia ib mg ac bc,c=(none,fa f hs,ia,ib,mg,ac,bc)/\On o f X Y n hs ia ib
 | .yield c=>∃hs ia ib mg ac bc,c=(none,fa f hs,ia,ib,mg,ac,bc)/\On o f X Y n hs ia ib
abbrev Top (o:Ord)(X Y:am):Prop:=∀i x,X[i]?=some x->i+1=X.length->∀y∈Y,P o y x
def Td{α β γ κ:Type}{g:α->κ}{O:α->β->γ->Prop}{T:κ->Prop}(k:∀a b c,O a b c->T (g a)):∀q,(∃a b c,q=g a/\O a b c)->T q:=by
 rintro _ ⟨a,b,c,rfl,h⟩;exact k a b c h
def Sv{α β γ δ κ:Type}{S:Prop}{g:α->β->γ->δ->κ}{O:α->β->γ->δ->Prop}{T:κ->Prop}(k:S->∀a b c d,O a b c d->T (g a b c d)):∀q,(S/\∃a b c d,q=g a b c d/\O a b c d)->T q:=by
 rintro q ⟨s,a,b,c,d,rfl,o⟩;exact k s a b c d o
def Sz{α β γ δ ε κ:Type}{S:Prop}{g:α->β->γ->δ->ε->κ}{O:α->β->γ->δ->ε->Prop}{T:κ->Prop}(k:S->∀a b c d e,O a b c d e->T (g a b c d e)):∀q,(S/\∃a b c d e,q=g a b c d e/\O a b c d e)->T q:=by
 rintro q ⟨s,a,b,c,d,e,rfl,o⟩;exact k s a b c d e o
def SD{α β γ δ ε ζ κ:Type}{S:Prop}{g:α->β->γ->δ->ε->ζ->κ}{O:α->β->γ->δ->ε->ζ->Prop}{T:κ->Prop}(k:S->∀a b c d e f,O a b c d e f->T (g a b c d e f)):∀q,(S/\∃a b c d e f,q=g a b c d e f/\O a b c d e f)->T q:=by
 rintro q ⟨s,a,b,c,d,e,f,rfl,o⟩;exact k s a b c d e f o
def SQ{α β γ δ ε κ ρ σ:Type}{S:Prop}{j:ρ->σ->κ}{R:ρ->Prop}{g:α->β->γ->δ->ε->κ}{O:α->β->γ->δ->ε->Prop}{T:κ->Prop}(k1:S->∀r z,R r->T (j r z))(k:S->∀a b c d e,O a b c d e->T (g a b c d e)):∀q,(S/\((∃r z,q=j r z/\R r)\/∃a b c d e,q=g a b c d e/\O a b c d e))->T q:=by
 rintro q ⟨s,⟨r,z,rfl,hr⟩|⟨a,b,c,d,e,rfl,o⟩⟩
 ·exact k1 s r z hr
 ·exact k s a b c d e o
def Su{α β γ δ ε ζ κ ρ σ:Type}{S:Prop}{j:ρ->σ->κ}{R:ρ->Prop}{g:α->β->γ->δ->ε->ζ->κ}{O:α->β->γ->δ->ε->ζ->Prop}{T:κ->Prop}(k1:S->∀r z,R r->T (j r z))(k:S->∀a b c d e f,O a b c d e f->T (g a b c d e f)):∀q,(S/\((∃r z,q=j r z/\R r)\/∃a b c d e f,q=g a b c d e f/\O a b c d e f))->T q:=by
 rintro q ⟨s,⟨r,z,rfl,hr⟩|⟨a,b,c,d,e,f,rfl,o⟩⟩
 ·exact k1 s r z hr
 ·exact k s a b c d e f o
def sG(ab:Ab o N X Y)(tp:Top o X Y)(m:Mg o X Y hs ia ib)(h:ia+1=X.length):Res o f X Y (fa f hs++(fa f Y).extract ib Y.length++(fa f X).extract ia X.length):=
 m.ME ab λx hx y hy=>by
  obtain⟨j,hj,ej⟩:=sq hx;have:=(aI.mp ej).1;exact tp j x ej () y<|dX hy
def Lz(ab:Ab o N X Y)(tp:Top o X Y)(hm:Sm st0 st){n mg x:Nat}(m:Mg o X Y hs ia ib)(ha:ia+1<X.length)(hb:ib<Y.length)(hn:n<=ia+ib)(hx:X[ia]?=some x)(hy:Y[ib]?=some y)(hxy:P o x y) :
  wpS (model prog w) A E s (T3 (fa f X) (fa f Y) (fa f hs) ia ib mg ac bc) (G2 o f X Y n st0) st:=by
 unfold T3;rw[kD,kD];refine aQ<|jn (kr hx) ?_;have m2:=m.ux ab hx<|n_ ab.sb hy hxy;rw[rX];by_cases c:ia+1+1=X.length
 ·rw[aM<|by rw[c];exact bz _];exact aW ⟨hm,.inl ⟨_,_,rfl,sG ab tp m2 c⟩⟩
 ·rw[aL<|by simpa using c];by_cases c2:(decide (ac<7) && decide (bc<7))=true
  ·rw[aM c2];exact aW ⟨hm,.inr ⟨_,_,_,_,_,_,rfl,m2,(),hb,()⟩⟩
  ·rw[aL c2];exact aW ⟨hm,⟨_,_,_,_,_,_,rfl,m2,(),hb,()⟩⟩
def Ll(C:xH prog w A s o N f kd)(hk:kindOf st=kd)(ab:Ab o N X Y)(tp:Top o X Y)(hm:Sm st0 st){n mg x:Nat}(m:Mg o X Y hs ia ib)(ha:ia+1<X.length)(hb:ib<Y.length)(hn:n<=ia+ib)(hx:X[ia]?=some x)(hy:Y[ib]?=some y)(hxy:P o y x) :
  wpS (model prog w) A E s (T2 (fa f X) (fa f Y) (fa f hs) ia ib mg ac bc) (G2 o f X Y n st0) st:=by
 unfold T2;rw[kD,kD];f_are;have m2:=ab.uN m hy<|n_ ab.sa hx hxy;rw[rX];by_cases c:ib+1=Y.length
 ·rw[aM<|by rw[c];exact bz _];exact aW ⟨hm,.inl ⟨_,_,rfl,m2.fin ab λx _ y hy=>by rw[drop_nil ()]at hy;cases hy⟩⟩
 ·rw[aL<|by simpa using c];refine aQ<|jn (kr hx) ?_;refine aQ (IJ C hk (h:=λi=>Y.getD (ib+1+i) 0) (λi hi=>kr<|getD_at ()) (λi hi=>?_) (Eh ab.sb _ _ ()) () λk k1 k2 k3=>?_)
  ·have:=bf<|getD_at (l:=Y) (i:=ib+1+i) ();exact⟨ab.lt x (bf hx) _ this,ab.nb _ this⟩
  ·dsimp only;have m3:=m2.vV ab hx k () λi z hi ez=>by
    have:=k2 i hi;rw[aO,ez]at this;exact this
   by_cases c2:k>0
   ·rw[aM c2,sI,show ib+1+k-(ib+1)=k by lia,mG];by_cases c3:ib+1+k=Y.length
    ·rw[aM<|by rw[c3];exact bz _];exact aW ⟨hm,.inl ⟨_,_,rfl,m3.fin ab λx _ y hy=>by rw[drop_nil ()]at hy;cases hy⟩⟩
    ·rw[aL<|by simpa using c3];exact Lz ab tp hm m3 ha () () hx (getD_at ())<|k3 k (aN _) ()
   ·rw[aL c2];have:k=0:=()
    subst this;exact Lz ab tp hm m2 ha () () hx (getD_at ())<|k3 0 (aN _) ()
def PC(C:xH prog w A s o N f kd)(hk:kindOf st0=kd)(ab:Ab o N X Y)(tp:Top o X Y)(hm:Sm st0 st){n mg:Nat}(m:Mg o X Y hs ia ib)(ha:ia+1<X.length)(hb:ib<Y.length)(hn:n<=ia+ib) :
  wpS (model prog w) A E s (T1 (fa f X) (fa f Y) (fa f hs) ia ib mg ac bc) (G2 o f X Y n st0) st:=by
 unfold T1;rw[kD,kD];refine aQ<|sj hm λst1 hm1=>?_;have hy:=getD_at (l:=Y) (i:=ib) hb;have yB:=bf hy;f_are;refine aQ (Fx C (by rw[hm1.k];exact hk) (h:=λi=>X.getD (ia+i) 0) (λi hi=>kr<|getD_at ()) (λi hi=>ab.lt _ (bf<|getD_at (l:=X) (i:=ia+i) ()) _ yB) (ab.nb _ yB) (Eh ab.sa _ _ ()) () λk k1 k2 k3=>?_);dsimp only;have m3:=m.vF ab hy k () λi z hi ez=>by
  have:=k2 i hi;rw[aO,ez]at this;exact this
 by_cases c2:k>0
 ·rw[aM c2,sI,show ia+k-ia=k by lia,mG];by_cases c3:ia+k+1=X.length
  ·rw[aM<|by rw[c3];exact bz _];exact aW ⟨hm1,.inl ⟨_,_,rfl,sG ab tp m3 c3⟩⟩
  ·rw[aL<|by simpa using c3];by_cases c4:ia+k=X.length
   ·rw[aM<|by rw[c4];exact bz _];exact aW ⟨hm1,.inl ⟨_,_,rfl,m3.fin ab λx hx y _=>by rw[drop_nil ()]at hx;cases hx⟩⟩
   ·rw[aL<|by simpa using c4];exact Ll C (by rw[hm1.k];exact hk) ab tp hm1 m3 () hb () (getD_at ()) hy<|k3 k (aN _) ()
 ·rw[aL c2];have:k=0:=()
  subst this;exact Ll C (by rw[hm1.k];exact hk) ab tp hm1 m ha hb hn (getD_at ()) hy<|k3 0 (aN _) ()
def Qf(C:xH prog w A s o N f kd)(hk:kindOf st=kd)(ab:Ab o N X Y)(tp:Top o X Y)(h1:1<=X.length)(hy0:Y[0]?=some y0)(h0:∀x∈X,P o y0 x)
  {Q:Array Keyed->SortSt->Prop} (q:∀out st',Sm st st'->Res o f X Y out->Q out st'):wpS (model prog w) A E s (vG (fa f X)<|fa f Y) Q st:=by
 rw[AM];mg_lt;dsimp only;rw[kD,kD];have hY:=(aI.mp hy0).1;refine aQ<|jn (kr hy0) ?_;have m0:Mg o X Y [] 0 0:=⟨cE _,cE _,rfl,List.Pairwise.nil,(nofun),(nofun),(nofun)⟩;have m1:Mg o X Y [y0] 0 1:=ab.uN m0 hy0 h0;have e1:(#[f y0]:Array Keyed)=fa f [y0]:=rfl;rw[e1];by_cases c:1=Y.length
 ·rw[aM<|by rw[<- c];rfl];exact aW (q _ _ Sm.refl<|m1.fin ab λx _ y hy=>by rw[drop_nil ()]at hy;cases hy)
 ·rw[aL<|by simpa using c];by_cases c2:0+1=X.length
  ·rw[aM<|by rw[<- c2];rfl];exact aW (q _ _ Sm.refl<|sG ab tp m1 c2)
  ·rw[aL<|by simpa using c2];refine aQ<|fW ?_;refine aQ (dG (b_ (I:=λx c st'=>Sm st st'/\∃hs ia ib mg,c=(none,fa f hs,ia,ib,mg)/\On o f X Y (x+1) hs ia ib)
    (Q:=λc st'=>Sm st st'/\∃r z,c=(some r,z)/\Res o f X Y r) ?step ?fin ⟨Sm.refl,_,_,_,_,rfl,m1,(),(),aN _⟩) ?post)
   case post=>
    rintro c st' ⟨hm,r,z,rfl,hr⟩;exact aW<|q _ _ hm hr
   case fin=>
    rintro c st' ⟨hm,hs,ia,ib,mg,rfl,m,a1,a2,a3⟩;exfalso
    lia
   case step=>
    intro x c st' _ hx hh;revert hh;revert c;refine Sv λhm hs ia ib mg ho=>?_;have m:=ho.1;have a1:=ho.2.1;have a2:=ho.2.2.1;have a3:=ho.2.2.2;clear ho;dsimp only;refine aQ (dG (b_ (I:=λx' c st''=>Sm st st''/\∃hs ia ib ac bc,c=(none,fa f hs,ia,ib,ac,bc)/\On o f X Y (x+1+min x' 1) hs ia ib)
     (Q:=λc st''=>Sm st st''/\((∃r z,c=(some r,z)/\Res o f X Y r)\/∃hs ia ib ac bc,c=(none,fa f hs,ia,ib,ac,bc)/\On o f X Y (x+1+1) hs ia ib)) ?istep ?ifin ⟨hm,_,_,_,_,_,rfl,m,a1,a2,a3⟩) ?ipost)
    case ifin=>
     rintro c st'' ⟨hm',hs,ia,ib,ac,bc,rfl,m,a1,a2,a3⟩;exact⟨hm',.inr ⟨_,_,_,_,_,rfl,m,a1,a2,()⟩⟩
    case istep=>
     intro x' c st'' _ hx' hh;revert hh;revert c;refine Sz λhm' hs ia ib ac bc ho=>?_;have m:=ho.1;have a1:=ho.2.1;have a2:=ho.2.2.1;have a3:=ho.2.2.2;clear ho;dsimp only;have hy:=getD_at (l:=Y) (i:=ib) a2;have hxx:=getD_at (l:=X) (i:=ia) ();have yB:=bf hy;have xA:=bf hxx;have lt:=ab.lt _ xA _ yB;f_are;refine aQ<|jn (kr hxx) ?_;refine aQ (wB C (by rw[hm'.k];exact hk) (ab.nb _ yB) (ab.na _ xA) ?_)
     cases hl:o.lt (Y.getD ib 0) (X.getD ia 0)
     ·dsimp[bA,cK];refine aQ<|jn (kr hxx) ?_;have m2:=m.ux ab hxx<|n_ ab.sb hy<|P.uA hl lt;rw[rX];by_cases c3:ia+1+1=X.length
      ·rw[aM<|by rw[c3];exact bz _];exact aW ⟨hm',.inl ⟨_,_,rfl,sG ab tp m2 c3⟩⟩
      ·rw[aL<|by simpa using c3];by_cases c4:ac+1>=mg
       ·rw[aM c4];exact aW ⟨hm',.inr ⟨_,_,_,_,_,rfl,m2,(),a2,()⟩⟩
       ·rw[aL c4];exact aW ⟨hm',_,_,_,_,_,rfl,m2,(),a2,()⟩
     ·dsimp[dJ];f_are;have m2:=ab.uN m hy<|n_ ab.sa hxx<|P.of_lt hl;rw[rX];by_cases c3:ib+1=Y.length
      ·rw[aM<|by rw[c3];exact bz _];exact aW ⟨hm',.inl ⟨_,_,rfl,m2.fin ab λx _ y hy=>by rw[drop_nil ()]at hy;cases hy⟩⟩
      ·rw[aL<|by simpa using c3];by_cases c4:bc+1>=mg
       ·rw[aM c4];exact aW ⟨hm',.inr ⟨_,_,_,_,_,rfl,m2,a1,(),()⟩⟩
       ·rw[aL c4];exact aW ⟨hm',_,_,_,_,_,rfl,m2,a1,(),()⟩
    case ipost=>
     intro c st'' hh;revert hh;revert c;refine SQ (λhm' r z hr=>?_) λhm' hs ia ib ac bc ho=>?_
     ·dsimp only;exact aW ⟨hm',r,_,rfl,hr⟩
     ·have m:=ho.1;have a1:=ho.2.1;have a2:=ho.2.2.1;have a3:=ho.2.2.2;clear ho;dsimp only;mg_lt;refine aQ (dG (b_ (I:=λx' c st''=>Sm st st''/\∃hs ia ib mg ac bc,c=(none,fa f hs,ia,ib,mg,ac,bc)/\On o f X Y (x+1+1) hs ia ib)
       (Q:=λc st''=>Sm st st''/\((∃r z,c=(some r,z)/\Res o f X Y r)\/∃hs ia ib mg ac bc,c=(none,fa f hs,ia,ib,mg,ac,bc)/\On o f X Y (x+1+1) hs ia ib)) ?jstep ?jfin ⟨hm',_,_,_,_,_,_,rfl,m,a1,a2,a3⟩) ?jpost)
      case jfin=>
       rintro c st3 ⟨hm3,hh⟩;exact⟨hm3,.inr hh⟩
      case jstep=>
       intro x' c st3 _ hx' hh;revert hh;revert c;refine SD λhm3 hs ia ib mg ac bc ho=>?_;have m:=ho.1;have a1:=ho.2.1;have a2:=ho.2.2.1;have a3:=ho.2.2.2;clear ho;dsimp only;have t1:=λmg=>PC (n:=x+1+1) (mg:=mg) (ac:=ac) (bc:=bc) (E:=E) C hk ab tp hm3 m a1 a2 a3;unfold T1 T2 T3 at t1;rw[kD,kD]at t1;refine dG (Q:=G2 o f X Y (x+1+1) st) ?_ ?_
       ·by_cases c3:mg>1
        ·rw[aM c3];exact t1 (mg-1)
        ·rw[aL c3];exact t1 mg
       ·rintro r st4 ⟨hm4,hr⟩
        cases r with
        | done c=>exact⟨hm4,hr⟩
        | yield c=>exact⟨hm4,hr⟩
      case jpost=>
       intro c st3 hh;revert hh;revert c;refine Su (λhm3 r z hr=>?_) λhm3 hs ia ib mg ac bc ho=>?_
       ·dsimp only;exact aW ⟨hm3,r,_,rfl,hr⟩
       ·have m:=ho.1;have a1:=ho.2.1;have a2:=ho.2.2.1;have a3:=ho.2.2.2;clear ho;dsimp only;refine aQ<|sj hm3 λst4 hm4=>?_;exact aW ⟨hm4,_,_,_,_,rfl,m,a1,a2,a3⟩
end
def Br(a b:Array Keyed):vQ a b=(do
 rule "list.sort.merge-hi"
 let all_:=a.size+b.size
 let end1 (acc:Array Keyed) (p q:Nat):=a.extract 0 p++b.extract 0 q++acc.reverse
 let end2 (acc:Array Keyed) (p q:Nat):=b.extract 0 q++a.extract 0 p++acc.reverse
 let mut p:=a.size-1
 let mut q:=b.size
 let mut acc:Array Keyed:=#[<- elem' a p]
 if p == 0 then return end1 acc p q
 if q == 1 then return end2 acc p q
 let mut mg:=gallopOf (<- get)
 for _ in [0:all_] do
  let mut ca:=0
  let mut cb:=0
  for _ in [0:all_] do
   let some won <- lt' (<- elem' b (q-1)) (<- elem' a (p-1))|return end1 acc p q
   if won then
    p:=p-1;acc:=acc.push<|<- elem' a p;ca:=ca+1;cb:=0
    if p == 0 then return end1 acc p q
    if ca>=mg then break
   else
    q:=q-1;acc:=acc.push<|<- elem' b q;cb:=cb+1;ca:=0
    if q == 1 then return end2 acc p q
    if cb>=mg then break
  rule "list.sort.gallop"
  mg:=mg+1
  for _ in [0:all_] do
   if mg>1 then mg:=mg-1
   um mg
   let some t <- kj false (<- elem' b (q-1)) a 0 p (p-1)|return end1 acc p q
   let k:=p-t
   ca:=k
   if k>0 then
    acc:=acc++(a.extract t p).reverse;p:=t
    if p == 0 then return end1 acc p q
   q:=q-1;acc:=acc.push (<- elem' b q)
   if q == 1 then return end2 acc p q
   let some t <- kj true (<- elem' a (p-1)) b 0 q (q-1)|return end1 acc p q
   let k:=q-t
   cb:=k
   if k>0 then
    acc:=acc++(b.extract t q).reverse;q:=t
    if q == 1 then return end2 acc p q
    if q == 0 then return end1 acc p q
   p:=p-1;acc:=acc.push (<- elem' a p)
   if p == 0 then return end1 acc p q
   if ca<7 && cb<7 then break
  mg:=mg+1
  um mg
 unsupported "internal:list.sort.merge-bound"):=rfl
section
variable {o:Ord}{N:Nat}{f:Nat->Keyed}{A B ts:am}{na nb:Nat}
def Gw(l:am):(fa f l).reverse=fa f l.reverse:=by
 unfold fa;rw[List.reverse_toArray,List.map_reverse]
def uR(l:am)(i:Nat):(fa f l).extract 0 i=fa f (l.take i):=by
 rw[sI,gU,iF]
structure Mh (o:Ord)(A B ts:am)(na nb:Nat):Prop where
 la:na<=A.length
 lb:nb<=B.length
 len:ts.length+na+nb=A.length+B.length
 so:ts.Pairwise (P o)
 mem:∀x∈ts,x∈A\/x∈B
 ua:∀y∈A.take na,∀x∈ts,P o y x
 ub:∀y∈B.take nb,∀x∈ts,P o y x
def sE{l:am}{y:Nat}(h:y∈l.take i):∃j,j<i/\l[j]?=some y:=by
 obtain⟨k,hk⟩:=gD h;have:=(aI.mp hk).1;rw[bJ]at this;rw[fj ()]at hk;exact⟨k,(),hk⟩
def take_one{l:am}{i x:Nat}(h:l[i]?=some x):l.take (i+1)=l.take i++[x]:=by
 obtain⟨h1,e1⟩:=aI.mp h;rw[dW h1,e1]
def Mh.ux(ab:Ab o N A B)(m:Mh o A B ts (na+1) nb){x:Nat}(hx:A[na]?=some x)(h:∀y∈B.take nb,P o y x):Mh o A B (x::ts) na nb:=by
 have la:=m.la;have len:=m.len;have ht:=take_one hx;have xin:x∈A.take (na+1):=by rw[ht];exact bF _ (bh.mpr rfl)
 refine⟨(),m.lb,by rw[bq];lia,cL.mpr ⟨λy hy=>m.ua x xin y hy,m.so⟩,λz hz=>?_,λy hy z hz=>?_,λy hy z hz=>?_⟩
 ·rcases bB.mp hz with rfl|z'
  ·exact .inl (bf hx)
  ·exact m.mem z z'
 ·rcases bB.mp hz with rfl|z'
  ·obtain⟨j,hj,ej⟩:=sE hy;exact qh ab.sa ej hx hj
  ·exact m.ua y (by rw[ht];exact b6 _ hy) z z'
 ·rcases bB.mp hz with rfl|z'
  ·exact h y hy
  ·exact m.ub y hy z z'
def Mh.GO(ab:Ab o N A B)(m:Mh o A B ts na<|nb+1){x:Nat}(hx:B[nb]?=some x)(h:∀y∈A.take na,P o y x):Mh o A B (x::ts) na nb:=by
 have lb:=m.lb;have len:=m.len;have ht:=take_one hx;have xin:x∈B.take (nb+1):=by rw[ht];exact bF _ (bh.mpr rfl)
 refine⟨m.la,(),by rw[bq];lia,cL.mpr ⟨λy hy=>m.ub x xin y hy,m.so⟩,λz hz=>?_,λy hy z hz=>?_,λy hy z hz=>?_⟩
 ·rcases bB.mp hz with rfl|z'
  ·exact .inr (bf hx)
  ·exact m.mem z z'
 ·rcases bB.mp hz with rfl|z'
  ·exact h y hy
  ·exact m.ua y hy z z'
 ·rcases bB.mp hz with rfl|z'
  ·obtain⟨j,hj,ej⟩:=sE hy;exact qh ab.sb ej hx hj
  ·exact m.ub y (by rw[ht];exact b6 _ hy) z z'
theorem om{l:am}(h:l.Pairwise<|P o){i x:Nat}(hx:l[i]?=some x)(hxy:P o x y):∀z∈l.take (i+1),P o z y:=λz hz=>by
 obtain⟨j,hj,ej⟩:=sE hz;by_cases c:j=i
 ·subst c;rw[hx]at ej;cases ej;exact hxy
 ·exact(qh h ej hx ()).trans hxy
theorem Mh.vF(ab:Ab o N A B){mb:Nat}(hy:B[mb]?=some y):∀(k:Nat) {ts:am}{at_:Nat},Mh o A B ts (at_+k) (mb+1)->(∀i x,at_<=i->i<at_+k->A[i]?=some x->P o y x)->Mh o A B ((A.drop at_).take k++ts) at_ (mb+1)
 | 0,ts,at_,m,_=>by rw[eX];exact m
 | k+1,ts,at_,m,h=>by
  have la:=m.la;have hx:A[at_+k]?=some (A[at_+k]'()):=aG _;have m2:=Mh.ux ab (show Mh o A B ts (at_+k+1) (mb+1)from m) hx<|om ab.sb hy<|h _ _ () () hx;have m3:=Mh.vF ab hy k m2 λi x h1 h2=>h i x h1 ();rw[take_snoc hx,bS];exact m3
theorem Mh.vV(ab:Ab o N A B){ma:Nat}(hy:A[ma]?=some y):∀(k:Nat) {ts:am}{at_:Nat},Mh o A B ts (ma+1) (at_+k)->(∀i x,at_<=i->i<at_+k->B[i]?=some x->P o y x)->Mh o A B ((B.drop at_).take k++ts) (ma+1) at_
 | 0,ts,at_,m,_=>by rw[eX];exact m
 | k+1,ts,at_,m,h=>by
  have lb:=m.lb;have hx:B[at_+k]?=some (B[at_+k]'()):=aG _;have m2:=Mh.GO ab (show Mh o A B ts (ma+1) (at_+k+1)from m) hx<|om ab.sa hy<|h _ _ () () hx;have m3:=Mh.vV ab hy k m2 λi x h1 h2=>h i x h1 ();rw[take_snoc hx,bS];exact m3
def uV{l:am}(h:l.Pairwise<|P o)(i:Nat):(l.take i).Pairwise (P o):=h.sublist<|List.take_sublist ..
def Mh.fin(ab:Ab o N A B)(m:Mh o A B ts na nb)(h:∀x∈A.take na,∀y∈B.take nb,P o x y):Res o f A B ((fa f A).extract 0 na++(fa f B).extract 0 nb++fa f ts):=by
 rw[uR,uR,mG,mG];have la:=m.la;have lb:=m.lb;have len:=m.len;refine⟨_,rfl,by rw[aY,aY,bJ,bJ];lia,?_,λx hx=>?_⟩
 ·rw[b8,b8];refine⟨⟨uV ab.sa _,uV ab.sb _,h⟩,m.so,λx hx y hy=>?_⟩
  rcases bC.mp hx with z|z
  ·exact m.ua x z y hy
  ·exact m.ub x z y hy
 ·rcases bC.mp hx with z|z
  ·rcases bC.mp z with z|z
   ·exact .inl (bK z)
   ·exact .inr<|bK z
  ·exact m.mem x z
def Mh.ME(ab:Ab o N A B)(m:Mh o A B ts na nb)(h:∀x∈A.take na,∀y∈B.take nb,P o y x):Res o f A B ((fa f B).extract 0 nb++(fa f A).extract 0 na++fa f ts):=by
 rw[uR,uR,mG,mG];have la:=m.la;have lb:=m.lb;have len:=m.len;refine⟨_,rfl,by rw[aY,aY,bJ,bJ];lia,?_,λx hx=>?_⟩
 ·rw[b8,b8];refine⟨⟨uV ab.sb _,uV ab.sa _,λx hx y hy=>h y hy x hx⟩,m.so,λx hx y hy=>?_⟩
  rcases bC.mp hx with z|z
  ·exact m.ub x z y hy
  ·exact m.ua x z y hy
 ·rcases bC.mp hx with z|z
  ·rcases bC.mp z with z|z
   ·exact .inr (bK z)
   ·exact .inl<|bK z
  ·exact m.mem x z
abbrev Qw (o:Ord)(X Y:am):Prop:=∀y,Y[0]?=some y->∀x∈X,P o y x
def qx(ab:Ab o N A B)(bt:Qw o A B)(m:Mh o A B ts na nb)(h:nb=1):Res o f A B ((fa f B).extract 0 nb++(fa f A).extract 0 na++fa f ts):=
 m.ME ab λx hx y hy=>by
  obtain⟨j,hj,ej⟩:=sE hy;have:j=0:=()
  subst this;exact bt y ej x<|bK hx
def Mh.zF(ab:Ab o N A B)(m:Mh o A B ts na nb)(h:na=0\/nb=0):Res o f A B ((fa f A).extract 0 na++(fa f B).extract 0 nb++fa f ts):=
 m.fin ab λx hx y hy=>by
  rcases h with rfl|rfl
  ·rw[eX]at hx;cases hx
  ·rw[eX]at hy;cases hy
def uZ(l:am)(x:Nat):(fa f l.reverse).push (f x)=fa f (x::l).reverse:=by rw[rX,dj]
def GZ(l m:am):fa f l.reverse++(fa f m).reverse=fa f (m++l).reverse:=by rw[Gw,mG,List.reverse_append]
def qW(l:am):(fa f l.reverse).reverse=fa f l:=by rw[Gw,List.reverse_reverse]
end
meta abbrev H:=Option (Array Keyed)×Nat×Nat×Array Keyed×Nat×Nat×Nat
abbrev U3 (a b out:Array Keyed)(na nb mg ac bc:Nat):StateT SortSt Sem (ForInStep H):=do
 let x <- elem' a (na-1)
 if (na-1 == 0)=true then pure (ForInStep.done (some<|a.extract 0 (na-1)++b.extract 0 nb++(out.push x).reverse,na-1,nb,out.push x,mg,ac,bc))
 else if (decide (ac<7) && decide (bc<7))=true then pure (ForInStep.done (none,na-1,nb,out.push x,mg,ac,bc))
 else pure (ForInStep.yield (none,na-1,nb,out.push x,mg,ac,bc))
abbrev U2 (a b out:Array Keyed)(na nb mg ac bc:Nat):StateT SortSt Sem (ForInStep H):=do
 let x <- elem' b (nb-1)
 if (nb-1 == 1)=true then pure (ForInStep.done (some<|b.extract 0 (nb-1)++a.extract 0 na++(out.push x).reverse,na,nb-1,out.push x,mg,ac,bc))
 else
  let y <- elem' a (na-1)
  let r <- kj true y b 0 (nb-1) (nb-1-1)
  match r with
  | some t=>
   if nb-1-t>0 then
    if (t == 1)=true then pure (ForInStep.done (some<|b.extract 0 t++a.extract 0 na++(out.push x++(b.extract t<|nb-1).reverse).reverse,na,t,out.push x++(b.extract t<|nb-1).reverse,mg,ac,nb-1-t))
    else if (t == 0)=true then pure (ForInStep.done (some<|a.extract 0 na++b.extract 0 t++(out.push x++(b.extract t<|nb-1).reverse).reverse,na,t,out.push x++(b.extract t<|nb-1).reverse,mg,ac,nb-1-t))
    else U3 a b (out.push x++(b.extract t<|nb-1).reverse) na t mg ac (nb-1-t)
   else U3 a b (out.push x) na (nb-1) mg ac (nb-1-t)
  | _=>pure<|ForInStep.done (some<|a.extract 0 na++b.extract 0 (nb-1)++(out.push x).reverse,na,nb-1,out.push x,mg,ac,bc)
abbrev U1 (a b out:Array Keyed)(na nb mg ac bc:Nat):StateT SortSt Sem (ForInStep H):=do
 um mg
 let x <- elem' b (nb-1)
 let r <- kj false x a 0 na (na-1)
 match r with
 | some t=>
  if na-t>0 then
   if (t == 0)=true then pure (ForInStep.done (some<|a.extract 0 t++b.extract 0 nb++(out++(a.extract t na).reverse).reverse,t,nb,out++(a.extract t na).reverse,mg,na-t,bc))
   else U2 a b (out++(a.extract t na).reverse) t nb mg (na-t) bc
  else U2 a b out na nb mg (na-t) bc
 | _=>pure<|ForInStep.done (some<|a.extract 0 na++b.extract 0 nb++out.reverse,na,nb,out,mg,ac,bc)
section
variable {prog:ah}{w:af}{A:az}{E:aa->aA->Prop}{s:aA}{o:Ord}{N:Nat}{f:Nat->Keyed}{kd:SortKind}{st st0:SortSt}{X Y ts:am}{na nb:Nat}
abbrev Oh (o:Ord)(X Y:am)(n:Nat)(ts:am)(na nb:Nat):Prop:=Mh o X Y ts na nb/\1<=na/\2<=nb/\na+nb+n<=X.length+Y.length
abbrev H2 (o:Ord)(f:Nat->Keyed)(X Y:am)(n:Nat)(st0:SortSt):ForInStep H->SortSt->Prop:=λr st'=>Sm st0 st'/\match r with
 | .done c=>(∃r z,c=(some r,z)/\Res o f X Y r)\/∃ts na nb mg ac bc,c=(none,na,nb,fa f ts.reverse,mg,ac,bc)/\Oh o X Y n ts na nb
 | .yield c=>∃ts na nb mg ac bc,c=(none,na,nb,fa f ts.reverse,mg,ac,bc)/\Oh o X Y n ts na nb
def LD(ab:Ab o N X Y)(hm:Sm st0 st){n mg x:Nat}(m:Mh o X Y ts (na+1)<|nb+1)(hb:1<=nb)(hn:na+1+(nb+1)+n<=X.length+Y.length)(hx:X[na]?=some x)(hy:Y[nb]?=some y)(hxy:P o y x) :
  wpS (model prog w) A E s (U3 (fa f X) (fa f Y) (fa f ts.reverse) (na+1) (nb+1) mg ac bc) (H2 o f X Y n st0) st:=by
 unfold U3;rw[show na+1-1=na by lia];refine aQ<|jn (kr hx) ?_;have m2:=m.ux ab hx<|om ab.sb hy hxy;rw[uZ,qW];by_cases c:na=0
 ·rw[aM<|by rw[c];rfl];exact aW ⟨hm,.inl ⟨_,_,rfl,m2.zF ab<|.inl c⟩⟩
 ·rw[aL<|by simpa using c];by_cases c2:(decide (ac<7) && decide (bc<7))=true
  ·rw[aM c2];exact aW ⟨hm,.inr ⟨_,_,_,_,_,_,rfl,m2,(),(),()⟩⟩
  ·rw[aL c2];exact aW ⟨hm,⟨_,_,_,_,_,_,rfl,m2,(),(),()⟩⟩
def Lv(C:xH prog w A s o N f kd)(hk:kindOf st=kd)(ab:Ab o N X Y)(bt:Qw o X Y)(hm:Sm st0 st){n mg x:Nat}(m:Mh o X Y ts (na+1)<|nb+1)(hb:1<=nb)(hn:na+1+(nb+1)+n<=X.length+Y.length)(hx:X[na]?=some x)(hy:Y[nb]?=some y)(hxy:P o x y) :
  wpS (model prog w) A E s (U2 (fa f X) (fa f Y) (fa f ts.reverse) (na+1) (nb+1) mg ac bc) (H2 o f X Y n st0) st:=by
 unfold U2;rw[show nb+1-1=nb by lia,show na+1-1=na by lia];f_are;have m2:=m.GO ab hy<|om ab.sa hx hxy;have lb:=m.lb;rw[uZ,qW];by_cases c:nb=1
 ·rw[aM<|by rw[c];rfl];exact aW ⟨hm,.inl ⟨_,_,rfl,qx ab bt m2 c⟩⟩
 ·rw[aL<|by simpa using c];refine aQ<|jn (kr hx) ?_;refine aQ (IJ C hk (h:=λi=>Y.getD (0+i) 0) (λi hi=>kr<|getD_at ()) (λi hi=>?_) (Eh ab.sb _ _ ()) () λt t1 t2 t3=>?_)
  ·have:=bf<|getD_at (l:=Y) (i:=0+i) ();exact⟨ab.lt x (bf hx) _ this,ab.nb _ this⟩
  ·dsimp only;have m3:=Mh.vV ab hx (nb-t) (at_:=t) (by rw[show t+(nb-t)=nb by lia];exact m2) λi z hi1 hi2 ez=>by
    have:=t3 i hi1 ();rw[eG,aO (l:=Y),ez]at this;exact this
   by_cases c2:nb-t>0
   ·rw[aM c2,sI Y t nb,GZ,qW];by_cases c3:t=1
    ·rw[aM<|by rw[c3];rfl];exact aW ⟨hm,.inl ⟨_,_,rfl,qx ab bt m3 c3⟩⟩
    ·rw[aL<|by simpa using c3];by_cases c4:t=0
     ·rw[aM<|by rw[c4];rfl];exact aW ⟨hm,.inl ⟨_,_,rfl,m3.zF ab<|.inr c4⟩⟩
     ·rw[aL<|by simpa using c4];obtain⟨u,rfl⟩:∃u,t=u+1:=⟨t-1,()⟩;have:=t2 u ();rw[eG]at this;exact LD ab hm m3 () () hx (getD_at ()) this
   ·rw[aL c2];have:t=nb:=()
    subst this;obtain⟨u,rfl⟩:∃u,t=u+1:=⟨t-1,()⟩;have:=t2 u ();rw[eG]at this;exact LD ab hm m2 () () hx (getD_at ()) this
def O4(C:xH prog w A s o N f kd)(hk:kindOf st0=kd)(ab:Ab o N X Y)(bt:Qw o X Y)(hm:Sm st0 st){n mg:Nat}(m:Mh o X Y ts (na+1)<|nb+1)(hb:1<=nb)(hn:na+1+(nb+1)+n<=X.length+Y.length) :
  wpS (model prog w) A E s (U1 (fa f X) (fa f Y) (fa f ts.reverse) (na+1) (nb+1) mg ac bc) (H2 o f X Y n st0) st:=by
 unfold U1;refine aQ<|sj hm λst1 hm1=>?_;have lb:=m.lb;have la:=m.la;rw[show nb+1-1=nb by lia,show na+1-1=na by lia];have hy:=getD_at (l:=Y) (i:=nb) ();have yB:=bf hy;f_are;refine aQ (Fx C (by rw[hm1.k];exact hk) (h:=λi=>X.getD (0+i) 0) (λi hi=>kr<|getD_at ()) (λi hi=>ab.lt _ (bf<|getD_at (l:=X) (i:=0+i) ()) _ yB) (ab.nb _ yB) (Eh ab.sa _ _ ()) () λt t1 t2 t3=>?_);dsimp only;have m3:=Mh.vF ab hy (na+1-t) (at_:=t) (by rw[show t+(na+1-t)=na+1 by lia];exact m) λi z hi1 hi2 ez=>by
  have:=t3 i hi1 ();rw[eG,aO (l:=X),ez]at this;exact this
 by_cases c2:na+1-t>0
 ·rw[aM c2,sI X t<|na+1,GZ,qW];by_cases c4:t=0
  ·rw[aM<|by rw[c4];rfl];exact aW ⟨hm1,.inl ⟨_,_,rfl,m3.zF ab<|.inl c4⟩⟩
  ·rw[aL<|by simpa using c4];obtain⟨u,rfl⟩:∃u,t=u+1:=⟨t-1,()⟩;have:=t2 u ();rw[eG]at this;exact Lv C (by rw[hm1.k];exact hk) ab bt hm1 m3 hb () (getD_at ()) hy this
 ·rw[aL c2];have:t=na+1:=()
  subst this;have:=t2 na ();rw[eG]at this;exact Lv C (by rw[hm1.k];exact hk) ab bt hm1 m hb hn (getD_at ()) hy this
def PK(C:xH prog w A s o N f kd)(hk:kindOf st=kd)(ab:Ab o N X Y)(tp:Top o X Y)(bt:Qw o X Y)(h1:1<=X.length)(h2:1<=Y.length)
  {Q:Array Keyed->SortSt->Prop} (q:∀out st',Sm st st'->Res o f X Y out->Q out st'):wpS (model prog w) A E s (vQ (fa f X)<|fa f Y) Q st:=by
 rw[Br];mg_lt;dsimp only;rw[kD,kD];have hx0:=getD_at (l:=X) (i:=X.length-1) ();refine aQ<|jn (kr hx0) ?_;have m0:Mh o X Y [] (X.length-1+1) Y.length:=⟨(),aN _,by rw[gF];lia,List.Pairwise.nil,(nofun),(λ_ _ _ h=>nomatch h),(λ_ _ _ h=>nomatch h)⟩;have m1:=m0.ux ab hx0 λy hy=>tp _ _ hx0 () y<|bK hy;obtain⟨x0,ex0⟩:∃x0,x0=X.getD (X.length-1) 0:=⟨_,rfl⟩;rw[<- ex0]at m1 ⊢;have e1:(#[f x0]:Array Keyed)=fa f [x0].reverse:=rfl;rw[e1,qW];by_cases c:X.length-1=0
 ·rw[aM<|by rw[c];rfl];exact aW (q _ _ Sm.refl<|m1.zF ab<|.inl c)
 ·rw[aL<|by simpa using c];by_cases c2:Y.length=1
  ·rw[aM<|by rw[c2];rfl];exact aW (q _ _ Sm.refl<|qx ab bt m1 c2)
  ·rw[aL<|by simpa using c2];refine aQ<|fW ?_;refine aQ (dG (b_ (I:=λx c st'=>Sm st st'/\∃ts na nb mg,c=(none,na,nb,fa f ts.reverse,mg)/\Oh o X Y (x+1) ts na nb)
    (Q:=λc st'=>Sm st st'/\∃r z,c=(some r,z)/\Res o f X Y r) ?step ?fin ⟨Sm.refl,_,_,_,_,rfl,m1,(),(),()⟩) ?post)
   case post=>
    rintro c st' ⟨hm,r,z,rfl,hr⟩;exact aW<|q _ _ hm hr
   case fin=>
    rintro c st' ⟨hm,ts,na,nb,mg,rfl,m,a1,a2,a3⟩;exfalso
    lia
   case step=>
    intro x c st' _ hx hh;revert hh;revert c;refine Sv λhm ts na nb mg ho=>?_;have m:=ho.1;have a1:=ho.2.1;have a2:=ho.2.2.1;have a3:=ho.2.2.2;clear ho;dsimp only;refine aQ (dG (b_ (I:=λx' c st''=>Sm st st''/\∃ts na nb ac bc,c=(none,na,nb,fa f ts.reverse,ac,bc)/\Oh o X Y (x+1+min x' 1) ts na nb)
     (Q:=λc st''=>Sm st st''/\((∃r z,c=(some r,z)/\Res o f X Y r)\/∃ts na nb ac bc,c=(none,na,nb,fa f ts.reverse,ac,bc)/\Oh o X Y (x+1+1) ts na nb)) ?istep ?ifin ⟨hm,_,_,_,_,_,rfl,m,a1,a2,a3⟩) ?ipost)
    case ifin=>
     rintro c st'' ⟨hm',ts,na,nb,ac,bc,rfl,m,a1,a2,a3⟩;exact⟨hm',.inr ⟨_,_,_,_,_,rfl,m,a1,a2,()⟩⟩
    case istep=>
     intro x' c st'' _ hx' hh;revert hh;revert c;refine Sz λhm' ts na nb ac bc ho=>?_;have m:=ho.1;have a1:=ho.2.1;have a2:=ho.2.2.1;have a3:=ho.2.2.2;clear ho;dsimp only;obtain⟨u,rfl⟩:∃u,na=u+1:=⟨na-1,()⟩;obtain⟨v,rfl⟩:∃v,nb=v+1:=⟨nb-1,()⟩;have la:=m.la;have lb:=m.lb;rw[show u+1-1=u by lia,show v+1-1=v by lia];have hy:=getD_at (l:=Y) (i:=v) ();have hxx:=getD_at (l:=X) (i:=u) ();have yB:=bf hy;have xA:=bf hxx;have lt:=ab.lt _ xA _ yB;f_are;refine aQ<|jn (kr hxx) ?_;refine aQ (wB C (by rw[hm'.k];exact hk) (ab.nb _ yB) (ab.na _ xA) ?_)
     cases hl:o.lt (Y.getD v 0) (X.getD u 0)
     ·dsimp[bA,cK];f_are;have m2:=m.GO ab hy<|om ab.sa hxx<|P.uA hl lt;rw[uZ,qW];by_cases c3:v=1
      ·rw[aM<|by rw[c3];rfl];exact aW ⟨hm',.inl ⟨_,_,rfl,qx ab bt m2 c3⟩⟩
      ·rw[aL<|by simpa using c3];by_cases c4:bc+1>=mg
       ·rw[aM c4];exact aW ⟨hm',.inr ⟨_,_,_,_,_,rfl,m2,a1,(),()⟩⟩
       ·rw[aL c4];exact aW ⟨hm',_,_,_,_,_,rfl,m2,a1,(),()⟩
     ·dsimp[dJ];refine aQ<|jn (kr hxx) ?_;have m2:=m.ux ab hxx<|om ab.sb hy<|P.of_lt hl;rw[uZ,qW];by_cases c3:u=0
      ·rw[aM<|by rw[c3];rfl];exact aW ⟨hm',.inl ⟨_,_,rfl,m2.zF ab<|.inl c3⟩⟩
      ·rw[aL<|by simpa using c3];by_cases c4:ac+1>=mg
       ·rw[aM c4];exact aW ⟨hm',.inr ⟨_,_,_,_,_,rfl,m2,(),a2,()⟩⟩
       ·rw[aL c4];exact aW ⟨hm',_,_,_,_,_,rfl,m2,(),a2,()⟩
    case ipost=>
     intro c st'' hh;revert hh;revert c;refine SQ (λhm' r z hr=>?_) λhm' ts na nb ac bc ho=>?_
     ·dsimp only;exact aW ⟨hm',r,_,rfl,hr⟩
     ·have m:=ho.1;have a1:=ho.2.1;have a2:=ho.2.2.1;have a3:=ho.2.2.2;clear ho;dsimp only;mg_lt;refine aQ (dG (b_ (I:=λx' c st''=>Sm st st''/\∃ts na nb mg ac bc,c=(none,na,nb,fa f ts.reverse,mg,ac,bc)/\Oh o X Y (x+1+1) ts na nb)
       (Q:=λc st''=>Sm st st''/\((∃r z,c=(some r,z)/\Res o f X Y r)\/∃ts na nb mg ac bc,c=(none,na,nb,fa f ts.reverse,mg,ac,bc)/\Oh o X Y (x+1+1) ts na nb)) ?jstep ?jfin ⟨hm',_,_,_,_,_,_,rfl,m,a1,a2,a3⟩) ?jpost)
      case jfin=>
       rintro c st3 ⟨hm3,hh⟩;exact⟨hm3,.inr hh⟩
      case jstep=>
       intro x' c st3 _ hx' hh;revert hh;revert c;refine SD λhm3 ts na nb mg ac bc ho=>?_;have m:=ho.1;have a1:=ho.2.1;have a2:=ho.2.2.1;have a3:=ho.2.2.2;clear ho;dsimp only;obtain⟨u,rfl⟩:∃u,na=u+1:=⟨na-1,()⟩;obtain⟨v,rfl⟩:∃v,nb=v+1:=⟨nb-1,()⟩;have t1:=λmg=>O4 (n:=x+1+1) (mg:=mg) (ac:=ac) (bc:=bc) (E:=E) C hk ab bt hm3 m () a3;unfold U1 U2 U3 at t1;refine dG (Q:=H2 o f X Y (x+1+1) st) ?_ ?_
       ·by_cases c3:mg>1
        ·rw[aM c3];exact t1 (mg-1)
        ·rw[aL c3];exact t1 mg
       ·rintro r st4 ⟨hm4,hr⟩
        cases r with
        | done c=>exact⟨hm4,hr⟩
        | yield c=>exact⟨hm4,hr⟩
      case jpost=>
       intro c st3 hh;revert hh;revert c;refine Su (λhm3 r z hr=>?_) λhm3 ts na nb mg ac bc ho=>?_
       ·dsimp only;exact aW ⟨hm3,r,_,rfl,hr⟩
       ·have m:=ho.1;have a1:=ho.2.1;have a2:=ho.2.2.1;have a3:=ho.2.2.2;clear ho;dsimp only;refine aQ<|sj hm3 λst4 hm4=>?_;exact aW ⟨hm4,_,_,_,_,rfl,m,a1,a2,a3⟩
end
def Bu(i:Nat):mergeAt' i=(do
 let s <- get
 let(some (a1,n1,pw),some (a2,n2,_)):=((pendingOf s)[i]?,(pendingOf s)[i+1]?)|unsupported "internal:list.sort.pending"
 set (setPending s<|((pendingOf s).setIfInBounds i (a1,n1+n2,pw)).eraseIdxIfInBounds<|i+1)
 let some k <- kj false (<- elem' (arrOf s) a2) (arrOf s) a1 n1 0|return false
 let(a1,n1):=(a1+k,n1-k)
 if n1 == 0 then return true
 let some n2 <- kj true (<- elem' (arrOf s) (a1+n1-1)) (arrOf s) a2 n2 (n2-1)|return false
 if n2 == 0 then return true
 let x:=(arrOf s).extract a1 a2
 let y:=(arrOf s).extract a2 (a2+n2)
 let both <- if n1<=n2 then vG x y else vQ x y
 modify λs=>setArr s (both.toList.zipIdx.foldl (λa (p,j)=>a.setIfInBounds (a1+j) p)<|arrOf s)
 return (failedOf<|<- get).isNone):=rfl
abbrev seg (g:Nat->Nat)(a n:Nat):am:=(List.range n).map λi=>g<|a+i
section
variable {o:Ord}{N:Nat}{f:Nat->Keyed}{g:Nat->Nat}
def l5(g:Nat->Nat)(a n:Nat):(seg g a n).length=n:=by unfold seg;rw[aK,bW]
def oN{a n i:Nat}(h:i<n):(seg g a n)[i]?=some (g<|a+i):=by unfold seg;rw[a_,dH h];rfl
def ni{a n x:Nat}(h:x∈seg g a n):∃i,i<n/\x=g (a+i):=by
 obtain⟨i,hi,rfl⟩:=eF.mp h;exact⟨i,cX.mp hi,rfl⟩
def F2{a n:Nat}(h:So o g a<|a+n):(seg g a n).Pairwise (P o):=by
 rw[cN];intro i j hi hj hij;rw[l5]at hi hj;have e1:=oN (g:=g) (a:=a) hi;have e2:=oN (g:=g) (a:=a) hj;rw[aG<|by rw[l5];exact hi]at e1;rw[aG<|by rw[l5];exact hj]at e2;rw[aS e1,aS e2];exact h _ _ () () ()
def CL{arr:Array Keyed}(hs:arr.size=N)(hg:∀i,i<N->arr[i]?=some (f<|g i)){a n:Nat}(h:a+n<=N):arr.extract a (a+n)=fa f (seg g a n):=by
 apply Array.ext_getElem?;intro i;rw[GL,fX];by_cases c:i<n
 ·rw[aM (),oN c,hg _ ()];rfl
 ·rw[aL (),bG<|by rw[l5];lia];rfl
theorem xq{α:Type}(b:Nat):∀(l:List α) (n:Nat) (arr:Array α),((l.zipIdx n).foldl (λa (p,j)=>a.setIfInBounds (b+j) p) arr).size=arr.size
 | [],_,_=>rfl
 | x::l,n,arr=>by
  rw[List.zipIdx_cons,gE,xq b l<|n+1];exact Array.size_setIfInBounds ..
theorem AA{α:Type}(b:Nat):∀(l:List α) (n:Nat) (arr:Array α) (k:Nat),b+n+l.length<=arr.size->((l.zipIdx n).foldl (λa (p,j)=>a.setIfInBounds (b+j) p) arr)[k]?=if b+n<=k/\k<b+n+l.length then l[k-(b+n)]? else arr[k]?
 | [],n,arr,k,h=>by rw[aL<|by rw[gF];lia];rfl
 | x::l,n,arr,k,h=>by
  rw[bq]at h;rw[List.zipIdx_cons,gE,AA b l (n+1) _ k<|by rw[Array.size_setIfInBounds];lia,bq];by_cases c:k=b+n
  ·subst c;rw[aL (),aM (),gM];show(arr.setIfInBounds (b+n) x)[b+n]?=some x;rw[Array.getElem?_setIfInBounds_self_of_lt ()]
  ·by_cases c2:b+n<=k/\k<b+n+(l.length+1)
   ·rw[aM (),aM c2,show k-(b+n)=k-(b+(n+1))+1 by lia,List.getElem?_cons_succ]
   ·rw[aL (),aL c2]
    skip
    rw[f9 ()]
end
section
variable {prog:ah}{w:af}{A:az}{E:aa->aA->Prop}{s:aA}{o:Ord}{N:Nat}{f:Nat->Keyed}{kd:SortKind}{g:Nat->Nat}{st:SortSt}
def Ku{Q:PUnit->SortSt->Prop}(h:Q ⟨⟩ st'):wpS (model prog w) A E s (set st':StateT SortSt Sem PUnit) Q st:=by
 unfold wpS;rw[StateT.run_set];exact aH ⟨rfl,h⟩
def P_(C:xH prog w A s o N f kd){l1:List<|Nat×Nat×Nat}{sa na nb pv:Nat}(h:Sg N f kd g (l1++(sa,na,pw)::(sa+na,nb,pv)::l2).toArray st)(ha:1<=na)(hb:1<=nb)(hN:sa+na+nb<=N)
  (c1:Cl g sa<|sa+na) (s1:So o g sa<|sa+na) (c2:Cl g (sa+na)<|sa+na+nb) (s2:So o g (sa+na)<|sa+na+nb)
  {Q:Bool->SortSt->Prop} (q:∀g' st',Sg N f kd g' (l1++(sa,na+nb,pw)::l2).toArray st'->Rn o g g' sa (sa+na+nb)->Q true st'):wpS (model prog w) A E s (mergeAt' l1.length) Q st:=by
 rw[Bu];refine aQ<|fW ?_;have e1:(pendingOf st)[l1.length]?=some (sa,na,pw):=by rw[h.pend];simp
 have e2:(pendingOf st)[l1.length+1]?=some (sa+na,nb,pv):=by rw[h.pend];simp
 have e3:((pendingOf st).setIfInBounds l1.length (sa,na+nb,pw)).eraseIdxIfInBounds (l1.length+1)=(l1++(sa,na+nb,pw)::l2).toArray:=by
  rw[h.pend,List.setIfInBounds_toArray,List.eraseIdxIfInBounds_toArray];congr 1;rw[eN _ _<|aN _,gM,List.eraseIdx_append_of_length_le (),show l1.length+1-l1.length=1 by lia];rfl
 rw[e1,e2];dsimp only;rw[e3];refine aQ<|Ku ?_;have h':Sg N f kd g (l1++(sa,na+nb,pw)::l2).toArray (setPending st (l1++(sa,na+nb,pw)::l2).toArray):=⟨h.size,h.get,h.lt,h.kind,h.failed,rfl⟩;obtain⟨st1,hst1⟩:∃st1,st1=setPending st (l1++(sa,na+nb,pw)::l2).toArray:=⟨_,rfl⟩;rw[<- hst1]at h' ⊢;refine aQ<|jn (h.get (sa+na) ()) ?_;have b0:=c2 (sa+na) () ();refine aQ (Fx C h'.kind (h:=λi=>g<|sa+i) (λi hi=>h.get _ ()) (λi hi=>by have:=c1 (sa+i) () ();lia) () (λi j _ a b=>s1 _ _ () () ()) () λk k1 k2 k3=>?_);dsimp only;by_cases cz:na-k=0
 ·rw[aM<|by rw[cz];rfl];refine aW (q g st1 h' ⟨λ_ _=>rfl,λi a b=>?_,λi j a b c=>?_⟩)
  ·by_cases d:i<sa+na
   ·have:=c1 i a d;lia
   ·have:=c2 i () b;lia
  ·by_cases d:j<sa+na
   ·exact s1 i j a b d
   ·by_cases d2:sa+na<=i
    ·exact s2 i j d2 b c
    ·have r:=k2 (i-sa) ();rw[show sa+(i-sa)=i by lia]at r;by_cases d3:j=sa+na
     ·subst d3;exact r
     ·exact r.trans<|s2 _ _ () () c
 ·rw[aL<|by simpa using cz];have hlast:sa+k+(na-k)-1=sa+na-1:=()
  rw[hlast];refine aQ<|jn (h.get (sa+na-1) ()) ?_;have a0:=c1 (sa+na-1) () ();refine aQ (IJ C h'.kind (h:=λi=>g<|sa+na+i) (λi hi=>h.get _ ()) (λi hi=>by have:=c2 (sa+na+i) () ();lia) (λi j _ a b=>s2 _ _ () () ()) () λt t1 t2 t3=>?_);dsimp only;by_cases cy:t=0
  ·rw[aM<|by rw[cy];rfl];subst cy;refine aW (q g st1 h' ⟨λ_ _=>rfl,λi a b=>?_,λi j a b c=>?_⟩)
   ·by_cases d:i<sa+na
    ·have:=c1 i a d;lia
    ·have:=c2 i () b;lia
   ·by_cases d:j<sa+na
    ·exact s1 i j a b d
    ·by_cases d2:sa+na<=i
     ·exact s2 i j d2 b c
     ·have r:=t3 (j-(sa+na)) () ();rw[show sa+na+(j-(sa+na))=j by lia]at r;by_cases d3:i=sa+na-1
      ·subst d3;exact r
      ·exact(s1 i (sa+na-1) a () ()).trans r
  ·rw[aL<|by simpa using cy];have x1:(arrOf st).extract (sa+k) (sa+na)=fa f (seg g (sa+k)<|na-k):=by
    have:=CL (f:=f) (g:=g) h.size h.get (a:=sa+k) (n:=na-k) ()
    rwa [show sa+k+(na-k)=sa+na by lia]at this
   have x2:(arrOf st).extract (sa+na) (sa+na+t)=fa f (seg g (sa+na) t):=CL h.size h.get ();rw[x1,x2];have sx:So o g (sa+k) (sa+k+(na-k)):=λi j a b c=>s1 i j () b ();have sy:So o g (sa+na) (sa+na+t):=λi j a b c=>s2 i j a b ();have ab:Ab o N (seg g (sa+k)<|na-k) (seg g (sa+na) t):={
    sa:=F2 sx
    sb:=F2 sy
    lt:=λx hx y hy=>by
     obtain⟨i,hi,rfl⟩:=ni hx;obtain⟨j,hj,rfl⟩:=ni hy;have:=c1 (sa+k+i) () ();have:=c2 (sa+na+j) () ()
     lia
    nb:=λy hy=>by
     obtain⟨j,hj,rfl⟩:=ni hy;exact h.lt _ ()
    na:=λy hy=>by
     obtain⟨j,hj,rfl⟩:=ni hy;exact h.lt _ ()}
   have tp:Top o (seg g (sa+k)<|na-k) (seg g (sa+na) t):=λi x hx hi y hy=>by
    rw[l5]at hi;rw[oN ()]at hx
    cases hx
    obtain⟨j,hj,rfl⟩:=ni hy;rw[show sa+k+i=sa+na-1 by lia];exact t2 j hj
   have bt:Qw o (seg g (sa+k)<|na-k) (seg g (sa+na) t):=λy hy x hx=>by
    rw[oN ()]at hy
    cases hy
    obtain⟨i,hi,rfl⟩:=ni hx;have:=k3 (k+i) () ()
    rwa [<- gr]at this
   have fin:∀out st2,Sm st1 st2->Res o f (seg g (sa+k)<|na-k) (seg g (sa+na) t) out->wpS (model prog w) A E s (do
     modify λs=>setArr s (out.toList.zipIdx.foldl (λa (p,j)=>a.setIfInBounds (sa+k+j) p)<|arrOf s)
     let s <- get
     pure (failedOf s).isNone) Q st2:=by
    rintro out st2 hm ⟨hs,rfl,hlen,hso,hmem⟩;rw[l5,l5]at hlen;refine aQ<|eK<|aQ<|fW ?_;have hf:(failedOf st2)=none:=by rw[hm.f];exact h'.failed
    have hmx:∀j x,hs[j]?=some x->(∃i,i<na-k/\x=g (sa+k+i))\/∃i,i<t/\x=g (sa+na+i):=λj x e=>by
     rcases hmem x (bf e)with z|z
     ·exact .inl (ni z)
     ·exact .inr<|ni z
    have ez:(fa f hs).toList=hs.map f:=by unfold fa;rfl
    have hsz:sa+k+0+(hs.map f).length<=(arrOf st2).size:=by rw[aK,hlen,hm.a,h'.size];lia
    refine aW ?_
    skip
    rw[hf];refine q (λi=>if sa+k<=i/\i<sa+k+(na-k+t)then hs.getD (i-(sa+k)) 0 else g i) _ ⟨?_,λi hi=>?_,λi hi=>?_,by rw[show kindOf (setArr st2 _)=kindOf st2 from rfl,hm.k];exact h'.kind,hf,by rw[show pendingOf (setArr st2 _)=pendingOf st2 from rfl,hm.p];exact h'.pend⟩ ?_
    ·have:=xq (sa+k) (fa f hs).toList 0<|arrOf st2;rw[hm.a,h'.size]at this;rw[<- this,<- hm.a]
    ·skip
     rw[ez,AA _ _ _ _ _ hsz,aK,hlen,hm.a];by_cases d:sa+k<=i/\i<sa+k+(na-k+t)
     ·rw[aM (),aM d,a_,Nat.add_zero,getD_at (l:=hs) ()];rfl
     ·rw[aL (),aL d];exact h'.get i hi
    ·by_cases d:sa+k<=i/\i<sa+k+(na-k+t)
     ·rw[aM d]
      rcases hmx _ _ (getD_at (l:=hs) (i:=i-(sa+k)) ())with⟨j,hj,e⟩|⟨j,hj,e⟩
      ·rw[e];exact h.lt _ ()
      ·rw[e];exact h.lt _ ()
     ·rw[aL d];exact h.lt i hi
    ·have gin:∀i,sa+k<=i->i<sa+na+t->(if sa+k<=i/\i<sa+k+(na-k+t)then hs.getD (i-(sa+k)) 0 else g i)=hs.getD (i-(sa+k)) 0:=λi a b=>aM ();have gout:∀i,i<sa+k\/sa+na+t<=i->(if sa+k<=i/\i<sa+k+(na-k+t)then hs.getD (i-(sa+k)) 0 else g i)=g i:=λi a=>aL ();refine⟨λi hi=>gout i (),λi a b=>?_,λi j a b c=>?_⟩
     ·by_cases d:sa+k<=i/\i<sa+na+t
      ·skip
       rw[gin i d.1 d.2]
       rcases hmx _ _ (getD_at (l:=hs) (i:=i-(sa+k)) ())with⟨j,hj,e⟩|⟨j,hj,e⟩
       ·rw[e];have:=c1 (sa+k+j) () ();lia
       ·rw[e];have:=c2 (sa+na+j) () ();lia
      ·skip
       rw[gout i ()];by_cases d2:i<sa+na
       ·have:=c1 i a d2;lia
       ·have:=c2 i () b;lia
     ·skip
      by_cases d1:i<sa+k
      ·rw[gout i<|.inl d1];have r:=k2 (i-sa) ();rw[show sa+(i-sa)=i by lia]at r;by_cases d2:j<sa+k
       ·rw[gout j<|.inl d2];exact s1 i j a b ()
       ·by_cases d3:j<sa+na+t
        ·rw[gin j () d3]
         rcases hmx _ _ (getD_at (l:=hs) (i:=j-(sa+k)) ())with⟨v,hv,e⟩|⟨v,hv,e⟩
         ·rw[e];exact s1 _ _ a () ()
         ·rw[e];by_cases d4:v=0
          ·subst d4;exact r
          ·exact r.trans<|s2 _ _ () () ()
        ·rw[gout j ()];exact r.trans<|s2 _ _ () () c
      ·by_cases d2:i<sa+na+t
       ·rw[gin i () d2];by_cases d3:j<sa+na+t
        ·rw[gin j () d3];exact qh hso (getD_at ()) (getD_at ()) ()
        ·rw[gout j ()]
         rcases hmx _ _ (getD_at (l:=hs) (i:=i-(sa+k)) ())with⟨v,hv,e⟩|⟨v,hv,e⟩
         ·rw[e];have r:=t3 (j-(sa+na)) () ();rw[show sa+na+(j-(sa+na))=j by lia]at r;by_cases d4:sa+k+v=sa+na-1
          ·rw[d4];exact r
          ·exact(s1 _ (sa+na-1) () () ()).trans r
         ·rw[e];exact s2 _ _ () () c
       ·rw[gout i (),gout j ()];exact s2 i j () b c
   by_cases cl:na-k<=t
   ·rw[aM cl];exact aQ (Qf C h'.kind ab tp (by rw[l5];lia) (oN ()) (bt _<|oN ()) fin)
   ·rw[aL cl];exact aQ<|PK C h'.kind ab tp bt (by rw[l5];lia) (by rw[l5];lia) fin
end
meta abbrev pr (x:Nat×Nat×Nat):Nat×Nat:=(x.1,x.2.1)
abbrev oU (o:Ord)(g:Nat->Nat):List (Nat×Nat)->Nat->Nat->Prop
 | [],a,b=>a=b
 | x::l,a,b=>x.1=a/\1<=x.2/\Cl g a (a+x.2)/\So o g a (a+x.2)/\oU o g l (a+x.2) b
abbrev PA (o:Ord)(g:Nat->Nat)(p:Array<|Nat×Nat×Nat)(b:Nat):Prop:=oU o g (p.toList.map pr) 0 b
section
variable {o:Ord}{g:Nat->Nat}
def oU.le:∀{l:List<|Nat×Nat}{a b:Nat},oU o g l a b->a+l.length<=b
 | [],a,b,h=>by have h:a=b:=h;rw[gF];lia
 | x::l,a,b,h=>by
  have:=h.2.2.2.2.le;have:=h.2.1;rw[bq];lia
def oU.congr{g':Nat->Nat}:∀{l:List<|Nat×Nat}{a b:Nat},oU o g l a b->(∀i,a<=i->i<b->g' i=g i)->oU o g' l a b
 | [],a,b,h,_=>h
 | x::l,a,b,h,e=>by
  have hb:=h.2.2.2.2.le;refine⟨h.1,h.2.1,λi h1 h2=>?_,λi j h1 h2 h3=>?_,h.2.2.2.2.congr λi h1 h2=>e i () h2⟩
  ·rw[e i h1 ()];exact h.2.2.1 i h1 h2
  ·rw[e i h1 (),e j () ()];exact h.2.2.2.1 i j h1 h2 h3
theorem oU.app:∀{l m:List<|Nat×Nat}{a b:Nat},oU o g (l++m) a b ↔ ∃c,oU o g l a c/\oU o g m c b
 | [],m,a,b=>⟨λh=>⟨a,rfl,h⟩,λ⟨c,h1,h2⟩=>by have h1:a=c:=h1;subst h1;exact h2⟩
 | x::l,m,a,b=>by
  constructor
  ·rintro⟨h1,h2,h3,h4,h5⟩;obtain⟨c,h6,h7⟩:=oU.app.mp h5;exact⟨c,⟨h1,h2,h3,h4,h6⟩,h7⟩
  ·rintro⟨c,⟨h1,h2,h3,h4,h5⟩,h6⟩;exact⟨h1,h2,h3,h4,oU.app.mpr ⟨c,h5,h6⟩⟩
def MH{p:Array<|Nat×Nat×Nat}(h:i+1<p.size):∃l1 x y l2,p=(l1++x::y::l2).toArray/\l1.length=i:=by
 have h':i+1<p.toList.length:=h;refine⟨p.toList.take i,p.toList[i],p.toList[i+1],p.toList.drop<|i+2,?_,by rw[bJ];lia⟩;apply Array.toList_inj.mp
 skip
 conv=>lhs;rw[<- eO i p.toList,bU<|show i<p.toList.length by lia,bU h']
end
section
variable {prog:ah}{w:af}{A:az}{E:aa->aA->Prop}{s:aA}{o:Ord}{N:Nat}{f:Nat->Keyed}{kd:SortKind}{g:Nat->Nat}{p:Array (Nat×Nat×Nat)}{st:SortSt}
def Bx(C:xH prog w A s o N f kd)(h:Sg N f kd g p st){lo:Nat}(hp:PA o g p lo)(hlo:lo<=N)(hi:i+1<p.size)
  {Q:Bool->SortSt->Prop} (q:∀g' p' st',Sg N f kd g' p' st'->PA o g' p' lo->p'.size+1=p.size->(∀k,lo<=k->g' k=g k)->Q true st'):wpS (model prog w) A E s (mergeAt' i) Q st:=by
 obtain⟨l1,⟨sa,na,pw⟩,⟨sb,nb,pv⟩,l2,rfl,rfl⟩:=MH hi;unfold PA at hp;rw[show(l1++(sa,na,pw)::(sb,nb,pv)::l2).toArray.toList=l1++(sa,na,pw)::(sb,nb,pv)::l2 from rfl,cM]at hp;obtain⟨c,h1,h2⟩:=oU.app.mp hp;obtain⟨e1,n1,cl1,so1,e2,n2,cl2,so2,rest⟩:=h2;have e1:sa=c:=e1;subst e1;have e2:sb=sa+na:=e2;subst e2;have l2b:=rest.le;have n1:1<=na:=n1;have n2:1<=nb:=n2;have l2b:sa+na+nb<=lo:=by
  have:sa+na+nb+(List.map pr l2).length<=lo:=l2b
  lia
 refine P_ C h n1 n2 () cl1 so1 cl2 so2 λg' st' h' R=>q g' _ st' h' ?_ (by simp;lia) λk hk=>R.out k ();unfold PA;rw[show(l1++(sa,na+nb,pw)::l2).toArray.toList=l1++(sa,na+nb,pw)::l2 from rfl,cM];refine oU.app.mpr ⟨sa,h1.congr λi a b=>R.out i (),rfl,by show 1<=na+nb;lia,?_,?_,?_⟩
 ·show Cl g' sa (sa+(na+nb));rw[<- gr];exact R.cl
 ·show So o g' sa (sa+(na+nb));rw[<- gr];exact R.so
 ·skip
  rw[<- gr];exact rest.congr λi a b=>R.out i<|.inr a
def wY{p:Array<|Nat×Nat×Nat}{lo:Nat}{u:Nat×Nat×Nat->Nat×Nat×Nat}(hu:∀x,pr (u x)=pr x)(h:PA o g p lo):PA o g (p.modify i u) lo:=by
 unfold PA at h ⊢;have:(p.modify i u).toList.map pr=p.toList.map pr:=by
  rw[Array.toList_modify];apply cH;intro k;rw[a_,a_,List.getElem?_modify]
  cases p.toList[k]? with
  | none=>rfl
  | some x=>
   show some (pr<|if i=k then u x else x)=some (pr x);by_cases c:i=k
   ·rw[aM c,hu x]
   ·rw[aL c]
 rw[this];exact h
def uK{p:Array<|Nat×Nat×Nat}{lo n v:Nat}(h:PA o g p lo)(hn:1<=n)(c:Cl g lo<|lo+n)(d:So o g lo<|lo+n):PA o g (p.push (lo,n,v)) (lo+n):=by
 unfold PA at h ⊢;rw[h_,cM];exact oU.app.mpr ⟨lo,h,rfl,hn,c,d,rfl⟩
def Sg.OO(h:Sg N f kd g p st)(p':Array<|Nat×Nat×Nat):Sg N f kd g p' (setPending st p'):=⟨h.size,h.get,h.lt,h.kind,h.failed,rfl⟩
theorem Li(C:xH prog w A s o N f kd)(h:Sg N f kd (λi=>i) #[] st)(hN:1<=N)
  {Q:Unit->SortSt->Prop} (q:∀g' p' st',Sg N f kd g' p' st'->Cl g' 0 N->So o g' 0 N->Q Unit.unit st'):wpS (model prog w) A E s sortRuns' Q st:=by
 rw[sortRuns'_eq];refine aQ<|fW ?_;dsimp only;rw[h.size];refine aQ (dG (b_
  (I:=λx c st'=>∃lo g p,c=(none,lo)/\lo<=N/\(x<=lo\/lo=N)/\Sg N f kd g p st'/\PA o g p lo/\(∀i,lo<=i->g i=i))
  (Q:=λc st'=>∃g p,c=(none,N)/\Sg N f kd g p st'/\PA o g p N) ?step ?fin ⟨0,_,_,rfl,cE _,.inl<|aN _,h,rfl,λ_ _=>rfl⟩) ?post)
 case fin=>
  rintro c st' ⟨lo,g,p,rfl,h1,h2,h3,h4,h5⟩;have:lo=N:=()
  subst this;exact⟨g,p,rfl,h3,h4⟩
 case step=>
  intro x c st' _ hx hh;revert hh;revert c;refine Td λlo g p hh=>?_;have h1:=hh.1;have h2:=hh.2.1;have h3:=hh.2.2.1;have h4:=hh.2.2.2.1;have h5:=hh.2.2.2.2;clear hh;dsimp only;by_cases hge:lo>=N
  ·rw[aM hge];have:lo=N:=()
   subst this;exact aW ⟨g,p,rfl,h3,h4⟩
  ·rw[aL hge];refine aQ<|Hv C h3 () () (λi a b=>h5 i a) λm g1 st1 s1 m1 m2 R1=>?_;dsimp only;by_cases c2:m<minRun' N N 0
   ·rw[aM c2];mg_lt;refine aQ<|Nz C s1 () m1 () R1 (λi a b=>h5 i ()) λg2 st2 s2 R2=>?_;rw[aL ⋯];have n2:1<=min (N-lo) (minRun' N N 0):=()
    have n3:lo+min (N-lo) (minRun' N N 0)<=N:=()
    refine aQ<|fW ?_;rw[s2.pend];have hp2:=oU.congr h4 λi a b=>R2.out i (.inl b)
    cases e:p.back? with
    | none=>
     dsimp only;refine aQ (eK<|aW ⟨_,_,_,rfl,n3,(),s2.OO _,?_,λi hi=>by rw[R2.out i<|.inr hi,h5 i ()]⟩);rw[s2.pend];exact uK hp2 n2 R2.cl R2.so
    | some y=>
     obtain⟨y1,y2,y3⟩:=y;dsimp only;refine aQ (dG (b_ (I:=λ_ c st'=>c=(none,Unit.unit)/\∃g' p',Sg N f kd g' p' st'/\PA o g' p' lo/\(∀k,lo<=k->g' k=g2 k)) (Q:=λc st'=>c=(none,Unit.unit)/\∃g' p',Sg N f kd g' p' st'/\PA o g' p' lo/\(∀k,lo<=k->g' k=g2 k)) ?vstep (λ_ _ h=>h) ⟨rfl,_,_,s2,hp2,λ_ _=>rfl⟩) ?vpost)
     case vstep=>
      rintro x c st' _ hx ⟨rfl,g',p',h1,h2,h3⟩;refine aQ<|fW ?_;rw[h1.pend];by_cases c:p'.size>1
      ·rw[aM c]
       cases e:p'[p'.size-2]? with
       | none=>exact aW ⟨rfl,g',p',h1,h2,h3⟩
       | some y=>
        obtain⟨y1,y2,y3⟩:=y;dsimp only;split
        ·exact aW ⟨rfl,g',p',h1,h2,h3⟩
        ·refine aQ<|Bx C h1 h2 () () λg3 p3 st3 s3 q3 _ z3=>?_;exact aW ⟨rfl,g3,p3,s3,q3,λk hk=>by rw[z3 k hk,h3 k hk]⟩
      ·rw[aL c];exact aW ⟨rfl,g',p',h1,h2,h3⟩
     case vpost=>
      rintro c st' ⟨rfl,g',p',h1,h2,h3⟩;dsimp only;refine aQ (eK<|aQ<|eK<|aW ⟨_,_,_,rfl,n3,(),(h1.OO _).OO _,?_,λi hi=>by rw[h3 i (),R2.out i<|.inr hi,h5 i ()]⟩)
      skip
      rw[h1.pend];exact uK (wY (λ_=>rfl) h2) n2 (λi a b=>by rw[h3 i a];exact R2.cl i a b) λi j a b c=>by rw[h3 i a,h3 j ()];exact R2.so i j a b c
   ·rw[aL c2];have n3:lo+m<=N:=()
    obtain⟨g2,hg2⟩:∃g2,g2=g1:=⟨_,rfl⟩;rw[<- hg2]at R1 s1;have R2:=R1;have s2:=s1;have n2:=m1;refine aQ<|fW ?_;rw[s2.pend];have hp2:=oU.congr h4 λi a b=>R2.out i (.inl b)
    cases e:p.back? with
    | none=>
     dsimp only;refine aQ (eK<|aW ⟨_,_,_,rfl,n3,(),s2.OO _,?_,λi hi=>by rw[R2.out i<|.inr hi,h5 i ()]⟩);rw[s2.pend];exact uK hp2 n2 R2.cl R2.so
    | some y=>
     obtain⟨y1,y2,y3⟩:=y;dsimp only;refine aQ (dG (b_ (I:=λ_ c st'=>c=(none,Unit.unit)/\∃g' p',Sg N f kd g' p' st'/\PA o g' p' lo/\(∀k,lo<=k->g' k=g2 k)) (Q:=λc st'=>c=(none,Unit.unit)/\∃g' p',Sg N f kd g' p' st'/\PA o g' p' lo/\(∀k,lo<=k->g' k=g2 k)) ?vstep (λ_ _ h=>h) ⟨rfl,_,_,s2,hp2,λ_ _=>rfl⟩) ?vpost)
     case vstep=>
      rintro x c st' _ hx ⟨rfl,g',p',h1,h2,h3⟩;refine aQ<|fW ?_;rw[h1.pend];by_cases c:p'.size>1
      ·rw[aM c]
       cases e:p'[p'.size-2]? with
       | none=>exact aW ⟨rfl,g',p',h1,h2,h3⟩
       | some y=>
        obtain⟨y1,y2,y3⟩:=y;dsimp only;split
        ·exact aW ⟨rfl,g',p',h1,h2,h3⟩
        ·refine aQ<|Bx C h1 h2 () () λg3 p3 st3 s3 q3 _ z3=>?_;exact aW ⟨rfl,g3,p3,s3,q3,λk hk=>by rw[z3 k hk,h3 k hk]⟩
      ·rw[aL c];exact aW ⟨rfl,g',p',h1,h2,h3⟩
     case vpost=>
      rintro c st' ⟨rfl,g',p',h1,h2,h3⟩;dsimp only;refine aQ (eK<|aQ<|eK<|aW ⟨_,_,_,rfl,n3,(),(h1.OO _).OO _,?_,λi hi=>by rw[h3 i (),R2.out i<|.inr hi,h5 i ()]⟩)
      skip
      rw[h1.pend];exact uK (wY (λ_=>rfl) h2) n2 (λi a b=>by rw[h3 i a];exact R2.cl i a b) λi j a b c=>by rw[h3 i a,h3 j ()];exact R2.so i j a b c
 case post=>
  rintro c st' ⟨g,p,rfl,h1,h2⟩;dsimp only;refine aQ (dG (b_
   (I:=λx c st''=>c=(none,Unit.unit)/\∃g p,Sg N f kd g p st''/\PA o g p N/\(p.size<=1\/p.size+x<=N))
   (Q:=λc st''=>c=(none,Unit.unit)/\∃g p,Sg N f kd g p st''/\PA o g p N/\p.size<=1) ?fstep ?ffin ⟨rfl,g,p,h1,h2,.inr ?finit⟩) ?fpost)
  case finit=>
   have:=oU.le h2;rw[aK]at this;show p.toList.length+0<=N
   lia
  case ffin=>
   rintro c st'' ⟨rfl,g,p,h1,h2,h3⟩;exact⟨rfl,g,p,h1,h2,()⟩
  case fstep=>
   rintro x c st'' _ hx ⟨rfl,g,p,h1,h2,h3⟩;refine aQ<|fW ?_;rw[h1.pend];by_cases c:p.size<=1
   ·rw[aM c];exact aW ⟨rfl,g,p,h1,h2,c⟩
   ·rw[aL c];have il:∀(d:Prop) [Decidable d],(if d then p.size-2-1 else p.size-2)+1<p.size:=λd _=>by
     by_cases hd:d
     ·rw[aM hd];lia
     ·rw[aL hd];lia
    refine aQ<|Bx C h1 h2 (aN _) (il _) λg' p' st3 s3 q3 z3 _=>?_;exact aW ⟨rfl,g',p',s3,q3,()⟩
  case fpost=>
   rintro c st'' ⟨rfl,g,p,h1,h2,h3⟩;dsimp only;refine aW ?_;unfold PA at h2;have h3:p.toList.length<=1:=h3
   match hl:p.toList,h3 with
   | [],_=>
    rw[hl]at h2;have:0=N:=h2
    lia
   | [x],_=>
    rw[hl]at h2;obtain⟨e1,e2,e3,e4,e5⟩:=h2;have e5:0+x.2.1=N:=e5;have e3:Cl g 0 (0+x.2.1):=e3;have e4:So o g 0 (0+x.2.1):=e4;rw[e5]at e3 e4;exact q g p st'' h1 e3 e4
end
meta abbrev KR (h:ak)(a:aj)(vs:ba):ak:=((h.update a<|Obj.mapSeq λ_=>#[]).push<|seqObj "tuple" vs.toArray 0).push<|seqObj "list" #[] 0
meta abbrev vv (vs:ba)(i:Nat):Keyed:=(vs.getD i .none,vs.getD i .none)
def zip_get(vs:ba){i:Nat}(h:i<vs.length):(vs.toArray.zip vs.toArray)[i]?=some (vv vs i):=by
 have e:vs[i]?=some (vs.getD i .none):=by rw[aO,aG h];rfl
 rw[Array.getElem?_zip_eq_some];exact⟨by rw[c6];exact e,by rw[c6];exact e⟩
section
variable {prog:ah}{w:af}{A:az}{E:aa->aA->Prop}{s:aA}{o:Ord}{kd:SortKind}
def ES{a:aj}{vs:ba}{n:Nat}{P:PySem.Fin->aA->Prop}(hL:s.heap.get? a=some (seqObj "list" vs.toArray n))(hsz:vs.length<=sizeLine)
  (hkk:2<=vs.length->∀Q:SortKind->aA->Prop,Q kd { s with heap:=KR s.heap a vs }->wpAny (model prog w) A (keyKind' vs.toArray) Q E { s with heap:=KR s.heap a vs })
  (C:2<=vs.length->xH prog w A { s with heap:=KR s.heap a vs } o vs.length (vv vs) kd)
  (h:∀g,Cl g 0 vs.length->So o g 0 vs.length->P (.done<|.ret .none) { s with heap:=sortedHeap s.heap a vs ((List.range vs.length).map λi=>vs.getD (g i) .none).toArray }) :
  wpAny (model prog w) A (Builtin.«list.sort» ⟨[.ref a],[]⟩) P E s:=by
 rw[list_sort_plain];have lta:a<s.heap.objs.size:=aV hL;refine aF<|listItems_at hL rfl ?_;refine aF (listUpdate_at hL rfl ?_ (by rw[aP];exact hsz)<|cE _);obtain⟨ep,hL1⟩:∃ep,(s.heap.update a<|Obj.mapSeq λ_=>#[]).get? a=some (seqObj "list" #[] ep):=⟨_,get?_update_seq hL λ_=>#[]⟩;refine aF<|seqEpoch_at hL1 rfl ?_;refine aF<|wpAny_newTuple ?_;refine aF<|wpAny_newList ?_;refine cu ?_;have hL6:(KR s.heap a vs).get? a=some (seqObj "list" #[] ep):=by
  rw[Heap.get?_push_ne _ _ _<|by rw[size_push',Heap.size_update];exact aZ<|eT lta,Heap.get?_push_ne _ _ _<|by rw[Heap.size_update];exact aZ lta];exact hL1
 skip
 dsimp only;have hz:vs.toArray.size=vs.length:=by simp
 have getE:∀i,i<vs.length->vs[i]?=some (vs.getD i .none):=λi hi=>by rw[aO,aG hi];rfl
 have outE:∀(arr:Array Keyed) (g:Nat->Nat),arr.size=vs.length->(∀i,i<vs.length->arr[i]?=some (vv vs<|g i))->arr.map (·.2)=((List.range vs.length).map λi=>vs.getD (g i) .none).toArray:=λarr g h1 two=>by
  apply Array.ext_getElem?;intro i;have e0:((List.range vs.length).map λi=>vs.getD (g i) Value.none).toArray[i]?=((List.range vs.length).map λi=>vs.getD (g i) Value.none)[i]?:=c6 ..;rw[Array.getElem?_map,e0,a_];by_cases c:i<vs.length
  ·rw[two i c,dH c];rfl
  ·rw[eL (),bG<|by rw[bW];lia];rfl
 by_cases two:vs.toArray.size<2
 ·rw[aM two,aM two];refine aF<|aH ?_;rw[StateT.run_pure];refine aF<|aH ?_;dsimp only;refine aF<|seqEpoch_at hL6 rfl ?_;have oe:=outE (vs.toArray.zip vs.toArray) (λi=>i) (by rw[iM,hz];lia) λi hi=>zip_get vs hi;refine aF (listUpdate_at hL6 rfl ?_ (by simp) (hsz2:=by rw[size_map];show(vs.toArray.zip vs.toArray).size<=_;rw[iM,hz];lia));dsimp[bne_self_eq_false,bA,cK];refine aH ?_;have:=h (λi=>i) (λi a b=>⟨a,b⟩) λi j a b c=>();rw[<- oe]at this;exact this
 ·rw[aL two,aL two];have h2':2<=vs.length:=()
  refine aF<|hkk h2' _ ?_;refine aF (cS (Li (f:=vv vs) (N:=vs.length) (C h2') (st:=SortSt.mk' kd (vs.toArray.zip vs.toArray) #[] 7 none)
   (Q:=λ_ st'=>∃g p,Sg vs.length (vv vs) kd g p st'/\Cl g 0 vs.length/\So o g 0 vs.length)
   ⟨by show(vs.toArray.zip vs.toArray).size=_;rw[iM,hz];lia,λi hi=>zip_get vs hi,λi hi=>hi,rfl,rfl,rfl⟩ () λg' p' st' a1 a2 a3=>⟨g',p',a1,a2,a3⟩) ?_ λ_ _ e=>e)
  rintro⟨⟨⟩,st'⟩ s' ⟨rfl,g,p,hS,hc,hso⟩;dsimp only;refine aF<|seqEpoch_at hL6 rfl ?_;have oe:=outE (arrOf st') g hS.size hS.get;refine aF (listUpdate_at hL6 rfl ?_ (by simp) (hsz2:=by have hh:(arrOf st').size=vs.length:=hS.size;show((arrOf st').map (·.2)).size<=_;rw[size_map,hh];lia));rw[hS.failed];dsimp[bne_self_eq_false,bA,cK];have:=h g hc hso;rw[<- oe]at this;exact aH this
end
section
variable {prog:ah}{w:af}{A:az}{E:aa->aA->Prop}{s:aA}
def JN(b:Bool){x y:Int}{Q:Bool->aA->Prop}(h:Q (decide<|x<y) s):wpAny (model prog w) A (oneLt' b (.int x t)<|.int y u) Q E s:=by
 cases b with
 | true=>exact oneLt_int h
 | false=>
  rw[oneLt'_eq];dsimp[bA,cK];exact aF<|PySem.P.lt_int<|ck h
end
end Sx
namespace Sx
open PySem PyProof.Rows
open PySem.AutoSeq1 (wpAny_loadPart')
open PySem.MeetsSeq PySem.MeetsSeq2 PySem.MeetsSeq3
theorem sD:∀{xs:ba}{ns:ag}{i:Nat},IntsAre xs ns->i<ns.length->∃t,xs[i]?=some (.int (ns.getD i 0) t)
 | _,_,i,.nil,h=>absurd h (fC _)
 | _,_,0,.cons n t h,_=>⟨t,rfl⟩
 | _,_,i+1,.cons n t h,hi=>by
  obtain⟨t',e⟩:=sD h (i:=i) (by simpa using hi);exact⟨t',by simpa using e⟩
end Sx
namespace Am
open PySem
inductive A where
 | unb|non|bl (b:Bool)|int (i:Int)|str (x:Str)|tup (xs:List A)|frz (xs:List A)|rng (lo hi:Int)|ref (n:Nat)|exn (c:Str)|ty (n:String)|ktu (xs:List A)
@[reducible]def ae:=List A
inductive O where
 | lst (xs:ae)|dct (kvs:List<|ag×A)|dki (kvs:List<|Int×A)|ins (c:Str) (fs:List<|Str×A)
meta abbrev iX:=List O
inductive R (α:Type) where
 | ok (a:α) (S:iX)|ex (c:Str) (S:iX)|no
abbrev R.bind {α β:Type}(r:R α)(f:α->iX->R β):R β:=match r with
 | .ok a S=>f a S
 | .ex c S=>.ex c S
 | .no=>.no
abbrev R.post {α:Type}(r:R α)(P:α->iX->Prop)(E:Str->iX->Prop):Prop:=match r with
 | .ok a S=>P a S
 | .ex c S=>E c S
 | .no=>False
def iV{α β:Type}{r:R α}{f:α->iX->R β}{P:β->iX->Prop}{E:Str->iX->Prop}(h:(r.bind f).post P E):r.post (λa S=>(f a S).post P E) E:=by
 cases r<;>exact h
def tV{α:Type}{r:R α}{P P':α->iX->Prop}{E E':Str->iX->Prop}(h:r.post P E)(hp:∀a S,P a S->P' a S)(he:∀c S,E c S->E' c S):r.post P' E':=by
 cases r with
 | ok a S=>exact hp _ _ h
 | ex c S=>exact he _ _ h
 | no=>exact h.elim
abbrev gd {α:Type}(c:Prop)[Decidable c](r:R α):R α:=if c then r else .no
abbrev opt {α β:Type}(o:Option β)(f:β->R α):R α:=match o with
 | some b=>f b
 | none=>.no
def jl{α:Type}{c:Prop}[Decidable c]{r:R α}{P:α->iX->Prop}{E:Str->iX->Prop}(h:(gd c r).post P E):c/\r.post P E:=by
 unfold gd at h;by_cases hc:c
 ·rw[aM hc]at h;exact⟨hc,h⟩
 ·rw[aL hc]at h;exact h.elim
def jb{α β:Type}{o:Option β}{f:β->R α}{P:α->iX->Prop}{E:Str->iX->Prop}(h:(opt o f).post P E):∃b,o=some b/\(f b).post P E:=by
 cases o with
 | none=>exact h.elim
 | some b=>exact⟨b,rfl,h⟩
def Ek{α:Type}{c:Prop}[Decidable c]{r:R α}(h:c):gd c r=r:=aM h
abbrev iR (S:iX)(n:Nat):Option (ae):=match S[n]? with
 | some (.lst xs)=>some xs
 | _=>none
def ja{n:Nat}(h:iR S n=some xs):S[n]?=some (.lst xs):=by
 unfold iR at h;split at h
 ·rename_i e;cases h;exact e
 ·cases h
def rO{S:iX}{n:Nat}(h:S[n]?=some (.lst xs)):iR S n=some xs:=by
 unfold iR;rw[h]
inductive RS where
 | nx (τ:ae) (S:iX)|rt (a:A) (S:iX)|bk (τ:ae) (S:iX)|ct (τ:ae) (S:iX)|ex (c:Str) (S:iX)|no
meta abbrev Ex:=ae->iX->R A
meta abbrev nX:=ae->iX->R (ae)
meta abbrev Te:=ae->iX->R Bool
meta abbrev Sm:=ae->iX->RS
meta abbrev Tg:=A->ae->iX->R (ae)
end Am
namespace Am
open PySem L2
section
variable (K:au) (ρ:bb) (H:Hp)
abbrev Bg (K:au)(c:Str)(C:aj):Prop:=PySem.W.nsIn K mainGlobals c=some (some<|.ref C)
abbrev Fz (K:au)(H:Hp)(a:aj)(vs:List V):Prop:=
 (∃o,H a=some (.frz o<|.lst vs))\/∃(o:Obj) (its:Array aa) (n:Nat),K.lookup a=some o/\o.cls=.type "list" /\ o.dict=none/\o.data=.seq its n/\its.size<=sizeLine/\Vals vs its.toList
abbrev S0 (K:au)(a:aj)(vs:List V):Prop:=∃(o:Obj) (its:Array aa) (n:Nat),K.lookup a=some o/\o.cls=.type "tuple" /\ o.dict=none/\o.data=.seq its n/\its.size<=sizeLine/\Vals vs its.toList
mutual
inductive AV:A->V->Prop
 | non:AV .non .non
 | bl (b:Bool):AV (.bl b) (.bl b)
 | int (i:Int):AV (.int i) (.int i)
 | str (x:Str):AV (.str x) (.str x)
 | ty (n:String):AV (.ty n) (.ty n)
 | tup {a:aj} {xs:ae} {vs:List V} (h:H a=some (.tup vs)) (r:AVs xs vs):AV (.tup xs) (.ref a)
 | frz {a:aj} {xs:ae} {vs:List V} (h:Fz K H a vs) (r:AVs xs vs):AV (.frz xs) (.ref a)
 | rng {a:aj} {lo hi:Int} (h:H a=some (.rng lo hi)):AV (.rng lo hi) (.ref a)
 | ref {a:aj} {n:Nat} (h:ρ[n]?=some a):AV (.ref n) (.ref a)
 | exn {a C:aj} {c:Str} {oe:Obj} (n:Bg K c C) (h:H a=some (.frz oe xu)) (x:XO C oe):AV (.exn c) (.ref a)
 | ktu {a:aj} {xs:ae} {vs:List V} (h:S0 K a vs) (r:AVs xs vs):AV (.ktu xs)<|.ref a
inductive AVs:ae->List V->Prop
 | nil:AVs [] []
 | cons {x:A} {v:V} {xs:ae} {vs:List V} (h:AV x v) (t:AVs xs vs):AVs (x::xs) (v::vs)
end
abbrev DV:List (ag×A)->List (List Key×V)->Prop
 | [],[]=>True
 | p::r,q::r'=>(q.1=p.1.map Sum.inl/\AV K ρ H p.2 q.2)/\DV r r'
 | _,_=>False
abbrev DI:List (Int×A)->List (Key×V)->Prop
 | [],[]=>True
 | p::r,q::r'=>(q.1=Sum.inl p.1/\AV K ρ H p.2 q.2)/\DI r r'
 | _,_=>False
abbrev OR (a:aj):O->Prop
 | .lst xs=>∃vs,H a=some (.lst vs)/\AVs K ρ H xs vs
 | .dct kvs=>∃ks,H a=some (.dT ks)/\DV K ρ H kvs ks
 | .dki kvs=>∃ks,H a=some (.dK ks)/\DI K ρ H kvs ks
 | .ins _ _=>∃o u,H a=some (.frz o u)
structure Rel (S:iX):Prop where
 len:ρ.length=S.length
 nd:ρ.Nodup
 «at»:∀(n:Nat) (a:aj) (o:O),ρ[n]?=some a->S[n]?=some o->OR K ρ H a o
end
abbrev Tr:HO->Prop
 | .tup _=>True
 | .rng _ _=>True
 | .frz _ _=>True
 | _=>False
structure Ext0 (ρ ρ':bb)(H H':Hp):Prop where
 pre:ρ <+: ρ'
 im:∀a u,Tr u->H a=some u->H' a=some u
structure Ext (ρ ρ':bb)(H H':Hp):Prop extends Ext0 ρ ρ' H H' where
 fr:∀a u,H a=some u->a∉ρ->H' a=some u
 nw:∀a,a∈ρ'->a∈ρ\/H a=none
def Ext.refl{H:Hp}:Ext ρ ρ H H:=⟨⟨gh _,λ_ _ _ h=>h⟩,λ_ _ h _=>h,λ_ h=>.inl h⟩
def Ext.trans{H H1 H2:Hp}(a:Ext ρ ρ1 H H1)(b:Ext ρ1 ρ2 H1 H2):Ext ρ ρ2 H H2:=⟨⟨a.pre.trans b.pre,λx u i h=>b.im x u i<|a.im x u i h⟩,λx u h n=>b.fr x u (a.fr x u h n) λz=>(a.nw x z).elim n λz=>by(rw[z]at h;cases h),λx h=>by
 by_cases hx:x∈ρ
 ·exact .inl hx
 ·right
  cases q:H x with
  | none=>rfl
  | some u=>
   rcases b.nw x h with z|z
   ·exact((a.nw x z).elim hx λz=>by(rw[z]at q;cases q)).elim
   ·rw[a.fr x u q hx]at z;cases z⟩
def Ext0.get{H H':Hp}(e:Ext0 ρ ρ' H H'){n:Nat}{a:aj}(h:ρ[n]?=some a):ρ'[n]?=some a:=by
 obtain⟨t,rfl⟩:=e.pre;rw[bM (aI.mp h).1];exact h
section
variable {K:au}{ρ ρ':bb}{H H':Hp}
def Ext0.QJ(e:Ext0 ρ ρ' H H'){a:aj}(h:kQ K H a vs):kQ K H' a vs:=by
 rcases h with(h|⟨o,h⟩)|h
 ·exact .inl (.inl<|e.im _ _ trivial h)
 ·exact .inl (.inr ⟨o,e.im _ _ trivial h⟩)
 ·exact .inr h
def Ext0.fz(e:Ext0 ρ ρ' H H'){a:aj}(h:Fz K H a vs):Fz K H' a vs:=by
 rcases h with⟨o,h⟩|h
 ·exact .inl ⟨o,e.im _ _ trivial h⟩
 ·exact .inr h
def Fz.JC{a:aj}(h:Fz K H a vs):lE K H a vs:=by
 rcases h with⟨o,h⟩|h
 ·exact .inl (.inr ⟨o,h⟩)
 ·exact .inr h
mutual
theorem AV.kZ(e:Ext0 ρ ρ' H H'):∀{x:A}{v:V},AV K ρ H x v->AV K ρ' H' x v
 | _,_,.non=>.non
 | _,_,.bl b=>.bl b
 | _,_,.int i=>.int i
 | _,_,.str x=>.str x
 | _,_,.ty x=>.ty x
 | _,_,.tup h r=>.tup (e.im _ _ trivial h) (AVs.kZ e r)
 | _,_,.frz h r=>.frz (e.fz h) (AVs.kZ e r)
 | _,_,.rng h=>.rng (e.im _ _ trivial h)
 | _,_,.ref h=>.ref (e.get h)
 | _,_,.exn n h x=>.exn n (e.im _ _ trivial h) x
 | _,_,.ktu h r=>.ktu h<|AVs.kZ e r
theorem AVs.kZ(e:Ext0 ρ ρ' H H'):∀{xs:ae}{vs:List V},AVs K ρ H xs vs->AVs K ρ' H' xs vs
 | _,_,.nil=>.nil
 | _,_,.cons h t=>.cons (AV.kZ e h)<|AVs.kZ e t
end
theorem DV.kZ(e:Ext0 ρ ρ' H H'):∀{xs:List<|ag×A}{vs:List<|List Key×V},DV K ρ H xs vs->DV K ρ' H' xs vs
 | [],[],_=>trivial
 | _::_,_::_,⟨⟨a,b⟩,r⟩=>⟨⟨a,AV.kZ e b⟩,DV.kZ e r⟩
def DV.ext{x:List<|ag×A}{v:List<|List Key×V}(h:DV K ρ H x v)(e:Ext ρ ρ' H H'):DV K ρ' H' x v:=DV.kZ e.toExt0 h
theorem DI.kZ(e:Ext0 ρ ρ' H H'):∀{xs:List<|Int×A}{vs:List<|Key×V},DI K ρ H xs vs->DI K ρ' H' xs vs
 | [],[],_=>trivial
 | _::_,_::_,⟨⟨a,b⟩,r⟩=>⟨⟨a,AV.kZ e b⟩,DI.kZ e r⟩
def DI.ext{x:List<|Int×A}{v:List<|Key×V}(h:DI K ρ H x v)(e:Ext ρ ρ' H H'):DI K ρ' H' x v:=DI.kZ e.toExt0 h
def AV.ext{x:A}{v:V}(h:AV K ρ H x v)(e:Ext ρ ρ' H H'):AV K ρ' H' x v:=AV.kZ e.toExt0 h
def AVs.ext{x:ae}{v:List V}(h:AVs K ρ H x v)(e:Ext ρ ρ' H H'):AVs K ρ' H' x v:=AVs.kZ e.toExt0 h
theorem AVs.length:∀{xs:ae}{vs:List V},AVs K ρ H xs vs->xs.length=vs.length
 | _,_,.nil=>rfl
 | _,_,.cons _ t=>fM (·+1)<|AVs.length t
theorem AVs.append:∀{xs ys:ae}{vs ws:List V},AVs K ρ H xs vs->AVs K ρ H ys ws->AVs K ρ H (xs++ys) (vs++ws)
 | _,_,_,_,.nil,s=>s
 | _,_,_,_,.cons h t,s=>.cons h<|AVs.append t s
theorem AVs.take:∀{xs:ae}{vs:List V}(n:Nat),AVs K ρ H xs vs->AVs K ρ H (xs.take n) (vs.take n)
 | _,_,0,_=>.nil
 | _,_,_+1,.nil=>.nil
 | _,_,n+1,.cons h t=>.cons h<|AVs.take n t
theorem AVs.drop:∀{xs:ae}{vs:List V}(n:Nat),AVs K ρ H xs vs->AVs K ρ H (xs.drop n) (vs.drop n)
 | _,_,0,r=>r
 | _,_,_+1,.nil=>.nil
 | _,_,n+1,.cons _ t=>AVs.drop n t
theorem AVs.reverse:∀{xs:ae}{vs:List V},AVs K ρ H xs vs->AVs K ρ H xs.reverse vs.reverse
 | _,_,.nil=>.nil
 | _,_,.cons h t=>by rw[dj,dj];exact(AVs.reverse t).append (.cons h .nil)
theorem AVs.get:∀{xs:ae}{vs:List V}{i:Nat}{x:A},AVs K ρ H xs vs->xs[i]?=some x->∃v,vs[i]?=some v/\AV K ρ H x v
 | _,_,_,_,.nil,e=>by simp at e
 | _,_,0,_,.cons h _,e=>by simp at e;subst e;exact⟨_,rfl,h⟩
 | _,_,i+1,x,.cons _ t,e=>by
  obtain⟨u,h1,h2⟩:=AVs.get (i:=i) (x:=x) t (by simpa using e);exact⟨u,by simpa using h1,h2⟩
theorem AVs.set{x:A}{v:V}(h:AV K ρ H x v):∀{xs:ae}{vs:List V}(i:Nat),AVs K ρ H xs vs->AVs K ρ H (xs.set i x) (vs.set i v)
 | _,_,_,.nil=>.nil
 | _,_,0,.cons _ t=>.cons h t
 | _,_,i+1,.cons q t=>.cons q<|AVs.set h i t
def AVs.one{x:A}{v:V}(h:AV K ρ H x v):AVs K ρ H [x] [v]:=.cons h .nil
theorem rY:∀(ns:ag),AVs K ρ H (ns.map .int) (ns.map .int)
 | []=>.nil
 | n::ns=>.cons (.int n)<|rY ns
def Rel.lay{S:iX}{p:aj}(R:Rel K ρ H S)(hp:H p=none)(r:AVs K ρ H xs vs):Ext ρ (ρ++[p]) H (upd H p<|.lst vs)/\Rel K (ρ++[p]) (upd H p<|.lst vs) (S++[.lst xs])/\(ρ++[p])[S.length]?=some p:=by
 have ex:Ext ρ (ρ++[p]) H (upd H p<|.lst vs):=⟨⟨gW _ _,λa u _ h=>by rw[i6<|jd h hp];exact h⟩,λa u h _=>by rw[i6<|jd h hp];exact h,λa h=>by
  rcases bC.mp h with z|z
  ·exact .inl z
  ·have e:a=p:=by simpa using z
   rw[e];exact .inr hp⟩
 have np:∀(n:Nat) (a:aj),ρ[n]?=some a->a≠p:=by
  intro n a e z;subst z;have hn:n<S.length:=by rw[<- R.len];exact(aI.mp e).1
  have:=R.at n a S[n] e (aG hn)
  cases ho:S[n]with
  | lst xs=>rw[ho]at this;obtain⟨vs,h,_⟩:=this;rw[hp]at h;cases h
  | dct _|dki _=>rw[ho]at this;obtain⟨vs,h,_⟩:=this;rw[hp]at h;cases h
  | ins _ _=>rw[ho]at this;obtain⟨_,_,h⟩:=this;rw[hp]at h;cases h
 have last:(ρ++[p])[S.length]?=some p:=by rw[<- R.len];simp
 refine⟨ex,⟨by simp[R.len],?_,?_⟩,last⟩
 ·rw[ie];refine⟨R.nd,by simp,λa ha b hb e=>?_⟩;have:b=p:=by simpa using hb
  obtain⟨n,hn,e'⟩:=List.mem_iff_getElem.mp ha;exact np n a (by rw[aG hn,e'])<|e.trans this
 ·intro n a o h1 h2;by_cases hn:n<S.length
  ·rw[bM<|by rw[R.len];exact hn]at h1;rw[bM hn]at h2;have:=R.at n a o h1 h2
   cases o with
   | lst ys=>obtain⟨ws,e,q⟩:=this;exact⟨ws,by rw[i6<|np n a h1];exact e,q.ext ex⟩
   | dct _|dki _=>obtain⟨ws,e,q⟩:=this;exact⟨ws,by rw[i6<|np n a h1];exact e,q.ext ex⟩
   | ins _ _=>obtain⟨oo,uu,e⟩:=this;exact⟨oo,uu,by rw[i6<|np n a h1];exact e⟩
  ·have e:n=S.length:=by
    have:=(aI.mp h2).1;simp at this
    lia
   subst e;rw[last]at h1
   cases h1
   simp at h2;subst h2;exact⟨vs,jx,r.ext ex⟩
def Rel.im{p:aj}(R:Rel K ρ H S)(hp:H p=none):Ext ρ ρ H (upd H p u)/\Rel K ρ (upd H p u) S:=by
 have ex:Ext ρ ρ H (upd H p u):=⟨⟨gh _,λa u _ h=>by rw[i6<|jd h hp];exact h⟩,λa u h _=>by rw[i6<|jd h hp];exact h,λ_ h=>.inl h⟩;refine⟨ex,R.len,R.nd,λn a o h1 h2=>?_⟩;have:=R.at n a o h1 h2
 cases o with
 | lst ys=>obtain⟨ws,e,q⟩:=this;exact⟨ws,by rw[i6<|jd e hp];exact e,q.ext ex⟩
 | dct _|dki _=>obtain⟨ws,e,q⟩:=this;exact⟨ws,by rw[i6<|jd e hp];exact e,q.ext ex⟩
 | ins _ _=>obtain⟨oo,uu,e⟩:=this;exact⟨oo,uu,by rw[i6<|jd e hp];exact e⟩
def Rel.put{S:iX}{n:Nat}{a:aj}(R:Rel K ρ H S)(ha:ρ[n]?=some a)(hS:S[n]?=some (.lst xs))(r:AVs K ρ H ys ws):Ext ρ ρ H (upd H a<|.lst ws)/\Rel K ρ (upd H a<|.lst ws) (S.set n<|.lst ys):=by
 obtain⟨vs,e,_⟩:=R.at n a _ ha hS;have ex:Ext ρ ρ H (upd H a<|.lst ws):=⟨⟨gh _,λb u i h=>by
  have:b≠a:=by
   intro z;subst z;rw[e]at h;cases h;exact i
  rw[i6 this];exact h⟩,λb u h n=>by
  rw[i6 λz=>n<|by rw[z];exact bf ha];exact h,λ_ h=>.inl h⟩
 refine⟨ex,by rw[bw];exact R.len,R.nd,λm b o h1 h2=>?_⟩;by_cases hm:m=n
 ·subst hm;rw[ha]at h1;cases h1;rw[bQ (aI.mp hS).1]at h2
  cases h2
  exact⟨ws,jx,r.ext ex⟩
 ·rw[bR<|cG hm]at h2;have nb:b≠a:=λz=>by
   subst z;obtain⟨l1,e1⟩:=aI.mp ha;obtain⟨l2,e2⟩:=aI.mp h1;exact hm<|(d_ R.nd).mp<|e2.trans e1.symm
  have:=R.at m b o h1 h2
  cases o with
  | lst ys=>obtain⟨ws',e',q⟩:=this;exact⟨ws',by rw[i6 nb];exact e',q.ext ex⟩
  | dct _|dki _=>obtain⟨ws',e',q⟩:=this;exact⟨ws',by rw[i6 nb];exact e',q.ext ex⟩
  | ins _ _=>obtain⟨oo,uu,e'⟩:=this;exact⟨oo,uu,by rw[i6 nb];exact e'⟩
def Rel.lst{n:Nat}{a:aj}(R:Rel K ρ H S)(ha:ρ[n]?=some a)(hS:S[n]?=some (.lst xs)):∃vs,H a=some (.lst vs)/\AVs K ρ H xs vs:=R.at n a _ ha hS
structure SR (K:au)(ρ:bb)(H:Hp)(τ:ae)(σ:St):Prop where
 len:τ.length=σ.length
 «at»:∀(i:Nat) (a:A),τ[i]?=some a->a=.unb\/∃v,σ[i]?=some (some v)/\AV K ρ H a v
def SR.kZ(s:SR K ρ H τ σ)(e:Ext0 ρ ρ' H H'):SR K ρ' H' τ σ:=⟨s.len,λi a h=>by
 rcases s.at i a h with z|⟨v,h1,h2⟩
 ·exact .inl z
 ·exact .inr ⟨v,h1,AV.kZ e h2⟩⟩
def SR.ext(s:SR K ρ H τ σ)(e:Ext ρ ρ' H H'):SR K ρ' H' τ σ:=s.kZ e.toExt0
def Rel.out(R:Rel K ρ H S)(hD:H D=some (.lst vs))(hn:D∉ρ):Ext0 ρ ρ H (upd H D<|.lst ws)/\Rel K ρ (upd H D<|.lst ws) S:=by
 have ex:Ext0 ρ ρ H (upd H D<|.lst ws):=⟨gh _,λb u i h=>by
  have:b≠D:=by
   intro z;subst z;rw[hD]at h;cases h;exact i
  rw[i6 this];exact h⟩
 refine⟨ex,R.len,R.nd,λn a o h1 h2=>?_⟩;have na:a≠D:=λz=>hn (by rw[<- z];exact bf h1);have:=R.at n a o h1 h2
 cases o with
 | lst ys=>obtain⟨ws',e,q⟩:=this;exact⟨ws',by rw[i6 na];exact e,AVs.kZ ex q⟩
 | dct _|dki _=>obtain⟨ws',e,q⟩:=this;exact⟨ws',by rw[i6 na];exact e,q.kZ ex⟩
 | ins _ _=>obtain⟨oo,uu,e⟩:=this;exact⟨oo,uu,by rw[i6 na];exact e⟩
def Rel.take{S:iX}{D:aj}(R:Rel K ρ H S)(hD:H D=some (.lst vs))(hn:D∉ρ)(r:AVs K ρ H xs vs):Rel K (ρ++[D]) H (S++[.lst xs])/\(ρ++[D])[S.length]?=some D:=by
 have ex:Ext0 ρ (ρ++[D]) H H:=⟨gW _ _,λ_ _ _ h=>h⟩;have last:(ρ++[D])[S.length]?=some D:=by rw[<- R.len];simp
 refine⟨⟨by simp[R.len],?_,λn a o h1 h2=>?_⟩,last⟩
 ·rw[ie];refine⟨R.nd,by simp,λa ha b hb e=>?_⟩;have:b=D:=by simpa using hb
  exact hn<|by rw[<- this,<- e];exact ha
 ·by_cases hs:n<S.length
  ·rw[bM<|by rw[R.len];exact hs]at h1;rw[bM hs]at h2;have:=R.at n a o h1 h2
   cases o with
   | lst ys=>obtain⟨ws,e,q⟩:=this;exact⟨ws,e,AVs.kZ ex q⟩
   | dct _|dki _=>obtain⟨ws,e,q⟩:=this;exact⟨ws,e,q.kZ ex⟩
   | ins _ _=>obtain⟨oo,uu,e⟩:=this;exact⟨oo,uu,e⟩
  ·have e:n=S.length:=by
    have:=(aI.mp h2).1;simp at this
    lia
   subst e;rw[last]at h1
   cases h1
   simp at h2;subst h2;exact⟨vs,hD,AVs.kZ ex r⟩
def SR.set{τ:ae}{σ:St}{a:A}{v:V}(s:SR K ρ H τ σ)(h:AV K ρ H a v):SR K ρ H (τ.set i a) (σ.set i<|some v):=by
 refine⟨by simp[s.len],λj b e=>?_⟩;by_cases hj:j=i
 ·subst hj;have hl:j<τ.length:=by
   have:=(aI.mp e).1;simpa using this
  rw[bQ hl]at e
  cases e
  exact .inr ⟨v,bQ<|by rw[<- s.len];exact hl,h⟩
 ·rw[bR<|cG hj]at e;rw[bR<|cG hj];exact s.at j b e
end
end Am
namespace Am
open PySem PySem.Spec PyProof.Rows L2
abbrev XE (X:Cx)(ρ:bb)(H:Hp):Str->iX->Prop:=λc S'=>∀(C:aj) (ρ':bb) (H':Hp),Bg X.K c C->Ext ρ ρ' H H'->Rel X.K ρ' H' S'->EX X (.ref C) none H'
def XE.ext{H H':Hp}(h:XE X ρ H c S)(e:Ext ρ ρ' H H'):XE X ρ' H' c S:=λC ρ2 H2 n e2=>h C ρ2 H2 n<|e.trans e2
abbrev wC (X:Cx)(ρ:bb)(H:Hp)(Q:VK):A->iX->Prop:=λa S'=>∀ρ' H' v,Ext ρ ρ' H H'->Rel X.K ρ' H' S'->AV X.K ρ' H' a v->Q v H'
abbrev QV (X:Cx)(ρ:bb)(H:Hp)(Q:Bool->Hp->Prop):Bool->iX->Prop:=λb S'=>∀ρ' H',Ext ρ ρ' H H'->Rel X.K ρ' H' S'->Q b H'
abbrev S8 (X:Cx)(ρ:bb)(H:Hp)(Q:List V->Hp->Prop):ae->iX->Prop:=λas S'=>∀ρ' H' vs,Ext ρ ρ' H H'->Rel X.K ρ' H' S'->AVs X.K ρ' H' as vs->Q vs H'
def wC.ext{H H':Hp}{Q:VK}{a:A}(h:wC X ρ H Q a S)(e:Ext ρ ρ' H H'):wC X ρ' H' Q a S:=λρ2 H2 v e2=>h ρ2 H2 v<|e.trans e2
def QV.ext{H H':Hp}{Q:Bool->Hp->Prop}{a:Bool}(h:QV X ρ H Q a S)(e:Ext ρ ρ' H H'):QV X ρ' H' Q a S:=λρ2 H2 e2=>h ρ2 H2<|e.trans e2
def iT{α:Type}{H H':Hp}{r:R α}{P P':α->iX->Prop}(h:r.post P<|XE X ρ H)(e:Ext ρ ρ' H H')(hp:∀a S,P a S->P' a S):r.post P' (XE X ρ' H'):=tV h hp λ_ _ z=>z.ext e
abbrev tE (X:Cx)(c:Ex):TE:=λσ H Q=>∃ρ S τ,Rel X.K ρ H S/\SR X.K ρ H τ σ/\(c τ S).post (wC X ρ H Q) (XE X ρ H)
abbrev tT (X:Cx)(c:Te):TT:=λσ H Q=>∃ρ S τ,Rel X.K ρ H S/\SR X.K ρ H τ σ/\(c τ S).post (QV X ρ H Q) (XE X ρ H)
abbrev tL (X:Cx)(c:nX):TA:=λσ H Q=>∃ρ S τ,Rel X.K ρ H S/\SR X.K ρ H τ σ/\(c τ S).post (S8 X ρ H Q) (XE X ρ H)
abbrev AE (X:Cx)(e:aC)(c:Ex):Prop:=PE X e<|tE X c
abbrev AT (X:Cx)(e:aC)(c:Te):Prop:=PT X e<|tT X c
abbrev AW (X:Cx)(e:aC)(c:Te):Prop:=PW X e<|tT X c
abbrev AL (X:Cx)(es:List aC)(c:nX):Prop:=PA X es<|tL X c
def PE.imp{t t':TE}(h:PE X e t)(i:∀σ H Q,t' σ H Q->t σ H Q):PE X e t':=λpins s σ H Q I q=>h pins s σ H Q I<|i σ H Q q
def PT.imp{t t':TT}(h:PT X e t)(i:∀σ H Q,t' σ H Q->t σ H Q):PT X e t':=λpins s σ H Q I q=>h pins s σ H Q I<|i σ H Q q
def PW.imp{t t':TT}(h:PW X e t)(i:∀σ H Q,t' σ H Q->t σ H Q):PW X e t':=λw pins s σ H Q I q=>h w pins s σ H Q I<|i σ H Q q
def PA.imp{t t':TA}(h:PA X e t)(i:∀σ H Q,t' σ H Q->t σ H Q):PA X e t':=λp pins s σ H Q I q=>h p pins s σ H Q I<|i σ H Q q
def AW.at{c:Te}(h:AW X e c):AT X e c:=h _
abbrev A.mP:A->Bool
 | .unb=>true
 | _=>false
abbrev iO (i:Nat):Ex:=λτ S=>if (τ.getD i .unb).mP then .no else .ok (τ.getD i .unb) S
abbrev eC (a:A):Ex:=λ_ S=>.ok a S
section
variable {X:Cx}{pos:Pos}{a b:aC}
def iN(i:Nat){x:Str}(hN:X.N[i]?=some x:=by rfl)(hv:O8 X.env.scope x:=by first|exact Or.inl rfl|exact Or.inr (Or.inl rfl)|exact Or.inr<|Or.inr rfl)(hd:(x == ("__debug__" : Str))=false:=by decide)
  (hcd:(x == ("__classdict__" : Str))=false:=by decide):AE X (.Name x pos) (iO i):=PE.imp (HB hN hv hd hcd) λσ H Q h9=>by
 z_go;unfold iO at h
 cases hi:τ[i]? with
 | none=>
  rw[aO,hi]at h;exact h.elim
 | some x=>
  rw[aO,hi]at h
  rcases r.at i x hi with z|⟨v,e,q⟩
  ·subst z;exact h.elim
  ·refine⟨v,e,?_⟩
   cases x<;>first|(exact h ρ H v .refl R q)|exact h.elim
def iW{i:Int}{j pos}:AE X (.Constant (.int i) j pos) (eC<|.int i):=PE.imp Bv λσ H Q ⟨ρ,S,τ,R,r,h⟩=>h ρ H _ .refl R<|.int i
def wc{j pos}:AE X (.Constant (.bool i) j pos) (eC<|.bl i):=PE.imp O3 λσ H Q ⟨ρ,S,τ,R,r,h⟩=>h ρ H _ .refl R<|.bl i
def yl{j pos}:AE X (.Constant .none j pos) (eC .non):=PE.imp N4 λσ H Q ⟨ρ,S,τ,R,r,h⟩=>h ρ H _ .refl R .non
abbrev iZ (f:A->A->iX->R A)(ca cb:Ex):Ex:=λτ S=>(ca τ S).bind λa S1=>(cb τ S1).bind λb S2=>f a b S2
abbrev r2 (X:Cx)(f:A->A->iX->R A):R2:=λx y H Q=>∃ρ S a b,Rel X.K ρ H S/\AV X.K ρ H a x/\AV X.K ρ H b y/\(f a b S).post (wC X ρ H Q) (XE X ρ H)
abbrev r1 (X:Cx)(f:A->iX->R A):V->Hp->VK->Prop:=λx H Q=>∃ρ S a,Rel X.K ρ H S/\AV X.K ρ H a x/\(f a S).post (wC X ρ H Q) (XE X ρ H)
abbrev rN (X:Cx)(f:ae->iX->R A):List V->Hp->VK->Prop:=λxs H Q=>∃ρ S as,Rel X.K ρ H S/\AVs X.K ρ H as xs/\(f as S).post (wC X ρ H Q) (XE X ρ H)
def lG.imp{f:aa->aa->Sem aa}{r r':R2}(h:lG X f r)(i:∀x y H Q,r' x y H Q->r x y H Q):lG X f r':=λpins s σ H x y v u Q I rx ry q=>h pins s σ H x y v u Q I rx ry<|i _ _ _ _ q
def jt.imp{f:aa}{r r':List V->Hp->VK->Prop}(h:jt X f r)(i:∀x H Q,r' x H Q->r x H Q):jt X f r':=λpins s σ H x v Q I rx q=>h pins s σ H x v Q I rx<|i _ _ _ q
def uQ{f:A->A->iX->R A}{ca cb:Ex}{H:Hp}{Q:VK}(h:tE X (iZ f ca cb) σ H Q):O9 (r2 X f) (tE X ca) (tE X cb) σ H Q:=by
 kst_p;gp_on;exact⟨ρ2,S2,a,b,R2,v1.ext e2,v2,iT h2 (e1.trans e2) λc S3 h3=>h3.ext<|e1.trans e2⟩
def i_{f:A->A->iX->R A}{ca cb:Ex}(ho:lG X (binaryOp op)<|r2 X f)(ha:AE X a ca)(hb:AE X b cb):AE X (.BinOp a op b pos) (iZ f ca cb):=
 PE.imp (PB ho ha hb) λσ H Q h=>uQ h
def tM{op:CmpOp}{f:A->A->iX->R A}{ca cb:Ex}(ho:lG X (compareOp op)<|r2 X f)(ha:AE X a ca)(hb:AE X b cb)(hm:behindInMarks op b=false:=by first|exact FW _|with_unfolding_all rfl):AE X (.Compare a [op] [b] pos) (iZ f ca cb):=
 PE.imp (KO ho ha hb hm) λσ H Q h=>uQ h
abbrev A.OP:A->iX->bj
 | .non,_=>some false
 | .bl b,_=>some b
 | .int i,_=>some (i != 0)
 | .str x,_=>if x.length<=sizeLine then some ((x.length:Int) != 0)else none
 | .tup xs,_=>some (!xs.isEmpty)
 | .frz xs,_=>some (!xs.isEmpty)
 | .ref n,S=>(iR S n).map λxs=>!xs.isEmpty
 | _,_=>none
abbrev wR (c:Ex):Te:=λτ S=>(c τ S).bind λa S1=>opt (a.OP S1) λb=>.ok b S1
abbrev rB (c:Ex):Te:=λτ S=>(c τ S).bind λa S1=>match a with
 | .bl b=>.ok b S1
 | _=>.no
def ue{K:au}{H:Hp}{b:Bool}{v:V}(h:AV K ρ H (.bl b) v):v=.bl b:=by cases h;rfl
def jR{op:CmpOp}{f:A->A->iX->R A}{ca cb:Ex}(ho:lG X (compareOp op)<|r2 X f)(ha:AE X a ca)(hb:AE X b cb)(hm:behindInMarks op b=false:=by first|exact FW _|with_unfolding_all rfl):AT X (.Compare a [op] [b] pos) (rB<|iZ f ca cb):=
 PT.imp (KW ho ha hb hm) λσ H Q h9=>by
  z_go;refine uQ ⟨ρ,S,τ,R,r,iT (iV h) .refl λc S1 h1 ρ1 H1 x e1 R1 v1=>?_⟩
  cases c with
  | bl k=>cases ue v1;exact⟨k,rfl,h1 ρ1 H1 e1 R1⟩
  | _=>exact h1.elim
def MK{K:au}{H:Hp}{x:A}{v:V}{b:Bool}(R:Rel K ρ H S)(h:AV K ρ H x v)(e:x.OP S=some b):MY K v H b:=by
 have emp:∀{xs:ae} {vs:List V},AVs K ρ H xs vs->(!xs.isEmpty)=!vs.isEmpty:=λr=>by cases r<;>rfl
 cases h with
 | non=>exact(aS e).symm
 | bl b=>exact(aS e).symm
 | int i=>exact(aS e).symm
 | str x=>
  by_cases hx:x.length<=sizeLine
  ·exact⟨hx,by have:=(aM hx).symm.trans e;exact(aS this).symm⟩
  ·have:=(aL hx).symm.trans e;cases this
 | tup h r=>exact .inr (.inl ⟨_,kQ.of h,by rw[<- emp r];exact(aS e).symm⟩)
 | frz h r=>exact .inl ⟨_,h.JC,by rw[<- emp r];exact(aS e).symm⟩
 | rng h=>cases e
 | ty n=>cases e
 | exn n h x=>cases e
 | ktu h r=>cases e
 | @ref a n h=>
  have e:(iR S n).map (λxs=>!xs.isEmpty)=some b:=e;obtain⟨xs,hn,e⟩:=bu.mp e;obtain⟨vs,h1,h2⟩:=R.lst h<|ja hn;exact .inl ⟨vs,lE.of h1,by rw[<- emp h2];exact e.symm⟩
def pY{ca:Ex}(ha:AE X a ca)(he:∀whole,isTrue a X.env whole=(do let v <- whole;standAt a.pos;holding [v] (truthy v)):=by intro _;rfl):AT X a (wR ca):=
 PT.imp (Ge ha he) λσ H Q ⟨ρ,S,τ,R,r,h⟩=>⟨ρ,S,τ,R,r,iT (iV h) .refl λc S1 h1 ρ1 H1 x e1 R1 v1=>by
  obtain⟨b,hb,h1⟩:=jb h1;exact⟨b,MK R1 v1 hb,h1 ρ1 H1 e1 R1⟩⟩
abbrev wu (c:Te):Te:=λτ S=>(c τ S).bind λb S1=>.ok (!b) S1
abbrev Ew (c d:Te):Te:=λτ S=>(c τ S).bind λb S1=>match b with|true=>d τ S1|false=>.ok false S1
abbrev ON (c d:Te):Te:=λτ S=>(c τ S).bind λb S1=>match b with|true=>.ok true S1|false=>d τ S1
def pB{c:Te}(h:AT X a c):AT X (.UnaryOp .Not a pos) (wu c):=PT.imp (Oq h) λσ H Q ⟨ρ,S,τ,R,r,h⟩=>⟨ρ,S,τ,R,r,iT (iV h) .refl λb S1 h1=>h1⟩
def and_imp{c d:Te}{H:Hp}{Q:Bool->Hp->Prop}(h:tT X (Ew c d) σ H Q):Qn (tT X c) (tT X d) σ H Q:=by
 kst_p;refine⟨ρ,S,τ,R,r,iT (iV h) .refl λb S1 h1 ρ1 H1 e1 R1=>?_⟩
 cases b with
 | true=>
  rw[aM rfl];kcj_m
 | false=>
  rw[aL aX];exact h1 ρ1 H1 e1 R1
def or_imp{c d:Te}{H:Hp}{Q:Bool->Hp->Prop}(h:tT X (ON c d) σ H Q):SS (tT X c) (tT X d) σ H Q:=by
 kst_p;refine⟨ρ,S,τ,R,r,iT (iV h) .refl λb S1 h1 ρ1 H1 e1 R1=>?_⟩
 cases b with
 | false=>
  rw[aL aX];kcj_m
 | true=>
  rw[aM rfl];exact h1 ρ1 H1 e1 R1
variable {rest:List aC}
def Dy{c:Te}(h:AT X a c):AW X (.BoolOp .And [a] pos) c:=K4 h
def AR{c:Te}(h:AT X a c):AW X (.BoolOp .Or [a] pos) c:=MP h
def Jj{c d:Te}(h:AT X a c)(h2:AW X (.BoolOp .And (b::rest) pos) d):AW X (.BoolOp .And (a::b::rest) pos) (Ew c d):=PW.imp (MD h h2) λ_ _ _ q=>and_imp q
def HH{c d:Te}(h:AT X a c)(h2:AW X (.BoolOp .Or (b::rest) pos) d):AW X (.BoolOp .Or (a::b::rest) pos) (ON c d):=PW.imp (Pk h h2) λ_ _ _ q=>or_imp q
abbrev yI (c d:Ex):Ex:=λτ S=>(c τ S).bind λa S1=>match a with | .bl true=>d τ S1 | .bl false=>.ok (.bl false) S1|_=>.no
abbrev SI (c d:Ex):Ex:=λτ S=>(c τ S).bind λa S1=>match a with | .bl true=>.ok (.bl true) S1 | .bl false=>d τ S1|_=>.no
abbrev GX (c:Ex):Ex:=λτ S=>(c τ S).bind λa S1=>match a with | .bl b=>.ok (.bl !b) S1|_=>.no
def v9{op}{c:Ex}(h:AE X a c):AE X (.BoolOp op [a] pos) c:=Nq h
def tY{c d:Ex}(h:AE X a c)(h2:AE X (.BoolOp .And (b::rest) pos) d):AE X (.BoolOp .And (a::b::rest) pos) (yI c d):=PE.imp (MU h h2) λσ H Q h9=>by
 z_go;refine⟨ρ,S,τ,R,r,iT (iV h) .refl λb S1 h1 ρ1 H1 x e1 R1 v1=>?_⟩
 cases b with
 | bl k=>
  cases ue v1
  refine⟨k,rfl,?_⟩
  cases k with
  | true=>
   rw[aM rfl];kcj_m
  | false=>
   rw[aL aX];exact h1 ρ1 H1 _ e1 R1<|.bl false
 | _=>exact h1.elim
def Bw{c:Ex}(h:AE X a c):AE X (.UnaryOp .Not a pos) (GX c):=PE.imp (MR h) λσ H Q h9=>by
 z_go;refine⟨ρ,S,τ,R,r,iT (iV h) .refl λb S1 h1 ρ1 H1 x e1 R1 v1=>?_⟩
 cases b with
 | bl k=>
  cases ue v1
  exact⟨k,rfl,h1 ρ1 H1 _ e1 R1<|.bl _⟩
 | _=>exact h1.elim
abbrev RI (t:Te)(c d:Ex):Ex:=λτ S=>(t τ S).bind λb S1=>match b with|true=>c τ S1|false=>d τ S1
def P9{t:Te}{c d:Ex}(ht:AT X e t)(ha:AE X a c)(hb:AE X b d):AE X (.IfExp e a b pos) (RI t c d):=PE.imp (Ik ht ha hb) λσ H Q h9=>by
 z_go;refine⟨ρ,S,τ,R,r,iT (iV h) .refl λb S1 h1 ρ1 H1 e1 R1=>?_⟩
 cases b with
 | true=>
  rw[aM rfl];kcj_m
 | false=>
  rw[aL aX];kcj_m
abbrev iY:nX:=λ_ S=>.ok [] S
abbrev iP (c:Ex)(d:nX):nX:=λτ S=>(c τ S).bind λa S1=>(d τ S1).bind λas S2=>.ok (a::as) S2
def iU:AL X [] iY:=PA.imp oK λσ H Q ⟨ρ,S,τ,R,r,h⟩=>h ρ H _ .refl R .nil
def iQ{c:Ex}{d:nX}(ha:AE X e c)(hr:AL X es d)(hs:starEach (e::es) X.env=(false,eval e X.env)::starEach es X.env:=by rfl):AL X (e::es) (iP c d):=
 PA.imp (k_ ha hr hs) λσ H Q h9=>by
  z_go;refine⟨ρ,S,τ,R,r,iT (iV h) .refl λa S1 h1 ρ1 H1 x e1 R1 v1=>⟨ρ1,S1,τ,R1,r.ext e1,iT (iV h1) e1 λas S2 h2 ρ2 H2 xs e2 R2 v2=>?_⟩⟩;exact h2 ρ2 H2 _ (e1.trans e2) R2<|.cons (v1.ext e2) v2
abbrev qB (d:nX):Ex:=λτ S=>(d τ S).bind λas S1=>gd (as.length<=sizeLine)<|.ok (.tup as) S1
abbrev newL (as:ae)(S:iX):R A:=gd (as.length<=sizeLine)<|.ok (.ref S.length)<|S++[.lst as]
abbrev qq (d:nX):Ex:=λτ S=>(d τ S).bind λas S1=>newL as S1
def oO{H H0:Hp}{Q:VK}(R:Rel X.K ρ H S)(r:AVs X.K ρ H as vs)(e:Ext ρ0 ρ H0 H)(h:wC X ρ0 H0 Q (.tup as) S):∀p,H p=none->Q (.ref p) (upd H p<|.tup vs):=λp hp=>by
 obtain⟨ex,R'⟩:=R.im (u:=.tup vs) hp;exact h ρ _ _ (e.trans ex) R'<|.tup jx<|r.ext ex
def lq{H H0:Hp}{S:iX}{Q:VK}(R:Rel X.K ρ H S)(r:AVs X.K ρ H as vs)(e:Ext ρ0 ρ H0 H)(h:wC X ρ0 H0 Q (.ref S.length)<|S++[.lst as]):∀p,H p=none->Q (.ref p) (upd H p<|.lst vs):=λp hp=>by
 obtain⟨ex,R',g⟩:=R.lay hp r;exact h _ _ _ (e.trans ex) R'<|.ref g
def Ky{H H0:Hp}{vs:List V}{Q:VK}(R:Rel X.K ρ H S)(r:AVs X.K ρ H as vs)(e:Ext ρ0 ρ H0 H)(h:(newL as S).post (wC X ρ0 H0 Q)<|XE X ρ0 H0):vs.length<=sizeLine/\∀p,H p=none->Q (.ref p) (upd H p<|.lst vs):=by
 obtain⟨hl,h⟩:=jl h;exact⟨by rw[<- r.length];exact hl,lq R r e h⟩
def l_{d:nX}{x1}(h:AL X es d):AE X (.Tuple es x1 pos) (qB d):=PE.imp (Ml h) λσ H Q h9=>by
 z_go;refine⟨ρ,S,τ,R,r,iT (iV h) .refl λas S1 h1 ρ1 H1 xs e1 R1 v1=>?_⟩;obtain⟨hl,h1⟩:=jl h1;exact⟨by rw[<- v1.length];exact hl,oO R1 v1 e1 h1⟩
def lO{d:nX}(h:AL X es d):AE X (.List es pos) (qq d):=PE.imp (MF h) λσ H Q ⟨ρ,S,τ,R,r,h⟩=>
 ⟨ρ,S,τ,R,r,iT (iV h) .refl λas S1 h1 ρ1 H1 xs e1 R1 v1=>Ky R1 v1 e1 h1⟩
end
section
variable {X:Cx}{pos:Pos}{a b:aC}
abbrev aSub (a b:A)(S:iX):R A:=match a,b with
 | .int i,.int j=>.ok (.int<|i-j) S
 | _,_=>.no
def rT:lG X (binaryOp .Sub) (r2 X aSub):=lG.imp MZ λx y H Q h9=>by
 k_ne
 cases va<;>first|exact h.elim|(cases vb<;>first|exact h.elim|exact⟨_,_,rfl,rfl,h _ _ _ .refl R<|.int _⟩)
abbrev An (i j:Int):Bool:=(decide (-(2 ^ 64)<i) && decide (i<2 ^ 64)) || (decide (-(2 ^ 64)<j) && decide (j<2 ^ 64))
def mulOk_of{i j:Int}(h:An i j=true):K_ i j:=by
 unfold An at h;dsimp[Bool.or_eq_true,bV,ig]at h;exact h
abbrev nV (a b:A)(S:iX):R A:=match a,b with
 | .int i,.int j=>gd (An i j) (.ok (.int<|i * j) S)
 | .ref n,.int k=>opt (iR S n) λxs=>gd (-(2 ^ 63)<=k/\k<2 ^ 63/\xs.length * k.toNat<=sizeLine) (.ok (.ref S.length)<|S++[.lst (List.replicate k.toNat xs).flatten])
 | _,_=>.no
theorem AVs.rep{K:au}{H:Hp}(r:AVs K ρ H xs vs):∀k:Nat,AVs K ρ H (List.replicate k xs).flatten (List.replicate k vs).flatten
 | 0=>.nil
 | k+1=>by rw[cO,cO,dw,dw];exact r.append<|AVs.rep r k
def rF:lG X (binaryOp .Mult) (r2 X nV):=λpins s σ H x y v u Q I rx ry h9=>by
 k_ne
 cases va with
 | int i=>
  cases vb with
  | int j=>
   obtain⟨hm,h⟩:=jl h;exact NJ pins s σ H _ _ v u Q I rx ry ⟨i,j,rfl,rfl,mulOk_of hm,h _ _ _ .refl R<|.int _⟩
  | _=>exact h.elim
 | @ref p n hp=>
  cases vb with
  | int k=>
   kcf_m;obtain⟨hc,h⟩:=jl h;obtain⟨vs,h1,h2⟩:=R.lst hp<|ja hn;exact MS pins s σ H _ _ v u Q I rx ry ⟨p,k,vs,rfl,rfl,h1,hc.1,hc.2.1,by rw[<- h2.length];exact hc.2.2,lq R (h2.rep _) .refl h⟩
  | _=>exact h.elim
 | _=>exact h.elim
abbrev Av (a b:A)(S:iX):R A:=match a,b with
 | .int i,.int j=>gd (0<j/\j<18446744073709551616) (.ok (.int<|i / j) S)
 | _,_=>.no
def BI:lG X (binaryOp .FloorDiv) (r2 X Av):=lG.imp GG λx y H Q h9=>by
 k_ne
 cases va<;>first|exact h.elim|(cases vb<;>first|exact h.elim|exact⟨_,_,rfl,rfl,(jl h).1,(jl h).2 _ _ _ .refl R<|.int _⟩)
abbrev uC (a b:A)(S:iX):R A:=match a,b with
 | .int i,.int j=>gd (0<j) (.ok (.int<|i % j) S)
 | _,_=>.no
def xC:lG X (binaryOp .Mod) (r2 X uC):=lG.imp OI λx y H Q h9=>by
 k_ne
 cases va<;>first|exact h.elim|(cases vb<;>first|exact h.elim|exact⟨_,_,rfl,rfl,(jl h).1,(jl h).2 _ _ _ .refl R<|.int _⟩)
abbrev JO (a b:A)(S:iX):R A:=match a,b with
 | .int i,.int j=>gd (0<=j/\j<=1000000/\i.natAbs<2 ^ 64) (.ok (.int<|i ^ j.toNat) S)
 | _,_=>.no
def Py:lG X (binaryOp .Pow) (r2 X JO):=lG.imp Mq λx y H Q h9=>by
 k_ne
 cases va<;>first|exact h.elim|(cases vb<;>first|exact h.elim|exact⟨_,_,rfl,rfl,(jl h).1,(jl h).2 _ _ _ .refl R<|.int _⟩)
abbrev jJ (a b:A)(S:iX):R A:=match a,b with
 | .int i,.int j=>.ok (.int<|i+j) S
 | .tup xs,.tup ys=>gd (xs.length+ys.length<=sizeLine) (.ok (.tup<|xs++ys) S)
 | .str x,.str y=>gd (x.length+y.length<=sizeLine) (.ok (.str<|x++y) S)
 | .ref n,.ref m=>opt (iR S n) λxs=>opt (iR S m) λys=>gd (xs.length+ys.length<=sizeLine) (.ok (.ref S.length)<|S++[.lst<|xs++ys])
 | _,_=>.no
def AVs.nil_inv{K:au}{H:Hp}(r:AVs K ρ H xs vs):xs=[] ↔ vs=[]:=by cases r<;>simp
def jI:lG X (binaryOp .Add) (r2 X jJ):=λpins s σ H x y v u Q I rx ry h9=>by
 k_ne
 cases va with
 | int i=>
  cases vb with
  | int j=>exact Mv pins s σ H _ _ v u Q I rx ry ⟨i,j,rfl,rfl,h _ _ _ .refl R<|.int _⟩
  | _=>exact h.elim
 | str x=>
  cases vb with
  | str y=>
   obtain⟨hc,h⟩:=jl h;exact A2 pins s σ H _ _ v u Q I rx ry ⟨x,y,rfl,rfl,hc,h _ _ _ .refl R<|.str _⟩
  | _=>exact h.elim
 | @tup p xs vs h1 r1=>
  cases vb with
  | @tup q ys ws h2 r2=>
   obtain⟨hc,h⟩:=jl h;by_cases hv:vs=[]
   ·have hx:=r1.nil_inv.mpr hv;subst hv hx;exact Jk pins s σ H _ _ v u Q I rx ry ⟨p,q,ws,rfl,rfl,kQ.of h1,kQ.of h2,h _ _ _ .refl R<|.tup h2 r2⟩
   ·refine K1 pins s σ H _ _ v u Q I rx ry ⟨p,q,vs,ws,rfl,rfl,kQ.of h1,kQ.of h2,hv,by rw[<- r1.length,<- r2.length];exact hc,λe=>?_,λ_=>oO R (r1.append r2) .refl h⟩;have hy:=r2.nil_inv.mpr e;subst hy;rw[b5]at h;exact h _ _ _ .refl R<|.tup h1 r1
  | _=>exact h.elim
 | @ref p n hp=>
  cases vb with
  | @ref q m hq=>
   kcf_m;obtain⟨ys,hm,h⟩:=jb h;obtain⟨hc,h⟩:=jl h;obtain⟨vs,h1,h2⟩:=R.lst hp<|ja hn;obtain⟨ws,h3,h4⟩:=R.lst hq<|ja hm;exact N3 pins s σ H _ _ v u Q I rx ry ⟨p,q,vs,ws,rfl,rfl,h1,h3,by rw[<- h2.length,<- h4.length];exact hc,lq R (h2.append h4) .refl h⟩
  | _=>exact h.elim
 | _=>exact h.elim
abbrev A.ints:ae->Option (ag)
 | []=>some []
 | .int i::xs=>(A.ints xs).map (i::·)
 | _=>none
theorem B4{K:au}{H:Hp}:∀{xs:ae}{vs:List V}{bs:ag},AVs K ρ H xs vs->A.ints xs=some bs->vs=bs.map V.int
 | _,_,_,.nil,e=>by cases e;rfl
 | _,_,_,.cons (x:=.int b) h t,e=>by
  obtain⟨cs,e1,rfl⟩:=bu.mp e
  cases h
  rw[B4 t e1];rfl
 | _,_,_,.cons (x:=.unb) h t,e=>nomatch e
 | _,_,_,.cons (x:=.non) h t,e=>nomatch e
 | _,_,_,.cons (x:=.bl _) h t,e=>nomatch e
 | _,_,_,.cons (x:=.str _) h t,e=>nomatch e
 | _,_,_,.cons (x:=.tup _) h t,e=>nomatch e
 | _,_,_,.cons (x:=.frz _) h t,e=>nomatch e
 | _,_,_,.cons (x:=.rng _ _) h t,e=>nomatch e
 | _,_,_,.cons (x:=.ref _) h t,e=>nomatch e
 | _,_,_,.cons (x:=.exn _) h t,e=>nomatch e
 | _,_,_,.cons (x:=.ty _) h t,e=>nomatch e
abbrev EH (a b:A)(S:iX):R A:=match a,b with
 | .int i,.int j=>.ok (.bl<|decide<|i<j) S
 | _,_=>.no
def Es(hu:X.A.units+64<cLine):lG X (compareOp .Lt) (r2 X EH):=λpins s σ H x y v u Q I rx ry h9=>by
 k_ne
 cases va with
 | int i=>
  cases vb with
  | int j=>exact Pc pins s σ H _ _ v u Q I rx ry ⟨i,j,rfl,rfl,h _ _ _ .refl R<|.bl _⟩
  | _=>exact h.elim
 | _=>exact h.elim
abbrev JG (a b:A)(S:iX):R A:=match a,b with
 | .int i,.int j=>.ok (.bl<|decide<|i<=j) S
 | _,_=>.no
def OH:lG X (compareOp .LtE) (r2 X JG):=lG.imp Qe λx y H Q h9=>by
 k_ne
 cases va<;>first|exact h.elim|(cases vb<;>first|exact h.elim|exact⟨_,_,rfl,rfl,h _ _ _ .refl R<|.bl _⟩)
abbrev Hl (a b:A)(S:iX):R A:=match a,b with
 | .int i,.int j=>.ok (.bl<|decide<|j<i) S
 | _,_=>.no
def BV(hu:X.A.units+64<cLine):lG X (compareOp .Gt) (r2 X Hl):=λpins s σ H x y v u Q I rx ry h9=>by
 k_ne
 cases va with
 | int i=>
  cases vb with
  | int j=>exact PM pins s σ H _ _ v u Q I rx ry ⟨i,j,rfl,rfl,h _ _ _ .refl R<|.bl _⟩
  | _=>exact h.elim
 | _=>exact h.elim
abbrev OS (a b:A)(S:iX):R A:=match a,b with
 | .int i,.int j=>.ok (.bl<|decide<|j<=i) S
 | _,_=>.no
def Nt:lG X (compareOp .GtE) (r2 X OS):=lG.imp Qg λx y H Q h9=>by
 k_ne
 cases va<;>first|exact h.elim|(cases vb<;>first|exact h.elim|exact⟨_,_,rfl,rfl,h _ _ _ .refl R<|.bl _⟩)
abbrev BY (neg:Bool)(a b:A)(S:iX):R A:=match a,b with
 | .bl i,.bl j=>.ok (.bl<|if neg then i != j else i == j) S
 | .non,.non=>.ok (.bl<|!neg) S
 | .unb,.non=>.no
 | .exn _,.non=>.no
 | _,.non=>.ok (.bl neg) S
 | _,_=>.no
def Mp{n:Bool}{a b:A}(h1:b≠.non)(h2:∀j,b≠.bl j):BY n a b S=.no:=by
 unfold BY;split<;>first|rfl|exact absurd rfl h1|exact absurd rfl<|h2 _
def FE{n:Bool}{a b:A}{F:A->iX->Prop}{G:Str->iX->Prop}(h:(BY n a b S).post F G)(h1:b≠.non)(h2:∀j,b≠.bl j):False:=by
 rw[Mp h1 h2]at h;exact h
def RO:lG X (compareOp .Is) (r2 X<|BY false):=λpins s σ H x y v u Q I rx ry h9=>by
 k_ne
 cases vb with
 | non=>
  refine Od pins s σ H _ _ v u Q I rx ry ⟨rfl,?_⟩
  cases va<;>first|exact h _ _ _ .refl R (.bl _)|exact h.elim
 | bl j=>
  cases va with
  | bl i=>exact Mt pins s σ H _ _ v u Q I rx ry ⟨i,j,rfl,rfl,h _ _ _ .refl R<|.bl _⟩
  | _=>exact h.elim
 | _=>
  exact(FE h (λz=>nomatch z) nofun).elim
def Ks:lG X (compareOp .IsNot) (r2 X<|BY true):=λpins s σ H x y v u Q I rx ry h9=>by
 k_ne
 cases vb with
 | non=>
  refine Le pins s σ H _ _ v u Q I rx ry ⟨rfl,?_⟩
  cases va<;>first|exact h _ _ _ .refl R (.bl _)|exact h.elim
 | bl j=>
  cases va with
  | bl i=>exact E6 pins s σ H _ _ v u Q I rx ry ⟨i,j,rfl,rfl,h _ _ _ .refl R<|.bl _⟩
  | _=>exact h.elim
 | _=>
  exact(FE h (λz=>nomatch z) nofun).elim
abbrev Lq (f:A->iX->R A)(c:Ex):Ex:=λτ S=>(c τ S).bind λa S1=>f a S1
abbrev EK (a:A)(S:iX):R A:=match a with
 | .int i=>.ok (.int<|-i) S
 | _=>.no
def OX:QM X (unaryOp .USub) (r1 X EK):=λpins s σ H x v Q I rx h9=>by
 obtain⟨ρ,S,a,R,va,h⟩:=h9
 cases va with
 | int i=>exact BK pins s σ H _ v Q I rx ⟨i,rfl,h _ _ _ .refl R<|.int _⟩
 | _=>exact h.elim
def MQ{f:A->iX->R A}{c:Ex}{H:Hp}{Q:VK}(h:tE X (Lq f c) σ H Q):SA (r1 X f) (tE X c) σ H Q:=by
 kst_p;exact⟨ρ,S,τ,R,r,iT (iV h) .refl λa S1 h1 ρ1 H1 x e1 R1 v1=>⟨ρ1,S1,a,R1,v1,iT h1 e1 λc S3 h3=>h3.ext e1⟩⟩
def MV{c:Ex}(h:AE X a c):AE X (.UnaryOp .USub a pos) (Lq EK c):=PE.imp (Hu OX h) λ_ _ _ q=>MQ q
abbrev lX (a b:A)(S:iX):R A:=match a,b with
 | .tup xs,.int i=>opt (lK xs i) λx=>.ok x S
 | .frz xs,.int i=>opt (lK xs i) λx=>.ok x S
 | .ref n,.int i=>opt (iR S n) λxs=>opt (lK xs i) λx=>.ok x S
 | .str z,.int i=>gd (z.length<=sizeLine) (opt (lK z.cps.toList i) λc=>.ok (.str ⟨#[c]⟩) S)
 | _,_=>.no
def AVs.lK{K:au}{H:Hp}{i:Int}{x:A}(r:AVs K ρ H xs vs)(h:L2.lK xs i=some x):∃v,L2.lK vs i=some v/\AV K ρ H x v:=by
 unfold L2.lK at h ⊢;rw[<- r.length]
 cases hj:rC xs.length i with
 | none=>rw[hj]at h;cases h
 | some j=>
  rw[hj]at h;exact r.get h
def Pz:O7 X (r2 X lX):=λvalue slice pins s σ H x y v u Q I rx ry ⟨ρ,S,a,b,R,va,vb,h⟩ hs=>by
 cases va with
 | @tup p xs vs h1 r1=>
  cases vb with
  | int i=>
   obtain⟨x,hx,h⟩:=jb h;obtain⟨z,e,q⟩:=r1.lK hx;exact NX value slice pins s σ H _ _ v u Q I rx ry ⟨p,vs,i,z,rfl,rfl,kQ.of h1,e,h _ _ _ .refl R q⟩ hs
  | _=>exact h.elim
 | @frz p xs vs h1 r1=>
  cases vb with
  | int i=>
   obtain⟨x,hx,h⟩:=jb h;obtain⟨z,e,q⟩:=r1.lK hx;exact Dk value slice pins s σ H _ _ v u Q I rx ry ⟨p,vs,i,z,rfl,rfl,h1.JC,e,h _ _ _ .refl R q⟩ hs
  | _=>exact h.elim
 | @ref p n hp=>
  cases vb with
  | int i=>
   kcf_m;obtain⟨x,hx,h⟩:=jb h;obtain⟨vs,h1,r1⟩:=R.lst hp<|ja hn;obtain⟨z,e,q⟩:=r1.lK hx;exact Dk value slice pins s σ H _ _ v u Q I rx ry ⟨p,vs,i,z,rfl,rfl,lE.of h1,e,h _ _ _ .refl R q⟩ hs
  | _=>exact h.elim
 | str z=>
  cases vb with
  | int i=>
   obtain⟨hz,h⟩:=jl h;obtain⟨c,hc,h⟩:=jb h;exact OG value slice pins s σ H _ _ v u Q I rx ry ⟨z,i,c,rfl,rfl,hz,hc,h _ _ _ .refl R<|.str _⟩ hs
  | _=>exact h.elim
 | _=>exact h.elim
def jz{ca cb:Ex}(ha:AE X a ca)(hb:AE X b cb)(hs:C4 b:=by exact λ_ _=>rfl):AE X (.Subscript a b pos) (iZ lX ca cb):=PE.imp (OV Pz ha hb hs) λσ H Q h=>uQ h
end
abbrev tN (f:A->A->bj):ae->ae->bj
 | [],[]=>some true
 | x::xs,y::ys=>(f x y).bind λp=>(tN f xs ys).map λq=>p && q
 | _,_=>some false
inductive Sh
 | non
 | bl (b:Bool)
 | int (i:Int)
 | str (x:Str)
 | tup (xs:ae)
 | lst
abbrev NL (S:iX):A->Option Sh
 | .non=>some .non
 | .bl b=>some (.bl b)
 | .int i=>some (.int i)
 | .str x=>some (.str x)
 | .tup xs=>some (.tup xs)
 | .ref i=>(iR S i).map λ_=>.lst
 | _=>none
abbrev JH (f:A->A->bj):Sh->Sh->bj
 | .non,.non=>some true
 | .bl x,.bl y=>some (x == y)
 | .bl x,.int y=>some ((if x then 1 else 0) == y)
 | .int x,.bl y=>some (x == (if y then 1 else 0))
 | .int x,.int y=>some (x == y)
 | .str x,.str y=>some (x == y)
 | .tup xs,.tup ys=>tN f xs ys
 | .lst,.lst=>none
 | _,_=>some false
abbrev yx (S:iX):Nat->A->A->bj
 | 0,_,_=>none
 | n+1,a,b=>match a,b with
  | .ref i,.ref j=>(iR S i).bind λxs=>(iR S j).bind λys=>tN (yx S n) xs ys
  | _,_=>(NL S a).bind λx=>(NL S b).bind λy=>JH (yx S n) x y
section
variable {X:Cx}{pins:bp}{σ:L2.St}{H:Hp}{s:aA}{ρ:bb}{S:iX}
inductive KdV (s:aA):Sh->aa->Prop
 | non:KdV s .non .none
 | bl (b:Bool):KdV s (.bl b) (.bool b)
 | int (i:Int) (t:Tok):KdV s (.int i) (.int i t)
 | str (x:Str) (t:Tok):KdV s (.str x) (.str x t)
 | tup {p:aj} {us:ba} (xs:ae) (h:s.heap.IsTuple p us.toArray):KdV s (.tup xs) (.ref p)
 | lst {p:aj} {us:ba} (h:s.heap.IsList p us.toArray):KdV s .lst<|.ref p
def CB{p:aj}(h:s.heap.IsTuple p us)(h':s.heap.IsList p ws):False:=by
 obtain⟨o,e,c,_⟩:=h;obtain⟨o',e',c',_⟩:=h';rw[e]at e'
 cases e'
 exact absurd (c.symm.trans c') ⋯
def Cp(I:Inv X pins σ H s)(R:Rel X.K ρ H S){a:A}{x:V}(ha:AV X.K ρ H a x)(r:RelV x u)(e:NL S a=some h):KdV s h u:=by
 cases ha with
 | non=>cases e;cases(show u=Value.none from r);exact .non
 | bl b=>cases e;cases(show u=Value.bool b from r);exact .bl b
 | int i=>cases e;obtain⟨t,rfl⟩:∃t,u=Value.int i t:=r;exact .int i t
 | str i=>cases e;obtain⟨t,rfl⟩:∃t,u=Value.str i t:=r;exact .str i t
 | tup h1 r1=>cases e;cases(show u=Value.ref _ from r);obtain⟨us,_,p,_⟩:=I.tuple<|kQ.of h1;exact .tup _ p
 | ref h1=>
  obtain⟨xs,e1,rfl⟩:=bu.mp e
  cases(show u=Value.ref _ from r)
  obtain⟨vs,h3,r1⟩:=R.lst h1<|ja e1;obtain⟨us,_,p,_⟩:=I.list<|lE.of h3;exact .lst p.isList
 | _=>cases e
abbrev Al (B:az)(s:aA)(u v:aa)(k:Bool):Prop:=SeqAt.RcAt B s u v k/\SeqAt.EqAt B s u v k/\SeqAt.RcNeAt B s u v (!k)
def QA{B:az}(hu:B.units<cLine){f:A->A->bj}{v:aa}{k:Bool}(d:KdV s h u)(d':KdV s h' v)(nt:∀xs ys,h=.tup xs->h'≠.tup ys)(e:JH f h h'=some k):Al B s u v k:=by
 cases d with
 | non=>cases d' with
  | non=>cases e;exact⟨.none_none,.same _,.none_none⟩
  | bl b=>cases e;exact⟨.none_bool _,.none_bool _,.none_bool _⟩
  | int i t=>cases e;exact⟨.none_int _ _,.none_int _ _,.none_int _ _⟩
  | str x t=>cases e;exact⟨.none_str _ _,.none_str _ _,.none_str _ _⟩
  | tup xs p=>cases e;exact⟨.none_tuple p hu,.none_tuple p hu,.none_tuple p hu⟩
  | lst p=>cases e;exact⟨.none_list p hu,.none_list p hu,.none_list p hu⟩
 | bl c=>cases d' with
  | non=>cases e;exact⟨.bool_none _,.bool_none _,.bool_none _⟩
  | bl b=>cases e;exact⟨.bool_bool _ _,.bool_bool _ _,.bool_bool _ _⟩
  | int i t=>cases e;exact⟨.bool_int _ _ _,.bool_int _ _ _,.bool_int _ _ _⟩
  | str x t=>cases e;exact⟨.bool_str _ _ _,.bool_str _ _ _,.bool_str _ _ _⟩
  | tup xs p=>cases e;exact⟨.bool_tuple _ p hu,.bool_tuple _ p hu,.bool_tuple _ p hu⟩
  | lst p=>cases e;exact⟨.bool_list _ p hu,.bool_list _ p hu,.bool_list _ p hu⟩
 | int c t'=>cases d' with
  | non=>cases e;exact⟨.int_none _ _,.int_none _ _,.int_none _ _⟩
  | bl b=>cases e;exact⟨.int_bool _ _ _,.int_bool _ _ _,.int_bool _ _ _⟩
  | int i t=>cases e;exact⟨.int_int _ _ _ _,.int_int _ _ _ _,.int_int _ _ _ _⟩
  | str x t=>cases e;exact⟨.int_str _ _ _ _,.int_str _ _ _ _,.int_str _ _ _ _⟩
  | tup xs p=>cases e;exact⟨.int_tuple _ _ p hu,.int_tuple _ _ p hu,.int_tuple _ _ p hu⟩
  | lst p=>cases e;exact⟨.int_list _ _ p hu,.int_list _ _ p hu,.int_list _ _ p hu⟩
 | str c t'=>cases d' with
  | non=>cases e;exact⟨.str_none _ _,.str_none _ _,.str_none _ _⟩
  | bl b=>cases e;exact⟨.str_bool _ _ _,.str_bool _ _ _,.str_bool _ _ _⟩
  | int i t=>cases e;exact⟨.str_int _ _ _ _,.str_int _ _ _ _,.str_int _ _ _ _⟩
  | str x t=>cases e;exact⟨.str_str _ _ _ _,.str_str _ _ _ _,.str_str _ _ _ _⟩
  | tup xs p=>cases e;exact⟨.str_tuple _ _ p hu,.str_tuple _ _ p hu,.str_tuple _ _ p hu⟩
  | lst p=>cases e;exact⟨.str_list _ _ p hu,.str_list _ _ p hu,.str_list _ _ p hu⟩
 | tup zs p'=>cases d' with
  | non=>cases e;exact⟨.tuple_none p' hu,.tuple_none p' hu,.tuple_none p' hu⟩
  | bl b=>cases e;exact⟨.tuple_bool _ p' hu,.tuple_bool _ p' hu,.tuple_bool _ p' hu⟩
  | int i t=>cases e;exact⟨.tuple_int _ _ p' hu,.tuple_int _ _ p' hu,.tuple_int _ _ p' hu⟩
  | str x t=>cases e;exact⟨.tuple_str _ _ p' hu,.tuple_str _ _ p' hu,.tuple_str _ _ p' hu⟩
  | tup xs p=>exact absurd rfl (nt _ _ rfl)
  | lst p=>cases e;exact⟨.tuple_list p' p hu,.of_refs (λz=>by subst z;exact CB p' p)<|.tuple_list p' p hu,.tuple_list p' p hu⟩
 | lst p'=>cases d' with
  | non=>cases e;exact⟨.list_none p' hu,.list_none p' hu,.list_none p' hu⟩
  | bl b=>cases e;exact⟨.list_bool _ p' hu,.list_bool _ p' hu,.list_bool _ p' hu⟩
  | int i t=>cases e;exact⟨.list_int _ _ p' hu,.list_int _ _ p' hu,.list_int _ _ p' hu⟩
  | str x t=>cases e;exact⟨.list_str _ _ p' hu,.list_str _ _ p' hu,.list_str _ _ p' hu⟩
  | tup xs p=>cases e;exact⟨.list_tuple p' p hu,.of_refs (λz=>by subst z;exact CB p p')<|.list_tuple p' p hu,.list_tuple p' p hu⟩
  | lst p=>cases e
def yy{a:A}{x:V}(h:AV X.K ρ H a x)(e:NL S a=some (.tup xs)):a=.tup xs/\∃p vs,x=.ref p/\H p=some (.tup vs)/\AVs X.K ρ H xs vs:=by
 cases h with
 | tup h r=>cases e;exact⟨rfl,_,_,rfl,h,r⟩
 | ref h=>obtain⟨_,_,z⟩:=bu.mp e;cases z
 | _=>cases e
def xZ{i:Nat}{x:V}(h:AV X.K ρ H (.ref i) x):∃p,x=.ref p/\ρ[i]?=some p:=by
 cases h with
 | ref h=>exact⟨_,rfl,h⟩
def GS{a:A}(e:NL S a=some .lst):∃i,a=.ref i:=by
 cases a with
 | ref i=>exact⟨i,rfl⟩
 | _=>cases e
def Fy{n:Nat}{a:A}{k:Bool}(e:yx S (n+1) a b=some k):(∃i j xs ys,a=.ref i/\b=.ref j/\iR S i=some xs/\iR S j=some ys/\tN (yx S n) xs ys=some k)\/(∃h h',NL S a=some h/\NL S b=some h'/\JH (yx S n) h h'=some k/\(h=.lst->h'≠.lst)):=by
 unfold yx at e;split at e
 ·obtain⟨xs,e1,e⟩:=cJ.mp e;obtain⟨ys,e2,e⟩:=cJ.mp e;exact .inl ⟨_,_,xs,ys,rfl,rfl,e1,e2,e⟩
 ·rename_i nr;obtain⟨h,e1,e⟩:=cJ.mp e;obtain⟨h',e2,e⟩:=cJ.mp e;refine .inr ⟨h,h',e1,e2,e,λz1 z2=>?_⟩;subst z1 z2;obtain⟨i,rfl⟩:=GS e1;obtain⟨j,rfl⟩:=GS e2;exact nr i j rfl rfl
def La{f:A->A->bj}{k:Bool}(d:KdV s h u)(d':KdV s h' u)(nt:∀xs ys,h=.tup xs->h'≠.tup ys)(e:JH f h h'=some k):k=true:=by
 cases d with
 | non=>cases d';exact(aS e).symm
 | bl b=>cases d';exact(aS e).symm.trans (bz b)
 | int b=>cases d';exact(aS e).symm.trans (bz b)
 | str b=>cases d';exact(aS e).symm.trans (bz b)
 | tup xs p=>cases d' with
  | tup=>exact absurd rfl (nt _ _ rfl)
  | lst q=>exact(CB p q).elim
 | lst p=>cases d' with
  | tup _ q=>exact(CB q p).elim
  | lst q=>cases e
def Ao{f:A->A->bj}(hf:∀a b x u k,AV X.K ρ H a x->AV X.K ρ H b x->RelV x u->f a b=some k->k=true):∀{xs ys:ae}{vs:List V}{us:ba}{k:Bool},AVs X.K ρ H xs vs->AVs X.K ρ H ys vs->Vals vs us->tN f xs ys=some k->k=true:=by
 intro xs ys vs us k h1 h2 q e
 induction q generalizing xs ys k with
 | nil=>cases h1;cases h2;exact(aS e).symm
 | cons rv _ ih=>
  cases h1 with
  | cons h t=>cases h2 with
   | cons h' t'=>
    obtain⟨p,e1,e⟩:=cJ.mp e;obtain⟨q,e2,e3⟩:=bu.mp e;rw[<- e3,hf _ _ _ _ p h h' rv e1,ih t t' e2];rfl
def DE(h h':Sh):(∃xs ys,h=.tup xs/\h'=.tup ys)\/(∀xs ys,h=.tup xs->h'≠.tup ys):=by
 cases h with
 | tup xs=>cases h' with
  | tup ys=>exact .inl ⟨xs,ys,rfl,rfl⟩
  | _=>exact .inr λ_ _ _ z=>nomatch z
 | _=>exact .inr λ_ _ z=>nomatch z
theorem yz(I:Inv X pins σ H s)(R:Rel X.K ρ H S):∀(n:Nat) (a b:A) (x:V) (u:aa) (k:Bool),AV X.K ρ H a x->AV X.K ρ H b x->RelV x u->yx S n a b=some k->k=true
 | 0,_,_,_,_,_,_,_,_,e=>nomatch e
 | n+1,a,b,x,u,k,ha,hb,ru,e=>by
  rcases Fy e with⟨i,j,xs,ys,rfl,rfl,e1,e2,e⟩|⟨h,h',e1,e2,e,_⟩
  ·obtain⟨p,rfl,h1⟩:=xZ ha;obtain⟨q,z,h2⟩:=xZ hb
   cases z
   obtain⟨vs,h3,r1⟩:=R.lst h1<|ja e1;obtain⟨ws,h4,r2⟩:=R.lst h2<|ja e2;rw[h3]at h4
   cases h4
   obtain⟨us,q,_⟩:=I.list<|lE.of h3;exact Ao (λa b x u k=>yz I R n a b x u k) r1 r2 q e
  ·rcases DE h h' with⟨xs,ys,rfl,rfl⟩|nt
   ·obtain⟨rfl,p,vs,rfl,h3,r1⟩:=yy ha e1;obtain⟨rfl,q,ws,z,h4,r2⟩:=yy hb e2
    cases z
    have:=I.tD (kQ.of h3)<|kQ.of h4;subst this;obtain⟨us,q,_⟩:=I.tuple<|kQ.of h3;exact Ao (λa b x u k=>yz I R n a b x u k) r1 r2 q e
   ·exact La (Cp I R ha ru e1) (Cp I R hb ru e2) nt e
abbrev wU (f:A->A->bj)(xs ys:ae)(j:Nat):Bool:=match xs[j]?,ys[j]? with
 | some x,some y=>(f x y).getD true
 | _,_=>true
theorem uW{f:A->A->bj}:∀{xs ys:ae}{k:Bool},tN f xs ys=some k->k=((List.range<|min xs.length ys.length).all (wU f xs ys) && xs.length == ys.length)/\∀j x y,xs[j]?=some x->ys[j]?=some y->f x y=some (wU f xs ys j)
 | [],[],k,e=>⟨(aS e).symm,λj x y h=>by simp at h⟩
 | [],_::_,k,e=>⟨(aS e).symm,λj x y h=>by simp at h⟩
 | _::_,[],k,e=>⟨(aS e).symm,λj x y _ h=>by simp at h⟩
 | x::xs,y::ys,k,e=>by
  unfold tN at e
  cases e1:f x y with
  | none=>rw[e1]at e;cases e
  | some p=>
   rw[e1]at e;obtain⟨q,e2,e3⟩:=bu.mp e;obtain⟨h1,h2⟩:=uW e2;have p0:wU f (x::xs) (y::ys) 0=p:=by simp[wU,e1]
   have ps:∀j,wU f (x::xs) (y::ys) (j+1)=wU f xs ys j:=λj=>by simp[wU]
   refine⟨?_,λj a b ha hb=>?_⟩
   ·rw[<- e3,h1,bq,bq,Nat.succ_min_succ,fY,iy,all_map,p0];have:(wU f (x::xs) (y::ys) ∘ Nat.succ)=wU f xs ys:=funext ps;rw[this,Bool.and_assoc];simp
   ·cases j with
    | zero=>
     simp at ha hb;subst ha hb;rw[p0];exact e1
    | succ j=>rw[ps];exact h2 j a b (by simpa using ha)<|by simpa using hb
def u7{f:A->A->bj}(hf:∀a b x y u v k,AV X.K ρ H a x->AV X.K ρ H b y->RelV x u->RelV y v->f a b=some k->SeqAt.EqAt B s u v k){us ts:ba}{k:Bool}
  (r1:AVs X.K ρ H xs vs) (r2:AVs X.K ρ H ys ws) (q1:Vals vs us) (q2:Vals ws ts) (e:tN f xs ys=some k):∀j (h1:j<us.toArray.size) (h2:j<ts.toArray.size),SeqAt.EqAt B s us.toArray[j] ts.toArray[j] (wU f xs ys j):=by
 intro j h1 h2;have l1:=r1.length;have l2:=r2.length;have l3:=q1.length;have l4:=q2.length;have hx:j<xs.length:=by simp at h1;lia
 have hy:j<ys.length:=by simp at h2;lia
 have e1:xs[j]?=some xs[j]:=aG hx;have e2:ys[j]?=some ys[j]:=aG hy;obtain⟨x,ex,ax⟩:=r1.get e1;obtain⟨y,ey,ay⟩:=r2.get e2;obtain⟨u,eu,ru⟩:=q1.get ex;obtain⟨t,et,rt⟩:=q2.get ey;have a1:us.toArray[j]=u:=by
  have:us[j]?=some us.toArray[j]:=by simp at h1;simp[h1]
  rw[eu]at this;exact(aS this).symm
 have a2:ts.toArray[j]=t:=by
  have:ts[j]?=some ts.toArray[j]:=by simp at h2;simp[h2]
  rw[et]at this;exact(aS this).symm
 rw[a1,a2];exact hf _ _ x y u t _ ax ay ru rt<|(uW e).2 j _ _ e1 e2
def in1_units(B:az):B.in1.units=B.units+1:=rfl
theorem Hy(I:Inv X pins σ H s)(R:Rel X.K ρ H S):∀(n:Nat) (B:az) (a b:A) (x y:V) (u v:aa) (k:Bool),B.units+n<cLine->AV X.K ρ H a x->AV X.K ρ H b y->RelV x u->RelV y v->yx S n a b=some k->Al B s u v k
 | 0,_,_,_,_,_,_,_,_,_,_,_,_,_,e=>nomatch e
 | n+1,B,a,b,x,y,u,v,k,hu,ha,hb,rx,ry,e=>by
  have hu0:B.units<cLine:=()
  have items:∀a b x y u v k,AV X.K ρ H a x->AV X.K ρ H b y->RelV x u->RelV y v->yx S n a b=some k->SeqAt.EqAt B.in1 s u v k:=λa b x y u v k h1 h2 h3 h4 h5=>(Hy I R n B.in1 a b x y u v k (by rw[in1_units];lia) h1 h2 h3 h4 h5).2.1;have same:=λ(z:y=x)=>yz I R (n+1) a b x u k ha (z ▸ hb) rx e;have refs:∀{p q:aj},x=.ref p->y=.ref q->u=.ref p->v=.ref q->SeqAt.RcAt B s u v k->SeqAt.EqAt B s u v k:=λ{p q} z1 z2 z3 z4 h=>by
   subst z3 z4;by_cases hp:p=q
   ·subst hp;rw[same<|z2.trans z1.symm];exact .same _
   ·exact .of_refs hp h
  rcases Fy e with⟨i,j,xs,ys,rfl,rfl,e1,e2,e⟩|⟨h,h',e1,e2,e,_⟩
  ·obtain⟨p,rfl,h1⟩:=xZ ha;obtain⟨q,rfl,h2⟩:=xZ hb;obtain⟨vs,h3,r1⟩:=R.lst h1<|ja e1;obtain⟨ws,h4,r2⟩:=R.lst h2<|ja e2;obtain⟨us,q1,p1,_⟩:=I.list<|lE.of h3;obtain⟨ts,q2,p2,_⟩:=I.list<|lE.of h4;have ru:=refs rfl rfl rx ry
   cases(show u=Value.ref p from rx)
   cases(show v=Value.ref q from ry)
   have l1:=r1.length;have l2:=r2.length;have l3:=q1.length;have l4:=q2.length;have ek:=(uW e).1;by_cases hl:xs.length=ys.length
   ·rw[<- hl,Nat.min_self,bz,Bool.and_true]at ek;have eh:us.toArray.size=ts.toArray.size:=by simp;lia
    have z1:=SeqAt.RcAt.lists p1.isList p2.isList eh hu0<|u7 items r1 r2 q1 q2 e;have z2:=SeqAt.RcNeAt.lists p1.isList p2.isList eh hu0<|u7 items r1 r2 q1 q2 e;rw[aP,<- l3,<- l1,<- ek]at z1 z2;exact⟨z1,ru z1,z2⟩
   ·have:(xs.length == ys.length)=false:=by simpa using hl
    rw[this,iL]at ek;subst ek;have eh:(us.toArray.size != ts.toArray.size)=true:=by simp;lia
    have z1:=SeqAt.RcAt.lists_lengths p1.isList p2.isList eh hu0;exact⟨z1,ru z1,SeqAt.RcNeAt.lists_lengths p1.isList p2.isList eh hu0⟩
  ·rcases DE h h' with⟨xs,ys,rfl,rfl⟩|nt
   ·obtain⟨rfl,p,vs,rfl,h3,r1⟩:=yy ha e1;obtain⟨rfl,q,ws,rfl,h4,r2⟩:=yy hb e2;have ru:=refs rfl rfl rx ry
    cases(show u=Value.ref p from rx)
    cases(show v=Value.ref q from ry)
    obtain⟨us,q1,p1,_⟩:=I.tuple<|kQ.of h3;obtain⟨ts,q2,p2,_⟩:=I.tuple<|kQ.of h4;have ek:=(uW e).1;have z1:=SeqAt.RcAt.tuples p1 p2 hu0<|u7 items r1 r2 q1 q2 e;have z2:=SeqAt.RcNeAt.tuples p1 p2 hu0<|u7 items r1 r2 q1 q2 e;rw[aP,aP,<- q1.length,<- q2.length,<- r1.length,<- r2.length,<- ek]at z1 z2;exact⟨z1,ru z1,z2⟩
   ·exact QA hu0 (Cp I R ha rx e1) (Cp I R hb ry e2) nt e
end
section
variable {X:Cx}
abbrev uL (neg:Bool)(a b:A)(S:iX):R A:=opt (yx S 12 a b) λk=>.ok (.bl<|if neg then !k else k) S
def A5(hu:X.A.units+64<cLine):lG X (compareOp .Eq) (r2 X<|uL false):=λpins s σ H x y v u Q I rx ry h9=>by
 k_ne;obtain⟨k,e,h⟩:=jb h;exact(Hy I R 12 X.A a b x y v u k (by omega) va vb rx ry e).1 _ _ _ _ ⟨.bl _,H,I,rfl,h _ _ _ .refl R<|.bl _⟩
def Nh(hu:X.A.units+64<cLine):lG X (compareOp .NotEq) (r2 X<|uL true):=λpins s σ H x y v u Q I rx ry h9=>by
 k_ne;obtain⟨k,e,h⟩:=jb h;exact(Hy I R 12 X.A a b x y v u k () va vb rx ry e).2.2 _ _ _ _ ⟨.bl _,H,I,rfl,h _ _ _ .refl R<|.bl _⟩
end
section
variable {X:Cx}{pos:Pos}{a b:aC}
meta abbrev Pt:=ae->iX->R (bi)
abbrev Cr:Pt:=λ_ S=>.ok none S
abbrev Ed (c:Ex):Pt:=λτ S=>(c τ S).bind λa S1=>match a with
 | .int i=>.ok (some i) S1
 | _=>.no
abbrev tO (X:Cx)(c:Pt):TO:=λσ H Q=>∃ρ S τ,Rel X.K ρ H S/\SR X.K ρ H τ σ/\(c τ S).post (λo S'=>∀ρ' H',Ext ρ ρ' H H'->Rel X.K ρ' H' S'->Q o H') (XE X ρ H)
abbrev AO (X:Cx)(e:Option aC)(c:Pt):Prop:=PO X e<|tO X c
def Cb:AO X none Cr:=λpins s σ H Q I ⟨ρ,S,τ,R,r,h⟩=>JU pins s σ H Q I<|h ρ H .refl R
def DS{c:Ex}(ha:AE X a c):AO X (some a) (Ed c):=λpins s σ H Q I ⟨ρ,S,τ,R,r,h⟩=>Ko ha pins s σ H Q I ⟨ρ,S,τ,R,r,iT (iV h) .refl λx S1 h1 ρ1 H1 v e1 R1 v1=>by
 cases v1<;>first|exact h1.elim|exact⟨_,rfl,h1 ρ1 H1 e1 R1⟩⟩
abbrev uF (xs:ae)(lo hi:bi):ae:=(xs.drop<|HT.lH xs.length 0 lo).take<|HT.lH xs.length xs.length hi-HT.lH xs.length 0 lo
def AVs.cut{K:au}{H:Hp}(r:AVs K ρ H xs vs)(lo hi:bi):AVs K ρ H (uF xs lo hi) (zJ vs lo hi):=by
 unfold uF zJ;rw[r.length];exact(r.drop _).take _
abbrev Qj (a:A)(lo hi:bi)(S:iX):R A:=match a with
 | .ref n=>opt (iR S n) λxs=>.ok (.ref S.length) (S++[.lst<|uF xs lo hi])
 | .frz xs=>.ok (.ref S.length) (S++[.lst<|uF xs lo hi])
 | .tup xs=>gd (¬(HT.lH xs.length 0 lo=0/\HT.lH xs.length xs.length hi=xs.length)) (.ok (.tup<|uF xs lo hi) S)
 | _=>.no
abbrev QZ (c:Ex)(lo hi:Pt):Ex:=λτ S=>(c τ S).bind λa S1=>(lo τ S1).bind λl S2=>(hi τ S2).bind λu S3=>Qj a l u S3
abbrev rS (X:Cx):V->bi->bi->Hp->VK->Prop:=λx lo hi H Q=>∃ρ S a,Rel X.K ρ H S/\AV X.K ρ H a x/\(Qj a lo hi S).post (wC X ρ H Q) (XE X ρ H)
def Nd:QF X (rS X):=λpins s σ H x v vl vu lo hi sl Q I rx hs pl pu h9=>by
 obtain⟨ρ,S,a,R,va,h⟩:=h9
 cases va with
 | @tup p xs vs h1 r1=>
  obtain⟨hc,h⟩:=jl h;exact MG pins s σ H _ v vl vu lo hi sl Q I rx hs pl pu ⟨p,vs,rfl,(kQ.of h1),by rw[<- r1.length];exact hc,oO R (r1.cut lo hi) .refl h⟩
 | @frz p xs vs h1 r1=>exact DK pins s σ H _ v vl vu lo hi sl Q I rx hs pl pu ⟨p,vs,rfl,h1.JC,lq R (r1.cut lo hi) .refl h⟩
 | @ref p n hp=>
  kcf_m;obtain⟨vs,h1,r1⟩:=R.lst hp<|ja hn;exact DK pins s σ H _ v vl vu lo hi sl Q I rx hs pl pu ⟨p,vs,rfl,lE.of h1,lq R (r1.cut lo hi) .refl h⟩
 | _=>exact h.elim
def LQ{lo:Option aC}{c:Ex}{cl ch:Pt}(he:AE X e c)(hl:AO X lo cl)(hh:AO X hi ch):AE X (.Subscript e (.Slice lo hi none p2) pos) (QZ c cl ch):=PE.imp (Fl Nd he hl hh) λσ H Q h9=>by
 z_go;refine⟨ρ,S,τ,R,r,iT (iV h) .refl λa S1 h1 ρ1 H1 x e1 R1 v1=>⟨ρ1,S1,τ,R1,r.ext e1,iT (iV h1) e1 λl S2 h2 ρ2 H2 e2 R2=>⟨ρ2,S2,τ,R2,r.ext<|e1.trans e2,iT (iV h2) (e1.trans e2) λu S3 h3 ρ3 H3 e3 R3=>?_⟩⟩⟩;exact⟨ρ3,S3,a,R3,v1.ext<|e2.trans e3,iT h3 (e1.trans<|e2.trans e3) λ_ _ z=>z.ext<|e1.trans<|e2.trans e3⟩
abbrev GU (a:A)(S:iX):R A:=match a with
 | .ref n=>opt (iR S n) λxs=>.ok (.ref S.length) (S++[.lst xs.reverse])
 | .tup xs=>.ok (.tup xs.reverse) S
 | _=>.no
def N8{up cp:Pos}{c:Ex}(he:AE X e c):AE X (.Subscript e (.Slice none none (some<|.UnaryOp .USub (.Constant (.int 1) kk cp) up) p2) pos) (Lq GU c):=λpins s σ H Q I h9=>by
 z_go;have hb:=iV h
 cases hc:c τ S with
 | no=>rw[hc]at hb;exact hb.elim
 | ex x S1=>
  rw[hc]at hb;exact CK he pins s σ H Q I ⟨ρ,S,τ,R,r,by rw[hc];exact hb⟩
 | ok a S1=>
  rw[hc]at hb;have hb:(GU a S1).post (wC X ρ H Q) (XE X ρ H):=hb
  cases a with
  | tup xs=>
   refine CK he pins s σ H Q I ⟨ρ,S,τ,R,r,?_⟩;rw[hc];intro ρ1 H1 x e1 R1 v1
   cases v1 with
   | tup h1 r1=>exact⟨_,_,rfl,(kQ.of h1),oO R1 r1.reverse e1 hb⟩
  | ref n=>
   refine J8 he pins s σ H Q I ⟨ρ,S,τ,R,r,?_⟩;rw[hc];intro ρ1 H1 x e1 R1 v1;obtain⟨xs,hn,h⟩:=jb hb
   cases v1 with
   | ref hp=>
    obtain⟨vs,h1,r1⟩:=R1.lst hp<|ja hn;exact⟨_,_,rfl,lE.of h1,lq R1 r1.reverse e1 h⟩
  | _=>exact hb.elim
abbrev je (f:ae->iX->R A)(d:nX):Ex:=λτ S=>(d τ S).bind λas S1=>f as S1
def ze{f:ae->iX->R A}{d:nX}{H:Hp}{Q:VK}(h:tE X (je f d) σ H Q):Sf (rN X f) (tL X d) σ H Q:=by
 kst_p;exact⟨ρ,S,τ,R,r,iT (iV h) .refl λas S1 h1 ρ1 H1 vs e1 R1 v1=>⟨ρ1,S1,as,R1,v1,iT h1 e1 λ_ _ z=>z.ext e1⟩⟩
variable {x:Str}{p:Pos}{e:aC}{es:List aC}{id T:String}{f:ae->iX->R A}{d:nX}
def jc(hc:jt X (.builtin id)<|rN X f)(hm:X.mg x=none)(hv:bootBuiltins x=some (.builtin id))(ha:AL X (e::es) d)(hg:Gl X x:=by rfl)(hn:x ≠ "__name__" := by decide)(hdb:(x == ("__debug__" : Str))=false:=by decide)
  (he:starEach (e::es) X.env=(false,eval e X.env)::starEach es X.env:=by rfl) (hpl:(backTo pos<|starEach es X.env).any (·.1)=false:=by rfl):AE X (.Call (.Name x p) (e::es) [] pos) (je f d):=
 PE.imp (wz hc hg hm hv ha hn hdb he hpl) λ_ _ _ h=>ze h
def jv(hc:jt X (.type T)<|rN X f)(hm:X.mg x=none)(hv:bootBuiltins x=some (.type T))(ha:AL X (e::es) d)(hg:Gl X x:=by rfl)(hn:x ≠ "__name__" := by decide)(hdb:(x == ("__debug__" : Str))=false:=by decide)
  (he:starEach (e::es) X.env=(false,eval e X.env)::starEach es X.env:=by rfl) (hpl:(backTo pos<|starEach es X.env).any (·.1)=false:=by rfl):AE X (.Call (.Name x p) (e::es) [] pos) (je f d):=
 PE.imp (xw hc hg hm hv ha hn hdb he hpl) λ_ _ _ h=>ze h
def za(hm:X.mg x=none)(hv:bootBuiltins x=some (.type T))(hg:Gl X x:=by rfl)(hn:x ≠ "__name__" := by decide)(hdb:(x == ("__debug__" : Str))=false:=by decide):AE X (.Name x pos) (eC<|.ty T):=
 PE.imp (CO (v:=.ty T) hg hm hv rfl hn hdb) λσ H Q ⟨ρ,S,τ,R,r,h⟩=>h ρ H _ .refl R<|.ty T
abbrev A.seq (S:iX):A->Option (ae)
 | .tup xs=>some xs
 | .frz xs=>some xs
 | .ref n=>iR S n
 | _=>none
def Ja{K:au}{H:Hp}{x:A}(h:AVs K ρ H [x] vs):∃v,vs=[v]/\AV K ρ H x v:=by
 cases h with
 | cons h t=>cases t;exact⟨_,rfl,h⟩
def PU{K:au}{H:Hp}{x:A}(h:AVs K ρ H [x,y] vs):∃v w,vs=[v,w]/\AV K ρ H x v/\AV K ρ H y w:=by
 cases h with
 | cons h t=>obtain⟨w,rfl,h'⟩:=Ja t;exact⟨_,_,rfl,h,h'⟩
abbrev f1 (g:A->iX->R A):ae->iX->R A:=λas S=>match as with
 | [x]=>g x S
 | _=>.no
abbrev f2 (g:A->A->iX->R A):ae->iX->R A:=λas S=>match as with
 | [x,y]=>g x y S
 | _=>.no
def JW{g:A->iX->R A}{P:A->iX->Prop}{E:Str->iX->Prop}(h:(f1 g as S).post P E):∃x,as=[x]/\(g x S).post P E:=by
 match as,h with
 | [],h=>exact h.elim
 | [x],h=>exact⟨x,rfl,h⟩
 | _::_::_,h=>exact h.elim
def Lh{g:A->A->iX->R A}{P:A->iX->Prop}{E:Str->iX->Prop}(h:(f2 g as S).post P E):∃x y,as=[x,y]/\(g x y S).post P E:=by
 match as,h with
 | [],h=>exact h.elim
 | [_],h=>exact h.elim
 | [x,y],h=>exact⟨x,y,rfl,h⟩
 | _::_::_::_,h=>exact h.elim
def NF{g:A->iX->R A}{H:Hp}{Q:VK}(h:rN X (f1 g) vs H Q):∃v,vs=[v]/\∃ρ S x,Rel X.K ρ H S/\AV X.K ρ H x v/\(g x S).post (wC X ρ H Q) (XE X ρ H):=by
 obtain⟨ρ,S,as,R,v,h⟩:=h;obtain⟨x,rfl,h⟩:=JW h;obtain⟨w,rfl,hv⟩:=Ja v;exact⟨w,rfl,ρ,S,x,R,hv,h⟩
def QN{g:A->A->iX->R A}{H:Hp}{Q:VK}(h:rN X (f2 g) vs H Q):∃v w,vs=[v,w]/\∃ρ S x y,Rel X.K ρ H S/\AV X.K ρ H x v/\AV X.K ρ H y w/\(g x y S).post (wC X ρ H Q) (XE X ρ H):=by
 obtain⟨ρ,S,as,R,v,h⟩:=h;obtain⟨x,y,rfl,h⟩:=Lh h;obtain⟨w,w',rfl,hv,hv'⟩:=PU v;exact⟨w,w',rfl,ρ,S,x,y,R,hv,hv',h⟩
abbrev kq (x:A)(S:iX):R A:=match x with
 | .str x=>gd (x.length<=sizeLine) (.ok (.int x.length) S)
 | .tup xs=>.ok (.int xs.length) S
 | .frz xs=>.ok (.int xs.length) S
 | .ref n=>opt (iR S n) λxs=>.ok (.int xs.length) S
 | _=>.no
def j5:jt X (.builtin "len") (rN X<|f1 kq):=jt.imp IB λvs H Q h0=>by
 kpf_c;clear h0
 cases hv with
 | str z=>
  obtain⟨hz,h⟩:=jl h;exact⟨_,_,rfl,⟨hz,rfl⟩,h _ _ _ .refl R<|.int _⟩
 | @tup p xs us h1 r=>exact⟨_,us.length,rfl,.inr ⟨us,(kQ.of h1),rfl⟩,by rw[<- r.length];exact h _ _ _ .refl R<|.int _⟩
 | @frz p xs us h1 r=>exact⟨_,us.length,rfl,.inl ⟨us,h1.JC,rfl⟩,by rw[<- r.length];exact h _ _ _ .refl R<|.int _⟩
 | ref hp=>
  kcf_m;obtain⟨us,h1,r⟩:=R.lst hp<|ja hn;exact⟨_,us.length,rfl,.inl ⟨us,lE.of h1,rfl⟩,by rw[<- r.length];exact h _ _ _ .refl R<|.int _⟩
 | _=>exact h.elim
abbrev Nl (x:A)(S:iX):R A:=match x with
 | .int i=>.ok (.int<|if i<0 then -i else i) S
 | _=>.no
def Pb:jt X (.builtin "abs") (rN X<|f1 Nl):=jt.imp Gy λvs H Q h0=>by
 kpf_c;clear h0
 cases hv<;>first|exact h.elim|exact⟨_,rfl,h _ _ _ .refl R<|.int _⟩
abbrev B3 (x y:A)(S:iX):R A:=match x,y with
 | .int i,.int j=>.ok (.int<|if j>i then j else i) S
 | _,_=>.no
def Gv(hc:X.calm=true):jt X (.builtin "max") (rN X<|f2 B3):=jt.imp (EN hc) λvs H Q h0=>by
 obtain⟨w,w',rfl,ρ,S,x,y,R,hv,hv',h⟩:=QN h0;clear h0
 cases hv<;>first|exact h.elim|(cases hv'<;>first|exact h.elim|exact⟨_,_,rfl,h _ _ _ .refl R<|.int _⟩)
abbrev DN (x y:A)(S:iX):R A:=match x,y with
 | .int i,.int j=>.ok (.int<|if j<i then j else i) S
 | _,_=>.no
def Jw(hc:X.calm=true):jt X (.builtin "min") (rN X<|f2 DN):=jt.imp (EJ hc) λvs H Q h0=>by
 obtain⟨w,w',rfl,ρ,S,x,y,R,hv,hv',h⟩:=QN h0;clear h0
 cases hv<;>first|exact h.elim|(cases hv'<;>first|exact h.elim|exact⟨_,_,rfl,h _ _ _ .refl R<|.int _⟩)
abbrev vH (x:A)(S:iX):R A:=match x with
 | .int i=>.ok (.int i) S
 | .bl k=>.ok (.int<|if k then 1 else 0) S
 | .str y=>opt (PySem.intText? y) λn=>gd (y.length<=640) (.ok (.int n) S)
 | _=>.no
def BD:jt X (.type "int") (rN X<|f1 vH):=λpins s σ H xs us Q I rv h0=>by
 kpf_c;clear h0
 cases hv with
 | int i=>exact wZ pins s σ H _ us Q I rv (.inl ⟨i,rfl,h _ _ _ .refl R<|.int _⟩)
 | bl k=>exact wZ pins s σ H _ us Q I rv (.inr ⟨k,rfl,h _ _ _ .refl R<|.int _⟩)
 | str y=>
  obtain⟨n,hn,h⟩:=jb h;obtain⟨hl,h⟩:=jl h;exact EA pins s σ H _ us Q I rv ⟨y,n,rfl,hl,hn,h _ _ _ .refl R<|.int _⟩
 | _=>exact h.elim
abbrev qz (x y:A)(S:iX):R A:=match x,y with
 | .int i,.int j=>.ok (.rng i j) S
 | _,_=>.no
def sC:jt X (.type "range") (rN X<|f2 qz):=jt.imp yf λvs H Q h0=>by
 obtain⟨w,w',rfl,ρ,S,x,y,R,hv,hv',h⟩:=QN h0;clear h0
 cases hv with
 | int i=>
  cases hv' with
  | int j=>
   refine⟨i,j,rfl,λp hp=>?_⟩;obtain⟨ex,R'⟩:=R.im (u:=.rng i j) hp;exact h ρ _ _ ex R'<|.rng jx
  | _=>exact h.elim
 | _=>exact h.elim
abbrev vY (i j:Int):Prop:=(-(2 ^ 62)<=i/\i<2 ^ 62/\-(2 ^ 62)<=j/\j<2 ^ 62)/\(j-i).toNat<=1000
instance (i j:Int):Decidable (vY i j):=by unfold vY;infer_instance
abbrev qo (x:A)(S:iX):R A:=match x with
 | .rng i j=>gd (vY i j) (.ok (.ref S.length)<|S++[.lst<|(i9 i j).map .int])
 | .tup xs=>.ok (.ref S.length) (S++[.lst xs])
 | .frz xs=>.ok (.ref S.length) (S++[.lst xs])
 | .ref n=>opt (iR S n) λxs=>.ok (.ref S.length) (S++[.lst xs])
 | _=>.no
def tF(hc:X.calm=true):jt X (.type "list") (rN X<|f1 qo):=λpins s σ H vs us Q I rx h0=>by
 kpf_c;clear h0
 cases hv with
 | @rng p i j hp=>
  obtain⟨hc',h⟩:=jl h;exact wV hc pins s σ H _ us Q I rx ⟨p,i,j,rfl,hp,hc'.1,hc'.2,lq R (rY _) .refl h⟩
 | @tup p xs vs h1 r=>exact oW pins s σ H _ us Q I rx ⟨p,vs,rfl,.inr<|kQ.of h1,lq R r .refl h⟩
 | @frz p xs vs h1 r=>exact oW pins s σ H _ us Q I rx ⟨p,vs,rfl,.inl h1.JC,lq R r .refl h⟩
 | @ref p n hp=>
  kcf_m;obtain⟨vs,h1,r⟩:=R.lst hp<|ja hn;exact oW pins s σ H _ us Q I rx ⟨p,vs,rfl,.inl<|lE.of h1,lq R r .refl h⟩
 | _=>exact h.elim
abbrev lY (x:A)(S:iX):R A:=match x with
 | .rng i j=>gd (vY i j) (.ok (.tup<|(i9 i j).map .int) S)
 | .tup xs=>.ok (.tup xs) S
 | .frz xs=>.ok (.tup xs) S
 | .ref n=>opt (iR S n) λxs=>.ok (.tup xs) S
 | _=>.no
def oH(hc:X.calm=true):jt X (.type "tuple") (rN X<|f1 lY):=λpins s σ H vs us Q I rx h0=>by
 kpf_c;clear h0
 cases hv with
 | @rng p i j hp=>
  obtain⟨hc',h⟩:=jl h;exact vU hc pins s σ H _ us Q I rx ⟨p,i,j,rfl,hp,hc'.1,hc'.2,oO R (rY _) .refl h⟩
 | @tup p xs vs h1 r=>exact nK pins s σ H _ us Q I rx ⟨p,vs,rfl,.inr ⟨(kQ.of h1),h _ _ _ .refl R<|.tup h1 r⟩⟩
 | @frz p xs vs h1 r=>exact nK pins s σ H _ us Q I rx ⟨p,vs,rfl,.inl ⟨h1.JC,oO R r .refl h⟩⟩
 | @ref p n hp=>
  kcf_m;obtain⟨vs,h1,r⟩:=R.lst hp<|ja hn;exact nK pins s σ H _ us Q I rx ⟨p,vs,rfl,.inl ⟨lE.of h1,oO R r .refl h⟩⟩
 | _=>exact h.elim
abbrev A.Ey:ae->Option (List Bool)
 | []=>some []
 | .bl b::xs=>(A.Ey xs).map (b::·)
 | _=>none
theorem By{K:au}{H:Hp}:∀{xs:ae}{vs:List V}{bs:List Bool},AVs K ρ H xs vs->A.Ey xs=some bs->vs=bs.map V.bl
 | _,_,_,.nil,e=>by cases e;rfl
 | x::xs,_,bs,.cons h t,e=>by
  cases x with
  | bl b=>
   obtain⟨cs,e1,rfl⟩:=bu.mp (show(A.Ey xs).map (b::·)=some bs from e)
   cases h
   rw[By t e1];rfl
  | _=>cases e
abbrev KZ (x:A)(S:iX):R A:=match x with
 | .ref n=>opt (iR S n) λxs=>opt (A.Ey xs) λbs=>.ok (.bl<|bs.all λb=>b) S
 | _=>.no
def Px(hc:X.calm=true):jt X (.builtin "all") (rN X<|f1 KZ):=jt.imp (Eo hc) λvs H Q h0=>by
 kpf_c;clear h0
 cases hv with
 | @ref p n hp=>
  kcf_m;obtain⟨bs,hb,h⟩:=jb h;obtain⟨vs,h1,r⟩:=R.lst hp<|ja hn;rw[By r hb]at h1;exact⟨p,bs,rfl,lE.of h1,h _ _ _ .refl R<|.bl _⟩
 | _=>exact h.elim
abbrev Nn (x:A)(S:iX):R A:=match x with
 | .ref n=>opt (iR S n) λxs=>opt (A.Ey xs) λbs=>.ok (.bl<|bs.any λb=>b) S
 | _=>.no
abbrev insI (x:Int):ag->ag
 | []=>[x]
 | y::ys=>if x<=y then x::y::ys else y::insI x ys
abbrev sortI:ag->ag
 | []=>[]
 | x::xs=>insI x<|sortI xs
theorem insI_perm(x:Int):∀ys:ag,(insI x ys).Perm (x::ys)
 | []=>fZ _
 | y::ys=>by
  unfold insI;by_cases h:x<=y
  ·rw[aM h]
  ·rw[aL h];exact((insI_perm x ys).cons y).trans (List.Perm.swap x y ys)
theorem sortI_perm:∀xs:ag,(sortI xs).Perm xs
 | []=>fZ _
 | x::xs=>(insI_perm x<|sortI xs).trans<|(sortI_perm xs).cons x
theorem D8(x:Int):∀ys:ag,ys.Pairwise (·<=·)->(insI x ys).Pairwise (·<=·)
 | [],_=>fL _ _
 | y::ys,h=>by
  unfold insI;obtain⟨h1,h2⟩:=cL.mp h;by_cases hx:x<=y
  ·rw[aM hx];exact cL.mpr ⟨λz hz=>(bB.mp hz).elim (λe=>e ▸ hx) λhz=>Int.le_trans hx<|h1 z hz,h⟩
  ·rw[aL hx];refine cL.mpr ⟨λz hz=>?_,D8 x ys h2⟩
   rcases bB.mp ((insI_perm x ys).mem_iff.mp hz)with e|hz
   ·subst e;lia
   ·exact h1 z hz
theorem vR:∀xs:ag,(sortI xs).Pairwise (·<=·)
 | []=>List.Pairwise.nil
 | x::xs=>D8 x _<|vR xs
abbrev A.kd:A->iX->Option Kd
 | .non,_=>some .non
 | .bl _,_=>some .bl
 | .int _,_=>some .int
 | .str _,_=>some .str
 | .tup _,_=>some .tup
 | .ref n,S=>(iR S n).map λ_=>.lst
 | _,_=>none
def J7{K:au}(k:Kd):PySem.W.kitOne K k.ty (.type "str")=some (decide<|k=.str):=by cases k<;>rfl
abbrev xW (k:Kd)(c:String):bj:=if c = "int" then some (decide<|k=.int\/k=.bl)else if c = "bool" then some (decide<|k=.bl)else if c = "tuple" then some (decide<|k=.tup)else if c = "list" then some (decide<|k=.lst)else if c = "str" then some (decide<|k=.str)else none
def CQ{K:au}{k:Kd}{b:Bool}(h:xW k c=some b):PySem.W.kitOne K k.ty (.type c)=some b:=by
 unfold xW at h;split at h
 ·rename_i e;subst e;rw[<- h];exact Kr k
 ·split at h
  ·rename_i e;subst e;rw[<- h];exact FD k
  ·split at h
   ·rename_i e;subst e;rw[<- h];exact kit_tuple k
   ·split at h
    ·rename_i e;subst e;rw[<- h];exact Ff k
    ·split at h
     ·rename_i e;subst e;rw[<- h];exact J7 k
     ·cases h
abbrev BR (x y:A)(S:iX):R A:=match y with
 | .ty c=>opt (x.kd S) λk=>opt (xW k c) λb=>.ok (.bl b) S
 | _=>.no
def Pa{K:au}{H:Hp}{x:A}{v:V}{k:Kd}(R:Rel K ρ H S)(h:AV K ρ H x v)(e:x.kd S=some k):(∃p vs,v=.ref p/\kQ K H p vs/\k=.tup)\/M_ H v k:=by
 cases h with
 | non=>cases e;exact .inr rfl
 | bl b=>cases e;exact .inr ⟨b,rfl⟩
 | int i=>cases e;exact .inr ⟨i,rfl⟩
 | str i=>cases e;exact .inr ⟨i,rfl⟩
 | tup h r=>cases e;exact .inl ⟨_,_,rfl,(kQ.of h),rfl⟩
 | ref h=>
  obtain⟨xs,e1,e2⟩:=bu.mp e;obtain⟨vs,h1,_⟩:=R.lst h (ja e1)
  cases e2
  exact .inr ⟨_,vs,rfl,h1⟩
 | _=>cases e
def Ax:jt X (.builtin "isinstance") (rN X<|f2 BR):=λpins s σ H vs us Q I rx h0=>by
 obtain⟨w,w',rfl,ρ,S,x,y,R,hv,hv',h⟩:=QN h0;clear h0
 cases hv' with
 | ty c=>
  obtain⟨k,hk,h⟩:=jb h;obtain⟨b,hb,hq⟩:=jb h;have hq:wC X ρ H Q (.bl b) S:=hq;clear h
  rcases Pa R hv hk with⟨p,vs,rfl,ht,rfl⟩|hd
  ·obtain⟨u1,u2,rfl,r1,r2⟩:=vals2 rx;obtain⟨its,q,⟨o,h1,h2,_⟩,_⟩:=I.tuple ht
   cases(show _=Value.ref p from r1)
   cases(show _=Value.type c from r2)
   exact cg PySem.W.kitx_tuple I.wD ⟨o,h1,h2⟩ (CQ hb) (λz=>nomatch z) λtk=>⟨.bl b,H,I.tok _,rfl,hq _ _ _ .refl R<|.bl _⟩
  ·exact zf (c:=c) pins s σ H _ us Q I rx ⟨w,_,b,rfl,hd.Ru,CQ hb,hq _ _ _ .refl R<|.bl _⟩
 | _=>exact h.elim
end
theorem SO:∀(N:Nat) (l:am),l.Nodup->(∀x∈l,x<N)->l.length<=N
 | 0,l,_,h=>by
  cases l with
  | nil=>exact aN _
  | cons a l=>exact absurd (h a<|aR ..)<|fC _
 | N+1,l,nd,h=>by
  have h1:=SO N (l.erase N) (nd.erase N) λx hx=>by
   have:=h x<|List.mem_of_mem_erase hx;have:x≠N:=λz=>by
    subst z;exact(List.Nodup.not_mem_erase nd) hx
   lia
  have:=List.le_length_erase (l:=l) (a:=N)
  lia
def Bq{N:Nat}{g:Nat->Nat}(h:∀i,i<N->g i<N)(inj:∀i j,i<j->j<N->g i≠g j):((List.range N).map g).Perm (List.range N):=by
 have nd:((List.range N).map g).Nodup:=by
  unfold List.Nodup;rw[cN];intro i j hi hj hij;rw[aK,bW]at hi hj;rw[c_,c_,fH,fH];exact inj i j hij hj
 have lt:∀x∈(List.range N).map g,x<N:=λx hx=>by
  obtain⟨i,hi,rfl⟩:=eF.mp hx;exact h i<|cX.mp hi
 refine(List.perm_ext_iff_of_nodup nd List.nodup_range).mpr λa=>⟨λha=>cX.mpr<|lt a ha,λha=>?_⟩;refine Classical.byContradiction λhn=>?_;have:=SO N (a::(List.range N).map g) (dB.mpr ⟨hn,nd⟩) λx hx=>by
  rcases bB.mp hx with rfl|hx
  ·exact cX.mp ha
  ·exact lt x hx
 rw[bq,aK,bW]at this
 lia
def range_getD{α:Type}(l:List α)(d:α):(List.range l.length).map (λi=>l.getD i d)=l:=by
 apply cH;intro i;rw[a_];by_cases c:i<l.length
 ·rw[dH c];show some (l.getD i d)=_;rw[aO,aG c];rfl
 ·rw[bG<|by rw[bW];lia,bG ()];rfl
theorem HW{K:au}{H:Hp}{α:Type}{f:α->A}{h:α->V}:∀{l:List α},(∀a∈l,AV K ρ H (f a)<|h a)->AVs K ρ H (l.map f) (l.map h)
 | [],_=>.nil
 | a::l,e=>.cons (e a<|aR ..)<|HW λb hb=>e b<|aT _ hb
abbrev RS.post (r:RS)(N:ae->iX->Prop)(T:A->iX->Prop)(B C:ae->iX->Prop)(E:Str->iX->Prop):Prop:=match r with
 | .nx τ S=>N τ S
 | .rt a S=>T a S
 | .bk τ S=>B τ S
 | .ct τ S=>C τ S
 | .ex c S=>E c S
 | .no=>False
abbrev RS.of {α:Type}(r:R α)(f:α->iX->RS):RS:=match r with
 | .ok a S=>f a S
 | .ex c S=>.ex c S
 | .no=>.no
def of_post{α:Type}{r:R α}{f:α->iX->RS}{N B C:ae->iX->Prop}{T:A->iX->Prop}{E:Str->iX->Prop}(h:(RS.of r f).post N T B C E):r.post (λa S=>(f a S).post N T B C E) E:=by
 cases r<;>exact h
def RS.mono{r:RS}{N B C N' B' C':ae->iX->Prop}{T T':A->iX->Prop}{E E':Str->iX->Prop}(h:r.post N T B C E)(hn:∀τ S,N τ S->N' τ S)(ht:∀a S,T a S->T' a S)(hb:∀τ S,B τ S->B' τ S)(hc:∀τ S,C τ S->C' τ S)(he:∀c S,E c S->E' c S):r.post N' T' B' C' E':=by
 cases r with
 | nx τ S=>exact hn _ _ h
 | rt a S=>exact ht _ _ h
 | bk τ S=>exact hb _ _ h
 | ct τ S=>exact hc _ _ h
 | ex c S=>exact he _ _ h
 | no=>exact h.elim
abbrev GB (X:Cx)(ρ:bb)(H:Hp)(N:L2.St->Hp->Prop):ae->iX->Prop:=λτ' S'=>∀ρ' H' σ',Ext ρ ρ' H H'->Rel X.K ρ' H' S'->SR X.K ρ' H' τ' σ'->N σ' H'
def GB.ext{H H':Hp}{N:L2.St->Hp->Prop}(h:GB X ρ H N τ S)(e:Ext ρ ρ' H H'):GB X ρ' H' N τ S:=λρ2 H2 σ2 e2=>h ρ2 H2 σ2<|e.trans e2
abbrev ve (X:Cx)(ρ:bb)(H:Hp)(D:Ends)(r:RS):Prop:=r.post (GB X ρ H D.nx) (wC X ρ H D.rt) (GB X ρ H D.bk) (GB X ρ H D.ct)<|XE X ρ H
def ve.ext{H H':Hp}{r:RS}(h:ve X ρ H D r)(e:Ext ρ ρ' H H'):ve X ρ' H' D r:=RS.mono h (λ_ _ z=>z.ext e) (λ_ _ z=>z.ext e) (λ_ _ z=>z.ext e) (λ_ _ z=>z.ext e) λ_ _ z=>z.ext e
abbrev tS (X:Cx)(c:Sm):TS:=λD σ H=>∃ρ S τ,Rel X.K ρ H S/\SR X.K ρ H τ σ/\ve X ρ H D (c τ S)
abbrev AS (X:Cx)(st:aE)(c:Sm):Prop:=PS X st<|tS X c
abbrev Fd (X:Cx)(sts:List aE)(c:Sm):Prop:=xM X sts<|tS X c
abbrev tG (X:Cx)(g:Tg):TG:=λv σ H Q=>∃ρ S τ a,Rel X.K ρ H S/\SR X.K ρ H τ σ/\AV X.K ρ H a v/\(g a τ S).post (GB X ρ H Q) (XE X ρ H)
abbrev AG (X:Cx)(e:aC)(g:Tg):Prop:=PG X e<|tG X g
meta abbrev JE:=ae->ae->iX->R (ae)
abbrev SX (X:Cx)(g:JE):LN:=λvs σ H Q=>∃ρ S τ as,Rel X.K ρ H S/\SR X.K ρ H τ σ/\AVs X.K ρ H as vs/\(g as τ S).post (GB X ρ H Q) (XE X ρ H)
abbrev QS (X:Cx)(es:List aC)(g:JE):Prop:=Qa X es<|SX X g
section
variable {X:Cx}{pos:Pos}{a b e:aC}{st:aE}{rest:List aE}{c d:Sm}
def PS.imp{t t':TS}(h:PS X st t)(i:∀D σ H,t' D σ H->t D σ H):PS X st t':=λpins s σ H D I q=>h pins s σ H D I<|i D σ H q
def xM.imp{t t':TS}(h:xM X rest t)(i:∀D σ H,t' D σ H->t D σ H):xM X rest t':=λpins s σ H D I q=>h pins s σ H D I<|i D σ H q
def PG.imp{t t':TG}(h:PG X e t)(i:∀v σ H Q,t' v σ H Q->t v σ H Q):PG X e t':=λpins s σ H v u Q I r q=>h pins s σ H v u Q I r<|i _ _ _ _ q
abbrev jV (i:Nat):Tg:=λa τ S=>.ok (τ.set i a) S
def jD{i:Nat}{x:Str}(hN:X.N.Nodup)(hi:X.N[i]?=some x:=by rfl)(hx:Loc X.env.scope x:=by first|exact Or.inl rfl|exact Or.inr rfl)(hf:X.fn x=true\/X.env.scope.names.lookup x=some .local:=by first|exact .inl rfl|exact .inr rfl|assumption):AG X (.Name x pos) (jV i):=
 PG.imp (Ef hN hi hx hf) λv σ H Q ⟨ρ,S,τ,a,R,r,va,h⟩=>h ρ H _ .refl R<|r.set va
abbrev Je:JE:=λas τ S=>match as with
 | []=>.ok τ S
 | _=>.no
abbrev xg (g:Tg)(gs:JE):JE:=λas τ S=>match as with
 | a::as=>(g a τ S).bind λτ1 S1=>gs as τ1 S1
 | []=>.no
def m8:QS X [] Je:=λpins s σ H vs us Q I r ⟨ρ,S,τ,as,R,sr,va,h⟩=>Kf pins s σ H vs us Q I r (by
 cases va with
 | nil=>exact⟨rfl,h ρ H σ .refl R sr⟩
 | cons _ _=>exact h.elim)
def jB{g:Tg}{gs:JE}(h1:AG X e g)(h2:QS X es gs)(hs:(assignEach (e::es) X.env).map (·.2)=assign e X.env::(assignEach es X.env).map (·.2):=by rfl):QS X (e::es) (xg g gs):=
 λpins s σ H vs us Q I r ⟨ρ,S,τ,as,R,sr,va,h⟩=>Jm h1 h2 hs pins s σ H vs us Q I r (by
  cases va with
  | nil=>exact h.elim
  | cons ha hr=>exact⟨_,_,rfl,ρ,S,τ,_,R,sr,ha,iT (iV h) .refl λτ1 S1 h1 ρ1 H1 σ1 e1 R1 sr1=>⟨ρ1,S1,τ1,_,R1,sr1,hr.ext e1,iT h1 e1 λ_ _ z=>z.ext e1⟩⟩)
abbrev Hj (n:Nat)(gs:JE):Tg:=λa τ S=>match a with
 | .tup xs | .ktu xs=>gd (xs.length=n) (gs xs τ S)
 | _=>.no
def pC{k n:Nat}{gs:JE}(hc:X.calm=true)(h:QS X es gs)(hn:(assignEach es X.env).length=n:=by rfl)(hst:(assignEach es X.env).findIdx? (·.1)=none:=by rfl):AG X (.Tuple es k pos) (Hj n gs):=
 PG.imp (M7 hc h hn hst) λv σ H Q h9=>by
  obtain⟨ρ,S,τ,a,R,r,va,h⟩:=h9
  cases va with
  | tup h1 r1=>
   obtain⟨hl,h⟩:=jl h;exact⟨_,_,rfl,kQ.of h1,by rw[<- r1.length];exact hl,ρ,S,τ,_,R,r,r1,h⟩
  | ktu h1 r1=>
   obtain⟨hl,h⟩:=jl h;exact⟨_,_,rfl,.inr h1,by rw[<- r1.length];exact hl,ρ,S,τ,_,R,r,r1,h⟩
  | _=>exact h.elim
abbrev zX (o i v:A)(S:iX):R Unit:=match o,i with
 | .ref n,.int k=>opt (iR S n) λxs=>opt (rC xs.length k) λj=>.ok Unit.unit (S.set n<|.lst<|xs.set j v)
 | _,_=>.no
abbrev S9 (X:Cx):Ke:=λo i v H Q=>∃ρ S ao ai av,Rel X.K ρ H S/\AV X.K ρ H ao o/\AV X.K ρ H ai i/\AV X.K ρ H av v/\(zX ao ai av S).post (λ_ S'=>∀ρ' H',Ext ρ ρ' H H'->Rel X.K ρ' H' S'->Q H') (XE X ρ H)
def JQ:N7 X (S9 X):=λpins s σ H o i v ov iv u Q I ro ri rv h9=>by
 obtain⟨ρ,S,ao,ai,av,R,h1,h2,h3,h⟩:=h9
 cases h1 with
 | @ref p n hp=>
  cases h2 with
  | int k=>
   kcf_m;obtain⟨j,hj,h⟩:=jb h;obtain⟨vs,e,r⟩:=R.lst hp<|ja hn;obtain⟨ex,R'⟩:=R.put hp (ja hn)<|r.set h3 j;exact set_list pins s σ H _ _ v ov iv u Q I ro ri rv ⟨p,vs,k,j,rfl,rfl,e,by rw[<- r.length];exact hj,h _ _ ex R'⟩
  | _=>exact h.elim
 | _=>exact h.elim
abbrev yg (co ci:Ex):Tg:=λa τ S=>(co τ S).bind λo S1=>(ci τ S1).bind λi S2=>(zX o i a S2).bind λ_ S3=>.ok τ S3
def kI{co ci:Ex}(ho:AE X o co)(hi:AE X i ci)
  (ha:∀v,assign (.Subscript o i pos) X.env v=(do
   let ov <- holding [v] (eval o X.env)
   let iv <- holding [v,ov] (eval i X.env)
   standAt pos
   holding [v,ov,iv] (setItem ov iv v)
   release [v,ov,iv] []):=by intro _;rfl):AG X (.Subscript o i pos) (yg co ci):=PG.imp (Mz ho hi JQ ha) λv σ H Q h9=>by
 obtain⟨ρ,S,τ,a,R,r,va,h⟩:=h9;refine⟨ρ,S,τ,R,r,iT (iV h) .refl λo S1 h1 ρ1 H1 x e1 R1 v1=>⟨ρ1,S1,τ,R1,r.ext e1,iT (iV h1) e1 λi S2 h2 ρ2 H2 y e2 R2 v2=>?_⟩⟩;refine⟨ρ2,S2,o,i,a,R2,v1.ext e2,v2,va.ext<|e1.trans e2,iT (iV h2) (e1.trans e2) λ_ S3 h3 ρ3 H3 e3 R3=>?_⟩;exact h3 ρ3 H3 σ ((e1.trans e2).trans e3) R3<|r.ext<|(e1.trans e2).trans e3
abbrev nG:Sm:=λτ S=>.nx τ S
abbrev jj (c d:Sm):Sm:=λτ S=>match c τ S with
 | .nx τ' S'=>d τ' S'
 | r=>r
def jH:Fd X [] nG:=xM.imp J1 λD σ H ⟨ρ,S,τ,R,r,h⟩=>h ρ H σ .refl R r
def KC{H:Hp}(h:tS X (jj c d) D σ H):Qx (tS X c) (tS X d) D σ H:=by
 kst_p;refine⟨ρ,S,τ,R,r,?_⟩;unfold jj at h
 cases hc:c τ S with
 | nx τ1 S1=>
  rw[hc]at h;exact λρ1 H1 σ1 e1 R1 r1=>⟨ρ1,S1,τ1,R1,r1,ve.ext h e1⟩
 | rt a S1=>rw[hc]at h;exact h
 | bk τ1 S1=>rw[hc]at h;exact h
 | ct τ1 S1=>rw[hc]at h;exact h
 | ex x S1=>rw[hc]at h;exact h
 | no=>rw[hc]at h;exact h
def iS(h1:AS X st c)(h2:Fd X rest d):Fd X (st::rest) (jj c d):=xM.imp (Gf h1 h2) λD σ H h=>KC h
def i7(h1:AS X st c):Fd X [st] c:=Km h1
abbrev OA:Sm:=λτ S=>.bk τ S
abbrev O6:Sm:=λτ S=>.ct τ S
abbrev qK (e:Ex):Sm:=λτ S=>.of (e τ S) λ_ S1=>.nx τ S1
def ng{f:Ex}(he:AE X e f)(hs:swapsWith e none pos.line X.env=pure false:=by rfl):AS X (.Expr e pos) (qK f):=PS.imp (Ld he hs) λD σ H ⟨ρ,S,τ,R,r,h⟩=>
 ⟨ρ,S,τ,R,r,iT (of_post h) .refl λa S1 h1 ρ1 H1 x e1 R1 v1=>h1 ρ1 H1 σ e1 R1<|r.ext e1⟩
abbrev jO (e:Ex):Sm:=λτ S=>.of (e τ S) λa S1=>.rt a S1
def jm{f:Ex}(he:AE X e f):AS X (.Return (some e) pos) (jO f):=PS.imp (NQ he) λD σ H ⟨ρ,S,τ,R,r,h⟩=>⟨ρ,S,τ,R,r,iT (of_post h) .refl λa S1 h1=>h1⟩
abbrev Qv:Sm:=λτ S=>.rt .non S
abbrev wN (t:Te)(c d:Sm):Sm:=λτ S=>.of (t τ S) λb S1=>match b with|true=>c τ S1|false=>d τ S1
def lJ{t:Te}(ht:AT X e t)(ha:Fd X ca c)(hb:Fd X cb d):AS X (.If e ca cb pos) (wN t c d):=PS.imp (Qt ht ha hb) λD σ H h9=>by
 z_go;refine⟨ρ,S,τ,R,r,iT (of_post h) .refl λb S1 h1 ρ1 H1 e1 R1=>?_⟩
 cases b with
 | true=>rw[aM rfl];exact⟨ρ1,S1,τ,R1,r.ext e1,ve.ext h1 e1⟩
 | false=>rw[aL aX];exact⟨ρ1,S1,τ,R1,r.ext e1,ve.ext h1 e1⟩
abbrev ju (e:Ex)(g:Tg):Sm:=λτ S=>.of (e τ S) λa S1=>.of (g a τ S1) λτ' S2=>.nx τ' S2
def Kx{f:Ex}{g:Tg}{H:Hp}(h:tS X (ju f g) D σ H):KN (tE X f) (tG X g) D σ H:=by
 kst_p;exact⟨ρ,S,τ,R,r,iT (of_post h) .refl λa S1 h1 ρ1 H1 x e1 R1 v1=>⟨ρ1,S1,τ,a,R1,r.ext e1,v1,iT (of_post h1) e1 λτ2 S2 h2=>GB.ext h2 e1⟩⟩
def mJ{tg:aC}{f:Ex}{g:Tg}(he:AE X e f)(hg:AG X tg g)(hs:swapsWithSole [tg] e pos.line X.env=pure false:=by rfl)(hw:swappedStores [tg] e X.env=pure none:=by rfl)
  (h1:(assignEach [tg] X.env).map (·.2)=[assign tg X.env]:=by rfl):AS X (.Assign [tg] e pos) (ju f g):=PS.imp (Oa he hg hs hw h1) λD σ H h=>Kx h
def ji{i:Nat}{x:Str}{f:Ex}(hN:X.N.Nodup)(he:AE X e f)(hi:X.N[i]?=some x:=by rfl)(hx:Loc X.env.scope x:=by first|exact Or.inl rfl|exact Or.inr rfl)(hs:swapsWith e (some<|.Name x pos') pos.line X.env=pure false:=by rfl)(hf:X.fn x=true\/X.env.scope.names.lookup x=some .local:=by first|exact .inl rfl|exact .inr rfl|assumption) :
  AS X (.Assign [.Name x pos'] e pos) (ju f<|jV i):=PS.imp (NN hN hi hx he hs hf) λD σ H ⟨ρ,S,τ,R,r,h⟩=>
 ⟨ρ,S,τ,R,r,iT (of_post h) .refl λa S1 h1 ρ1 H1 x e1 R1 v1=>h1 ρ1 H1 _ e1 R1<|(r.ext e1).set v1⟩
abbrev JT (i j:Nat)(c:nX):Sm:=λτ S=>.of (c τ S) λas S1=>match as with
 | [a,b]=>.nx ((τ.set i a).set j b) S1
 | _=>.no
def Gi{i j:Nat}{x:Str}{f:nX}{kt k2 pt2}(hc:X.calm=true)(hN:X.N.Nodup)(ha:AL X [a,b] f)(hi:X.N[i]?=some x:=by rfl)(hj:X.N[j]?=some y:=by rfl)(hij:i≠j:=by decide)
  (hx:X.env.scope.names.lookup x=some .local:=by rfl) (hy:X.env.scope.names.lookup y=some .local:=by rfl)
  (hw:swappedStores [.Tuple [.Name x px,.Name y py] kt pt] (.Tuple [a,b] k2 pt2) X.env=pure (some [x,y]):=by rfl)
  (hs:swapsWithSole [.Tuple [.Name x px,.Name y py] kt pt] (.Tuple [a,b] k2 pt2) pos.line X.env=pure false:=by rfl) :
  AS X (.Assign [.Tuple [.Name x px,.Name y py] kt pt] (.Tuple [a,b] k2 pt2) pos) (JT i j f):=PS.imp (N1 hc hN hi hj hij hx hy ha hw hs) λD σ H h9=>by
 z_go;refine⟨ρ,S,τ,R,r,iT (of_post h) .refl λas S1 h1 ρ1 H1 vs e1 R1 v1=>?_⟩
 match as,h1,v1 with
 | [],h1,_=>exact h1.elim
 | [_],h1,_=>exact h1.elim
 | _::_::_::_,h1,_=>exact h1.elim
 | [p,q],h1,v1=>
  obtain⟨v,w,rfl,g1,g2⟩:=PU v1;exact⟨v,w,rfl,h1 ρ1 H1 _ e1 R1<|((r.ext e1).set g1).set g2⟩
abbrev ip (X:Cx)(f:A->A->iX->R A):S_:=λx y H Q=>∃ρ S a b,Rel X.K ρ H S/\AV X.K ρ H a x/\AV X.K ρ H b y/\(f a b S).post (wC X ρ H Q) (XE X ρ H)
abbrev Q9 (a b:A)(S:iX):R A:=match a,b with
 | .int i,.int j=>.ok (.int<|i+j) S
 | _,_=>.no
abbrev OZ (i:Nat)(f:A->A->iX->R A)(e:Ex):Sm:=λτ S=>if (τ.getD i .unb).mP then .no else .of (e τ S) λb S1=>.of (f (τ.getD i .unb) b S1) λc S2=>.nx (τ.set i c) S2
abbrev J2 (a b:A)(S:iX):R A:=match a,b with
 | .ref n,.int i=>opt (iR S n) λxs=>gd (0<=i) (opt (xs[i.toNat]?) λx=>.ok x S)
 | _,_=>.no
abbrev Qu (co ci ce:Ex)(f:A->A->iX->R A):Sm:=λτ S=>.of (co τ S) λo S1=>.of (ci τ S1) λi S2=>.of (J2 o i S2) λx S3=>.of (ce τ S3) λy S4=>.of (f x y S4) λz S5=>.of (zX o i z S5) λ_ S6=>.nx τ S6
abbrev kG (t:Te)(c:Sm):Nat->Sm
 | 0=>λ_ _=>.no
 | n+1=>λτ S=>.of (t τ S) λb S1=>match b with
  | false=>.nx τ S1
  | true=>match c τ S1 with
   | .nx τ' S'=>kG t c n τ' S'
   | .ct τ' S'=>kG t c n τ' S'
   | .bk τ' S'=>.nx τ' S'
   | r=>r
def zo(n:Nat){t:Te}(hp:PassesOwn (model X.prog X.w) X.A X.env X.xe)(ht:AT X e t)(hb:Fd X body c):AS X (.While e body [] pos) (kG t c n):=PS.imp (FI hp ht hb) λD σ H h9=>by
 z_go;refine⟨λm σ' H'=>∃ρ' S' τ',Ext ρ ρ' H H'/\Rel X.K ρ' H' S'/\SR X.K ρ' H' τ' σ'/\ve X ρ' H' D (kG t c m τ' S'),⟨n,ρ,S,τ,.refl,R,r,h⟩,?_⟩;rintro m σ1 H1 ⟨ρ1,S1,τ1,e1,R1,r1,h1⟩
 cases m with
 | zero=>exact h1.elim
 | succ m=>
  refine⟨ρ1,S1,τ1,R1,r1,iT (of_post h1) .refl λb S2 h2 ρ2 H2 e2 R2=>?_⟩
  cases b with
  | false=>rw[aL aX];exact h2 ρ2 H2 σ1 e2 R2 (r1.ext e2)
  | true=>
   rw[aM rfl];refine⟨λσ' H'=>∃ρ' S' τ',Ext ρ ρ' H H'/\Rel X.K ρ' H' S'/\SR X.K ρ' H' τ' σ'/\ve X ρ' H' D (kG t c m τ' S'),λσ' H' z=>⟨m,c9 _,z⟩,ρ2,S2,τ1,R2,r1.ext e2,?_⟩;have h2:ve X ρ1 H1 D (match c τ1 S2 with
    | .nx τ' S'=>kG t c m τ' S'
    | .ct τ' S'=>kG t c m τ' S'
    | .bk τ' S'=>.nx τ' S'
    | r=>r):=h2
   cases hc:c τ1 S2 with
   | nx τ3 S3=>rw[hc]at h2;exact λρ3 H3 σ3 e3 R3 r3=>⟨ρ3,S3,τ3,(e1.trans e2).trans e3,R3,r3,ve.ext h2<|e2.trans e3⟩
   | ct τ3 S3=>rw[hc]at h2;exact λρ3 H3 σ3 e3 R3 r3=>⟨ρ3,S3,τ3,(e1.trans e2).trans e3,R3,r3,ve.ext h2<|e2.trans e3⟩
   | bk τ3 S3=>rw[hc]at h2;exact GB.ext h2 e2
   | rt a S3=>rw[hc]at h2;exact wC.ext h2 e2
   | ex x S3=>rw[hc]at h2;exact XE.ext h2 e2
   | no=>rw[hc]at h2;exact h2
end
structure Src where
 k:Nat
 get:Nat->iX->Option A
 fin:iX->Bool
structure JR (K:au)(s:Src)(J:It)(ρ0:bb)(H0:Hp):Prop where
 go:∀(i:Nat) (S:iX) (H:Hp) (ρ:bb) (x:A),Ext0 ρ0 ρ H0 H->Rel K ρ H S->s.get i S=some x->J.go i H/\∀v H',J.yld i H v H'->Ext ρ ρ H H'/\Rel K ρ H' S/\AV K ρ H' x v
 stop:∀(S:iX) (H:Hp) (ρ:bb),Ext0 ρ0 ρ H0 H->Rel K ρ H S->s.fin S=true->J.stop s.k H
meta abbrev Ic:=ae->iX->R Src
abbrev tI (X:Cx)(c:Ic):TI:=λσ H Q=>∃ρ S τ,Rel X.K ρ H S/\SR X.K ρ H τ σ/\(c τ S).post (λs S'=>∀ρ' H' J,Ext ρ ρ' H H'->Rel X.K ρ' H' S'->JR X.K s J ρ' H'->Q J H') (XE X ρ H)
abbrev AI (X:Cx)(tg iter:aC)(c:Ic):Prop:=PI X tg iter<|tI X c
abbrev sR (xs:ae):Src:=⟨xs.length,λi _=>xs[i]?,λ_=>true⟩
abbrev sV (n k:Nat):Src:=⟨k,λi S=>(iR S n).bind (·[i]?),λS=>match iR S n with
 | some ys=>decide (ys.length<=k)
 | none=>false⟩
abbrev pI (lo hi:Int):Src:=⟨(hi-lo).toNat,λi _=>if i<(hi-lo).toNat then some (.int<|lo+i)else none,λ_=>true⟩
abbrev zI (c:Ex):Ic:=λτ S=>(c τ S).bind λa S1=>match a with
 | .tup xs=>.ok (sR xs) S1
 | .frz xs=>.ok (sR xs) S1
 | .ref n=>opt (iR S1 n) λxs=>.ok (sV n xs.length) S1
 | .str x=>gd (x.cps.all (· < 128)=true) (.ok (sR<|x.cps.toList.map λc=>.str ⟨#[c]⟩) S1)
 | _=>.no
section
variable {X:Cx}{pos:Pos}{tg e a b:aC}
def MX{K:au}{H0:Hp}{p:aj}(h:kQ K H0 p vs)(r:AVs K ρ0 H0 xs vs):JR K (sR xs) (RV K p) ρ0 H0 where
 go:=λi S H ρ x e R g=>by
  obtain⟨v,ev,av⟩:=(AVs.kZ e r).get g;have hs:=e.QJ h;refine⟨⟨vs,v,hs,ev⟩,λw H' ⟨e1,y⟩=>?_⟩;subst e1;have:=y vs hs;rw[ev]at this
  cases this
  exact⟨.refl,R,av⟩
 stop:=λS H ρ e R _=>⟨vs,e.QJ h,by rw[<- r.length];exact aN _⟩
def NO{K:au}{H0:Hp}{p:aj}(h:Fz K H0 p vs)(r:AVs K ρ0 H0 xs vs):JR K (sR xs) (QH K p) ρ0 H0 where
 go:=λi S H ρ x e R g=>by
  obtain⟨v,ev,av⟩:=(AVs.kZ e r).get g;have hs:=(e.fz h).JC;refine⟨⟨vs,v,hs,ev⟩,λw H' ⟨e1,y⟩=>?_⟩;subst e1;have:=y vs hs;rw[ev]at this
  cases this
  exact⟨.refl,R,av⟩
 stop:=λS H ρ e R _=>⟨vs,(e.fz h).JC,by rw[<- r.length];exact aN _⟩
def Nx{K:au}{ρ0:bb}{H0:Hp}{p:aj}{n k:Nat}(h:ρ0[n]?=some p):JR K (sV n k) (QH K p) ρ0 H0 where
 go:=λi S H ρ x e R g=>by
  obtain⟨ys,hn,hx⟩:=cJ.mp<|show(iR S n).bind (·[i]?)=some x from g;obtain⟨vs,h1,r⟩:=R.lst (e.get h)<|ja hn;obtain⟨v,ev,av⟩:=r.get hx;refine⟨⟨vs,v,lE.of h1,ev⟩,λw H' ⟨e1,y⟩=>?_⟩;subst e1;have:=y vs<|lE.of h1;rw[ev]at this
  cases this
  exact⟨.refl,R,av⟩
 stop:=λS H ρ e R g=>by
  have g:(match iR S n with
   | some ys=>decide (ys.length<=k)
   | none=>false)=true:=g
  cases hn:iR S n with
  | none=>rw[hn]at g;cases g
  | some ys=>
   rw[hn]at g;obtain⟨vs,h1,r⟩:=R.lst (e.get h)<|ja hn;exact⟨vs,lE.of h1,by rw[<- r.length];exact dz g⟩
def Il{K:au}{H0:Hp}{lo hi:Int}:JR K (pI lo hi) (P4 lo (hi-lo).toNat) ρ0 H0 where
 go:=λi S H ρ x e R g=>by
  have g:(if i<(hi-lo).toNat then some (A.int<|lo+i)else none)=some x:=g;by_cases hi':i<(hi-lo).toNat
  ·rw[aM hi']at g
   cases g
   refine⟨hi',λw H' ⟨e1,y⟩=>?_⟩;subst e1 y;exact⟨.refl,R,.int _⟩
  ·rw[aL hi']at g;cases g
 stop:=λS H ρ e R _=>aN _
def Of{K:au}{H0:Hp}{x:Str}:JR K (sR<|x.cps.toList.map λc=>A.str ⟨#[c]⟩) (RY x) ρ0 H0 where
 go:=λi S H ρ y e R g=>by
  have g:(x.cps.toList.map λc=>A.str ⟨#[c]⟩)[i]?=some y:=g;rw[a_]at g;obtain⟨c,hc,rfl⟩:=bu.mp g;rw[dR]at hc;refine⟨(dQ.mp hc).1,λw H' ⟨e1,c',hc',y'⟩=>?_⟩;rw[hc]at hc'
  cases hc'
  subst e1 y';exact⟨.refl,R,.str _⟩
 stop:=λS H ρ e R _=>by
  show(x.cps.toList.map λc=>A.str ⟨#[c]⟩).length=x.cps.size;rw[aK,bD]
def A9{c:Ex}(he:AE X e c):AI X tg e (zI c):=λpins s σ H Q I h9=>by
 z_go;have hb:=iV h
 cases hc:c τ S with
 | no=>rw[hc]at hb;exact hb.elim
 | ex x S1=>
  rw[hc]at hb;exact Ih he pins s σ H Q I ⟨ρ,S,τ,R,r,by rw[hc];exact hb⟩
 | ok a S1=>
  rw[hc]at hb
  cases a with
  | tup xs=>
   refine Ih he pins s σ H Q I ⟨ρ,S,τ,R,r,?_⟩;rw[hc];intro ρ1 H1 x e1 R1 v1
   cases v1 with
   | tup h1 r1=>exact⟨_,rfl,⟨_,(kQ.of h1)⟩,hb ρ1 H1 _ e1 R1<|MX (kQ.of h1) r1⟩
  | frz xs=>
   refine Ea he pins s σ H Q I ⟨ρ,S,τ,R,r,?_⟩;rw[hc];intro ρ1 H1 x e1 R1 v1
   cases v1 with
   | frz h1 r1=>exact⟨_,rfl,⟨_,h1.JC⟩,hb ρ1 H1 _ e1 R1<|NO h1 r1⟩
  | ref n=>
   obtain⟨xs,hn,hb⟩:=jb hb;refine Ea he pins s σ H Q I ⟨ρ,S,τ,R,r,?_⟩;rw[hc];intro ρ1 H1 x e1 R1 v1
   cases v1 with
   | ref hp=>
    obtain⟨vs,h1,r1⟩:=R1.lst hp<|ja hn;exact⟨_,rfl,⟨_,lE.of h1⟩,hb ρ1 H1 _ e1 R1<|Nx hp⟩
  | str x=>
   obtain⟨ha,hb⟩:=jl hb;refine Nv he pins s σ H Q I ⟨ρ,S,τ,R,r,?_⟩;rw[hc];intro ρ1 H1 v e1 R1 v1
   cases v1 with
   | str=>exact⟨x,rfl,ha,hb ρ1 H1 _ e1 R1 Of⟩
  | _=>exact hb.elim
abbrev bnd (i:Int):Prop:=-(2 ^ 62)<=i/\i<2 ^ 62
instance (i:Int):Decidable (bnd i):=by unfold bnd;infer_instance
abbrev p_ (c:Ex):Ic:=λτ S=>(c τ S).bind λa S1=>match a with
 | .int j=>gd (bnd j) (.ok (pI 0 j) S1)
 | _=>.no
abbrev o4 (c d:Ex):Ic:=λτ S=>(c τ S).bind λa S1=>(d τ S1).bind λb S2=>match a,b with
 | .int i,.int j=>gd (bnd i/\bnd j) (.ok (pI i j) S2)
 | _,_=>.no
def mE{p:Pos}{c:Ex}(hm:X.mg "range" = none)(ha:AE X a c)(hg:Gl X "range" := by rfl)(hs:starEach [a] X.env=[(false,eval a X.env)]:=by rfl):AI X tg (.Call (.Name "range" p) [a] [] pos) (p_ c):=λpins s σ H Q I h9=>by
 z_go;refine E8 hg hm (k_ ha oK hs) hs pins s σ H Q I ⟨ρ,S,τ,R,r,iT (iV h) .refl λx S1 h1 ρ1 H1 v e1 R1 v1=>?_⟩
 cases v1 with
 | int j=>
  obtain⟨hb,h1⟩:=jl h1;exact⟨_,rfl,hb.1,hb.2,by have:=h1 ρ1 H1 _ e1 R1 Il;rwa [Int.sub_zero]at this⟩
 | _=>exact h1.elim
def qv{p:Pos}{c d:Ex}(hm:X.mg "range" = none)(ha:AE X a c)(hb:AE X b d)(hg:Gl X "range" := by rfl)(hs:starEach [a,b] X.env=[(false,eval a X.env),(false,eval b X.env)]:=by rfl)(hs2:starEach [b] X.env=[(false,eval b X.env)]:=by rfl):AI X tg (.Call (.Name "range" p) [a,b] [] pos) (o4 c d):=λpins s σ H Q I h9=>by
 z_go;refine ET hg hm (k_ ha (k_ hb oK hs2)<|by rw[hs,hs2]) hs hs2 pins s σ H Q I ⟨ρ,S,τ,R,r,iT (iV h) .refl λx S1 h1 ρ1 H1 v e1 R1 v1=>⟨ρ1,S1,τ,R1,r.ext e1,iT (iV h1) e1 λy S2 h2 ρ2 H2 w e2 R2 v2=>?_⟩⟩
 cases v1 with
 | int i=>
  cases v2 with
  | int j=>
   obtain⟨hb,h2⟩:=jl h2;exact⟨_,_,rfl,⟨hb.1.1,hb.1.2,hb.2.1,hb.2.2⟩,h2 ρ2 H2 _ (e1.trans e2) R2 Il⟩
  | _=>exact h2.elim
 | _=>exact h2.elim
abbrev zb (xs:ae):Src:=⟨xs.length,λi _=>(xs[i]?).map λx=>.tup [.int i,x],λ_=>true⟩
abbrev KL (c:Ex):Ic:=λτ S=>(c τ S).bind λa S1=>match a with
 | .tup xs=>.ok (zb xs) S1
 | _=>.no
def NU{K:au}{H0:Hp}{p:aj}(h:kQ K H0 p vs)(r:AVs K ρ0 H0 xs vs):JR K (zb xs) (Rp K p) ρ0 H0 where
 go:=λi S H ρ x e R g=>by
  obtain⟨y,hy,rfl⟩:=bu.mp<|show(xs[i]?).map (λx=>A.tup [.int i,x])=some x from g;obtain⟨v,ev,av⟩:=(AVs.kZ e r).get hy;have hs:=e.QJ h;refine⟨⟨vs,v,hs,ev⟩,λw H' q=>?_⟩;obtain⟨pp,hp,rfl,hz⟩:=q;have hz':=hz vs v hs ev;subst hz';obtain⟨ex,R'⟩:=R.im (u:=.tup [.int i,v]) hp;exact⟨ex,R',.tup jx<|.cons (.int _)<|.cons (av.ext ex) .nil⟩
 stop:=λS H ρ e R _=>⟨vs,e.QJ h,by rw[<- r.length];rfl⟩
def Ox{p:Pos}{c:Ex}(hm:X.mg "enumerate" = none)(ha:AE X a c)(hg:Gl X "enumerate" := by rfl)(hs:starEach [a] X.env=[(false,eval a X.env)]:=by rfl):AI X (.Tuple elts x1 tpos) (.Call (.Name "enumerate" p) [a] [] pos) (KL c):=λpins s σ H Q I h9=>by
 z_go;refine Jy hg hm (k_ ha oK hs) hs pins s σ H Q I ⟨ρ,S,τ,R,r,iT (iV h) .refl λx S1 h1 ρ1 H1 v e1 R1 v1=>?_⟩
 cases v1 with
 | tup h2 r2=>exact⟨_,_,rfl,(kQ.of h2),h1 ρ1 H1 _ e1 R1<|NU (kQ.of h2) r2⟩
 | _=>exact h1.elim
abbrev mX (s:Src)(g:Tg)(c:Sm):Nat->Nat->Sm
 | 0,_=>λτ S=>if s.fin S then .nx τ S else .no
 | k+1,i=>λτ S=>match s.get i S with
  | none=>.no
  | some x=>.of (g x τ S) λτ1 S1=>match c τ1 S1 with
   | .nx τ' S'=>mX s g c k (i+1) τ' S'
   | .ct τ' S'=>mX s g c k (i+1) τ' S'
   | .bk τ' S'=>.nx τ' S'
   | r=>r
abbrev mV (src:Ic)(g:Tg)(c:Sm):Sm:=λτ S=>.of (src τ S) λs S1=>mX s g c s.k 0 τ S1
def nW{iter:aC}{src:Ic}{g:Tg}{c:Sm}(hp:PassesOwn (model X.prog X.w) X.A X.env X.xe)(hc:X.calm=true)(hi:AI X tg iter src)(hg:AG X tg g)(hb:Fd X body c)
  (hs:∀x,foldedSetIterable iter X.env x=pure x:=by intro _;rfl):AS X (.For tg iter body [] pos) (mV src g c):=PS.imp (Oj hp hc hi hg hb hs) λD σ H h9=>by
 z_go;refine⟨ρ,S,τ,R,r,iT (of_post h) .refl λs S1 h1 ρ1 H1 J e1 R1 jr=>?_⟩;refine⟨λi m σ' H'=>m+i=s.k/\∃ρ' S' τ',Ext ρ1 ρ' H1 H'/\Rel X.K ρ' H' S'/\SR X.K ρ' H' τ' σ'/\ve X ρ' H' D (mX s g c m i τ' S'),⟨s.k,rfl,ρ1,S1,τ,.refl,R1,r.ext e1,ve.ext h1 e1⟩,?_⟩;rintro i m σ2 H2 ⟨hm,ρ2,S2,τ2,e2,R2,r2,h2⟩
 cases m with
 | zero=>
  left;have h2:ve X ρ2 H2 D (if s.fin S2 then .nx τ2 S2 else .no):=h2
  cases hf:s.fin S2 with
  | false=>rw[hf]at h2;exact h2.elim
  | true=>
   rw[hf]at h2;refine⟨by rw[show i=s.k by lia];exact jr.stop S2 H2 ρ2 e2.toExt0 R2 hf,h2 ρ2 H2 σ2 .refl R2 r2⟩
 | succ m=>
  right;have h2:ve X ρ2 H2 D (match s.get i S2 with
   | none=>.no
   | some x=>.of (g x τ2 S2) λτ1 S1=>match c τ1 S1 with
    | .nx τ' S'=>mX s g c m (i+1) τ' S'
    | .ct τ' S'=>mX s g c m (i+1) τ' S'
    | .bk τ' S'=>.nx τ' S'
    | r=>r):=h2
  cases hx:s.get i S2 with
  | none=>rw[hx]at h2;exact h2.elim
  | some x=>
   rw[hx]at h2;obtain⟨hgo,hy⟩:=jr.go i S2 H2 ρ2 x e2.toExt0 R2 hx;refine⟨hgo,λσ' H'=>m+(i+1)=s.k/\∃ρ' S' τ',Ext ρ1 ρ' H1 H'/\Rel X.K ρ' H' S'/\SR X.K ρ' H' τ' σ'/\ve X ρ' H' D (mX s g c m (i+1) τ' S'),λσ' H' z=>⟨m,c9 _,z⟩,λv H3 y=>?_⟩;obtain⟨e3,R3,v3⟩:=hy v H3 y;refine⟨ρ2,S2,τ2,x,R3,r2.ext e3,v3,iT (of_post h2) e3 λτ4 S4 h4 ρ4 H4 σ4 e4 R4 r4=>⟨ρ4,S4,τ4,R4,r4,?_⟩⟩;have e24:=e3.trans e4
   cases hcc:c τ4 S4 with
   | nx τ5 S5=>rw[hcc]at h4;exact λρ5 H5 σ5 e5 R5 r5=>⟨(),ρ5,S5,τ5,(e2.trans e24).trans e5,R5,r5,ve.ext h4<|e24.trans e5⟩
   | ct τ5 S5=>rw[hcc]at h4;exact λρ5 H5 σ5 e5 R5 r5=>⟨(),ρ5,S5,τ5,(e2.trans e24).trans e5,R5,r5,ve.ext h4<|e24.trans e5⟩
   | bk τ5 S5=>rw[hcc]at h4;exact GB.ext h4 e24
   | rt x5 S5=>rw[hcc]at h4;exact wC.ext h4 e24
   | ex x5 S5=>rw[hcc]at h4;exact XE.ext h4 e24
   | no=>rw[hcc]at h4;exact h4
end
abbrev R.uq {α β:Type}(r:R α)(f:α->iX->R β):R β:=match r with
 | .ok a S=>f a S
 | _=>.no
def rD{α β:Type}{r:R α}{f:α->iX->R β}{b:β}(h:r.uq f=.ok b S2):∃a S,r=.ok a S/\f a S=.ok b S2:=by
 cases r with
 | ok a S=>exact⟨a,S,rfl,h⟩
 | ex _ _=>cases h
 | no=>cases h
def BB{α β:Type}{r:R α}{f:α->iX->R β}{P:β->iX->Prop}{E:Str->iX->Prop}(h:(r.uq f).post P E):∃a S,r=.ok a S/\(f a S).post P E:=by
 cases r with
 | ok a S=>exact⟨a,S,rfl,h⟩
 | ex _ _=>exact h.elim
 | no=>exact h.elim
def M9{α β:Type}{o:Option β}{f:β->R α}{a:α}(h:opt o f=.ok a S):∃b,o=some b/\f b=.ok a S:=by
 cases o with
 | none=>cases h
 | some b=>exact⟨b,rfl,h⟩
abbrev nF (s:Src)(g:Tg)(t:Te)(e:Ex):Nat->Nat->ae->iX->R (ae)
 | 0,_=>λ_ S=>if s.fin S then .ok [] S else .no
 | k+1,i=>λτ S=>opt (s.get i S) λx=>(g x τ S).uq λτ1 S1=>(t τ1 S1).uq λb S2=>match b with
  | true=>(e τ1 S2).uq λy S3=>(nF s g t e k (i+1) τ1 S3).uq λys S4=>.ok (y::ys) S4
  | false=>nF s g t e k (i+1) τ1 S2
abbrev n9 (cap:List<|bo)(τ:ae):ae:=cap.map λo=>match o with
 | some j=>τ.getD j .unb
 | none=>.unb
abbrev pe (cap:List<|bo)(src:Ic)(g:Tg)(t:Te)(e:Ex):Ex:=λτ S=>(src τ S).bind λs S1=>(nF s g t e s.k 0 (n9 cap τ) S1).uq λys S2=>newL ys S2
abbrev Fc:Te:=λ_ S=>.ok true S
def zd{s:Src}{g:Tg}{t:Te}{e:Ex}{k:Nat}{T:Prop}(h:nF s g t e (k+1) i τ S=.ok zs S')
  (q:∀x τ1 S1 b S2,s.get i S=some x->g x τ S=.ok τ1 S1->t τ1 S1=.ok b S2->(b=true->∃y S3 ws,e τ1 S2=.ok y S3/\nF s g t e k (i+1) τ1 S3=.ok ws S'/\zs=y::ws)->(b=false->nF s g t e k (i+1) τ1 S2=.ok zs S')->T):T:=by
 obtain⟨x,hx,h⟩:=M9 h;obtain⟨τ1,S1,h1,h⟩:=rD h;obtain⟨b,S2,h2,h⟩:=rD h;refine q x τ1 S1 b S2 hx h1 h2 (λhb=>?_) λhb=>?_
 ·subst hb;obtain⟨y,S3,h3,h⟩:=rD h;obtain⟨ws,S4,h4,h⟩:=rD h
  cases h
  exact⟨y,S3,ws,h3,h4,rfl⟩
 ·subst hb;exact h
structure Out (ρ1:bb)(H1:Hp)(D:aj)(accV:List V)(ρ:bb)(H:Hp):Prop where
 e0:Ext0 ρ1 ρ H1 H
 fr:∀a u,a≠D->H1 a=some u->a∉ρ1->H a=some u
 nw:∀a∈ρ,a∈ρ1\/H1 a=none
 nD:D∉ρ
 hD:H D=some (.lst accV)
def Out.stay{H1 H3 H7:Hp}(o:Out ρ1 H1 D accV ρ3 H3)(hD1:H1 D=none)(e7:Ext ρ3 ρ7 H3 H7):Out ρ1 H1 D accV ρ7 H7:=by
 refine⟨⟨o.e0.pre.trans e7.pre,λa u i h=>e7.im a u i<|o.e0.im a u i h⟩,λa u na hu nr=>e7.fr a u (o.fr a u na hu nr) λz=>(o.nw a z).elim nr λz=>by(rw[z]at hu;cases hu),λa ha=>?_,λz=>(e7.nw D z).elim o.nD λz=>by(rw[o.hD]at z;cases z),e7.fr D _ o.hD o.nD⟩;by_cases hr:a∈ρ1
 ·exact .inl hr
 ·right
  cases q:H1 a with
  | none=>rfl
  | some u=>
   have aD:a≠D:=jd q hD1
   rcases e7.nw a ha with z|z
   ·exact((o.nw a z).elim hr λz=>by(rw[z]at q;cases q)).elim
   ·rw[o.fr a u aD q hr]at z;cases z
def Out.put{H1 H:Hp}(o:Out ρ1 H1 D accV ρ H)(ex:Ext0 ρ ρ H<|upd H D<|.lst vs):Out ρ1 H1 D vs ρ (upd H D<|.lst vs):=
 ⟨⟨o.e0.pre,λa u i h=>ex.im a u i<|o.e0.im a u i h⟩,λa u na hu nr=>by rw[i6 na];exact o.fr a u na hu nr,o.nw,o.nD,jx⟩
def Out.end{H1 H:Hp}{D:aj}(o:Out ρ1 H1 D accV ρ H)(hD:H1 D=none):Ext ρ1 (ρ++[D]) H1 H:=by
 refine⟨⟨o.e0.pre.trans<|gW _ _,o.e0.im⟩,λa u hu na=>o.fr a u (jd hu hD) hu na,λa ha=>?_⟩
 rcases bC.mp ha with z|z
 ·exact o.nw a z
 ·have:a=D:=by simpa using z
  rw[this];exact .inr hD
abbrev Cq (K:au)(ρ1:bb)(H1:Hp)(D:aj)(ys:ae)(k:Nat)(E:bb->Hp->Prop)(P:Nat->Nat->ae->iX->ae->Prop)(i m:Nat)(σ:L2.St)(H:Hp):Prop:=
 m+i=k/\∃ρ S τ acc zs accV,Out ρ1 H1 D accV ρ H/\E ρ H/\Rel K ρ H S/\SR K ρ H τ σ/\AVs K ρ H acc accV/\P m i τ S zs/\acc++zs=ys
section
variable {K:au}{ρ1 ρ:bb}{H1 H:Hp}{D:aj}{ys acc zs:ae}{accV:List V}{k i m:Nat}{E:bb->Hp->Prop}{P:Nat->Nat->ae->iX->ae->Prop}{σ:L2.St}{S:iX}{τ:ae}
def Cq.el{T:Prop}(h:Cq K ρ1 H1 D ys k E P i m σ H)(q:∀ρ S τ acc zs accV,m+i=k->Out ρ1 H1 D accV ρ H->E ρ H->Rel K ρ H S->SR K ρ H τ σ->AVs K ρ H acc accV->P m i τ S zs->acc++zs=ys->T):T:=by
 obtain⟨hm,ρ,S,τ,acc,zs,accV,h1,h2,h3,h4,h5,h6,h7⟩:=h;exact q ρ S τ acc zs accV hm h1 h2 h3 h4 h5 h6 h7
def Cq.of(hm:m+i=k)(o:Out ρ1 H1 D accV ρ H)(e:E ρ H)(R:Rel K ρ H S)(r:SR K ρ H τ σ)(v:AVs K ρ H acc accV)(p:P m i τ S zs)(q:acc++zs=ys):Cq K ρ1 H1 D ys k E P i m σ H:=⟨hm,ρ,S,τ,acc,zs,accV,o,e,R,r,v,p,q⟩
end
abbrev QO (K:au)(c:Ex):TE:=λσ H Q=>∃ρ S τ a S',Rel K ρ H S/\SR K ρ H τ σ/\c τ S=.ok a S'/\∀ρ' H' v,Ext ρ ρ' H H'->Rel K ρ' H' S'->AV K ρ' H' a v->Q v H'
abbrev PY (K:au)(c:Te):TT:=λσ H Q=>∃ρ S τ a S',Rel K ρ H S/\SR K ρ H τ σ/\c τ S=.ok a S'/\∀ρ' H',Ext ρ ρ' H H'->Rel K ρ' H' S'->Q a H'
abbrev QX (K:au)(g:Tg):TG:=λv σ H Q=>∃ρ S τ a τ' S',Rel K ρ H S/\SR K ρ H τ σ/\AV K ρ H a v/\g a τ S=.ok τ' S'/\∀ρ' H' σ',Ext ρ ρ' H H'->Rel K ρ' H' S'->SR K ρ' H' τ' σ'->Q σ' H'
section
variable {X:Cx}{pos:Pos}{tg iter elt e:aC}{ifs:List aC}{scope:Scope}{N:ar}{cap:List (bo)}{src:Ic}{g:Tg}{t:Te}{c:Ex}
def AE.e0{K:au}(hK:X.K=K)(h:AE X e c):PE X e (QO K c):=PE.imp h λσ H Q ⟨ρ,S,τ,a,S',R,r,hc,q⟩=>⟨ρ,S,τ,by rw[hK];exact R,by rw[hK];exact r,by rw[hc];exact λρ' H' v e R' v'=>q ρ' H' v e (by rw[<- hK];exact R')<|by rw[<- hK];exact v'⟩
def AT.t0{K:au}(hK:X.K=K)(h:AT X e t):PT X e (PY K t):=PT.imp h λσ H Q ⟨ρ,S,τ,a,S',R,r,hc,q⟩=>⟨ρ,S,τ,by rw[hK];exact R,by rw[hK];exact r,by rw[hc];exact λρ' H' e R'=>q ρ' H' e<|by rw[<- hK];exact R'⟩
def AG.g0{K:au}(hK:X.K=K)(h:AG X e g):PG X e (QX K g):=PG.imp h λv σ H Q ⟨ρ,S,τ,a,τ',S',R,r,va,hc,q⟩=>⟨ρ,S,τ,a,by rw[hK];exact R,by rw[hK];exact r,by rw[hK];exact va,by rw[hc];exact λρ' H' v e R' v'=>q ρ' H' v e (by rw[<- hK];exact R')<|by rw[<- hK];exact v'⟩
abbrev QY (X:Cx)(ifs:List aC)(t:Te):Prop:=Na X ifs<|PY X.K t
def C6:QY X [] Fc:=λpins s σ H Q I ⟨ρ,S,τ,a,S',R,r,hc,q⟩=>Kw pins s σ H Q I<|by cases hc;exact q ρ H .refl R
def yQ(h:AT X e t):QY X [e] t:=KS<|h.t0 rfl
def Pj{K:au}{H:Hp}(r:SR K ρ H τ σ)(cap:List<|bo):SR K ρ H (n9 cap τ) (cap.map<|MN σ):=by
 refine⟨by simp[n9],λi a h=>?_⟩;unfold n9 at h;rw[a_]at h;obtain⟨o,ho,e⟩:=bu.mp h
 cases o with
 | none=>exact .inl e.symm
 | some j=>
  have e:τ.getD j .unb=a:=e
  cases hj:τ[j]? with
  | none=>rw[aO,hj]at e;exact .inl e.symm
  | some b=>
   rw[aO,hj]at e;have e:b=a:=e;subst e
   rcases r.at j b hj with z|⟨v,h1,h2⟩
   ·exact .inl z
   ·exact .inr ⟨v,by rw[a_,ho];show some ((σ[j]?).getD none)=_;rw[h1];rfl,h2⟩
def Rel.OU{K:au}{H:Hp}{p:aj}(R:Rel K ρ H S)(hp:H p=none):p∉ρ:=λhm=>by
 obtain⟨n,hn,e⟩:=List.mem_iff_getElem.mp hm;have hl:n<S.length:=by rw[<- R.len];exact hn
 have:=R.at n p S[n] (by rw[aG hn,e]) (aG hl)
 cases ho:S[n]with
 | lst xs=>rw[ho]at this;obtain⟨vs,h,_⟩:=this;rw[hp]at h;cases h
 | dct _|dki _=>rw[ho]at this;obtain⟨vs,h,_⟩:=this;rw[hp]at h;cases h
 | ins _ _=>rw[ho]at this;obtain⟨_,_,h⟩:=this;rw[hp]at h;cases h
def Au(σ:L2.St)(H:Hp)(Q:VK)(h:tE X (pe cap src g t c) σ H Q):QC cap (tI X src) (QX X.K g) (PY X.K t) (QO X.K c) σ H Q:=by
 kst_p;refine⟨ρ,S,τ,R,r,iT (iV h) .refl λs S1 h1 ρ1 H1 J e1 R1 jr D hD=>?_⟩;obtain⟨ys,S2,hcg,h1⟩:=BB h1;obtain⟨hlen,h1⟩:=jl h1;have h1:wC X ρ H Q (.ref S2.length) (S2++[.lst ys]):=h1;obtain⟨eD,RD⟩:=R1.im (u:=.lst []) hD;refine⟨Cq X.K ρ1 H1 D ys s.k (λ_ _=>True) λm i τ S zs=>nF s g t c m i τ S=.ok zs S2,⟨s.k,.of rfl ⟨eD.toExt0,λa u na hu _=>by rw[i6 na];exact hu,λa ha=>.inl ha,R1.OU hD,jx⟩ trivial RD (Pj ((r.ext e1).ext eD) cap) .nil hcg rfl⟩,?_⟩;intro i m σ3 H3 hw;refine hw.el λρ3 S3 τ3 acc zs accV hm o3 _ R3 r3 ac3 cg3 eys=>?_;clear hw
 cases m with
 | zero=>
  left;have cg3:(if s.fin S3 then Am.R.ok [] S3 else .no)=.ok zs S2:=cg3
  cases hf:s.fin S3 with
  | false=>rw[hf]at cg3;cases cg3
  | true=>
   rw[hf]at cg3
   cases cg3
   rw[b5]at eys;subst eys;refine⟨by rw[show i=s.k by lia];exact jr.stop _ H3 ρ3 o3.e0 R3 hf,?_⟩;obtain⟨RT,gt⟩:=R3.take o3.hD o3.nD ac3;exact h1 (ρ3++[D]) H3 _ (e1.trans<|o3.end hD) RT<|.ref gt
 | succ m=>
  right;refine zd cg3 λx τ4 S4 b S5 hx hg4 ht5 hT hF=>?_;have jg:=jr.go i S3 H3 ρ3 x o3.e0 R3 hx;refine⟨jg.1,λv H4 y=>?_⟩;obtain⟨e4,R4,v4⟩:=jg.2 v H4 y;refine⟨ρ3,S3,τ3,x,τ4,S4,R4,r3.ext e4,v4,hg4,λρ5 H5 σ5 e5 R5 r5=>⟨ρ5,S4,τ4,b,S5,R5,r5,ht5,λρ6 H6 e6 R6=>?_⟩⟩;have e36:=(e4.trans e5).trans e6
  cases b with
  | false=>
   dsimp only;rw[aL aX];exact⟨m,c9 _,.of () (o3.stay hD e36) trivial R6 (r5.ext e6) (ac3.ext e36) (hF rfl) eys⟩
  | true=>
   dsimp only;rw[aM rfl];obtain⟨y,S6,ws,he6,cg6,ezs⟩:=hT rfl;refine⟨ρ6,S5,τ4,y,S6,R6,r5.ext e6,he6,λρ7 H7 w e7 R7 v7=>?_⟩;have o7:=o3.stay hD<|e36.trans e7;obtain⟨ex8,R8⟩:=R7.out (ws:=accV++[w]) o7.hD o7.nD;have l1:=ac3.length;refine⟨accV,o7.hD,?_,m,c9 _,.of () (o7.put ex8) trivial R8 ((r5.ext<|e6.trans e7).kZ ex8) (AVs.kZ ex8<|(ac3.ext<|e36.trans e7).append<|.one v7) cg6 ?_⟩
   ·have:(acc++zs).length<=sizeLine:=by rw[eys];exact hlen
    rw[ezs,aY,bq]at this
    lia
   ·rw[bS,<- eys,ezs];rfl
def uI(hc:X.calm=true)(Sc:CpScope X scope N cap)(hi:AI X tg iter src)(hg:∀C s₀ H₀ ex,AG (lI X scope N C s₀ H₀ ex) tg g)(ht:∀C s₀ H₀ ex,QY (lI X scope N C s₀ H₀ ex) ifs t)(he:∀C s₀ H₀ ex,AE (lI X scope N C s₀ H₀ ex) elt c)
  (hs:∀x,foldedSetIterable iter X.env x=pure x:=by intro _;rfl):AE X (.ListComp elt [⟨tg,iter,ifs,0⟩] scope pos) (pe cap src g t c):=
 PE.imp (Pn hc Sc hi (g:=QX X.K g) (tc:=PY X.K t) (te:=QO X.K c) (λC s₀ H₀ ex=>(hg C s₀ H₀ ex).g0 rfl) (λC s₀ H₀ ex=>ht C s₀ H₀ ex) (λC s₀ H₀ ex=>(he C s₀ H₀ ex).e0 rfl) hs) Au
def JI{i:Nat}{x:Str}{spos:Pos}(hN:X.N.Nodup)(hc:X.calm=true)(Sc:CpScope X scope N cap)(hi:AI X tg iter src)(hg:∀C s₀ H₀ ex,AG (lI X scope N C s₀ H₀ ex) tg g)(ht:∀C s₀ H₀ ex,QY (lI X scope N C s₀ H₀ ex) ifs t)(he:∀C s₀ H₀ ex,AE (lI X scope N C s₀ H₀ ex) elt c)
  (hi':X.N[i]?=some x:=by rfl) (hx:Loc X.env.scope x:=by first|exact Or.inl rfl|exact Or.inr rfl)
  (hsw:swapsWith (.ListComp elt [⟨tg,iter,ifs,0⟩] scope pos) (some<|.Name x pos') spos.line X.env=pure true:=by rfl) (hf:X.fn x=true\/X.env.scope.names.lookup x=some .local:=by first|exact .inl rfl|exact .inr rfl|assumption)
  (hs:∀x,foldedSetIterable iter X.env x=pure x:=by intro _;rfl):AS X (.Assign [.Name x pos'] (.ListComp elt [⟨tg,iter,ifs,0⟩] scope pos) spos) (ju (pe cap src g t c)<|jV i):=
 PS.imp (Jt hN hi' hx hc Sc hi (g:=QX X.K g) (tc:=PY X.K t) (te:=QO X.K c) (λC s₀ H₀ ex=>(hg C s₀ H₀ ex).g0 rfl) (λC s₀ H₀ ex=>ht C s₀ H₀ ex) (λC s₀ H₀ ex=>(he C s₀ H₀ ex).e0 rfl) hsw hf hs) λD σ H ⟨ρ,S,τ,R,r,h⟩=>
  Au σ H _ ⟨ρ,S,τ,R,r,iT (of_post h) .refl λa S1 h1 ρ1 H1 x e1 R1 v1=>h1 ρ1 H1 _ e1 R1<|(r.ext e1).set v1⟩
end
abbrev A.lst? (S:iX):A->Option (ae)
 | .ref n=>iR S n
 | _=>none
abbrev Ln (f:A->ae->iX->R A)(co:Ex)(d:nX):Ex:=λτ S=>(co τ S).bind λo S1=>opt (o.lst? S1) λ_=>(d τ S1).bind λas S2=>f o as S2
abbrev RX (f:A->ae->iX->R A)(co:Ex):Ex:=λτ S=>(co τ S).bind λo S1=>opt (o.lst? S1) λ_=>f o [] S1
abbrev rM (X:Cx)(f:A->ae->iX->R A):V->List V->Hp->VK->Prop:=λx vs H Q=>∃ρ S o as,Rel X.K ρ H S/\AV X.K ρ H o x/\AVs X.K ρ H as vs/\(f o as S).post (wC X ρ H Q) (XE X ρ H)
section
variable {X:Cx}{apos cpos:Pos}{o e:aC}{es:List aC}{name:Str}{id:String}{f:A->ae->iX->R A}{co:Ex}{d:nX}
def lst?_ty{K:au}{H:Hp}{x:A}{v:V}(R:Rel K ρ H S)(h:AV K ρ H x v)(e:x.lst? S=some xs):Rj K "list" v H:=by
 cases h with
 | ref h=>
  obtain⟨vs,h1,_⟩:=R.lst h<|ja e;exact .inl ⟨rfl,vs,lE.of h1⟩
 | _=>cases e
def xD(slot:Slot "list" name id)(hty:typeOf (.builtin id)=pure (.type "method_descriptor"))(hm:OQ X id<|rM X f)(ho:AE X o co)(ha:AL X (e::es) d)
  (hbase:attributeBase o name X.env (eval o X.env)=eval o X.env:=by rfl)
  (hfew:((backTo cpos<|starEach (e::es) X.env).all (λx=>!x.1) && (backToKw cpos<|keywordEach [] X.env).all (λx=>x.1.isSome)
   && decide ((e::es).length+([]:List Keyword).length+(if ([]:List Keyword).isEmpty then 0 else 1)<30))=true:=by rfl)
  (hline:(apos.endLine == cpos.line)=true:=by rfl) (hs:starEach (e::es) X.env=(false,eval e X.env)::starEach es X.env:=by rfl) (hplain:(backTo cpos<|starEach es X.env).any (·.1)=false:=by rfl) :
  AE X (.Call (.Attribute o name apos) (e::es) [] cpos) (Ln f co d):=PE.imp (Pr PySem.F.plainAttrs_list slot hty hm ho ha hbase hfew hline hs hplain) λσ H Q h9=>by
 z_go;refine⟨ρ,S,τ,R,r,iT (iV h) .refl λx S1 h1 ρ1 H1 v e1 R1 v1=>?_⟩;obtain⟨xs,hx,h1⟩:=jb h1;refine⟨lst?_ty R1 v1 hx,ρ1,S1,τ,R1,r.ext e1,iT (iV h1) e1 λas S2 h2 ρ2 H2 vs e2 R2 v2=>?_⟩;exact⟨ρ2,S2,x,as,R2,v1.ext e2,v2,iT h2 (e1.trans e2) λ_ _ z=>z.ext<|e1.trans e2⟩
abbrev oB (o:A)(as:ae)(S:iX):R A:=match o,as with
 | .ref n,[x]=>opt (iR S n) λxs=>gd (xs.length<sizeLine) (.ok .non<|S.set n<|.lst<|xs++[x])
 | _,_=>.no
def pK:OQ X "list.append" (rM X oB):=λpins s σ H x vs v us Q I rx rv h9=>by
 obtain⟨ρ,S,o,as,R,vo,va,h⟩:=h9
 cases vo with
 | @ref p n hp=>
  match as,va,h with
  | [],_,h=>exact h.elim
  | _::_::_,_,h=>exact h.elim
  | [y],va,h=>
   obtain⟨w,rfl,hw⟩:=Ja va;kcf_m;obtain⟨hl,h⟩:=jl h;obtain⟨ws,h1,r⟩:=R.lst hp<|ja hn;obtain⟨ex,R'⟩:=R.put hp (ja hn)<|r.append<|.one hw;exact xm pins s σ H _ _ v us Q I rx rv ⟨p,ws,w,rfl,rfl,h1,by rw[<- r.length];exact hl,h _ _ _ ex R' .non⟩
 | _=>exact h.elim
end
abbrev kL (N:ar)(m:Sm)(as:ae)(S:iX):R A:=match m (as++List.replicate (N.length-as.length) .unb) S with
 | .rt a S'=>.ok a S'
 | .nx _ S'=>.ok .non S'
 | .ex c S'=>.ex c S'
 | _=>.no
abbrev sH (K:au)(n:Nat)(F:ae->iX->R A):Sp:=λvs H Q _=>vs.length=n/\∃ρ S as a S',Rel K ρ H S/\AVs K ρ H as vs/\F as S=.ok a S'/\∀ρ' H' v,Ext ρ ρ' H H'->Rel K ρ' H' S'->AV K ρ' H' a v->Q v H'
def Ec{K:au}{H:Hp}{as:ae}(r:AVs K ρ H as vs)(N:ar):SR K ρ H (as++List.replicate (N.length-as.length) .unb) (L2.start N vs):=by
 have hl:=r.length;refine⟨by unfold L2.start;simp[hl],λi a h=>?_⟩;by_cases hi:i<as.length
 ·rw[bM hi]at h;obtain⟨v,hv,av⟩:=r.get h;exact .inr ⟨v,by unfold L2.start;rw[bM<|by simp;lia,a_,hv];rfl,av⟩
 ·rw[gP (),ee]at h;split at h
  ·exact .inl (aS h).symm
  ·cases h
section
variable {P:ah}{w:af}{K:au}{mg:Str->bd}{base:ak}
def wQ{x:Str}{st:aE}{f:aj}{N ps:ar}{k:Nat}{m:Sm}(F:Fun K x qual st f fd)(Sc:FnScope N ps<|i8 st)
  (body:∀(cdv:aa) (A:az) (outer:List Env) (s:aA) (H:Hp) (E:XK),Room k (A.deeper<|envOfC qual (i8 st) s.heap.objs.size f cdv)->Fd (uE qF P w K mg base N qual (i8 st) f cdv A outer s H E).Qs (lZ st) m) :
  FnOk P w K mg base qF (k+1) f fd ps (sH K ps.length<|kL N m):=by
 refine F.ok Sc (λvs H Q E h=>h.1) λcdv B outer s H vs Q E hr ⟨hl,ρ,S,as,a,S',R,va,hF,q⟩=>⟨_,body cdv B outer s H E hr,ρ,S,_,R,Ec va N,?_⟩;unfold kL at hF
 cases hm:m (as++List.replicate (N.length-as.length) .unb) S with
 | rt b S2=>rw[hm]at hF;cases hF;exact q
 | nx τ S2=>rw[hm]at hF;cases hF;exact λρ' H' σ' e R' _=>q ρ' H' _ e R' .non
 | bk τ S2=>rw[hm]at hF;cases hF
 | ct τ S2=>rw[hm]at hF;cases hF
 | ex c S2=>rw[hm]at hF;cases hF
 | no=>rw[hm]at hF;cases hF
end
meta abbrev qZ (P:ah)(w:af)(K:au)(mg:Str->bd)(base:ak)(k:Nat)(x:Str)(ps:ar)(F:ae->iX->R A):Prop:=Kn P w K mg base k x ps<|sH K ps.length F
abbrev eFn (F:ae->iX->R A)(d:nX):Ex:=λτ S=>(d τ S).bind λas S1=>match F as S1 with
 | .ok a S2=>.ok a S2
 | _=>.no
section
variable {X:Cx}{pos p:Pos}{e:aC}{es:List aC}{x:Str}{ps:ar}{k:Nat}{F:ae->iX->R A}{d:nX}
def IA(G:qZ X.prog X.w X.K X.mg X.base k x ps F)(hr:Room k X.A)(ha:AL X (e::es) d)(hl:∀τ S as S',d τ S=.ok as S'->as.length=ps.length)(hg:Gl X x:=by rfl)(hdb:(x == ("__debug__" : Str))=false:=by decide)
  (hs:starEach (e::es) X.env=(false,eval e X.env)::starEach es X.env:=by rfl) (hplain:(backTo pos<|starEach es X.env).any (·.1)=false:=by rfl):AE X (.Call (.Name x p) (e::es) [] pos) (eFn F d):=
 PE.imp (Qk G hr ha hg hdb hs hplain) λσ H Q h9=>by
  z_go;refine⟨ρ,S,τ,R,r,?_⟩;have hb:=iV h
  cases hd:d τ S with
  | no=>rw[hd]at hb;exact hb
  | ex c S1=>rw[hd]at hb;exact hb
  | ok as S1=>
   rw[hd]at hb;intro ρ1 H1 vs e1 R1 v1;rw[b5];refine⟨by rw[<- v1.length];exact hl τ S as S1 hd,ρ1,S1,as,?_⟩;have hb:Am.R.post (match F as S1 with
    | .ok a S2=>.ok a S2
    | _=>.no) (wC X ρ H Q) (XE X ρ H):=hb
   cases hF:F as S1 with
   | ok a S2=>rw[hF]at hb;exact⟨a,S2,R1,v1,rfl,λρ2 H2 v e2=>hb ρ2 H2 v<|e1.trans e2⟩
   | ex c S2=>rw[hF]at hb;exact hb.elim
   | no=>rw[hF]at hb;exact hb.elim
def rE:∀τ S as S',iY τ S=.ok as S'->as.length=0:=λτ S as S' h=>by cases h;rfl
def kU{c:Ex}{d:nX}{n:Nat}(h:∀τ S as S',d τ S=.ok as S'->as.length=n):∀τ S as S',iP c d τ S=.ok as S'->as.length=n+1:=λτ S as S' e=>by
 unfold iP at e
 cases hc:c τ S with
 | ok a S1=>
  rw[hc]at e
  cases hd:d τ S1 with
  | ok bs S2=>
   have e:R.bind (d τ S1) (λas S2=>.ok (a::as) S2)=.ok as S':=e;rw[hd]at e;cases e;rw[bq,h τ S1 bs _ hd]
  | ex _ _=>
   have e:R.bind (d τ S1) (λas S2=>.ok (a::as) S2)=.ok as S':=e;rw[hd]at e;cases e
  | no=>
   have e:R.bind (d τ S1) (λas S2=>.ok (a::as) S2)=.ok as S':=e;rw[hd]at e;cases e
 | ex _ _=>rw[hc]at e;cases e
 | no=>rw[hc]at e;cases e
end
section
variable {X:Cx}{pos:Pos}{a b c d:aC}
abbrev RK (f':A->A->iX->R A)(cc:Ex)(τ:ae)(b k:A)(S:iX):R A:=match k with
 | .bl true=>(cc τ S).bind λc S4=>f' b c S4
 | .bl false=>.ok (.bl false) S
 | _=>.no
abbrev OT (f f':A->A->iX->R A)(ca cb cc:Ex):Ex:=λτ S=>(ca τ S).bind λa S1=>(cb τ S1).bind λb S2=>(f a b S2).bind λk S3=>RK f' cc τ b k S3
def Ou{f f':A->A->iX->R A}{ca cb cc:Ex}{H:Hp}{Q:VK}(h:tE X (OT f f' ca cb cc) σ H Q):IW (r2 X f) (r2 X f') (tE X ca) (tE X cb) (tE X cc) σ H Q:=by
 kst_p;gp_on;have e12:=e1.trans e2;refine⟨ρ2,S2,a,b,R2,v1.ext e2,v2,iT (iV h2) e12 λk S3 h3 ρ3 H3 z e3 R3 v3=>?_⟩;have e13:=e12.trans e3
 cases k with
 | bl k=>
  cases ue v3
  refine⟨k,rfl,?_⟩
  cases k with
  | true=>
   rw[aM rfl];exact⟨ρ3,S3,τ,R3,r.ext e13,iT (iV h3) e13 λc S4 h4 ρ4 H4 w e4 R4 v4=>⟨ρ4,S4,b,c,R4,v2.ext<|e3.trans e4,v4,iT h4 (e13.trans e4) λ_ _ q=>q.ext<|e13.trans e4⟩⟩
  | false=>
   rw[aL aX];exact h3 ρ3 H3 _ e13 R3<|.bl false
 | _=>exact h3.elim
def PR{f f':A->A->iX->R A}{ca cb cc:Ex}(ho:lG X (compareOp op)<|r2 X f)(ho':lG X (compareOp op')<|r2 X f')(ha:AE X a ca)(hb:AE X b cb)(hc:AE X c cc)(hm:lastMarks [op,op'] [b,c]=false:=by with_unfolding_all rfl) :
  AE X (.Compare a [op,op'] [b,c] pos) (OT f f' ca cb cc):=PE.imp (Jd ho ho' ha hb hc hm) λ_ _ _ h=>Ou h
abbrev R9 (f' f2:A->A->iX->R A)(cc cd:Ex)(τ:ae)(b k:A)(S:iX):R A:=match k with
 | .bl true=>(cc τ S).bind λc S4=>(f' b c S4).bind λk' S5=>RK f2 cd τ c k' S5
 | .bl false=>.ok (.bl false) S
 | _=>.no
abbrev EB (f f' f2:A->A->iX->R A)(ca cb cc cd:Ex):Ex:=λτ S=>(ca τ S).bind λa S1=>(cb τ S1).bind λb S2=>(f a b S2).bind λk S3=>R9 f' f2 cc cd τ b k S3
abbrev A.flat:A->Bool
 | .non=>true
 | .bl _=>true
 | .int _=>true
 | .str _=>true
 | _=>false
abbrev Qc:A->A->Bool
 | .non,.non=>true
 | .bl a,.bl b=>a == b
 | .bl a,.int b=>(if a then 1 else 0) == b
 | .int a,.bl b=>a == (if b then 1 else 0)
 | .int a,.int b=>a == b
 | .str a,.str b=>a == b
 | _,_=>false
def CW{K:au}{H:Hp}{x:A}{v:V}(h:AV K ρ H x v)(f:x.flat=true):o8 v=true:=by cases h<;>first|rfl|cases f
def AZ{K:au}{H:Hp}{x y:A}{v:V}(h:AV K ρ H x v)(h':AV K ρ H y u)(f:x.flat=true)(f':y.flat=true):Be v u=Qc x y:=by
 cases h<;>cases h'<;>first|rfl|(cases f;done)|(cases f';done)
theorem GN{K:au}{H:Hp}{x:A}{v:V}(h:AV K ρ H x v)(f:x.flat=true):∀{ys:ae}{us:List V},AVs K ρ H ys us->ys.all A.flat=true->Sq v us=(ys.any λz=>Qc z x)/\us.all o8=true
 | _,_,.nil,_=>⟨rfl,rfl⟩
 | y::ys,u::us,.cons hy t,fs=>by
  rw[iy,bV]at fs;obtain⟨h1,h2⟩:=GN h f t fs.2;refine⟨?_,by rw[iy,CW hy fs.1,h2];rfl⟩;show(Be u v || Sq v us)=_;rw[h1,AZ hy h fs.1 f];rfl
abbrev KH (o:A)(as:ae)(S:iX):R A:=match as with
 | [x]=>opt (o.seq S) λys=>gd (x.flat=true/\ys.all A.flat=true) (opt (ys.findIdx? λz=>Qc z x) λk=>.ok (.int (k:Nat)) S)
 | _=>.no
abbrev yC (co:Ex)(d:nX):Ex:=λτ S=>(co τ S).bind λo S1=>opt (o.seq S1) λ_=>(d τ S1).bind λas S2=>KH o as S2
abbrev A.isTup:A->Bool
 | .tup _=>true
 | _=>false
def zj{K:au}{H:Hp}{x:A}{v:V}(R:Rel K ρ H S)(h:AV K ρ H x v)(e:x.seq S=some xs):∃p vs,v=.ref p/\(if x.isTup=true then kQ K H p vs else lE K H p vs)/\AVs K ρ H xs vs:=by
 cases h with
 | tup h r=>cases aS e;exact⟨_,_,rfl,(kQ.of h),r⟩
 | frz h r=>cases aS e;exact⟨_,_,rfl,h.JC,r⟩
 | ref h=>
  obtain⟨vs,h1,r1⟩:=R.lst h<|ja e;exact⟨_,vs,rfl,lE.of h1,r1⟩
 | _=>cases e
def Ni{K:au}{H:Hp}{x:A}{v:V}{ys:ae}{us:List V}{k:Nat}(h:AV K ρ H x v)(f:x.flat=true)(r:AVs K ρ H ys us)(fs:ys.all A.flat=true)(e:(ys.findIdx? λz=>Qc z x)=some k) :
  us.all o8=true/\∃z,us[k]?=some z/\Be z v=true/\∀(m:Nat) (z':V),m<k->us[m]?=some z'->Be z' v=false:=by
 rw[dS]at e;obtain⟨hk,h1,h2⟩:=e;have fl:∀m (hm:m<ys.length),ys[m].flat=true:=λm hm=>iA.mp fs _<|cD hm;refine⟨(GN h f r fs).2,?_⟩;obtain⟨z,hz,vz⟩:=r.get<|aG hk;refine⟨z,hz,by rw[AZ vz h (fl k hk) f];exact h1,λm z' hm hz'=>?_⟩;have hm':m<ys.length:=()
 obtain⟨z2,hz2,vz2⟩:=r.get<|aG hm';rw[hz']at hz2;cases hz2;rw[AZ vz2 h (fl m hm') f];have:=h2 m hm;simpa using this
def yo{apos cpos:Pos}{co:Ex}{d:nX}(ho:AE X o co)(ha:AL X (e::es) d)
  (hbase:attributeBase o "index" X.env (eval o X.env)=eval o X.env:=by rfl)
  (hfew:((backTo cpos<|starEach (e::es) X.env).all (λx=>!x.1) && (backToKw cpos<|keywordEach [] X.env).all (λx=>x.1.isSome)
   && decide ((e::es).length+([]:List Keyword).length+(if ([]:List Keyword).isEmpty then 0 else 1)<30))=true:=by rfl)
  (hline:(apos.endLine == cpos.line)=true:=by rfl) (hs:starEach (e::es) X.env=(false,eval e X.env)::starEach es X.env:=by rfl) (hplain:(backTo cpos<|starEach es X.env).any (·.1)=false:=by rfl) :
  AE X (.Call (.Attribute o "index" apos) (e::es) [] cpos) (yC co d):=PE.imp (Ov ho ha hbase hfew hline hs hplain) λσ H Q h9=>by
 z_go;refine⟨ρ,S,τ,R,r,iT (iV h) .refl λx S1 h1 ρ1 H1 v e1 R1 v1=>?_⟩;obtain⟨xs,hx,h1⟩:=jb h1;obtain⟨p,vs,hv,hq,_⟩:=zj R1 v1 hx;refine⟨x.isTup,p,vs,hv,hq,ρ1,S1,τ,R1,r.ext e1,iT (iV h1) e1 λas S2 h2 ρ2 H2 ws e2 R2 v2=>?_⟩;unfold KH at h2
 match as,v2,h2 with
 | [],_,h2=>exact h2.elim
 | _::_::_,_,h2=>exact h2.elim
 | [y],v2,h2=>
  obtain⟨w,rfl,hw⟩:=Ja v2;obtain⟨ys,hy,h2⟩:=jb h2;obtain⟨⟨f1,f2⟩,h2⟩:=jl h2;obtain⟨k,hk,h2⟩:=jb h2;obtain⟨p',us,hv',hq',rr⟩:=zj R2 (v1.ext e2) hy;obtain⟨g1,z,g2,g3,g4⟩:=Ni hw f1 rr f2 hk;exact⟨p',w,us,k,z,hv',rfl,hq',CW hw f1,g1,g2,g3,g4,h2 _ _ _ (e1.trans e2) R2<|.int _⟩
abbrev yU (o:A)(as:ae)(S:iX):R A:=match o,as with
 | .ref n,[.ref m]=>opt (iR S n) λxs=>opt (iR S m) λys=>gd (xs.length+ys.length<=sizeLine) (.ok .non<|S.set n<|.lst<|xs++ys)
 | _,_=>.no
def IE:OQ X "list.extend" (rM X yU):=λpins s σ H x vs v us Q I rx rv h9=>by
 obtain⟨ρ,S,o,as,R,vo,va,h⟩:=h9
 cases vo with
 | @ref p n hp=>
  match as,va,h with
  | [],_,h=>exact h.elim
  | y::_::_,_,h=>exact(by cases y<;>exact h.elim)
  | [y],va,h=>
   obtain⟨w,rfl,hw⟩:=Ja va
   cases hw with
   | @ref q m hq=>
    kcf_m;obtain⟨ys,hm,h⟩:=jb h;obtain⟨hl,h⟩:=jl h;obtain⟨ws,h1,r⟩:=R.lst hp<|ja hn;obtain⟨zs,h2,r'⟩:=R.lst hq<|ja hm;obtain⟨ex,R'⟩:=R.put hp (ja hn)<|r.append r';exact Ez pins s σ H _ _ v us Q I rx rv ⟨p,q,ws,zs,rfl,rfl,h1,h2,by rw[<- r.length,<- r'.length];exact hl,h _ _ _ ex R' .non⟩
   | _=>exact h.elim
 | _=>exact h.elim
end
section
variable {X:Cx}{pos:Pos}{a:aC}
abbrev zc (n k:Nat):Src:=⟨k,λi S=>(iR S n).bind λxs=>(xs[i]?).map λx=>.tup [.int i,x],λS=>match iR S n with
 | some ys=>decide (ys.length=k)
 | none=>false⟩
abbrev Tp (a:A)(S:iX):R Src:=match a with
 | .ref n=>opt (iR S n) λxs=>.ok (zc n xs.length) S
 | _=>.no
abbrev Kh (c:Ex):Ic:=λτ S=>(c τ S).bind λa S1=>Tp a S1
def NH{K:au}{ρ0:bb}{H0:Hp}{p:aj}{n k:Nat}(hp:ρ0[n]?=some p):JR K (zc n k) (OL K p) ρ0 H0 where
 go:=λi S H ρ x e R g=>by
  obtain⟨xs,hn,g⟩:=cJ.mp g;obtain⟨y,hy,rfl⟩:=bu.mp g;obtain⟨vs,h1,r1⟩:=R.lst (e.get hp)<|ja hn;obtain⟨v,ev,av⟩:=r1.get hy;refine⟨⟨vs,v,lE.of h1,ev⟩,λw H' q=>?_⟩;obtain⟨pp,hpp,rfl,hz⟩:=q;have hz':=hz vs v (lE.of h1) ev;subst hz';obtain⟨ex,R'⟩:=R.im (u:=.tup [.int i,v]) hpp;exact⟨ex,R',.tup jx<|.cons (.int _)<|.cons (av.ext ex) .nil⟩
 stop:=λS H ρ e R hf=>by
  have hf:(match iR S n with
   | some ys=>decide (ys.length=k)
   | none=>false)=true:=hf
  cases hn:iR S n with
  | none=>rw[hn]at hf;cases hf
  | some xs=>
   rw[hn]at hf;obtain⟨vs,h1,r1⟩:=R.lst (e.get hp)<|ja hn;exact⟨vs,lE.of h1,by rw[<- r1.length];exact dz hf⟩
def OC{p:Pos}{c:Ex}(hm:X.mg "enumerate" = none)(ha:AE X a c)(hg:Gl X "enumerate" := by rfl)(hs:starEach [a] X.env=[(false,eval a X.env)]:=by rfl):AI X (.Tuple elts x1 tpos) (.Call (.Name "enumerate" p) [a] [] pos) (Kh c):=λpins s σ H Q I h9=>by
 z_go;refine G3 hg hm (k_ ha oK hs) hs pins s σ H Q I ⟨ρ,S,τ,R,r,iT (iV h) .refl λx S1 h1 ρ1 H1 v e1 R1 v1=>?_⟩
 cases v1 with
 | @ref p n hp=>
  obtain⟨xs,hn,h1⟩:=jb h1;obtain⟨vs,g1,r1⟩:=R1.lst hp<|ja hn;exact⟨_,vs,rfl,lE.of g1,h1 ρ1 H1 _ e1 R1<|NH hp⟩
 | _=>exact h1.elim
def Kc{c:Ex}{n:Nat}{xs:ae}(h:c τ S=.ok (.ref n) S1)(hn:iR S1 n=some xs):Kh c τ S=.ok (zc n xs.length) S1:=by
 unfold Kh;rw[h];show opt (iR S1 n) _=_;rw[hn];rfl
end
abbrev M0 (K:au)(n:Nat)(F:ae->iX->R A):Sp:=λvs H Q E=>vs.length=n/\∃ρ S as,Rel K ρ H S/\AVs K ρ H as vs/\(F as S).post (λa S'=>∀ρ' H' v,Ext ρ ρ' H H'->Rel K ρ' H' S'->AV K ρ' H' a v->Q v H') (λc S'=>∀C ρ' H',Bg K c C->Ext ρ ρ' H H'->Rel K ρ' H' S'->E (.ref C) none H')
section
variable {P:ah}{w:af}{K:au}{mg:Str->bd}{base:ak}
def Fun.Tc{x:Str}{st:aE}{f:aj}{N ps:ar}{k:Nat}{sp:Sp}(F:Fun K x qual st f fd)(S:FnScope N ps<|i8 st)(len:∀vs H Q E,sp vs H Q E->vs.length=ps.length)
  (hb:∀(cdv:aa) (A:az) (outer:List Env) (s:aA) (H:Hp) (vs:List V) (Q:VK) (E:XK),Room k (A.deeper<|envOfC qual (i8 st) s.heap.objs.size f cdv)->sp vs H Q E->∃t,xM (uE (A0 P w) P w K mg base N qual (i8 st) f cdv A outer s H E) (lZ st) t/\t { nx:=λ_ H'=>Q .non H',rt:=Q } (L2.start N vs) H):FnOk P w K mg base (A0 P w) (k+1) f fd ps sp:=by
 obtain⟨oc,od,kV,doc,pm,an,cdv,ct,osl,rfl,lk,hcd⟩:=F.ex;exact Lk lk hcd S len λA outer s H vs Q E hr hsp=>hb cdv A outer s H vs Q E hr hsp
def fnX{x:Str}{st:aE}{f:aj}{N ps:ar}{k:Nat}{m:Sm}(F:Fun K x qual st f fd)(Sc:FnScope N ps<|i8 st)
  (body:∀(cdv:aa) (A:az) (outer:List Env) (s:aA) (H:Hp) (E:XK),Room k (A.deeper<|envOfC qual (i8 st) s.heap.objs.size f cdv)->Fd (uE (A0 P w) P w K mg base N qual (i8 st) f cdv A outer s H E) (lZ st) m) :
  FnOk P w K mg base (A0 P w) (k+1) f fd ps (M0 K ps.length<|kL N m):=by
 refine Fun.Tc F Sc (λvs H Q E h=>h.1) λcdv B outer s H vs Q E hr ⟨hl,ρ,S,as,R,va,q⟩=>⟨_,body cdv B outer s H E hr,ρ,S,_,R,Ec va N,?_⟩;unfold kL at q
 cases hm:m (as++List.replicate (N.length-as.length) .unb) S with
 | rt b S2=>rw[hm]at q;exact q
 | nx τ S2=>rw[hm]at q;exact λρ' H' σ' e R' _=>q ρ' H' _ e R' .non
 | bk τ S2=>rw[hm]at q;exact q.elim
 | ct τ S2=>rw[hm]at q;exact q.elim
 | no=>rw[hm]at q;exact q.elim
 | ex c S2=>
  rw[hm]at q;intro C ρ' H' n e R';exact⟨rfl,λpins σ' s' ea I Ra=>EU I rfl Ra<|q C ρ' H' n e R'⟩
end
abbrev JD (P:ah)(w:af)(K:au)(mg:Str->bd)(base:ak)(k:Nat)(x:Str)(ps:ar)(F:ae->iX->R A):Prop:=
 ∃(f:aj) (fd:FuncData),FnOk P w K mg base (A0 P w) k f fd ps (M0 K ps.length F)/\mg x=some (.ref f)/\PySem.W.keepIn K (.ref f)=true/\Binds K fd ps []
abbrev uB (F:ae->iX->R A)(d:nX):Ex:=λτ S=>(d τ S).bind λas S1=>F as S1
section
variable {X:Cx}{pos p:Pos}{e:aC}{es:List aC}{x:Str}{ps:ar}{k:Nat}{F:ae->iX->R A}{d:nX}
def ID(G:JD X.prog X.w X.K X.mg X.base k x ps F)(hr:Room k X.A)(ha:AL X (e::es) d)(hl:∀τ S as S',d τ S=.ok as S'->as.length=ps.length)(hg:Gl X x:=by rfl)(hdb:(x == ("__debug__" : Str))=false:=by decide)
  (hs:starEach (e::es) X.env=(false,eval e X.env)::starEach es X.env:=by rfl) (hplain:(backTo pos<|starEach es X.env).any (·.1)=false:=by rfl):AE X (.Call (.Name x p) (e::es) [] pos) (uB F d):=by
 obtain⟨f,fd,Fo,hm,hk,hb⟩:=G;refine PE.imp (DQ Fo hr hg hm hk hb .nil (FP (X:=X) rfl rfl) ha hdb hs hplain) λσ H Q h9=>?_;z_go;refine⟨ρ,S,τ,R,r,?_⟩;have hq:=iV h
 cases hd:d τ S with
 | no=>rw[hd]at hq;exact hq
 | ex c S1=>rw[hd]at hq;exact hq
 | ok as S1=>
  rw[hd]at hq;intro ρ1 H1 vs e1 R1 v1;rw[b5];refine⟨by rw[<- v1.length];exact hl τ S as S1 hd,ρ1,S1,as,R1,v1,tV hq (λa S2 q ρ2 H2 v e2=>q ρ2 H2 v<|e1.trans e2) λc S2 q C ρ2 H2 n e2=>q C ρ2 H2 n<|e1.trans e2⟩
end
abbrev Nb:ba:=[.type "ValueError",.type "Exception",.type "BaseException",.type "object"]
def PV{K:au}{mg:Str->bd}{base:ak}{x:Str}(M:Mod K mg base)(e:Bg K x C)(q:PySem.W.excIn K C bmB newId=true):OwnCls x C bmB newId mg base:=by
 refine⟨cP M.kin M.glob e,?_⟩;unfold PySem.W.excIn at q;split at q
 ·rename_i dd cd sl ho;split at q
  ·rename_i C' bm k0 k1 k2 k3 nw k5 hm hs;rw[bV,bV,bV,bV,bV]at q;obtain⟨⟨⟨⟨⟨q1,q2⟩,q3⟩,q4⟩,q5⟩,q6⟩:=q;have q1:=fF.mp q1;have q2:=fF.mp q2;have q3:cd.hasDel=false:=by simpa using q3
   have q6:=fF.mp q6;subst q1 q2;obtain⟨nm,bs,mro,ns,qn,hd,sn,sub,ab,col,del⟩:=cd;have hm:mro=_:=hm;have q3:del=false:=q3;subst hm q3;obtain⟨sl⟩:=sl;have hs:sl=_:=hs;subst hs;exact⟨bm,ns,nm,qn,bs,hd,sn,sub,ab,col,dd,k0,k1,k2,k3,k5,_,M.kin _ _ ho,.of_isNs<|PySem.W.isNs_of_in M.kin q5,PySem.W.nsMap_none_of_in M.kin q5 q6,PySem.W.tail_of_in M.kin q4⟩
  ·cases q
 ·cases q
abbrev Hw:List (Str ⊕ Ex)->ae->iX->R Unit
 | [],_,S=>.ok Unit.unit S
 | .inl _::ps,τ,S=>Hw ps τ S
 | .inr e::ps,τ,S=>(e τ S).bind λv S1=>match v with
  | .int i=>gd (i.natAbs.log2<64) (Hw ps τ S1)
  | _=>.no
abbrev K2:List (Str ⊕ Ex)->Bool
 | []=>true
 | .inl x::ps=>decide (x.length<=1000) && K2 ps
 | .inr _::ps=>K2 ps
abbrev yH (c:Str)(ps:List<|Str ⊕ Ex):Sm:=λτ S=>.of (Hw ps τ S) λ_ S1=>.ex c S1
abbrev QG (X:Cx):List (Str ⊕ Ex)->List (Str ⊕ TE)
 | []=>[]
 | .inl x::ps=>.inl x::QG X ps
 | .inr e::ps=>.inr (tE X e)::QG X ps
section
variable {X:Cx}{pos np cpos fp:Pos}{x:Str}{C:aj}{e1 e2:aC}{es:List aC}{ps:List (Str ⊕ Ex)}
theorem tB{H0:Hp}{k:Hp->Prop}(c:Str)(hk:∀ρ H S,Ext ρ0 ρ H0 H->Rel X.K ρ H S->XE X ρ0 H0 c S->k H):∀(ps:List<|Str ⊕ Ex) (ρ:bb) (H:Hp) (S:iX),K2 ps=true->Ext ρ0 ρ H0 H->Rel X.K ρ H S->SR X.K ρ H τ σ ->
  (Hw ps τ S).post (λ_ S'=>XE X ρ0 H0 c S') (XE X ρ0 H0)->vt (QG X ps) σ H k
 | [],ρ,H,S,_,e,R,r,h=>hk ρ H S e R h
 | .inl x::ps,ρ,H,S,ok,e,R,r,h=>by
  obtain⟨hx,ok⟩:=Bool.and_eq_true_iff.mp ok;exact⟨dz hx,tB c hk ps ρ H S ok e R r h⟩
 | .inr a::ps,ρ,H,S,ok,e,R,r,h=>by
  refine⟨ρ,S,τ,R,r,?_⟩;have h:=iV h;refine tV h (λv S1 h1 ρ1 H1 u e1 R1 v1=>?_) λc' S' z=>z.ext e
  cases v with
  | int i=>
   obtain⟨hi,h1⟩:=jl h1
   cases v1
   exact⟨i,rfl,hi,tB c hk ps ρ1 H1 S1 ok (e.trans e1) R1 (r.ext e1) h1⟩
  | _=>exact h1.elim
def xN(hn:Bg X.K x C)(hq:PySem.W.excIn X.K C Nb "ValueError.__new__" = true)(hh:X.A.handled=none)(hp:FParts X (e1::e2::es)<|QG X ps)(hfs:K2 ps=true:=by rfl)(hg:Gl X x:=by rfl)(hl:2000 * (e1::e2::es).length<=sizeLine:=by decide)
  (hs:starEach [.JoinedStr (e1::e2::es) fp] X.env=(false,eval (.JoinedStr (e1::e2::es) fp) X.env)::starEach [] X.env:=by rfl) (hpl:(backTo cpos<|starEach [] X.env).any (·.1)=false:=by rfl) (hd:(x == ("__debug__" : Str))=false:=by decide) :
  AS X (.Raise (some<|.Call (.Name x np) [.JoinedStr (e1::e2::es) fp] [] cpos) none pos) (yH x ps):=by
 intro pins s σ H D I ⟨ρ,S,τ,R,r,h⟩;refine JB (PV I.mod hn hq) PySem.F.excBase_ValueError hh (k_ (Ph hp hl) oK hs) hg hs hpl hd pins s σ H D I ?_;refine tB (X:=X) (ρ0:=ρ) (H0:=H) x (λρ1 H1 S1 e1 R1 z y hy=>?_) ps ρ H S hfs .refl R r<|of_post h;exact⟨(show 1<=sizeLine by decide),z C ρ1 H1 hn e1 R1⟩
end
abbrev J_ (i:Nat):RS->RS
 | .nx τ S=>.nx (τ.set i .unb) S
 | .bk τ S=>.bk (τ.set i .unb) S
 | .ct τ S=>.ct (τ.set i .unb) S
 | .rt a S=>.rt a S
 | _=>.no
abbrev zA (i n:Nat)(cs:ar)(c d:Sm):Sm:=λτ S=>match c τ S with
 | .ex x S1=>if x∈cs then J_ i (d ((List.replicate n .unb).set i<|.exn x) S1)else .no
 | r=>r
def SR.unset{K:au}{H:Hp}{τ:ae}{σ:L2.St}(s:SR K ρ H τ σ):SR K ρ H (τ.set i .unb) (σ.set i none):=by
 refine⟨by simp[s.len],λj b e=>?_⟩;by_cases hj:j=i
 ·subst hj;have hl:j<τ.length:=by
   have:=(aI.mp e).1;simpa using this
  rw[bQ hl]at e
  cases e
  exact .inl rfl
 ·rw[bR<|cG hj]at e;rw[bR<|cG hj];exact s.at j b e
section
variable {X:Cx}{pos np hp:Pos}{y n:Str}{Dc:aj}{i:Nat}{body suite:List aE}{b0:aE}{c d:Sm}{cs:ar}
def NB(hb:∀pn' xe',Fd (X.wH pn' xe') body c)(hh:∀pn' e oe C,XO C oe->Fd (X.hand pn' e oe) (b0::suite) d)(hN:X.N.Nodup)(hD:Bg X.K y Dc)(mD:L2.mroIn X.K Dc=some Nb)(hcs:∀x∈cs,∃C,Bg X.K x C/\L2.mroIn X.K C=some (.ref Dc::Nb))
  {ln:Nat} (hln:X.N.length=ln:=by rfl) (hi:X.N[i]?=some n:=by rfl) (hlo:X.env.scope.names.lookup n=some .local:=by rfl) (hst:X.stack=X.env::X.outer:=by rfl) (hf:X.env.frame=some X.env.locals:=by rfl) (hex:X.ex=[]:=by rfl) (hg:Gl X y:=by rfl) (hdb:(y == ("__debug__" : Str))=false:=by decide) :
  AS X (.Try body [.ExceptHandler (some<|.Name y np) (some n) (b0::suite) hp] [] [] pos) (zA i ln cs c d):=by
 subst hln;intro pins s σ H D I ⟨ρ,S,τ,R,r,h⟩;refine wpAny_Try_except ?_;have tl:τ.length=X.N.length:=by rw[r.len];exact I.len
 have hgo:∀xe',(∀x S1,c τ S=.ex x S1->XE (X.wH (X.pn++pins) xe') ρ H x S1)->ve (X.wH (X.pn++pins) xe') ρ H D (c τ S):=λxe' hx=>by
  have h:ve X ρ H D (zA i X.N.length cs c d τ S):=h;unfold zA at h
  cases hc:c τ S with
  | nx τ' S'=>rw[hc]at h;exact h
  | rt a S'=>rw[hc]at h;exact h
  | bk τ' S'=>rw[hc]at h;exact h
  | ct τ' S'=>rw[hc]at h;exact h
  | no=>rw[hc]at h;exact h
  | ex x S1=>exact hx x S1 hc
 refine cS (hb (X.pn++pins) _ [] s σ H D (I.wH _) ⟨ρ,S,τ,R,r,hgo _ λx S1 hc C ρ1 H1 hn e1 R1=>?_⟩) (λf s1 hs=>?_) λe s1 z=>z
 ·refine⟨hex,λpins' σ' s' e I' R'=>?_⟩;have h:ve X ρ H D (zA i X.N.length cs c d τ S):=h;unfold zA at h;rw[hc]at h;have h:ve X ρ H D (if x∈cs then J_ i (d ((List.replicate X.N.length .unb).set i<|.exn x) S1)else .no):=h;by_cases hx:x∈cs
  ·rw[aM hx]at h;obtain⟨C',hn',mC⟩:=hcs x hx;have:C'=C:=by
    have z:=hn'.symm.trans hn
    injection z with z
    injection z with z
    injection z
   subst this;have hm:X.mg y=some (.ref Dc):=cP I.mod.kin I.mod.glob hD;refine Jv hst hf hex hN hi hlo hg hm mD ⋯ I' R' mC (by simp) (λoe s6 xo hn0 I6=>?_) I.ok hdb;obtain⟨ex,Rn⟩:=R1.im (u:=.frz oe xu) hn0;refine hh (X.pn++pins) e oe C' xo [] s6 _ _ (RE i D) I6 ⟨ρ1,S1,(List.replicate X.N.length .unb).set i<|.exn x,Rn,SR.set ⟨?_,λj b z=>?_⟩<|.exn hn' jx xo,?_⟩
   ·rw[f_];exact I'.len.symm
   ·rw[ee]at z;split at z
    ·exact .inl (aS z).symm
    ·cases z
   ·have e2:=e1.trans ex
    cases hd:d ((List.replicate X.N.length .unb).set i<|.exn x) S1 with
    | nx τ' S'=>rw[hd]at h;exact λρ' H' σ' e' R' r'=>h ρ' H' _ (e2.trans e') R' r'.unset
    | bk τ' S'=>rw[hd]at h;exact λρ' H' σ' e' R' r'=>h ρ' H' _ (e2.trans e') R' r'.unset
    | ct τ' S'=>rw[hd]at h;exact λρ' H' σ' e' R' r'=>h ρ' H' _ (e2.trans e') R' r'.unset
    | rt a S'=>rw[hd]at h;exact λρ' H' v e' R' r'=>h ρ' H' v (e2.trans e') R' r'
    | ex _ _=>rw[hd]at h;exact h.elim
    | no=>rw[hd]at h;exact h.elim
  ·rw[aL hx]at h;exact h.elim
 ·cases f with
  | next=>obtain⟨σ',H',J,q⟩:=hs;exact fB ⟨σ',H',J.Ei,q⟩
  | brk=>obtain⟨σ',H',J,q⟩:=hs;exact⟨σ',H',J.Ei,q⟩
  | cont=>obtain⟨σ',H',J,q⟩:=hs;exact⟨σ',H',J.Ei,q⟩
  | ret u=>obtain⟨v,σ',H',J,rv,q⟩:=hs;exact⟨v,σ',H',J.Ei,rv,q⟩
end
abbrev sM (f:Str->bj)(c:Ex):Ex:=λτ S=>(c τ S).bind λv S1=>match v with
 | .exn x=>opt (f x) λb=>.ok (.bl b) S1
 | _=>.no
section
variable {X:Cx}{pos p py:Pos}{a:aC}{y:Str}{vy:V}{cy:aa}{f:Str->bj}{c:Ex}
def G1(ry:∀u,RelV vy u->u=cy)(hf:∀x b C,f x=some b->Bg X.K x C->XCls X.K C/\(PySem.W.clsIn X.K C).isSome=true/\PySem.W.kitOne X.K (.ref C) cy=some b) :
  jt X (.builtin "isinstance") (λxs H Q=>∃ρ S x v b,Rel X.K ρ H S/\xs=[v,vy]/\AV X.K ρ H (.exn x) v/\f x=some b/\Q (.bl b) H):=by
 intro pins s σ H xs us Q I r ⟨ρ,S,x,v,b,R,exs,va,hb,q⟩;subst exs;obtain⟨u,w',rfl,r1,r2⟩:=vals2 r;have:=ry _ r2;subst this
 cases va with
 | exn n h xo=>
  obtain⟨g1,g2,g3⟩:=hf _ _ _ hb n
  cases(show u=Value.ref _ from r1)
  exact BC g1 g2 I h xo g3 λtk=>⟨.bl b,H,I.tok tk,rfl,q⟩
def Ho(hy:PE X (.Name y py)<|tC vy)(ry:∀u,RelV vy u->u=cy)(hf:∀x b C,f x=some b->Bg X.K x C->XCls X.K C/\(PySem.W.clsIn X.K C).isSome=true/\PySem.W.kitOne X.K (.ref C) cy=some b)(ha:AE X a c)(hm:X.mg "isinstance" = none)(hg:Gl X "isinstance" := by rfl)
  (he:starEach [a,.Name y py] X.env=(false,eval a X.env)::starEach [.Name y py] X.env:=by rfl) (he2:starEach [.Name y py] X.env=(false,eval (.Name y py) X.env)::starEach [] X.env:=by rfl) (hpl:(backTo pos<|starEach [.Name y py] X.env).any (·.1)=false:=by rfl) :
  AE X (.Call (.Name "isinstance" p) [a,.Name y py] [] pos) (sM f c):=
 PE.imp (wz (G1 ry hf) hg hm jY (k_ ha (k_ hy oK he2) he) ⋯ ⋯ he hpl) λσ H Q h9=>by
  z_go;refine⟨ρ,S,τ,R,r,iT (iV h) .refl λv S1 h1 ρ1 H1 x e1 R1 v1=>?_⟩
  cases v with
  | exn n=>
   obtain⟨b,hb,h1⟩:=jb h1;exact⟨ρ1,S1,n,x,b,R1,rfl,v1,hb,h1 ρ1 H1 _ e1 R1<|.bl b⟩
  | _=>exact h1.elim
end
def M8{X:Cx}(hh:X.A.handled=some (.ref e))(h0:X.H₀ e=some (.frz oe xu))(ho:XO C oe):jt X (.builtin "any") (rN X<|f1 Nn):=jt.imp (E7 hh h0 ho) λvs H Q h0=>by
 kpf_c;clear h0
 cases hv with
 | @ref p n hp=>
  kcf_m;obtain⟨bs,hb,h⟩:=jb h;obtain⟨vs,h1,r⟩:=R.lst hp<|ja hn;rw[By r hb]at h1;exact⟨p,bs,rfl,lE.of h1,h _ _ _ .refl R<|.bl _⟩
 | _=>exact h.elim
structure ExcK (K:au)(U:aj)(c:Str)(C:aj):Prop where
 n:Bg K c C
 q:PySem.W.excIn K C Nb "ValueError.__new__" = true
 r:L2.mroIn K C=some (.ref U::Nb)
 x:XCls K C
 cl:(PySem.W.clsIn K C).isSome=true
 v:PySem.W.kitOne K (.ref C) (.type "ValueError")=some true
def wM:bootBuiltins "ValueError" = some (.type "ValueError"):=by decide +kernel
abbrev E1 (tb:List<|Str×Bool):Str->bj:=λx=>tb.lookup x
def LV{K:au}{tb:List<|Str×Bool}(h:∀p∈tb,∃C,Bg K p.1 C/\XCls K C/\(PySem.W.clsIn K C).isSome=true/\PySem.W.kitOne K (.ref C) cy=some p.2):∀x b C,E1 tb x=some b->Bg K x C->XCls K C/\(PySem.W.clsIn K C).isSome=true/\PySem.W.kitOne K (.ref C) cy=some b:=λx b C e n=>by
 obtain⟨C',n',g⟩:=h (x,b)<|dF e;have:C'=C:=by
  have z:=n'.symm.trans n
  injection z with z
  injection z with z
  injection z
 subst this;exact g
section
variable {X:Cx}{pos p py:Pos}{a:aC}{y:Str}{Cy:aj}{tb:List (Str×Bool)}{c:Ex}
def pA(hm:X.mg y=some (.ref Cy))(h:∀p∈tb,∃C,Bg X.K p.1 C/\XCls X.K C/\(PySem.W.clsIn X.K C).isSome=true/\PySem.W.kitOne X.K (.ref C) (.ref Cy)=some p.2)(ha:AE X a c)(hi:X.mg "isinstance" = none)(hg:Gl X "isinstance" := by rfl)(hgy:Gl X y:=by rfl)(hdb:(y == ("__debug__" : Str))=false:=by decide)
  (he:starEach [a,.Name y py] X.env=(false,eval a X.env)::starEach [.Name y py] X.env:=by rfl) (he2:starEach [.Name y py] X.env=(false,eval (.Name y py) X.env)::starEach [] X.env:=by rfl) (hpl:(backTo pos<|starEach [.Name y py] X.env).any (·.1)=false:=by rfl) :
  AE X (.Call (.Name "isinstance" p) [a,.Name y py] [] pos) (sM (E1 tb) c):=Ho (vy:=.ref Cy) (cy:=.ref Cy) (Lc hgy hm rfl hdb) (λu r=>r) (LV h) ha hi hg he he2 hpl
def MB(hm:X.mg "ValueError" = none)(h:∀p∈tb,∃C,Bg X.K p.1 C/\XCls X.K C/\(PySem.W.clsIn X.K C).isSome=true/\PySem.W.kitOne X.K (.ref C) (.type "ValueError")=some p.2)(ha:AE X a c)(hi:X.mg "isinstance" = none)(hg:Gl X "isinstance" := by rfl)(hgy:Gl X "ValueError" := by rfl)
  (he:starEach [a,.Name "ValueError" py] X.env=(false,eval a X.env)::starEach [.Name "ValueError" py] X.env:=by rfl) (he2:starEach [.Name "ValueError" py] X.env=(false,eval (.Name "ValueError" py) X.env)::starEach [] X.env:=by rfl) (hpl:(backTo pos<|starEach [.Name "ValueError" py] X.env).any (·.1)=false:=by rfl) :
  AE X (.Call (.Name "isinstance" p) [a,.Name "ValueError" py] [] pos) (sM (E1 tb) c):=Ho (vy:=.ty "ValueError") (cy:=.type "ValueError") (CO hgy hm wM rfl ⋯ ⋯) (λu r=>r) (LV h) ha hi hg he he2 hpl
end
abbrev P6 (F:ae->iX->R A)(d:nX):Ex:=λτ S=>match d τ S with
 | .ok as S1=>F as S1
 | _=>.no
section
variable {d:nX}
abbrev O1 (t:Te)(c d:Sm):Sm:=λτ S=>match t τ S with
 | .ok true S1=>c τ S1
 | .ok false S1=>d τ S1
 | _=>.no
end
abbrev LP (i:Nat)(cs:ar)(c d:Sm):Sm:=λτ S=>match c τ S with
 | .ex x S1=>if x∈cs then J_ i (d (τ.set i<|.exn x) S1)else .no
 | r=>r
def E4{K:au}{H:Hp}{a:aj}{ns:ag}{F:ae->iX->R A}(hO:JS H)(hS:lE K H a<|ns.map V.int)(h:∃S',F [.frz<|ns.map .int] []=.ok (.bl true) S'):sH K 1 F [.ref a] H (λv _=>v=.bl true) λ_ _ _=>False:=by
 obtain⟨S',h⟩:=h;have fz:Fz K H a (ns.map V.int):=by
  rcases hS with(h|⟨o,h⟩)|h
  ·rcases hO a with z|⟨ob,xs,z⟩
   ·rw[h]at z;cases z
   ·rw[h]at z;cases z
  ·exact .inl ⟨o,h⟩
  ·exact .inr h
 exact⟨rfl,[],[],_,_,S',⟨rfl,List.nodup_nil,λn a o h=>by simp at h⟩,.cons (.frz fz<|rY ns) .nil,h,λρ' H' v _ _ hv=>ue hv⟩
def LZ{P:ba->Prop}(h:∀a0,P [a0]):∀us:ba,us.length=1->P us
 | [_],_=>h _
def Em{P:ba->Prop}(h:∀a0 a1,P [a0,a1]):∀us:ba,us.length=2->P us
 | [_,_],_=>h _ _
def NC{n:Nat}{us:ba}(h:us.length=n+1):∃a t,us=a::t/\t.length=n:=by
 cases us with
 | nil=>simp at h
 | cons a t=>exact⟨a,t,rfl,by simpa using h⟩
def RZ{P:ba->Prop}(h:∀a0 a1 a2,P [a0,a1,a2]):∀us:ba,us.length=3->P us:=λus e=>by
 obtain⟨a0,t0,rfl,e0⟩:=NC e;obtain⟨a1,t1,rfl,e1⟩:=NC e0;obtain⟨a2,t2,rfl,e2⟩:=NC e1
 cases cI.mp e2
 exact h _ _ _
end Am
namespace Am
open PySem L2
section
variable {α β:Type}{a b:A}{S S1:iX}{τ:ae}{x:α}
@[simp]def R.ki {f:α->iX->R β}:(R.ok x S).bind f=f x S:=rfl
@[simp]def R.CP {f:α->iX->R β}{c:Str}:(R.ex c S:R α).bind f=.ex c S:=rfl
@[simp]def R.mw {f:α->iX->R β}:(R.ok x S).uq f=f x S:=rfl
@[simp]def RS.of_ok {f:α->iX->RS}:RS.of (R.ok x S) f=f x S:=rfl
@[simp]def RS.LG {f:α->iX->RS}{c:Str}:RS.of (R.ex c S:R α) f=.ex c S:=rfl
@[simp]def j_ {f:β->R α}{y:β}:opt (some y) f=f y:=rfl
@[simp]def C_ {r:R α}:gd True r=r:=aM trivial
theorem j4{c:Prop}[Decidable c]{r:R α}(h:c):gd c r=r:=aM h
@[simp]def D9 {i:Nat}:iO i τ S=bif (τ.getD i .unb).mP then .no else .ok (τ.getD i .unb) S:=by unfold iO;cases(τ.getD i .unb).mP<;>rfl
@[simp]def Dg {xs:ae}:A.mP (.tup xs)=false:=rfl
@[simp]def CJ {xs:ae}:A.mP (.frz xs)=false:=rfl
@[simp]def Dt {i:Int}:A.mP (.int i)=false:=rfl
@[simp]def GI {i:Bool}:A.mP (.bl i)=false:=rfl
@[simp]def C9 {i:Str}:A.mP (.str i)=false:=rfl
@[simp]def B0 {i:Nat}:A.mP (.ref i)=false:=rfl
@[simp]def Cj:A.mP .non=false:=rfl
@[simp]def Cf {i j:Int}:A.mP (.rng i j)=false:=rfl
@[simp]def DJ {c:Str}:A.mP (.exn c)=false:=rfl
@[simp]def Lx:eC a τ S=.ok a S:=rfl
abbrev PF (f:A->A->iX->R A)(cb:Ex)(τ:ae)(a:A)(S:iX):R A:=(cb τ S).bind<|f a
@[simp]def D0 {f:A->A->iX->R A}{cb:Ex}:PF f cb τ a S=(cb τ S).bind (f a):=rfl
@[simp]def DZ {f:A->A->iX->R A}{ca cb:Ex}:iZ f ca cb τ S=(ca τ S).bind (PF f cb τ):=rfl
@[simp]def GY {f:A->iX->R A}{ca:Ex}:Lq f ca τ S=(ca τ S).bind f:=rfl
@[simp]def DG {c:Ex}:wR c τ S=(c τ S).bind λa S1=>opt (a.OP S1) λb=>.ok b S1:=rfl
abbrev aB (a:A)(S:iX):R Bool:=match a with
 | .bl b=>.ok b S
 | _=>.no
@[simp]def LL {b:Bool}:aB (.bl b) S=.ok b S:=rfl
@[simp]def Jo {c:Ex}:rB c τ S=(c τ S).bind aB:=rfl
@[simp]def C2 {c:Te}:wu c τ S=(c τ S).bind λb S1=>.ok (!b) S1:=rfl
abbrev Np (d:Te)(τ:ae)(b:Bool)(S:iX):R Bool:=match b with|true=>d τ S|false=>.ok false S
abbrev Rv (d:Te)(τ:ae)(b:Bool)(S:iX):R Bool:=match b with|true=>.ok true S|false=>d τ S
@[simp]def I_ {d:Te}:Np d τ true S=d τ S:=rfl
@[simp]def GK {d:Te}:Np d τ false S=.ok false S:=rfl
@[simp]def Lp {d:Te}:Rv d τ true S=.ok true S:=rfl
@[simp]def L7 {d:Te}:Rv d τ false S=d τ S:=rfl
@[simp]def D_ {c d:Te}:Ew c d τ S=(c τ S).bind (Np d τ):=rfl
@[simp]def F8 {c d:Te}:ON c d τ S=(c τ S).bind (Rv d τ):=rfl
@[simp]def CN:Fc τ S=.ok true S:=rfl
abbrev Ft (d:Ex)(τ:ae)(a:A)(S:iX):R A:=match a with | .bl true=>d τ S | .bl false=>.ok (.bl false) S|_=>.no
abbrev Oo (d:Ex)(τ:ae)(a:A)(S:iX):R A:=match a with | .bl true=>.ok (.bl true) S | .bl false=>d τ S|_=>.no
@[simp]def D5 {d:Ex}:Ft d τ (.bl true) S=d τ S:=rfl
@[simp]def Eb {d:Ex}:Ft d τ (.bl false) S=.ok (.bl false) S:=rfl
@[simp]def HM {d:Ex}:Oo d τ (.bl true) S=.ok (.bl true) S:=rfl
@[simp]def Gm {d:Ex}:Oo d τ (.bl false) S=d τ S:=rfl
@[simp]def Ck {c d:Ex}:yI c d τ S=(c τ S).bind (Ft d τ):=by
 unfold yI
 cases c τ S with
 | ok a S1=>cases a<;>first|rfl|(rename_i b;cases b<;>rfl)
 | _=>rfl
@[simp]def G_ {c d:Ex}:SI c d τ S=(c τ S).bind (Oo d τ):=by
 unfold SI
 cases c τ S with
 | ok a S1=>cases a<;>first|rfl|(rename_i b;cases b<;>rfl)
 | _=>rfl
abbrev LR (a:A)(S:iX):R A:=match a with | .bl b=>.ok (.bl !b) S|_=>.no
@[simp]def AF {b:Bool}:LR (.bl b) S=.ok (.bl !b) S:=rfl
@[simp]def CC {c:Ex}:GX c τ S=(c τ S).bind LR:=rfl
abbrev NP (c d:Ex)(τ:ae)(b:Bool)(S:iX):R A:=match b with|true=>c τ S|false=>d τ S
@[simp]def HF {c d:Ex}:NP c d τ true S=c τ S:=rfl
@[simp]def Gz {c d:Ex}:NP c d τ false S=d τ S:=rfl
@[simp]def F0 {t:Te}{c d:Ex}:RI t c d τ S=(t τ S).bind (NP c d τ):=rfl
@[simp]def CT:iY τ S=.ok [] S:=rfl
abbrev BG (a:A)(as:ae)(S:iX):R (ae):=.ok (a::as) S
abbrev Mc (d:nX)(τ:ae)(a:A)(S:iX):R (ae):=(d τ S).bind<|BG a
@[simp]def xE {as:ae}:BG a as S=.ok (a::as) S:=rfl
@[simp]def z_ {d:nX}:Mc d τ a S=(d τ S).bind (BG a):=rfl
@[simp]def zL {c:Ex}{d:nX}:iP c d τ S=(c τ S).bind (Mc d τ):=rfl
@[simp]def CG {d:nX}:qB d τ S=(d τ S).bind λas S1=>gd (as.length<=sizeLine) (.ok (.tup as) S1):=rfl
@[simp]def C1 {d:nX}:qq d τ S=(d τ S).bind newL:=rfl
theorem kE{as:ae}(h:as.length<=16777216):newL as S=.ok (.ref S.length) (S++[.lst as]):=j4<|by rw[dN];exact h
@[simp]def Ak {f:ae->iX->R A}{d:nX}:je f d τ S=(d τ S).bind f:=rfl
abbrev Q8 (r:R A):R A:=match r with
 | .ok a S=>.ok a S
 | _=>.no
@[simp]def Io:Q8 (.ok a S)=.ok a S:=rfl
abbrev SG (f:ae->iX->R A)(as:ae)(S:iX):R A:=Q8<|f as S
@[simp]def HK {f:ae->iX->R A}{as:ae}:SG f as S=Q8 (f as S):=rfl
@[simp]def Jc {f:ae->iX->R A}{d:nX}:eFn f d τ S=(d τ S).bind (SG f):=rfl
@[simp]def LA {g:A->iX->R A}:f1 g [a] S=g a S:=rfl
@[simp]def L6 {g:A->A->iX->R A}:f2 g [a,b] S=g a b S:=rfl
abbrev My (h:Pt)(τ:ae)(a:A)(l:bi)(S:iX):R A:=(h τ S).bind<|Qj a l
abbrev Sw (l h:Pt)(τ:ae)(a:A)(S:iX):R A:=(l τ S).bind<|My h τ a
@[simp]def DT {h:Pt}{l:bi}:My h τ a l S=(h τ S).bind (Qj a l):=rfl
@[simp]def FH {l h:Pt}:Sw l h τ a S=(l τ S).bind (My h τ a):=rfl
@[simp]def Ga {c:Ex}{l h:Pt}:QZ c l h τ S=(c τ S).bind (Sw l h τ):=rfl
@[simp]def AB:Cr τ S=.ok none S:=rfl
abbrev Sy (a:A)(S:iX):R (bi):=match a with
 | .int i=>.ok (some i) S
 | _=>.no
@[simp]def DW {i:Int}:Sy (.int i) S=.ok (some i) S:=rfl
@[simp]def zY {c:Ex}:Ed c τ S=(c τ S).bind Sy:=rfl
abbrev Mm (f:A->ae->iX->R A)(d:nX)(τ:ae)(o:A)(S:iX)(_:ae):R A:=(d τ S).bind<|f o
abbrev Ss (f:A->ae->iX->R A)(d:nX)(τ:ae)(o:A)(S:iX):R A:=opt (o.lst? S)<|Mm f d τ o S
@[simp]def CY {f:A->ae->iX->R A}{d:nX}{xs:ae}:Mm f d τ a S xs=(d τ S).bind (f a):=rfl
@[simp]def GW {f:A->ae->iX->R A}{d:nX}:Ss f d τ a S=opt (a.lst? S) (Mm f d τ a S):=rfl
@[simp]def Fi {f:A->ae->iX->R A}{c:Ex}{d:nX}:Ln f c d τ S=(c τ S).bind (Ss f d τ):=rfl
@[simp]def CU {f:A->ae->iX->R A}{c:Ex}:RX f c τ S=(c τ S).bind λo S1=>opt (o.lst? S1) λ_=>f o [] S1:=rfl
@[simp]def lst?_ref {n:Nat}:A.lst? S (.ref n)=iR S n:=rfl
abbrev RS.seq (r:RS)(d:Sm):RS:=match r with
 | .nx τ S=>d τ S
 | r=>r
@[simp]def RS.HA {d:Sm}:RS.seq (.nx τ S) d=d τ S:=rfl
@[simp]def RS.HL {d:Sm}:RS.seq (.rt a S) d=.rt a S:=rfl
@[simp]def RS.II {d:Sm}{c:Str}:RS.seq (.ex c S) d=.ex c S:=rfl
@[simp]def RS.F3 {d:Sm}:RS.seq (.bk τ S) d=.bk τ S:=rfl
@[simp]def RS.Ju {d:Sm}:RS.seq (.ct τ S) d=.ct τ S:=rfl
@[simp]def CH {c d:Sm}:jj c d τ S=RS.seq (c τ S) d:=by unfold jj RS.seq;cases c τ S<;>rfl
@[simp]def DA:nG τ S=.nx τ S:=rfl
@[simp]def xQ:OA τ S=.bk τ S:=rfl
@[simp]def Ag:O6 τ S=.ct τ S:=rfl
@[simp]def zW {e:Ex}:qK e τ S=RS.of (e τ S) λ_ S1=>.nx τ S1:=rfl
@[simp]def DP {e:Ex}:jO e τ S=RS.of (e τ S) .rt:=rfl
@[simp]def yY:Qv τ S=.rt .non S:=rfl
abbrev QE (c d:Sm)(τ:ae)(b:Bool)(S:iX):RS:=match b with|true=>c τ S|false=>d τ S
@[simp]def L8 {c d:Sm}:QE c d τ true S=c τ S:=rfl
@[simp]def Ma {c d:Sm}:QE c d τ false S=d τ S:=rfl
@[simp]def HX {t:Te}{c d:Sm}:wN t c d τ S=RS.of (t τ S) (QE c d τ):=rfl
abbrev Qd (g:Tg)(τ:ae)(a:A)(S:iX):RS:=RS.of (g a τ S) .nx
@[simp]def Dq {g:Tg}:Qd g τ a S=RS.of (g a τ S) .nx:=rfl
@[simp]def DO {e:Ex}{g:Tg}:ju e g τ S=RS.of (e τ S) (Qd g τ):=rfl
@[simp]def FU {i:Nat}:jV i a τ S=.ok (τ.set i a) S:=rfl
abbrev M3 (a o:A)(τ:ae)(i:A)(S:iX):R (ae):=(zX o i a S).bind λ_ S3=>.ok τ S3
abbrev SM (ci:Ex)(τ:ae)(a o:A)(S:iX):R (ae):=(ci τ S).bind<|M3 a o τ
@[simp]def Dz {o i:A}:M3 a o τ i S=(zX o i a S).bind λ_ S3=>.ok τ S3:=rfl
@[simp]def FN {ci:Ex}{o:A}:SM ci τ a o S=(ci τ S).bind (M3 a o τ):=rfl
@[simp]def GP {co ci:Ex}:yg co ci a τ S=(co τ S).bind (SM ci τ a):=rfl
@[simp]def HR {n:Nat}{gs:JE}{xs:ae}:Hj n gs (.tup xs) τ S=gd (xs.length=n) (gs xs τ S):=rfl
@[simp]def G8:Je [] τ S=.ok τ S:=rfl
@[simp]def GV {g:Tg}{gs:JE}{as:ae}:xg g gs (a::as) τ S=(g a τ S).bind (gs as):=rfl
abbrev RL (i j:Nat)(τ:ae)(as:ae)(S:iX):RS:=match as with
 | [a,b]=>.nx ((τ.set i a).set j b) S
 | _=>.no
@[simp]def HE {i j:Nat}:RL i j τ [a,b] S=.nx ((τ.set i a).set j b) S:=rfl
@[simp]def Ci {i j:Nat}{c:nX}:JT i j c τ S=RS.of (c τ S) (RL i j τ):=rfl
abbrev Fg (i:Nat)(τ:ae)(c:A)(S:iX):RS:=.nx (τ.set i c) S
abbrev PZ (i:Nat)(f:A->A->iX->R A)(τ:ae)(b:A)(S:iX):RS:=.of (f (τ.getD i .unb) b S)<|Fg i τ
@[simp]def zZ {i:Nat}:Fg i τ a S=.nx (τ.set i a) S:=rfl
@[simp]def Dp {i:Nat}{f:A->A->iX->R A}:PZ i f τ a S=.of (f (τ.getD i .unb) a S) (Fg i τ):=rfl
@[simp]def Cz {i:Nat}{f:A->A->iX->R A}{e:Ex}:OZ i f e τ S=bif (τ.getD i .unb).mP then .no else .of (e τ S) (PZ i f τ):=by
 unfold OZ;cases(τ.getD i .unb).mP<;>rfl
abbrev RU (o i:A)(τ:ae)(z:A)(S:iX):RS:=.of (zX o i z S) λ_ S6=>.nx τ S6
abbrev Q0 (f:A->A->iX->R A)(o i x:A)(τ:ae)(y:A)(S:iX):RS:=.of (f x y S)<|RU o i τ
abbrev Q3 (ce:Ex)(f:A->A->iX->R A)(o i:A)(τ:ae)(x:A)(S:iX):RS:=.of (ce τ S)<|Q0 f o i x τ
abbrev Si (ce:Ex)(f:A->A->iX->R A)(o:A)(τ:ae)(i:A)(S:iX):RS:=.of (J2 o i S)<|Q3 ce f o i τ
abbrev SH (ci ce:Ex)(f:A->A->iX->R A)(τ:ae)(o:A)(S:iX):RS:=.of (ci τ S)<|Si ce f o τ
@[simp]def Jf {o i:A}:RU o i τ a S=.of (zX o i a S) λ_ S6=>.nx τ S6:=rfl
@[simp]def GJ {f:A->A->iX->R A}{o i x:A}:Q0 f o i x τ a S=.of (f x a S) (RU o i τ):=rfl
@[simp]def FZ {ce:Ex}{f:A->A->iX->R A}{o i:A}:Q3 ce f o i τ a S=.of (ce τ S) (Q0 f o i a τ):=rfl
@[simp]def Iu {ce:Ex}{f:A->A->iX->R A}{o:A}:Si ce f o τ a S=.of (J2 o a S) (Q3 ce f o a τ):=rfl
@[simp]def G0 {ci ce:Ex}{f:A->A->iX->R A}:SH ci ce f τ a S=.of (ci τ S) (Si ce f a τ):=rfl
@[simp]def Aw {co ci ce:Ex}{f:A->A->iX->R A}:Qu co ci ce f τ S=RS.of (co τ S) (SH ci ce f τ):=rfl
abbrev RS.end (r:RS):R A:=match r with
 | .rt a S'=>.ok a S'
 | .nx _ S'=>.ok .non S'
 | .ex c S'=>.ex c S'
 | _=>.no
@[simp]def RS.Gh:RS.end (.rt a S)=.ok a S:=rfl
@[simp]def RS.Ii:RS.end (.nx τ S)=.ok .non S:=rfl
@[simp]def RS.GF {c:Str}:RS.end (.ex c S)=.ex c S:=rfl
theorem uX {N:ar}{m:Sm}{as:ae}:kL N m as S=RS.end (m (as++List.replicate (N.length-as.length) .unb) S):=by
 unfold kL RS.end;cases m (as++List.replicate (N.length-as.length) .unb) S<;>rfl
@[simp]def Jl {i j:Int}:jJ (.int i) (.int j) S=.ok (.int<|i+j) S:=rfl
@[simp]def Jr {i j:Int}:aSub (.int i) (.int j) S=.ok (.int<|i-j) S:=rfl
@[simp]def Gg {i j:Int}:Q9 (.int i) (.int j) S=.ok (.int<|i+j) S:=rfl
theorem DB{i j:Int}(h:-18446744073709551616<i)(h':i<18446744073709551616):nV (.int i) (.int j) S=.ok (.int<|i * j) S:=j4<|by unfold An;simp;left;exact⟨by omega,by omega⟩
def mul_r{i j:Int}(h:-18446744073709551616<j)(h':j<18446744073709551616):nV (.int i) (.int j) S=.ok (.int<|i * j) S:=j4<|by unfold An;simp;right;exact⟨(),()⟩
def BU{i j:Int}(h:0<j)(h':j<1073741824):Av (.int i) (.int j) S=.ok (.int<|i / j) S:=j4 ⟨h,()⟩
def xr{i j:Int}(h:0<j):uC (.int i) (.int j) S=.ok (.int<|i % j) S:=j4 h
@[simp]def Ls {i j:Int}:EH (.int i) (.int j) S=.ok (.bl<|decide<|i<j) S:=rfl
@[simp]def LK {i j:Int}:JG (.int i) (.int j) S=.ok (.bl<|decide<|i<=j) S:=rfl
@[simp]def Lj {i j:Int}:Hl (.int i) (.int j) S=.ok (.bl<|decide<|j<i) S:=rfl
@[simp]def Lo {i j:Int}:OS (.int i) (.int j) S=.ok (.bl<|decide<|j<=i) S:=rfl
@[simp]def LO {i j:Bool}:BY false (.bl i) (.bl j) S=.ok (.bl<|i == j) S:=rfl
@[simp]def Gp {i j:Bool}:BY true (.bl i) (.bl j) S=.ok (.bl<|i != j) S:=rfl
@[simp]def Gx {i:Int}:EK (.int i) S=.ok (.int<|-i) S:=rfl
@[simp]def FO {xs:ae}:kq (.tup xs) S=.ok (.int xs.length) S:=rfl
@[simp]def FQ {xs:ae}:kq (.frz xs) S=.ok (.int xs.length) S:=rfl
@[simp]def HU {n:Nat}:kq (.ref n) S=opt (iR S n) λxs=>.ok (.int xs.length) S:=rfl
@[simp]def Im {i:Int}:Nl (.int i) S=.ok (.int<|if i<0 then -i else i) S:=rfl
@[simp]def Cu {i j:Int}:B3 (.int i) (.int j) S=.ok (.int<|if j>i then j else i) S:=rfl
@[simp]def CA {i j:Int}:DN (.int i) (.int j) S=.ok (.int<|if j<i then j else i) S:=rfl
@[simp]def Dw {i:Int}:vH (.int i) S=.ok (.int i) S:=rfl
@[simp]def C7 {i:Bool}:vH (.bl i) S=.ok (.int<|if i then 1 else 0) S:=rfl
@[simp]def xj {i j:Int}:qz (.int i) (.int j) S=.ok (.rng i j) S:=rfl
@[simp]def Mj {xs:ae}{i:Int}:lX (.tup xs) (.int i) S=opt (lK xs i) λx=>.ok x S:=rfl
@[simp]def L3 {xs:ae}{i:Int}:lX (.frz xs) (.int i) S=opt (lK xs i) λx=>.ok x S:=rfl
@[simp]def LJ {n:Nat}{i:Int}:lX (.ref n) (.int i) S=opt (iR S n) λxs=>opt (lK xs i) λx=>.ok x S:=rfl
@[simp]def FY {n:Nat}{k:Int}:zX (.ref n) (.int k) a S=opt (iR S n) λxs=>opt (rC xs.length k) λj=>.ok Unit.unit (S.set n<|.lst<|xs.set j a):=rfl
@[simp]def FJ {n:Nat}{i:Int}:J2 (.ref n) (.int i) S=opt (iR S n) λxs=>gd (0<=i) (opt (xs[i.toNat]?) λx=>.ok x S):=rfl
theorem sY{i j:Int}(h:vY i j):qo (.rng i j) S=.ok (.ref S.length) (S++[.lst<|(i9 i j).map .int]):=j4 h
def Bd{i j:Int}(h:vY i j):lY (.rng i j) S=.ok (.tup<|(i9 i j).map .int) S:=j4 h
@[simp]def DF {xs:ae}:qo (.tup xs) S=.ok (.ref S.length) (S++[.lst xs]):=rfl
@[simp]def CZ {xs:ae}:qo (.frz xs) S=.ok (.ref S.length) (S++[.lst xs]):=rfl
@[simp]def CI {n:Nat}:qo (.ref n) S=opt (iR S n) λxs=>.ok (.ref S.length) (S++[.lst xs]):=rfl
@[simp]def Ae {xs:ae}:lY (.tup xs) S=.ok (.tup xs) S:=rfl
@[simp]def y_ {n:Nat}:lY (.ref n) S=opt (iR S n) λxs=>.ok (.tup xs) S:=rfl
@[simp]def HN {xs:ae}:GU (.tup xs) S=.ok (.tup xs.reverse) S:=rfl
@[simp]def F1 {n:Nat}:GU (.ref n) S=opt (iR S n) λxs=>.ok (.ref S.length) (S++[.lst xs.reverse]):=rfl
@[simp]def Ly {n:Nat}{l u:bi}:Qj (.ref n) l u S=opt (iR S n) λxs=>.ok (.ref S.length) (S++[.lst<|uF xs l u]):=rfl
@[simp]def vD {n:Nat}:oB (.ref n) [a] S=opt (iR S n) λxs=>gd (xs.length<sizeLine) (.ok .non<|S.set n<|.lst<|xs++[a]):=rfl
@[simp]def Gd {b:Bool}:A.OP (.bl b) S=some b:=rfl
@[simp]def D4 {i:Int}:A.OP (.int i) S=some (i != 0):=rfl
theorem MC{o:O}:(S++[o])[S.length]?=some o:=by simp
@[simp]def jh {xs:ae}:iR (S++[.lst xs]) S.length=some xs:=rO MC
theorem jL{o:O}{n:Nat}(h:iR S n=some xs):iR (S++[o]) n=some xs:=by
 have h':=ja h;exact rO<|by rw[bM (aI.mp h').1];exact h'
def jN{n:Nat}(h:iR S n=some xs):n<S.length:=(aI.mp<|ja h).1
def jA{n:Nat}(h:n<S.length):iR (S.set n<|.lst ys) n=some ys:=rO<|bQ h
def jy{n:Nat}(h:n≠m):iR (S.set n<|.lst ys) m=iR S m:=by unfold iR;rw[bR h]
def yi{xs:ae}{i:Int}{k:Nat}{x:A}(h:i=k)(hx:xs[k]?=some x):lK xs i=some x:=by rw[h];exact JZ hx
def kM{n:Nat}{i:Int}{k:Nat}(h:i=k)(hk:k<n):rC n i=some k:=by
 subst h;unfold rC;rw[aM (),aM ()];simp
end
structure Kp (b:Nat->Prop)(S S':iX):Prop where
 len:S.length<=S'.length
 obj:∀(n:Nat) (o:O),¬b n->S[n]?=some o->S'[n]?=some o
meta abbrev o9:=Kp λ_=>False
def Kp.lst{b:Nat->Prop}(h:Kp b S S')(n:Nat)(xs:ae)(hb:¬b n)(e:iR S n=some xs):iR S' n=some xs:=rO<|h.obj n _ hb<|ja e
def Kp.refl{b:Nat->Prop}:Kp b S S:=⟨aN _,λ_ _ _ h=>h⟩
def Kp.trans{b:Nat->Prop}(h:Kp b S S1)(h':Kp b S1 S2):Kp b S S2:=⟨bX h.len h'.len,λn xs hb e=>h'.obj n xs hb<|h.obj n xs hb e⟩
def Jh{S:iX}{n:Nat}(e:S[n]?=some o):n<S.length:=(aI.mp e).1
def Kp.lay{b:Nat->Prop}{o:O}(h:Kp b S S1):Kp b S (S1++[o]):=⟨bX h.len<|by simp,λn xs hb e=>by
 have:=h.obj n xs hb e;rw[bM<|Jh this];exact this⟩
def Kp.Sa{b:Nat->Prop}{S S1:iX}(h:Kp b S S1)(hm:b m\/S.length<=m):Kp b S (S1.set m o):=⟨by rw[bw];exact h.len,λn xs hb e=>by
 have:m≠n:=λz=>by
  subst z
  rcases hm with z|z
  ·exact hb z
  ·exact absurd (Jh e) ()
 rw[bR this];exact h.obj n xs hb e⟩
def Kp.set{b:Nat->Prop}{S S1:iX}(h:Kp b S S1)(hm:b m\/S.length<=m):Kp b S (S1.set m<|.lst ys):=h.Sa hm
theorem rJ{t:Te}{c:Sm}(Inv:ae->iX->Prop)(μ:ae->iX->Nat)(Post:RS->Prop)
  (h:∀τ S,Inv τ S->(∃S1,t τ S=.ok false S1/\Post (.nx τ S1))\/(∃S1,t τ S=.ok true S1/\((∃τ' S',c τ S1=.nx τ' S'/\Inv τ' S'/\μ τ' S'<μ τ S)\/(∃a S',c τ S1=.rt a S'/\Post (.rt a S'))))) :
  ∀n τ S,Inv τ S->μ τ S<n->Post (kG t c n τ S)
 | 0,_,_,_,hn=>absurd hn (fC _)
 | n+1,τ,S,hi,hn=>by
  unfold kG
  rcases h τ S hi with⟨S1,e,q⟩|⟨S1,e,⟨τ',S',e2,hi',hm⟩|⟨a,S',e2,q⟩⟩
  ·rw[e];exact q
  ·rw[e];show Post (match c τ S1 with
    | .nx τ' S'=>kG t c n τ' S'
    | .ct τ' S'=>kG t c n τ' S'
    | .bk τ' S'=>.nx τ' S'
    | r=>r)
   rw[e2];exact rJ Inv μ Post h n τ' S' hi' ()
  ·rw[e];show Post (match c τ S1 with
    | .nx τ' S'=>kG t c n τ' S'
    | .ct τ' S'=>kG t c n τ' S'
    | .bk τ' S'=>.nx τ' S'
    | r=>r)
   rw[e2];exact q
theorem vL{s:Src}{g:Tg}{c:Sm}(Inv:Nat->ae->iX->Prop)(Post:RS->Prop)
  (step:∀i τ S,i<s.k->Inv i τ S->∃x τ1 S1,s.get i S=some x/\g x τ S=.ok τ1 S1/\((∃τ' S',c τ1 S1=.nx τ' S'/\Inv (i+1) τ' S')\/(∃a S',c τ1 S1=.rt a S'/\Post (.rt a S'))))
  (fin:∀τ S,Inv s.k τ S->s.fin S=true/\Post (.nx τ S)):∀k i τ S,k+i=s.k->Inv i τ S->Post (mX s g c k i τ S)
 | 0,i,τ,S,hk,hi=>by
  have:i=s.k:=()
  subst this;obtain⟨hf,q⟩:=fin τ S hi;unfold mX;rw[aM hf];exact q
 | k+1,i,τ,S,hk,hi=>by
  obtain⟨x,τ1,S1,hx,hg,h⟩:=step i τ S () hi;unfold mX;rw[hx];show Post (RS.of (g x τ S) λτ1 S1=>match c τ1 S1 with
   | .nx τ' S'=>mX s g c k (i+1) τ' S'
   | .ct τ' S'=>mX s g c k (i+1) τ' S'
   | .bk τ' S'=>.nx τ' S'
   | r=>r)
  rw[hg];show Post (match c τ1 S1 with
   | .nx τ' S'=>mX s g c k (i+1) τ' S'
   | .ct τ' S'=>mX s g c k (i+1) τ' S'
   | .bk τ' S'=>.nx τ' S'
   | r=>r)
  rcases h with⟨τ',S',e,hi'⟩|⟨a,S',e,q⟩
  ·rw[e];exact vL Inv Post step fin k (i+1) τ' S' () hi'
  ·rw[e];exact q
def oG{lo hi:Int}{c:Sm}{src:Ic}{τ:ae}(hs:src τ S=.ok (pI lo hi) S1)(Inv:Nat->ae->iX->Prop)(Post:RS->Prop)(h0:Inv 0 τ S1)
  (step:∀(i:Nat) τ S,(i:Int)<hi-lo->Inv i τ S->(∃τ' S',c (τ.set j<|.int<|lo+i) S=.nx τ' S'/\Inv (i+1) τ' S')\/(∃a S',c (τ.set j<|.int<|lo+i) S=.rt a S'/\Post (.rt a S')))
  (fin:∀τ S,Inv (hi-lo).toNat τ S->Post (.nx τ S)):Post (mV src (jV j) c τ S):=by
 unfold mV;rw[hs];refine vL (s:=pI lo hi) Inv Post (λi τ S hi' h=>?_) (λτ S h=>⟨rfl,fin τ S h⟩) _ 0 τ S1 rfl h0;have hi':i<(hi-lo).toNat:=hi';exact⟨.int<|lo+i,_,S,aM hi',rfl,step i τ S () h⟩
def Nm{xs:ae}{g:Tg}{c:Sm}{src:Ic}(hs:src τ S=.ok (zb xs) S1)(Inv:Nat->ae->iX->Prop)(Post:RS->Prop)(h0:Inv 0 τ S1)
  (step:∀(i:Nat) x τ S,xs[i]?=some x->Inv i τ S->∃τ1 S1,g (.tup [.int i,x]) τ S=.ok τ1 S1/\((∃τ' S',c τ1 S1=.nx τ' S'/\Inv (i+1) τ' S')\/(∃a S',c τ1 S1=.rt a S'/\Post (.rt a S'))))
  (fin:∀τ S,Inv xs.length τ S->Post (.nx τ S)):Post (mV src g c τ S):=by
 unfold mV;rw[hs];refine vL (s:=zb xs) Inv Post (λi τ S hi' h=>?_) (λτ S h=>⟨rfl,fin τ S h⟩) _ 0 τ S1 rfl h0;have hi':i<xs.length:=hi';obtain⟨τ1,S1,e,q⟩:=step i xs[i] τ S (aG hi') h;exact⟨.tup [.int i,xs[i]],τ1,S1,by show(xs[i]?).map _=_;rw[aG hi'];rfl,e,q⟩
def Lf{n:Nat}{xs:ae}{g:Tg}{c:Sm}{src:Ic}(hs:src τ S=.ok (sV n xs.length) S1)(Inv:Nat->ae->iX->Prop)(Post:RS->Prop)(h0:Inv 0 τ S1)(hl:∀i τ S,Inv i τ S->iR S n=some xs)
  (step:∀(i:Nat) x τ S,xs[i]?=some x->Inv i τ S->∃τ1 S1,g x τ S=.ok τ1 S1/\((∃τ' S',c τ1 S1=.nx τ' S'/\Inv (i+1) τ' S')\/(∃a S',c τ1 S1=.rt a S'/\Post (.rt a S'))))
  (fin:∀τ S,Inv xs.length τ S->Post (.nx τ S)):Post (mV src g c τ S):=by
 unfold mV;rw[hs];refine vL (s:=sV n xs.length) Inv Post (λi τ S hi' h=>?_) (λτ S h=>⟨?_,fin τ S h⟩) _ 0 τ S1 rfl h0
 ·have hi':i<xs.length:=hi';obtain⟨τ1,S1,e,q⟩:=step i xs[i] τ S (aG hi') h;exact⟨xs[i],τ1,S1,by show(iR S n).bind _=_;rw[hl i τ S h];exact aG hi',e,q⟩
 ·show(match iR S n with
   | some ys=>decide (ys.length<=xs.length)
   | none=>false)=true
  rw[hl _ τ S h];exact bH<|aN _
@[simp]def nZ {c:Ex}{τ:ae}{S S1:iX}{j:Int}(h:c τ S=.ok (.int j) S1)(hb:bnd j):p_ c τ S=.ok (pI 0 j) S1:=by
 unfold p_;rw[h];exact j4 hb
def sF{c d:Ex}{i j:Int}(h:c τ S=.ok (.int i) S1)(h':d τ S1=.ok (.int j) S2)(hb:bnd i)(hb':bnd j):o4 c d τ S=.ok (pI i j) S2:=by
 unfold o4;rw[h];show(d τ S1).bind _=_;rw[h'];exact j4 ⟨hb,hb'⟩
def BF{c:Ex}{n:Nat}{xs:ae}(h:c τ S=.ok (.ref n) S1)(hl:iR S1 n=some xs):zI c τ S=.ok (sV n xs.length) S1:=by
 unfold zI;rw[h];show opt (iR S1 n) _=_;rw[hl];rfl
def MI{c:Ex}(h:c τ S=.ok (.tup xs) S1):KL c τ S=.ok (zb xs) S1:=by unfold KL;rw[h];rfl
theorem yt{s:Src}{g:Tg}{t:Te}{e:Ex}{P:iX->Prop}{T:ae->Prop}(it:Nat->A)(p:Nat->Bool)(f:Nat->A)
  (hget:∀i S,i<s.k->P S->s.get i S=some (it i)) (hfin:∀S,P S->s.fin S=true)
  (step:∀i τ S,i<s.k->T τ->P S->∃τ1 S1 S2,g (it i) τ S=.ok τ1 S1/\t τ1 S1=.ok (p i) S2/\T τ1/\(p i=false->P S2)/\(p i=true->∃S3,e τ1 S2=.ok (f i) S3/\P S3)) :
  ∀k i τ S,k+i=s.k->T τ->P S->∃S',nF s g t e k i τ S=.ok (((List.range' i k).filter p).map f) S'/\P S'
 | 0,i,τ,S,hk,hT,hP=>⟨S,by unfold nF;rw[aM<|hfin S hP];rfl,hP⟩
 | k+1,i,τ,S,hk,hT,hP=>by
  obtain⟨τ1,S1,S2,hg,ht,hT1,hF,hTr⟩:=step i τ S (by omega) hT hP;unfold nF;rw[hget i S (by omega) hP,j_,hg,R.mw,ht,R.mw,e9,iB]
  cases hp:p i with
  | false=>
   obtain⟨S',h1,h2⟩:=yt it p f hget hfin step k (i+1) τ1 S2 (by omega) hT1<|hF hp;exact⟨S',by simpa using h1,h2⟩
  | true=>
   obtain⟨S3,he,hP3⟩:=hTr hp;obtain⟨S',h1,h2⟩:=yt it p f hget hfin step k (i+1) τ1 S3 (by omega) hT1 hP3;refine⟨S',?_,h2⟩
   skip
   rw[he,R.mw,h1];rfl
def wX{s:Src}{src:Ic}{t:Te}{e:Ex}{S1:iX}(hs:src τ S=.ok s S1)(it:Nat->A)(p:Nat->Bool)(f:Nat->A)(hget:∀i,i<s.k->s.get i S1=some (it i))(hfin:s.fin S1=true)
  (ht:∀i,i<s.k->t (it i::n9 cap τ) S1=.ok (p i) S1) (he:∀i,i<s.k->p i=true->e (it i::n9 cap τ) S1=.ok (f i) S1) (hl:s.k<=16777216) :
  pe (none::cap) src (jV 0) t e τ S=.ok (.ref S1.length) (S1++[.lst<|((List.range s.k).filter p).map f]):=by
 unfold pe;rw[hs,R.ki];obtain⟨S',h1,h2⟩:=yt (s:=s) (g:=jV 0) (t:=t) (e:=e) (P:=λS=>S=S1) (T:=λτ'=>∃y,τ'=y::n9 cap τ) it p f (λi S hi h=>by subst h;exact hget i hi) (λS h=>by subst h;exact hfin)
  (λi τ' S hi ⟨y,hy⟩ h=>by
   subst h hy;exact⟨it i::n9 cap τ,S,S,rfl,ht i hi,⟨_,rfl⟩,λ_=>rfl,λhp=>⟨S,he i hi hp,rfl⟩⟩) s.k 0 (n9 (none::cap) τ) S1 rfl ⟨_,rfl⟩ rfl
 subst h2;rw[h1,R.mw,gu];refine kE ?_;rw[aK];refine bX (gb _ _) ?_;rw[List.length_range'];exact hl
def sX{α β:Type}(xs:List α)(p:α->Bool)(f:α->β):∀(d:α) ,(((List.range xs.length).filter λi=>p<|xs.getD i d).map λi=>f<|xs.getD i d)=(xs.filter p).map f:=by
 intro d
 induction xs with
 | nil=>rfl
 | cons x xs ih=>
  rw[bq,fY,iB,iB];have e:((List.filter (λi=>p<|(x::xs).getD i d)<|List.map Nat.succ<|List.range xs.length).map λi=>f<|(x::xs).getD i d)=(xs.filter p).map f:=by
   rw[iJ,dM];rw[<- ih];rfl
  show List.map _ (if p x=true then _ else _)=List.map f (if p x=true then _ else _);by_cases hp:p x=true
  ·rw[aM hp,aM hp,dO,dO,e];rfl
  ·rw[aL hp,aL hp,e]
def v8{lo hi:Int}{src:Ic}{t:Te}{e:Ex}{S1:iX}(hs:src τ S=.ok (pI lo hi) S1)(p:Int->Bool)(f:Int->A)
  (ht:∀k,lo<=k->k<hi->t (.int k::n9 cap τ) S1=.ok (p k) S1) (he:∀k,lo<=k->k<hi->p k=true->e (.int k::n9 cap τ) S1=.ok (f k) S1) (hl:(hi-lo).toNat<=16777216) :
  pe (none::cap) src (jV 0) t e τ S=.ok (.ref S1.length) (S1++[.lst<|((i9 lo hi).filter p).map f]):=by
 rw[wX hs (λi=>.int<|lo+i) (λi=>p<|lo+i) (λi=>f<|lo+i) (λi hi'=>aM hi') rfl (λi hi'=>ht _ () (by have:i<(hi-lo).toNat:=hi';lia)) (λi hi'=>he _ () (by have:i<(hi-lo).toNat:=hi';lia)) hl];unfold i9;rw[iJ,dM];rfl
@[simp]def IV {cap:List<|bo}{τ:ae}:n9 (none::cap) τ=.unb::n9 cap τ:=rfl
@[simp]def Iw {cap:List<|bo}{τ:ae}{j:Nat}:n9 (some j::cap) τ=τ.getD j .unb::n9 cap τ:=rfl
@[simp]def zS {τ:ae}:n9 [] τ=[]:=rfl
theorem xT{x:A}:lK (x::xs) 0=some x:=yi (k:=0) rfl rfl
def Gu{x:A}:lK (x::y::xs) 1=some y:=yi (k:=1) rfl rfl
def kg{ns:ag}{i:Int}{k:Nat}{x:Int}(h:i=k)(hx:ns[k]?=some x):lK (ns.map A.int) i=some (.int x):=yi h<|by rw[a_,hx];rfl
def kW{j:Int}(h:-4611686018427387904<=j)(h':j<4611686018427387904):bnd j:=⟨(),()⟩
def rL{i j:Int}(h1:-1000000<=i)(h2:i<=1000000)(h3:-1000000<=j)(h4:j<=1000000)(h5:j-i<=1000):vY i j:=⟨⟨(),(),(),()⟩,()⟩
theorem ints_map:∀(ns:ag),A.ints (ns.map .int)=some ns
 | []=>rfl
 | n::ns=>by show(A.ints<|ns.map .int).map (n::·)=_;rw[ints_map ns];rfl
def EI(xs:ae)(j:Nat)(h:j<xs.length):uF xs none (some (j:Int))=xs.take j:=by
 unfold uF;rw[HT.C8,HT.Ah,gU,Nat.min_eq_left (),iF]
def EZ(xs:ae)(j:Nat)(h:j<xs.length):uF xs (some<|(j:Int)+1) none=xs.drop (j+1):=by
 unfold uF;rw[show((j:Int)+1)=((j+1:Nat):Int)by lia,HT.C8,HT.Ah,Nat.min_eq_left ()];exact cZ<|by rw[cC];exact aN _
theorem sN{n:Nat}:∀(xs ys:ag),tN (yx S<|n+1) (xs.map .int) (ys.map .int)=some (decide<|xs=ys)
 | [],[]=>rfl
 | [],_::_=>rfl
 | _::_,[]=>rfl
 | x::xs,y::ys=>by
  skip
  skip
  show Option.map _ (tN (yx S<|n+1) (xs.map .int)<|ys.map .int)=_;rw[sN xs ys]
  skip
  by_cases h1:x=y<;>by_cases h2:xs=ys<;>simp[h1,h2]
def z9{xs ys:ag}:uL false (.tup<|xs.map .int) (.tup<|ys.map .int) S=.ok (.bl<|decide<|xs=ys) S:=by
 unfold uL;show opt (tN (yx S 11) _ _) _=_;rw[sN];rfl
@[simp]def LB {S:iX}{x y:Bool}:uL false (.bl x) (.bl y) S=.ok (.bl<|x == y) S:=rfl
@[simp]def LS {S:iX}{x y:Bool}:uL true (.bl x) (.bl y) S=.ok (.bl<|!(x == y)) S:=rfl
@[simp]def LU {S:iX}{x y:Int}:uL false (.int x) (.int y) S=.ok (.bl<|x == y) S:=rfl
@[simp]def Mf {S:iX}{x y:Int}:uL true (.int x) (.int y) S=.ok (.bl<|!(x == y)) S:=rfl
@[simp]def DM {S:iX}:BY false .non .non S=.ok (.bl true) S:=rfl
@[simp]def DH {S:iX}{xs:ae}:BY false (.tup xs) .non S=.ok (.bl false) S:=rfl
@[simp]def Cm {S:iX}{n:Nat}:BY false (.ref n) .non S=.ok (.bl false) S:=rfl
@[simp]def z0 {S:iX}:BY true .non .non S=.ok (.bl false) S:=rfl
@[simp]def zD {S:iX}{xs:ae}:BY true (.tup xs) .non S=.ok (.bl true) S:=rfl
@[simp]def zG {S:iX}{n:Nat}:BY true (.ref n) .non S=.ok (.bl true) S:=rfl
@[simp]def C5 {S:iX}{x:A}{c:String}:BR x (.ty c) S=opt (x.kd S) λk=>opt (xW k c) λb=>.ok (.bl b) S:=rfl
@[simp]def L_ {S:iX}{b:Bool}:A.kd (.bl b) S=some .bl:=rfl
@[simp]def Hi {S:iX}{b:Int}:A.kd (.int b) S=some .int:=rfl
@[simp]def IM {S:iX}{b:ae}:A.kd (.tup b) S=some .tup:=rfl
@[simp]def Jq {S:iX}:A.kd .non S=some .non:=rfl
@[simp]def G9 {S:iX}{b:Str}:A.kd (.str b) S=some .str:=rfl
@[simp]def GD {S:iX}{n:Nat}:A.kd (.ref n) S=(iR S n).map λ_=>.lst:=rfl
@[simp]def Gj {S:iX}:newL [] S=.ok (.ref S.length) (S++[.lst []]):=kE<|by simp
@[simp]def FG {S:iX}{x0:A}:newL [x0] S=.ok (.ref S.length) (S++[.lst [x0]]):=kE<|by simp
@[simp]def HJ {S:iX}{x0 x1:A}:newL [x0,x1] S=.ok (.ref S.length) (S++[.lst [x0,x1]]):=kE<|by simp
@[simp]def Hh {S:iX}{x0 x1 x2:A}:newL [x0,x1,x2] S=.ok (.ref S.length) (S++[.lst [x0,x1,x2]]):=kE<|by simp
@[simp]def IC {S:iX}{x0 x1 x2 x3:A}:newL [x0,x1,x2,x3] S=.ok (.ref S.length) (S++[.lst [x0,x1,x2,x3]]):=kE<|by simp
@[simp]def Fq {S:iX}{x0 x1 x2 x3 x4:A}:newL [x0,x1,x2,x3,x4] S=.ok (.ref S.length) (S++[.lst [x0,x1,x2,x3,x4]]):=kE<|by simp
@[simp]def IL {S:iX}{x0 x1 x2 x3 x4 x5:A}:newL [x0,x1,x2,x3,x4,x5] S=.ok (.ref S.length) (S++[.lst [x0,x1,x2,x3,x4,x5]]):=kE<|by simp
@[simp]def Hs {S:iX}{x0 x1 x2 x3 x4 x5 x6:A}:newL [x0,x1,x2,x3,x4,x5,x6] S=.ok (.ref S.length) (S++[.lst [x0,x1,x2,x3,x4,x5,x6]]):=kE<|by simp
@[simp]def F_ {S:iX}{x0 x1 x2 x3 x4 x5 x6 x7:A}:newL [x0,x1,x2,x3,x4,x5,x6,x7] S=.ok (.ref S.length) (S++[.lst [x0,x1,x2,x3,x4,x5,x6,x7]]):=kE<|by simp
@[simp]def GR {S:iX}{x0 x1 x2 x3 x4 x5 x6 x7 x8:A}:newL [x0,x1,x2,x3,x4,x5,x6,x7,x8] S=.ok (.ref S.length) (S++[.lst [x0,x1,x2,x3,x4,x5,x6,x7,x8]]):=kE<|by simp
@[simp]def B9 {S:iX}{x0 x1 x2 x3 x4 x5 x6 x7 x8 x9:A}:newL [x0,x1,x2,x3,x4,x5,x6,x7,x8,x9] S=.ok (.ref S.length) (S++[.lst [x0,x1,x2,x3,x4,x5,x6,x7,x8,x9]]):=kE<|by simp
theorem mS{α:Type}{n:Nat}{r:R α}(h:n<=16777216):gd (n<=sizeLine) r=r:=j4<|by rw[dN];exact h
def zK{α:Type}{n:Nat}{r:R α}(h:n<16777216):gd (n<sizeLine) r=r:=j4<|by rw[dN];exact h
def LX {x:A}{xs:ae}:(x::xs).getD 0 .unb=x:=rfl
def LF {x:A}{xs:ae}{n:Nat}:(x::xs).getD (n+1) .unb=xs.getD n .unb:=rfl
def Pw {x y:A}{xs:ae}:(x::xs).set 0 y=y::xs:=rfl
def sets {x y:A}{xs:ae}{n:Nat}:(x::xs).set (n+1) y=x::xs.set n y:=rfl
def rep0 {x:A}:List.replicate 0 x=[]:=rfl
def reps {x:A}{n:Nat}:List.replicate (n+1) x=x::List.replicate n x:=rfl
def Pg {x:A}{xs ys:ae}:(x::xs)++ys=x::(xs++ys):=rfl
def Pq {ys:ae}:[]++ys=ys:=rfl
def Qy{S:iX}{n:Nat}{xs ys:ae}(h:iR S n=some xs)(h':iR S m=some ys)(hl:xs.length+ys.length<=16777216):jJ (.ref n) (.ref m) S=.ok (.ref S.length) (S++[.lst<|xs++ys]):=by
 show opt (iR S n) _=_;rw[h,j_,h',j_];exact j4<|by rw[dN];exact hl
def jq:type_of% (anI @R.ki<|anI @R.CP<|anI @R.mw<|anI @RS.of_ok<|anI @RS.LG<|anI @j_<|anI @C_<|anI @D9<|anI @Dg<|anI @CJ<|anI @Dt<|anI @GI<|anI @C9<|anI @B0<|anI @Cj<|anI @Cf<|anI @DJ<|anI @Lx<|anI @DZ<|anI @GY<|anI @DG<|anI @LL<|anI @Jo<|anI @C2<|anI @D_<|anI @F8<|anI @CN<|anI @D5<|anI @Eb<|anI @HM<|anI @Gm<|anI @Ck<|anI @G_<|anI @AF<|anI @CC<|anI @F0<|anI @CT<|anI @zL<|anI @CG<|anI @C1<|anI @Ak<|anI @Io<|anI @Jc<|anI @LA<|anI @L6<|anI @Ga<|anI @AB<|anI @DW<|anI @zY<|anI @Fi<|anI @CU<|anI @lst?_ref<|anI @RS.HA<|anI @RS.HL<|anI @RS.II<|anI @RS.F3<|anI @RS.Ju<|anI @CH<|anI @DA<|anI @xQ<|anI @Ag<|anI @zW<|anI @DP<|anI @yY<|anI @HX<|anI @DO<|anI @FU<|anI @GP<|anI @HR<|anI @G8<|anI @GV<|anI @HE<|anI @Ci<|anI @Cz<|anI @Aw<|anI @RS.Gh<|anI @RS.Ii<|anI @RS.GF<|anI @Jl<|anI @Jr<|anI @Gg<|anI @Ls<|anI @LK<|anI @Lj<|anI @Lo<|anI @LO<|anI @Gp<|anI @Gx<|anI @FO<|anI @FQ<|anI @HU<|anI @Im<|anI @Cu<|anI @CA<|anI @Dw<|anI @C7<|anI @xj<|anI @Mj<|anI @L3<|anI @LJ<|anI @FY<|anI @FJ<|anI @DF<|anI @CZ<|anI @CI<|anI @Ae<|anI @y_<|anI @HN<|anI @F1<|anI @Ly<|anI @vD<|anI @Gd<|anI @D4<|anI @jh<|anI @IV<|anI @Iw<|anI @zS<|anI @LB<|anI @LS<|anI @LU<|anI @Mf<|anI @DM<|anI @DH<|anI @Cm<|anI @z0<|anI @zD<|anI @zG<|anI @C5<|anI @L_<|anI @Hi<|anI @IM<|anI @Jq<|anI @G9<|anI @GD<|anI @Gj<|anI @FG<|anI @HJ<|anI @Hh<|anI @IC<|anI @Fq<|anI @IL<|anI @Hs<|anI @F_<|anI @GR<|anI @B9<|anI @LX<|anI @LF<|anI @Pw<|anI @sets<|anI @rep0<|anI @reps<|anI @Pg<|anI @Pq<|anI @uX<|anI @D0<|anI @I_<|anI @GK<|anI @Lp<|anI @L7<|anI @HF<|anI @Gz<|anI @xE<|anI @z_<|anI @HK<|anI @DT<|anI @FH<|anI @CY<|anI @GW<|anI @L8<|anI @Ma<|anI @Dq<|anI @Dz<|anI @FN<|anI @zZ<|anI @Dp<|anI @G0<|anI @Iu<|anI @FZ<|anI @GJ<|@Jf):=anI @R.ki<|anI @R.CP<|anI @R.mw<|anI @RS.of_ok<|anI @RS.LG<|anI @j_<|anI @C_<|anI @D9<|anI @Dg<|anI @CJ<|anI @Dt<|anI @GI<|anI @C9<|anI @B0<|anI @Cj<|anI @Cf<|anI @DJ<|anI @Lx<|anI @DZ<|anI @GY<|anI @DG<|anI @LL<|anI @Jo<|anI @C2<|anI @D_<|anI @F8<|anI @CN<|anI @D5<|anI @Eb<|anI @HM<|anI @Gm<|anI @Ck<|anI @G_<|anI @AF<|anI @CC<|anI @F0<|anI @CT<|anI @zL<|anI @CG<|anI @C1<|anI @Ak<|anI @Io<|anI @Jc<|anI @LA<|anI @L6<|anI @Ga<|anI @AB<|anI @DW<|anI @zY<|anI @Fi<|anI @CU<|anI @lst?_ref<|anI @RS.HA<|anI @RS.HL<|anI @RS.II<|anI @RS.F3<|anI @RS.Ju<|anI @CH<|anI @DA<|anI @xQ<|anI @Ag<|anI @zW<|anI @DP<|anI @yY<|anI @HX<|anI @DO<|anI @FU<|anI @GP<|anI @HR<|anI @G8<|anI @GV<|anI @HE<|anI @Ci<|anI @Cz<|anI @Aw<|anI @RS.Gh<|anI @RS.Ii<|anI @RS.GF<|anI @Jl<|anI @Jr<|anI @Gg<|anI @Ls<|anI @LK<|anI @Lj<|anI @Lo<|anI @LO<|anI @Gp<|anI @Gx<|anI @FO<|anI @FQ<|anI @HU<|anI @Im<|anI @Cu<|anI @CA<|anI @Dw<|anI @C7<|anI @xj<|anI @Mj<|anI @L3<|anI @LJ<|anI @FY<|anI @FJ<|anI @DF<|anI @CZ<|anI @CI<|anI @Ae<|anI @y_<|anI @HN<|anI @F1<|anI @Ly<|anI @vD<|anI @Gd<|anI @D4<|anI @jh<|anI @IV<|anI @Iw<|anI @zS<|anI @LB<|anI @LS<|anI @LU<|anI @Mf<|anI @DM<|anI @DH<|anI @Cm<|anI @z0<|anI @zD<|anI @zG<|anI @C5<|anI @L_<|anI @Hi<|anI @IM<|anI @Jq<|anI @G9<|anI @GD<|anI @Gj<|anI @FG<|anI @HJ<|anI @Hh<|anI @IC<|anI @Fq<|anI @IL<|anI @Hs<|anI @F_<|anI @GR<|anI @B9<|anI @LX<|anI @LF<|anI @Pw<|anI @sets<|anI @rep0<|anI @reps<|anI @Pg<|anI @Pq<|anI @uX<|anI @D0<|anI @I_<|anI @GK<|anI @Lp<|anI @L7<|anI @HF<|anI @Gz<|anI @xE<|anI @z_<|anI @HK<|anI @DT<|anI @FH<|anI @CY<|anI @GW<|anI @L8<|anI @Ma<|anI @Dq<|anI @Dz<|anI @FN<|anI @zZ<|anI @Dp<|anI @G0<|anI @Iu<|anI @FZ<|anI @GJ<|@Jf
def bools:(∀b:Bool,cond false b b=b)/\(∀(α:Type) (x y:α),cond false x y=y)/\(∀(α:Type) (x y:α),cond true x y=x):=⟨λ_=>rfl,λ_ _ _=>rfl,λ_ _ _=>rfl⟩
def lR:(∀(x:Str) (xs:ar),(x::xs).length=xs.length+1)/\([]:ar).length=0/\(∀(x:A) (xs:ae),(x::xs).length=xs.length+1)/\([]:ae).length=0:=⟨λ_ _=>rfl,rfl,λ_ _=>rfl,rfl⟩
section
variable {τ:ae}{S:iX}
def Co {f:ae->iX->R A}{d:nX}:uB f d τ S=(d τ S).bind f:=rfl
abbrev SN (c:Str):Unit->iX->RS:=λ_ S1=>.ex c S1
def IU {c:Str}{u:Unit}:SN c u S=.ex c S:=rfl
def w9 {c:Str}{ps:List<|Str ⊕ Ex}:yH c ps τ S=RS.of (Hw ps τ S) (SN c):=rfl
def Dr:Hw [] τ S=.ok Unit.unit S:=rfl
def Dv {x:Str}{ps:List<|Str ⊕ Ex}:Hw (.inl x::ps) τ S=Hw ps τ S:=rfl
abbrev SK (ps:List<|Str ⊕ Ex)(τ:ae):A->iX->R Unit:=λv S1=>match v with
 | .int i=>gd (i.natAbs.log2<64) (Hw ps τ S1)
 | _=>.no
def DC {e:Ex}{ps:List<|Str ⊕ Ex}:Hw (.inr e::ps) τ S=(e τ S).bind (SK ps τ):=rfl
def LC{n:Nat}(h:n<18446744073709551616):SK ps τ (.int (n:Int)) S=Hw ps τ S:=by
 skip
 refine Ek ?_;rw[Int.natAbs_natCast];by_cases z:n=0
 ·subst z;decide
 ·exact(Nat.log2_lt z).mpr h
abbrev RS.try (i n:Nat)(cs:ar)(d:Sm):RS->RS
 | .ex x S1=>if x∈cs then J_ i (d ((List.replicate n .unb).set i<|.exn x) S1)else .no
 | r=>r
def Dj {i n:Nat}{cs:ar}{c d:Sm}:zA i n cs c d τ S=RS.try i n cs d (c τ S):=by
 unfold zA RS.try;cases c τ S<;>rfl
def Gs {i n:Nat}{cs:ar}{d:Sm}:RS.try i n cs d (.nx τ S)=.nx τ S:=rfl
def JA {i n:Nat}{cs:ar}{d:Sm}{a:A}:RS.try i n cs d (.rt a S)=.rt a S:=rfl
def I0 {i n:Nat}{x:Str}{cs:ar}{d:Sm}:RS.try i n (x::cs) d (.ex x S)=J_ i (d ((List.replicate n .unb).set i<|.exn x) S):=aM<|.head _
def Ji {i:Nat}{a:A}:J_ i (.rt a S)=.rt a S:=rfl
def Fp {i:Nat}:J_ i (.nx τ S)=.nx (τ.set i .unb) S:=rfl
abbrev Po (f:Str->bj):A->iX->R A:=λv S1=>match v with
 | .exn x=>opt (f x) λb=>.ok (.bl b) S1
 | _=>.no
def Ct {f:Str->bj}{c:Ex}:sM f c τ S=(c τ S).bind (Po f):=rfl
def IQ {x:Str}{b:Bool}{tb:List<|Str×Bool}:Po (E1 ((x,b)::tb)) (.exn x) S=.ok (.bl b) S:=by
 show opt (List.lookup x ((x,b)::tb)) _=_;rw[e8,bz];rfl
abbrev R.Hz {α β:Type}(r:R α)(f:α->iX->R β):R β:=match r with
 | .ok a S=>f a S
 | _=>.no
def zl {α β:Type}{a:α}{f:α->iX->R β}:R.Hz (.ok a S) f=f a S:=rfl
def C3 {f:ae->iX->R A}{d:nX}:P6 f d τ S=R.Hz (d τ S) f:=by unfold P6 R.Hz;cases d τ S<;>rfl
abbrev RS.RA {α:Type}(r:R α)(f:α->iX->RS):RS:=match r with
 | .ok a S=>f a S
 | _=>.no
def IP {α:Type}{a:α}{f:α->iX->RS}:RS.RA (.ok a S) f=f a S:=rfl
def Cs {t:Te}{c d:Sm}:O1 t c d τ S=RS.RA (t τ S) (QE c d τ):=by
 unfold O1 RS.RA
 cases t τ S with
 | ok b S1=>cases b<;>rfl
 | ex _ _=>rfl
 | no=>rfl
abbrev RS.HG (i:Nat)(cs:ar)(d:Sm)(τ:ae):RS->RS
 | .ex x S1=>if x∈cs then J_ i (d (τ.set i<|.exn x) S1)else .no
 | r=>r
def Af {i:Nat}{cs:ar}{c d:Sm}:LP i cs c d τ S=RS.HG i cs d τ (c τ S):=by
 unfold LP RS.HG;cases c τ S<;>rfl
def B7 {i:Nat}{cs:ar}{d:Sm}{τ':ae}:RS.HG i cs d τ (.nx τ' S)=.nx τ' S:=rfl
def Ca {i:Nat}{cs:ar}{d:Sm}{a:A}:RS.HG i cs d τ (.rt a S)=.rt a S:=rfl
def B6 {i:Nat}{x:Str}{cs:ar}{d:Sm}:RS.HG i (x::cs) d τ (.ex x S)=J_ i (d (τ.set i<|.exn x) S):=aM<|.head _
def zM:A.Ey []=some []:=rfl
def tQ {b:Bool}{xs:ae}:A.Ey (.bl b::xs)=(A.Ey xs).map (b::·):=rfl
end
def CD:type_of% (anI @Co<|anI @w9<|anI @IU<|anI @Dr<|anI @Dv<|anI @DC<|anI @Dj<|anI @Gs<|anI @JA<|anI @I0<|anI @Ji<|anI @Fp<|anI @Ct<|anI @IQ<|anI @zM<|anI @tQ<|anI @zl<|anI @C3<|anI @IP<|anI @Cs<|anI @Af<|anI @B7<|anI @Ca<|anI @B6<|trivial):=anI @Co<|anI @w9<|anI @IU<|anI @Dr<|anI @Dv<|anI @DC<|anI @Dj<|anI @Gs<|anI @JA<|anI @I0<|anI @Ji<|anI @Fp<|anI @Ct<|anI @IQ<|anI @zM<|anI @tQ<|anI @zl<|anI @C3<|anI @IP<|anI @Cs<|anI @Af<|anI @B7<|anI @Ca<|anI @B6<|trivial
end Am
namespace L2
open PySem PySem.Spec PyProof.Rows
section
variable {X:Cx}
abbrev J5 (ns:ag):Sx.Ord where
 lt i j:=decide (ns.getD i 0<ns.getD j 0)
 J9 i:=bL ()
 tr i j k h1 h2:=bH (by have:=dz h1;have:=dz h2;lia)
 neg i j k h:=by
  have:=dz h;by_cases c:ns.getD i 0<ns.getD j 0
  ·exact .inl (bH c)
  ·exact .inr<|bH ()
theorem sD:∀{vs:ba}{ns:ag},IntsAre vs ns->vs.length=ns.length/\∀i,i<vs.length->∃t,vs.getD i .none=.int (ns.getD i 0) t
 | _,_,.nil=>⟨rfl,λi h=>absurd h<|fC _⟩
 | _,_,.cons n t h=>by
  obtain⟨h1,h2⟩:=sD h;refine⟨fM (·+1) h1,λi hi=>?_⟩
  cases i with
  | zero=>exact⟨t,rfl⟩
  | succ i=>exact h2 i<|by simpa using hi
theorem v_{f:Nat->Int}{h:Nat->aa}:∀(l:am),(∀i∈l,∃t,h i=.int (f i) t)->Vals (l.map λi=>V.int<|f i) (l.map h)
 | [],_=>.nil
 | i::l,e=>.cons (e i<|aR ..)<|v_ l λj hj=>e j<|aT _ hj
def Bt{s:aA}{H:Hp}{Q:VK}{h':ak}{tk:Nat}{vs:ba}{ns:ag}(I1:Inv X pins σ H { s with heap:=h',toks:=tk })(hi:IntsAre vs ns)(hz:vs.length<=sizeLine)
  (q:∀l g,H l=none->Sx.Cl g 0 ns.length->Sx.So (J5 ns) g 0 ns.length->Q (.ref l) (upd H l<|.lst<|(List.range ns.length).map λi=>V.int<|ns.getD (g i) 0)) :
  wpAny (model X.prog X.w) X.A.in1 (do
   let l <- newList vs
   let _ <- holding [l] (call (Value.builtin "list.sort") [l] [])
   ret l) (λfin s'=>∃v,fin=Fin.done (Flow.ret v)/\EP X pins σ Q v s') X.xe { s with heap:=h',toks:=tk }:=by
 obtain⟨hN,at_⟩:=sD hi;refine aF<|wpAny_newList ?_;have hoL:(h'.push<|seqObj "list" vs.toArray 0).get? h'.objs.size=some (seqObj "list" vs.toArray 0):=aU _ rfl
 skip
 refine aF (cu<|cj slot_list_sort ⟨_,hoL,rfl⟩ entry_list_sort (Sx.ES (o:=J5 ns) (kd:=oneType') hoL hz (λh2 Q' q'=>?_) (λh2 i j hi' hj E' Q' q'=>?_) λg hc hs=>⟨_,rfl,?_⟩)<|args_list_sort _)
 ·obtain⟨a,b,r,rfl⟩:∃a b r,vs=a::b::r:=by
   cases vs with
   | nil=>simp at h2
   | cons a vs=>cases vs with
    | nil=>simp at h2
    | cons b r=>exact⟨a,b,r,rfl⟩
  exact gz (keyKind_ints hi) q'
 ·obtain⟨t,e1⟩:=at_ i hi';obtain⟨u,e2⟩:=at_ j hj;show wpAny _ _ (keyLt' oneType' (vs.getD i .none)<|vs.getD j .none) Q' E' _;rw[e1,e2,keyLt'_oneType];exact Sx.JN true q'
 ·rw[hN]at hc hs ⊢;obtain⟨e,he⟩:=sortedHeap_at (out:=((List.range ns.length).map λi=>vs.getD (g i) .none).toArray) hoL;have old:∀b ob,h'.get? b=some ob->(sortedHeap (h'.push<|seqObj "list" vs.toArray 0) h'.objs.size vs ((List.range ns.length).map λi=>vs.getD (g i) .none).toArray).get? b=some ob:=λb ob eb=>by
   rw[sortedHeap_old (aZ<|aV eb)<|by rw[di];exact eT<|aV eb];exact aJ _ eb
  refine aH ⟨_,rfl,.ref h'.objs.size,_,I1.laid (t':=tk) (o:=.lst<|(List.range ns.length).map λi=>V.int<|ns.getD (g i) 0) old (aN _) ?_,rfl,q _ g (I1.hok.fresh<|aN _) hc hs⟩;refine⟨by rw[aK,bW];omega,(List.range ns.length).map λi=>vs.getD (g i) .none,e,v_ _ λi hi=>at_ _ (by have:=(hc i (cE _)<|cX.mp hi).2;omega),he⟩
end
def MO:bootBuiltins "set" = some (.type "set"):=by decide +kernel
theorem AD:∀{ns:ag}{its:ba},Vals (ns.map V.int) its->IntsAre its ns
 | [],_,.nil=>.nil
 | n::ns,_::its,.cons r rs=>by
  obtain⟨t,rfl⟩:=r;exact .cons n t<|AD rs
def HP(ns:ag):firstMet (λi=>ns.getD i 0) ns.length=ns.foldl step_dedup []:=by
 unfold firstMet;congr 1;refine gq (by simp) λi h1 h2=>?_;simp[aG h2]
abbrev Up (xs:Array Nat):Prop:=∀i j (hi:i<j) (hj:j<xs.size),xs[i]<xs[j]
theorem yh(xs:Array Nat)(j:Nat)(u:Up xs):∀(f lo hi:Nat),hi-lo<=f->lo<=hi->hi<=xs.size->(∀i (h:i<xs.size),i<lo->xs[i]<j)->(∀i (h:i<xs.size),hi<=i->j<=xs[i]) ->
  SetTable.below.go xs j f lo hi<=xs.size/\(∀i (h:i<xs.size),i<SetTable.below.go xs j f lo hi->xs[i]<j)/\(∀i (h:i<xs.size),SetTable.below.go xs j f lo hi<=i->j<=xs[i])
 | 0,lo,hi,hf,hl,hs,h1,h2=>by
  unfold SetTable.below.go;have:lo=hi:=()
  subst this;exact⟨hs,h1,h2⟩
 | f+1,lo,hi,hf,hl,hs,h1,h2=>by
  unfold SetTable.below.go;by_cases c:lo<hi
  ·rw[aM c];have hm:(lo+hi) / 2<xs.size:=()
   have e:xs.getD ((lo+hi) / 2) j=xs[(lo+hi) / 2]:=by simp[Array.getD,hm]
   dsimp only;rw[e];by_cases d:xs[(lo+hi) / 2]<j
   ·rw[aM d];refine yh xs j u f _ _ () () hs (λi h hi'=>?_) h2;by_cases q:i=(lo+hi) / 2
    ·subst q;exact d
    ·exact Nat.lt_trans (u i _ () hm) d
   ·rw[aL d];refine yh xs j u f _ _ () () () h1 λi h hi'=>?_;by_cases q:i=(lo+hi) / 2
    ·subst q;lia
    ·have:=u ((lo+hi) / 2) i () h
     lia
  ·rw[aL c];have:lo=hi:=()
   subst this;exact⟨hs,h1,h2⟩
def qO{xs:Array Nat}(u:Up xs)(j:Nat):SetTable.below xs j<=xs.size/\(∀i (h:i<xs.size),i<SetTable.below xs j->xs[i]<j)/\(∀i (h:i<xs.size),SetTable.below xs j<=i->j<=xs[i]):=
 yh xs j u xs.size 0 xs.size () () () (λi h z=>absurd z ()) λi h z=>absurd h ()
def A1{xs:Array Nat}(u:Up xs){i:Nat}(h:i<xs.size):SetTable.below xs (xs[i]+1)=i+1:=by
 obtain⟨h1,h2,h3⟩:=qO u<|xs[i]+1;refine iK (eZ λc=>?_) (eZ λc=>?_)
 ·have a:=h2 (i+1) () c;have b:=u i (i+1) () ()
  lia
 ·have:=h3 i h ()
  lia
def EF(u:Up xs):SetTable.below xs 0=0:=by
 obtain⟨h1,h2,h3⟩:=qO u 0;refine iK (eZ λc=>?_)<|cE _;have:=h2 0 () c
 lia
def Ie{xs:Array Nat}{p x:Nat}(h:p<=xs.size)(i:Nat):(SetTable.insertAt xs p x)[i]?=if i<p then xs[i]? else if i=p then some x else xs[i-1]?:=by
 unfold SetTable.insertAt;rw[Array.getElem?_append];have l1:((xs.extract 0 p).push x).size=p+1:=by simp;lia
 rw[l1];by_cases c:i<p
 ·rw[aM (),aM c,Array.getElem?_push,aL<|by simp;lia];rw[fX];simp[c]
  lia
 ·rw[aL c];by_cases d:i=p
  ·subst d;rw[aM (),aM rfl,Array.getElem?_push,aM<|by simp;lia]
  ·rw[aL (),aL d,fX];by_cases q:i-(p+1)<xs.size-p
   ·rw[aM ()];congr 1
    lia
   ·rw[aL (),eL ()]
def Nc:Up xs ↔ ∀i j a b:Nat,i<j->xs[i]?=some a->xs[j]?=some b->a<b:=by
 constructor
 ·intro u i j a b hij ha hb;obtain⟨h1,rfl⟩:=dQ.mp ha;obtain⟨h2,rfl⟩:=dQ.mp hb;exact u i j hij h2
 ·intro h i j hij hj;exact h i j _ _ hij (bN ())<|bN hj
def ND(u:Up xs)(hn:xs[SetTable.below xs j]?≠some j):Up (SetTable.insertAt xs (SetTable.below xs j) j):=by
 obtain⟨h1,h2,h3⟩:=qO u j;have h4:∀i (h:i<xs.size),SetTable.below xs j<=i->j<xs[i]:=λi h hi=>by
  have a:=h3 i h hi;by_cases q:xs[i]=j
  ·by_cases r:SetTable.below xs j=i
   ·exact absurd (by rw[r,bN h,q]) hn
   ·have b:=h3 (SetTable.below xs j) ()<|aN _;have c:=u (SetTable.below xs j) i () h
    lia
  ·lia
 refine Nc.mpr λi k a b hik ha hb=>?_;rw[Ie h1]at ha hb;have gl:∀{i a:Nat},xs[i]?=some a->∃h:i<xs.size,xs[i]=a:=λh=>dQ.mp h;by_cases c1:i<SetTable.below xs j
 ·rw[aM c1]at ha;obtain⟨g1,rfl⟩:=gl ha;have a1:=h2 i g1 c1;by_cases c2:k<SetTable.below xs j
  ·rw[aM c2]at hb;obtain⟨g2,rfl⟩:=gl hb;exact u i k hik g2
  ·rw[aL c2]at hb;by_cases c3:k=SetTable.below xs j
   ·rw[aM c3]at hb
    cases hb
    exact a1
   ·rw[aL c3]at hb;obtain⟨g2,rfl⟩:=gl hb;exact Nat.lt_trans a1<|h4 _ g2 ()
 ·rw[aL c1]at ha;rw[aL<|show ¬k<SetTable.below xs j by lia,aL<|show ¬k=SetTable.below xs j by lia]at hb;obtain⟨g2,rfl⟩:=gl hb;by_cases c3:i=SetTable.below xs j
  ·rw[aM c3]at ha
   cases ha
   exact h4 _ g2 ()
  ·rw[aL c3]at ha;obtain⟨g1,rfl⟩:=gl ha;exact u _ _ () g2
def Hg(n:Nat):Up (Array.range n):=λi j hij hj=>by
 simp at hj;simp;exact hij
structure Sr (t:SetTable):Prop where
 up:Up t.place
 dm:t.dummies=#[]
def DX(j:Nat):SetTable.has #[] j=false:=rfl
def Sr.slot{t:SetTable}(r:Sr t)(j:Nat):t.slot j=if t.place[SetTable.below t.place j]? == some j then .live (SetTable.below t.place j)else .empty:=by
 unfold SetTable.slot;rw[r.dm,DX];rfl
def Mu(t:SetTable)(p:SetTable.Probe):(t.advance p).dummy=p.dummy:=by
 unfold SetTable.advance;split<;>rfl
theorem Aa{t:SetTable}(r:Sr t)(f:Nat->Int)(h:Int):∀(n:Nat) (p:SetTable.Probe) (j:Nat) (d:bo),p.dummy=none->SetTable.probe.go t f h n p=some (.empty j d)->d=none/\t.slot j=.empty
 | 0,p,j,d,_,e=>by unfold SetTable.probe.go at e;cases e
 | n+1,p,j,d,hp,e=>by
  unfold SetTable.probe.go at e
  cases hs:t.slot p.j with
  | empty=>
   rw[hs]at e
   cases e
   exact⟨hp,hs⟩
  | dummy=>
   rw[r.slot]at hs;split at hs<;>cases hs
  | live i=>
   rw[hs]at e;dsimp only at e;split at e
   ·cases e
   ·exact Aa r f h n _ j d (by rw[Mu];exact hp) e
def K7{t:SetTable}(r:Sr t){h:Int}(e:t.freeSlot h=some (j,b)):b=false/\t.place[SetTable.below t.place j]?≠some j:=by
 unfold SetTable.freeSlot at e;split at e
 ·next j' d hp=>
  obtain⟨hd,hs⟩:=Aa r _ _ _ _ _ _ rfl hp;subst hd
  cases e
  refine⟨rfl,λz=>?_⟩;rw[r.slot,show Option.getD none j'=j' from rfl]at *
  rw[z]at hs;simp at hs
 ·cases e
def Sr.CV(t:SetTable)(n:Nat):Sr (t.standIn n):=⟨Hg n,rfl⟩
def Sr.put{t:SetTable}(r:Sr t)(h:t.place[SetTable.below t.place j]?≠some j):Sr (t.put j).1:=by
 refine⟨ND r.up h,?_⟩;show(if SetTable.has t.dummies j=true then _ else t.dummies)=#[];rw[r.dm,DX];rfl
def Sr.lay{t:SetTable}(r:Sr t)(es:Array<|Int×aa)(h:Int)(x:aa):Sr (layNew t es h x).2.1/\(layNew t es h x).2.1.led=t.led:=by
 unfold layNew;split
 ·next j b e=>
  have q:=r.put (K7 r e).2;dsimp only;unfold SetTable.orStandIn;split
  ·exact⟨q,rfl⟩
  ·exact⟨Sr.CV _ _,rfl⟩
 ·exact⟨Sr.CV _ _,rfl⟩
def Sr.laid{led plain:Bool}{t:SetTable}(e:SetTable.laid mask finger moves led plain hs=some (t,o)):Sr t/\t.led=led:=by
 unfold SetTable.laid at e
 cases hc:SetTable.layClean mask hs with
 | none=>rw[hc]at e;cases e
 | some owner=>
  rw[hc]at e
  cases e
  refine⟨⟨?_,rfl⟩,rfl⟩;have pw:(((List.range<|mask+1).filterMap λj=>(owner.getD j none).map (j,·)).map (·.1)).Pairwise (· < ·):=by
   rw[fR,List.pairwise_filterMap];refine List.Pairwise.imp (λ{a b} hab x hx y hy=>?_) fS;obtain⟨_,_,rfl⟩:=bu.mp hx;obtain⟨_,_,rfl⟩:=bu.mp hy;exact hab
  intro i j hij hj;rw[eW,eW];exact cN.mp pw i j _ _ hij
def Sr.Qz{t:SetTable}(r:Sr t)(es:Array<|Int×aa)(n:Nat):Sr (relayAll t es n).2.1/\(relayAll t es n).2.1.led=t.led:=by
 unfold relayAll;split
 ·next t' o e=>
  dsimp only;split
  ·exact Sr.laid e
  ·exact⟨Sr.CV _ _,rfl⟩
 ·exact⟨Sr.CV _ _,rfl⟩
section
variable {P:ah}{w:af}{A:az}{E:aa->aA->Prop}{s:aA}
abbrev qC (P:ah)(w:af)(b:Bool)(h:ak)(a:aj)(S:Int->Bool)(n:Nat):Prop:=
 ∃o es ep t,h.get? a=some o/\o.ExactSet/\o.data=.set es ep t/\ElemsOf (intKind P w) es.toList/\(∀k,S k=true ↔ ∃e∈es.toList,(intKind P w).is k e.2=true)/\es.size<scanBound/\t.fits es.size=true/\es.size=n/\Sr t/\t.led=b
def stored{h:ak}{a:aj}{o:Obj}{es:Array<|Int×aa}(ho:h.get? a=some o)(hd:o.data=.set es ep t)(es':Array<|Int×aa)(t':SetTable):(h.update a<|Obj.putSet es' t').get? a=some { o with data:=.set es' (ep+1) t' }:=by
 have q:=bO (Obj.putSet es' t') ho (by rw[putSet_of es' t' hd];rfl)
 rwa [putSet_of es' t' hd]at q
def Me{g:Bool->Sem Unit}(hg:∀(c:Bool) (s1:aA) (q:Unit->aA->Prop),q Unit.unit s1->wpAny (model P w) A (g c) q E s1){a:aj}{o:Obj}{es es1:Array<|Int×aa}{t2:SetTable}(ho:s.heap.get? a=some o)(hx:o.ExactSet)(hd:o.data=.set es ep t)
  {S':Int->Bool} (el:ElemsOf (intKind P w) es1.toList) (mm:∀k',S' k'=true ↔ ∃e∈es1.toList,(intKind P w).is k' e.2=true) (hb:es1.size<scanBound) (hf:t2.fits es1.size=true) (r:Sr t2) (hl:t2.led=b) {wd:Bool} {R:bj->aA->Prop}
  (k:∀h',Heap.SameBut a s.heap h'->qC P w b h' a S' es1.size->R (some true) { s with heap:=h' }) :
  wpAny (model P w) A (do
   storeSet a es1 t2
   if (!wd && t2.tooFull)=true then do
     g (relayAll t2 es1<|SetTable.grown es1.size).2.2
     storeSet a (relayAll t2 es1<|SetTable.grown es1.size).1 (relayAll t2 es1<|SetTable.grown es1.size).2.1
     pure (some true)
    else pure (some true)) R E s:=by
 refine aF<|wpAny_storeSet_of ho hd ?_<|fits_of_scanBound hb;have h1:=stored ho hd es1 t2;have sb:=bZ s.heap a<|Obj.putSet es1 t2;split
 ·have pm:=relayAll_perm t2 es1<|SetTable.grown es1.size;have ft:=relayAll_fits t2 es1<|SetTable.grown es1.size;have rr:=r.Qz es1<|SetTable.grown es1.size;generalize relayAll t2 es1 (SetTable.grown es1.size)=L at pm ft rr ⊢;obtain⟨es2,t3,gv⟩:=L;dsimp only at pm ft rr ⊢;have sz:es2.size=es1.size:=by rw[<- bD,pm.length_eq,bD]
  have b2:es2.size<scanBound:=by rw[sz];exact hb
  refine aF<|hg _ _ _<|aF<|wpAny_storeSet_of h1 rfl ?_<|fits_of_scanBound b2;exact aH<|k _ (sb.trans<|bZ _ a _) ⟨_,es2,_,t3,stored h1 rfl es2 t3,hx,rfl,el.perm pm,λk'=>(mm k').trans ⟨λ⟨e,he,q⟩=>⟨e,pm.mem_iff.mpr he,q⟩,λ⟨e,he,q⟩=>⟨e,pm.mem_iff.mp he,q⟩⟩,b2,ft,sz,rr.1,rr.2.trans hl⟩
 ·exact aH<|k _ sb ⟨_,es1,_,t2,h1,hx,rfl,el,mm,hb,hf,rfl,r,hl⟩
def Rq{a:aj}{S:Int->Bool}{n:Nat}{k:Int}{x:aa}{Q:Bool->aA->Prop}(hk:(intKind P w).is k x=true)(hx:x.scannable=true)(hS:qC P w b s.heap a S n)(room:n+1<scanBound)
  (q:∀h',Heap.SameBut a s.heap h'->qC P w b h' a (λk'=>S k' || decide (k'=k)) (if S k then n else n+1)->Q (!S k) { s with heap:=h' }):wpAny (model P w) A (setAddHashed a x<|(intKind P w).hash k) Q E s:=by
 obtain⟨o,es,ep,t,ho,oe,hd,el,mm,hb,hf,hn,r,hl⟩:=hS;have b1:es.size+1<scanBound:=by rw[hn];exact room
 unfold setAddHashed setAddHashedIn;refine cu<|aF<|bT ho hd hf ?_;dsimp only;rw[byScan_of hx hb el];dsimp[↓reduceIte];unfold setAddByScan;refine aF (aF<|c7<|aF<|wpAny_setScan_of hk ho hd hf el ?_)
 cases hr:List.findIdx? (λe=>(intKind P w).is k e.2) es.toList with
 | some j=>
  dsimp only;obtain⟨hj,pj,_⟩:=dS.mp hr;have sk:S k=true:=(mm k).mpr ⟨_,cD hj,pj⟩;have z:=q s.heap (Heap.SameBut.refl a s.heap) ⟨o,es,ep,t,ho,oe,hd,el,λk'=>by
   rw[Bool.or_eq_true,ig,<- mm k'];exact⟨λv=>v.elim id λe=>by rw[e];exact sk,.inl⟩,hb,hf,by rw[sk];exact hn,r,hl⟩
  rw[sk]at z;exact aH<|aH z
 | none=>
  dsimp only;have sk:S k=false:=Bool.eq_false_iff.mpr λz=>by
   obtain⟨e,he,hp⟩:=(mm k).mp z;have:=List.findIdx?_eq_none_iff.mp hr e he;rw[hp]at this;cases this
  have pm:=layNew_perm t es ((intKind P w).hash k) x;have ft:=layNew_fits t es ((intKind P w).hash k) x;have rr:=r.lay es ((intKind P w).hash k) x;generalize layNew t es ((intKind P w).hash k) x=L at pm ft rr ⊢;obtain⟨es1,t1,wd,gv⟩:=L;dsimp only at pm ft rr ⊢;rw[h_]at pm;have el1:=(el.push hk hx).perm pm;have mm1:=mem_push_iff hk mm pm;have z1:es1.size=n+1:=by rw[<- bD,pm.length_eq,aY,bD,hn];rfl
  have b1':es1.size<scanBound:=by rw[z1];exact room
  have fin:∀h',Heap.SameBut a s.heap h'->qC P w b h' a (λk'=>S k' || decide (k'=k)) es1.size->Q true { s with heap:=h' }:=λh' sb hS'=>by
   have z:=q h' sb;rw[sk]at z;rw[z1]at hS';exact z hS'
  have gw:∀(c:Bool) (s1:aA) (q':Unit->aA->Prop),q' Unit.unit s1->wpAny (model P w) A (match c with|true=>rule "set.scan.the-table-gave-way" | false=>pure Unit.unit) q' E s1:=λc s1 q' hq=>by cases c<;>first|exact aH hq|exact c7 hq
  refine aF<|gw _ _ _ ?_;split
  ·refine aF ?_;rw[hashByValue_scannable 8 hx];refine aH (Me (λc s1 q' hq=>by cases c<;>first|exact aH hq|exact c7 hq) ho oe hd el1 mm1 b1' ?_ ?_ ?_ λh' sb hS'=>aH<|fin h' sb hS')
   ·split
    ·exact ft
    ·exact SetTable.fits_plain_off ft
   ·split
    ·exact rr.1
    ·exact⟨rr.1.up,rr.1.dm⟩
   ·split
    ·exact rr.2.trans hl
    ·exact rr.2.trans hl
  ·refine aF<|aH ?_;dsimp[↓reduceIte];exact Me (λc s1 q' hq=>by cases c<;>first|exact aH hq|exact c7 hq) ho oe hd el1 mm1 b1' ft rr.1 (rr.2.trans hl) λh' sb hS'=>aH<|fin h' sb hS'
end
section
variable {P:ah}{w:af}{A:az}{E:aa->aA->Prop}{s:aA}
abbrev ym (w:af):Bool:=!w.params.followText "set-order"
abbrev nk (w:af):Obj:={ cls:=.type "set",dict:=none,data:=.set #[] 0 (.fresh 0 0<|ym w)}
def IK(a:aa){q:aa->aA->Prop}(h:q (.ref s.heap.objs.size) { s with heap:=s.heap.push<|nk w}):codeAny (model P w) A (.call (.builtin "set.__new__") ⟨[.type "set",a],[]⟩) (wants q E) s:=by
 refine codeAny_of_tree ?_;show wpAny (model P w) A.in1 (do checkBuiltinCall "set.__new__" ⟨[.type "set",a],[]⟩;again (.builtin "set.__new__" ⟨[.type "set",a],[]⟩)) _ _ s;refine aF<|gz (PySem.F.newCall_set_1 a)<|aH ⟨fq PySem.F.plain_set_new _,c5 PySem.F.entry_set_new ?_⟩;rw[cV PySem.F.plain_set_new _];unfold Builtin.«set.__new__» Builtin.Frozenset.newClass;have hsub:=sub_set_self;obtain⟨hp,g,d,tk,os⟩:=s;dsimp only
 wp_walk
 refine wpAny_askSetting<|aH ?_;dsimp only;dsimp[newObj];refine aF<|wpAny_alloc<|aH<|aH ?_;exact h
def NY{h:ak}{a:aj}(ho:h.get? a=some (nk w)):qC P w (ym w) h a (λ_=>false) 0:=
 ⟨_,#[],0,_,ho,⟨rfl,rfl,rfl⟩,rfl,(λe he=>by cases he),(λk=>⟨(λz=>by cases z),(λ⟨e,he,_⟩=>by cases he)⟩),⋯,rfl,rfl,⟨(λi j hij hj=>absurd hj<|by simp[SetTable.fresh]),rfl⟩,rfl⟩
def qC.congr{a:aj}{S S':Int->Bool}{n:Nat}(r:qC P w b h a S n)(e:∀k,S k=S' k)(en:n=n'):qC P w b h a S' n':=by
 have:S=S':=funext e;subst this;subst en;exact r
def qC.at{h h':ak}{a:aj}{S:Int->Bool}{n:Nat}(r:qC P w b h a S n)(k:∀o,h.get? a=some o->h'.get? a=some o):qC P w b h' a S n:=by
 obtain⟨o,es,ep,t,ho,rest⟩:=r;exact⟨o,es,ep,t,k o ho,rest⟩
section
variable {R:Result->aA->Prop}{I:aj}{fp wr:bb}{G:Array GenState->Array GenState->Prop}{n:Nat}{V:Nat->aa->Prop}{St:Nat->aA->Prop}
def Qo(W:WalksS P w A.in1 I fp wr G n V St)(a:aj)(ha:a∉fp)(val:Nat->Int)(hv:∀i v,V i v->∃t,v=.int (val i) t)(hb:n+1<scanBound) :
  ∀(k i:Nat) (s:aA),n-i=k->i<=n->St i s->qC P w b s.heap a (λk'=>(firstMet val i).any (· == k')) (firstMet val i).length ->
   (∀s',Moved (a::wr) G s s'->qC P w b s'.heap a (λk'=>(firstMet val n).any (· == k')) (firstMet val n).length->R (.ok<|.ret .none) s') ->
   codeAny (model P w) A (.builtin "set.update.loop" ⟨[.ref a,.ref I],[]⟩) R s:=by
 have aw:a∉wr:=λh=>ha<|W.sub _ h;have sub:∀c∈wr,c∈a::wr:=λc hc=>aT _ hc;intro k
 induction k with
 | zero=>
  intro i s hk hi hst hS hR;have:i=n:=()
  subst this;refine c5 e_ ?_;rw[cV dI _];show wpAny (model P w) A.in1 (pyNext (.ref I) >>= _) _ _ s;refine aF<|W.done s _ _ hst λs' hm=>?_;show wpAny (model P w) A.in1 (ret Value.none) _ _ s';exact aH<|hR s' (hm.mono sub)<|hS.at λo e=>hm.heap a _ aw e
 | succ k ih=>
  intro i s hk hi hst hS hR;have lt:i<n:=()
  refine c5 e_ ?_;rw[cV dI _];show wpAny (model P w) A.in1 (pyNext (.ref I) >>= _) _ _ s;refine aF<|W.item i s _ _ lt hst λv s' hP hst' hm=>?_;obtain⟨t,rfl⟩:=hv i v hP;have hS':=hS.at (h':=s'.heap) λo e=>hm.heap a _ aw e;show wpAny (model P w) A.in1 (holding [Value.int (val i) t] (setAdd a<|.int (val i) t) >>= _) _ _ s';refine aF<|cu ?_;unfold setAdd;refine cu<|aF<|(intKind P w).pyHash (k:=val i) (intKind_is _ _ _ _) ?_;have room:(firstMet val i).length+1<scanBound:=by have:=firstMet_length_le val i;lia
  refine Rq (s:={ s' with toks:=s'.toks+1 }) (intKind_is _ _ _ _) rfl hS' room λh' sb hS2=>?_;have hSi:=hS2.congr (S':=λk'=>(firstMet val<|i+1).any (· == k')) (n':=(firstMet val<|i+1).length) (λk'=>by rw[firstMet_succ,step_any]) (by rw[firstMet_succ,step_length]);refine aH ⟨fq dI _,ih (i+1) _ () lt (W.frame _ s' _ _ hst' (g_ _) λc hc o e=>?_) hSi λs'' hm'' hS''=>?_⟩
  ·rw[sb.2 c (λz:c=a=>ha<|by rw[<- z];exact hc)];exact e
  ·refine hR s'' (Moved.trans W.gtrans ((hm.mono sub).then_heap (g_ _) λc o hc e=>?_) hm'') hS'';rw[sb.2 c (λz:c=a=>hc<|by rw[z];exact aR)];exact e
end
end
section
variable {P:ah}{w:af}{A:az}{E:aa->aA->Prop}{s:aA}
def E2{items:Array aa}{ns:ag}{q:aa->aA->Prop}(hh:A.handled=none)(hl:s.heap.IsList l items)(hi:IntsAre items.toList ns)(hb:items.size+1<scanBound)
  (h:∀(h':ak) (tk:Nat),qC P w (ym w) h' s.heap.objs.size (λk'=>(firstMet (λi=>ns.getD i 0) items.size).any (· == k')) (firstMet (λi=>ns.getD i 0) items.size).length ->
   (∀b o,b<s.heap.objs.size->s.heap.get? b=some o->h'.get? b=some o)->q (.ref s.heap.objs.size) { s with heap:=h',toks:=tk }) :
  wpAny (model P w) A (call (.type "set") [.ref l]) q E s:=by
 obtain⟨c,tl,hmro⟩:=cT.mro;have hmade:=cT.made;have hsub:=cT.sub;refine iE<|codeAny_of_tree ?_;show wpAny (model P w) _ (callAny (.type "set") _) _ _ _;refine aH ⟨Code.quiet_builtin _ ∅,c5 PySem.F.entry_type_call ?_⟩;rw[Around.under_plain (weight_type_call_type "set" [.ref l] []) rfl];have h1:=cT.notType;have h2:=cT.canCreate;have hct:=PySem.F.typeCall_set_1 (.ref l)
 repeat (any_goals (first|assumption|wp_step))
 refine eE (IK (.ref l) (E:=E) (q:=λob s1=>ob=.ref s.heap.objs.size/\s1={ s with heap:=s.heap.push<|nk w}) ⟨rfl,rfl⟩) λr s1 hr=>?_
 cases r with
 | error e=>exact hr
 | ok fl=>
  cases fl with
  | ret ob=>
   obtain⟨rfl,rfl⟩:=hr;have hS:(s.heap.push<|nk w).get? s.heap.objs.size=some (nk w):=aU _ rfl;have hT:Shared.TypeIs { s with heap:=s.heap.push<|nk w} (.ref s.heap.objs.size) "set" := ⟨_,hS,rfl⟩;have hli:=cT.init.lookup;have hbi:=cT.init.bind (.ref s.heap.objs.size)
   repeat (any_goals (first|assumption|wp_step))
   refine eE (codeAny_call_builtin (R:=wants (λr s2=>r=.none/\∃h' tk,s2={ s with heap:=h',toks:=tk }/\qC P w (ym w) h' s.heap.objs.size (λk'=>(firstMet (λi=>ns.getD i 0) items.size).any (· == k')) (firstMet (λi=>ns.getD i 0) items.size).length /\
     (∀b o,b<s.heap.objs.size->s.heap.get? b=some o->h'.get? b=some o)) E) cT.init.plain PySem.F.entry_set_init<|check_set_init_1 hT ?_) λr2 s2 hr2=>?_
   ·obtain⟨ol,hol,hcl,nl,hdl⟩:=hl;obtain⟨oc,od,oda,osl⟩:=ol;simp only at hcl hdl;subst hcl;subst hdl;have hol':(s.heap.push<|nk w).get? l=some { cls:=.type "list",dict:=od,data:=.seq items nl,slots:=osl }:=aJ _ hol;have g1:=PySem.F.sub_list_set;have g2:=PySem.F.sub_list_frozenset;have g3:(Value.type "list" == Value.type "dict")=false:=by decide
    have hl1:(s.heap.push<|nk w).IsList l items:=⟨_,hol',rfl,nl,rfl⟩;unfold Builtin.«set.__init__» noKeywords Builtin.Frozenset.updateFrom;generalize hPI:pyIter=PI
    wp_walk
    subst hPI;refine fO hl1<|aF<|gS ?_;have lS:l<s.heap.objs.size:=aV hol;have h3:A.in1.in1.in1.handled=none:=by simp[hh]
    have nI:l≠(s.heap.push<|nk w).objs.size:=by rw[di];exact aZ (eT lS)
    have sf:s.heap.objs.size∉[(s.heap.push<|nk w).objs.size,l]:=by
     rw[di];dsimp[bB,bh,List.not_mem_nil,or_false,not_or];exact⟨aZ<|c9 _,fN lS⟩
    refine Qo ((Walks.list h3 _ l nI items).toS) s.heap.objs.size sf (λi=>ns.getD i 0) (λi v hv=>IntsAre.int_at hi i v<|by rw[dR];exact hv) hb (items.size-0) 0 _ () (cE _)
     ⟨⟨_,aU _ rfl,rfl,rfl⟩,(hl1.push _)⟩ ((NY<|aJ _ hS).congr (λ_=>rfl) rfl) λs' hm hS'=>?_
    obtain⟨h',g',d',tk',os'⟩:=s';have eg:g'=s.gens:=hm.gens;have ed:d'=s.drawn:=hm.drawn;have eo:os'=s.os:=hm.os;subst eg;subst ed;subst eo;show wpAny _ _ _ _ _ _;refine aH ?_;show wpAny (model P w) _ (ret Value.none) _ _ _;refine aH ⟨rfl,h',tk',rfl,hS',λb o hb e=>hm.heap b o ?_<|aJ _<|aJ _ e⟩;dsimp[bB,bh,List.not_mem_nil,or_false,not_or];exact⟨aZ hb,by rw[di];exact aZ<|eT hb⟩
   ·cases r2 with
    | error e=>exact hr2
    | ok fl2=>
     cases fl2 with
     | ret r=>
      obtain⟨rfl,h',tk,rfl,hS',hk'⟩:=hr2
      repeat (any_goals (first|assumption|wp_step))
      exact h _ _ hS' hk'
     | _=>exact hr2.elim
  | _=>exact hr.elim
end
def jW:Slot "set_iterator" "__next__" "set_iterator.__next__" :=
 .of (owner := "set_iterator") (n := "__next__") (by rw[typeLookup_type,gc];kernel_rfl) ∅ ∅ ∅ (by first|exact .inl ∅|exact .inr ∅) (by rw[gX];kernel_rfl)
def rK:entryFor table "set_iterator.__next__" = some Builtin.«set_iterator.__next__»:=entryFor_of_tree<|by kernel_rfl
def G6:Manifest.owners.lookup (String.ofList ['r','o','t','a','r','e','t','i','_','t','e','s'].reverse)=some Manifest.sig_set_iterator:=by kernel_rfl
theorem se(a:aa):argsOk "set_iterator.__next__" ⟨[a],[]⟩:=by
 unfold argsOk;rw[signature?_of (id := "set_iterator.__next__") (n:=['_','_','t','x','e','n','_','_']) (o:=['r','o','t','a','r','e','t','i','_','t','e','s']) (by kernel_rfl) G6];kernel_rfl
def FT:entryFor table "set.__iter__" = some Builtin.«frozenset.__iter__»:=entryFor_alias (id' := "frozenset.__iter__") (by kernel_rfl) rfl ∅ (by kernel_rfl)
section
variable {P:ah}{w:af}{A:az}{E:aa->aA->Prop}{s:aA}
theorem yr{α:Type}:∀(l:List α) (i:Nat) (h:i<l.length),(l[i]::l.eraseIdx i).Perm l
 | x::l,0,_=>.refl _
 | x::l,i+1,h=>((List.Perm.swap x _ _)).trans<|(yr l i<|by simpa using h).cons x
theorem Dh{α:Type}(next:Nat->Nat):∀(f k:Nat) (l:List α) (out:Array α),l.length=f->(pickOrder.go next f k l out).toList.Perm (out.toList++l)
 | 0,k,l,out,h=>by
  rw[cI.mp h];unfold pickOrder.go;rw[b5]
 | f+1,k,l,out,h=>by
  have lt:next k % l.length<l.length:=mod_lt _ ();unfold pickOrder.go;rw[aG lt];refine(Dh next f (k+1) _ _ (by rw[eY lt];lia)).trans ?_;rw[h_,bS];exact List.Perm.append_left _<|yr _ _ lt
def tR{α:Type}(next:Nat->Nat)(xs:Array α):(pickOrder next xs).toList.Perm xs.toList:=by
 have:=Dh next xs.size 0 xs.toList #[] (by rw[bD]);simpa[pickOrder]using this
theorem CM{α:Type}:∀(n:Nat) (xs:List α) (s:aA) (Q:List α->aA->Prop),xs.length=n->(∀ys d,ys.Perm xs->Q ys { s with drawn:=d })->wpAny M A (drawOrder n xs) Q E s
 | 0,xs,s,Q,h,q=>by
  rw[cI.mp h];rw[cI.mp h]at q;unfold drawOrder;exact aH<|q [] s.drawn<|.refl _
 | n+1,[],s,Q,h,q=>nomatch h
 | n+1,x::xs,s,Q,h,q=>by
  unfold drawOrder;refine aF (λΓ p hΓ=>⟨by simp,?_⟩);generalize hj:M.w.draws .order (s.drawn.get .order) % (x::xs).length=j;have lt:j<(x::xs).length:=by rw[<- hj];exact mod_lt _ (by simp)
  show wpAny M A _ Q E { s with drawn:=s.drawn.bump .order };rw[aG lt];refine aF (CM n ((x::xs).eraseIdx j) _ _ (by rw[eY lt];simp at h ⊢;lia) λys d hy=>aH<|q _ d ?_);exact(List.Perm.cons _ hy).trans (yr _ _ lt)
abbrev u5 (h:ak)(I a:aj)(first:aa)(i n ep:Nat):Prop:=∃o,h.get? I=some o/\o.cls=.type "set_iterator" /\ o.data=.fields #[first,.int i 0,.ref a,.int n 0,.int ep 0]
def u5.ty {I a:aj}{f:aa}{i n ep:Nat}(h:u5 s.heap I a f i n ep):s.TypeIs (.ref I) "set_iterator" := let⟨o,ho,hc,_⟩:=h;⟨o,ho,hc⟩
def u5.at {h h':ak}{I a:aj}{f:aa}{i n ep:Nat}(x:u5 h I a f i n ep)(k:∀o,h.get? I=some o->h'.get? I=some o):u5 h' I a f i n ep:=let⟨o,ho,r⟩:=x;⟨o,k o ho,r⟩
def u5.set {h:ak}{I a:aj}{f g:aa}{i j n ep:Nat}(x:u5 h I a f i n ep):u5 ((h.update I<|Obj.mapFields λfs=>fs.setIfInBounds 0 g).update I<|Obj.mapFields λfs=>fs.setIfInBounds 1<|.int j 0) I a g j n ep:=by
 obtain⟨o,ho,hc,hd⟩:=x;have h1:=bO (Obj.mapFields λfs=>fs.setIfInBounds 0 g) ho<|cF<|bP hd _;have d1:=bP hd λfs=>fs.setIfInBounds 0 g;refine⟨_,bO _ h1<|cF<|bP d1 _,(eS ..).trans<|(eS ..).trans hc,?_⟩;rw[bP d1];simp
def u5.Q5 {h:ak}{I a:aj}{f:aa}{i j n ep:Nat}(x:u5 h I a f i n ep):u5 (h.update I<|Obj.mapFields λfs=>fs.setIfInBounds 1<|.int j 0) I a f j n ep:=by
 obtain⟨o,ho,hc,hd⟩:=x;refine⟨_,bO _ ho<|cF<|bP hd _,(eS ..).trans hc,?_⟩;rw[bP hd];simp
section
variable {I a:aj}{i ep:Nat}{o:Obj}{es:Array (Int×aa)}{t:SetTable}{Q:bd->aA->Prop}
def Jx {sl sl':Nat}{x:aa}(hi:u5 s.heap I a (.int sl 0) i es.size ep)(ho:s.heap.get? a=some o)(hd:o.data=.set es ep t)(hf:t.fits es.size=true)
  (hn:∀(A:az) (E:aa->aA->Prop) (Q:Option (aa×Nat)->aA->Prop),Q (some (x,sl')) s->wpAny (model P w) A (setNext a sl i ep) Q E s)
  (q:∀h',u5 h' I a (.int sl' 0) (i+1) es.size ep->Heap.SameBut I s.heap h'->Q (some x) { s with heap:=h' }):wpAny (model P w) A (pyNext<|.ref I) Q E s:=by
 have ty:=hi.ty;obtain⟨oi,hoi,hci,hdi⟩:=id hi;unfold pyNext;kj_on;refine aF<|aH<|aF<|gY hoi hdi ?_;show wpAny (model P w) _ (setEntries a >>= _) _ _ s;refine aF<|aF<|bT ho hd hf<|aH ?_;rw[aL<|show ¬_ by simp];show wpAny (model P w) _ (setNext a (sl:Int).toNat (i:Int).toNat (ep:Int).toNat >>= _) _ _ s;rw[bE,bE,bE];refine aF<|hn _ _ _ ?_;have l1:=bO (Obj.mapFields λfs=>fs.setIfInBounds 0<|rawInt sl') hoi<|cF<|bP hdi _;have d1:=bP hdi λfs=>fs.setIfInBounds 0<|rawInt sl';refine aF (cY hoi hdi (show _ by simp) ?_);refine aF (cY (i:=1) (x:=rawInt<|(i:Int)+1) l1 d1 (show _ by simp) ?_);refine aH ⟨_,rfl,aH<|q _ (hi.set (g:=.int sl' 0) (j:=i+1))<|(bZ ..).trans<|bZ ..⟩
def DR {sl:Nat}(hh:A.handled=none)(hi:u5 s.heap I a (.int sl 0) i es.size ep)(ho:s.heap.get? a=some o)(hd:o.data=.set es ep t)(hf:t.fits es.size=true)
  (hn:∀(A:az) (E:aa->aA->Prop) (Q:Option (aa×Nat)->aA->Prop),Q none s->wpAny (model P w) A (setNext a sl i ep) Q E s)
  (q:∀h',Heap.ExtBut I s.heap h'->Q none { s with heap:=h' }):wpAny (model P w) A (pyNext<|.ref I) Q E s:=by
 have ty:=hi.ty;obtain⟨oi,hoi,hci,hdi⟩:=id hi;unfold pyNext;kj_on;refine aF<|aH<|aF<|gY hoi hdi ?_;show wpAny (model P w) _ (setEntries a >>= _) _ _ s;refine aF<|aF<|bT ho hd hf<|aH ?_;rw[aL<|show ¬_ by simp];show wpAny (model P w) _ (setNext a (sl:Int).toNat (i:Int).toNat (ep:Int).toNat >>= _) _ _ s;rw[bE,bE,bE];refine aF<|hn _ _ _ ?_;refine aF (cY hoi hdi (show _ by simp) ?_);show wpAny (model P w) _ (newExc (.type "StopIteration") [] >>= _) _ _ _;refine aF ?_;dsimp[newExc,newTuple];refine aF (br (aF (m:=firstArgMember _ _)<|gz (a:=Value.none) (by first|rfl|(dsimp[firstArgMember];rfl))<|br ?_<|by size_fits)<|by size_fits);dsimp[raiseNew];have hn:A.in1.handled=none:=hh;refine aF<|iz<|?_;rw[hn];refine aF<|aH<|wpAny_throw<|?_;refine aF<|gf (b:=true) (T := "StopIteration") ⟨_,aU _ rfl,rfl⟩ isSubtype_stop<|aH<|q _<|((bZ ..).extBut.push _).push _
section
variable {T:aj}{pl:am}{oT:Obj}{kT:Nat}
def MT {p:Nat}{e:Int×aa}(hi:u5 s.heap I a (.ref T) i es.size ep)(hT:s.heap.get? T=some oT)(dT:oT.data=.seq (pl.map λi:Nat=>rawInt i).toArray kT)(ho:s.heap.get? a=some o)(hd:o.data=.set es ep t)(hf:t.fits es.size=true)
  (hp:pl[i]?=some p) (he:es[p]?=some e) (q:∀h',u5 h' I a (.ref T) (i+1) es.size ep->Heap.SameBut I s.heap h'->Q (some e.2) { s with heap:=h' }):wpAny (model P w) A (pyNext<|.ref I) Q E s:=by
 have ty:=hi.ty;obtain⟨oi,hoi,hci,hdi⟩:=id hi;unfold pyNext;kj_on;refine aF<|aH<|aF<|gY hoi hdi ?_;show wpAny (model P w) _ (setEntries a >>= _) _ _ s;refine aF<|aF<|bT ho hd hf<|aH ?_;rw[aL<|show ¬_ by simp];refine aF<|fU hT dT ?_;have e1:(pl.map λi:Nat=>rawInt i).toArray[(i:Int).toNat]?=some (rawInt p):=by
  rw[bE,c6,a_,hp];rfl
 dsimp only;rw[e1];show wpAny (model P w) _ (setNextDrawn a (p:Int).toNat (ep:Int).toNat >>= _) _ _ s;rw[bE,bE];unfold setNextDrawn;refine aF<|aF<|bT ho hd hf ?_;dsimp only;rw[aL<|show ¬_ by simp];refine aF<|aH ?_;rw[he];refine aH ?_;refine aF (cY (i:=1) (x:=rawInt<|(i:Int)+1) hoi hdi (show _ by simp) ?_);exact aH ⟨_,rfl,aH<|q _ (hi.Q5 (j:=i+1))<|bZ ..⟩
def JY (hh:A.handled=none)(hi:u5 s.heap I a (.ref T) i es.size ep)(hT:s.heap.get? T=some oT)(dT:oT.data=.seq (pl.map λi:Nat=>rawInt i).toArray kT)(ho:s.heap.get? a=some o)(hd:o.data=.set es ep t)(hf:t.fits es.size=true)
  (hp:pl.length<=i) (q:∀h',Heap.ExtBut I s.heap h'->Q none { s with heap:=h' }):wpAny (model P w) A (pyNext<|.ref I) Q E s:=by
 have ty:=hi.ty;obtain⟨oi,hoi,hci,hdi⟩:=id hi;unfold pyNext;kj_on;refine aF<|aH<|aF<|gY hoi hdi ?_;show wpAny (model P w) _ (setEntries a >>= _) _ _ s;refine aF<|aF<|bT ho hd hf<|aH ?_;rw[aL<|show ¬_ by simp];refine aF<|fU hT dT ?_;have e1:(pl.map λi:Nat=>rawInt i).toArray[(i:Int).toNat]?=none:=by
  rw[bE,c6,bG<|by rw[aK];exact hp]
 dsimp only;rw[e1];have l1:=bO (Obj.mapFields λfs=>fs.setIfInBounds 0<|rawInt 0) hoi<|cF<|bP hdi _;have d1:=bP hdi λfs=>fs.setIfInBounds 0<|rawInt 0;refine aF (cY hoi hdi (show _ by simp) ?_);refine aF (cY (i:=2) (x:=.none) l1 d1 (show _ by simp) ?_);show wpAny (model P w) _ (newExc (.type "StopIteration") [] >>= _) _ _ _;refine aF ?_;dsimp[newExc,newTuple];refine aF (br (aF (m:=firstArgMember _ _)<|gz (a:=Value.none) (by first|rfl|(dsimp[firstArgMember];rfl))<|br ?_<|by size_fits)<|by size_fits);dsimp[raiseNew];have hn:A.in1.handled=none:=hh;refine aF<|iz<|?_;rw[hn];refine aF<|aH<|wpAny_throw<|?_;refine aF<|gf (b:=true) (T := "StopIteration") ⟨_,aU _ rfl,rfl⟩ isSubtype_stop<|aH<|q _<|(((bZ ..).trans<|bZ ..).extBut.push _).push _
end
end
end
def z8:Slot "set_iterator" "__iter__" "set_iterator.__iter__" :=
 .of (owner := "set_iterator") (n := "__iter__") (by rw[typeLookup_type,gc];kernel_rfl) ∅ ∅ ∅ (by first|exact .inl ∅|exact .inr ∅) (by rw[gX];kernel_rfl)
def Hq:entryFor table "set_iterator.__iter__" = some Builtin.«dict_keyiterator.__iter__»:=entryFor_alias (id' := "dict_keyiterator.__iter__") (by kernel_rfl) rfl ∅ (by kernel_rfl)
def Fv(a:aa):argsOk "set_iterator.__iter__" ⟨[a],[]⟩:=by
 unfold argsOk;rw[signature?_of (id := "set_iterator.__iter__") (n:=['_','_','r','e','t','i','_','_']) (o:=['r','o','t','a','r','e','t','i','_','t','e','s']) (by kernel_rfl) G6];kernel_rfl
def vh:Slot "set" "__iter__" "set.__iter__" :=
 .of (owner := "set") (n := "__iter__") (by rw[typeLookup_type,gc];kernel_rfl) ∅ ∅ ∅ (by first|exact .inl ∅|exact .inr ∅) (by rw[gX];kernel_rfl)
def Oz:Manifest.owners.lookup (String.ofList ['t','e','s'].reverse)=some Manifest.sig_set:=by kernel_rfl
def BW(a:aa):argsOk "set.__iter__" ⟨[a],[]⟩:=by
 unfold argsOk;rw[signature?_of (id := "set.__iter__") (n:=['_','_','r','e','t','i','_','_']) (o:=['t','e','s']) (by kernel_rfl) Oz];kernel_rfl
section
variable {P:ah}{w:af}{A:az}{E:aa->aA->Prop}{s:aA}{I a:aj}{ep:Nat}{o:Obj}{es:Array (Int×aa)}{t:SetTable}
def yG{Q:Bool->aA->Prop}(h:Q (w.params.followText "set-order") s):wpAny (model P w) A setsByText Q E s:=by
 unfold setsByText;exact aF<|wpAny_askSetting<|aH h
def xy {sl i:Nat}{Q:Option (aa×Nat)->aA->Prop}(hb:w.params.followText "set-order" = true)(ho:s.heap.get? a=some o)(hd:o.data=.set es ep t)(hf:t.fits es.size=true)
  (h:Q (((pickOrder (w.params.setOrder a ep) es)[i]?).map λe=>(e.2,sl)) s):wpAny (model P w) A (setNext a sl i ep) Q E s:=by
 unfold setNext;refine aF<|bT ho hd hf ?_;dsimp only;refine aF<|yG ?_;rw[aM hb,aL<|show ¬_ by simp];unfold setWalk;refine aF<|aF<|bT ho hd hf ?_;dsimp only;refine aF<|yG ?_;rw[aM hb];refine aF<|wpAny_askSetting<|aH<|aH h
def wo {sl i:Nat}{Q:Option (aa×Nat)->aA->Prop}(hb:w.params.followText "set-order" = false)(ho:s.heap.get? a=some o)(hd:o.data=.set es ep t)(hf:t.fits es.size=true)(hl:t.led=true)(hp:(!t.plain && decide (es.size>1))=false)
  (h:Q (match es[SetTable.below t.place sl]?,t.place[SetTable.below t.place sl]? with
   | some (_,x),some j=>some (x,j+1)
   | _,_=>none) s):wpAny (model P w) A (setNext a sl i ep) Q E s:=by
 unfold setNext;refine aF<|bT ho hd hf ?_;dsimp only;refine aF<|yG ?_;rw[aL<|by rw[hb];exact aX];show wpAny (model P w) A (if (!t.plain && decide (es.size>1))=true then _ else _) _ _ s;rw[aL<|by rw[hp];exact aX];refine aF (m:=if (!t.led && !es.isEmpty)=true then unsupported "set:maker-not-led" else pure Unit.unit) ?_;rw[aL<|by rw[hl];exact aX];exact aH<|aH h
abbrev SW (P:ah)(w:af)(A:az)(a:aj)(h0:ak)(vals:ba)(v:aa)(h':ak):Prop:=
 ∃(I:aj) (fp:bb) (ord:ba) (St:Nat->ak->Prop),v=.ref I/\ord.Perm vals/\h0.objs.size<=I/\(∀b,b<h0.objs.size->b≠a->b∉fp)/\Walks P w A I fp [I] ord.length (λi v=>ord[i]?=some v) St/\St 0 h'/\∀b o,h0.get? b=some o->h'.get? b=some o
def sZ {first:aa}{i n:Nat}{Q:aa->aA->Prop}(hi:u5 s.heap I a first i n ep)(q:Q (.ref I) s):wpAny (model P w) A (pyIter<|.ref I) Q E s:=by
 refine wpAny_pyIter_slot hi.ty z8<|cj z8 hi.ty Hq ?_<|Fv _;exact aH ⟨_,rfl, "set_iterator",_,hi.ty,jW.lookup,q⟩
def AN (hh:A.handled=none)(ne:a≠I)(hb:w.params.followText "set-order" = true)(hd:o.data=.set es ep t)(hf:t.fits es.size=true) :
  Walks P w A I [I,a] [I] es.size (λi v=>((pickOrder (w.params.setOrder a ep) es).toList.map (·.2))[i]?=some v) (λi h=>u5 h I a (.int 0 0) i es.size ep/\h.get? a=some o):=by
 have sz:(pickOrder (w.params.setOrder a ep) es).size=es.size:=by
  have:=(tR (w.params.setOrder a ep) es).length_eq
  rwa [bD,bD]at this
 exact {
  sub:=λb hb=>by rw[bh.mp hb];exact aR ..
  frame:=λ_ _ _ st hk=>⟨st.1.at<|hk I<|aR ..,hk a (aT _<|aR ..) o st.2⟩
  item:=λi s Q E lt st q=>Jx (x:=((pickOrder (w.params.setOrder a ep) es)[i]'()).2) (sl':=0) st.1 st.2 hd hf (λA' E' Q' q'=>xy hb st.2 hd hf<|by rw[bN ()];exact q')
   λh' k1 k2=>q _ h' s.toks (by rw[a_,dR,bN ()];rfl) ⟨k1,k2.extBut a o ne st.2⟩ λb x nb e=>k2.extBut b x (λz=>nb<|bh.mpr z) e
  done:=λs Q E st q=>DR hh st.1 st.2 hd hf (λA' E' Q' q'=>xy hb st.2 hd hf<|by rw[eL ()];exact q') λh' k=>q h' s.toks λb x nb e=>k b x (λz=>nb<|bh.mpr z) e
  self:=λ_ _ _ _ st q=>sZ st.1 q }
def zp (hh:A.handled=none)(ne:a≠I)(hb:w.params.followText "set-order" = false)(hd:o.data=.set es ep t)(hf:t.fits es.size=true)(hl:t.led=true)(hp:(!t.plain && decide (es.size>1))=false)(hs:Sr t) :
  Walks P w A I [I,a] [I] es.size (λi v=>(es.toList.map (·.2))[i]?=some v) (λi h=>(∃sl:Nat,SetTable.below t.place sl=i/\u5 h I a (.int sl 0) i es.size ep)/\h.get? a=some o):=by
 have sz:t.place.size=es.size:=by
  unfold SetTable.fits at hf;rw[bV,fF]at hf;exact hf.1
 exact {
  sub:=λb hb=>by rw[bh.mp hb];exact aR ..
  frame:=λ_ _ _ st hk=>by
   obtain⟨⟨sl,h1,h2⟩,h3⟩:=st;exact⟨⟨sl,h1,h2.at<|hk I<|aR ..⟩,hk a (aT _<|aR ..) o h3⟩
  item:=λi s Q E lt st q=>by
   obtain⟨⟨sl,h1,h2⟩,h3⟩:=st;refine Jx (x:=(es[i]'lt).2) (sl':=t.place[i]'()+1) h2 h3 hd hf (λA' E' Q' q'=>wo hb h3 hd hf hl hp ?_) λh' k1 k2=>q _ h' s.toks (by rw[a_,dR,bN lt];rfl) ⟨⟨_,A1 hs.up (),k1⟩,k2.extBut a o ne h3⟩ λb x nb e=>k2.extBut b x (λz=>nb<|bh.mpr z) e;rw[h1,bN lt,bN<|show i<t.place.size by lia];exact q'
  done:=λs Q E st q=>by
   obtain⟨⟨sl,h1,h2⟩,h3⟩:=st;refine DR hh h2 h3 hd hf (λA' E' Q' q'=>wo hb h3 hd hf hl hp ?_) λh' k=>q h' s.toks λb x nb e=>k b x (λz=>nb<|bh.mpr z) e;rw[h1,eL<|aN _];exact q'
  self:=λ_ _ _ _ st q=>by
   obtain⟨⟨sl,h1,h2⟩,h3⟩:=st;exact sZ h2 q }
def zq {T:aj}{oT:Obj}{pl:am}{kT:Nat}(hh:A.handled=none)(ne:a≠I)(nT:T≠I)(dT:oT.data=.seq (pl.map λi:Nat=>rawInt i).toArray kT)(hpl:pl.Perm<|List.range es.size)(hd:o.data=.set es ep t)(hf:t.fits es.size=true) :
  Walks P w A I [I,a,T] [I] es.size (λi v=>(pl.map λp=>(es.getD p (0,.none)).2)[i]?=some v) (λi h=>u5 h I a (.ref T) i es.size ep/\h.get? a=some o/\h.get? T=some oT):=by
 have ll:pl.length=es.size:=by rw[hpl.length_eq,bW]
 exact {
  sub:=λb hb=>by rw[bh.mp hb];exact aR ..
  frame:=λ_ _ _ st hk=>⟨st.1.at<|hk I<|by simp,hk a (by simp) o st.2.1,hk T (by simp) oT st.2.2⟩
  item:=λi s Q E lt st q=>by
   have hp:pl[i]?=some (pl[i]'()):=aG _;have lp:pl[i]'()<es.size:=cX.mp<|hpl.mem_iff.mp<|cD _;refine MT st.1 st.2.2 dT st.2.1 hd hf hp (bN lp) λh' k1 k2=>q _ h' s.toks (by rw[a_,hp];simp[Array.getD,lp]) ⟨k1,k2.extBut a o ne st.2.1,k2.extBut T oT nT st.2.2⟩ λb x nb e=>k2.extBut b x (λz=>nb<|bh.mpr z) e
  done:=λs Q E st q=>JY hh st.1 st.2.2 dT st.2.1 hd hf () λh' k=>q h' s.toks λb x nb e=>k b x (λz=>nb<|bh.mpr z) e
  self:=λ_ _ _ _ st q=>sZ st.1 q }
def OY {Q:aa->aA->Prop}(hh:A.handled=none)(ho:s.heap.get? a=some o)(hx:o.ExactSet)(hd:o.data=.set es ep t)(hf:t.fits es.size=true)(hz:es.size<scanBound)(hs:Sr t)(hl:t.led=ym w)
  (q:∀v h' d,SW P w A a s.heap (es.toList.map (·.2)) v h'->Q v { s with heap:=h',drawn:=d }):wpAny (model P w) A (pyIter<|.ref a) Q E s:=by
 have ty:s.TypeIs (.ref a) "set" := ⟨o,ho,hx.1⟩;have la:=aV ho;have lN:(es.toList.map (·.2)).length=es.size:=by simp
 refine wpAny_pyIter_slot ty vh<|cj vh ty FT ?_<|BW _;unfold Builtin.«frozenset.__iter__»;refine aF<|aF<|aH<|aH ?_;refine aF<|aF<|aF<|bT ho hd hf<|aH<|aH ?_;refine aF<|aF<|bT ho hd hf ?_;dsimp only;refine aF (yG<|aH ?_)
 cases hb:w.params.followText "set-order" with
 | true=>
  rw[aL<|show ¬((!true && _)=true)by simp];refine aF<|aH<|aF<|aF<|bT ho hd hf<|aH ?_;o_rec;refine q _ _ s.drawn ⟨s.heap.objs.size,[s.heap.objs.size,a],(pickOrder (w.params.setOrder a ep) es).toList.map (·.2),(λi h=>u5 h s.heap.objs.size a (.int 0 0) i es.size ep/\h.get? a=some o),rfl,(tR _ _).map _,aN _,λb h1 h2=>by simp;exact⟨aZ h1,h2⟩,?_,⟨⟨_,aU _ rfl,rfl,rfl⟩,aJ _ ho⟩,λb o e=>aJ _ e⟩;have W:=AN (P:=P) (I:=s.heap.objs.size) (a:=a) hh (aZ la) hb hd hf;rw[aK,(tR (w.params.setOrder a ep) es).length_eq,bD];exact W
 | false=>
  have hl':t.led=true:=by rw[hl];unfold ym;rw[hb];rfl
  by_cases hp:(!t.plain && decide (es.size>1))=true
  ·show wpAny (model P w) A.in1 (if (!false && (!t.plain && decide (es.size>1)))=true then _ else _) _ _ s;rw[aM<|show(!false && (!t.plain && decide (es.size>1)))=true by rw[hp];rfl];refine aF<|CM es.size (List.range es.size) s _ bW λys d hy=>?_;refine aF (wpAny_newTuple ?_<|by rw[aK,hy.length_eq,bW];unfold scanBound at hz;unfold sizeLine;lia);have ho1:(s.heap.push { cls:=.type "tuple",data:=.seq (ys.map λi:Nat=>rawInt i).toArray }).get? a=some o:=aJ _ ho;refine aF<|aF<|bT ho1 hd hf<|aH ?_;o_rec;have sz1:(s.heap.push { cls:=.type "tuple",data:=.seq (ys.map λi:Nat=>rawInt i).toArray }).objs.size=s.heap.objs.size+1:=di ..;have hT:(s.heap.push { cls:=.type "tuple",data:=.seq (ys.map λi:Nat=>rawInt i).toArray }).get? s.heap.objs.size=some { cls:=.type "tuple",data:=.seq (ys.map λi:Nat=>rawInt i).toArray }:=aU _ rfl;refine q _ _ d ⟨_,[(s.heap.push { cls:=.type "tuple",data:=.seq (ys.map λi:Nat=>rawInt i).toArray }).objs.size,a,s.heap.objs.size],ys.map λp=>(es.getD p (0,.none)).2,(λi h=>u5 h (s.heap.push { cls:=.type "tuple",data:=.seq (ys.map λi:Nat=>rawInt i).toArray }).objs.size a (.ref s.heap.objs.size) i es.size ep/\h.get? a=some o/\h.get? s.heap.objs.size=some { cls:=.type "tuple",data:=.seq (ys.map λi:Nat=>rawInt i).toArray }),rfl,?_,by rw[sz1];lia,λb h1 h2=>by rw[sz1];simp;exact⟨(),h2,()⟩,?_,⟨⟨_,aU _ rfl,rfl,rfl⟩,aJ _ ho1,aJ _ hT⟩,λb o e=>aJ _<|aJ _ e⟩
   ·refine(hy.map _).trans (.of_eq ?_);refine gq (by simp) λi h1 h2=>?_;simp at h1;simp[Array.getD,h1]
   ·rw[aK,hy.length_eq,bW];exact zq hh (by rw[sz1];exact aZ<|eT la) (by rw[sz1];exact aZ<|c9 _) rfl hy hd hf
  ·have hp:(!t.plain && decide (es.size>1))=false:=by simpa using hp
   show wpAny (model P w) A.in1 (if (!false && (!t.plain && decide (es.size>1)))=true then _ else _) _ _ s;rw[aL<|show ¬((!false && (!t.plain && decide (es.size>1)))=true)by rw[hp];simp];refine aF<|aH<|aF<|aF<|bT ho hd hf<|aH ?_;o_rec;refine q _ _ s.drawn ⟨s.heap.objs.size,[s.heap.objs.size,a],es.toList.map (·.2),(λi h=>(∃sl:Nat,SetTable.below t.place sl=i/\u5 h s.heap.objs.size a (.int sl 0) i es.size ep)/\h.get? a=some o),rfl,.refl _,aN _,λb h1 h2=>by simp;exact⟨aZ h1,h2⟩,?_,⟨⟨0,EF hs.up,⟨_,aU _ rfl,rfl,rfl⟩⟩,aJ _ ho⟩,λb o e=>aJ _ e⟩;rw[lN];exact zp hh (aZ la) hb hd hf hl' hp hs
end
section
variable {P:ah}{w:af}{A:az}{E:aa->aA->Prop}{s:aA}{I a:aj}{ep:Nat}{o:Obj}{es:Array (Int×aa)}{t:SetTable}
def HZ{Q:Bool->aA->Prop}(hT:s.TypeIs (.ref a) "set")(h:Q false s):wpAny (model P w) A (Builtin.List.listLengthHint<|.ref a) Q E s:=by
 unfold Builtin.List.listLengthHint;refine aF<|wpAny_specialOf hT PySem.F.slot_set_len.lookup ?_;generalize hid:("set.__len__" : String)=id0
 wp_delta
 rw[show splitId id0=some ("set", "__len__")from by subst hid;decide +kernel];subst hid;refine aF (gf (T := "set") (b:=true) hT (by rw[gX];kernel_rfl) ?_);refine wpAny_ite_split (λhab=>absurd hab ⋯) λ_=>?_;refine wpAny_ite_split (λ_=>?_) λhab=>absurd ∅ hab;refine aF<|gK hT ?_;exact aH h
def P5{R:ba->aA->Prop}(hh:A.handled=none)(ho:s.heap.get? a=some o)(hx:o.ExactSet)(hd:o.data=.set es ep t)(hf:t.fits es.size=true)(hz:es.size<scanBound)(hs:Sr t)(hl:t.led=ym w)
  (h:∀(h':ak) (tk:Nat) (d:Drawn) (ord:ba),ord.Perm (es.toList.map (·.2))->(∀b o,s.heap.get? b=some o->h'.get? b=some o)->R ord { s with heap:=h',toks:=tk,drawn:=d }) :
  wpAny (model P w) A (collect<|.ref a) R E s:=by
 have la:=aV ho;unfold collect;refine aF<|gS<|c5 entry_proto_collect' ?_;rw[cV PySem.F.plain_proto_collect _];refine aF<|br ?_;refine aH ⟨fq PySem.F.plain_list_iadd _,c5 entry_list_iadd' ?_⟩;rw[cV PySem.F.plain_list_iadd _];have g0:(s.heap.push {}).get? s.heap.objs.size=some { cls:=.type "list",data:=.seq #[]}:=aU _ rfl;have oa:(s.heap.push {}).get? a=some o:=aJ _ ho;have ty:Shared.TypeIs { s with heap:=s.heap.push {}} (.ref a) "set" := ⟨o,oa,hx.1⟩;have sz:(s.heap.push {}).objs.size=s.heap.objs.size+1:=di ..;show wpAny _ A.in1 (Builtin.List.listExtendWith (.ref s.heap.objs.size) (.ref a)<|.ref s.heap.objs.size) _ _ _;unfold Builtin.List.listExtendWith;refine aF<|gK ty ?_;have n1:Builtin.List.listSameRef (.ref s.heap.objs.size) (.ref a)=false:=by simp[Builtin.List.listSameRef,cG<|aZ la]
 dsimp[n1,show(Value.type "set" == Value.type "list")=false by decide,show(Value.type "set" == Value.type "tuple")=false by decide,Bool.or_false,bA,cK];refine aF<|OY (A:=A.in1) (s:={ s with heap:=s.heap.push {}}) hh oa hx hd hf hz hs hl λv h1 d W=>?_;obtain⟨I,fp,ord,St,rfl,pm,hI,hfp,W,st,hk⟩:=W;have on:ord.length=es.size:=by rw[pm.length_eq];simp
 have nS:s.heap.objs.size∉fp:=hfp _ (by rw[sz];lia)<|fN la;have key:∀(h2:ak) (c:Nat),St 0 h2->(∀b ob,b≠s.heap.objs.size->h1.get? b=some ob->h2.get? b=some ob)->h2.get? s.heap.objs.size=some { cls:=.type "list",data:=.seq #[] c } ->
   codeAny (model P w) A (.builtin "list.extend.loop" ⟨[.ref s.heap.objs.size,.ref I,.ref s.heap.objs.size],[]⟩) (λr s'=>∃(h':ak) (tk:Nat) (c':Nat),r=.ok (.ret<|.ref s.heap.objs.size)/\s'={ s with heap:=h',toks:=tk,drawn:=d } /\
    (∀b ob,s.heap.get? b=some ob->h'.get? b=some ob)/\h'.get? s.heap.objs.size=some { cls:=.type "list",dict:=none,data:=.seq ord.toArray c',slots:=#[]}) { s with heap:=h2,drawn:=d }:=by
  intro h2 c st2 k2 g2;refine codeAny_extend_loopS W.toS (by rw[on];unfold scanBound at hz;unfold sizeLine;lia) _ nS _ ord.length 0 _ #[] c rfl (cE _) st2 g2 (ItemsOf.nil _) λs' acc c' hm g3 hacc=>?_;rw[Moved.eq_with hm];have ea:acc=ord.toArray:=by
   apply Array.ext';refine cH λj=>?_;show acc.toList[j]?=ord[j]?;rw[dR]
   cases e:acc[j]? with
   | some v=>exact(hacc.2 j v e).symm
   | none=>
    have:acc.size<=j:=Array.getElem?_eq_none_iff.mp e;rw[bG<|by rw[<- hacc.1];exact this]
  subst ea;refine⟨s'.heap,s'.toks,c',rfl,rfl,λb ob e=>hm.heap b ob (λhb=>?_)<|k2 b ob (aZ<|aV e)<|hk b ob<|aJ _ e,g3⟩;have lb:=aV e
  rcases bB.mp hb with z|z
  ·exact absurd z (aZ lb)
  ·have:=bh.mp z;have hI':(s.heap.push {}).objs.size<=I:=hI;rw[sz]at hI';exact absurd lb<|by rw[this];exact Nat.not_lt.mpr<|Nat.le_of_succ_le hI'
 have g1:=hk _ _ g0;have ty1:Shared.TypeIs { s with heap:=h1,drawn:=d } (.ref a) "set" := ⟨o,hk _ _ oa,hx.1⟩;refine aF<|cu<|HZ ty1 ?_;refine wpAny_ite_split (λ_=>?_) (λ_=>aH ⟨fq PySem.F.plain_extend_loop _,eE (key h1 0 st (λ_ _ _ e=>e) g1) λr s' hr=>?_⟩)
 ·refine aF<|c7 ?_;refine aF ?_;show wpAny _ _ (updateSeq s.heap.objs.size (·.push .none) >>= λ_=>updateSeq s.heap.objs.size (·.pop)) _ _ _;refine aF<|wpAny_updateSeq g1 rfl ?_;have g2:=bO (Obj.mapSeq (·.push Value.none)) g1 rfl;refine wpAny_updateSeq (hz:=by seq_fits) g2 rfl ?_;have g3:=bO (Obj.mapSeq (·.pop)) g2 rfl;refine aH ⟨fq PySem.F.plain_extend_loop _,eE (key _ _ (W.frame 0 _ _ st λb hb ob e=>?_) (λb ob nb e=>?_) g3) λr s' hr=>?_⟩
  ·have nb:b≠s.heap.objs.size:=λz=>nS<|z ▸ hb;exact(b7 _ _<|cG nb).trans ((b7 _ _<|cG nb).trans e)
  ·exact(b7 _ _<|cG nb).trans ((b7 _ _<|cG nb).trans e)
  ·obtain⟨h',tk,c',rfl,rfl,k',g'⟩:=hr;show wpAny _ A (load s.heap.objs.size >>= _) _ _ _;refine aF<|wpAny_load g' ?_;exact aH<|h h' tk d ord pm k'
 ·obtain⟨h',tk,c',rfl,rfl,k',g'⟩:=hr;show wpAny _ A (load s.heap.objs.size >>= _) _ _ _;refine aF<|wpAny_load g' ?_;exact aH<|h h' tk d ord pm k'
end
abbrev MM (P:ah)(w:af)(o:Obj)(ns:ag):Prop:=∃es ep t,o.ExactSet/\o.data=.set es ep t/\(∃ms:ag,IntsAre (es.toList.map (·.2)) ms/\ms.Perm ns)/\es.size<scanBound/\t.fits es.size=true/\Sr t/\t.led=ym w
theorem vN{P:ah}{w:af}:∀(es:List<|Int×aa),ElemsOf (intKind P w) es->∃ms:ag,IntsAre (es.map (·.2)) ms/\∀k,(∃e∈es,(intKind P w).is k e.2=true)->k∈ms
 | [],_=>⟨[],.nil,λk ⟨_,h,_⟩=>nomatch h⟩
 | e::es,h=>by
  obtain⟨ms,h1,h2⟩:=vN es λx hx=>h x<|aT _ hx;obtain⟨⟨k,hk,_⟩,_⟩:=h e<|aR ..;obtain⟨t,ht⟩:=g8 (k:=k) (v:=e.2) hk;refine⟨k::ms,by rw[dO,ht];exact .cons k t h1,λj ⟨x,hx,q⟩=>?_⟩
  rcases bB.mp hx with rfl|hx
  ·obtain⟨t',ht'⟩:=g8 (k:=j) (v:=x.2) q;have z:=ht.symm.trans ht'
   injection z with z
   rw[<- z];exact aR ..
  ·exact aT _<|h2 j ⟨x,hx,q⟩
def HS{ds ms:ag}(nd:ds.Nodup)(h:∀x∈ds,x∈ms)(hl:ms.length=ds.length):ms.Perm ds:=by
 induction ds generalizing ms with
 | nil=>rw[cI.mp hl]
 | cons d ds ih=>
  have hd:=h d<|aR ..;have p:=List.perm_cons_erase hd;refine p.trans (List.Perm.cons d<|ih (dB.mp nd).2 (λx hx=>?_) (by have:=p.length_eq;simp at this hl;lia));have nx:x≠d:=λz=>(dB.mp nd).1 (z ▸ hx)
  rcases bB.mp (p.mem_iff.mp<|h x<|aT _ hx)with z|z
  ·exact absurd z nx
  ·exact z
def Fb:∀{vs ws:ba},ws.Perm vs->∀{ms:ag},IntsAre vs ms->∃ks:ag,IntsAre ws ks/\ks.Perm ms:=by
 intro vs ws p
 induction p with
 | nil=>exact λh=>⟨_,h,.refl _⟩
 | cons x _ ih=>
  intro ms h
  cases h with
  | cons n t h=>
   obtain⟨ks,h1,h2⟩:=ih h;exact⟨n::ks,.cons n t h1,h2.cons n⟩
 | swap x y l=>
  intro ms h
  cases h with
  | cons n t h=>cases h with
   | cons m u h=>exact⟨m::n::_,.cons m u<|.cons n t h,.swap ..⟩
 | trans _ _ ih1 ih2=>
  intro ms h;obtain⟨ks,h1,h2⟩:=ih2 h;obtain⟨ls,h3,h4⟩:=ih1 h1;exact⟨ls,h3,h4.trans h2⟩
def M5{P:ah}{w:af}{h:ak}{a:aj}{ns:ag}(nd:ns.Nodup)(r:qC P w (ym w) h a (λk=>ns.any (· == k)) ns.length):∃o,h.get? a=some o/\MM P w o ns:=by
 obtain⟨o,es,ep,t,ho,hx,hd,el,mm,hz,hf,hn,hs,hl⟩:=r;obtain⟨ms,h1,h2⟩:=vN es.toList el;have lm:ms.length=es.size:=by
  have:=(sD h1).1;rw[aK,bD]at this;exact this.symm
 refine⟨o,ho,es,ep,t,hx,hd,⟨ms,h1,HS nd (λx hx=>h2 x<|(mm x).mp ?_)<|by rw[lm,hn]⟩,hz,hf,hs,hl⟩;rw[List.any_eq_true];exact⟨x,hx,bz _⟩
theorem Ar:∀(ns acc:ag),(acc++ns).Nodup->ns.foldl step_dedup acc=acc++ns
 | [],acc,_=>(b5 _).symm
 | n::ns,acc,h=>by
  have hn:n∉acc:=λz=>by
   have:=ie.mp h;exact this.2.2 n z n (aR ..) rfl
  have e:step_dedup acc n=acc++[n]:=by
   unfold step_dedup;rw[aL<|by rw[List.any_eq_true];rintro⟨x,hx,q⟩;exact hn<|by rw[<- (fF.mp q)];exact hx]
  rw[gE,e,Ar ns (acc++[n])<|by rw[bS];exact h,bS];rfl
section
variable {X:Cx}
def EC(hc:X.calm=true):jt X (.type "set") (λxs H Q=>∃(p:aj) (ns:ag),xs=[.ref p]/\lE X.K H p (ns.map V.int)/\ns.length<4000/\ns.Nodup/\∀r o,MM X.prog X.w o ns->H r=none->Q (.ref r) (upd H r<|.frz o<|.own r)):=by
 kt_k;obtain⟨p,ns,rfl,hs,hl,nd,q⟩:=h;kl_no
 cases rx
 obtain⟨its,rv,pl,hsz⟩:=I.list hs;have ln:its.toArray.size=ns.length:=by
  have:=rv.length;rw[aK]at this;rw[aP,this]
 refine E2 (I.ok.hd hc) pl.isList (AD (its:=its.toArray.toList)<|by simpa using rv) (by rw[ln];unfold scanBound;lia) λh' tk so hk=>?_;rw[ln,HP,Ar ns [] nd]at so;obtain⟨o,ho,hO⟩:=M5 nd so;exact⟨.ref s.heap.objs.size,_,I.laid (o:=.frz o<|.own s.heap.objs.size) (t':=tk) (λb o e=>hk b o (aV e) e) (aN _) ⟨ho,_,ho⟩,rfl,q _ o hO I.fresh⟩
def Inv.SY{H:Hp}{s:aA}{d:Drawn}(I:Inv X pins σ H s):Inv X pins σ H { s with drawn:=d }:=⟨I.ok,I.os,I.bare,I.base,I.loc,I.cell,I.free,I.freeC,I.pin,I.hok,I.len⟩
def A7(hc:X.calm=true):jt X (.builtin "sorted") (λxs H Q=>∃(r:aj) (o:Obj) (u:HO) (ns:ag),xs=[.ref r]/\H r=some (.frz o u)/\MM X.prog X.w o ns /\
  ∀l g (ms:ag),ms.Perm ns->H l=none->Sx.Cl g 0 ms.length->Sx.So (J5 ms) g 0 ms.length->Q (.ref l) (upd H l<|.lst<|(List.range ms.length).map λi=>V.int<|ms.getD (g i) 0)):=by
 kt_k;obtain⟨r',o,u,ns,rfl,er,hO,q⟩:=h;obtain⟨v,rfl,rx⟩:=vals1 r
 cases rx
 obtain⟨es,ep,t,hx,hd,⟨ms,hm,pm⟩,hz,hf,hs,hl⟩:=hO;have ho:s.heap.get? r'=some o:=(show j6 _ _ H s.heap r' (.frz o u)from I.hok r' _ er).1;refine Calls.call_function_entry kind_sorted plain_sorted entry_sorted (args_sorted1 _) ?_;unfold Builtin.«sorted»;refine aF (m:=checkCount "sorted" 1 1 _)<|aH ?_;refine aF<|P5 (show X.A.in1.handled=none from I.ok.hd hc) ho hx hd hf hz hs hl λh' tk d ord po hk=>?_;obtain⟨ks,hk1,hk2⟩:=Fb po hm;exact Bt (s:={ s with drawn:=d }) (I.kept (t':=tk) hk).SY hk1 (by
  have:=po.length_eq;dsimp[aK,bD]at this;unfold scanBound at hz;unfold sizeLine;lia) λl g hl' hc' hs'=>q l g ks (hk2.trans pm) hl' hc' hs'
end
end L2
namespace Am
open PySem PySem.Spec PyProof.Rows L2
section
def KD{ns:ag}{g:Nat->Nat}(c:Sx.Cl g 0 ns.length)(so:Sx.So (J5 ns) g 0 ns.length):(List.range ns.length).map (λi=>ns.getD (g i) 0)=sortI ns:=by
 refine D6 ?_ ?_ (vR ns)
 ·refine List.Perm.trans ?_ (sortI_perm ns).symm;have p:=Bq (N:=ns.length) (g:=g) (λi hi=>(c i (cE _) hi).2) λi j hij hj z=>by
   have:=so i j (cE _) hij hj;rw[z]at this;exact this.J9
  have:=p.map λi=>ns.getD i 0;rw[dM,range_getD]at this;exact this
 ·rw[cN];intro i j hi hj hij;rw[aK,bW]at hi hj;rw[c_,c_,fH,fH];have:=of_decide_eq_false (so i j (cE _) hij hj).ge
  lia
@[irreducible] noncomputable def big:Nat:=2 ^ 4096
end
section
variable {X:Cx}
abbrev Pu (a:A)(S:iX):R A:=match a with
 | .ref n=>opt (iR S n) λxs=>opt (A.ints xs) λns=>gd (ns.length<4000/\ns.Pairwise (· < ·)) (.ok (.ref S.length)<|S++[.lst<|ns.map .int])
 | _=>.no
abbrev Mx (c:Ex):Ex:=λτ S=>(c τ S).bind λa S1=>Pu a S1
def A6{x:Str}{p:Pos}{e:aC}{c:Ex}(hc:X.calm=true)(hm:X.mg x=none)(hv:bootBuiltins x=some (.builtin "sorted"))(hm':X.mg y=none)(hv':bootBuiltins y=some (.type "set"))(ha:AE X e c)
  (hg:Gl X x:=by rfl) (hn:x ≠ "__name__" := by decide) (hdb:(x == ("__debug__" : Str))=false:=by decide) (hg':Gl X y:=by rfl) (hn':y ≠ "__name__" := by decide) (hdb':(y == ("__debug__" : Str))=false:=by decide)
  (he':starEach [e] X.env=(false,eval e X.env)::starEach [] X.env:=by rfl) (hpl':(backTo cpos<|starEach [] X.env).any (·.1)=false:=by rfl)
  (he:starEach [.Call (.Name y p') [e] [] cpos] X.env=(false,eval (.Call (.Name y p') [e] [] cpos) X.env)::starEach [] X.env:=by rfl) (hpl:(backTo pos<|starEach [] X.env).any (·.1)=false:=by rfl) :
  AE X (.Call (.Name x p) [.Call (.Name y p') [e] [] cpos] [] pos) (Mx c):=
 PE.imp (wz (A7 hc) hg hm hv (k_ (xw (EC hc) hg' hm' hv' (k_ ha oK he') hn' hdb' he' hpl') oK he) hn hdb he hpl) λσ H Q h9=>by
  z_go;refine⟨ρ,S,τ,R,r,iT (iV h) .refl λa S1 h1 ρ1 H1 v e1 R1 v1=>?_⟩
  cases v1 with
  | ref hp=>
   rename_i p' n;obtain⟨xs,hn,h1⟩:=jb h1;obtain⟨ns,hi,h1⟩:=jb h1;obtain⟨⟨hl,pw⟩,h1⟩:=jl h1;obtain⟨vs,g1,av⟩:=R1.lst hp<|ja hn;have ev:=B4 av hi;subst ev;refine⟨p',ns,rfl,lE.of g1,hl,pw.imp λh=>Int.ne_of_lt h,λr' o hO hr=>?_⟩;obtain⟨ex,R2⟩:=R1.im (u:=.frz o<|.own r') hr;refine⟨r',o,_,ns,rfl,jx,hO,λl g ms pm hl' hc' hs'=>?_⟩;have e:(List.range ms.length).map (λi=>ms.getD (g i) 0)=ns:=by
    rw[KD hc' hs'];exact D6 ((sortI_perm ms).trans pm) (vR ms)<|pw.imp λh=>Int.le_of_lt h
   have av2:∀ρ H,AVs X.K ρ H (ns.map .int) ((List.range ms.length).map λi=>V.int<|ms.getD (g i) 0):=by
    intro ρ H;rw[<- e,dM];exact HW λi _=>.int _
   exact lq R2 (av2 _ _) (e1.trans ex) h1 l hl'
  | _=>exact h1.elim
end
section
variable {X:Cx}{a b c d:aC}{pos:Pos}
abbrev Qi (X:Cx)(f f' f2:A->A->iX->R A)(ca cb cc cd:Ex):TE:=λσ H Q=>tE X ca σ H λx H1=>tE X cb σ H1 λy H2=>r2 X f x y H2 λz H3=>∃k,z=.bl k /\
   (if k=true then tE X cc σ H3 λw' H4=>r2 X f' y w' H4 λz' H5=>∃k',z'=.bl k'/\(if k'=true then tE X cd σ H5 λu' H6=>r2 X f2 w' u' H6 Q else Q (.bl false) H5)else Q (.bl false) H3)
def Lg{f f' f2:A->A->iX->R A}{ca cb cc cd:Ex}{H:Hp}{Q:VK}(h9:tE X (EB f f' f2 ca cb cc cd) σ H Q):Qi X f f' f2 ca cb cc cd σ H Q:=by
 z_go;gp_on;have e12:=e1.trans e2;refine⟨ρ2,S2,a,b,R2,v1.ext e2,v2,iT (iV h2) e12 λk S3 h3 ρ3 H3 z e3 R3 v3=>?_⟩;have e13:=e12.trans e3
 cases k with
 | bl k=>
  cases ue v3
  refine⟨k,rfl,?_⟩
  cases k with
  | true=>
   rw[aM rfl];refine⟨ρ3,S3,τ,R3,r.ext e13,iT (iV h3) e13 λc S4 h4 ρ4 H4 w e4 R4 v4=>⟨ρ4,S4,b,c,R4,v2.ext<|e3.trans e4,v4,iT (iV h4) (e13.trans e4) λk' S5 h5 ρ5 H5 z' e5 R5 v5=>?_⟩⟩;have e15:=(e13.trans e4).trans e5
   cases k' with
   | bl k'=>
    cases ue v5
    refine⟨k',rfl,?_⟩
    cases k' with
    | true=>
     rw[aM rfl];exact⟨ρ5,S5,τ,R5,r.ext e15,iT (iV h5) e15 λd S6 h6 ρ6 H6 w6 e6 R6 v6=>⟨ρ6,S6,c,d,R6,v4.ext<|e5.trans e6,v6,iT h6 (e15.trans e6) λ_ _ q=>q.ext<|e15.trans e6⟩⟩
    | false=>
     rw[aL aX];exact h5 ρ5 H5 _ e15 R5<|.bl false
   | _=>exact h5.elim
  | false=>
   rw[aL aX];exact h3 ρ3 H3 _ e13 R3<|.bl false
 | _=>exact h3.elim
def NR{f f' f2:A->A->iX->R A}{ca cb cc cd:Ex}(ho:lG X (compareOp op)<|r2 X f)(ho':lG X (compareOp op')<|r2 X f')(ho2:lG X (compareOp op2)<|r2 X f2)(ha:AE X a ca)(hb:AE X b cb)(hc:AE X c cc)(hd:AE X d cd)
  (hm:lastMarks [op,op',op2] [b,c,d]=false:=by with_unfolding_all rfl):AT X (.Compare a [op,op',op2] [b,c,d] pos) (rB<|EB f f' f2 ca cb cc cd):=by
 intro pins s σ H Q I h9;have h:Qi X f f' f2 ca cb cc cd σ H λz H'=>∃k,z=.bl k/\Q k H':=by
  z_go;refine Lg ⟨ρ,S,τ,R,r,iT (iV h) .refl λc S1 h1 ρ1 H1 x e1 R1 v1=>?_⟩
  cases c with
  | bl k=>cases ue v1;exact⟨k,rfl,h1 ρ1 H1 e1 R1⟩
  | _=>exact h1.elim
 refine isTrue_chain (jP (ha pins s σ H _ I h) λv s1 ⟨x,H1,I1,r1,q1⟩=>test_link (jP (hb pins s1 σ H1 _ I1 q1) λu s2 ⟨y,H2,I2,r2,q2⟩=>
  jP (ho pins s2 σ H2 x y v u _ I2 r1 r2 q2) λdd s3 ⟨z,H3,I3,r3,k,e,q3⟩=>?_)) hm
 subst e
 cases r3
 refine ck ?_
 cases k with
 | false=>
  obtain⟨k',e',q'⟩:=q3
  cases e'
  exact ite_ff ⟨H3,I3,q'⟩
 | true=>
  refine ite_tt<|test_link<|jP (hc pins s3 σ H3 _ I3 q3) λw' s4 ⟨z',H4,I4,r4,q4⟩=>jP (ho' pins s4 σ H4 y z' u w' _ I4 r2 r4 q4) λd4 s5 ⟨z2,H5,I5,r5,k2,e2,q5⟩=>?_;subst e2
  cases r5
  refine ck ?_
  cases k2 with
  | false=>
   obtain⟨k',e',q'⟩:=q5
   cases e'
   exact ite_ff ⟨H5,I5,q'⟩
  | true=>
   refine ite_tt<|test_last<|jP (hd pins s5 σ H5 _ I5 q5) λw6 s6 ⟨z6,H6,I6,r6,q6⟩=>jP (ho2 pins s6 σ H6 z' z6 w' w6 _ I6 r4 r6 q6) λd' s7 ⟨z7,H7,I7,r7,k7,e7,q7⟩=>?_;subst e7
   cases r7
   exact ck ⟨H7,I7,q7⟩
end
abbrev Df (K:au)(x:Str)(st:aE):Prop:=∃(f:aj) (fd:FuncData),PySem.W.nsIn K mainGlobals x=some (some<|.ref f)/\Fun K x x st f fd
inductive En (P:ah) (w:af) (K:au) (mg:Str->bd) (base:ak):Prop
 | mk (h:ak) (X:K.In h) (G:h.Ns mainGlobals mg)
section
variable {P:ah}{w:af}{K:au}{mg:Str->bd}{base:ak}{x:Str}{st:aE}{ps:ar}{k:Nat}{F:ae->iX->R A}
def En.at(E:En P w K mg base){f:aj}(h:PySem.W.nsIn K mainGlobals x=some (some<|.ref f)):mg x=some (.ref f):=by
 obtain⟨_,X,G⟩:=E;exact cP X G h
def Df.of{f:aj}{kV ct:aa}(a:PySem.W.nsIn K mainGlobals x=some (some<|.ref f))(l:K.lookup f=some ⟨oc,od,.func<|PySem.W.fnOf x x (qw st) (lZ st) (i8 st) .none kV doc pm an cdv ct,osl⟩)(c:PySem.W.codeIn K cdv x=true)(k:PySem.W.keepIn K (.ref f)=true):Df K x st:=⟨f,_,a,Nr l c k⟩
meta abbrev Bi (x:Str)(st:aE)(ps:ar):Prop:=∀us:ba,us.length=ps.length->∀(kV doc pm:aa) (an:Option aj) (cdv ct:aa),bindArgs (PySem.W.fnOf x x (qw st) (lZ st) (i8 st) .none kV doc pm an cdv ct) ⟨us,[]⟩=pure (ps.zip us)
def Df.get(d:Df K x st)(E:En P w K mg base)(b:Bi x st ps):∃f fd,Fun K x x st f fd/\mg x=some (.ref f)/\PySem.W.keepIn K (.ref f)=true/\Binds K fd ps []:=by
 obtain⟨f,fd,a,F⟩:=d;exact⟨f,fd,F,E.at a,F.kp,F.binds λkV doc pm an cdv ct us hl=>b us hl kV doc pm an cdv ct⟩
def Df.kA(d:Df K x st)(E:En P w K mg base)(h:∀{f fd},Fun K x x st f fd->FnOk P w K mg base qF k f fd ps (sH K ps.length F))(b:Bi x st ps):qZ P w K mg base k x ps F:=by
 obtain⟨f,fd,a,c,e,g⟩:=d.get E b;exact⟨f,fd,h a,c,e,g⟩
def Df.kX(d:Df K x st)(E:En P w K mg base)(h:∀{f fd},Fun K x x st f fd->FnOk P w K mg base (A0 P w) k f fd ps (M0 K ps.length F))(b:Bi x st ps):JD P w K mg base k x ps F:=by
 obtain⟨f,fd,a,c,e,g⟩:=d.get E b;exact⟨f,fd,h a,c,e,g⟩
end
section
variable {X:Cx}{pos p:Pos}{e1 e2 e3:aC}{x p1 p2 p3:Str}{k K0:Nat}{F:ae->iX->R A}{c1 c2 c3:Ex}
def JF(G:qZ X.prog X.w X.K X.mg X.base k x [p1] F)(hr:Room K0 X.A)(h1:AE X e1 c1)(hk:k<=K0:=by decide)(hg:Gl X x:=by rfl)(hdb:(x == ("__debug__" : Str))=false:=by decide)(s1:starEach [e1] X.env=(false,eval e1 X.env)::starEach [] X.env:=by rfl)(hp:(backTo pos<|starEach [] X.env).any (·.1)=false:=by rfl):AE X (.Call (.Name x p) [e1] [] pos) (eFn F<|iP c1 iY):=IA G (hr.mono hk) (iQ h1 iU s1) (kU rE) hg hdb s1 hp
def wF(G:qZ X.prog X.w X.K X.mg X.base k x [p1,p2] F)(hr:Room K0 X.A)(h1:AE X e1 c1)(h2:AE X e2 c2)(hk:k<=K0:=by decide)(hg:Gl X x:=by rfl)(hdb:(x == ("__debug__" : Str))=false:=by decide)(s1:starEach [e1,e2] X.env=(false,eval e1 X.env)::starEach [e2] X.env:=by rfl)(s2:starEach [e2] X.env=(false,eval e2 X.env)::starEach [] X.env:=by rfl)(hp:(backTo pos<|starEach [e2] X.env).any (·.1)=false:=by rfl):AE X (.Call (.Name x p) [e1,e2] [] pos) (eFn F<|iP c1<|iP c2 iY):=IA G (hr.mono hk) (iQ h1 (iQ h2 iU s2) s1) (kU<|kU rE) hg hdb s1 hp
def QW(G:qZ X.prog X.w X.K X.mg X.base k x [p1,p2,p3] F)(hr:Room K0 X.A)(h1:AE X e1 c1)(h2:AE X e2 c2)(h3:AE X e3 c3)(hk:k<=K0:=by decide)(hg:Gl X x:=by rfl)(hdb:(x == ("__debug__" : Str))=false:=by decide)(s1:starEach [e1,e2,e3] X.env=(false,eval e1 X.env)::starEach [e2,e3] X.env:=by rfl)(s2:starEach [e2,e3] X.env=(false,eval e2 X.env)::starEach [e3] X.env:=by rfl)(s3:starEach [e3] X.env=(false,eval e3 X.env)::starEach [] X.env:=by rfl)(hp:(backTo pos<|starEach [e2,e3] X.env).any (·.1)=false:=by rfl):AE X (.Call (.Name x p) [e1,e2,e3] [] pos) (eFn F<|iP c1<|iP c2<|iP c3 iY):=IA G (hr.mono hk) (iQ h1 (iQ h2 (iQ h3 iU s3) s2) s1) (kU<|kU<|kU rE) hg hdb s1 hp
def Tn(G:JD X.prog X.w X.K X.mg X.base k x [p1] F)(hr:Room K0 X.A)(h1:AE X e1 c1)(hk:k<=K0:=by decide)(hg:Gl X x:=by rfl)(hdb:(x == ("__debug__" : Str))=false:=by decide)(s1:starEach [e1] X.env=(false,eval e1 X.env)::starEach [] X.env:=by rfl)(hp:(backTo pos<|starEach [] X.env).any (·.1)=false:=by rfl):AE X (.Call (.Name x p) [e1] [] pos) (uB F<|iP c1 iY):=ID G (hr.mono hk) (iQ h1 iU s1) (kU rE) hg hdb s1 hp
def Oi(G:JD X.prog X.w X.K X.mg X.base k x [p1,p2] F)(hr:Room K0 X.A)(h1:AE X e1 c1)(h2:AE X e2 c2)(hk:k<=K0:=by decide)(hg:Gl X x:=by rfl)(hdb:(x == ("__debug__" : Str))=false:=by decide)(s1:starEach [e1,e2] X.env=(false,eval e1 X.env)::starEach [e2] X.env:=by rfl)(s2:starEach [e2] X.env=(false,eval e2 X.env)::starEach [] X.env:=by rfl)(hp:(backTo pos<|starEach [e2] X.env).any (·.1)=false:=by rfl):AE X (.Call (.Name x p) [e1,e2] [] pos) (uB F<|iP c1<|iP c2 iY):=ID G (hr.mono hk) (iQ h1 (iQ h2 iU s2) s1) (kU<|kU rE) hg hdb s1 hp
def uD{N P:ar}{sc:Scope}(a:sc.kind=.function)(b:sc.isCoroutine=false)(c:sc.isGenerator=false)(h:N.Nodup/\N.take P.length=P/\(∀x∈P,sc.names.lookup x=some .local\/sc.names.lookup x=some .cell)/\∀y∈sc.names,y.2≠.free):FnScope N P sc:=⟨a,b,c,h.1,h.2.1,h.2.2.1,h.2.2.2⟩
end
end Am
namespace Bl
open L2
abbrev cnt:ag->Int->Int
 | [],_=>0
 | x::l,j=>(if j<=x then 1 else 0)+cnt l j
abbrev Below (xs ys:ag):Prop:=∀(i:Nat) (j:Int),cnt (xs.take i) j<=cnt (ys.take i) j
def Below.refl(xs:ag):Below xs xs:=λ_ _=>dY _
def Below.trans{a:ag}(h:Below a b)(k:Below b c):Below a c:=λi j=>Int.le_trans (h i j)<|k i j
def cnt_append(a b:ag)(j:Int):cnt (a++b) j=cnt a j+cnt b j:=by
 induction a with
 | nil=>simp[cnt]
 | cons x a ih=>rw[List.cons_append,cnt,cnt,ih];lia
def pG{a:ag}(p:a.Perm b)(j:Int):cnt a j=cnt b j:=by
 induction p with
 | nil=>rfl
 | cons x _ ih=>rw[cnt,cnt,ih]
 | swap x y l=>rw[cnt,cnt,cnt,cnt];lia
 | trans _ _ h1 h2=>exact h1.trans h2
def take_snoc{l:ag}{i:Nat}(h:i<l.length):l.take (i+1)=l.take i++[l[i]]:=by
 rw[List.take_succ,aG h];rfl
def jC{l:ag}{i:Nat}(h:i<l.length)(j:Int):cnt (l.take<|i+1) j=cnt (l.take i) j+(if j<=l[i]then 1 else 0):=by
 rw[take_snoc h,cnt_append,cnt,cnt];lia
def Below.antisymm{a b:ag}(hl:a.length=b.length)(h:Below a b)(k:Below b a):a=b:=by
 apply gq hl;intro i h1 h2;have e:∀(i:Nat) (j:Int),cnt (a.take i) j=cnt (b.take i) j:=λi j=>iI (h i j)<|k i j;have q:∀j:Int,(if j<=a[i]then(1:Int)else 0)=(if j<=b[i]then 1 else 0):=λj=>by
  have:=e (i+1) j;rw[jC h1,jC h2,e i j]at this
  lia
 have qa:=q a[i];have qb:=q b[i];rw[aM<|dY _]at qa qb;by_cases z:a[i]<=b[i]
 ·by_cases z2:b[i]<=a[i]
  ·lia
  ·rw[aL z2]at qb;lia
 ·rw[aL z]at qa;lia
def u9{l:ag}{p:Nat}(h:p<l.length)(v:Int)(i:Nat)(j:Int) :
  cnt ((l.set p v).take i) j=cnt (l.take i) j+(if p<i then(if j<=v then 1 else 0)-(if j<=l[p]then 1 else 0)else 0):=by
 induction l generalizing p i with
 | nil=>cases h
 | cons x l ih=>
  cases i with
  | zero=>simp[cnt]
  | succ i=>
   cases p with
   | zero=>
    show(if j<=v then 1 else 0)+cnt (l.take i) j=(if j<=x then 1 else 0)+cnt (l.take i) j+_;rw[aM<|Nat.succ_pos _];show _=(if j<=x then 1 else 0)+cnt (l.take i) j+((if j<=v then 1 else 0)-(if j<=x then 1 else 0))
    lia
   | succ p=>
    show(if j<=x then 1 else 0)+cnt ((l.set p v).take i) j=(if j<=x then 1 else 0)+cnt (l.take i) j+_;have hp:p<l.length:=f6 h;rw[ih hp];by_cases z:p<i
    ·rw[aM z,aM<|Nat.succ_lt_succ z];show _=(if j<=x then 1 else 0)+cnt (l.take i) j+((if j<=v then 1 else 0)-(if j<=l[p]then 1 else 0))
     lia
    ·rw[aL z,aL λy=>z<|f6 y]
     lia
def qu{l:ag}{p q:Nat}(hp:p<l.length)(hq:q<l.length)(hpq:p<q)(h:l[p]<l[q]):Below l ((l.set p l[q]).set q l[p]):=by
 intro i j;have hq':q<(l.set p l[q]).length:=by rw[bw];exact hq
 rw[u9 hq',u9 hp];have e:(l.set p l[q])[q]=l[q]:=by rw[List.getElem_set_ne<|aZ hpq]
 rw[e]
 (repeat' split)<;>lia
def Gk(l:ag)(i:Nat)(j:Int):cnt (l.drop i) j=cnt l j-cnt (l.take i) j:=by
 have:=cnt_append (l.take i) (l.drop i) j;rw[eO]at this
 lia
abbrev k9 (a b:ag):Prop:=a.length=b.length/\∀(p:Nat) (h:p<a.length),b[(a[p]-1).toNat]?=some ((p:Int)+1)
abbrev j3 (f:Int->Int):ag->Int
 | []=>0
 | x::l=>f x+j3 f l
def BL{f:Int->Int}{a:ag}(p:a.Perm b):j3 f a=j3 f b:=by
 induction p with
 | nil=>rfl
 | cons x _ ih=>rw[j3,j3,ih]
 | swap x y l=>rw[j3,j3,j3,j3];lia
 | trans _ _ h1 h2=>exact h1.trans h2
theorem ql{f g:Int->Int}:∀{l:ag},(∀x∈l,f x=g x)->j3 f l=j3 g l
 | [],_=>rfl
 | x::l,h=>by rw[j3,j3,h x aR,ql λy hy=>h y<|aT _ hy]
def G5(b:ag)(j:Int):∀(i s:Nat),j3 (λt=>if t<=(s:Int)+i then(if j<=(b.getD (t-1-s).toNat 0)then 1 else 0)else 0) (i9 ((s:Int)+1)<|(s:Int)+1+b.length)=cnt (b.take i) j:=by
 induction b with
 | nil=>
  intro i s;have:i9 ((s:Int)+1) ((s:Int)+1+(([]:ag).length:Nat))=[]:=by
   apply cI.mp;rw[jw];simp
  rw[this];simp[j3,cnt]
 | cons x b ih=>
  intro i s;have er:i9 ((s:Int)+1) ((s:Int)+1+((x::b).length:Nat))=((s:Int)+1)::i9 (((s+1:Nat):Int)+1) (((s+1:Nat):Int)+1+b.length):=by
   unfold i9;rw[show((s:Int)+1+((x::b).length:Nat)-((s:Int)+1)).toNat=b.length+1 by rw[bq];lia,show(((s+1:Nat):Int)+1+b.length-(((s+1:Nat):Int)+1)).toNat=b.length by lia,fY,dO,dM];refine List.cons_eq_cons.mpr ⟨(),?_⟩;apply ff;intro k _;show(s:Int)+1+((k+1:Nat):Int)=_
   lia
  rw[er,j3]
  cases i with
  | zero=>
   have z:j3 (λt=>if t<=(s:Int)+(0:Nat)then(if j<=((x::b).getD (t-1-s).toNat 0)then 1 else 0)else 0) (i9 (((s+1:Nat):Int)+1)<|((s+1:Nat):Int)+1+b.length)=j3 (λ_=>0) (i9 (((s+1:Nat):Int)+1)<|((s+1:Nat):Int)+1+b.length):=ql λt ht=>by
    have:=jF.mp ht;rw[aL ()]
   rw[z,aL ()];have zz:∀l:ag,j3 (λ_=>0) l=0:=λl=>by
    induction l with
    | nil=>rfl
    | cons y l ih=>rw[j3,ih];rfl
   rw[zz];rfl
  | succ i=>
   have:=ih i<|s+1;show _=(if j<=x then 1 else 0)+cnt (b.take i) j;rw[<- this,aM (),show((s:Int)+1-1-s).toNat=0 by lia]
   skip
   congr 1;refine ql λt ht=>?_;have ht':=jF.mp ht;have e1:(t-1-(s:Int)).toNat=(t-1-((s+1:Nat):Int)).toNat+1:=()
   rw[e1,List.getD_cons_succ];by_cases z:t<=(s:Int)+((i+1:Nat):Int)
   ·have z':t<=((s+1:Nat):Int)+i:=()
    rw[aM z,aM z']
   ·have z':¬t<=((s+1:Nat):Int)+i:=()
    rw[aL z,aL z']
theorem vE(i:Int)(q:Nat):∀(a:ag) (s:Nat) (f:Int->Int),(∀(p:Nat) (h:p<a.length),f a[p]=if q<=s+p then(if a[p]<=i then 1 else 0)else 0)->j3 f a=((a.drop<|q-s).length:Int)-cnt (a.drop<|q-s) (i+1)
 | [],s,f,_=>by simp[j3,cnt]
 | x::a,s,f,hf=>by
  have h0:=hf 0<|Nat.succ_pos _;have ih:=vE i q a (s+1) f λp h=>by
   have:=hf (p+1)<|Nat.succ_lt_succ h;rw[show s+1+p=s+(p+1)by lia];exact this
  rw[j3,ih];have h0':f x=if q<=s then(if x<=i then 1 else 0)else 0:=h0
  rw[h0'];by_cases z:q<=s
  ·rw[show q-s=0 by lia,show q-(s+1)=0 by lia,aM z];show _=(((x::a).length:Nat):Int)-cnt (x::a) (i+1);rw[cnt,bq,gU];split<;>split<;>lia
  ·rw[aL z,show q-s=(q-(s+1))+1 by lia];show 0+_=((a.drop<|q-(s+1)).length:Int)-cnt (a.drop<|q-(s+1)) (i+1)
   lia
def Kv(n:Nat)(i:Int)(h0:0<=i)(h1:i<=n):cnt (i9 1<|n+1) (i+1)=n-i:=by
 unfold i9;rw[show((n:Int)+1-1).toNat=n by lia]
 induction n with
 | zero=>simp[cnt];lia
 | succ n ih=>
  rw[List.range_succ,cM,cnt_append];show _+((if i+1<=1+(n:Int)then 1 else 0)+0)=_;by_cases z:i<=n
  ·rw[ih z,aM ()];lia
  ·have e:i=(n:Int)+1:=()
   rw[aL ()];have:cnt ((List.range n).map λk:Nat=>(1:Int)+k) (i+1)=0:=by
    have z2:∀l:ag,(∀x∈l,x<i+1)->cnt l (i+1)=0:=λl=>by
     induction l with
     | nil=>intro _;rfl
     | cons x l ih=>intro h;rw[cnt,aL (by have:=h x aR;lia),ih λy hy=>h y<|aT _ hy];rfl
    refine z2 _ λx hx=>?_;obtain⟨k,hk,rfl⟩:=eF.mp hx;have:=cX.mp hk
    lia
   rw[this];lia
def r9{a b:ag}{n:Nat}(p:a.Perm<|i9 1<|n+1)(h:k9 a b){i q:Nat}(hi:i<=n)(hq:q<=n):cnt (b.take i) ((q:Int)+1)=(i:Int)-q+cnt (a.take q) ((i:Int)+1):=by
 have hla:a.length=n:=by rw[p.length_eq,jw];lia
 have hlb:b.length=n:=by rw[<- h.1,hla]
 have s1:=G5 b ((q:Int)+1) i 0;rw[hlb]at s1;have s2:j3 (λt=>if t<=((0:Nat):Int)+i then(if (q:Int)+1<=(b.getD (t-1-((0:Nat):Int)).toNat 0)then 1 else 0)else 0) a=((a.drop<|q-0).length:Int)-cnt (a.drop<|q-0) ((i:Int)+1):=vE i q a 0 _ λk hk=>by
  have e:=h.2 k hk;have e2:b.getD (a[k]-1-((0:Nat):Int)).toNat 0=(k:Int)+1:=by
   rw[show a[k]-1-((0:Nat):Int)=a[k]-1 by lia,aO,e];rfl
  skip
  rw[e2]
  (repeat' split)<;>first|rfl|lia
 have s3:=BL (f:=λt=>if t<=((0:Nat):Int)+i then(if (q:Int)+1<=(b.getD (t-1-((0:Nat):Int)).toNat 0)then 1 else 0)else 0) p;have er:i9 (((0:Nat):Int)+1) (((0:Nat):Int)+1+n)=i9 1 (n+1):=by
  rw[show(((0:Nat):Int)+1)=1 by lia,show((1:Int)+n)=n+1 by lia]
 rw[er]at s1;have c1:=Gk a q<|(i:Int)+1;rw[pG p,Kv n i () ()]at c1;rw[iF,cC,hla]at s2
 lia
def BP{a b a' b':ag}{n:Nat}(pa:a.Perm<|i9 1<|n+1)(pb:b.Perm<|i9 1<|n+1)(ha:k9 a a')(hb:k9 b b')(pa':a'.Perm<|i9 1<|n+1)(pb':b'.Perm<|i9 1<|n+1):Below a' b' ↔ Below a b:=by
 have la:a.length=n:=by rw[pa.length_eq,jw];lia
 have lb:b.length=n:=by rw[pb.length_eq,jw];lia
 have out:∀{x y:ag},x.Perm (i9 1<|n+1)->y.Perm (i9 1<|n+1)->(∀(i q:Nat),i<=n->q<=n->cnt (x.take i) ((q:Int)+1)<=cnt (y.take i) ((q:Int)+1))->Below x y:=by
  intro x y px py h i j;have lx:x.length=n:=by rw[px.length_eq,jw];lia
  have ly:y.length=n:=by rw[py.length_eq,jw];lia
  have low:∀(l:ag),(∀z∈l,j<=z)->cnt l j=l.length:=λl=>by
   induction l with
   | nil=>intro _;rfl
   | cons z l ih=>intro hh;rw[cnt,aM<|hh z aR,ih λy hy=>hh y<|aT _ hy,bq];lia
  have high:∀(l:ag),(∀z∈l,z<j)->cnt l j=0:=λl=>by
   induction l with
   | nil=>intro _;rfl
   | cons z l ih=>intro hh;rw[cnt,aL (by have:=hh z aR;lia),ih λy hy=>hh y<|aT _ hy];rfl
  have rx:∀z∈x,1<=z/\z<(n:Int)+1:=λz hz=>jF.mp<|px.mem_iff.mp hz;have ry:∀z∈y,1<=z/\z<(n:Int)+1:=λz hz=>jF.mp<|py.mem_iff.mp hz;by_cases z1:j<=1
  ·rw[low _ λz hz=>by have:=(rx z<|bK hz).1;lia,low _ λz hz=>by have:=(ry z<|bK hz).1;lia,bJ,bJ,lx,ly];exact dY _
  ·by_cases z2:(n:Int)+1<=j
   ·rw[high _ λz hz=>by have:=(rx z<|bK hz).2;lia,high _ λz hz=>by have:=(ry z<|bK hz).2;lia];exact dY _
   ·obtain⟨q,rfl⟩:∃q:Nat,j=(q:Int)+1:=⟨(j-1).toNat,()⟩;by_cases hi:i<=n
    ·exact h i q hi ()
    ·rw[cZ (),cZ (),pG px,pG py];exact dY _
 constructor
 ·intro h;refine out pa pb λq i hq hi=>?_;have:=h i<|(q:Int)+1;rw[r9 pa ha hi hq,r9 pb hb hi hq]at this
  lia
 ·intro h;refine out pa' pb' λi q hi hq=>?_;rw[r9 pa ha hi hq,r9 pb hb hi hq];have:=h q ((i:Int)+1)
  lia
def Ep{x y:ag}{n:Nat}(px:x.Perm<|i9 1<|n+1)(py:y.Perm<|i9 1<|n+1):(∀(i q:Nat),i<n->q<n->cnt (x.take<|i+1) ((q:Int)+1)<=cnt (y.take<|i+1) ((q:Int)+1)) ↔ Below x y:=by
 have lx:x.length=n:=by rw[px.length_eq,jw];lia
 have ly:y.length=n:=by rw[py.length_eq,jw];lia
 constructor
 ·intro h i j;have rx:∀z∈x,1<=z/\z<(n:Int)+1:=λz hz=>jF.mp<|px.mem_iff.mp hz;have ry:∀z∈y,1<=z/\z<(n:Int)+1:=λz hz=>jF.mp<|py.mem_iff.mp hz;have low:∀(l:ag),(∀z∈l,j<=z)->cnt l j=l.length:=λl=>by
   induction l with
   | nil=>intro _;rfl
   | cons z l ih=>intro hh;rw[cnt,aM<|hh z aR,ih λy hy=>hh y<|aT _ hy,bq];lia
  have high:∀(l:ag),(∀z∈l,z<j)->cnt l j=0:=λl=>by
   induction l with
   | nil=>intro _;rfl
   | cons z l ih=>intro hh;rw[cnt,aL (by have:=hh z aR;lia),ih λy hy=>hh y<|aT _ hy];rfl
  by_cases z1:j<=1
  ·rw[low _ λz hz=>by have:=(rx z<|bK hz).1;lia,low _ λz hz=>by have:=(ry z<|bK hz).1;lia,bJ,bJ,lx,ly];exact dY _
  ·by_cases z2:(n:Int)+1<=j
   ·rw[high _ λz hz=>by have:=(rx z<|bK hz).2;lia,high _ λz hz=>by have:=(ry z<|bK hz).2;lia];exact dY _
   ·obtain⟨q,rfl⟩:∃q:Nat,j=(q:Int)+1:=⟨(j-1).toNat,()⟩;by_cases hi:i<=n
    ·cases i with
     | zero=>simp[cnt]
     | succ i=>exact h i q () ()
    ·rw[cZ (),cZ (),pG px,pG py];exact dY _
 ·exact λh i q _ _=>h (i+1)<|(q:Int)+1
end Bl
namespace Am
open PySem L2 Bl
def IZ{S:iX}{n:Nat}{x:A}{k:Nat}(h:iR S n=some [x])(hk:k<=16777216):nV (.ref n) (.int k) S=.ok (.ref S.length) (S++[.lst<|List.replicate k x]):=by
 show opt (iR S n) _=_;rw[h,j_];have e:(List.replicate k [x]).flatten=List.replicate k x:=by
  induction k with
  | zero=>rfl
  | succ k ih=>rw[cO,dw,ih ()];rfl
 rw[j4 ⟨(),(),by rw[dN,bE];simpa using hk⟩,bE,e]
def vq{xs:ag}{n:Int}(h:xs.Perm<|i9 1<|n+1)(hn:0<=n):(xs.length:Int)=n:=by
 rw[h.length_eq,jw];lia
def y9{xs:ag}{n x:Int}(h:xs.Perm<|i9 1<|n+1)(hx:x∈xs):1<=x/\x<=n:=by
 have:=jF.mp (h.mem_iff.mp hx)
 lia
end Am
namespace Tb
abbrev fg (r:ag)(x:Int):Nat:=r.findIdx λy=>decide<|x<y
abbrev put:List (ag)->Int->List (ag)
 | [],x=>[[x]]
 | r::rs,x=>if fg r x=r.length then(r++[x])::rs else r.set (fg r x) x::put rs (r.getD (fg r x) 0)
abbrev row:List (ag)->Int->Nat
 | [],_=>0
 | r::rs,x=>if fg r x=r.length then 0 else row rs (r.getD (fg r x) 0)+1
abbrev bump:am->Nat->am
 | [],_=>[1]
 | n::ns,0=>(n+1)::ns
 | n::ns,i+1=>n::bump ns i
abbrev add:List (ag)->Nat->Int->List (ag)
 | [],_,k=>[[k]]
 | q::qs,0,k=>(q++[k])::qs
 | q::qs,i+1,k=>q::add qs i k
abbrev gs (r:ag)(x:Int):am:=(List.range r.length).filter λk=>decide<|x<r.getD k 0
end Tb
namespace Am
open PySem L2
abbrev Rows (S:iX):am->List (ag)->Prop
 | [],[]=>True
 | r::rs,x::T=>iR S r=some (x.map .int)/\Rows S rs T
 | _,_=>False
structure Tab (S:iX)(n:Nat)(rs:am)(T:List (ag)):Prop where
 top:iR S n=some (rs.map .ref)
 rows:Rows S rs T
 nd:(n::rs).Nodup
def eq_nil{a:Nat}{xs:ae}(h:iR S a=some xs)(h':iR S b=some []):yx S 12 (.ref a) (.ref b)=some xs.isEmpty:=by
 show(iR S a).bind (λxs=>(iR S b).bind λys=>tN (yx S 11) xs ys)=_;rw[h,ef,h',ef]
 cases xs<;>rfl
def Pf{a:Nat}{xs ys:ag}(h:iR S a=some (xs.map .int))(h':iR S b=some (ys.map .int)):yx S 12 (.ref a) (.ref b)=some (decide<|xs=ys):=by
 show(iR S a).bind (λxs=>(iR S b).bind λys=>tN (yx S 11) xs ys)=_;rw[h,ef,h',ef];exact sN xs ys
def BA{a:A}{k:Bool}(h:yx S 12 a b=some k):uL true a b S=.ok (.bl<|!k) S:=by unfold uL;rw[h];rfl
def zN{xs:ae}{n:Nat}{src:Ic}{t:Te}{e:Ex}{S:iX}(hs:src τ S=.ok (sV n xs.length) S)(hx:iR S n=some xs)(p:A->Bool)(f:A->A)
  (ht:∀x∈xs,t (x::n9 cap τ) S=.ok (p x) S) (he:∀x∈xs,p x=true->e (x::n9 cap τ) S=.ok (f x) S) (hl:xs.length<=16777216) :
  pe (none::cap) src (jV 0) t e τ S=.ok (.ref S.length) (S++[.lst<|(xs.filter p).map f]):=by
 have hm:∀i,i<xs.length->xs.getD i .unb∈xs:=λi hi=>by
  rw[aO,aG hi];exact cD hi
 rw[wX hs (λi=>xs.getD i .unb) (λi=>p<|xs.getD i .unb) (λi=>f<|xs.getD i .unb) (λi hi=>by
  have hi:i<xs.length:=hi;show(iR S n).bind _=_;rw[hx,ef,aO,aG hi];rfl) (by
   show(match iR S n with
    | some ys=>decide (ys.length<=xs.length)
    | none=>false)=true
   rw[hx];simp) (λi hi=>ht _<|hm i hi) (λi hi=>he _<|hm i hi) hl]
 have:=sX xs p f .unb;show R.ok _ (S++[O.lst<|((List.range xs.length).filter _).map _])=_;rw[this]
def getD_at{r:ag}{k:Nat}(h:k<r.length):r[k]?=some (r.getD k 0):=by rw[aO,aG h];rfl
end Am
namespace Wd
open Bl L2
abbrev ex (l:ag)(k:Nat):ag:=(l.set (k-1)<|l.getD k 0).set k<|l.getD (k-1) 0
abbrev led (l:ag)(w:am):ag:=w.foldl ex l
def jM{l:ag}{k:Nat}(h:k<l.length):l.getD k 0=l[k]:=by rw[aO,aG h];rfl
def uh{l:ag}{k:Nat}(h0:1<=k)(h:k<l.length):ex l k=(l.set (k-1) l[k]).set k (l[k-1]'()):=by
 unfold ex;rw[jM h,jM<|show k-1<l.length by lia]
def j0(l:ag)(k:Nat):(ex l k).length=l.length:=by unfold ex;rw[bw,bw]
theorem yN:∀(w:am) (l:ag),(led l w).length=l.length
 | [],_=>rfl
 | k::w,l=>by show(led (ex l k) w).length=_;rw[yN w,j0]
def Dl{l:ag}{k:Nat}(h0:1<=k)(h:k<l.length):(ex l k).Perm l:=by
 rw[uh h0 h];exact List.set_set_perm () h
def ya(a b:am)(l:ag):led l (a++b)=led (led l a) b:=List.foldl_append
def t6{l:ag}{k:Nat}(h0:1<=k)(h:k<l.length)(i:Nat)(j:Int) :
  cnt ((ex l k).take i) j=cnt (l.take i) j+(if i=k then(if j<=l[k]then 1 else 0)-(if j<=l[k-1]'()then 1 else 0)else 0):=by
 rw[uh h0 h];have hq':k<(l.set (k-1) l[k]).length:=by rw[bw];exact h
 rw[u9 hq',u9<|show k-1<l.length by lia];have e:(l.set (k-1) l[k])[k]=l[k]:=by rw[List.getElem_set_ne ()]
 rw[e];by_cases h1:i=k
 ·rw[aM h1,aM<|show k-1<i by lia,aL<|show ¬k<i by lia];lia
 ·by_cases h2:k<i
  ·rw[aL h1,aM<|show k-1<i by lia,aM h2];lia
  ·rw[aL h1,aL<|show ¬k-1<i by lia,aL h2];lia
def up{l:ag}{k:Nat}(h0:1<=k)(h:k<l.length)(hr:l[k-1]'()<l[k]):Below l (ex l k):=by
 rw[uh h0 h];exact qu () h () hr
def lift{u w:ag}{k:Nat}(hl:u.length=w.length)(h0:1<=k)(h:k<w.length)(hr:w[k-1]'()<w[k])(hb:Below u w):Below (ex u k) (ex w k):=by
 have hu:k<u.length:=()
 intro i j;rw[t6 h0 hu,t6 h0 h];by_cases hi:i=k
 ·subst hi;rw[aM rfl,aM rfl];have b1:=hb (i-1) j;have b2:=hb i j;have b3:=hb (i+1) j;have c1:=jC (l:=u) (i:=i-1) () j;have c2:=jC (l:=w) (i:=i-1) () j;have c3:=jC (l:=u) (i:=i) hu j;have c4:=jC (l:=w) (i:=i) h j;rw[show i-1+1=i by lia]at c1 c2;rw[c3,c4]at b3;rw[c1,c2]at b2 b3;rw[c1,c2];revert b1 b2 b3
  (repeat' split)<;>intros<;>lia
 ·rw[aL hi,aL hi];have:=hb i j
  lia
abbrev sw (k:Nat)(x:Int):Int:=if x=k then(k:Int)+1 else if x=(k:Int)+1 then k else x
def ex_map(f:Int->Int){l:ag}{k:Nat}(h0:1<=k)(h:k<l.length):ex (l.map f) k=(ex l k).map f:=by
 rw[uh h0 h,uh h0<|by rw[aK];exact h,cQ,cQ,c_,c_]
theorem Di(f:Int->Int):∀{w:am}{l:ag},(∀k∈w,1<=k/\k<l.length)->led (l.map f) w=(led l w).map f
 | [],_,_=>rfl
 | k::w,l,h=>by
  have hk:=h k<|aR ..;show led (ex (l.map f) k) w=(led (ex l k) w).map f;rw[ex_map f hk.1 hk.2,Di f λm hm=>by rw[j0];exact h m<|aT _ hm]
def rV{n p:Nat}(h:p<n):(i9 1<|(n:Int)+1)[p]?=some ((p:Int)+1):=by
 unfold i9;rw[a_,dH ()];simp;lia
def ko(n:Nat):(i9 1<|(n:Int)+1).length=n:=by rw[jw];lia
def oY{l:ag}{k:Nat}(h0:1<=k)(h:k<l.length)(p:Nat):(ex l k)[p]?=if p=k then l[k-1]? else if p=k-1 then l[k]? else l[p]?:=by
 rw[uh h0 h,f7];by_cases h1:k=p
 ·rw[aM h1,aM h1.symm,aM<|by rw[bw];lia,aG]
 ·rw[aL h1,aL λz=>h1 z.symm,f7];by_cases h2:k-1=p
  ·rw[aM h2,aM h2.symm,aM (),aG]
  ·rw[aL h2,aL λz=>h2 z.symm]
def F7{n k:Nat}(h0:1<=k)(h:k<n):ex (i9 1<|(n:Int)+1) k=(i9 1<|(n:Int)+1).map (sw k):=by
 apply cH;intro p;rw[oY h0<|by rw[ko];exact h,a_];by_cases hp:p<n
 ·rw[rV hp,rV h,rV<|show k-1<n by lia];show _=some (sw k<|(p:Int)+1);unfold sw;by_cases h1:p=k
  ·rw[aM h1,aL (),aM ()];congr 1;lia
  ·rw[aL h1];by_cases h2:p=k-1
   ·rw[aM h2,aM ()]
   ·rw[aL h2,aL (),aL ()]
 ·have e:(i9 1<|(n:Int)+1)[p]?=none:=bG (by rw[ko];lia);rw[aL (),aL (),e];rfl
def xF{A B:ag}{k:Nat}(h0:1<=k)(h:k<A.length)(hb:k9 A B):k9 (ex A k) (B.map<|sw k):=by
 refine⟨by rw[j0,aK];exact hb.1,λp hp=>?_⟩;rw[j0]at hp;have hg:(ex A k)[p]'(by rw[j0];exact hp)=if p=k then A[k-1]'()else if p=k-1 then A[k]else A[p]:=by
  have:=oY h0 h p;rw[aG<|by rw[j0];exact hp]at this;by_cases h1:p=k
  ·rw[aM h1,aG<|show k-1<A.length by lia]at this;rw[aM h1];exact aS this
  ·rw[aL h1]at this;rw[aL h1];by_cases h2:p=k-1
   ·rw[aM h2,aG h]at this;rw[aM h2];exact aS this
   ·rw[aL h2,aG hp]at this;rw[aL h2];exact aS this
 rw[hg,a_];by_cases h1:p=k
 ·rw[aM h1,hb.2 (k-1) ()];show some (sw k _)=_;unfold sw;rw[aM ()];congr 1;lia
 ·rw[aL h1];by_cases h2:p=k-1
  ·rw[aM h2,hb.2 k h];show some (sw k _)=_;unfold sw;rw[aL (),aM ()];congr 1;lia
  ·rw[aL h2,hb.2 p hp];show some (sw k _)=_;unfold sw;rw[aL (),aL ()]
theorem pP{n:Nat}:∀(w:am),(∀k∈w,1<=k/\k<n)->k9 (led (i9 1<|(n:Int)+1) w.reverse) (led (i9 1<|(n:Int)+1) w)
 | [],_=>⟨rfl,λp hp=>by
  have hp:p<n:=by rw[show([]:am).reverse=[]from rfl]at hp;have:p<(i9 1<|(n:Int)+1).length:=hp;rw[ko]at this;exact this
  have e:(i9 1<|(n:Int)+1)[p]'(by rw[ko];exact hp)=(p:Int)+1:=by
   have:=rV hp;rw[aG<|by rw[ko];exact hp]at this;exact aS this
  show(i9 1<|(n:Int)+1)[(((i9 1<|(n:Int)+1)[p]'(by rw[ko];exact hp))-1).toNat]?=_;rw[e,show((p:Int)+1-1).toNat=p by lia];exact rV hp⟩
 | k::w,h=>by
  have hk:=h k<|aR ..;have hw:=λm hm=>h m<|aT k hm;have ih:=pP w hw;rw[dj,ya];show k9 (ex (led (i9 1<|(n:Int)+1) w.reverse) k) (led (ex (i9 1<|(n:Int)+1) k) w);rw[F7 hk.1 hk.2,Di (sw k) λm hm=>by rw[ko];exact hw m hm];exact xF hk.1 (by rw[yN,ko];exact hk.2) ih
end Wd
namespace Iv
open L2 Bl
abbrev inv:ag->Nat
 | []=>0
 | x::l=>l.countP (λy=>decide<|y<x)+inv l
abbrev kR (a b:ag):Nat:=(a.map λx=>b.countP λy=>decide<|y<x).sum
def rm(x:Int)(a b:ag):kR (x::a) b=b.countP (λy=>decide<|y<x)+kR a b:=rfl
theorem jU:∀(a b:ag),inv (a++b)=inv a+inv b+kR a b
 | [],b=>by show inv b=0+inv b+0;lia
 | x::a,b=>by
  show(a++b).countP _+inv (a++b)=(a.countP _+inv a)+inv b+kR (x::a) b;rw[List.countP_append,jU a b,rm];lia
theorem r8:∀{a b:am},a.Perm b->a.sum=b.sum
 | _,_,.nil=>rfl
 | _,_,.cons x h=>by rw[fu,fu,r8 h]
 | _,_,.swap x y l=>by rw[fu,fu,fu,fu];lia
 | _,_,.trans h k=>(r8 h).trans<|r8 k
def JV{a:ag}(b:ag)(h:a.Perm a'):kR a b=kR a' b:=r8<|h.map _
def KP(a:ag){b:ag}(h:b.Perm b'):kR a b=kR a b':=by
 unfold kR;congr 1;refine ff λx _=>h.countP_eq _
def yw{M:ag}{x y:Int}(h:∀m∈M,m<x\/y<m)(hxy:x<y):M.countP (λm=>decide<|m<x)=M.countP (λm=>decide<|m<y):=by
 refine List.countP_congr λm hm=>?_;rw[decide_eq_true_iff,decide_eq_true_iff]
 rcases h m hm with z|z<;>omega
theorem uv:∀{M:ag}{x y:Int},(∀m∈M,m<x\/y<m)->x<y->kR M [x]=kR M [y]
 | [],_,_,_,_=>rfl
 | m::M,x,y,h,hxy=>by
  rw[rm,rm,uv (λm' hm=>h m'<|aT _ hm) hxy];congr 1;have:=h m<|aR ..;dsimp[iC,List.countP_nil];by_cases c:x<m
  ·rw[bH c,bH<|show y<m by omega]
  ·rw[bL c,bL<|show ¬y<m by omega]
def mid{M:ag}{x y:Int}(h:∀m∈M,m<x\/y<m)(hxy:x<y):inv ([y]++M++[x])=inv ([x]++M++[y])+1:=by
 rw[jU,jU,jU<|[x]++M,jU [x]];have e1:kR [y] M=kR [x] M:=by
  show M.countP _+0=M.countP _+0;rw[yw h hxy]
 have e2:kR ([y]++M) [x]=1+kR M [x]:=by
  show[x].countP _+kR M [x]=_;rw[iC,bH hxy];rfl
 have e3:kR ([x]++M) [y]=kR M [y]:=by
  show[y].countP _+kR M [y]=_;rw[iC,bL (by lia:¬y<x)];simp
 rw[e1,e2,e3,uv h hxy]
 skip
 lia
def Hr(M:ag)(x y:Int):([y]++M++[x]).Perm ([x]++M++[y]):=by
 refine(List.perm_append_comm (l₁:=[y]++M) (l₂:=[x])).trans ?_
 skip
 exact .cons x<|List.perm_append_comm (l₁:=[y]) (l₂:=M)
def step{P M R:ag}{x y:Int}(h:∀m∈M,m<x\/y<m)(hxy:x<y):inv (P++([y]++M++[x])++R)=inv (P++([x]++M++[y])++R)+1:=by
 have p:=Hr M x y;rw[jU,jU P,jU<|P++([x]++M++[y]),jU P,mid h hxy,KP P p,JV R<|p.append_left P]
 lia
theorem vc:∀(l:ag),inv l<=l.length * l.length
 | []=>aN _
 | x::l=>by
  show l.countP _+inv l<=(l.length+1) * (l.length+1);have h1:=List.countP_le_length (p:=λy=>decide<|y<x) (l:=l);have h2:=vc l;rw[Nat.add_mul,Nat.mul_add]
  lia
abbrev sw (a:ag)(i j:Nat):ag:=(a.set i<|a.getD j 0).set j<|a.getD i 0
def split{a:ag}(hij:i<j)(hj:j<a.length):∃P M R:ag,a=P++([a.getD i 0]++M++[a.getD j 0])++R/\P=a.take i/\(∀m∈M,∃k,i<k/\k<j/\a[k]?=some m)/\sw a i j=P++([a.getD j 0]++M++[a.getD i 0])++R:=by
 have gi:a.getD i 0=a[i]:=by rw[aO,aG ()];rfl
 have gj:a.getD j 0=a[j]:=by rw[aO,aG hj];rfl
 obtain⟨M,hM⟩:∃M,M=(a.drop<|i+1).take (j-i-1):=⟨_,rfl⟩;have lM:M.length=j-i-1:=by rw[hM,bJ,cC];lia
 have ea:a=a.take i++([a.getD i 0]++M++[a.getD j 0])++a.drop (j+1):=by
  have h1:a.drop i=a[i]::a.drop (i+1):=bU ();have h2:a.drop (i+1)=M++a.drop j:=by
   rw[hM];have:=eO (j-i-1)<|a.drop<|i+1;rw[List.drop_drop,show i+1+(j-i-1)=j by lia]at this;exact this.symm
  have h3:a.drop j=a[j]::a.drop (j+1):=bU hj
  conv=>lhs;rw[<- eO i a,h1,h2,h3]
  rw[gi,gj];simp
 refine⟨a.take i,M,a.drop<|j+1,ea,rfl,λm hm=>?_,?_⟩
 ·rw[hM]at hm;obtain⟨k,hk⟩:=gD hm;have hlt:k<j-i-1:=by
   have:=(aI.mp hk).1;rw[bJ]at this;lia
  rw[fj hlt,fG]at hk;exact⟨i+1+k,(),(),hk⟩
 ·have key:∀(P R:ag) (x y x' y':Int),P.length=i->((P++([x]++M++[y])++R).set i y').set j x'=P++([y']++M++[x'])++R:=λP R x y x' y' lP=>by
   rw[bS,eN _ _ (),lP,gM];show(P++(y'::((M++[y])++R))).set j x'=_;rw[eN _ _ (),lP,show j-i=(j-i-1)+1 by lia,List.set_cons_succ,bS,eN _ _ (),lM,gM];simp
  have:=key (a.take i) (a.drop<|j+1) (a.getD i 0) (a.getD j 0) (a.getD i 0) (a.getD j 0) (by rw[bJ];lia);rw[<- ea]at this;exact this
def uP{a:ag}{i:Nat}(h:i<a.length):a[i]?=some (a.getD i 0):=by rw[aO,aG h];rfl
end Iv
namespace Nu
open PySem L2
abbrev PJ:Nat->Nat
 | 0=>1
 | n+1=>(n+1) * PJ n
abbrev SJ:Nat->ag->Nat->ag
 | 0,_,_=>[]
 | n+1,l,m=>l.getD (m / PJ n) 0::SJ n (l.eraseIdx<|m / PJ n) (m % PJ n)
def rQ{l:ag}{q:Nat}(h:q<l.length):l.getD q 0=l[q]:=by rw[aO,aG h];rfl
end Nu
namespace Fw
open PySem L2 Bl
open Wd (ex led)
meta abbrev rg (n:Nat):ag:=i9 1<|(n:Int)+1
def zy{l:ag}{k:Nat}(h0:1<=k)(h:k<l.length):ex (ex l k) k=l:=by
 apply cH;intro p;have h':k<(ex l k).length:=by rw[Wd.j0];exact h
 rw[Wd.oY h0 h',Wd.oY h0 h,Wd.oY h0 h,Wd.oY h0 h];by_cases c3:p=k
 ·rw[aM c3,aL (),aM rfl,c3]
 ·rw[aL c3];by_cases c2:p=k-1
  ·rw[aM c2,aM rfl,c2]
  ·rw[aL c2,aL c3,aL c2]
def HC{l:ag}{k:Nat}(h0:1<=k)(h:k<l.length):(ex l k).getD k 0=l.getD (k-1) 0:=by
 rw[aO,Wd.oY h0 h,aM rfl,aO]
def Iq{l:ag}{k:Nat}(h0:1<=k)(h:k<l.length):(ex l k).getD (k-1) 0=l.getD k 0:=by
 rw[aO,Wd.oY h0 h,aL (),aM rfl,aO]
def Ir{l:ag}{k:Nat}(h0:1<=k)(h:k<l.length)(hr:l.getD (k-1) 0<l.getD k 0):Iv.inv (ex l k)=Iv.inv l+1:=by
 obtain⟨P,M,R,e,_,hM,es⟩:=Iv.split (a:=l) (i:=k-1) (j:=k) () h;have:=Iv.step (P:=P) (M:=M) (R:=R) (x:=l.getD (k-1) 0) (y:=l.getD k 0) (λm hm=>by obtain⟨_,_,_,_⟩:=hM m hm;lia) hr;rw[<- es,<- e]at this;exact this
def vd{l:ag}{k:Nat}(h0:1<=k)(h:k<l.length)(hr:l.getD k 0<l.getD (k-1) 0):Iv.inv l=Iv.inv (ex l k)+1:=by
 have:=Ir (l:=ex l k) h0 (by rw[Wd.j0];exact h) (by rw[HC h0 h,Iq h0 h];exact hr);rw[zy h0 h]at this;exact this
def JP{l:ag}{k:Nat}(h0:1<=k)(h:k<l.length):Iv.inv (ex l k)<=Iv.inv l+1:=by
 rcases Int.lt_trichotomy (l.getD (k-1) 0) (l.getD k 0)with c|c|c
 ·exact Nat.le_of_eq (Ir h0 h c)
 ·have:ex l k=l:=by
   apply cH;intro p;have e1:l[k]?=some (l.getD k 0):=Iv.uP h;have e2:l[k-1]?=some (l.getD (k-1) 0):=Iv.uP ();rw[Wd.oY h0 h];by_cases c3:p=k
   ·rw[aM c3,c3,e1,e2,c]
   ·rw[aL c3];by_cases c2:p=k-1
    ·rw[aM c2,c2,e1,e2,c]
    ·rw[aL c2]
  rw[this];lia
 ·have:=vd h0 h c;lia
abbrev Va (n:Nat)(w:am):Prop:=∀k∈w,1<=k/\k<n
def Va.tail{n k:Nat}{w:am}(h:Va n (k::w)):Va n w:=λj hj=>h j<|aT _ hj
def Va.head{n k:Nat}{w:am}(h:Va n (k::w)):1<=k/\k<n:=h k<|aR ..
theorem Cc:∀{w:am}{l:ag},Va l.length w->Iv.inv (led l w)<=Iv.inv l+w.length
 | [],l,_=>aN _
 | k::w,l,h=>by
  have h1:=Cc (w:=w) (l:=ex l k) (by rw[Wd.j0];exact h.tail);have h2:=JP h.head.1 h.head.2;show Iv.inv (led (ex l k) w)<=Iv.inv l+(w.length+1)
  lia
theorem su:∀{w:am}{l:ag},Va l.length w->led (led l w) w.reverse=l
 | [],l,_=>rfl
 | k::w,l,h=>by
  rw[dj,Wd.ya];show led (led (led (ex l k) w) w.reverse) [k]=l;rw[su (w:=w) (l:=ex l k)<|by rw[Wd.j0];exact h.tail];exact zy h.head.1 h.head.2
theorem BN:∀{l:ag},l.Pairwise (·<=·)->Iv.inv l=0
 | [],_=>rfl
 | x::l,h=>by
  show l.countP (λy=>decide<|y<x)+Iv.inv l=0;rw[BN (cL.mp h).2,List.countP_eq_zero.mpr λa ha z=>by have:=dz z;have:=(cL.mp h).1 a ha;lia]
def Jb(n:Nat):Iv.inv (rg n)=0:=BN<|yp _ _
abbrev xR (l:ag)(k:Nat):Prop:=1<=k/\k<l.length/\l.getD k 0<l.getD (k-1) 0
def L5{l:ag}(h:∀k,¬xR l k):l.Pairwise (·<=·):=by
 have key:∀d i,i+d<l.length->l.getD i 0<=l.getD (i+d) 0:=by
  intro d
  induction d with
  | zero=>intro i _;exact dY _
  | succ d ih=>
   intro i hi;have h1:=ih i ();have h2:¬l.getD (i+d+1) 0<l.getD (i+d) 0:=λz=>h (i+d+1) ⟨(),hi,z⟩;rw[<- gr];lia
 rw[cN];intro i j hi hj hij;have:=key (j-i) i ();rw[show i+(j-i)=j by lia,Wd.jM hi,Wd.jM hj]at this;exact this
def Ig{l:ag}{n:Nat}(p:l.Perm<|rg n)(h:∀k,¬xR l k):l=rg n:=
 List.Perm.eq_of_pairwise (λx y _ _ h1 h2=>iI h1 h2) (L5 h) (yp _ _) p
abbrev Dn:ag->am->Prop
 | l,[]=>∀k,¬xR l k
 | l,k::ks=>(xR l k/\∀j,xR l j->k<=j)/\Dn (ex l k) ks
def ug{l:ag}{n k:Nat}(p:l.Perm<|rg n)(h0:1<=k)(h:k<l.length):(ex l k).Perm (rg n):=(Wd.Dl h0 h).trans p
def Dn.len:∀{ks:am}{l:ag},Dn l ks->ks.length=Iv.inv l
 | [],l,h=>(BN<|L5 h).symm
 | k::ks,l,h=>by
  have:=h.2.len;rw[vd h.1.1.1 h.1.1.2.1 h.1.1.2.2,bq];lia
def Dn.va:∀{ks:am}{l:ag},Dn l ks->Va l.length ks
 | [],l,_=>λk hk=>absurd hk (by simp)
 | k::ks,l,h=>λj hj=>by
  rcases bB.mp hj with rfl|z
  ·exact⟨h.1.1.1,h.1.1.2.1⟩
  ·have:=h.2.va j z
   rwa [Wd.j0]at this
theorem Dn.led:∀{ks:am}{l:ag}{n:Nat},Dn l ks->l.Perm (rg n)->led l ks=rg n
 | [],l,n,h,p=>Ig p h
 | k::ks,l,n,h,p=>Dn.led (ks:=ks) h.2<|ug p h.1.1.1 h.1.1.2.1
theorem zg:∀(m:Nat) (l:ag),Iv.inv l<=m->∃ks,Dn l ks
 | 0,l,h=>⟨[],λk hk=>by have:=vd hk.1 hk.2.1 hk.2.2;lia⟩
 | m+1,l,h=>by
  by_cases c:∃k,xR l k
  ·obtain⟨k,hk,hmin⟩:∃k,xR l k/\∀j,xR l j->k<=j:=by
    obtain⟨k,hk⟩:=c
    induction k using Nat.strongRecOn with
    | ind k ih=>
     by_cases z:∃j,xR l j/\j<k
     ·obtain⟨j,hj,hlt⟩:=z;exact ih j hlt hj
     ·exact⟨k,hk,λj hj=>eZ λy=>z ⟨j,hj,y⟩⟩
   have:=vd hk.1 hk.2.1 hk.2.2;obtain⟨ks,hks⟩:=zg m (ex l k) ();exact⟨k::ks,⟨hk,hmin⟩,hks⟩
  ·exact⟨[],λk hk=>c ⟨k,hk⟩⟩
def ud{a:ag}{n:Nat}(pa:a.Perm<|rg n)(h1:k9 a b)(h2:k9 b c):a=c:=by
 have l1:=h1.1;have l2:=h2.1;refine gq () λq hq hq'=>?_;have e1:=h1.2 q hq;have hm:=(jF.mp<|pa.mem_iff.mp<|cD hq);obtain⟨hb,eb⟩:=aI.mp e1;have e2:=h2.2 _ hb;rw[eb,show((q:Int)+1-1).toNat=q by lia,aG hq']at e2;have:=aS e2
 lia
structure Two (n:Nat)(o u:ag):Prop where
 po:o.Perm (rg n)
 pu:u.Perm (rg n)
 ou:k9 o u
def Two.lu{n:Nat}{u:ag}(t:Two n o u):u.length=n:=by rw[t.pu.length_eq,Wd.ko]
def Two.lo{n:Nat}{o:ag}(t:Two n o u):o.length=n:=by rw[t.po.length_eq,Wd.ko]
def Two.led{n:Nat}(t:Two n o u)(h:Dn u ks):Wd.led (rg n) ks=o:=by
 have v:Va n ks:=by have:=h.va;rwa [t.lu]at this
 have e:=h.led t.pu;have e2:u=Wd.led (rg n) ks.reverse:=by rw[<- e,su<|by rw[t.lu];exact v]
 have b:=Wd.pP ks v;rw[<- show u=Wd.led (i9 1<|(n:Int)+1) ks.reverse from e2]at b;exact(ud t.po t.ou b).symm
def Two.uo{n:Nat}(t:Two n o u):k9 u o:=by
 obtain⟨ks,h⟩:=zg _ u<|aN _;have v:Va n ks:=by have:=h.va;rwa [t.lu]at this
 have e:=h.led t.pu;have e2:u=Wd.led (rg n) ks.reverse:=by rw[<- e,su<|by rw[t.lu];exact v]
 have b:=Wd.pP ks v;rw[<- show u=Wd.led (i9 1<|(n:Int)+1) ks.reverse from e2,show Wd.led (i9 1<|(n:Int)+1) ks=o from t.led h]at b;exact b
def Two.flip{n:Nat}(t:Two n o u):Two n u o:=⟨t.pu,t.po,t.uo⟩
def Two.le{n:Nat}(t:Two n o u):Iv.inv o<=Iv.inv u:=by
 obtain⟨ks,h⟩:=zg _ u<|aN _;have i:=Cc (w:=ks) (l:=rg n) (by rw[Wd.ko];have:=h.va;rwa [t.lu]at this);rw[t.led h,Jb,h.len]at i
 lia
def Two.inv{n:Nat}(t:Two n o u):Iv.inv o=Iv.inv u:=iK t.le t.flip.le
def Two.step{n k:Nat}{o:ag}(t:Two n o u)(h0:1<=k)(h:k<n):Two n (o.map<|Wd.sw k) (ex u k):=by
 have lu:=t.lu;have b:=Wd.xF h0 () t.uo;have p1:=ug t.pu h0 ();have p2:(o.map<|Wd.sw k).Perm (rg n):=(t.po.map _).trans (by rw[<- Wd.F7 h0 h];exact Wd.Dl h0<|by rw[Wd.ko];exact h);exact(Two.mk p1 p2 b).flip
end Fw
namespace Stp
open PySem L2 Iv
abbrev mm (a:ag)(i j:Nat):ag:=(a.drop<|i+1).take<|j-i-1
abbrev Tf (x y m:Int):Bool:=decide (x<m) && decide (m<y)
abbrev Tt (a:ag)(i j:Nat):Bool:=!(mm a i j).any λm=>Tf (if a.getD j 0<a.getD i 0 then a.getD j 0 else a.getD i 0) (if a.getD j 0>a.getD i 0 then a.getD j 0 else a.getD i 0) m
end Stp
namespace Eu
open PySem L2 Bl
open Wd (ex t6)
open Fw (rg xR)
def jM{l:ag}{k:Nat}(h:k<l.length):l.getD k 0=l[k]:=by rw[aO,aG h];rfl
theorem low{a b:ag}{k:Nat}(hl:a.length=b.length)(h0:1<=k)(h:k<b.length)(hb:b.getD k 0<b.getD (k-1) 0)(ha:a.getD (k-1) 0<=a.getD k 0)(hab:Below a b):Below a (ex b k):=by
 have hu:k<a.length:=()
 rw[jM h,jM<|show k-1<b.length by lia]at hb;rw[jM hu,jM<|show k-1<a.length by lia]at ha;intro i j;rw[t6 h0 h];by_cases hi:i=k
 ·subst hi;rw[aM rfl];have b1:=hab (i-1) j;have b3:=hab (i+1) j;have c1:=jC (l:=a) (i:=i-1) () j;have c2:=jC (l:=b) (i:=i-1) () j;have c3:=jC (l:=a) (i:=i) hu j;have c4:=jC (l:=b) (i:=i) h j;rw[show i-1+1=i by lia]at c1 c2;rw[c3,c4,c1,c2]at b3;rw[c1,c2];revert b1 b3
  (repeat' split)<;>intros<;>lia
 ·rw[aL hi];have:=hab i j
  lia
def RM{a b:ag}{k:Nat}(hl:a.length=b.length)(h0:1<=k)(h:k<b.length)(hb:b.getD k 0<b.getD (k-1) 0)(ha:a.getD k 0<=a.getD (k-1) 0)(hab:Below a b):Below (ex a k) (ex b k):=by
 have hu:k<a.length:=()
 rw[jM h,jM<|show k-1<b.length by lia]at hb;rw[jM hu,jM<|show k-1<a.length by lia]at ha;intro i j;rw[t6 h0 h,t6 h0 hu];by_cases hi:i=k
 ·subst hi;rw[aM rfl,aM rfl];have b1:=hab (i-1) j;have b3:=hab (i+1) j;have c1:=jC (l:=a) (i:=i-1) () j;have c2:=jC (l:=b) (i:=i-1) () j;have c3:=jC (l:=a) (i:=i) hu j;have c4:=jC (l:=b) (i:=i) h j;rw[show i-1+1=i by lia]at c1 c2;rw[c3,c4,c1,c2]at b3;rw[c1,c2];revert b1 b3
  (repeat' split)<;>intros<;>lia
 ·rw[aL hi,aL hi];have:=hab i j
  lia
abbrev al (n:Nat):List (ag):=(List.range<|Nu.PJ n).map<|Nu.SJ n<|rg n
end Eu
namespace Gr
open PySem L2 Bl Fw
open Wd (ex led j0 uh lift pP)
abbrev gp:ag->am->Nat->am
 | _,[],_=>[]
 | l,k::ks,t=>if l.getD (k-1) 0>l.getD k 0 then t::gp (ex l k) ks (t+1)else gp l ks (t+1)
abbrev gk:ag->am->am
 | _,[]=>[]
 | l,k::ks=>if l.getD (k-1) 0>l.getD k 0 then k::gk (ex l k) ks else gk l ks
def Q4(l:ag)(k:Nat)(ks:am)(t:Nat):gp l (k::ks) t=if l.getD (k-1) 0>l.getD k 0 then t::gp (ex l k) ks (t+1)else gp l ks (t+1):=rfl
def Sj(l:ag)(k:Nat)(ks:am):gk l (k::ks)=if l.getD (k-1) 0>l.getD k 0 then k::gk (ex l k) ks else gk l ks:=rfl
theorem Bc:∀(ks:am) (l:ag) {k:Nat},k∈gk l ks->k∈ks
 | [],l,k,h=>h
 | j::ks,l,k,h=>by
  unfold gk at h;split at h
  ·rcases bB.mp h with rfl|h
   ·exact aR ..
   ·exact aT _<|Bc ks _ h
  ·exact aT _<|Bc ks _ h
theorem D3:∀(ks:am) (l:ag) (t:Nat),(gp l ks t).length<=ks.length
 | [],l,t=>aN _
 | k::ks,l,t=>by
  unfold gp;split
  ·have:=D3 ks (ex l k)<|t+1;rw[bq,bq];lia
  ·have:=D3 ks l<|t+1;rw[bq];lia
theorem zh:∀(ks:am) (l:ag) (t:Nat),∀p∈gp l ks t,t<=p/\p<t+ks.length
 | [],l,t,p,h=>nomatch h
 | k::ks,l,t,p,h=>by
  unfold gp at h;rw[bq];split at h
  ·rcases bB.mp h with rfl|h
   ·lia
   ·have:=zh ks _ _ p h;lia
  ·have:=zh ks _ _ p h;lia
theorem FF:∀(ks:am) (l:ag) (t:Nat),(gp l ks t).Pairwise (· < ·)
 | [],l,t=>.nil
 | k::ks,l,t=>by
  unfold gp;split
  ·exact .cons (λp hp=>by have:=zh ks _ _ p hp;lia) (FF ks _ _)
  ·exact FF ks _ _
theorem Js:∀(ks:am) (l:ag) (t:Nat),(gp l ks t).map (λp=>ks.getD (p-t) 0)=gk l ks
 | [],l,t=>rfl
 | k::ks,l,t=>by
  unfold gp gk;have e:∀l',(gp l' ks<|t+1).map (λp=>(k::ks).getD (p-t) 0)=gk l' ks:=λl'=>by
   rw[<- Js ks l' (t+1)];refine ff λp hp=>?_;have:=zh ks _ _ p hp;obtain⟨q,rfl⟩:∃q,p=t+1+q:=⟨p-(t+1),()⟩;rw[show t+1+q-t=q+1 by lia,show t+1+q-(t+1)=q by lia];rfl
  split
  ·rw[dO,e,gM];rfl
  ·exact e _
theorem BO:∀(ks:am) (l:ag),Va l.length ks->Iv.inv l=Iv.inv (led l<|gk l ks)+(gk l ks).length
 | [],l,_=>rfl
 | k::ks,l,h=>by
  unfold gk;split
  ·next c=>
   have:=vd h.head.1 h.head.2 c;have:=BO ks (ex l k) (by rw[j0];exact h.tail);rw[bq];show _=Iv.inv (led (ex l k)<|gk (ex l k) ks)+_
   lia
  ·exact BO ks l h.tail
def zw{k:Nat}(f:xR l k):Below (ex l k) l:=by
 obtain⟨h0,h,hr⟩:=f;have e:=zy h0 h;have hl:(ex l k).length=l.length:=j0 l k;have:=lift (u:=ex l k) (w:=ex l k) (k:=k) rfl h0 (by rw[hl];exact h);have a1:=HC h0 h;have a2:=Iq h0 h;rw[Eu.jM<|show k<(ex l k).length by lia]at a1;rw[Eu.jM<|show k-1<(ex l k).length by lia]at a2;have hr':(ex l k)[k-1]'()<(ex l k)[k]'():=by rw[a1,a2];exact hr
 have:=qu (l:=ex l k) (p:=k-1) (q:=k) () () () hr';rw[<- uh h0 (),e]at this;exact this
theorem yZ:∀(ks:am) {n:Nat}{y:ag},y.Perm (rg n)->Dn y ks->Below (rg n) y
 | [],n,y,py,h=>by rw[Ig py h];exact Below.refl _
 | k::ks,n,y,py,h=>(yZ ks (ug py h.1.1.1 h.1.1.2.1) h.2).trans<|zw h.1.1
theorem yE:∀(ks:am) {n:Nat}{x y:ag},x.Perm (rg n)->y.Perm (rg n)->Dn y ks->(Below x y ↔ led x (gk x ks)=rg n)
 | [],n,x,y,px,py,h=>by
  have e:=Ig py h;obtain⟨js,hj⟩:=zg _ x<|aN _;subst e;refine⟨λhb=>Below.antisymm (show x.length=(rg n).length from px.length_eq) hb<|yZ js px hj,λhb=>?_⟩;rw[show x=rg n from hb];exact Below.refl _
 | k::ks,n,x,y,px,py,h=>by
  have lx:x.length=y.length:=by rw[px.length_eq,py.length_eq]
  obtain⟨h0,h1,hr⟩:=h.1.1;unfold gk;split
  ·next c=>
   have c:x.getD k 0<x.getD (k-1) 0:=c;have px':=ug px h0 (show k<x.length by lia);have ih:=yE ks px' (ug py h0 h1) h.2;show _ ↔ led (ex x k) (gk (ex x k) ks)=rg n;rw[<- ih];refine⟨λhb=>Eu.RM lx h0 h1 hr () hb,λhb=>?_⟩;have a1:=HC h0 h1;have a2:=Iq h0 h1;have hl:(ex y k).length=y.length:=j0 y k;rw[Eu.jM<|show k<(ex y k).length by lia]at a1;rw[Eu.jM<|show k-1<(ex y k).length by lia]at a2;have:=lift (u:=ex x k) (w:=ex y k) (k:=k) (by rw[j0,j0,lx]) h0 () (by rw[a1,a2];exact hr) hb;rw[zy h0 h1,zy h0<|show k<x.length by lia]at this;exact this
  ·next c=>
   have ih:=yE ks px (ug py h0 h1) h.2;rw[<- ih];exact⟨λhb=>Eu.low lx h0 h1 hr () hb,λhb=>hb.trans<|zw h.1.1⟩
def K5{n:Nat}{v:am}(t:Two n o u)(hv:Va n v)(h:led u v=rg n):led (rg n) v=o:=by
 have b:=pP v hv;have e2:u=led (rg n) v.reverse:=by rw[<- h,su<|by rw[t.lu];exact hv]
 rw[<- show u=led (i9 1<|(n:Int)+1) v.reverse from e2]at b;exact(ud t.po t.ou b).symm
end Gr
namespace K15
open PySem L2 Am
abbrev top (i:Nat):aE:=PySem.Challenge.pw_undercells_k15_words_with_numbers_left_o.main.body.getD i<|.Pass ⟨0,0,0,0⟩
meta abbrev qV:aE:=top 11
meta abbrev qN:ar:=["thing"]
meta abbrev qY:ar:=["thing"]
abbrev qS:Sm:=
 jO (yI (je (f2 BR)<|iP (iO 0)<|iP (eC<|.ty "int") iY)<|GX<|je (f2 BR)<|iP (iO 0)<|iP (eC<|.ty "bool") iY)
abbrev mO:ae->iX->R A:=kL qN qS
meta abbrev ny:aE:=top 12
meta abbrev nU:ar:=["n"]
meta abbrev nq:ar:=["n"]
abbrev nE:Sm:=
 jO (je (f1 lY)<|iP (je (f2 qz)<|iP (eC<|.int 1)<|iP (iZ jJ (iO 0)<|eC<|.int 1) iY) iY)
abbrev kB:ae->iX->R A:=kL nU nE
meta abbrev pS:aE:=top 13
meta abbrev mW:ar:=["one", "other"]
meta abbrev pH:ar:=["one", "other"]
abbrev mY:Sm:=
 wN (rB<|iZ (uL true) (je (f1 kq)<|iP (iO 0) iY)<|je (f1 kq)<|iP (iO 1) iY)
 (yH "NoPair" [.inl "orders of ",.inr<|je (f1 kq)<|iP (iO 0) iY,.inl " and of ",.inr<|je (f1 kq)<|iP (iO 1) iY,.inl " things"])
 nG
abbrev j8:ae->iX->R A:=kL mW mY
meta abbrev AX:aE:=top 14
meta abbrev BZ:ar:=["order", "places", "at", "thing"]
meta abbrev yV:ar:=["order"]
abbrev G7:Ic:=
 KL (iO 0)
abbrev zR:Sm:=
 ju (iZ jJ (iO 2)<|eC<|.int 1) (yg (iO 1)<|iZ aSub (iO 3)<|eC<|.int 1)
abbrev BH:Sm:=
 jj (ju (iZ nV (qq<|iP (eC<|.int 0) iY)<|je (f1 kq)<|iP (iO 0) iY)<|jV 1)
 (jj (mV G7 (Hj 2<|xg (jV 2)<|xg (jV 3) Je)
 zR)
 (jO<|je (f1 lY)<|iP (iO 1) iY))
abbrev qX:ae->iX->R A:=kL BZ BH
meta abbrev nM:aE:=top 15
meta abbrev nL:ar:=["n", "thing"]
meta abbrev nP:ar:=["n", "thing"]
abbrev nO:Sm:=
 jO (yI (eFn mO<|iP (iO 1) iY)<|OT JG EH (eC<|.int 1) (iO 1)<|iO 0)
abbrev ku:ae->iX->R A:=kL nL nO
meta abbrev kF:aE:=top 16
meta abbrev kK:ar:=["order", "i", "j", "things"]
meta abbrev kJ:ar:=["order", "i", "j"]
abbrev kH:Sm:=
 jj (ju (je (f1 qo)<|iP (iO 0) iY)<|jV 3)
 (jj (ju (qB<|iP (iZ lX (iO 3)<|iZ aSub (iO 2)<|eC<|.int 1)<|iP (iZ lX (iO 3)<|iZ aSub (iO 1)<|eC<|.int 1) iY)<|Hj 2<|xg (yg (iO 3)<|iZ aSub (iO 1)<|eC<|.int 1)<|xg (yg (iO 3)<|iZ aSub (iO 2)<|eC<|.int 1) Je)
 (jO<|je (f1 lY)<|iP (iO 3) iY))
abbrev jE:ae->iX->R A:=kL kK kH
meta abbrev pZ:aE:=top 17
meta abbrev qg:ar:=["order", "k"]
meta abbrev nj:ar:=["order", "k"]
abbrev qe:Sm:=
 jj (wN (wu<|wR<|eFn ku<|iP (je (f1 kq)<|iP (iO 0) iY)<|iP (iO 1) iY)
 (yH "NoWord" [.inl "no exchange of ",.inr<|je (f1 kq)<|iP (iO 0) iY,.inl " things"])
 nG)
 (jO<|eFn jE<|iP (iO 0)<|iP (iO 1)<|iP (iZ jJ (iO 1)<|eC<|.int 1) iY)
abbrev kc:ae->iX->R A:=kL qg qe
meta abbrev yW:aE:=top 18
meta abbrev yu:ar:=["order"]
meta abbrev yd:ar:=["order"]
abbrev yO:Sm:=
 jO (pe [none,some 0] (o4 (eC<|.int 1)<|je (f1 kq)<|iP (iO 0) iY) (jV 0) (rB<|iZ Hl (iZ lX (iO 1)<|iZ aSub (iO 0)<|eC<|.int 1)<|iZ lX (iO 1)<|iO 0)<|iO 0)
abbrev qy:ae->iX->R A:=kL yu yO
meta abbrev oX:aE:=top 20
meta abbrev oV:ar:=["order", "left", "word", "can_begin"]
meta abbrev oR:ar:=["order"]
abbrev mF:Te:=
 wR (iO 3)
abbrev mK:Sm:=
 jj (qK<|Ln oB (iO 2)<|iP (iZ lX (iO 3)<|eC<|.int 0) iY)
 (jj (ju (uB kc<|iP (iO 1)<|iP (iZ lX (iO 3)<|eC<|.int 0) iY)<|jV 1)
 (ju (eFn qy<|iP (iO 1) iY)<|jV 3))
abbrev oS:Sm:=
 jj (ju (eFn qX<|iP (iO 0) iY)<|jV 1)
 (jj (ju (qq iY)<|jV 2)
 (jj (ju (eFn qy<|iP (iO 1) iY)<|jV 3)
 (jj (kG mF
 mK 1000000)
 (jO<|iO 2))))
abbrev kY:ae->iX->R A:=kL oV oS
meta abbrev nH:aE:=top 22
meta abbrev l8:ar:=["one", "other", "left", "places", "at", "k"]
meta abbrev l7:ar:=["one", "other"]
abbrev oZ:Ic:=
 Kh (uB kY<|iP (iO 1) iY)
abbrev o_:Sm:=
 wN (rB<|iZ Hl (iZ lX (iO 2)<|iZ aSub (iO 5)<|eC<|.int 1)<|iZ lX (iO 2)<|iO 5)
 (jj (ju (uB kc<|iP (iO 2)<|iP (iO 5) iY)<|jV 2)
 (qK<|Ln oB (iO 3)<|iP (iO 4) iY))
 nG
abbrev l6:Sm:=
 jj (qK<|uB j8<|iP (iO 0)<|iP (iO 1) iY)
 (jj (ju (eFn qX<|iP (iO 0) iY)<|jV 2)
 (jj (ju (qq iY)<|jV 3)
 (jj (mV oZ (Hj 2<|xg (jV 4)<|xg (jV 5) Je)
 o_)
 (jO<|RI (rB<|iZ (uL false) (iO 2)<|eFn kB<|iP (je (f1 kq)<|iP (iO 0) iY) iY) (iO 3)<|eC .non))))
abbrev jo:ae->iX->R A:=kL l8 l6
meta abbrev sJ:aE:=top 24
meta abbrev t_:ar:=["_law_script", "_law_k", "_law_cell", "_law_state"]
meta abbrev sQ:ar:=["_law_script", "_law_k"]
abbrev sS:Sm:=
 jj (ju (eC<|.int 0)<|jV 2)
 (jj (wN (rB<|iZ EH (iO 1)<|je (f1 kq)<|iP (iO 0) iY)
 (ju (je (f1 Nl)<|iP (iZ lX (iO 0)<|iO 1) iY)<|jV 2)
 nG)
 (jj (ju (iZ jJ (eC<|.int 1)<|iZ uC (iZ jJ (iZ jJ (iZ jJ (iZ uC (iO 2)<|eC<|.int 2147483647)<|iZ nV (iZ nV (eC<|.int 7919)<|iO 1)<|iO 1)<|iZ nV (eC<|.int 17)<|iO 1)<|eC<|.int 3)<|eC<|.int 2147483646)<|jV 3)
 (jO<|qq<|iP (iZ nV (iO 2)<|je (f1 vH)<|iP (iZ OS (iO 2)<|iZ JO (eC<|.int 10)<|eC<|.int 18) iY)<|iP (iO 3) iY)))
abbrev ow:ae->iX->R A:=kL t_ sS
meta abbrev pU:aE:=top 25
meta abbrev m_:ar:=["_law_bag_here", "_law_many", "_law_found"]
meta abbrev j9:ar:=["_law_bag_here", "_law_many"]
abbrev m9:Sm:=
 jj (wN (rB<|iZ Hl (iZ lX (iO 0)<|eC<|.int 0)<|eC<|.int 0)
 (jj (ju (iZ uC (iZ lX (iO 0)<|eC<|.int 0)<|iO 1)<|jV 2)
 (jj (ju (iZ Av (iZ lX (iO 0)<|eC<|.int 0)<|iO 1)<|yg (iO 0)<|eC<|.int 0)
 (jO<|iO 2)))
 nG)
 (jj (ju (iZ uC (iZ nV (iZ lX (iO 0)<|eC<|.int 1)<|eC<|.int 48271)<|eC<|.int 2147483647)<|yg (iO 0)<|eC<|.int 1)
 (jO<|iZ uC (iZ Av (iZ uC (iZ nV (iZ lX (iO 0)<|eC<|.int 1)<|iZ jJ (iZ Av (iZ lX (iO 0)<|eC<|.int 1)<|eC<|.int 65536)<|eC<|.int 9)<|eC<|.int 2147483629)<|eC<|.int 32)<|iO 1))
abbrev jf:ae->iX->R A:=kL m_ m9
meta abbrev t8:aE:=top 26
meta abbrev t7:ar:=["_law_bag_here", "_law_n", "_law_left", "_law_found", "_law_at"]
meta abbrev tW:ar:=["_law_bag_here", "_law_n"]
abbrev p5:Te:=
 rB (iZ Hl (je (f1 kq)<|iP (iO 2) iY)<|eC<|.int 0)
abbrev pQ:Sm:=
 jj (ju (eFn jf<|iP (iO 0)<|iP (je (f1 kq)<|iP (iO 2) iY) iY)<|jV 4)
 (jj (qK<|Ln oB (iO 3)<|iP (iZ lX (iO 2)<|iO 4) iY)
 (ju (iZ jJ (QZ (iO 2) Cr<|Ed<|iO 4)<|QZ (iO 2) (Ed<|iZ jJ (iO 4)<|eC<|.int 1) Cr)<|jV 2))
abbrev tK:Sm:=
 jj (ju (je (f1 qo)<|iP (je (f2 qz)<|iP (eC<|.int 1)<|iP (iZ jJ (iO 1)<|eC<|.int 1) iY) iY)<|jV 2)
 (jj (ju (qq iY)<|jV 3)
 (jj (kG p5
 pQ 1000000)
 (jO<|je (f1 lY)<|iP (iO 3) iY)))
abbrev n5:ae->iX->R A:=kL t7 tK
meta abbrev pX:aE:=top 27
meta abbrev qk:ar:=["_law_bag_here", "_law_n", "_law_way", "_law_found", "_law_k", "_law_i", "_law_j"]
meta abbrev p6:ar:=["_law_bag_here", "_law_n"]
abbrev qH:Ic:=
 p_ (eFn jf<|iP (iO 0)<|iP (eC<|.int 7) iY)
abbrev nu:Sm:=
 jj (ju (eFn jf<|iP (iO 0)<|iP (iO 1) iY)<|jV 5)
 (jj (ju (eFn jf<|iP (iO 0)<|iP (iO 1) iY)<|jV 6)
 (ju (qB<|iP (iZ lX (iO 3)<|iO 6)<|iP (iZ lX (iO 3)<|iO 5) iY)<|Hj 2<|xg (yg (iO 3)<|iO 5)<|xg (yg (iO 3)<|iO 6) Je))
abbrev p7:Sm:=
 jj (ju (eFn jf<|iP (iO 0)<|iP (eC<|.int 4) iY)<|jV 2)
 (jj (wN (rB<|iZ Hl (iO 2)<|eC<|.int 1)
 (jO<|eFn n5<|iP (iO 0)<|iP (iO 1) iY)
 nG)
 (jj (ju (je (f1 qo)<|iP (je (f2 qz)<|iP (eC<|.int 1)<|iP (iZ jJ (iO 1)<|eC<|.int 1) iY) iY)<|jV 3)
 (jj (wN (rB<|iZ (uL false) (iO 2)<|eC<|.int 1)
 (ju (Lq GU<|iO 3)<|jV 3)
 nG)
 (jj (mV qH (jV 4)
 nu)
 (jO<|je (f1 lY)<|iP (iO 3) iY)))))
abbrev kO:ae->iX->R A:=kL qk p7
meta abbrev oM:aE:=top 28
meta abbrev oE:ar:=["_law_bag_here", "_law_order_here", "_law_most", "_law_found", "_law_turn", "_law_i", "_law_j"]
meta abbrev oJ:ar:=["_law_bag_here", "_law_order_here", "_law_most"]
abbrev vS:Ic:=
 p_ (eFn jf<|iP (iO 0)<|iP (iZ jJ (iO 2)<|eC<|.int 1) iY)
abbrev qd:Sm:=
 jj (ju (eFn jf<|iP (iO 0)<|iP (je (f1 kq)<|iP (iO 3) iY) iY)<|jV 5)
 (jj (ju (eFn jf<|iP (iO 0)<|iP (je (f1 kq)<|iP (iO 3) iY) iY)<|jV 6)
 (jj (JT 5 6<|iP (je (f2 DN)<|iP (iO 5)<|iP (iO 6) iY)<|iP (je (f2 B3)<|iP (iO 5)<|iP (iO 6) iY) iY)
 (wN (rB<|iZ EH (iZ lX (iO 3)<|iO 5)<|iZ lX (iO 3)<|iO 6)
 (ju (qB<|iP (iZ lX (iO 3)<|iO 6)<|iP (iZ lX (iO 3)<|iO 5) iY)<|Hj 2<|xg (yg (iO 3)<|iO 5)<|xg (yg (iO 3)<|iO 6) Je)
 nG)))
abbrev oz:Sm:=
 jj (ju (je (f1 qo)<|iP (iO 1) iY)<|jV 3)
 (jj (mV vS (jV 4)
 qd)
 (jO<|je (f1 lY)<|iP (iO 3) iY))
abbrev lC:ae->iX->R A:=kL oE oz
meta abbrev rA:aE:=top 29
meta abbrev qT:ar:=["_law_bag_here", "_law_n", "_law_one", "_law_way", "_law_other"]
meta abbrev rj:ar:=["_law_bag_here", "_law_n"]
abbrev qR:Sm:=
 jj (ju (eFn kO<|iP (iO 0)<|iP (iO 1) iY)<|jV 2)
 (jj (ju (eFn jf<|iP (iO 0)<|iP (eC<|.int 5) iY)<|jV 3)
 (jj (wN (rB<|iZ (uL false) (iO 3)<|eC<|.int 0)
 (jO<|qB<|iP (iO 2)<|iP (eFn kO<|iP (iO 0)<|iP (iO 1) iY) iY)
 nG)
 (jj (wN (rB<|iZ (uL false) (iO 3)<|eC<|.int 1)
 (jO<|qB<|iP (iO 2)<|iP (iO 2) iY)
 nG)
 (jj (ju (eFn lC<|iP (iO 0)<|iP (iO 2)<|iP (iZ lX (qq<|iP (eC<|.int 2)<|iP (eC<|.int 6)<|iP (eC<|.int 20) iY)<|eFn jf<|iP (iO 0)<|iP (eC<|.int 3) iY) iY)<|jV 4)
 (jj (wN (rB<|iZ (uL false) (iO 3)<|eC<|.int 2)
 (jO<|qB<|iP (iO 4)<|iP (iO 2) iY)
 nG)
 (jO<|qB<|iP (iO 2)<|iP (iO 4) iY))))))
abbrev mH:ae->iX->R A:=kL qT qR
meta abbrev tH:aE:=top 30
meta abbrev sW:ar:=["_law_one", "_law_other", "_law_n", "_law_here", "_law_there", "_law_i", "_law_j"]
meta abbrev sO:ar:=["_law_one", "_law_other"]
abbrev nh:Ic:=
 o4 (eC<|.int 1) (iZ jJ (iO 2)<|eC<|.int 1)
abbrev mZ:Sm:=
 jj (ju (iZ jJ (iZ lX (iO 3)<|iO 6)<|je (f1 vH)<|iP (iZ OS (iZ lX (iO 0)<|iO 5)<|iO 6) iY)<|yg (iO 3)<|iO 6)
 (jj (ju (iZ jJ (iZ lX (iO 4)<|iO 6)<|je (f1 vH)<|iP (iZ OS (iZ lX (iO 1)<|iO 5)<|iO 6) iY)<|yg (iO 4)<|iO 6)
 (wN (rB<|iZ Hl (iZ lX (iO 3)<|iO 6)<|iZ lX (iO 4)<|iO 6)
 (jO<|qB<|iP (iZ jJ (iO 5)<|eC<|.int 1)<|iP (iO 6) iY)
 nG))
abbrev uw:Ic:=
 p_ (iO 2)
abbrev qt:Sm:=
 mV nh (jV 6)
 mZ
abbrev s_:Sm:=
 jj (ju (je (f1 kq)<|iP (iO 0) iY)<|jV 2)
 (jj (ju (iZ nV (qq<|iP (eC<|.int 0) iY)<|iZ jJ (iO 2)<|eC<|.int 2)<|jV 3)
 (jj (ju (iZ nV (qq<|iP (eC<|.int 0) iY)<|iZ jJ (iO 2)<|eC<|.int 2)<|jV 4)
 (jj (mV uw (jV 5)
 qt)
 (jO<|eC .non))))
abbrev mz:ae->iX->R A:=kL sW s_
meta abbrev p8:aE:=top 31
meta abbrev pJ:ar:=["_law_order_here", "_law_n", "_law_found", "_law_i"]
meta abbrev nc:ar:=["_law_order_here"]
abbrev qG:Ic:=
 p_ (iO 1)
abbrev qJ:Sm:=
 qK (Ln yU (iO 2)<|iP (pe [none,some 3,some 0] (o4 (iZ jJ (iO 3)<|eC<|.int 1)<|iO 1) (jV 0) (rB<|iZ Hl (iZ lX (iO 2)<|iO 1)<|iZ lX (iO 2)<|iO 0)<|qB<|iP (iZ jJ (iO 1)<|eC<|.int 1)<|iP (iZ jJ (iO 0)<|eC<|.int 1) iY) iY)
abbrev pL:Sm:=
 jj (ju (je (f1 kq)<|iP (iO 0) iY)<|jV 1)
 (jj (ju (qq iY)<|jV 2)
 (jj (mV qG (jV 3)
 qJ)
 (jO<|iO 2)))
abbrev j7:ae->iX->R A:=kL pJ pL
meta abbrev pM:aE:=top 32
meta abbrev qj:ar:=["_law_thing"]
meta abbrev qf:ar:=["_law_thing"]
abbrev pD:Sm:=
 jO (yI (je (f2 BR)<|iP (iO 0)<|iP (eC<|.ty "int") iY)<|GX<|je (f2 BR)<|iP (iO 0)<|iP (eC<|.ty "bool") iY)
abbrev kN:ae->iX->R A:=kL qj pD
meta abbrev pR:aE:=top 33
meta abbrev p9:ar:=["_law_order_here", "_law_left", "_law_word", "_law_turn", "_law_k", "_law_here", "_law_there"]
meta abbrev pN:ar:=["_law_order_here"]
abbrev qE:Ic:=
 p_ (je (f1 kq)<|iP (eFn j7<|iP (iO 0) iY) iY)
abbrev qI:Sm:=
 jj (ju (iZ lX (pe [none,some 1] (o4 (eC<|.int 1)<|je (f1 kq)<|iP (iO 1) iY) (jV 0) (rB<|iZ EH (yC (iO 1)<|iP (iZ jJ (iO 0)<|eC<|.int 1) iY)<|yC (iO 1)<|iP (iO 0) iY)<|iO 0)<|eC<|.int 0)<|jV 4)
 (jj (JT 5 6<|iP (yC (iO 1)<|iP (iO 4) iY)<|iP (yC (iO 1)<|iP (iZ jJ (iO 4)<|eC<|.int 1) iY) iY)
 (jj (ju (qB<|iP (iZ jJ (iO 4)<|eC<|.int 1)<|iP (iO 4) iY)<|Hj 2<|xg (yg (iO 1)<|iO 5)<|xg (yg (iO 1)<|iO 6) Je)
 (qK<|Ln oB (iO 2)<|iP (iO 4) iY)))
abbrev pT:Sm:=
 jj (ju (je (f1 qo)<|iP (iO 0) iY)<|jV 1)
 (jj (ju (qq iY)<|jV 2)
 (jj (mV qE (jV 3)
 qI)
 (jO<|iO 2)))
abbrev l9:ae->iX->R A:=kL p9 pT
meta abbrev tU:aE:=top 34
meta abbrev tZ:ar:=["_law_n", "_law_word", "_law_found", "_law_k"]
meta abbrev uc:ar:=["_law_n", "_law_word"]
abbrev uy:Ic:=
 zI (iO 1)
abbrev uz:Sm:=
 ju (qB<|iP (iZ lX (iO 2)<|iO 3)<|iP (iZ lX (iO 2)<|iZ aSub (iO 3)<|eC<|.int 1) iY) (Hj 2<|xg (yg (iO 2)<|iZ aSub (iO 3)<|eC<|.int 1)<|xg (yg (iO 2)<|iO 3) Je)
abbrev tX:Sm:=
 jj (ju (je (f1 qo)<|iP (je (f2 qz)<|iP (eC<|.int 1)<|iP (iZ jJ (iO 0)<|eC<|.int 1) iY) iY)<|jV 2)
 (jj (mV uy (jV 3)
 uz)
 (jO<|je (f1 lY)<|iP (iO 2) iY))
abbrev nY:ae->iX->R A:=kL tZ tX
meta abbrev qp:aE:=top 35
meta abbrev qc:ar:=["_law_places", "_law_one", "_law_word", "_law_left"]
meta abbrev pF:ar:=["_law_places", "_law_one", "_law_word"]
abbrev pO:Sm:=
 jj (wN (ON (wu<|wR<|je (f2 BR)<|iP (iO 0)<|iP (eC<|.ty "list") iY)<|wu<|wR<|je (f1 KZ)<|iP (pe [none] (zI<|iO 0) (jV 0) Fc<|eFn kN<|iP (iO 0) iY) iY)
 (jO<|eC<|.bl false)
 nG)
 (jj (wN (ON (rB<|iZ (uL true) (iO 0)<|Mx<|iO 0)<|Ew (rB<|iZ (uL true) (iO 0)<|qq iY)<|wu<|rB<|EB JG JG EH (eC<|.int 0) (iZ lX (iO 0)<|eC<|.int 0) (iZ lX (iO 0)<|Lq EK<|eC<|.int 1)<|je (f1 kq)<|iP (iO 2) iY)
 (jO<|eC<|.bl false)
 nG)
 (jj (ju (pe [none,some 2] (zI<|iO 0) (jV 0) Fc<|iZ lX (iO 1)<|iO 0)<|jV 3)
 (jO<|yI (iZ (uL false) (eFn nY<|iP (je (f1 kq)<|iP (iO 1) iY)<|iP (iO 3) iY)<|iO 1)<|iZ (uL false) (je (f1 kq)<|iP (iO 3) iY)<|je (f1 kq)<|iP (eFn j7<|iP (iO 1) iY) iY)))
abbrev kP:ae->iX->R A:=kL qc pO
meta abbrev nR:aE:=top 36
meta abbrev nJ:ar:=["_law_one", "_law_other", "e", "_law_others"]
meta abbrev nQ:ar:=["_law_one", "_law_other"]
abbrev nN:Sm:=
 jj (zA 2 4 ["NoPair", "NoWord"] (qK<|uB jo<|iP (iO 0)<|iP (iO 1) iY)
 (jj (ju (qq<|iP (sM (E1 [("NoPair",false),("NoWord",false)])<|iO 2)<|iP (sM (E1 [("NoPair",false),("NoWord",false)])<|iO 2)<|iP (sM (E1 [("NoPair",false),("NoWord",false)])<|iO 2)<|iP (sM (E1 [("NoPair",false),("NoWord",false)])<|iO 2) iY)<|jV 3)
 (jj (ju (iZ jJ (iO 3)<|qq<|iP (sM (E1 [("NoPair",false),("NoWord",false)])<|iO 2)<|iP (sM (E1 [("NoPair",false),("NoWord",true)])<|iO 2)<|iP (sM (E1 [("NoPair",false),("NoWord",false)])<|iO 2) iY)<|jV 3)
 (jO<|yI (sM (E1 [("NoPair",true),("NoWord",false)])<|iO 2)<|yI (sM (E1 [("NoPair",true),("NoWord",true)])<|iO 2)<|GX<|je (f1 Nn)<|iP (iO 3) iY))))
 (jO<|eC<|.bl false)
abbrev kC:ae->iX->R A:=kL nJ nN
meta abbrev qQ:aE:=top 37
meta abbrev rf:ar:=["_law_one", "_law_other", "_law_word", "_law_found"]
meta abbrev rq:ar:=["_law_one", "_law_other"]
abbrev qP:Sm:=
 jj (wN (rB<|iZ (BY true) (eFn mz<|iP (iO 0)<|iP (iO 1) iY)<|eC .non)
 (jO<|iZ (BY false) (uB jo<|iP (iO 0)<|iP (iO 1) iY)<|eC .non)
 nG)
 (jj (ju (eFn l9<|iP (iO 1) iY)<|jV 2)
 (jj (ju (uB jo<|iP (iO 0)<|iP (iO 1) iY)<|jV 3)
 (jj (wN (wu<|wR<|eFn kP<|iP (iO 3)<|iP (iO 0)<|iP (iO 2) iY)
 (jO<|eC<|.bl false)
 nG)
 (jj (qK<|Ln oB (iO 3)<|iP (eC<|.int 0) iY)
 (jO<|eFn kP<|iP (uB jo<|iP (iO 0)<|iP (iO 1) iY)<|iP (iO 0)<|iP (iO 2) iY)))))
abbrev lT:ae->iX->R A:=kL rf qP
meta abbrev GA:aE:=top 38
meta abbrev Gn:ar:=["_law_script", "_law_k", "_law_bag_here", "_law_n", "_law_one", "_law_other"]
meta abbrev LW:ar:=["_law_script"]
abbrev D7:Ic:=
 p_ (je (f2 B3)<|iP (eC<|.int 1)<|iP (je (f2 DN)<|iP (eC<|.int 3)<|iP (je (f1 kq)<|iP (iO 0) iY) iY) iY)
abbrev Eg:Sm:=
 jj (ju (eFn ow<|iP (iO 0)<|iP (iO 1) iY)<|jV 2)
 (jj (ju (iZ jJ (eC<|.int 1)<|eFn jf<|iP (iO 2)<|iP (eC<|.int 20) iY)<|jV 3)
 (jj (ju (eFn mH<|iP (iO 2)<|iP (iO 3) iY)<|Hj 2<|xg (jV 4)<|xg (jV 5) Je)
 (jj (wN (ON (wu<|wR<|eFn lT<|iP (iO 4)<|iP (iO 5) iY)<|wu<|wR<|eFn lT<|iP (iO 5)<|iP (iO 4) iY)
 (jO<|eC<|.bl false)
 nG)
 (wN (Ew (rB<|iZ EH (iO 3)<|eC<|.int 20)<|wu<|wR<|eFn kC<|iP (iO 4)<|iP (iZ jJ (iO 5)<|qB<|iP (iZ jJ (iO 3)<|eC<|.int 1) iY) iY)
 (jO<|eC<|.bl false)
 nG))))
abbrev IY:Sm:=
 jj (mV D7 (jV 1)
 Eg)
 (jO<|eC<|.bl true)
abbrev xx:ae->iX->R A:=kL Gn IY
section
variable {P:ah}{w:af}{K:au}{mg:Str->bd}{base:ak}{f:aj}{fd:FuncData}
def Aj:FnScope qN qY (i8 qV):=uD rfl rfl rfl ∅
def AJ(F:Fun K "is_whole" "is_whole" qV f fd)(TF:mg "isinstance" = none)(TQ:mg "bool" = none)(TM:mg "int" = none):FnOk P w K mg base qF 1 f fd qY (sH K 1 mO):=wQ (m:=qS) F Aj λcdv B outer s H E hr=>
 i7 (jm<|tY (jc Ax TF jY<|iQ (iN 0)<|iQ (za TM vW) iU)<|v9<|Bw<|jc Ax TF jY<|iQ (iN 0)<|iQ (za TQ DY) iU)
def vO:FnScope nU nq (i8 ny):=uD rfl rfl rfl ∅
def wm(F:Fun K "plain_order" "plain_order" ny f fd)(TH:mg "tuple" = none)(Tz:mg "range" = none):FnOk P w K mg base qF 1 f fd nq (sH K 1 kB):=wQ (m:=nE) F vO λcdv B outer s H E hr=>
 i7 (jm<|jv (oH rfl) TH mR<|iQ (jv sC Tz rR<|iQ iW<|iQ (i_ jI (iN 0) iW) iU) iU)
def yj:FnScope mW pH (i8 pS):=uD rfl rfl rfl ∅
def yL(F:Fun K "need_pair" "need_pair" pS f fd)(Tv:ExcK K U "NoPair" C_NoPair)(Tu:mg "len" = none):FnOk P w K mg base (A0 P w) 1 f fd pH (M0 K 2 j8):=fnX (m:=mY) F yj λcdv B outer s H E hr=>
 i7 (lJ (jR (Nh hr.units) (jc j5 Tu jG<|iQ (iN 0) iU)<|jc j5 Tu jG<|iQ (iN 1) iU)
 (i7<|xN (ps:=[.inl "orders of ",.inr<|je (f1 kq)<|iP (iO 0) iY,.inl " and of ",.inr<|je (f1 kq)<|iP (iO 1) iY,.inl " things"]) Tv.n Tv.q hr.hd<|.txt<|.val (jc j5 Tu jG<|iQ (iN 0) iU)<|.txt<|.val (jc j5 Tu jG<|iQ (iN 1) iU)<|.txt .nil)
 jH)
def uH:FnScope BZ yV (i8 AX):=uD rfl rfl rfl ∅
def J6(F:Fun K "back" "back" AX f fd)(Tu:mg "len" = none)(TR:mg "enumerate" = none)(TH:mg "tuple" = none):FnOk P w K mg base qF 1 f fd yV (sH K 1 qX):=wQ (m:=BH) F uH λcdv B outer s H E hr=>
 iS (ji (i:=1) uH.nd<|i_ rF (lO<|iQ iW iU)<|jc j5 Tu jG<|iQ (iN 0) iU)
 (iS (nW cR rfl (Ox TR<|iN 0) (pC rfl<|jB (jD (i:=2) uH.nd)<|jB (jD (i:=3) uH.nd) m8)
 (i7<|mJ (i_ jI (iN 2) iW)<|kI (iN 1)<|i_ rT (iN 3) iW))
 (i7<|jm<|jv (oH rfl) TH mR<|iQ (iN 1) iU))
def vX:FnScope nL nP (i8 nM):=uD rfl rfl rfl ∅
def vZ(F:Fun K "is_exchange" "is_exchange" nM f fd)(T8:qZ P w K mg base 1 "is_whole" qY mO):FnOk P w K mg base qF 2 f fd nP (sH K 2 ku):=wQ (m:=nO) F vX λcdv B outer s H E hr=>
 i7 (jm<|tY (JF T8 hr<|iN 1)<|v9<|PR OH (Es hr.units) iW (iN 1)<|iN 0)
def mh:FnScope kK kJ (i8 kF):=uD rfl rfl rfl ∅
def qA(F:Fun K "exchanged_places" "exchanged_places" kF f fd)(TJ:mg "list" = none)(TH:mg "tuple" = none):FnOk P w K mg base qF 1 f fd kJ (sH K 3 jE):=wQ (m:=kH) F mh λcdv B outer s H E hr=>
 iS (ji (i:=3) mh.nd<|jv (tF rfl) TJ oQ<|iQ (iN 0) iU)
 (iS (mJ (l_<|iQ (jz (iN 3)<|i_ rT (iN 2) iW)<|iQ (jz (iN 3)<|i_ rT (iN 1) iW) iU)<|pC rfl<|jB (kI (iN 3)<|i_ rT (iN 1) iW)<|jB (kI (iN 3)<|i_ rT (iN 2) iW) m8)
 (i7<|jm<|jv (oH rfl) TH mR<|iQ (iN 3) iU))
def x_:FnScope qg nj (i8 pZ):=uD rfl rfl rfl ∅
def yS(F:Fun K "exchanged" "exchanged" pZ f fd)(Tw:ExcK K U "NoWord" C_NoWord)(Tu:mg "len" = none)(T9:qZ P w K mg base 2 "is_exchange" nP ku)(T_:qZ P w K mg base 1 "exchanged_places" kJ jE):FnOk P w K mg base (A0 P w) 3 f fd nj (M0 K 2 kc):=fnX (m:=qe) F x_ λcdv B outer s H E hr=>
 iS (lJ (pB<|pY<|wF T9 hr (jc j5 Tu jG<|iQ (iN 0) iU)<|iN 1)
 (i7<|xN (ps:=[.inl "no exchange of ",.inr<|je (f1 kq)<|iP (iO 0) iY,.inl " things"]) Tw.n Tw.q hr.hd<|.txt<|.val (jc j5 Tu jG<|iQ (iN 0) iU)<|.txt .nil)
 jH)
 (i7<|jm<|QW T_ hr (iN 0) (iN 1)<|i_ jI (iN 1) iW)
def Hf:FnScope yu yd (i8 yW):=uD rfl rfl rfl ∅
def F4(F:Fun K "falls" "falls" yW f fd)(Tz:mg "range" = none)(Tu:mg "len" = none):FnOk P w K mg base qF 1 f fd yd (sH K 1 qy):=wQ (m:=yO) F Hf λcdv B outer s H E hr=>
 i7 (jm<|uI (N:=["k", "order"]) (cap:=[none,some 0]) rfl (AK ["order"] rfl ∅ ∅ ∅ ∅ ∅ (bg.mpr ⟨by first|exact Or.inl rfl|exact Or.inr rfl,(nofun)⟩) ⟨rfl,by decide +kernel,trivial⟩) (qv Tz iW<|jc j5 Tu jG<|iQ (iN 0) iU) (λ_ _ _ _=>jD (i:=0) (show(["k", "order"]:ar).Nodup by decide +kernel) rfl (Or.inl rfl)<|.inr rfl) (λ_ _ _ _=>yQ<|jR (BV hr.units) (jz (iN 1)<|i_ rT (iN 0) iW)<|jz (iN 1)<|iN 0) λ_ _ _ _=>iN 0)
def jZ:FnScope oV oR (i8 oX):=uD rfl rfl rfl ∅
def wK(F:Fun K "first_word" "first_word" oX f fd)(TU:qZ P w K mg base 1 "back" yV qX)(T4:qZ P w K mg base 1 "falls" yd qy)(TV:JD P w K mg base 3 "exchanged" nj kc):FnOk P w K mg base (A0 P w) 4 f fd oR (M0 K 1 kY):=fnX (m:=oS) F jZ λcdv B outer s H E hr=>
 iS (ji (i:=1) jZ.nd<|JF TU hr<|iN 0)
 (iS (ji (i:=2) jZ.nd<|lO iU)
 (iS (ji (i:=3) jZ.nd<|JF T4 hr<|iN 1)
 (iS (zo 1000000 PassesOwn.leaving (pY<|iN 3)
 (iS (ng<|xD dg dh pK (iN 2)<|iQ (jz (iN 3) iW) iU)
 (iS (ji (i:=1) jZ.nd<|Oi TV hr (iN 1)<|jz (iN 3) iW)
 (i7<|ji (i:=3) jZ.nd<|JF T4 hr<|iN 1))))
 (i7<|jm<|iN 2))))
def jQ:FnScope l8 l7 (i8 nH):=uD rfl rfl rfl ∅
def vI(F:Fun K "kept_places" "kept_places" nH f fd)(TR:mg "enumerate" = none)(Tu:mg "len" = none)(Ua:JD P w K mg base 1 "need_pair" pH j8)(TU:qZ P w K mg base 1 "back" yV qX)(Ub:JD P w K mg base 4 "first_word" oR kY)(TV:JD P w K mg base 3 "exchanged" nj kc)(Uc:qZ P w K mg base 1 "plain_order" nq kB):FnOk P w K mg base (A0 P w) 5 f fd l7 (M0 K 2 jo):=fnX (m:=l6) F jQ λcdv B outer s H E hr=>
 iS (ng<|Oi Ua hr (iN 0)<|iN 1)
 (iS (ji (i:=2) jQ.nd<|JF TU hr<|iN 0)
 (iS (ji (i:=3) jQ.nd<|lO iU)
 (iS (nW PassesOwn.leaving rfl (OC TR<|Tn Ub hr<|iN 1) (pC rfl<|jB (jD (i:=4) jQ.nd)<|jB (jD (i:=5) jQ.nd) m8)
 (i7 (lJ (jR (BV hr.units) (jz (iN 2)<|i_ rT (iN 5) iW)<|jz (iN 2)<|iN 5)
 (iS (ji (i:=2) jQ.nd<|Oi TV hr (iN 2)<|iN 5)
 (i7<|ng<|xD dg dh pK (iN 3)<|iQ (iN 4) iU))
 jH)))
 (i7<|jm<|P9 (jR (A5 hr.units) (iN 2)<|JF Uc hr<|jc j5 Tu jG<|iQ (iN 0) iU) (iN 3)<|yl))))
def oA:FnScope t_ sQ (i8 sJ):=uD rfl rfl rfl ∅
def Ba(F:Fun K "_law_bag" "_law_bag" sJ f fd)(Tu:mg "len" = none)(Ud:mg "abs" = none)(TM:mg "int" = none):FnOk P w K mg base qF 1 f fd sQ (sH K 2 ow):=wQ (m:=sS) F oA λcdv B outer s H E hr=>
 iS (ji (i:=2) oA.nd iW)
 (iS (lJ (jR (Es hr.units) (iN 1)<|jc j5 Tu jG<|iQ (iN 0) iU)
 (i7<|ji (i:=2) oA.nd<|jc Pb Ud OB<|iQ (jz (iN 0)<|iN 1) iU)
 jH)
 (iS (ji (i:=3) oA.nd<|i_ jI iW<|i_ xC (i_ jI (i_ jI (i_ jI (i_ xC (iN 2) iW)<|i_ rF (i_ rF iW<|iN 1)<|iN 1)<|i_ rF iW<|iN 1) iW) iW)
 (i7<|jm<|lO<|iQ (i_ rF (iN 2)<|jv BD TM vW<|iQ (tM Nt (iN 2)<|i_ Py iW iW) iU)<|iQ (iN 3) iU)))
def rW:FnScope m_ j9 (i8 pU):=uD rfl rfl rfl ∅
def yq(F:Fun K "_law_digit" "_law_digit" pU f fd):FnOk P w K mg base qF 1 f fd j9 (sH K 2 jf):=wQ (m:=m9) F rW λcdv B outer s H E hr=>
 iS (lJ (jR (BV hr.units) (jz (iN 0) iW) iW)
 (iS (ji (i:=2) rW.nd<|i_ xC (jz (iN 0) iW)<|iN 1)
 (iS (mJ (i_ BI (jz (iN 0) iW)<|iN 1)<|kI (iN 0) iW)
 (i7<|jm<|iN 2)))
 jH)
 (iS (mJ (i_ xC (i_ rF (jz (iN 0) iW) iW) iW)<|kI (iN 0) iW)
 (i7<|jm<|i_ xC (i_ BI (i_ xC (i_ rF (jz (iN 0) iW)<|i_ jI (i_ BI (jz (iN 0) iW) iW) iW) iW) iW)<|iN 1))
def mQ:FnScope t7 tW (i8 t8):=uD rfl rfl rfl ∅
def A_(F:Fun K "_law_any" "_law_any" t8 f fd)(TJ:mg "list" = none)(Tz:mg "range" = none)(Tu:mg "len" = none)(TH:mg "tuple" = none)(TL:qZ P w K mg base 1 "_law_digit" j9 jf):FnOk P w K mg base qF 2 f fd tW (sH K 2 n5):=wQ (m:=tK) F mQ λcdv B outer s H E hr=>
 iS (ji (i:=2) mQ.nd<|jv (tF rfl) TJ oQ<|iQ (jv sC Tz rR<|iQ iW<|iQ (i_ jI (iN 1) iW) iU) iU)
 (iS (ji (i:=3) mQ.nd<|lO iU)
 (iS (zo 1000000 cR (jR (BV hr.units) (jc j5 Tu jG<|iQ (iN 2) iU) iW)
 (iS (ji (i:=4) mQ.nd<|wF TL hr (iN 0)<|jc j5 Tu jG<|iQ (iN 2) iU)
 (iS (ng<|xD dg dh pK (iN 3)<|iQ (jz (iN 2)<|iN 4) iU)
 (i7<|ji (i:=2) mQ.nd<|i_ jI (LQ (iN 2) Cb<|DS<|iN 4)<|LQ (iN 2) (DS<|i_ jI (iN 4) iW) Cb))))
 (i7<|jm<|jv (oH rfl) TH mR<|iQ (iN 3) iU)))
def jT:FnScope qk p6 (i8 pX):=uD rfl rfl rfl ∅
def yT(F:Fun K "_law_order" "_law_order" pX f fd)(TJ:mg "list" = none)(Tz:mg "range" = none)(TH:mg "tuple" = none)(TL:qZ P w K mg base 1 "_law_digit" j9 jf)(Ue:qZ P w K mg base 2 "_law_any" tW n5):FnOk P w K mg base qF 3 f fd p6 (sH K 2 kO):=wQ (m:=p7) F jT λcdv B outer s H E hr=>
 iS (ji (i:=2) jT.nd<|wF TL hr (iN 0) iW)
 (iS (lJ (jR (BV hr.units) (iN 2) iW)
 (i7<|jm<|wF Ue hr (iN 0)<|iN 1)
 jH)
 (iS (ji (i:=3) jT.nd<|jv (tF rfl) TJ oQ<|iQ (jv sC Tz rR<|iQ iW<|iQ (i_ jI (iN 1) iW) iU) iU)
 (iS (lJ (jR (A5 hr.units) (iN 2) iW)
 (i7<|ji (i:=3) jT.nd<|N8<|iN 3)
 jH)
 (iS (nW cR rfl (mE Tz<|wF TL hr (iN 0) iW) (jD (i:=4) jT.nd)
 (iS (ji (i:=5) jT.nd<|wF TL hr (iN 0)<|iN 1)
 (iS (ji (i:=6) jT.nd<|wF TL hr (iN 0)<|iN 1)
 (i7<|mJ (l_<|iQ (jz (iN 3)<|iN 6)<|iQ (jz (iN 3)<|iN 5) iU)<|pC rfl<|jB (kI (iN 3)<|iN 5)<|jB (kI (iN 3)<|iN 6) m8))))
 (i7<|jm<|jv (oH rfl) TH mR<|iQ (iN 3) iU)))))
def jX:FnScope oE oJ (i8 oM):=uD rfl rfl rfl ∅
def wJ(F:Fun K "_law_raised" "_law_raised" oM f fd)(TJ:mg "list" = none)(Tz:mg "range" = none)(Tu:mg "len" = none)(TX:mg "max" = none)(TY:mg "min" = none)(TH:mg "tuple" = none)(TL:qZ P w K mg base 1 "_law_digit" j9 jf):FnOk P w K mg base qF 2 f fd oJ (sH K 3 lC):=wQ (m:=oz) F jX λcdv B outer s H E hr=>
 iS (ji (i:=3) jX.nd<|jv (tF rfl) TJ oQ<|iQ (iN 1) iU)
 (iS (nW cR rfl (mE Tz<|wF TL hr (iN 0)<|i_ jI (iN 2) iW) (jD (i:=4) jX.nd)
 (iS (ji (i:=5) jX.nd<|wF TL hr (iN 0)<|jc j5 Tu jG<|iQ (iN 3) iU)
 (iS (ji (i:=6) jX.nd<|wF TL hr (iN 0)<|jc j5 Tu jG<|iQ (iN 3) iU)
 (iS (Gi (i:=5) (j:=6) rfl jX.nd<|iQ (jc (Jw rfl) TY F9<|iQ (iN 5)<|iQ (iN 6) iU)<|iQ (jc (Gv rfl) TX HQ<|iQ (iN 5)<|iQ (iN 6) iU) iU)
 (i7 (lJ (jR (Es hr.units) (jz (iN 3)<|iN 5)<|jz (iN 3)<|iN 6)
 (i7<|mJ (l_<|iQ (jz (iN 3)<|iN 6)<|iQ (jz (iN 3)<|iN 5) iU)<|pC rfl<|jB (kI (iN 3)<|iN 5)<|jB (kI (iN 3)<|iN 6) m8)
 jH))))))
 (i7<|jm<|jv (oH rfl) TH mR<|iQ (iN 3) iU))
def m7:FnScope qT rj (i8 rA):=uD rfl rfl rfl ∅
def zu(F:Fun K "_law_pair" "_law_pair" rA f fd)(T5:qZ P w K mg base 3 "_law_order" p6 kO)(TL:qZ P w K mg base 1 "_law_digit" j9 jf)(Ug:qZ P w K mg base 2 "_law_raised" oJ lC):FnOk P w K mg base qF 4 f fd rj (sH K 2 mH):=wQ (m:=qR) F m7 λcdv B outer s H E hr=>
 iS (ji (i:=2) m7.nd<|wF T5 hr (iN 0)<|iN 1)
 (iS (ji (i:=3) m7.nd<|wF TL hr (iN 0) iW)
 (iS (lJ (jR (A5 hr.units) (iN 3) iW)
 (i7<|jm<|l_<|iQ (iN 2)<|iQ (wF T5 hr (iN 0)<|iN 1) iU)
 jH)
 (iS (lJ (jR (A5 hr.units) (iN 3) iW)
 (i7<|jm<|l_<|iQ (iN 2)<|iQ (iN 2) iU)
 jH)
 (iS (ji (i:=4) m7.nd<|QW Ug hr (iN 0) (iN 2)<|jz (lO<|iQ iW<|iQ iW<|iQ iW iU)<|wF TL hr (iN 0) iW)
 (iS (lJ (jR (A5 hr.units) (iN 3) iW)
 (i7<|jm<|l_<|iQ (iN 4)<|iQ (iN 2) iU)
 jH)
 (i7<|jm<|l_<|iQ (iN 2)<|iQ (iN 4) iU))))))
def lQ:FnScope sW sO (i8 tH):=uD rfl rfl rfl ∅
def A4(F:Fun K "_law_bar" "_law_bar" tH f fd)(Tu:mg "len" = none)(Tz:mg "range" = none)(TM:mg "int" = none):FnOk P w K mg base qF 1 f fd sO (sH K 2 mz):=wQ (m:=s_) F lQ λcdv B outer s H E hr=>
 iS (ji (i:=2) lQ.nd<|jc j5 Tu jG<|iQ (iN 0) iU)
 (iS (ji (i:=3) lQ.nd<|i_ rF (lO<|iQ iW iU)<|i_ jI (iN 2) iW)
 (iS (ji (i:=4) lQ.nd<|i_ rF (lO<|iQ iW iU)<|i_ jI (iN 2) iW)
 (iS (nW cR rfl (mE Tz<|iN 2) (jD (i:=5) lQ.nd)
 (i7 (nW cR rfl (qv Tz iW<|i_ jI (iN 2) iW) (jD (i:=6) lQ.nd)
 (iS (mJ (i_ jI (jz (iN 3)<|iN 6)<|jv BD TM vW<|iQ (tM Nt (jz (iN 0)<|iN 5)<|iN 6) iU)<|kI (iN 3)<|iN 6)
 (iS (mJ (i_ jI (jz (iN 4)<|iN 6)<|jv BD TM vW<|iQ (tM Nt (jz (iN 1)<|iN 5)<|iN 6) iU)<|kI (iN 4)<|iN 6)
 (i7 (lJ (jR (BV hr.units) (jz (iN 3)<|iN 6)<|jz (iN 4)<|iN 6)
 (i7<|jm<|l_<|iQ (i_ jI (iN 5) iW)<|iQ (iN 6) iU)
 jH)))))))
 (i7<|jm<|yl))))
def mj:FnScope pJ nc (i8 p8):=uD rfl rfl rfl ∅
def yv(F:Fun K "_law_wrong" "_law_wrong" p8 f fd)(Tu:mg "len" = none)(Tz:mg "range" = none):FnOk P w K mg base qF 1 f fd nc (sH K 1 j7):=wQ (m:=pL) F mj λcdv B outer s H E hr=>
 iS (ji (i:=1) mj.nd<|jc j5 Tu jG<|iQ (iN 0) iU)
 (iS (ji (i:=2) mj.nd<|lO iU)
 (iS (nW cR rfl (mE Tz<|iN 1) (jD (i:=3) mj.nd)
 (i7<|ng<|xD PySem.F.slot_list_extend PySem.F.type_list_extend IE (iN 2)<|iQ (uI (N:=["_law_j", "_law_i", "_law_order_here"]) (cap:=[none,some 3,some 0]) rfl (AK ["_law_i", "_law_order_here"] rfl ∅ ∅ ∅ ∅ ∅ (bg.mpr ⟨by first|exact Or.inl rfl|exact Or.inr rfl,(bg.mpr ⟨by first|exact Or.inl rfl|exact Or.inr rfl,(nofun)⟩)⟩) ⟨rfl,by decide +kernel,⟨rfl,by decide +kernel,trivial⟩⟩) (qv Tz (i_ jI (iN 3) iW)<|iN 1) (λ_ _ _ _=>jD (i:=0) (show(["_law_j", "_law_i", "_law_order_here"]:ar).Nodup by decide +kernel) rfl (Or.inl rfl)<|.inr rfl) (λ_ _ _ _=>yQ<|jR (BV hr.units) (jz (iN 2)<|iN 1)<|jz (iN 2)<|iN 0) λ_ _ _ _=>l_<|iQ (i_ jI (iN 1) iW)<|iQ (i_ jI (iN 0) iW) iU) iU))
 (i7<|jm<|iN 2)))
def xY:FnScope qj qf (i8 pM):=uD rfl rfl rfl ∅
def xX(F:Fun K "_law_whole" "_law_whole" pM f fd)(TF:mg "isinstance" = none)(TQ:mg "bool" = none)(TM:mg "int" = none):FnOk P w K mg base qF 1 f fd qf (sH K 1 kN):=wQ (m:=pD) F xY λcdv B outer s H E hr=>
 i7 (jm<|tY (jc Ax TF jY<|iQ (iN 0)<|iQ (za TM vW) iU)<|v9<|Bw<|jc Ax TF jY<|iQ (iN 0)<|iQ (za TQ DY) iU)
def kh:FnScope p9 pN (i8 pR):=uD rfl rfl rfl ∅
def yJ(F:Fun K "_law_first" "_law_first" pR f fd)(TJ:mg "list" = none)(Tz:mg "range" = none)(Tu:mg "len" = none)(TZ:qZ P w K mg base 1 "_law_wrong" nc j7):FnOk P w K mg base qF 2 f fd pN (sH K 1 l9):=wQ (m:=pT) F kh λcdv B outer s H E hr=>
 iS (ji (i:=1) kh.nd<|jv (tF rfl) TJ oQ<|iQ (iN 0) iU)
 (iS (ji (i:=2) kh.nd<|lO iU)
 (iS (nW cR rfl (mE Tz<|jc j5 Tu jG<|iQ (JF TZ hr<|iN 0) iU) (jD (i:=3) kh.nd)
 (iS (ji (i:=4) kh.nd<|jz (uI (N:=["_law_j", "_law_left"]) (cap:=[none,some 1]) rfl (AK ["_law_left"] rfl ∅ ∅ ∅ ∅ ∅ (bg.mpr ⟨by first|exact Or.inl rfl|exact Or.inr rfl,(nofun)⟩) ⟨rfl,by decide +kernel,trivial⟩) (qv Tz iW<|jc j5 Tu jG<|iQ (iN 1) iU) (λ_ _ _ _=>jD (i:=0) (show(["_law_j", "_law_left"]:ar).Nodup by decide +kernel) rfl (Or.inl rfl)<|.inr rfl) (λ_ _ _ _=>yQ<|jR (Es hr.units) (yo (iN 1)<|iQ (i_ jI (iN 0) iW) iU)<|yo (iN 1)<|iQ (iN 0) iU) λ_ _ _ _=>iN 0) iW)
 (iS (Gi (i:=5) (j:=6) rfl kh.nd<|iQ (yo (iN 1)<|iQ (iN 4) iU)<|iQ (yo (iN 1)<|iQ (i_ jI (iN 4) iW) iU) iU)
 (iS (mJ (l_<|iQ (i_ jI (iN 4) iW)<|iQ (iN 4) iU)<|pC rfl<|jB (kI (iN 1)<|iN 5)<|jB (kI (iN 1)<|iN 6) m8)
 (i7<|ng<|xD dg dh pK (iN 2)<|iQ (iN 4) iU)))))
 (i7<|jm<|iN 2)))
def rz:FnScope tZ uc (i8 tU):=uD rfl rfl rfl ∅
def BQ(F:Fun K "_law_led" "_law_led" tU f fd)(TJ:mg "list" = none)(Tz:mg "range" = none)(TH:mg "tuple" = none):FnOk P w K mg base qF 1 f fd uc (sH K 2 nY):=wQ (m:=tX) F rz λcdv B outer s H E hr=>
 iS (ji (i:=2) rz.nd<|jv (tF rfl) TJ oQ<|iQ (jv sC Tz rR<|iQ iW<|iQ (i_ jI (iN 0) iW) iU) iU)
 (iS (nW cR rfl (A9<|iN 1) (jD (i:=3) rz.nd)
 (i7<|mJ (l_<|iQ (jz (iN 2)<|iN 3)<|iQ (jz (iN 2)<|i_ rT (iN 3) iW) iU)<|pC rfl<|jB (kI (iN 2)<|i_ rT (iN 3) iW)<|jB (kI (iN 2)<|iN 3) m8))
 (i7<|jm<|jv (oH rfl) TH mR<|iQ (iN 2) iU))
def rG:FnScope qc pF (i8 qp):=uD rfl rfl rfl ∅
def yR(F:Fun K "_law_right" "_law_right" qp f fd)(Uh:mg "all" = none)(TF:mg "isinstance" = none)(TJ:mg "list" = none)(Tu:mg "len" = none)(Ui:mg "sorted" = none)(Uj:mg "set" = none)(Uk:qZ P w K mg base 1 "_law_whole" qf kN)(TZ:qZ P w K mg base 1 "_law_wrong" nc j7)(Ul:qZ P w K mg base 1 "_law_led" uc nY):FnOk P w K mg base qF 2 f fd pF (sH K 3 kP):=wQ (m:=pO) F rG λcdv B outer s H E hr=>
 iS (lJ (AW.at<|HH (pB<|pY<|jc Ax TF jY<|iQ (iN 0)<|iQ (za TJ oQ) iU)<|AR<|pB<|pY<|jc (Px rfl) Uh M6<|iQ (uI (N:=["_law_place"]) (cap:=[none]) rfl (AK [] rfl ∅ ∅ ∅ ∅ ∅ (nofun) trivial) (A9<|iN 0) (λ_ _ _ _=>jD (i:=0) (show(["_law_place"]:ar).Nodup by decide +kernel) rfl (Or.inl rfl)<|.inr rfl) (λ_ _ _ _=>C6) λ_ _ _ _=>JF Uk hr<|iN 0) iU)
 (i7<|jm wc)
 jH)
 (iS (lJ (AW.at<|HH (jR (Nh hr.units) (iN 0)<|A6 rfl Ui ER Uj MO<|iN 0)<|AR<|AW.at<|Jj (jR (Nh hr.units) (iN 0)<|lO iU)<|Dy<|pB<|NR OH OH (Es hr.units) iW (jz (iN 0) iW) (jz (iN 0)<|MV iW)<|jc j5 Tu jG<|iQ (iN 2) iU)
 (i7<|jm wc)
 jH)
 (iS (JI (i:=3) (N:=["_law_place", "_law_word"]) (cap:=[none,some 2]) rG.nd rfl (AK ["_law_word"] rfl ∅ ∅ ∅ ∅ ∅ (bg.mpr ⟨by first|exact Or.inl rfl|exact Or.inr rfl,(nofun)⟩) ⟨rfl,by decide +kernel,trivial⟩) (A9<|iN 0) (λ_ _ _ _=>jD (i:=0) (show(["_law_place", "_law_word"]:ar).Nodup by decide +kernel) rfl (Or.inl rfl)<|.inr rfl) (λ_ _ _ _=>C6) λ_ _ _ _=>jz (iN 1)<|iN 0)
 (i7<|jm<|tY (tM (A5 hr.units) (wF Ul hr (jc j5 Tu jG<|iQ (iN 1) iU)<|iN 3)<|iN 1)<|v9<|tM (A5 hr.units) (jc j5 Tu jG<|iQ (iN 3) iU)<|jc j5 Tu jG<|iQ (JF TZ hr<|iN 1) iU)))
def lz:FnScope nJ nQ (i8 nR):=uD rfl rfl rfl ∅
def vP(F:Fun K "_law_refused" "_law_refused" nR f fd)(hU:Bg K "UnderError" U)(mU:L2.mroIn K U=some Nb)(Tw:ExcK K U "NoWord" C_NoWord)(Tv:ExcK K U "NoPair" C_NoPair)(Um:mg "NoTables" = some (.ref C_NoTables))(Uo:mg "NoRow" = some (.ref C_NoRow))(Uq:mg "NoNumber" = some (.ref C_NoNumber))(Ur:mg "NoName" = some (.ref C_NoName))(Us:mg "TooMany" = some (.ref C_TooMany))(Ut:mg "NoWord" = some (.ref C_NoWord))(Uu:mg "NoText" = some (.ref C_NoText))(Uv:mg "NoPair" = some (.ref C_NoPair))(k_NoWord_NoTables:PySem.W.kitOne K (.ref C_NoWord) (.ref C_NoTables)=some false)(k_NoPair_NoTables:PySem.W.kitOne K (.ref C_NoPair) (.ref C_NoTables)=some false)(k_NoWord_NoRow:PySem.W.kitOne K (.ref C_NoWord) (.ref C_NoRow)=some false)(k_NoPair_NoRow:PySem.W.kitOne K (.ref C_NoPair) (.ref C_NoRow)=some false)(k_NoWord_NoNumber:PySem.W.kitOne K (.ref C_NoWord) (.ref C_NoNumber)=some false)(k_NoPair_NoNumber:PySem.W.kitOne K (.ref C_NoPair) (.ref C_NoNumber)=some false)(k_NoWord_NoName:PySem.W.kitOne K (.ref C_NoWord) (.ref C_NoName)=some false)(k_NoPair_NoName:PySem.W.kitOne K (.ref C_NoPair) (.ref C_NoName)=some false)(k_NoWord_TooMany:PySem.W.kitOne K (.ref C_NoWord) (.ref C_TooMany)=some false)(k_NoPair_TooMany:PySem.W.kitOne K (.ref C_NoPair) (.ref C_TooMany)=some false)(k_NoWord_NoWord:PySem.W.kitOne K (.ref C_NoWord) (.ref C_NoWord)=some true)(k_NoPair_NoWord:PySem.W.kitOne K (.ref C_NoPair) (.ref C_NoWord)=some false)(k_NoWord_NoText:PySem.W.kitOne K (.ref C_NoWord) (.ref C_NoText)=some false)(k_NoPair_NoText:PySem.W.kitOne K (.ref C_NoPair) (.ref C_NoText)=some false)(k_NoWord_NoPair:PySem.W.kitOne K (.ref C_NoWord) (.ref C_NoPair)=some false)(k_NoPair_NoPair:PySem.W.kitOne K (.ref C_NoPair) (.ref C_NoPair)=some true)(TF:mg "isinstance" = none)(Uw:mg "any" = none)(Ux:mg "ValueError" = none)(TN:JD P w K mg base 5 "kept_places" l7 jo):FnOk P w K mg base qF 6 f fd nQ (sH K 2 kC):=wQ (m:=nN) F lz λcdv B outer s H E hr=>
 iS (by(refine NB (i:=2) (cs:=["NoPair", "NoWord"]) ?hb ?hh lz.nd hU mU<|bg.mpr ⟨⟨_,Tv.n,Tv.r⟩,(bg.mpr ⟨⟨_,Tw.n,Tw.r⟩,(nofun)⟩)⟩;(case hb=>exact(λ_ _=>i7<|ng<|Oi TN hr (iN 0)<|iN 1));(case hh=>exact(λ_ _ _ _ xo=>iS (ji (i:=3) lz.nd<|lO<|iQ (pA Ur (tb:=[("NoPair",false),("NoWord",false)]) (bg.mpr ⟨⟨_,Tv.n,Tv.x,Tv.cl,k_NoPair_NoName⟩,(bg.mpr ⟨⟨_,Tw.n,Tw.x,Tw.cl,k_NoWord_NoName⟩,(nofun)⟩)⟩) (iN 2) TF)<|iQ (pA Uq (tb:=[("NoPair",false),("NoWord",false)]) (bg.mpr ⟨⟨_,Tv.n,Tv.x,Tv.cl,k_NoPair_NoNumber⟩,(bg.mpr ⟨⟨_,Tw.n,Tw.x,Tw.cl,k_NoWord_NoNumber⟩,(nofun)⟩)⟩) (iN 2) TF)<|iQ (pA Uo (tb:=[("NoPair",false),("NoWord",false)]) (bg.mpr ⟨⟨_,Tv.n,Tv.x,Tv.cl,k_NoPair_NoRow⟩,(bg.mpr ⟨⟨_,Tw.n,Tw.x,Tw.cl,k_NoWord_NoRow⟩,(nofun)⟩)⟩) (iN 2) TF)<|iQ (pA Um (tb:=[("NoPair",false),("NoWord",false)]) (bg.mpr ⟨⟨_,Tv.n,Tv.x,Tv.cl,k_NoPair_NoTables⟩,(bg.mpr ⟨⟨_,Tw.n,Tw.x,Tw.cl,k_NoWord_NoTables⟩,(nofun)⟩)⟩) (iN 2) TF) iU)
 (iS (ji (i:=3) lz.nd<|i_ jI (iN 3)<|lO<|iQ (pA Uu (tb:=[("NoPair",false),("NoWord",false)]) (bg.mpr ⟨⟨_,Tv.n,Tv.x,Tv.cl,k_NoPair_NoText⟩,(bg.mpr ⟨⟨_,Tw.n,Tw.x,Tw.cl,k_NoWord_NoText⟩,(nofun)⟩)⟩) (iN 2) TF)<|iQ (pA Ut (tb:=[("NoPair",false),("NoWord",true)]) (bg.mpr ⟨⟨_,Tv.n,Tv.x,Tv.cl,k_NoPair_NoWord⟩,(bg.mpr ⟨⟨_,Tw.n,Tw.x,Tw.cl,k_NoWord_NoWord⟩,(nofun)⟩)⟩) (iN 2) TF)<|iQ (pA Us (tb:=[("NoPair",false),("NoWord",false)]) (bg.mpr ⟨⟨_,Tv.n,Tv.x,Tv.cl,k_NoPair_TooMany⟩,(bg.mpr ⟨⟨_,Tw.n,Tw.x,Tw.cl,k_NoWord_TooMany⟩,(nofun)⟩)⟩) (iN 2) TF) iU)
 (i7<|jm<|tY (pA Uv (tb:=[("NoPair",true),("NoWord",false)]) (bg.mpr ⟨⟨_,Tv.n,Tv.x,Tv.cl,k_NoPair_NoPair⟩,(bg.mpr ⟨⟨_,Tw.n,Tw.x,Tw.cl,k_NoWord_NoPair⟩,(nofun)⟩)⟩) (iN 2) TF)<|tY (MB Ux (tb:=[("NoPair",true),("NoWord",true)]) (bg.mpr ⟨⟨_,Tv.n,Tv.x,Tv.cl,Tv.v⟩,(bg.mpr ⟨⟨_,Tw.n,Tw.x,Tw.cl,Tw.v⟩,(nofun)⟩)⟩) (iN 2) TF)<|v9<|Bw<|jc (M8 rfl jx xo) Uw Ot<|iQ (iN 3) iU))))))
 (i7<|jm wc)
def qm:FnScope rf rq (i8 qQ):=uD rfl rfl rfl ∅
def Aq(F:Fun K "_law_good" "_law_good" qQ f fd)(Uy:qZ P w K mg base 1 "_law_bar" sO mz)(TN:JD P w K mg base 5 "kept_places" l7 jo)(Uz:qZ P w K mg base 2 "_law_first" pN l9)(T6:qZ P w K mg base 2 "_law_right" pF kP):FnOk P w K mg base qF 6 f fd rq (sH K 2 lT):=wQ (m:=qP) F qm λcdv B outer s H E hr=>
 iS (lJ (jR Ks (wF Uy hr (iN 0)<|iN 1)<|yl)
 (i7<|jm<|tM RO (Oi TN hr (iN 0)<|iN 1)<|yl)
 jH)
 (iS (ji (i:=2) qm.nd<|JF Uz hr<|iN 1)
 (iS (ji (i:=3) qm.nd<|Oi TN hr (iN 0)<|iN 1)
 (iS (lJ (pB<|pY<|QW T6 hr (iN 3) (iN 0)<|iN 2)
 (i7<|jm wc)
 jH)
 (iS (ng<|xD dg dh pK (iN 3)<|iQ iW iU)
 (i7<|jm<|QW T6 hr (Oi TN hr (iN 0)<|iN 1) (iN 0)<|iN 2)))))
theorem tw:FnScope Gn LW (i8 GA):=uD rfl rfl rfl ∅
set_option smartUnfolding false in
theorem Om(F:Fun K "law" "law" GA f fd)(Tz:mg "range" = none)(TX:mg "max" = none)(TY:mg "min" = none)(Tu:mg "len" = none)(UA:qZ P w K mg base 1 "_law_bag" sQ ow)(TL:qZ P w K mg base 1 "_law_digit" j9 jf)(UB:qZ P w K mg base 4 "_law_pair" rj mH)(T7:qZ P w K mg base 6 "_law_good" rq lT)(UC:qZ P w K mg base 6 "_law_refused" nQ kC):FnOk P w K mg base qF 7 f fd LW (sH K 1 xx):=wQ (m:=IY) F tw λcdv B outer s H E hr=>
 iS (nW cR rfl (mE Tz<|jc (Gv rfl) TX HQ<|iQ iW<|iQ (jc (Jw rfl) TY F9<|iQ iW<|iQ (jc j5 Tu jG<|iQ (iN 0) iU) iU) iU) (jD (i:=1) tw.nd)
 (iS (ji (i:=2) tw.nd<|wF UA hr (iN 0)<|iN 1)
 (iS (ji (i:=3) tw.nd<|i_ jI iW<|wF TL hr (iN 2) iW)
 (iS (mJ (wF UB hr (iN 2)<|iN 3)<|pC rfl<|jB (jD (i:=4) tw.nd)<|jB (jD (i:=5) tw.nd) m8)
 (iS (lJ (AW.at<|HH (pB<|pY<|wF T7 hr (iN 4)<|iN 5)<|AR<|pB<|pY<|wF T7 hr (iN 5)<|iN 4)
 (i7<|jm wc)
 jH)
 (i7 (lJ (AW.at<|Jj (jR (Es hr.units) (iN 3) iW)<|Dy<|pB<|pY<|wF UC hr (iN 4)<|i_ jI (iN 5)<|l_<|iQ (i_ jI (iN 3) iW) iU)
 (i7<|jm wc)
 jH)))))))
 (i7<|jm wc)
end
end K15
namespace K15
open PySem L2 Am
abbrev tu (S:iX)(b:Nat):Prop:=∃g st:Int,iR S b=some [.int g,.int st]/\0<=g/\0<=st/\st<4294967296
def tu.kp{c:Nat->Prop}(h:tu S b)(k:Kp c S S')(hb:¬c b):tu S' b:=by
 obtain⟨g,st,e,q⟩:=h;exact⟨g,st,k.lst b _ hb e,q⟩
def K3{S:iX}{ns:ag}{k:Int}(h0:0<=k)(h1:k<=100):∃S',ow [.frz<|ns.map .int,.int k] S=.ok (.ref S.length) S'/\tu S' S.length/\o9 S S':=by
 have e3:JO (.int 10) (.int 18)=λS=>R.ok (.int 1000000000000000000) S:=by
  funext S;exact j4 ⟨by decide,by decide,by decide⟩
 have go:∀cell:Int,0<=cell->∃S',((RS.seq (.nx [A.frz<|ns.map .int,.int k,.int cell,.unb] S) (jj (ju (iZ jJ (eC<|.int 1)<|iZ uC (iZ jJ (iZ jJ (iZ jJ (iZ uC (iO 2)<|eC<|.int 2147483647)<|iZ nV (iZ nV (eC<|.int 7919)<|iO 1)<|iO 1)<|iZ nV (eC<|.int 17)<|iO 1)<|eC<|.int 3)<|eC<|.int 2147483646)<|jV 3)
   (jO<|qq<|iP (iZ nV (iO 2)<|je (f1 vH)<|iP (iZ OS (iO 2)<|iZ JO (eC<|.int 10)<|eC<|.int 18)<|iY)<|iP (iO 3)<|iY))).end=.ok (.ref S.length) S')/\tu S' S.length/\o9 S S':=by
  intro cell hc;have m1:uC (.int cell) (.int 2147483647)=λS=>R.ok (.int<|cell % 2147483647) S:=by funext S;exact xr ⋯
  have m2:∀x:Int,uC (.int x) (.int 2147483646)=λS=>R.ok (.int<|x % 2147483646) S:=λx=>by funext S;exact xr ⋯
  have m3:∀x:Int,nV (.int 7919) (.int x)=λS=>R.ok (.int<|7919 * x) S:=λx=>by funext S;exact DB ⋯ ⋯
  have m4:nV (.int<|7919 * k) (.int k)=λS=>R.ok (.int<|7919 * k * k) S:=by funext S;exact mul_r () ()
  have m5:∀x:Int,nV (.int 17) (.int x)=λS=>R.ok (.int<|17 * x) S:=λx=>by funext S;exact DB ⋯ ⋯
  have m6:∀b:Bool,nV (.int cell) (.int<|if b=true then 1 else 0)=λS=>R.ok (.int<|cell * (if b=true then 1 else 0)) S:=λb=>by
   funext S
   refine mul_r ?_ ?_<;>cases b<;>decide
  have s0:0<=1+(cell % 2147483647+7919 * k * k+17 * k+3) % 2147483646:=by
   have:=gG (cell % 2147483647+7919 * k * k+17 * k+3) (show(2147483646:Int)≠0 by decide)
   lia
  have s1:1+(cell % 2147483647+7919 * k * k+17 * k+3) % 2147483646<4294967296:=by
   have:=fJ (cell % 2147483647+7919 * k * k+17 * k+3) (show(0:Int)<2147483646 by decide)
   lia
  refine⟨S++[.lst [.int<|cell * (if decide (1000000000000000000<=cell)=true then 1 else 0),.int<|1+(cell % 2147483647+7919 * k * k+17 * k+3) % 2147483646]],?_,⟨_,_,jh,?_,s0,s1⟩,Kp.refl.lay⟩
  ·dsimp[jq,bools,m1,m2,m3,m4,m5,e3,m6]
  ·refine Int.mul_nonneg hc ?_;split<;>decide
 have hA:∀x:Int,0<=(if x<0 then -x else x):=by intro x;split<;>lia
 unfold ow sS t_;dsimp[jq,bools,lR,Nat.reduceAdd,Nat.reduceSub,aK];by_cases hk:k<(ns.length:Int)
 ·have hn:k.toNat<ns.length:=()
  have ha:lK (ns.map A.int) k=some (.int ns[k.toNat]):=kg (k:=k.toNat) ()<|aG hn;rw[bH hk];dsimp[jq,bools,ha];exact go _<|hA _
 ·rw[bL hk];dsimp[jq,bools];exact go 0<|dY 0
def digit{m:Int}(h:tu S b)(h1:1<=m)(h2:m<1073741824):∃d S',jf [.ref b,.int m] S=.ok (.int d) S'/\0<=d/\d<m/\tu S' b/\Kp (·=b) S S':=by
 obtain⟨g,st,hl,hg,hs,hs2⟩:=h;have hb:=jN hl;have i0:rC 2 0=some 0:=kM rfl ⋯;have i1:rC 2 1=some 1:=kM rfl ⋯;have fin:∀d g' st':Int,0<=d->d<m->0<=g'->0<=st'->st'<4294967296->jf [.ref b,.int m] S=.ok (.int d) (S.set b<|.lst [.int g',.int st'])->∃d S',jf [.ref b,.int m] S=.ok (.int d) S'/\0<=d/\d<m/\tu S' b/\Kp (·=b) S S':=
  λd g' st' a1 a2 a3 a4 a5 e=>⟨d,_,e,a1,a2,⟨g',st',jA hb,a3,a4,a5⟩,Kp.refl.set<|.inl rfl⟩
 by_cases hg0:0<g
 ·refine fin (g % m) (g / m) st (gG _ ()) (fJ _ ()) (Int.ediv_nonneg hg ()) hs hs2 ?_;unfold jf m9 m_;rw[uX];simp[hl,xT,Gu,hg0,xr<|show 0<m by lia,BU (show 0<m by lia) h2,i0]
 ·have:g=0:=()
  subst this;have e1:0<=st * 48271 % 2147483647:=gG _ ⋯;have e2:st * 48271 % 2147483647<2147483647:=fJ _ ⋯;refine fin ((st * 48271 % 2147483647) * ((st * 48271 % 2147483647) / 65536+9) % 2147483629 / 32 % m) 0 (st * 48271 % 2147483647) (gG _ ()) (fJ _ ()) ⋯ e1 () ?_;unfold jf m9 m_;rw[uX];simp[hl,xT,Gu,xr<|show 0<m by lia,i0,i1,DB (show -18446744073709551616<st by lia) (),xr<|show(0:Int)<2147483647 by decide,jA hb,BU (show(0:Int)<65536 by decide) ⋯,DB (show -18446744073709551616<st * 48271 % 2147483647 by lia) (),xr<|show(0:Int)<2147483629 by decide,BU (show(0:Int)<32 by decide) ⋯]
theorem wj:∀(l:ag) (j:Nat) (h:j<l.length),(l[j]::l.eraseIdx j).Perm l
 | x::l,0,_=>fZ _
 | x::l,j+1,h=>(List.Perm.swap x _ _).trans<|List.Perm.cons x<|wj l j<|f6 h
def EO{ls fs:ag}{j:Nat}(h:j<ls.length):((fs++[ls[j]])++ls.eraseIdx j).Perm (fs++ls):=by
 rw[bS];refine List.Perm.append_left fs ?_
 skip
 exact wj ls j h
def Nk{n:Int}(h:tu S b)(h1:1<=n)(h2:n<=20):∃(xs:ag) (S':iX),n5 [.ref b,.int n] S=.ok (.tup<|xs.map .int) S'/\xs.Perm (i9 1<|n+1)/\tu S' b/\Kp (·=b) S S':=by
 have hbS:b<S.length:=by obtain⟨_,_,e,_⟩:=h;exact jN e
 unfold n5 tK t7;dsimp[jq,bools,lR,Nat.reduceAdd,Nat.reduceSub,sY<|rL (show(-1000000:Int)<=1 by decide) ⋯ (show -1000000<=n+1 by lia) () (),aY];have key:=rJ (t:=p5) (c:=pQ)
  (λτ S1=>∃(L:Nat) (x4:A) (ls fs:ag),τ=[.ref b,.int n,.ref L,.ref<|S.length+1,x4]/\iR S1 L=some (ls.map .int)/\iR S1 (S.length+1)=some (fs.map .int)/\L≠S.length+1/\S.length<=L/\(fs++ls).Perm (i9 1<|n+1)/\tu S1 b/\Kp (·=b) S S1)
  (λτ S1=>match τ with
   | [_,_,.ref L,_,_]=>((iR S1 L).getD []).length
   | _=>0)
  (λr=>∃(xs:ag) (S':iX),RS.end (RS.seq r<|jO<|je (f1 lY)<|iP (iO 3) iY)=.ok (.tup<|xs.map .int) S'/\xs.Perm (i9 1<|n+1)/\tu S' b/\Kp (·=b) S S') ?_ 1000000
 ·refine key _ _ ⟨S.length,.unb,i9 1<|n+1,[],rfl,?_,?_,(),aN _,fZ _,h.kp (c:=λ_=>False) (Kp.refl.lay.lay) λz=>z,Kp.refl.lay.lay⟩ ?_
  ·exact jL jh
  ·have:iR (S++[.lst<|(i9 1<|n+1).map .int]++[.lst []]) (S++[O.lst<|(i9 1<|n+1).map .int]).length=some []:=jh;simpa using this
  ·show((iR _ S.length).getD []).length<_;rw[jL jh,c8,aK,jw]
   lia
 ·rintro τ S1 ⟨L,x4,ls,fs,rfl,hL,hF,hne,hLS,hp,hb,hk⟩;have hlen:ls.length<=20:=by
   have:=hp.length_eq;rw[aY,jw]at this
   lia
  unfold p5 pQ;dsimp[jq,bools,hL,aK];by_cases h0:ls=[]
  ·subst h0;left;refine⟨S1,rfl,fs,S1,?_,by simpa using hp,hb,hk⟩;dsimp[jq,bools,hF]
  ·right;have hpos:0<ls.length:=List.length_pos_iff.mpr h0;refine⟨S1,by rw[bH ()],.inl ?_⟩;obtain⟨d,S2,e2,d0,d1,hb2,hk2⟩:=digit (m:=(ls.length:Int)) hb () ();have nLb:¬L=b:=()
   have hL2:=hk2.lst L _ nLb hL;have hF2:=hk2.lst (S.length+1) _ () hF;have hd:d.toNat<ls.length:=()
   have ha:lK (ls.map A.int) d=some (.int ls[d.toNat]):=kg (k:=d.toNat) ()<|aG hd;have lF:=jN hF2;have lL:=jN hL2;have hfl:fs.length<=20:=by
    have:=hp.length_eq;rw[aY,jw]at this
    lia
   have hl3:iR (S2.set (S.length+1)<|.lst<|fs.map .int++[.int ls[d.toNat]]) L=some (ls.map .int):=by rw[jy<|cG hne];exact hL2
   have hc1:uF (ls.map A.int) none (some d)=(ls.take d.toNat).map .int:=by
    have:=EI (ls.map A.int) d.toNat (by rw[aK];exact hd);rw[show((d.toNat:Nat):Int)=d by lia]at this;rw[this,map_take]
   have hc2:uF (ls.map A.int) (some<|d+1) none=(ls.drop<|d.toNat+1).map .int:=by
    have:=EZ (ls.map A.int) d.toNat (by rw[aK];exact hd);rw[show((d.toNat:Nat):Int)=d by lia]at this;rw[this,map_drop]
   dsimp[jq,bools,hL,aK,e2,hF2,hL2,ha,zK<|show(fs.length)<16777216 by lia,hl3,hc1,hc2];have g1:iR (S2.set (S.length+1) (.lst<|fs.map .int++[.int ls[d.toNat]])++[.lst<|(ls.take d.toNat).map .int]) L=some (ls.map .int):=jL hl3;dsimp[jq,bools,g1,hc2];have hcat:=Qy (S:=S2.set (S.length+1) (.lst<|fs.map .int++[.int ls[d.toNat]])++[.lst<|(ls.take d.toNat).map .int]++[.lst<|(ls.drop<|d.toNat+1).map .int]) (jL jh) jh (by rw[aK,aK,bJ,cC];lia);rw[hcat];dsimp[jq,bools];have hfin:(ls.take d.toNat).map A.int++(ls.drop<|d.toNat+1).map A.int=(ls.eraseIdx d.toNat).map .int:=by rw[<- cM,<- List.eraseIdx_eq_take_drop_succ]
   rw[hfin];have hlen5:(S2.set (S.length+1) (.lst<|fs.map .int++[.int ls[d.toNat]])++[O.lst<|(ls.take d.toNat).map .int]++[O.lst<|(ls.drop<|d.toNat+1).map .int]).length=S2.length+2:=by simp
   have k3:Kp (·=b) S (S2.set (S.length+1)<|.lst<|fs.map .int++[.int ls[d.toNat]]):=(hk.trans hk2).set<|.inr ();have b3:tu (S2.set (S.length+1)<|.lst<|fs.map .int++[.int ls[d.toNat]]) b:=by
    obtain⟨g,st,e,q⟩:=hb2;exact⟨g,st,by rw[jy ()];exact e,q⟩
   refine⟨_,_,rfl,⟨_,_,ls.eraseIdx d.toNat,fs++[ls[d.toNat]],rfl,jh,?_,?_,?_,?_,b3.kp (c:=λ_=>False) Kp.refl.lay.lay.lay λz=>z,k3.lay.lay.lay⟩,?_⟩
   ·rw[cM];exact jL (jL<|jL<|jA ())
   ·rw[hlen5];lia
   ·rw[hlen5];lia
   ·exact(EO hd).trans hp
   ·dsimp[jh,c8,aK,eY hd]
    lia
def Az{xs:ag}{i j:Nat}{x y:Int}(hi:xs[i]?=some x)(hj:xs[j]?=some y):((xs.set i y).set j x).Perm xs:=by
 obtain⟨li,ei⟩:=aI.mp hi;obtain⟨lj,ej⟩:=aI.mp hj;subst ei ej;exact List.set_set_perm li lj
def zE{n:Int}(h:tu S b)(h1:1<=n)(h2:n<=20):∃(xs:ag) (S':iX),kO [.ref b,.int n] S=.ok (.tup<|xs.map .int) S'/\xs.Perm (i9 1<|n+1)/\tu S' b/\Kp (·=b) S S':=by
 unfold kO p7 qk;obtain⟨d,S1,e1,d0,d1,hb1,hk1⟩:=digit (m:=4) h ⋯ ⋯;dsimp[jq,bools,lR,Nat.reduceAdd,Nat.reduceSub,e1];by_cases hw:1<d
 ·obtain⟨xs,S2,e2,hp,hb2,hk2⟩:=Nk hb1 h1 h2;rw[bH hw];dsimp[jq,bools,e2];exact⟨xs,S2,rfl,hp,hb2,hk1.trans hk2⟩
 ·rw[bL hw];have hbS:b<S.length:=by obtain⟨_,_,e,_⟩:=h;exact jN e
  have hl1:=hk1.len;dsimp[jq,bools,sY<|rL (show(-1000000:Int)<=1 by decide) ⋯ (show -1000000<=n+1 by lia) () ()];have go:∀(L:Nat) (fs:ag) (S2:iX),iR S2 L=some (fs.map .int)->fs.Perm (i9 1<|n+1)->tu S2 b->Kp (·=b) S S2->S.length<=L ->
    ∃(xs:ag) (S':iX),RS.end (RS.seq (mV qH (jV 4) nu [.ref b,.int n,.int d,.ref L,.unb,.unb,.unb] S2)<|jO<|je (f1 lY)<|iP (iO 3)<|iY)=.ok (.tup<|xs.map .int) S'/\xs.Perm (i9 1<|n+1)/\tu S' b/\Kp (·=b) S S':=by
   intro L fs S2 hL hp hb2 hk2 hLS;obtain⟨m,S3,e3,m0,m1,hb3,hk3⟩:=digit (m:=7) hb2 ⋯ ⋯;refine oG (lo:=0) (hi:=m) (S1:=S3) ?_ (λ_ τ S4=>∃(x4 x5 x6:A) (fs:ag),τ=[.ref b,.int n,.int d,.ref L,x4,x5,x6]/\iR S4 L=some (fs.map .int)/\fs.Perm (i9 1<|n+1)/\tu S4 b/\Kp (·=b) S S4) (λr=>∃(xs:ag) (S':iX),RS.end (RS.seq r _)=.ok (.tup<|xs.map .int) S'/\xs.Perm (i9 1<|n+1)/\tu S' b/\Kp (·=b) S S') ⟨_,_,_,fs,rfl,hk3.lst L _ () hL,hp,hb3,hk2.trans hk3⟩ ?_ ?_
   ·refine nZ ?_<|kW () ();dsimp[jq,bools,e3]
   ·rintro i τ S4 hi ⟨x4,x5,x6,fs,rfl,hL4,hp4,hb4,hk4⟩;left;obtain⟨p,S5,e5,p0,p1,hb5,hk5⟩:=digit (m:=n) hb4 h1 ();obtain⟨q,S6,e6,q0,q1,hb6,hk6⟩:=digit (m:=n) hb5 h1 ();have hL6:=hk6.lst L _ ()<|hk5.lst L _ () hL4;have hlen:(fs.length:Int)=n:=by rw[hp4.length_eq,jw];lia
    have hp':p.toNat<fs.length:=()
    have hq':q.toNat<fs.length:=()
    have ap:lK (fs.map A.int) p=some (.int fs[p.toNat]):=kg (k:=p.toNat) ()<|aG hp';have aq:lK (fs.map A.int) q=some (.int fs[q.toNat]):=kg (k:=q.toNat) ()<|aG hq';have ip:rC fs.length p=some p.toNat:=kM () hp';have iq:rC fs.length q=some q.toNat:=kM () hq';have lL6:=jN hL6;unfold nu;dsimp[jq,bools,e5,e6,hL6,ap,aq,mS<|show([_,_]:ae).length<=16777216 by simp,j4<|show([_,_]:ae).length=2 from rfl,aK,ip,iq,jA lL6,bw];refine⟨_,_,rfl,_,_,_,(fs.set p.toNat fs[q.toNat]).set q.toNat fs[p.toNat],rfl,?_,?_,?_,?_⟩
    ·rw[jA<|by rw[bw];exact lL6,cQ,cQ]
    ·exact(Az (aG hp')<|aG hq').trans hp4
    ·obtain⟨g,st,e,z⟩:=hb6;exact⟨g,st,by rw[jy (),jy ()];exact e,z⟩
    ·exact((((hk4.trans hk5).trans hk6).set<|.inr hLS).set<|.inr hLS)
   ·rintro τ S4 ⟨x4,x5,x6,fs,rfl,hL4,hp4,hb4,hk4⟩;refine⟨fs,S4,?_,hp4,hb4,hk4⟩;dsimp[jq,bools,hL4]
  have b2:tu (S1++[O.lst<|(i9 1<|n+1).map .int]) b:=hb1.kp (c:=λ_=>False) Kp.refl.lay λz=>z;by_cases h1':d=1
  ·subst h1';dsimp[jq,bools,bz];exact go _ (i9 1<|n+1).reverse _ (by rw[List.map_reverse];exact jh) (List.reverse_perm _) (b2.kp (c:=λ_=>False) Kp.refl.lay λz=>z) hk1.lay.lay (by simp;lia)
  ·rw[show(d == 1)=false by simpa using h1'];dsimp[jq,bools];exact go _ (i9 1<|n+1) _ jh (fZ _) b2 hk1.lay hl1
def jS{xs:ag}{n:Nat}(px:xs.Perm<|i9 1<|(n:Int)+1):xs.length=n:=by have:=vq px ();lia
def AY{xs:ag}{n:Int}(px:xs.Perm<|i9 1<|n+1):xs.Nodup:=px.nodup_iff.mpr<|oF _ _
def uM{xs:ag}{n:Nat}(px:xs.Perm<|i9 1<|(n:Int)+1)(h2:n<=1000):∃(ys:ag) (S':iX),qX [.tup<|xs.map .int] S=.ok (.tup<|ys.map .int) S'/\Bl.k9 xs ys/\ys.Perm (i9 1<|(n:Int)+1)/\o9 S S':=by
 have lx:=jS px;unfold qX BH BZ;dsimp[jq,bools,lR,Nat.reduceAdd,Nat.reduceSub,aK,lx];rw[IZ (k:=n) jh ()];dsimp[jq,bools];have hlen:(S++[O.lst [.int 0]]).length=S.length+1:=by simp
 rw[hlen];refine Nm (xs:=xs.map .int) (S1:=S++[O.lst [.int 0]]++[O.lst<|List.replicate n<|.int 0]) (MI<|by dsimp[jq,bools])
  (λt τ S'=>∃(a2 a3:A) (ps:ag),τ=[.tup<|xs.map .int,.ref<|S.length+1,a2,a3]/\iR S' (S.length+1)=some (ps.map .int)/\ps.length=n/\(∀(p:Nat) (h:p<xs.length),p<t->ps[(xs[p]-1).toNat]?=some ((p:Int)+1))/\o9 S S')
  (λr=>∃(ys:ag) (S':iX),RS.end (RS.seq r _)=.ok (.tup<|ys.map .int) S'/\Bl.k9 xs ys/\ys.Perm (i9 1<|(n:Int)+1)/\o9 S S') ⟨.unb,.unb,List.replicate n 0,rfl,?_,by simp,λ_ _ h=>absurd h<|fC _,Kp.refl.lay.lay⟩ ?_ ?_
 ·rw[gZ,<- hlen];exact jh
 ·rintro t x τ S' hx ⟨a2,a3,ps,rfl,hL,hl,hps,hk⟩;rw[a_]at hx;obtain⟨v,hv,rfl⟩:=bu.mp hx;obtain⟨ht,ev⟩:=aI.mp hv;have mv:=y9 px<|bf hv;refine⟨_,_,by dsimp[jq,bools,j4<|show([_,_]:ae).length=2 from rfl];rfl,.inl ?_⟩;have hi:rC ps.length (v-1)=some (v-1).toNat:=kM () ();have lL:=jN hL;unfold zR;dsimp[jq,bools,hL,aK,hi];refine⟨_,_,rfl,_,_,ps.set (v-1).toNat<|(t:Int)+1,rfl,?_,by rw[bw];exact hl,λp hp hpt=>?_,hk.set<|.inr ()⟩
  ·rw[jA lL,cQ]
  ·by_cases e:p=t
   ·subst e;rw[ev,bQ ()]
   ·have ne:(xs[p]-1).toNat≠(v-1).toNat:=λz=>by
     have mp:=y9 px<|cD hp;have:xs[p]=xs[t]:=by rw[ev];lia
     exact e<|(d_<|AY px).mp this
    rw[bR<|cG ne];exact hps p hp ()
 ·rintro τ S' ⟨a2,a3,ps,rfl,hL,hl,hps,hk⟩;rw[aK]at hps;refine⟨ps,S',by dsimp[jq,bools,hL],⟨(),λp h=>hps p h h⟩,?_,hk⟩;refine(uf (oF _ _) (λv hv=>?_)<|by rw[jw];lia).symm;have:=jF.mp hv;have hp:(v-1).toNat<xs.length:=()
  have:=bf (hps (v-1).toNat hp hp)
  rwa [show(((v-1).toNat:Nat):Int)+1=v by lia]at this
def E5{xs:ag}{n:Nat}{most:Int}(h:tu S b)(px:xs.Perm<|i9 1<|(n:Int)+1)(h1:1<=n)(h2:n<=20)(m0:0<=most)(m1:most<=1000):∃(ys:ag) (S':iX),lC [.ref b,.tup<|xs.map .int,.int most] S=.ok (.tup<|ys.map .int) S'/\ys.Perm (i9 1<|(n:Int)+1)/\Bl.Below xs ys/\tu S' b/\Kp (·=b) S S':=by
 have hbS:b<S.length:=by obtain⟨_,_,e,_⟩:=h;exact jN e
 unfold lC oz oE;dsimp[jq,bools,lR,Nat.reduceAdd,Nat.reduceSub];obtain⟨m,S3,e3,d0,d1,hb3,hk3⟩:=digit (S:=S++[.lst<|xs.map .int]) (m:=most+1) (h.kp (c:=λ_=>False) Kp.refl.lay λz=>z) () ();have hL3:=hk3.lst S.length _ () jh;refine oG (lo:=0) (hi:=m) (S1:=S3) (nZ (by dsimp[jq,bools,e3])<|kW () ())
  (λ_ τ S4=>∃(x4 x5 x6:A) (fs:ag),τ=[.ref b,.tup<|xs.map .int,.int most,.ref S.length,x4,x5,x6]/\iR S4 S.length=some (fs.map .int)/\fs.Perm (i9 1<|(n:Int)+1)/\Bl.Below xs fs/\tu S4 b/\Kp (·=b) S S4)
  (λr=>∃(ys:ag) (S':iX),RS.end (RS.seq r _)=.ok (.tup<|ys.map .int) S'/\ys.Perm (i9 1<|(n:Int)+1)/\Bl.Below xs ys/\tu S' b/\Kp (·=b) S S') ⟨_,_,_,xs,rfl,hL3,px,Bl.Below.refl _,hb3,Kp.refl.lay.trans hk3⟩ ?_ ?_
 ·rintro i τ S4 hi ⟨x4,x5,x6,fs,rfl,hL4,hp4,bl4,hb4,hk4⟩;left;have hlen:fs.length=n:=jS hp4;obtain⟨p,S5,e5,p0,p1,hb5,hk5⟩:=digit (m:=(fs.length:Int)) hb4 () ();obtain⟨q,S6,e6,q0,q1,hb6,hk6⟩:=digit (m:=(fs.length:Int)) hb5 () ();have hL5:=hk5.lst S.length _ () hL4;have hL6:=hk6.lst S.length _ () hL5;have lL6:=jN hL6;unfold qd;dsimp[jq,bools,hL4,aK,e5,hL5,e6];have go:∀p q:Int,0<=p->p<=q->q<fs.length->∃τ' S',(wN (rB<|iZ EH (iZ lX (iO 3)<|iO 5)<|iZ lX (iO 3)<|iO 6)
 (ju (qB<|iP (iZ lX (iO 3)<|iO 6)<|iP (iZ lX (iO 3)<|iO 5)<|iY)<|Hj 2<|xg (yg (iO 3)<|iO 5)<|xg (yg (iO 3)<|iO 6)<|Je)
 (nG)) [.ref b,.tup<|xs.map .int,.int most,.ref S.length,.int<|0+(i:Int),.int p,.int q] S6=.nx τ' S'/\∃(x4 x5 x6:A) (fs:ag),τ'=[.ref b,.tup<|xs.map .int,.int most,.ref S.length,x4,x5,x6]/\iR S' S.length=some (fs.map .int)/\fs.Perm (i9 1<|(n:Int)+1)/\Bl.Below xs fs/\tu S' b/\Kp (·=b) S S':=by
   intro p q p0 pq q1;have hp':p.toNat<fs.length:=()
   have hq':q.toNat<fs.length:=()
   have ap:lK (fs.map A.int) p=some (.int fs[p.toNat]):=kg (k:=p.toNat) ()<|aG hp';have aq:lK (fs.map A.int) q=some (.int fs[q.toNat]):=kg (k:=q.toNat) ()<|aG hq';have ip:rC fs.length p=some p.toNat:=kM () hp';have iq:rC fs.length q=some q.toNat:=kM () hq';dsimp[jq,bools,hL6,ap,aq];by_cases hlt:fs[p.toNat]<fs[q.toNat]
   ·rw[bH hlt];dsimp[jq,bools,hL6,ap,aq,mS<|show([_,_]:ae).length<=16777216 by simp,j4<|show([_,_]:ae).length=2 from rfl,aK,ip,iq,jA lL6,bw];have hne:p.toNat<q.toNat:=by
     rcases lt_or_ge p.toNat q.toNat with z|z
     ·exact z
     ·have e:p.toNat=q.toNat:=()
      dsimp[e]at hlt
      lia
    refine⟨_,_,rfl,_,_,_,(fs.set p.toNat fs[q.toNat]).set q.toNat fs[p.toNat],rfl,?_,?_,?_,?_,?_⟩
    ·rw[jA<|by rw[bw];exact lL6,cQ,cQ]
    ·exact(Az (aG hp')<|aG hq').trans hp4
    ·exact bl4.trans (Bl.qu hp' hq' hne hlt)
    ·obtain⟨g,st,e,z⟩:=hb6;exact⟨g,st,by rw[jy (),jy ()];exact e,z⟩
    ·exact((((hk4.trans hk5).trans hk6).set<|.inr<|aN _).set<|.inr<|aN _)
   ·rw[bL hlt];dsimp[jq,bools];exact⟨_,_,rfl,_,_,_,fs,rfl,hL6,hp4,bl4,hb6,(hk4.trans hk5).trans hk6⟩
  have:=go (if q<p then q else p) (if q>p then q else p) (by split<;>lia) (by split<;>split<;>lia) (by split<;>lia);simpa only [jq,bools]using this
 ·rintro τ S4 ⟨x4,x5,x6,fs,rfl,hL4,hp4,bl4,hb4,hk4⟩;exact⟨fs,S4,by dsimp[jq,bools,hL4],hp4,bl4,hb4,hk4⟩
open Bl
def yX{xs ys:ag}(h:xs.length=ys.length):j8 [.tup<|xs.map .int,.tup<|ys.map .int] S=.ok .non S:=by
 unfold j8 mY mW;dsimp[jq,bools,lR,Nat.reduceAdd,Nat.reduceSub,aK,h,bz,d8]
abbrev Mi (xs ys:ag)(i j:Nat):Prop:=cnt (ys.take i) j<cnt (xs.take i) j/\(∀i' j':Nat,i'<i->1<=j'->j'<=xs.length->cnt (xs.take i') j'<=cnt (ys.take i') j')/\∀j':Nat,1<=j'->j'<j->cnt (xs.take i) j'<=cnt (ys.take i) j'
def Kq{xs ys:ag}(h:xs.length≠ys.length)(h1:xs.length<=1000)(h2:ys.length<=1000):j8 [.tup<|xs.map .int,.tup<|ys.map .int] S=.ex "NoPair" S:=by
 unfold j8 mY mW;have e:((xs.length:Int) == (ys.length:Int))=false:=by
  rw[beq_eq_false_iff_ne];lia
 dsimp[jq,CD,bools,lR,Nat.reduceAdd,Nat.reduceSub,aK,e,gT,LC<|show xs.length<18446744073709551616 by lia,LC<|show ys.length<18446744073709551616 by lia]
def Ob{S:iX}{n:Nat}{xs ys:ae}(h1:iR S n=some xs)(h2:iR S m=some ys)(h3:xs.length+ys.length<=16777216):jJ (.ref n) (.ref m) S=.ok (.ref S.length) (S++[.lst<|xs++ys]):=by
 show opt (iR S n) _=_;rw[h1];show opt (iR S m) _=_;rw[h2];exact Ek h3
def MW{n:Nat}{bs:List Bool}(h:iR S n=some xs)(hb:A.Ey xs=some bs):Nn (.ref n) S=.ok (.bl<|bs.any λb=>b) S:=by
 show opt (iR S n) _=_;rw[h];show opt (A.Ey xs) _=_;rw[hb];rfl
open Bl
abbrev k8 (n:Nat)(xs:ag)(i j:Nat):ag:=(List.range<|n+2).map λq:Nat=>if 1<=q/\q<=n then(if q<j then cnt (xs.take<|i+1) q else cnt (xs.take i) q)else 0
def oh{n:Nat}:(k8 n xs i j).length=n+2:=by unfold k8;rw[aK,bW]
def mL{n:Nat}{xs:ag}{q:Nat}(h:q<n+2):(k8 n xs i j)[q]?=some (if 1<=q/\q<=n then(if q<j then cnt (xs.take<|i+1) q else cnt (xs.take i) q)else 0):=by
 unfold k8;rw[a_,dH h];rfl
def vC{n:Nat}{l:ag}{xs:ag}(hl:l.length=n+2)(h:∀q,q<n+2->l[q]?=some (if 1<=q/\q<=n then(if q<j then cnt (xs.take<|i+1) q else cnt (xs.take i) q)else 0)):l=k8 n xs i j:=by
 apply cH;intro q;by_cases hq:q<n+2
 ·rw[h q hq,mL hq]
 ·rw[bG (),bG<|by rw[oh];lia]
def Hx{n:Nat}:List.replicate (n+2) (0:Int)=k8 n xs 0 1:=vC (by rw[f_]) λq hq=>by
 rw[ee,aM hq];congr 1;split
 ·rw[aL ()];rfl
 ·rfl
def ED{n:Nat}:k8 n xs i (n+1)=k8 n xs (i+1) 1:=vC oh λq hq=>by
 rw[mL hq];congr 1;by_cases c:1<=q/\q<=n
 ·rw[aM c,aM c,aM (),aL ()]
 ·rw[aL c,aL c]
def zQ{n:Nat}{xs:ag}(h1:1<=j)(h2:j<=n):(k8 n xs i j).set j (cnt (xs.take<|i+1) j)=k8 n xs i (j+1):=vC (by rw[bw,oh]) λq hq=>by
 by_cases c:q=j
 ·subst c;rw[bQ<|by rw[oh];lia,aM ⟨h1,h2⟩,aM ()]
 ·rw[bR<|cG c,mL hq];congr 1;by_cases d:1<=q/\q<=n
  ·rw[aM d,aM d];by_cases e:q<j
   ·rw[aM e,aM ()]
   ·rw[aL e,aL ()]
  ·rw[aL d,aL d]
def J0{xs ys:ag}{n:Nat}(px:xs.Perm<|i9 1<|(n:Int)+1)(py:ys.Perm<|i9 1<|(n:Int)+1)(h1:1<=n)(h2:n<=20):∃S',((mz [.tup<|xs.map .int,.tup<|ys.map .int] S=.ok .non S'/\Below xs ys) \/
  ∃i j:Nat,mz [.tup<|xs.map .int,.tup<|ys.map .int] S=.ok (.tup [.int i,.int j]) S'/\1<=i/\i<=n/\1<=j/\j<=n/\Mi xs ys i j)/\o9 S S':=by
 have lx:xs.length=n:=by have:=vq px ();lia
 have ly:ys.length=n:=by have:=vq py ();lia
 obtain⟨Z,hZ⟩:∃Z:ae,Z=List.replicate (n+2) (.int 0):=⟨_,rfl⟩;have r1:=IZ (S:=S++[O.lst [.int 0]]) (n:=S.length) (x:=.int 0) (k:=n+2) jh ();rw[<- hZ]at r1;have l1:(S++[O.lst [A.int 0]]).length=S.length+1:=by simp
 have l2:(S++[O.lst [A.int 0]]++[O.lst Z]).length=S.length+2:=by simp
 have r2:=IZ (S:=S++[O.lst [A.int 0]]++[O.lst Z]++[O.lst [.int 0]]) (n:=S.length+2) (x:=.int 0) (k:=n+2) (by rw[<- l2];exact jh) ();rw[<- hZ]at r2;have l3:(S++[O.lst [A.int 0]]++[O.lst Z]++[O.lst [A.int 0]]).length=S.length+3:=by simp
 rw[show((n+2:Nat):Int)=(n:Int)+2 by lia]at r1 r2;unfold mz s_ sW;dsimp[jq,bools,lR,Nat.reduceAdd,Nat.reduceSub,aK,lx,r1,l1,l2,r2,l3];refine oG (lo:=0) (hi:=(n:Int)) (S1:=S++[O.lst [A.int 0]]++[O.lst Z]++[O.lst [.int 0]]++[O.lst Z]) (show uw _ _=_ from nZ (by dsimp[jq,bools])<|kW () ())
  (λi τ S'=>∃a5 a6,τ=[.tup<|xs.map .int,.tup<|ys.map .int,.int n,.ref<|S.length+1,.ref<|S.length+3,a5,a6]/\iR S' (S.length+1)=some ((k8 n xs i 1).map .int)/\iR S' (S.length+3)=some ((k8 n ys i 1).map .int)/\o9 S S'/\∀i' j':Nat,i'<=i->1<=j'->j'<=n->cnt (xs.take i') j'<=cnt (ys.take i') j')
  (λr=>∃S',((RS.end (RS.seq r _)=.ok .non S'/\Below xs ys)\/∃i j:Nat,RS.end (RS.seq r _)=.ok (.tup [.int i,.int j]) S'/\1<=i/\i<=n/\1<=j/\j<=n/\Mi xs ys i j)/\o9 S S')
  ⟨_,_,rfl,?_,?_,Kp.refl.lay.lay.lay.lay,?_⟩ ?_ ?_
 ·rw[<- Hx,gZ,<- hZ,<- l1];exact jL (jL jh)
 ·rw[<- Hx,gZ,<- hZ,<- l3];exact jh
 ·intro i' j' hi _ _;have:i'=0:=()
  subst this;simp[cnt]
 ·rintro i τ S1 hi ⟨a5,a6,rfl,hA,hB,kp,hok⟩;have hix:i<xs.length:=()
  have hiy:i<ys.length:=()
  have ax:lK (xs.map A.int) (0+(i:Int))=some (.int xs[i]):=kg (k:=i) ()<|aG hix;have ay:lK (ys.map A.int) (0+(i:Int))=some (.int ys[i]):=kg (k:=i) ()<|aG hiy;have inner:∃(S2:iX),((∃a6',mV nh (jV 6) mZ [.tup<|xs.map .int,.tup<|ys.map .int,.int n,.ref<|S.length+1,.ref<|S.length+3,.int<|0+(i:Int),a6] S1=.nx [.tup<|xs.map .int,.tup<|ys.map .int,.int n,.ref<|S.length+1,.ref<|S.length+3,.int<|0+(i:Int),a6'] S2)/\iR S2 (S.length+1)=some ((k8 n xs (i+1) 1).map .int)/\iR S2 (S.length+3)=some ((k8 n ys (i+1) 1).map .int)/\(∀j':Nat,1<=j'->j'<=n->cnt (xs.take<|i+1) j'<=cnt (ys.take<|i+1) j') \/
    ∃j:Nat,mV nh (jV 6) mZ [.tup<|xs.map .int,.tup<|ys.map .int,.int n,.ref<|S.length+1,.ref<|S.length+3,.int<|0+(i:Int),a6] S1=.rt (.tup [.int ((i+1:Nat):Int),.int j]) S2/\1<=j/\j<=n/\cnt (ys.take<|i+1) j<cnt (xs.take<|i+1) j/\∀j':Nat,1<=j'->j'<j->cnt (xs.take<|i+1) j'<=cnt (ys.take<|i+1) j')/\o9 S S2:=by
   refine oG (lo:=1) (hi:=(n:Int)+1) (S1:=S1) (show nh _ _=_ from sF (S1:=S1) (by dsimp[jq,bools]) (by dsimp[jq,bools]) (kW () ())<|kW () ())
    (λt τ S'=>(∃a6,τ=[.tup<|xs.map .int,.tup<|ys.map .int,.int n,.ref<|S.length+1,.ref<|S.length+3,.int<|0+(i:Int),a6])/\iR S' (S.length+1)=some ((k8 n xs i<|1+t).map .int)/\iR S' (S.length+3)=some ((k8 n ys i<|1+t).map .int)/\o9 S S'/\∀j':Nat,1<=j'->j'<1+t->cnt (xs.take<|i+1) j'<=cnt (ys.take<|i+1) j')
    (λr=>∃(S2:iX),((∃a6',r=.nx [.tup<|xs.map .int,.tup<|ys.map .int,.int n,.ref<|S.length+1,.ref<|S.length+3,.int<|0+(i:Int),a6'] S2)/\iR S2 (S.length+1)=some ((k8 n xs (i+1) 1).map .int)/\iR S2 (S.length+3)=some ((k8 n ys (i+1) 1).map .int)/\(∀j':Nat,1<=j'->j'<=n->cnt (xs.take<|i+1) j'<=cnt (ys.take<|i+1) j') \/
     ∃j:Nat,r=.rt (.tup [.int ((i+1:Nat):Int),.int j]) S2/\1<=j/\j<=n/\cnt (ys.take<|i+1) j<cnt (xs.take<|i+1) j/\∀j':Nat,1<=j'->j'<j->cnt (xs.take<|i+1) j'<=cnt (ys.take<|i+1) j')/\o9 S S2)
    ⟨⟨_,rfl⟩,hA,hB,kp,λj' _ _=>()⟩ ?_ ?_
   ·rintro t τ S2 ht ⟨⟨a6,rfl⟩,gA,gB,k2,hj⟩;obtain⟨j,hjt⟩:∃j:Nat,j=1+t:=⟨_,rfl⟩;rw[<- hjt]at gA gB;rw[show(1:Int)+(t:Int)=(j:Int)by lia];have j1:1<=j:=()
    have j2:j<=n:=()
    have xA:lK ((k8 n xs i j).map A.int) (j:Int)=some (.int<|cnt (xs.take i) j):=kg rfl (by rw[mL (),aM ⟨j1,j2⟩,aL ()]);have xB:lK ((k8 n ys i j).map A.int) (j:Int)=some (.int<|cnt (ys.take i) j):=kg rfl (by rw[mL (),aM ⟨j1,j2⟩,aL ()]);have nA:rC (k8 n xs i j).length (j:Int)=some j:=kM rfl (by rw[oh];lia);have nB:rC (k8 n ys i j).length (j:Int)=some j:=kM rfl (by rw[oh];lia);have lA:=jN gA;have lB:=jN gB;have cA:cnt (xs.take i) j+(if decide (xs[i]>=(j:Int))then 1 else 0)=cnt (xs.take<|i+1) j:=by
     rw[jC hix];congr 1;simp
    have cB:cnt (ys.take i) j+(if decide (ys[i]>=(j:Int))then 1 else 0)=cnt (ys.take<|i+1) j:=by
     rw[jC hiy];congr 1;simp
    have sA:((k8 n xs i j).map A.int).set j (.int<|cnt (xs.take<|i+1) j)=(k8 n xs i<|j+1).map .int:=by rw[<- cQ,zQ j1 j2]
    have sB:((k8 n ys i j).map A.int).set j (.int<|cnt (ys.take<|i+1) j)=(k8 n ys i<|j+1).map .int:=by rw[<- cQ,zQ j1 j2]
    have yA:lK ((k8 n xs i<|j+1).map A.int) (j:Int)=some (.int<|cnt (xs.take<|i+1) j):=kg rfl (by rw[mL (),aM ⟨j1,j2⟩,aM ()]);have yB:lK ((k8 n ys i<|j+1).map A.int) (j:Int)=some (.int<|cnt (ys.take<|i+1) j):=kg rfl (by rw[mL (),aM ⟨j1,j2⟩,aM ()]);have gB':∀zs,iR (S2.set (S.length+1)<|.lst zs) (S.length+3)=some ((k8 n ys i j).map .int):=λzs=>by rw[jy ()];exact gB
    have gA':∀zs ws,iR ((S2.set (S.length+1)<|.lst zs).set (S.length+3)<|.lst ws) (S.length+1)=some zs:=λzs ws=>by rw[jy (),jA lA]
    have gB2:∀zs ws,iR ((S2.set (S.length+1)<|.lst zs).set (S.length+3)<|.lst ws) (S.length+3)=some ws:=λzs ws=>jA (by rw[bw];exact lB);have k3:∀zs ws,o9 S ((S2.set (S.length+1)<|.lst zs).set (S.length+3)<|.lst ws):=λzs ws=>(k2.set<|.inr ()).set<|.inr ();unfold mZ;dsimp[jq,bools,gA,xA,ax,cA,aK,nA,sA,gB',xB,ay,cB,nB,sB,gA',yA,gB2,yB];by_cases c:cnt (ys.take<|i+1) j<cnt (xs.take<|i+1) j
    ·right;rw[bH c];dsimp[jq,bools,mS<|show([_,_]:ae).length<=16777216 by simp];rw[show(0:Int)+(i:Int)+1=((i+1:Nat):Int)by lia];exact⟨_,_,rfl,_,.inr ⟨j,rfl,j1,j2,c,λj' q1 q2=>hj j' q1 ()⟩,k3 _ _⟩
    ·left;rw[bL c];dsimp[jq,bools];refine⟨_,_,rfl,⟨_,rfl⟩,?_,?_,k3 _ _,λj' q1 q2=>?_⟩
     ·rw[gA',show 1+(t+1)=j+1 by lia]
     ·rw[gB2,show 1+(t+1)=j+1 by lia]
     ·by_cases d:j'<1+t
      ·exact hj j' q1 d
      ·have:j'=j:=()
       subst this
       lia
   ·rintro τ S2 ⟨⟨a6,rfl⟩,gA,gB,k2,hj⟩;rw[show 1+((n:Int)+1-1).toNat=n+1 by lia]at gA gB hj;rw[ED]at gA gB;exact⟨S2,.inl ⟨⟨_,rfl⟩,gA,gB,λj' q1 q2=>hj j' q1 ()⟩,k2⟩
  obtain⟨S2,⟨⟨a6',e2⟩,gA,gB,hj⟩|⟨j,e2,j1,j2,c,hj⟩,k2⟩:=inner
  ·left;refine⟨_,_,show qt _ _=_ from e2,_,_,rfl,gA,gB,k2,λi' j' q0 q1 q2=>?_⟩;by_cases d:i'<=i
   ·exact hok i' j' d q1 q2
   ·have:i'=i+1:=()
    subst this;exact hj j' q1 q2
  ·right;refine⟨_,_,show qt _ _=_ from e2,S2,.inr ⟨i+1,j,by dsimp[jq,bools],(),(),j1,j2,c,λi' j' q0 q1 q2=>hok i' j' () q1 (),hj⟩,k2⟩
 ·rintro τ S1 ⟨a5,a6,rfl,hA,hB,kp,hok⟩;refine⟨S1,.inl ⟨by dsimp[jq,bools],?_⟩,kp⟩;refine(Ep px py).mp λi q hi hq=>?_;have:=hok (i+1) (q+1) () () ();exact this
def JX{n:Nat}(h:tu S b)(h1:1<=n)(h2:n<=20):∃(xs ys:ag) (S':iX),mH [.ref b,.int n] S=.ok (.tup [.tup<|xs.map .int,.tup<|ys.map .int]) S'/\xs.Perm (i9 1<|(n:Int)+1)/\ys.Perm (i9 1<|(n:Int)+1)/\tu S' b/\Kp (·=b) S S':=by
 obtain⟨x,S1,e1,px,b1,k1⟩:=zE (n:=(n:Int)) h () ();obtain⟨w,S2,e2,w0,w1,b2,k2⟩:=digit (m:=5) b1 ⋯ ⋯;unfold mH qR qT;dsimp[jq,bools,lR,Nat.reduceAdd,Nat.reduceSub,e1,e2];by_cases c0:w=0
 ·subst c0;obtain⟨y,S3,e3,py,b3,k3⟩:=zE (n:=(n:Int)) b2 () ();dsimp[jq,bools,bz,e3,mS<|show([_,_]:ae).length<=16777216 by simp];exact⟨_,_,_,rfl,px,py,b3,(k1.trans k2).trans k3⟩
 ·rw[show(w == (0:Int))=false by simpa using c0];by_cases c1:w=1
  ·subst c1;dsimp[jq,bools,bz,mS<|show([_,_]:ae).length<=16777216 by simp];exact⟨_,_,_,rfl,px,px,b2,k1.trans k2⟩
  ·have f1:(w == (1:Int))=false:=by simpa using c1
   obtain⟨q,S3,e3,q0,q1,b3,k3⟩:=digit (S:=S2++[.lst [.int 2,.int 6,.int 20]]) (m:=3) (b2.kp (c:=λ_=>False) Kp.refl.lay λz=>z) ⋯ ⋯;have hb:b<S2.length:=by obtain⟨_,_,e,_⟩:=b2;exact jN e
   have l3:=k3.lst S2.length _ () jh;obtain⟨m,em,m0,m1⟩:∃m:Int,lK [A.int 2,.int 6,.int 20] q=some (.int m)/\0<=m/\m<=1000:=by
    by_cases g0:q=0
    ·exact⟨2,by rw[g0];exact xT,by decide,by decide⟩
    ·by_cases g1:q=1
     ·exact⟨6,by rw[g1];exact Gu,by decide,by decide⟩
     ·exact⟨20,by rw[show q=2 by lia];rfl,by decide,by decide⟩
   obtain⟨y,S4,e4,py,_,b4,k4⟩:=E5 (most:=m) b3 px h1 h2 m0 m1;have kk:Kp (·=b) S S4:=((k1.trans k2).lay.trans k3).trans k4;by_cases c2:w=2
   ·subst c2;dsimp[jq,bools,f1,e3,l3,em,e4,bz,mS<|show([_,_]:ae).length<=16777216 by simp];exact⟨_,_,_,rfl,py,px,b4,kk⟩
   ·have f2:(w == (2:Int))=false:=by simpa using c2
    dsimp[jq,bools,f1,f2,e3,l3,em,e4,mS<|show([_,_]:ae).length<=16777216 by simp];exact⟨_,_,_,rfl,px,py,b4,kk⟩
end K15
namespace K15
open PySem L2 Am
meta abbrev wd (w:am):ae:=w.map λk:Nat=>A.int (k:Int)
def Mr{l:ag}{k:Nat}{i:Int}(h:i=k)(hk:k<l.length):lK (l.map A.int) i=some (.int<|l.getD k 0):=kg h<|by rw[aO,aG hk];rfl
def Cv{l:ag}{k:Nat}:((l.map A.int).set (k-1)<|.int<|l.getD k 0).set k (.int<|l.getD (k-1) 0)=(Wd.ex l k).map A.int:=by
 unfold Wd.ex;rw[cQ,cQ]
def Sd{f g:A->A->iX->R A}{ca cb cc:Ex}{a:A}(h1:ca τ S=.ok a S)(h2:cb τ S=.ok b S)(h3:f a b S=.ok (.bl true) S)(h4:cc τ S=.ok c S):OT f g ca cb cc τ S=g b c S:=by
 unfold OT;rw[h1,R.ki,h2,R.ki,h3,R.ki];unfold RK;show(cc τ S).bind _=_;rw[h4];rfl
def NV{i:Int}:mO [.int i] S=.ok (.bl true) S:=by
 unfold mO qS qN;dsimp[jq,bools,lR,Nat.reduceAdd,Nat.reduceSub,show xW .int "int" = some true from rfl,show xW .int "bool" = some false from rfl,gT]
def Q2{n k:Int}(h1:1<=k)(h2:k<n):ku [.int n,.int k] S=.ok (.bl true) S:=by
 unfold ku nO nL;have c:OT JG EH (eC<|.int 1) (iO 1) (iO 0) [.int n,.int k] S=.ok (.bl true) S:=by
  rw[Sd (a:=.int 1) (b:=.int k) (c:=.int n) rfl rfl (by dsimp[jq,bH h1]) rfl];dsimp[jq,bH h2]
 dsimp[jq,bools,lR,Nat.reduceAdd,Nat.reduceSub,NV,c]
def B5{xs:ag}{k:Nat}(h1:1<=k)(h2:k<xs.length)(hl:xs.length<=1000):∃S',kc [.tup<|xs.map .int,.int k] S=.ok (.tup<|(Wd.ex xs k).map .int) S'/\o9 S S':=by
 have e1:=Q2 (S:=S) (n:=(xs.length:Int)) (k:=(k:Int)) () ();have a1:lK (xs.map A.int) (k:Int)=some (.int<|xs.getD k 0):=Mr rfl ();have a2:lK (xs.map A.int) ((k:Int)-1)=some (.int<|xs.getD (k-1) 0):=Mr (k:=k-1) () ();have x1:rC xs.length ((k:Int)-1)=some (k-1):=kM () ();have x2:rC xs.length (k:Int)=some k:=kM rfl ();have hL:iR (S++[O.lst<|xs.map .int]) S.length=some (xs.map .int):=jh;have lS:∀ys,iR ((S++[O.lst<|xs.map .int]).set S.length<|.lst ys) S.length=some ys:=λys=>jA (by simp);have e2:jE [.tup<|xs.map .int,.int k,.int<|(k:Int)+1] S=.ok (.tup<|(Wd.ex xs k).map .int) (((S++[O.lst<|xs.map .int]).set S.length<|.lst<|(xs.map A.int).set (k-1)<|.int<|xs.getD k 0).set S.length<|.lst<|(Wd.ex xs k).map .int):=by
  unfold jE kH kK;dsimp[jq,bools,lR,Nat.reduceAdd,Nat.reduceSub,hL,show(k:Int)+1-1=k by lia,a1,a2,j4<|show 2<=sizeLine by decide,j4<|show 2=2 from rfl,aK,x1,lS,bw,x2,Cv];rw[jA<|by simp];dsimp[jq,bools]
 unfold kc qe qg;dsimp[jq,CD,bools,lR,Nat.reduceAdd,Nat.reduceSub,aK,e1,d8,e2];exact⟨_,rfl,((Kp.refl.lay).set<|.inr<|aN _).set<|.inr<|aN _⟩
abbrev prs (n:Int):ae:=(i9 1 n).flatMap λi=>(i9 (i+1)<|n+1).map λj=>.tup [.int i,.int j]
theorem zV{α β:Type}{f:α->List β}:∀(l:List α),(∀x∈l,(f x).length<=B)->(l.flatMap f).length<=l.length * B
 | [],_=>cE _
 | x::l,h=>by
  rw[ir,aY,bq,Nat.add_mul,Nat.one_mul];have:=zV l λy hy=>h y<|aT _ hy;have:=h x (aR ..)
  lia
abbrev wg (xs:ag)(q:A):Bool:=match q with
 | .tup [.int i,.int j]=>decide (xs.getD (i-1).toNat 0>xs.getD (j-1).toNat 0)
 | _=>false
def QL{xs:ag}{i:Int}(h1:0<=i)(h2:i<xs.length):lK (xs.map A.int) i=some (.int<|xs.getD i.toNat 0):=Mr (k:=i.toNat) () ()
abbrev oq (i hi:Int):ae:=(i9 (i+1) hi).map λj=>.tup [.int i,.int j]
def zm(a:Int)(u:Nat):i9 a (a+((u+1:Nat):Int))=i9 a (a+(u:Int))++[a+(u:Int)]:=by
 unfold i9;rw[show(a+((u+1:Nat):Int)-a).toNat=u+1 by lia,show(a+(u:Int)-a).toNat=u by lia,List.range_succ,cM];rfl
def Ad(n:Nat):prs n=(i9 1 (n:Int)).flatMap λi=>oq i ((n:Int)+1):=rfl
def EE{xs:ag}{i n:Int}:(((i9 (i+1) n).filter λj=>decide<|xs.getD i.toNat 0>xs.getD j.toNat 0).map λj=>A.tup [.int<|i+1,.int<|j+1])=(oq (i+1)<|n+1).filter (wg xs):=by
 unfold oq;have e:i9 (i+1+1) (n+1)=(i9 (i+1) n).map (·+1):=by
  unfold i9;rw[dM,show n+1-(i+1+1)=n-(i+1)by lia];refine ff λq _=>?_;show i+1+1+(q:Int)=i+1+(q:Int)+1
  lia
 rw[e,dM,iJ];congr 1;refine List.filter_congr λj _=>?_;show _=decide (xs.getD (i+1-1).toNat 0>xs.getD (j+1-1).toNat 0);rw[show i+1-1=i by lia,show j+1-1=j by lia]
def N9{S:iX}{n:Nat}{xs ys:ae}(h1:iR S n=some xs)(h2:iR S m=some ys)(h3:xs.length+ys.length<=16777216):yU (.ref n) [.ref m] S=.ok .non (S.set n<|.lst<|xs++ys):=by
 show opt (iR S n) _=_;rw[h1];show opt (iR S m) _=_;rw[h2];exact Ek h3
def DL{i hi:Int}(h0:0<=i)(h:hi<=21):(oq i hi).length<=20:=by
 unfold oq;rw[aK,jw];lia
def Lr{n:Nat}{xs:ag}(hlen:xs.length=n)(h1:1<=n)(h2:n<=20):∃(D:Nat) (S':iX),j7 [.tup<|xs.map .int] S=.ok (.ref D) S'/\iR S' D=some ((prs n).filter<|wg xs)/\o9 S S':=by
 unfold j7 pL pJ;dsimp[jq,bools,lR,Nat.reduceAdd,Nat.reduceSub,aK,hlen];refine oG (lo:=0) (hi:=(n:Int)) (S1:=S++[.lst []]) (show qG _ _=_ from nZ (by dsimp[jq,bools])<|kW () ())
  (λt τ S1=>(∃a3,τ=[.tup<|xs.map .int,.int n,.ref S.length,a3])/\iR S1 S.length=some (((i9 1<|1+(t:Int)).flatMap λi=>oq i<|(n:Int)+1).filter<|wg xs)/\o9 S S1)
  (λr=>∃(D:Nat) (S':iX),RS.end (RS.seq r _)=.ok (.ref D) S'/\iR S' D=some ((prs n).filter<|wg xs)/\o9 S S') ⟨⟨_,rfl⟩,?_,Kp.refl.lay⟩ ?_ ?_
 ·rw[jh];rfl
 ·rintro t τ S1 ht ⟨⟨a3,rfl⟩,hL,kp⟩;left;have hb:(((i9 1<|1+(t:Int)).flatMap λi=>oq i<|(n:Int)+1).filter<|wg xs).length<=1000:=by
   have q1:=gb (wg xs)<|(i9 1<|1+(t:Int)).flatMap λi=>oq i<|(n:Int)+1;have q2:=zV (B:=20) (f:=λi=>oq i<|(n:Int)+1) (i9 1<|1+(t:Int)) λx hx=>DL (by have:=jF.mp hx;lia) ();rw[jw]at q2;have q3:(1+(t:Int)-1).toNat * 20<=20 * 20:=Nat.mul_le_mul_right _ ()
   lia
  have x0:lK (xs.map A.int) (0+(t:Int))=some (.int<|xs.getD (0+(t:Int)).toNat 0):=QL () ();have ec:=v8 (lo:=0+(t:Int)+1) (hi:=(n:Int)) (cap:=[some 3,some 0]) (src:=o4 (iZ jJ (iO 3)<|eC<|.int 1)<|iO 1) (t:=rB<|iZ Hl (iZ lX (iO 2)<|iO 1)<|iZ lX (iO 2)<|iO 0) (e:=qB<|iP (iZ jJ (iO 1)<|eC<|.int 1)<|iP (iZ jJ (iO 0)<|eC<|.int 1)<|iY) (τ:=[.tup<|xs.map .int,.int n,.ref S.length,.int<|0+(t:Int)]) (S:=S1) (S1:=S1)
   (sF (S1:=S1) (by dsimp[jq,bools]) (by dsimp[jq,bools]) (kW () ())<|kW () ())
   (λj=>decide<|xs.getD (0+(t:Int)).toNat 0>xs.getD j.toNat 0) (λj=>.tup [.int<|0+(t:Int)+1,.int<|j+1]) (λj g1 g2=>by
    have x2:lK (xs.map A.int) j=some (.int<|xs.getD j.toNat 0):=QL () ();dsimp[jq,bools,x0,x2]) (λj _ _ _=>by dsimp[jq,bools,mS<|show([_,_]:ae).length<=16777216 by simp]) ()
  rw[EE]at ec;have hr:((oq (0+(t:Int)+1)<|(n:Int)+1).filter<|wg xs).length<=1000:=bX (gb _ _)<|bX (DL () ()) ⋯;have lt:=jN hL;have ex:=N9 (S:=S1++[.lst<|(oq (0+(t:Int)+1)<|(n:Int)+1).filter<|wg xs]) (jL hL) jh ();unfold qJ;dsimp[jq,bools,hL,ec,ex];refine⟨_,_,rfl,⟨_,rfl⟩,?_,kp.lay.set<|.inr<|aN _⟩;rw[jA<|by rw[aY];exact bx lt<|Nat.le_add_right _ _,zm,gJ,List.filter_append,show(0:Int)+(t:Int)+1=1+(t:Int)by lia];simp
 ·rintro τ S1 ⟨⟨a3,rfl⟩,hL,kp⟩;dsimp[jq,bools];refine⟨_,_,rfl,?_,kp⟩;rw[hL,show 1+(((n:Int)-0).toNat:Int)=1+((((n-1)+1:Nat)):Int)by lia,zm,gJ,Ad];have e:oq (1+((n-1:Nat):Int)) ((n:Int)+1)=[]:=by
   unfold oq i9;rw[show((n:Int)+1-(1+((n-1:Nat):Int)+1)).toNat=0 by lia];rfl
  rw[show(1:Int)+((n-1:Nat):Int)=n by lia]at e ⊢;simp[e]
open Bl
def GQ{xs:ag}{i:Nat}(h:i<=xs.length):(i9 ((i:Int)+1)<|(xs.length:Int)+1).map (λj=>xs.getD (j-1).toNat 0)=xs.drop i:=by
 apply cH;intro p;rw[a_,fG];by_cases c:i+p<xs.length
 ·have:(i9 ((i:Int)+1)<|(xs.length:Int)+1)[p]?=some ((i:Int)+1+p):=by
   unfold i9;rw[a_,dH ()];rfl
  rw[this];show some (xs.getD ((i:Int)+1+p-1).toNat 0)=_;rw[show((i:Int)+1+p-1).toNat=i+p by lia,<- Iv.uP c]
 ·rw[bG<|by rw[jw];lia,bG ()];rfl
def JM{xs:ag}{i:Nat}(h:i<xs.length):((oq ((i:Int)+1)<|(xs.length:Int)+1).filter<|wg xs).length=(xs.drop<|i+1).countP λy=>decide (y<xs.getD i 0):=by
 rw[<- GQ (xs:=xs) (i:=i+1) (),List.countP_map,<- List.countP_eq_length_filter];unfold oq;rw[List.countP_map,show(((i+1:Nat):Int))=(i:Int)+1 by lia];refine List.countP_congr λj _=>?_;show wg xs (.tup [.int<|(i:Int)+1,.int j])=true ↔ decide (xs.getD (j-1).toNat 0<xs.getD i 0)=true;show decide (xs.getD ((i:Int)+1-1).toNat 0>xs.getD (j-1).toNat 0)=true ↔ _;rw[show((i:Int)+1-1).toNat=i by lia]
theorem zx{xs:ag}:∀(k i:Nat),i+k=xs.length->(((List.range' i k).flatMap λq:Nat=>oq ((q:Int)+1)<|(xs.length:Int)+1).filter<|wg xs).length=Iv.inv (xs.drop i)
 | 0,i,h=>by rw[List.drop_of_length_le ()];rfl
 | k+1,i,h=>by
  have hi:i<xs.length:=()
  rw[e9,ir,List.filter_append,aY,JM hi,zx k (i+1) ()];have:xs.drop i=xs.getD i 0::xs.drop (i+1):=by
   rw[bU hi];congr 1;have:=Iv.uP hi;rw[aG hi]at this;exact aS this
  rw[this];rfl
def IX{xs:ag}{n:Nat}(hl:xs.length=n)(h1:1<=n):((prs n).filter<|wg xs).length=Iv.inv xs:=by
 have h:=zx (xs:=xs) n 0 ();rw[gU]at h;rw[<- h,Ad,hl];have e:(i9 1 (n:Int)).flatMap (λi=>oq i<|(n:Int)+1)=(List.range' 0 n).flatMap λq:Nat=>oq ((q:Int)+1) ((n:Int)+1):=by
  obtain⟨m,rfl⟩:∃m,n=m+1:=⟨n-1,()⟩;rw[List.range'_concat,gJ];have z:oq (((0+1 * m:Nat):Int)+1) (((m+1:Nat):Int)+1)=[]:=by
   unfold oq i9;rw[show(((m+1:Nat):Int)+1-((((0+1 * m:Nat):Int)+1)+1)).toNat=0 by lia];rfl
  rw[ir,z];unfold i9;rw[show(((m+1:Nat):Int)-1).toNat=m by lia,List.flatMap_map,gu];dsimp[List.flatMap_nil,b5];congr 1
  funext q
  rw[Int.add_comm]
 rw[e]
def OE{n:Nat}{w:am}(h:iR S W=some (wd w))(hv:∀k∈w,1<=k/\k<n)(h1:1<=n)(h2:n<=20) :
  ∃S',nY [.int n,.ref W] S=.ok (.tup<|(Wd.led (i9 1<|(n:Int)+1) w).map .int) S'/\o9 S S':=by
 have lw:=jN h;unfold nY tX tZ;dsimp[jq,bools,lR,Nat.reduceAdd,Nat.reduceSub,sY<|rL (show(-1000000:Int)<=1 by decide) ⋯ (show -1000000<=(n:Int)+1 by lia) () ()];refine Lf (n:=W) (xs:=wd w) (S1:=S++[.lst<|(i9 1<|(n:Int)+1).map .int]) (show uy _ _=_ from BF (by dsimp[jq,bools])<|jL h)
  (λi τ S1=>(∃a3,τ=[.int n,.ref W,.ref S.length,a3])/\iR S1 S.length=some ((Wd.led (i9 1<|(n:Int)+1)<|w.take i).map .int)/\o9 S S1)
  (λr=>∃S',RS.end (RS.seq r _)=.ok (.tup<|(Wd.led (i9 1<|(n:Int)+1) w).map .int) S'/\o9 S S') ⟨⟨_,rfl⟩,jh,Kp.refl.lay⟩ (λi τ S1 hh=>hh.2.2.lst _ _ (λz=>z) h) ?_ ?_
 ·rintro i z τ S1 hz ⟨⟨a3,rfl⟩,hL,kp⟩;rw[a_]at hz;obtain⟨k,hk,rfl⟩:=bu.mp hz;obtain⟨hi,ek⟩:=aI.mp hk;have hkv:=hv k<|bf hk;refine⟨[.int n,.ref W,.ref S.length,.int k],S1,rfl,.inl ?_⟩;have e1:Wd.led (i9 1<|(n:Int)+1) (w.take<|i+1)=Wd.ex (Wd.led (i9 1<|(n:Int)+1)<|w.take i) k:=by
   rw[dW hi,Wd.ya,ek];rfl
  have ll:(Wd.led (i9 1<|(n:Int)+1)<|w.take i).length=n:=by rw[Wd.yN,Wd.ko]
  rw[e1];generalize Wd.led (i9 1<|(n:Int)+1) (w.take i)=l at hL ll;have lL:=jN hL;have a1:lK (l.map A.int) (k:Int)=some (.int<|l.getD k 0):=Mr rfl ();have a2:lK (l.map A.int) ((k:Int)-1)=some (.int<|l.getD (k-1) 0):=Mr (k:=k-1) () ();have x1:rC l.length ((k:Int)-1)=some (k-1):=kM () ();have x2:rC l.length (k:Int)=some k:=kM rfl ();have lS:∀ys,iR (S1.set S.length<|.lst ys) S.length=some ys:=λys=>jA lL;unfold uz;dsimp[jq,bools,hL,a1,a2,mS<|show([_,_]:ae).length<=16777216 by simp,j4<|show([_,_]:ae).length=2 from rfl,aK,x1,lS,bw,x2];refine⟨_,_,rfl,⟨_,rfl⟩,?_,(kp.set<|.inr<|aN _).set<|.inr<|aN _⟩;rw[jA<|by rw[bw];exact lL,Cv]
 ·rintro τ S1 ⟨⟨a3,rfl⟩,hL,kp⟩;rw[aK,List.take_length]at hL;dsimp[jq,bools,hL];exact⟨_,rfl,kp⟩
abbrev fl (xs:ag)(n:Nat):ag:=(i9 1 (n:Int)).filter λk=>decide<|xs.getD (k-1).toNat 0>xs.getD k.toNat 0
def zT{S:iX}{n:Nat}{xs:ag}(hlen:xs.length=n)(h2:n<=20):qy [.tup<|xs.map .int] S=.ok (.ref S.length) (S++[.lst<|(fl xs n).map .int]):=by
 have ec:=v8 (lo:=1) (hi:=(n:Int)) (cap:=[some 0]) (src:=o4 (eC<|.int 1)<|je (f1 kq)<|iP (iO 0)<|iY) (t:=rB<|iZ Hl (iZ lX (iO 1)<|iZ aSub (iO 0)<|eC<|.int 1)<|iZ lX (iO 1)<|iO 0) (e:=iO 0) (τ:=[.tup<|xs.map .int]) (S:=S) (S1:=S)
  (sF (S1:=S) (by dsimp[jq,bools]) (by dsimp[jq,bools,aK,hlen]) (kW () ())<|kW () ())
  (λk=>decide<|xs.getD (k-1).toNat 0>xs.getD k.toNat 0) (λk=>.int k) (λk h1 h2=>by
   have x1:lK (xs.map A.int) (k-1)=some (.int<|xs.getD (k-1).toNat 0):=QL () ();have x2:lK (xs.map A.int) k=some (.int<|xs.getD k.toNat 0):=QL () ();dsimp[jq,bools,x1,x2]) (λk _ _ _=>by dsimp[jq,bools]) ()
 unfold qy yO yu;dsimp[jq,bools,lR,Nat.reduceAdd,Nat.reduceSub,ec];rfl
open Fw (xR Dn Two Va rg)
def BE{l:ag}{n:Nat}(hl:l.length=n){x:Int}:x∈fl l n ↔ ∃k:Nat,x=k/\xR l k:=by
 unfold fl;rw[iG,jF,ig];constructor
 ·rintro⟨⟨h1,h2⟩,h3⟩;refine⟨x.toNat,(),(),(),?_⟩;rw[show(x-1).toNat=x.toNat-1 by lia]at h3;exact h3
 ·rintro⟨k,rfl,h1,h2,h3⟩;refine⟨⟨(),()⟩,?_⟩;rw[show((k:Int)-1).toNat=k-1 by lia,bE];exact h3
def Kl{l:ag}{n:Nat}(hl:l.length=n)(h:∀k,¬xR l k):fl l n=[]:=by
 rw[List.eq_nil_iff_forall_not_mem];intro x hx;obtain⟨k,_,hk⟩:=(BE hl).mp hx;exact h k hk
def Ce{l:ag}{n k:Nat}(hl:l.length=n)(hk:xR l k)(hm:∀j,xR l j->k<=j):∃t,fl l n=(k:Int)::t:=by
 have hin:(k:Int)∈fl l n:=(BE hl).mpr ⟨k,rfl,hk⟩;have pw:(fl l n).Pairwise (·<=·):=(yp 1 (n:Int)).sublist List.filter_sublist;have hmem:∀x∈fl l n,(k:Int)<=x:=λx hx=>by
  obtain⟨j,rfl,hj⟩:=(BE hl).mp hx;have:=hm j hj
  lia
 cases e:fl l n with
 | nil=>rw[e]at hin;cases hin
 | cons y t=>
  rw[e]at hin pw hmem;have h1:=hmem y<|aR ..;have:y=(k:Int):=by
   rcases bB.mp hin with z|z
   ·exact z.symm
   ·have:=(cL.mp pw).1 _ z;lia
  exact⟨t,by rw[this]⟩
def PX{n:Nat}{xs:ae}(h:iR S n=some xs):A.OP (.ref n) S=some (!xs.isEmpty):=by
 show(iR S n).map _=_;rw[h];rfl
def ye(w:am)(k:Nat):wd w++[A.int (k:Int)]=wd (w++[k]):=by unfold wd;rw[cM];rfl
def OW{S:iX}{o:ag}{n:Nat}(px:o.Perm<|i9 1<|(n:Int)+1)(h2:n<=20)(hu:Bl.k9 o u)(hk:Dn u ks) :
  ∃(W:Nat) (S':iX),kY [.tup<|o.map .int] S=.ok (.ref W) S'/\iR S' W=some (wd ks)/\S.length<=W/\o9 S S':=by
 obtain⟨ys,S1,e1,hb,py,k1⟩:=uM (S:=S) px (show n<=1000 by lia);have eyu:ys=u:=by
  have l1:=hb.1;have l2:=hu.1;apply cH;intro q;by_cases hq:q<u.length
  ·have lo:=jS px;obtain⟨p,hp,ep⟩:∃p,∃h:p<o.length,o[p]=(q:Int)+1:=by
    have:(q:Int)+1∈o:=px.mem_iff.mpr<|jF.mpr ⟨(),()⟩;obtain⟨p,hp,ep⟩:=List.getElem_of_mem this;exact⟨p,hp,ep⟩
   have a1:=hb.2 p hp;have a2:=hu.2 p hp;rw[ep,show((q:Int)+1-1).toNat=q by lia]at a1 a2;rw[a1,a2]
  ·rw[bG (),bG ()]
 subst eyu;have lu:=jS py;have hks:ks.length<=400:=by
  rw[hk.len];have:=Iv.vc ys;rw[lu]at this;exact bX this<|g7 h2 h2
 have f0:=zT (S:=S1++[.lst []]) (xs:=ys) lu h2;have l1:(S1++[O.lst []]).length=S1.length+1:=by simp
 have key:=rJ (t:=mF) (c:=mK)
  (λτ T=>∃(C:Nat) (l:ag) (done rest:am),τ=[.tup<|o.map .int,.tup<|l.map .int,.ref S1.length,.ref C]/\ks=done++rest/\Dn l rest/\l.Perm (i9 1<|(n:Int)+1)/\iR T S1.length=some (wd done)/\iR T C=some ((fl l n).map .int)/\C≠S1.length/\o9 S1 T)
  (λτ T=>ks.length-((iR T S1.length).getD []).length)
  (λr=>∃(W:Nat) (S':iX),RS.end (RS.seq r<|jO<|iO 2)=.ok (.ref W) S'/\iR S' W=some (wd ks)/\S.length<=W/\o9 S S') ?_ 1000000
 ·unfold kY oS oV;dsimp[jq,CD,bools,lR,Nat.reduceAdd,Nat.reduceSub,e1,f0];refine key _ _ ⟨(S1++[O.lst []]).length,ys,[],ks,rfl,rfl,hk,py,jL jh,jh,(),Kp.refl.lay.lay⟩ ()
 ·rintro τ T ⟨C,l,done,rest,rfl,hd,hdn,pl,hW,hC,hne,kp⟩;have ll:=jS pl;unfold mF;dsimp[jq,bools,PX hC]
  cases rest with
  | nil=>
   left;rw[Kl ll hdn];rw[b5]at hd;refine⟨T,rfl,S1.length,T,?_,by rw[hd];exact hW,k1.len,k1.trans kp⟩;dsimp[jq,bools]
  | cons k rest=>
   right;obtain⟨t,ht⟩:=Ce ll hdn.1.1 hdn.1.2;rw[ht]at hC;rw[ht];refine⟨T,rfl,.inl ?_⟩;have hk1:=hdn.1.1;have a0:lK ((((k:Int)::t).map A.int)) 0=some (.int k):=xT;have hdl:done.length<ks.length:=by rw[hd,aY,bq];lia
   have lW:=jN hW;have hC':iR (T.set S1.length<|.lst<|wd<|done++[k]) C=some (((k:Int)::t).map .int):=by rw[jy<|cG hne];exact hC
   obtain⟨T2,e2,kp2⟩:=B5 (S:=T.set S1.length<|.lst<|wd<|done++[k]) (xs:=l) (k:=k) hk1.1 hk1.2.1 ();have hx:(Wd.ex l k).length=n:=by rw[Wd.j0];exact ll
   have f1:=zT (S:=T2) (xs:=Wd.ex l k) hx h2;unfold mK;dsimp[jq,CD,bools,hC,a0,hW,zK<|show(wd done).length<16777216 by rw[aK];lia,ye,hC',e2,f1];have hW2:iR (T2++[O.lst<|(fl (Wd.ex l k) n).map A.int]) S1.length=some (wd<|done++[k]):=jL<|kp2.lst _ _ (λz=>z)<|jA lW;have lt2:T.length<=T2.length:=by have:=kp2.len;rwa [bw]at this
   refine⟨_,_,rfl,⟨T2.length,Wd.ex l k,done++[k],rest,rfl,by rw[hd,bS];rfl,hdn.2,Fw.ug pl hk1.1 hk1.2.1,hW2,jh,(),((kp.set<|.inr<|aN _).trans kp2).lay⟩,?_⟩;dsimp[hW2,hW,c8];dsimp[aK,aY,bq,gF]
   lia
def q_{n:Nat}{o u:ag}{j:Int}(t:Two n o u)(hL:iR S L=some (o.map .int))(h1:1<=j)(h2:j<=n):KH (.ref L) [.int j] S=.ok (.int<|u.getD (j-1).toNat 0-1) S:=by
 have lu:=t.lu;have lo:=t.lo;have hj:(j-1).toNat<u.length:=()
 have eb:=t.uo.2 _ hj;obtain⟨hp,ep⟩:=aI.mp eb;have hm:=jF.mp<|t.pu.mem_iff.mp<|cD hj;have nd:o.Nodup:=t.po.nodup_iff.mpr<|oF _ _;rw[Nu.rQ hj];generalize u[(j-1).toNat]=v at *
 show opt (iR S L) _=_;rw[hL,j_,Ek ⟨rfl,by rw[all_map,iA];intro _ _;rfl⟩];have:((o.map A.int).findIdx? λz=>Qc z<|.int j)=some (v-1).toNat:=by
  rw[dS];refine⟨by rw[aK];exact hp,?_,λm hm'=>?_⟩
  ·rw[c_,ep];show(_ == _)=true;rw[fF];lia
  ·rw[c_];show ¬((_ == _)=true);rw[fF];intro z;have e2:o[m]'()=o[(v-1).toNat]:=by rw[ep];lia
   have:=(d_ nd).mp e2
   lia
 rw[this,j_];congr 2
 lia
def uO{co:Ex}{d:nX}{S1:iX}{x v:A}(h:co τ S=.ok (.ref L) S)(hL:iR S L=some xs)(hd:d τ S=.ok [x] S)(hi:KH (.ref L) [x] S=.ok v S):yC co d τ S=.ok v S:=by
 unfold yC;rw[h,R.ki,show A.seq S (.ref L)=iR S L from rfl,hL,j_,hd,R.ki,hi]
def NZ{n k:Nat}{o u:ag}(t:Two n o u)(h1:1<=k)(h2:k<n):(o.set (u.getD (k-1) 0-1).toNat<|(k:Int)+1).set (u.getD k 0-1).toNat (k:Int)=o.map (Wd.sw k):=by
 have lu:=t.lu;have lo:=t.lo;have nd:o.Nodup:=t.po.nodup_iff.mpr<|oF _ _;have e1:=t.uo.2 (k-1) ();have e2:=t.uo.2 k ();rw[Nu.rQ<|show k-1<u.length by lia,Nu.rQ<|show k<u.length by lia];generalize(u[k-1]-1).toNat=a at *
 generalize(u[k]-1).toNat=b at *
 obtain⟨ha,ea⟩:=aI.mp e1;obtain⟨hb,eb⟩:=aI.mp e2;have hab:a≠b:=λz=>by subst z;rw[ea]at eb;lia
 apply cH;intro p;rw[a_,f7,f7];by_cases c1:b=p
 ·subst c1;rw[aM rfl,aM<|by rw[bw];exact hb,aG hb,eb,gH];unfold Wd.sw;rw[aL (),aM rfl]
 ·rw[aL c1];by_cases c2:a=p
  ·subst c2;rw[aM rfl,aM ha,aG ha,ea,gH];unfold Wd.sw;rw[aM ()]
  ·rw[aL c2];by_cases hp:p<o.length
   ·rw[aG hp,gH];congr 1;unfold Wd.sw;rw[aL λz=>c2<|(d_ nd).mp<|show o[a]=o[p]by rw[ea,z];lia,aL λz=>c1<|(d_ nd).mp<|show o[b]=o[p]by rw[eb,z]]
   ·rw[bG ()];rfl
end K15
namespace K15
open PySem L2 Am
open Fw (xR Dn Two Va rg)
def EL{S:iX}{o:ag}{n:Nat}(t:Two n o u)(h1:1<=n)(h2:n<=20)(hk:Dn u ks):∃(W:Nat) (S':iX),l9 [.tup<|o.map .int] S=.ok (.ref W) S'/\iR S' W=some (wd ks)/\S.length<=W/\o9 S S':=by
 have hks:ks.length<=400:=by
  rw[hk.len];have:=Iv.vc u;rw[t.lu]at this;exact bX this<|g7 h2 h2
 have l1:(S++[O.lst<|o.map .int]).length=S.length+1:=by simp
 obtain⟨D,S1,e1,g1,k1⟩:=Lr (S:=S++[.lst<|o.map .int]++[.lst []]) (xs:=o) t.lo h1 h2;have wi:=IX t.lo h1;rw[t.inv,<- hk.len]at wi;have kk:o9 S (S++[O.lst<|o.map .int]++[.lst []]):=Kp.refl.lay.lay;have z1:iR S1 S.length=some (o.map .int):=k1.lst _ _ (λz=>z)<|jL jh;have z2:iR S1 (S.length+1)=some (wd []):=k1.lst _ _ (λz=>z) (by rw[<- l1];exact jh);unfold l9 pT p9;dsimp[jq,bools,lR,Nat.reduceAdd,Nat.reduceSub];refine oG (lo:=0) (hi:=(ks.length:Int)) (S1:=S1) (show qE _ _=_ from nZ (by dsimp[jq,bools,e1,g1,wi])<|kW () ())
  (λi τ T=>(∃(a3 a4 a5 a6:A),τ=[.tup<|o.map .int,.ref S.length,.ref<|S.length+1,a3,a4,a5,a6])/\(∃(l v:ag),iR T S.length=some (l.map .int)/\Two n l v/\Dn v (ks.drop i))/\iR T (S.length+1)=some (wd<|ks.take i)/\o9 S T)
  (λr=>∃(W:Nat) (S':iX),RS.end (RS.seq r _)=.ok (.ref W) S'/\iR S' W=some (wd ks)/\S.length<=W/\o9 S S') ⟨⟨_,_,_,_,by rw[<- l1]⟩,⟨o,u,z1,t,hk⟩,z2,kk.trans k1⟩ ?_ ?_
 ·rintro i τ T hi ⟨⟨a3,a4,a5,a6,rfl⟩,⟨l,v,hL,tt,dn⟩,hW,kp⟩;have hi:i<ks.length:=()
  obtain⟨k,ek⟩:∃k,ks[i]=k:=⟨_,rfl⟩;rw[bU hi,ek]at dn;left;have ll:=tt.lo;have lv:=tt.lu;have lL:=jN hL;have hf:=dn.1.1;obtain⟨tl,ht⟩:=Ce lv hf dn.1.2;have cr:=v8 (lo:=1) (hi:=(n:Int)) (cap:=[some 1]) (src:=o4 (eC<|.int 1)<|je (f1 kq)<|iP (iO 1)<|iY) (t:=rB<|iZ EH (yC (iO 1)<|iP (iZ jJ (iO 0)<|eC<|.int 1)<|iY)<|yC (iO 1)<|iP (iO 0)<|iY) (e:=iO 0) (τ:=[.tup<|o.map .int,.ref S.length,.ref<|S.length+1,.int<|0+(i:Int),a4,a5,a6]) (S:=T) (S1:=T)
   (sF (S1:=T) (by dsimp[jq,bools]) (by dsimp[jq,bools,hL,aK,ll]) (kW () ())<|kW () ())
   (λj=>decide<|v.getD (j-1).toNat 0>v.getD j.toNat 0) (λj=>.int j) (λj j1 j2=>by
    have x1:=uO (co:=iO 1) (d:=iP (iZ jJ (iO 0)<|eC<|.int 1) iY) (τ:=.int j::n9 [some 1] [.tup<|o.map .int,.ref S.length,.ref<|S.length+1,.int<|0+(i:Int),a4,a5,a6]) (S:=T) (S1:=T) (L:=S.length) (xs:=l.map .int) (x:=.int<|j+1) (by dsimp[jq,bools]) hL (by dsimp[jq,bools])<|q_ tt hL () ();have x2:=uO (co:=iO 1) (d:=iP (iO 0) iY) (τ:=.int j::n9 [some 1] [.tup<|o.map .int,.ref S.length,.ref<|S.length+1,.int<|0+(i:Int),a4,a5,a6]) (S:=T) (S1:=T) (L:=S.length) (xs:=l.map .int) (x:=.int j) (by dsimp[jq,bools]) hL (by dsimp[jq,bools])<|q_ tt hL () ();rw[show j+1-1=j by lia]at x1;dsimp[jq,bools]at x1 x2;dsimp[jq,bools,x1,x2];rw[show decide (v.getD j.toNat 0-1<v.getD (j-1).toNat 0-1)=decide (v.getD (j-1).toNat 0>v.getD j.toNat 0)from decide_eq_decide.mpr ()]) (λj _ _ _=>by dsimp[jq,bools]) ()
  have efl:((i9 1 (n:Int)).filter λj=>decide<|v.getD (j-1).toNat 0>v.getD j.toNat 0).map (λj=>A.int j)=((k:Int)::tl).map A.int:=by rw[<- ht];rfl
  rw[efl]at cr;have k1:o9 S (T++[.lst<|((k:Int)::tl).map A.int]):=kp.lay;obtain⟨U,hU⟩:∃U,U=T++[O.lst<|((k:Int)::tl).map A.int]:=⟨_,rfl⟩;have hC:iR U T.length=some (((k:Int)::tl).map A.int):=by rw[hU];exact jh
  have hL2:iR U S.length=some (l.map .int):=by rw[hU];exact jL hL
  have hW2:iR U (S.length+1)=some (wd<|ks.take i):=by rw[hU];exact jL hW
  rw[<- hU]at k1;have a0:lK ((((k:Int)::tl).map A.int)) 0=some (.int k):=xT;have hkn:k<n:=by have:=hf.2.1;lia
  have y1:=uO (co:=iO 1) (d:=iP (iO 4) iY) (τ:=[.tup<|o.map .int,.ref S.length,.ref<|S.length+1,.int<|0+(i:Int),.int k,a5,a6]) (S:=U) (S1:=U) (L:=S.length) (xs:=l.map .int) (x:=.int k) (by dsimp[jq,bools]) hL2 (by dsimp[jq,bools]) (q_ tt hL2 (by have:=hf.1;lia) ());have y2:=uO (co:=iO 1) (d:=iP (iZ jJ (iO 4)<|eC<|.int 1) iY) (τ:=[.tup<|o.map .int,.ref S.length,.ref<|S.length+1,.int<|0+(i:Int),.int k,a5,a6]) (S:=U) (S1:=U) (L:=S.length) (xs:=l.map .int) (x:=.int<|(k:Int)+1) (by dsimp[jq,bools]) hL2 (by dsimp[jq,bools])<|q_ tt hL2 () ();rw[show((k:Int)-1).toNat=k-1 by lia]at y1;rw[show((k:Int)+1-1).toNat=k by lia]at y2;have p1:1<=v.getD (k-1) 0/\v.getD (k-1) 0<(n:Int)+1:=by
   rw[Nu.rQ<|show k-1<v.length by lia];exact jF.mp<|tt.pu.mem_iff.mp<|cD _
  have p2:1<=v.getD k 0/\v.getD k 0<(n:Int)+1:=by
   rw[Nu.rQ<|show k<v.length by lia];exact jF.mp<|tt.pu.mem_iff.mp<|cD _
  have x1:rC l.length (v.getD (k-1) 0-1)=some (v.getD (k-1) 0-1).toNat:=kM () ();have x2:rC l.length (v.getD k 0-1)=some (v.getD k 0-1).toNat:=kM () ();have lU:=jN hL2;have lS:∀ys,iR (U.set S.length<|.lst ys) S.length=some ys:=λys=>jA lU;have hW3:∀ys zs,iR ((U.set S.length<|.lst ys).set S.length<|.lst zs) (S.length+1)=some (wd<|ks.take i):=λys zs=>by rw[jy (),jy ()];exact hW2
  have lW:=jN hW2;unfold qI;dsimp[jq,bools,cr,<- hU,hC,a0,y1,y2,mS<|show([_,_]:ae).length<=16777216 by simp,j4<|show([_,_]:ae).length=2 from rfl,hL2,aK,x1,lS,bw,x2,RL,hW3,zK<|show(ks.take i).length<16777216 by rw[bJ];lia,ye];refine⟨_,_,rfl,⟨_,_,_,_,rfl⟩,⟨l.map<|Wd.sw k,Wd.ex v k,?_,tt.step hf.1 hkn,dn.2⟩,?_,((k1.set<|.inr<|aN _).set<|.inr<|aN _).set<|.inr<|show S.length<=S.length+1 by lia⟩
  ·rw[jy (),jA<|by rw[bw];exact lU,<- NZ tt hf.1 hkn,cQ,cQ]
  ·rw[jA<|by rw[bw,bw];exact lW,List.take_add_one,aG hi,ek];rfl
 ·rintro τ T ⟨⟨a3,a4,a5,a6,rfl⟩,_,hW,kp⟩;rw[show((ks.length:Int)-0).toNat=ks.length by lia,List.take_length]at hW;dsimp[jq,bools];exact⟨S.length+1,T,rfl,hW,(),kp⟩
end K15
namespace K15
open PySem L2 Am
def N2{n:Nat}{xs:ae}{g:Tg}{c:Sm}{src:Ic}(hs:src τ S=.ok (zc n xs.length) S1)(Inv:Nat->ae->iX->Prop)(Post:RS->Prop)(h0:Inv 0 τ S1)(hl:∀i τ S,Inv i τ S->iR S n=some xs)
  (step:∀(i:Nat) x τ S,xs[i]?=some x->Inv i τ S->∃τ1 S1,g (.tup [.int i,x]) τ S=.ok τ1 S1/\((∃τ' S',c τ1 S1=.nx τ' S'/\Inv (i+1) τ' S')\/(∃a S',c τ1 S1=.rt a S'/\Post (.rt a S'))))
  (fin:∀τ S,Inv xs.length τ S->Post (.nx τ S)):Post (mV src g c τ S):=by
 unfold mV;rw[hs];refine vL (s:=zc n xs.length) Inv Post (λi τ S hi' h=>?_) (λτ S h=>⟨?_,fin τ S h⟩) _ 0 τ S1 rfl h0
 ·have hi':i<xs.length:=hi';obtain⟨τ1,S1,e,q⟩:=step i xs[i] τ S (aG hi') h;exact⟨.tup [.int i,xs[i]],τ1,S1,by show(iR S n).bind _=_;rw[hl i τ S h,ef,aG hi'];rfl,e,q⟩
 ·show(match iR S n with
   | some ys=>decide (ys.length=xs.length)
   | none=>false)=true
  rw[hl _ τ S h];simp
open Fw (xR Dn Two Va rg)
def H_{n:Nat}(h2:n<=20):kB [.int n] S=.ok (.tup<|(rg n).map .int) S:=by
 unfold kB nE nU;dsimp[jq,bools,lR,Nat.reduceAdd,Nat.reduceSub,Bd<|rL (show(-1000000:Int)<=1 by decide) ⋯ (show -1000000<=(n:Int)+1 by lia) () ()]
def yF{S:iX}{x y v:ag}{n:Nat}(tx:Two n x u)(ty:Two n y v)(h1:1<=n)(h2:n<=20)(hk:Dn v ks) :
  ∃S',((Wd.led u (Gr.gk u ks)=rg n/\∃W,jo [.tup<|x.map .int,.tup<|y.map .int] S=.ok (.ref W) S'/\iR S' W=some (wd<|Gr.gp u ks 0)/\S.length<=W) \/
   (Wd.led u (Gr.gk u ks)≠rg n/\jo [.tup<|x.map .int,.tup<|y.map .int] S=.ok .non S'))/\o9 S S':=by
 have hks:ks.length<=400:=by
  rw[hk.len];have:=Iv.vc v;rw[ty.lu]at this;exact bX this<|g7 h2 h2
 have va:Va n ks:=by have:=hk.va;rwa [ty.lu]at this
 have np:=yX (S:=S) (xs:=x) (ys:=y) (by rw[tx.lo,ty.lo]);obtain⟨u',S1,e1,hb,pu,k1⟩:=uM (S:=S) tx.po (show n<=1000 by lia);have eu:u'=u:=by
  have z:=Fw.ud pu (Two.mk tx.po pu hb).uo tx.ou;exact z
 subst eu;obtain⟨F,S2,e2,g2,lF,k2⟩:=OW (S:=S1++[.lst []]) ty.po h2 ty.ou hk;have l1:S.length<=S1.length:=k1.len;have z2:iR S2 S1.length=some (wd []):=k2.lst _ _ (λz=>z) jh;have lF':S1.length<F:=by
  have:(S1++[O.lst []]).length=S1.length+1:=by simp
  lia
 unfold jo l6 l8;dsimp[jq,CD,bools,lR,Nat.reduceAdd,Nat.reduceSub,np,e1];refine N2 (n:=F) (xs:=wd ks) (S1:=S2) (show oZ _ _=_ from Kc (by dsimp[jq,CD,bools,e2]) g2)
  (λi τ T=>(∃(a4 a5:A) (l:ag) (done:am),τ=[.tup<|x.map .int,.tup<|y.map .int,.tup<|l.map .int,.ref S1.length,a4,a5]/\l.Perm (rg n)/\iR T S1.length=some (wd done)/\done.length<=i/\done++Gr.gp l (ks.drop i) i=Gr.gp u' ks 0/\Wd.led l (Gr.gk l<|ks.drop i)=Wd.led u' (Gr.gk u' ks))/\iR T F=some (wd ks)/\o9 S1 T)
  (λr=>∃S',((Wd.led u' (Gr.gk u' ks)=rg n/\∃W,RS.end (RS.seq r _)=.ok (.ref W) S'/\iR S' W=some (wd<|Gr.gp u' ks 0)/\S.length<=W) \/
   (Wd.led u' (Gr.gk u' ks)≠rg n/\RS.end (RS.seq r _)=.ok .non S'))/\o9 S S') ⟨⟨_,_,u',[],rfl,pu,z2,aN _,rfl,rfl⟩,g2,Kp.refl.lay.trans k2⟩ (λi τ T hh=>hh.2.1) ?_ ?_
 ·rintro i z τ T hz ⟨⟨a4,a5,l,done,rfl,pl,hD,dl,hgp,hgk⟩,hF,kp⟩;rw[a_]at hz;obtain⟨k,hk',rfl⟩:=bu.mp hz;obtain⟨hi,ek⟩:=aI.mp hk';rw[bU hi,ek]at hgp hgk;have hkv:=va k<|bf hk';have ll:=jS pl;refine⟨_,_,by dsimp[jq,bools,j4<|show([_,_]:ae).length=2 from rfl];rfl,.inl ?_⟩;have a1:lK (l.map A.int) ((k:Int)-1)=some (.int<|l.getD (k-1) 0):=Mr (k:=k-1) () ();have a2:lK (l.map A.int) (k:Int)=some (.int<|l.getD k 0):=Mr rfl ();unfold o_;dsimp[jq,CD,bools,a1,a2];rw[Gr.Q4]at hgp;rw[Gr.Sj]at hgk;by_cases c:l.getD (k-1) 0>l.getD k 0
  ·rw[aM c]at hgp hgk;rw[bH c];obtain⟨T2,e3,kp3⟩:=B5 (S:=T) (xs:=l) (k:=k) hkv.1 () ();have hD2:=kp3.lst _ _ (λz=>z) hD;have hF2:=kp3.lst _ _ (λz=>z) hF;have lD:=jN hD2;dsimp[jq,CD,bools,e3,hD2,zK<|show(wd done).length<16777216 by rw[aK];lia,ye];refine⟨_,_,rfl,⟨_,_,Wd.ex l k,done++[i],rfl,Fw.ug pl hkv.1 (),jA lD,by rw[aY];exact Nat.succ_le_succ dl,by rw[bS];exact hgp,hgk⟩,by rw[jy ()];exact hF2,(kp.trans kp3).set<|.inr<|aN _⟩
  ·rw[aL c]at hgp hgk;rw[bL c];dsimp[jq,bools];exact⟨_,_,rfl,⟨_,_,l,done,rfl,pl,hD,(),hgp,hgk⟩,hF,kp⟩
 ·rintro τ T ⟨⟨a4,a5,l,done,rfl,pl,hD,dl,hgp,hgk⟩,hF,kp⟩;rw[aK,List.drop_length]at hgp hgk;have hgp:done=Gr.gp u' ks 0:=by rw[<- hgp];exact(b5 _).symm
  have hgk:l=Wd.led u' (Gr.gk u' ks):=hgk;have po:=H_ (S:=T) h2;have lx:=tx.lo;refine⟨T,?_,k1.trans kp⟩;dsimp[jq,bools,aK,lx,po,z9];rw[<- hgk];by_cases c:l=rg n
  ·left;rw[bH c];dsimp[jq,bools];exact⟨c,S1.length,rfl,by rw[<- hgp];exact hD,l1⟩
  ·right;rw[bL c];dsimp[jq,bools];exact⟨c,trivial⟩
end K15
namespace K15
open PySem L2 Am
open Fw (xR Dn Two Va rg)
def G4{i:Int}:kN [.int i] S=.ok (.bl true) S:=by
 unfold kN pD qj;dsimp[jq,bools,lR,Nat.reduceAdd,Nat.reduceSub,show xW .int "int" = some true from rfl,show xW .int "bool" = some false from rfl,gT]
def ML{n:Nat}{bs:List Bool}(h:iR S n=some xs)(hb:A.Ey xs=some bs):KZ (.ref n) S=.ok (.bl<|bs.all λb=>b) S:=by
 show opt (iR S n) _=_;rw[h];show opt (A.Ey xs) _=_;rw[hb];rfl
theorem L4:∀(xs:ae),A.Ey (xs.map λ_=>.bl true)=some (xs.map λ_=>true)
 | []=>rfl
 | x::xs=>by rw[dO,tQ,L4 xs];rfl
theorem LM:∀(xs:ae),((xs.map λ_=>true).all λb=>b)=true
 | []=>rfl
 | _::xs=>LM xs
def Cn(w:am):wd w=(w.map λk:Nat=>(k:Int)).map A.int:=by unfold wd;rw[dM];rfl
def LY{a:Nat}{w:am}(h:iR S a=some (wd w))(h':iR S b=some (wd w)):yx S 12 (.ref a) (.ref b)=some true:=by
 rw[Cn]at h h';rw[Pf h h',bH rfl]
def Qp{f f' f2:A->A->iX->R A}{ca cb cc cd:Ex}{a:A}{k:Bool}(h1:ca τ S=.ok a S)(h2:cb τ S=.ok b S)(h3:f a b S=.ok (.bl true) S)(h4:cc τ S=.ok c S)(h5:f' b c S=.ok (.bl true) S)(h6:cd τ S=.ok d S)(h7:f2 c d S=.ok (.bl k) S):EB f f' f2 ca cb cc cd τ S=.ok (.bl k) S:=by
 unfold EB;rw[h1,R.ki,h2,R.ki,h3,R.ki];show(cc τ S).bind _=_;rw[h4,R.ki,h5,R.ki];show(cd τ S).bind _=_;rw[h6];exact h7
def Iz{w:am}(h:w.length=m+1):lK (wd w) (-1)=some (.int ((w.getD m 0:Nat):Int)):=by
 show((rC (wd w).length<|-1).bind λk=>(wd w)[k]?)=_;rw[aK,h];have:rC (m+1) (-1)=some m:=by
  unfold rC;rw[aL ()];simp
  lia
 rw[this];show(wd w)[m]?=_;rw[a_,aO,aG ()];rfl
def zH{x:ag}{n P:Nat}{ks:am}(t:Two n x u)(h1:1<=n)(h2:n<=20)(va:Va n ks)(hks:ks.length<=400)(home:Wd.led u (Gr.gk u ks)=rg n)(hP:iR S P=some (wd<|Gr.gp u ks 0))(hW:iR S W=some (wd ks)) :
  ∃S',kP [.ref P,.tup<|x.map .int,.ref W] S=.ok (.bl true) S'/\o9 S S':=by
 obtain⟨ps,hps⟩:∃ps,ps=Gr.gp u ks 0:=⟨_,rfl⟩;have lp:ps.length<=400:=by rw[hps];exact bX (Gr.D3 _ _ _) hks
 have pin:∀p∈ps,p<ks.length:=λp hp=>by have:=Gr.zh ks u 0 p (by rw[<- hps];exact hp);lia
 have pw:ps.Pairwise (· < ·):=by rw[hps];exact Gr.FF _ _ _
 have pg:ps.map (λp=>ks.getD p 0)=Gr.gk u ks:=by rw[hps];exact Gr.Js ks u 0
 rw[<- hps]at hP;have vk:Va n (Gr.gk u ks):=λk hk=>va k<|Gr.Bc ks u hk;have hled:=Gr.K5 t vk home;have hlen:(Gr.gk u ks).length=Iv.inv x:=by
  have:=Gr.BO ks u (by rw[t.lu];exact va);rw[home,Fw.Jb]at this;rw[t.inv];lia
 have lw:(wd ps).length=ps.length:=by rw[aK]
 have cc:=zN (cap:=[]) (src:=zI<|iO 0) (t:=Fc) (e:=eFn kN<|iP (iO 0)<|iY) (τ:=[.ref P,.tup<|x.map .int,.ref W,.unb]) (S:=S) (BF (by dsimp[jq,bools]) hP) hP (λ_=>true) (λ_=>.bl true) (λ_ _=>rfl) (λz hz _=>by
  obtain⟨k,_,rfl⟩:=eF.mp hz;dsimp[jq,bools,G4])<|by rw[lw];lia
 rw[List.filter_eq_self.mpr λ_ _=>rfl]at cc;have al:KZ (.ref S.length) (S++[O.lst<|(wd ps).map λ_=>A.bl true])=.ok (.bl true) (S++[O.lst<|(wd ps).map λ_=>A.bl true]):=by
  rw[ML jh<|L4 _,LM]
 have k1:o9 S (S++[O.lst<|(wd ps).map λ_=>A.bl true]):=Kp.refl.lay;obtain⟨S1,hS1⟩:∃S1,S1=S++[O.lst<|(wd ps).map λ_=>A.bl true]:=⟨_,rfl⟩;rw[<- hS1]at al cc k1;have p1:=k1.lst _ _ (λz=>z) hP;have ss:Pu (.ref P) S1=.ok (.ref S1.length) (S1++[.lst<|wd ps]):=by
  show opt (iR S1 P) _=_;rw[p1,j_,Cn,ints_map,j_,Ek ⟨by rw[aK];lia,fR.mpr<|pw.imp λh=>()⟩]
 obtain⟨S2,hS2⟩:∃S2,S2=S1++[O.lst<|wd ps]:=⟨_,rfl⟩;rw[<- hS2]at ss;have k2:o9 S1 S2:=by rw[hS2];exact Kp.refl.lay
 have p2:=k2.lst _ _ (λz=>z) p1;have q2:uL true (.ref P) (.ref S1.length) S2=.ok (.bl false) S2:=BA (LY p2<|by rw[hS2];exact jh);obtain⟨S3,hS3⟩:∃S3,S3=S2++[O.lst []]:=⟨_,rfl⟩;have k3:o9 S2 S3:=by rw[hS3];exact Kp.refl.lay
 have n3:iR S3 S2.length=some []:=by rw[hS3];exact jh
 have p3:=k3.lst _ _ (λz=>z) p2;have w3:=k3.lst _ _ (λz=>z)<|k2.lst _ _ (λz=>z)<|k1.lst _ _ (λz=>z) hW;have tst:Ew (rB<|iZ (uL true) (iO 0)<|qq iY) (wu<|rB<|EB JG JG EH (eC<|.int 0) (iZ lX (iO 0)<|eC<|.int 0) (iZ lX (iO 0)<|Lq EK<|eC<|.int 1)<|je (f1 kq)<|iP (iO 2) iY) [.ref P,.tup<|x.map .int,.ref W,.unb] S2=.ok false S3:=by
  cases e:ps with
  | nil=>
   rw[e]at p3;have q3:uL true (.ref P) (.ref S2.length) S3=.ok (.bl false) S3:=BA<|LY (w:=[]) p3 n3;dsimp[jq,bools,<- hS3,q3]
  | cons p ps'=>
   have q3:uL true (.ref P) (.ref S2.length) S3=.ok (.bl true) S3:=by
    rw[BA (S:=S3) (k:=false) ?_]
    ·rfl
    ·rw[e]at p3;exact eq_nil p3 n3
   have f0:lK (wd ps) 0=some (.int (p:Int)):=by rw[e];exact xT
   have fl:=Iz (w:=ps) (m:=ps'.length) (by rw[e];rfl);have le:p<=ps.getD ps'.length 0:=by
    rw[e]
    cases ps' with
    | nil=>exact aN _
    | cons a b=>
     rw[e]at pw;have:=(cL.mp pw).1 ((a::b)[b.length]'(by simp))<|cD _;rw[aO,List.getElem?_cons,bq];dsimp[Nat.add_eq_zero_iff,Nat.succ_ne_zero,and_false,cK,Nat.add_sub_cancel];rw[aG<|by simp];exact iD this
   have lt:ps.getD ps'.length 0<ks.length:=by
    rw[aO,aG<|by rw[e];simp];exact pin _<|cD _
   have ch:=Qp (f:=JG) (f':=JG) (f2:=EH) (ca:=eC<|.int 0) (cb:=iZ lX (iO 0)<|eC<|.int 0) (cc:=iZ lX (iO 0)<|Lq EK<|eC<|.int 1) (cd:=je (f1 kq)<|iP (iO 2) iY) (τ:=[.ref P,.tup<|x.map .int,.ref W,.unb]) (S:=S3) (a:=.int 0) (b:=.int (p:Int)) (c:=.int ((ps.getD ps'.length 0:Nat):Int)) (d:=.int (ks.length:Int)) (k:=true)
    (by dsimp[jq,bools]) (by dsimp[jq,bools,p3,f0]) (by dsimp[jq,bools];rw[bH ()]) (by dsimp[jq,bools,p3,fl]) (by dsimp[jq,bools];rw[bH ()]) (by dsimp[jq,bools,w3,aK]) (by dsimp[jq,bools];rw[bH ()])
   dsimp[jq,bools,<- hS3,q3,ch,d8]
 have c4:=zN (cap:=[some 2]) (src:=zI<|iO 0) (t:=Fc) (e:=iZ lX (iO 1)<|iO 0) (τ:=[.ref P,.tup<|x.map .int,.ref W,.unb]) (S:=S3) (BF (by dsimp[jq,bools]) p3) p3 (λ_=>true) (λz=>match z with
   | .int i=>.int ((ks.getD i.toNat 0:Nat):Int)
   | _=>.non) (λ_ _=>rfl) (λz hz _=>by
  obtain⟨k,hk,rfl⟩:=eF.mp hz;have:=pin k hk;have e:lK (wd ks) (k:Int)=some (.int ((ks.getD k 0:Nat):Int)):=yi (k:=k) rfl (by rw[a_,aO,aG this];rfl);dsimp[jq,bools,w3,e,bE])<|by rw[lw];lia
 rw[List.filter_eq_self.mpr λ_ _=>rfl,dM,show((λz:A=>match z with
   | .int i=>A.int ((ks.getD i.toNat 0:Nat):Int)
   | _=>A.non) ∘ λk:Nat=>A.int (k:Int))=(λk:Nat=>A.int (k:Int)) ∘ λp=>ks.getD p 0 from rfl,<- dM,pg]at c4
 obtain⟨S4,hS4⟩:∃S4,S4=S3++[O.lst<|wd<|Gr.gk u ks]:=⟨_,rfl⟩;have k4:o9 S3 S4:=by rw[hS4];exact Kp.refl.lay
 have g4:iR S4 S3.length=some (wd<|Gr.gk u ks):=by rw[hS4];exact jh
 rw[<- hS4]at c4;obtain⟨S5,e5,k5⟩:=OE (S:=S4) g4 vk h1 h2;rw[show Wd.led (i9 1<|(n:Int)+1) (Gr.gk u ks)=x from hled]at e5;have g5:=k5.lst _ _ (λz=>z) g4;obtain⟨D,S6,e6,g6,k6⟩:=Lr (S:=S5) (xs:=x) t.lo h1 h2;have wi:=IX t.lo h1;rw[<- hlen]at wi;have lx:=t.lo;refine⟨S6,?_,((((k1.trans k2).trans k3).trans k4).trans k5).trans k6⟩;dsimp[jq,bools]at tst;unfold kP pO qc;dsimp[jq,bools,lR,Nat.reduceAdd,Nat.reduceSub,hP,gH,show xW .lst "list" = some true from rfl,d8,cc,al,Mx,ss,q2,tst,c4,aK,lx,e5,z9,decide_true,g5,e6,g6,wi,bz]
end K15
namespace K15
open PySem L2 Am
open Fw (xR Dn Two Va rg)
def Bh{xs ys:ag}(h:xs.length≠ys.length)(h1:xs.length<=1000)(h2:ys.length<=1000):∃S',kC [.tup<|xs.map .int,.tup<|ys.map .int] S=.ok (.bl true) S'/\o9 S S':=by
 have e0:=Kq (S:=S) h h1 h2;have e1:jo [.tup<|xs.map .int,.tup<|ys.map .int] S=.ex "NoPair" S:=by
  unfold jo l6 l8;dsimp[jq,CD,bools,lR,Nat.reduceAdd,Nat.reduceSub,e0]
 unfold kC nN nJ;dsimp[jq,CD,bools,lR,Nat.reduceAdd,Nat.reduceSub,e1];rw[Ob (jL jh) jh ⋯];dsimp[jq,CD,bools];rw[MW jh (bs:=[false,false,false,false,false,false,false]) rfl];dsimp[jq,CD,bools];exact⟨_,rfl,Kp.refl.lay.lay.lay⟩
def DU{x y:ag}{n:Nat}(px:x.Perm<|i9 1<|(n:Int)+1)(py:y.Perm<|i9 1<|(n:Int)+1)(h1:1<=n)(h2:n<=20):∃S',lT [.tup<|x.map .int,.tup<|y.map .int] S=.ok (.bl true) S'/\o9 S S':=by
 obtain⟨u,_,_,hu,pu,_⟩:=uM (S:=S) px (show n<=1000 by lia);obtain⟨v,_,_,hv,pv,_⟩:=uM (S:=S) py (show n<=1000 by lia);have tx:Two n x u:=⟨px,pu,hu⟩;have ty:Two n y v:=⟨py,pv,hv⟩;obtain⟨ks,hk⟩:=Fw.zg _ v<|aN _;have va:Va n ks:=by have:=hk.va;rwa [ty.lu]at this
 have hks:ks.length<=400:=by
  rw[hk.len];have:=Iv.vc v;rw[ty.lu]at this;exact bX this<|g7 h2 h2
 have hh:=(Bl.BP px py hu hv pu pv).symm.trans<|Gr.yE ks pu pv hk;obtain⟨S1,d1,k1⟩:=J0 (S:=S) px py h1 h2;unfold lT qP rf
 rcases d1 with⟨e1,hb⟩|⟨i,j,e1,_,_,_,_,hb⟩
 ·have home:=hh.mp hb;obtain⟨W,S2,e2,g2,lW,k2⟩:=EL (S:=S1) ty h1 h2 hk;obtain⟨S3,d3,k3⟩:=yF (S:=S2) tx ty h1 h2 hk
  rcases d3 with⟨_,P,e3,g3,lP⟩|⟨z,_⟩
  ·have w3:=k3.lst _ _ (λz=>z) g2;have lW2:=jN g2;obtain⟨S4,e4,k4⟩:=zH (S:=S3) tx h1 h2 va hks home g3 w3;have g4:=k4.lst _ _ (λz=>z) g3;have w4:=k4.lst _ _ (λz=>z) w3;obtain⟨S5,hS5⟩:∃S5,S5=S4.set P (.lst<|wd (Gr.gp u ks 0)++[.int 0]):=⟨_,rfl⟩;have w5:iR S5 W=some (wd ks):=by rw[hS5,jy ()];exact w4
   have k5:o9 S S5:=by
    rw[hS5];exact(((k1.trans k2).trans k3).trans k4).set (.inr (by have:=k1.len;have:=k2.len;lia))
   have lg:(wd<|Gr.gp u ks 0).length<16777216:=by
    have:=Gr.D3 ks u 0;rw[aK];lia
   obtain⟨S6,d6,k6⟩:=yF (S:=S5) tx ty h1 h2 hk
   rcases d6 with⟨_,P',e6,g6,_⟩|⟨z,_⟩
   ·have w6:=k6.lst _ _ (λz=>z) w5;obtain⟨S7,e7,k7⟩:=zH (S:=S6) tx h1 h2 va hks home g6 w6;refine⟨S7,?_,(k5.trans k6).trans k7⟩;dsimp[jq,CD,bools,lR,Nat.reduceAdd,Nat.reduceSub,e1,e2,e3,e4,d8,g4,zK lg,<- hS5,e6,e7]
   ·exact absurd home z
  ·exact absurd home z
 ·have home:Wd.led u (Gr.gk u ks)≠rg n:=λz=>by
   have:=(hh.mpr z) i j;have:=hb.1
   lia
  obtain⟨S3,d3,k3⟩:=yF (S:=S1) tx ty h1 h2 hk
  rcases d3 with⟨z,_⟩|⟨_,e3⟩
  ·exact absurd z home
  ·refine⟨S3,?_,k1.trans k3⟩;dsimp[jq,CD,bools,lR,Nat.reduceAdd,Nat.reduceSub,e1,e3]
def NK(ns:ag)(hl:ns.length<=63):∃S',xx [.frz<|ns.map .int] []=.ok (.bl true) S':=by
 unfold xx IY Gn;dsimp[jq,bools,lR,Nat.reduceAdd,Nat.reduceSub];refine oG (lo:=0) (hi:=if (if (ns.length:Int)<3 then(ns.length:Int)else 3)>1 then(if (ns.length:Int)<3 then(ns.length:Int)else 3)else 1) (S1:=[]) (show D7 _ _=_ from nZ (by dsimp[jq,bools,aK])<|kW (by split<;>split<;>lia)<|by split<;>split<;>lia)
  (λ_ τ _=>∃a1 a2 a3 a4 a5:A,τ=[.frz<|ns.map .int,a1,a2,a3,a4,a5]) (λr=>∃S',RS.end (RS.seq r _)=.ok (.bl true) S') ⟨_,_,_,_,_,rfl⟩ ?_ ?_
 ·rintro i τ S hi ⟨a1,a2,a3,a4,a5,rfl⟩;left;have hi6:(i:Int)<3:=by split at hi<;>split at hi<;>lia
  obtain⟨S1,e1,b1,kp1⟩:=K3 (S:=S) (ns:=ns) (k:=0+(i:Int)) () ();obtain⟨d,S2,e2,d0,d1,b2,kp2⟩:=digit (m:=20) b1 ⋯ ⋯;obtain⟨n,hn⟩:∃n:Nat,(n:Int)=1+d:=⟨(1+d).toNat,()⟩;obtain⟨x,y,S3,e3,px,py,b3,kp3⟩:=JX (n:=n) b2 () ();obtain⟨S4,e4,k4⟩:=DU (S:=S3) px py () ();obtain⟨S5,e5,k5⟩:=DU (S:=S4) py px () ();have lx:=jS px;have ly:=jS py;obtain⟨S6,e6,k6⟩:=Bh (S:=S5) (xs:=x) (ys:=y++[(n:Int)+1]) (by rw[aY,lx,ly];simp) () (by rw[aY,ly];simp;lia);rw[cM]at e6;have ad:jJ (.tup<|y.map .int) (.tup [.int<|(n:Int)+1]) S5=.ok (.tup<|y.map .int++[.int<|(n:Int)+1]) S5:=Ek (by rw[aK,ly];show n+1<=16777216;lia);unfold Eg;dsimp[jq,bools,e1,e2,<- hn,e3,j4<|show([_,_]:ae).length=2 from rfl,e4,e5,d8];by_cases c:(n:Int)<20
  ·rw[bH c];dsimp[jq,bools,mS<|show([_]:ae).length<=16777216 by simp,ad];rw[show(y.map A.int++[A.int<|(n:Int)+1])=y.map A.int++[(n:Int)+1].map A.int from rfl,e6];dsimp[jq,bools,d8];exact⟨_,_,rfl,_,_,_,_,_,rfl⟩
  ·rw[bL c];dsimp[jq,bools];exact⟨_,_,rfl,_,_,_,_,_,rfl⟩
 ·rintro τ S ⟨a1,a2,a3,a4,a5,rfl⟩;dsimp[jq,bools];exact⟨_,rfl⟩
end K15
namespace K15
open PySem L2 Am
def all_mk{l:PySem.W.OpenLaw}{w:af}{K:au}{h:ak}{mg:Str->bd}{fa:aj}(X:K.In h)(G:h.Ns mainGlobals mg)(hfa:mg "law" = some (.ref fa))
  (a1:Df K "is_whole" qV)
  (a2:Df K "plain_order" ny)
  (a3:Df K "need_pair" pS)
  (a4:Df K "back" AX)
  (a5:Df K "is_exchange" nM)
  (a6:Df K "exchanged_places" kF)
  (a7:Df K "exchanged" pZ)
  (a8:Df K "falls" yW)
  (a9:Df K "first_word" oX)
  (a10:Df K "kept_places" nH)
  (a11:Df K "_law_bag" sJ)
  (a12:Df K "_law_digit" pU)
  (a13:Df K "_law_any" t8)
  (a14:Df K "_law_order" pX)
  (a15:Df K "_law_raised" oM)
  (a16:Df K "_law_pair" rA)
  (a17:Df K "_law_bar" tH)
  (a18:Df K "_law_wrong" p8)
  (a19:Df K "_law_whole" pM)
  (a20:Df K "_law_first" pR)
  (a21:Df K "_law_led" tU)
  (a22:Df K "_law_right" qp)
  (a23:Df K "_law_refused" nR)
  (a24:Df K "_law_good" qQ)
  (a25:Df K "law" GA)
  (UD:PySem.W.nsIn K mainGlobals "isinstance" = some none)
  (UE:PySem.W.nsIn K mainGlobals "bool" = some none)
  (UG:PySem.W.nsIn K mainGlobals "int" = some none)
  (UH:PySem.W.nsIn K mainGlobals "tuple" = some none)
  (UI:PySem.W.nsIn K mainGlobals "range" = some none)
  (UJ:PySem.W.nsIn K mainGlobals "len" = some none)
  (UK:PySem.W.nsIn K mainGlobals "enumerate" = some none)
  (UL:PySem.W.nsIn K mainGlobals "list" = some none)
  (UM:PySem.W.nsIn K mainGlobals "abs" = some none)
  (UN:PySem.W.nsIn K mainGlobals "max" = some none)
  (UO:PySem.W.nsIn K mainGlobals "min" = some none)
  (UP:PySem.W.nsIn K mainGlobals "all" = some none)
  (UQ:PySem.W.nsIn K mainGlobals "sorted" = some none)
  (UR:PySem.W.nsIn K mainGlobals "set" = some none)
  (US:PySem.W.nsIn K mainGlobals "any" = some none)
  (UT:PySem.W.nsIn K mainGlobals "ValueError" = some none)
  {U C_NoPair C_NoWord C_NoTables C_NoRow C_NoNumber C_NoName C_TooMany C_NoText:aj} (u0:PySem.W.nsIn K mainGlobals "UnderError" = some (some<|.ref U)) (u1:L2.mroIn K U=some Nb)
  (Tv:ExcK K U "NoPair" C_NoPair)
  (Tw:ExcK K U "NoWord" C_NoWord)
  (n_NoTables:PySem.W.nsIn K mainGlobals "NoTables" = some (some<|.ref C_NoTables))
  (n_NoRow:PySem.W.nsIn K mainGlobals "NoRow" = some (some<|.ref C_NoRow))
  (n_NoNumber:PySem.W.nsIn K mainGlobals "NoNumber" = some (some<|.ref C_NoNumber))
  (n_NoName:PySem.W.nsIn K mainGlobals "NoName" = some (some<|.ref C_NoName))
  (n_TooMany:PySem.W.nsIn K mainGlobals "TooMany" = some (some<|.ref C_TooMany))
  (n_NoText:PySem.W.nsIn K mainGlobals "NoText" = some (some<|.ref C_NoText))
  (k_NoWord_NoTables:PySem.W.kitOne K (.ref C_NoWord) (.ref C_NoTables)=some false)
  (k_NoPair_NoTables:PySem.W.kitOne K (.ref C_NoPair) (.ref C_NoTables)=some false)
  (k_NoWord_NoRow:PySem.W.kitOne K (.ref C_NoWord) (.ref C_NoRow)=some false)
  (k_NoPair_NoRow:PySem.W.kitOne K (.ref C_NoPair) (.ref C_NoRow)=some false)
  (k_NoWord_NoNumber:PySem.W.kitOne K (.ref C_NoWord) (.ref C_NoNumber)=some false)
  (k_NoPair_NoNumber:PySem.W.kitOne K (.ref C_NoPair) (.ref C_NoNumber)=some false)
  (k_NoWord_NoName:PySem.W.kitOne K (.ref C_NoWord) (.ref C_NoName)=some false)
  (k_NoPair_NoName:PySem.W.kitOne K (.ref C_NoPair) (.ref C_NoName)=some false)
  (k_NoWord_TooMany:PySem.W.kitOne K (.ref C_NoWord) (.ref C_TooMany)=some false)
  (k_NoPair_TooMany:PySem.W.kitOne K (.ref C_NoPair) (.ref C_TooMany)=some false)
  (k_NoWord_NoWord:PySem.W.kitOne K (.ref C_NoWord) (.ref C_NoWord)=some true)
  (k_NoPair_NoWord:PySem.W.kitOne K (.ref C_NoPair) (.ref C_NoWord)=some false)
  (k_NoWord_NoText:PySem.W.kitOne K (.ref C_NoWord) (.ref C_NoText)=some false)
  (k_NoPair_NoText:PySem.W.kitOne K (.ref C_NoPair) (.ref C_NoText)=some false)
  (k_NoWord_NoPair:PySem.W.kitOne K (.ref C_NoWord) (.ref C_NoPair)=some false)
  (k_NoPair_NoPair:PySem.W.kitOne K (.ref C_NoPair) (.ref C_NoPair)=some true)
  : ∃fd:FuncData,(∀(s:aA) (v:aa),BindsTo s fd ⟨[v],[]⟩ [("_law_script",v)])/\∀base:ak,K.In base->base.Ns mainGlobals mg->FnOk l.prog w K mg base qF 7 fa fd ["_law_script"] (sH K 1 xx):=by
 obtain⟨f,fd,a,F⟩:=a25;have e:=hfa.symm.trans (cP X G a)
 cases e
 have Um:=cP X G n_NoTables;have Uo:=cP X G n_NoRow;have Uq:=cP X G n_NoNumber;have Ur:=cP X G n_NoName;have Us:=cP X G n_TooMany;have Ut:=cP X G Tw.n;have Uu:=cP X G n_NoText;have Uv:=cP X G Tv.n;have TF:=bI X G UD;have TQ:=bI X G UE;have TM:=bI X G UG;have TH:=bI X G UH;have Tz:=bI X G UI;have Tu:=bI X G UJ;have TR:=bI X G UK;have TJ:=bI X G UL;have Ud:=bI X G UM;have TX:=bI X G UN;have TY:=bI X G UO;have Uh:=bI X G UP;have Ui:=bI X G UQ;have Uj:=bI X G UR;have Uw:=bI X G US;have Ux:=bI X G UT;refine⟨fd,λs v=>(by obtain⟨_,_,_,_,_,_,_,_,_,rfl,_,_⟩:=F.ex;exact .of_eq rfl),λbase _ _=>?_⟩;have E:En l.prog w K mg base:=⟨h,X,G⟩;have T8:=a1.kA E (λF=>AJ F TF TQ TM)<|LZ λ_ _ _ _ _ _ _=>rfl;have Uc:=a2.kA E (λF=>wm F TH Tz)<|LZ λ_ _ _ _ _ _ _=>rfl;have Ua:=a3.kX E (λF=>yL F Tv Tu)<|Em λ_ _ _ _ _ _ _ _=>rfl;have TU:=a4.kA E (λF=>J6 F Tu TR TH)<|LZ λ_ _ _ _ _ _ _=>rfl;have T9:=a5.kA E (λF=>vZ F T8)<|Em λ_ _ _ _ _ _ _ _=>rfl;have T_:=a6.kA E (λF=>qA F TJ TH)<|RZ λ_ _ _ _ _ _ _ _ _=>rfl;have TV:=a7.kX E (λF=>yS F Tw Tu T9 T_)<|Em λ_ _ _ _ _ _ _ _=>rfl;have T4:=a8.kA E (λF=>F4 F Tz Tu)<|LZ λ_ _ _ _ _ _ _=>rfl;have Ub:=a9.kX E (λF=>wK F TU T4 TV)<|LZ λ_ _ _ _ _ _ _=>rfl;have TN:=a10.kX E (λF=>vI F TR Tu Ua TU Ub TV Uc)<|Em λ_ _ _ _ _ _ _ _=>rfl;have UA:=a11.kA E (λF=>Ba F Tu Ud TM)<|Em λ_ _ _ _ _ _ _ _=>rfl;have TL:=a12.kA E (λF=>yq F)<|Em λ_ _ _ _ _ _ _ _=>rfl;have Ue:=a13.kA E (λF=>A_ F TJ Tz Tu TH TL)<|Em λ_ _ _ _ _ _ _ _=>rfl;have T5:=a14.kA E (λF=>yT F TJ Tz TH TL Ue)<|Em λ_ _ _ _ _ _ _ _=>rfl;have Ug:=a15.kA E (λF=>wJ F TJ Tz Tu TX TY TH TL)<|RZ λ_ _ _ _ _ _ _ _ _=>rfl;have UB:=a16.kA E (λF=>zu F T5 TL Ug)<|Em λ_ _ _ _ _ _ _ _=>rfl;have Uy:=a17.kA E (λF=>A4 F Tu Tz TM)<|Em λ_ _ _ _ _ _ _ _=>rfl;have TZ:=a18.kA E (λF=>yv F Tu Tz)<|LZ λ_ _ _ _ _ _ _=>rfl;have Uk:=a19.kA E (λF=>xX F TF TQ TM)<|LZ λ_ _ _ _ _ _ _=>rfl;have Uz:=a20.kA E (λF=>yJ F TJ Tz Tu TZ)<|LZ λ_ _ _ _ _ _ _=>rfl;have Ul:=a21.kA E (λF=>BQ F TJ Tz TH)<|Em λ_ _ _ _ _ _ _ _=>rfl;have T6:=a22.kA E (λF=>yR F Uh TF TJ Tu Ui Uj Uk TZ Ul)<|RZ λ_ _ _ _ _ _ _ _ _=>rfl;have UC:=a23.kA E (λF=>vP F u0 u1 Tw Tv Um Uo Uq Ur Us Ut Uu Uv k_NoWord_NoTables k_NoPair_NoTables k_NoWord_NoRow k_NoPair_NoRow k_NoWord_NoNumber k_NoPair_NoNumber k_NoWord_NoName k_NoPair_NoName k_NoWord_TooMany k_NoPair_TooMany k_NoWord_NoWord k_NoPair_NoWord k_NoWord_NoText k_NoPair_NoText k_NoWord_NoPair k_NoPair_NoPair TF Uw Ux TN)<|Em λ_ _ _ _ _ _ _ _=>rfl;have T7:=a24.kA E (λF=>Aq F Uy TN Uz T6)<|Em λ_ _ _ _ _ _ _ _=>rfl;exact Om F Tz TX TY Tu UA TL UB T7 UC
def walk{l:PySem.W.OpenLaw}{q:ah}{XP:(Str->bd)->ak->Prop}{YP:af->ak->Prop}{d:DefRec}{K:Params->au}(hn:l.most=some 63)(hdf:d.params.defaults=[])
  (hY:∀(w:af) (h:ak),YP w h->(K w.params).In h)
  (F:∀(w:af) (mg:Str->bd) (fa:aj) (h:ak),(K w.params).In h->h.Ns mainGlobals mg->mg d.name=some (.ref fa) ->
   ∃fd:FuncData,(∀(s:aA) (u:aa),BindsTo s fd ⟨[u],[]⟩ [("_law_script",u)])/\∀base:ak,(K w.params).In base->base.Ns mainGlobals mg->FnOk l.prog w (K w.params) mg base qF 7 fa fd ["_law_script"] (sH (K w.params) 1 xx)) :
  PySem.W.WalkO q loose XP YP l.row.toRowW d [] (λf vs=>PySem.call f vs):=
 L2.KI (n:=63) (k:=7) (x := "_law_script") (CX:=λ_=>qF) (sp:=λw=>sH (K w.params) 1 xx) hn ⋯ hdf ⟨rfl,by decide,by decide⟩ hY F (λ_ H a ns hl hO hS=>E4 hO hS<|NK ns hl) λ_ _ _ _ _ z=>z
end K15
open PySem PySem.W PyProof.Rows
namespace PySem.W.Fast
def tw13631290681788951498:=Nat
def tw13409752818562536324:=Nat
def tw16136475402712933539:=Nat
def tw4565919629501008582:=Nat
def tw13630495883394277726:=Nat
def tw6014879269303374079:=Nat
def tw1511053417018351054:=Nat
def tw8249274777394032491:=Nat
def tw17550465013294427820:=Nat
def tw3353931121235768569:=Nat
def tw13868128121910608517:=Nat
def tw4950843100241759285:=Nat
def tw7357537973139711943:=Nat
def tw338838248608595208:=Nat
def tw10766821074556004475:=Nat
def tw8870434835270685968:=Nat
def tw388840273970276451:=Nat
def tw16763726033516344128:=Nat
def tw6682004364997335392:=Nat
def tw6652893184874790590:=Nat
def tw4572313044977623247:=Nat
def tw11930933701573755695:=Nat
def tw2064443247637859450:=Nat
def tw4283458390118617927:=Nat
def tw4273360702404609980:=Nat
def tw13021416846074172300:=Nat
def tw9304264594125838927:=Nat
def tw11655106947680822509:=Nat
def tw9411040021776614284:=Nat
def tw6172987705461121491:=Nat
def tw4791594644163404389:=Nat
def tw9784554126976611015:=Nat
def tw3896441014144633210:=Nat
def tw1295244247966993056:=Nat
def tw3048873201848625389:=Nat
def tw18368175390928549345:=Nat
def tw14910046866638989875:=Nat
def tw8371871767254508924:=Nat
def tw53693140276684814:=Nat
def tw6848197400041139073:=Nat
def tw10330977796006956857:=Nat
def tw8387044290907327226:=Nat
def tw8005866084473568455:=Nat
def tw3610158994461389670:=Nat
def tw6951424428086619127:=Nat
def tw5389574576787772772:=Nat
def tw7740947956210120831:=Nat
def tw2379462096032634103:=Nat
def tw13756049450355484732:=Nat
def tw3505566356850732172:=Nat
def tw7253615138537050583:=Nat
def tw7057679967112483373:=Nat
def tw11829797026709328182:=Nat
def tw5424871924337208293:=Nat
def tw2936413417974939904:=Nat
def tw7470922187519869807:=Nat
def tw14518151718324320526:=Nat
def tw12753892929532023558:=Nat
def tw7874606033554308762:=Nat
def tw2227478529689768064:=Nat
def tw4784768200111567683:=Nat
def tw2742077068752202964:=Nat
def tw2754212769857468255:=Nat
def tw10635382460516365951:=Nat
def tw4797907957986708772:=Nat
def tw2242745109325116799:=Nat
def tw10725375779533635694:=Nat
def tw13262461931207451289:=Nat
def tw15261516903034604906:=Nat
def tw3368802915202549916:=Nat
def tw11869696738206333034:=Nat
def tw13039508348820578276:=Nat
def tw716413100795116184:=Nat
def tw2894050773177089422:=Nat
def tw13416505675265590894:=Nat
def tw13623951844593600407:=Nat
def tw3277326871343941790:=Nat
def tw11254080527056234597:=Nat
def tw1689352788964961983:=Nat
def tw18409084189521327039:=Nat
def tw13696848146987638139:=Nat
def tw2708981339408916665:=Nat
def tw5628048909834851725:=Nat
def tw6170140845988685577:=Nat
def tw7552338810315347630:=Nat
def tw969145161476147536:=Nat
def tw14141023417543808692:=Nat
def tw8869695180410250590:=Nat
def tw7467205486075240814:=Nat
def tw8683166801778454942:=Nat
def tw13455264601282331566:=Nat
def tw12910805450656287955:=Nat
def tw11522934703451631159:=Nat
def tw7818809238851822070:=Nat
def tw3295870841086107709:=Nat
def tw12292480249988532619:=Nat
def tw17036536281980515028:=Nat
def tw17321343670179688863:=Nat
def tw14389221401873331:=Nat
def tw13940553454455445148:=Nat
def tw18149373935789375497:=Nat
def tw3039197045229191551:=Nat
def tw15713535324627883334:=Nat
def tw4647173978605219279:=Nat
def tw15185701314524877246:=Nat
def tw8290173585016137990:=Nat
def tw6188623143428451220:=Nat
def tw5822052189939835858:=Nat
def tw12097108653797721856:=Nat
def tw6421608353182545477:=Nat
def tw10637962228782325730:=Nat
def tw9905966299919114256:=Nat
def tw3518168156939778291:=Nat
def tw9545924828015598371:=Nat
def tw14704443416783608430:=Nat
def tw1585955523906353015:=Nat
def tw11553820410768456759:=Nat
def tw2321578435064678912:=Nat
def tw10899564782620984521:=Nat
def tw4674844597084567488:=Nat
def tw16047195084052690609:=Nat
def tw9226206971019479378:=Nat
def tw765183460125022575:=Nat
def tw14844726182662610044:=Nat
def tw17033231384367224213:=Nat
def tw16866995106497865920:=Nat
def tw8838329603388099113:=Nat
def tw17871144384972270112:=Nat
def tw4889839977302201157:=Nat
def tw3443643496372032442:=Nat
def tw2011083747864058476:=Nat
def tw12765727618308009052:=Nat
def tw11836265929020520053:=Nat
def tw11954571976719735995:=Nat
def tw16676750215973946995:=Nat
def tw5102462306006354224:=Nat
def tw12385934827398249243:=Nat
def tw16116414097285226905:=Nat
def tw14381922296596873847:=Nat
def tw14001470001769112659:=Nat
end PySem.W.Fast
set_option maxRecDepth 100000 in
set_option maxHeartbeats 0 in
theorem PySem.Challenge.cw_undercells_k15_words_with_numbers_left_o_holds : PySem.Challenge.rw_undercells_k15_words_with_numbers_left_o.Holds := by
 w_on;o_law;k_head;(case hw=>w_witness2)
 k_fill
 refine K15.walk (l:=PySem.Challenge.rw_undercells_k15_words_with_numbers_left_o) rfl rfl (fun w h Y=>PySem.W.kIn_of Y) ?F
 case F=>
  intro w mg fa h KX G hmg;refine' K15.all_mk KX G hmg (.of ?_ ?_ ?_ ?_) (.of ?_ ?_ ?_ ?_) (.of ?_ ?_ ?_ ?_) (.of ?_ ?_ ?_ ?_) (.of ?_ ?_ ?_ ?_) (.of ?_ ?_ ?_ ?_) (.of ?_ ?_ ?_ ?_) (.of ?_ ?_ ?_ ?_) (.of ?_ ?_ ?_ ?_) (.of ?_ ?_ ?_ ?_) (.of ?_ ?_ ?_ ?_) (.of ?_ ?_ ?_ ?_) (.of ?_ ?_ ?_ ?_) (.of ?_ ?_ ?_ ?_) (.of ?_ ?_ ?_ ?_) (.of ?_ ?_ ?_ ?_) (.of ?_ ?_ ?_ ?_) (.of ?_ ?_ ?_ ?_) (.of ?_ ?_ ?_ ?_) (.of ?_ ?_ ?_ ?_) (.of ?_ ?_ ?_ ?_) (.of ?_ ?_ ?_ ?_) (.of ?_ ?_ ?_ ?_) (.of ?_ ?_ ?_ ?_) (.of ?_ ?_ ?_ ?_) ?_ ?_ ?_ ?_ ?_ ?_ ?_ ?_ ?_ ?_ ?_ ?_ ?_ ?_ ?_ ?_ ?_ ?_ ⟨(show nsIn _ _ _=_ from ?_),?_,?_,⟨?_,?_,?_,?_,?_⟩,?_,?_⟩ ⟨(show nsIn _ _ _=_ from ?_),?_,?_,⟨?_,?_,?_,?_,?_⟩,?_,?_⟩ ?_ ?_ ?_ ?_ ?_ ?_ ?_ ?_ ?_ ?_ ?_ ?_ ?_ ?_ ?_ ?_ ?_ ?_ ?_ ?_ ?_ ?_
  any_goals first|k_is|kernel_rfl
