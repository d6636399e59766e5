import PyProof.Rows.All
import Wide.All
import OpenK.AllK
import Wide.FinOn
import Lean
import PyProof.EqAt
import PyProof.EqKinds
import PyProof.TupleCall
import PySem.Challenge.RW_undercells_k29_products_grouped
set_option autoImplicit true
set_option relaxedAutoImplicit true
set_option Elab.async false
set_option linter.all false
set_option maxRecDepth 100000
set_option maxHeartbeats 4000000
local macro_rules|`(command|abbrev $n:declId $s:optDeclSig $v:declVal)=>`(command|noncomputable def $n:declId $s:optDeclSig $v:declVal)|`(command|meta abbrev $n:declId $s:optDeclSig $v:declVal)=>`(command|@[reducible]noncomputable def $n:declId $s:optDeclSig $v:declVal)
local macro_rules|`(∅)=>`(by decide +kernel)
local macro_rules|`(⋯)=>`(by decide)
local macro_rules|`(tactic|dsimp[$l,*])=>`(tactic|simp only[$l,*])|`(tactic|dsimp[$l,*]$o:location)=>`(tactic|simp only[$l,*]$o:location)
local macro_rules(kind:=Lean.Parser.Term.structInst)|`({})=>`({cls:=.type "list",data:=.seq ([]:List PySem.Value).toArray})
set_option hygiene false
local macro_rules|`(tactic|room)=>`(tactic|obtain⟨ρ,S,τ,R,r,h⟩:=h9)
local macro_rules|`(tactic|z_go)=>`(tactic|intro X hP hw hK hc i pins s σ H E I hf st hg)
local macro_rules|`(tactic|x_go)=>`(tactic|obtain⟨ρ,S,a,b,R,va,vb,h⟩:=h9)
local macro_rules|`(tactic|w_up)=>`(tactic|obtain⟨f0,f1,f2,f3,f4,f5⟩:=hf it (by simp))
local macro_rules|`(tactic|k_ne)=>`(tactic|intro pins s σ H xs us Q I r h)
local macro_rules|`(tactic|kt_k)=>`(tactic|intro pins s σ H Q I h)
local macro_rules|`(tactic|kd_p)=>`(tactic|refine⟨ρ,S,τ,R,r,jG (jK h) .refl λo S1 h1 ρ1 H1 x e1 R1 v1=>⟨ρ1,S1,τ,R1,r.ext e1,jG (jK h1) e1 λi S2 h2 ρ2 H2 y e2 R2 v2=>?_⟩⟩)
local macro_rules|`(tactic|gn_on)=>`(tactic|obtain⟨w,rfl,ρ,S,x,R,hv,h⟩:=Rb h0)
local macro_rules|`(tactic|gp_on)=>`(tactic|intro pins s σ H x y v u Q I rx ry h)
local macro_rules|`(tactic|kj_on)=>`(tactic|obtain⟨xs,hn,h⟩:=jO h)
local macro_rules|`(tactic|kcf_m)=>`(tactic|refine⟨ρ2,S2,o,i,a,R2,v1.ext e2,v2,va.ext (e1.trans e2),jG (jK h2) (e1.trans e2) λ_ S3 h3 ρ3 H3 e3 R3=>?_⟩)
local macro_rules|`(tactic|kcj_m)=>`(tactic|obtain⟨u,rfl,rx⟩:=vals1 r)
local macro_rules|`(tactic|kpc_g)=>`(tactic|obtain⟨ρ,S,τ,R,r,h⟩:=h)
local macro_rules|`(tactic|kpf_c)=>`(tactic|intro pins s σ H D I h)
set_option hygiene true
local macro_rules|`(())=>`(by lia)
@[reducible]def ag:=List Int
@[reducible]def am:=List Nat
@[reducible]def ar:=List PySem.Str
@[reducible]def ba:=List PySem.Value
@[reducible]def bb:=List PySem.Addr
@[reducible]def bd:=Option PySem.Value
@[reducible]def bi:=Option Int
@[reducible]def bj:=Option Bool
@[reducible]def bp:=Option Nat
@[reducible]def bv:=List (PySem.Addr×PySem.Obj)
def aF:=@PySem.wpAny_bind
def aG:=@List.getElem?_eq_getElem
def aH:=@List.length_map
def aI:=@if_neg
def aJ:=@List.getD_eq_getElem?_getD
def aK:=@if_pos
def aL:=@List.getElem?_eq_some_iff
def aM:=@List.mem_cons_self
def aN:=@List.mem_cons_of_mem
def aO:=@PySem.Heap.get?_push_of_some
def aP:=@PySem.wpAny_pure
def aQ:=@Nat.le_refl
def aR:=@List.length_append
def aS:=@List.getElem?_map
def aV:=@List.mem_singleton
def aW:=@Option.some.inj
def aX:=@PyProof.Rows.wpS_bind
def aY:=@List.size_toArray
def aZ:=@List.mem_of_getElem?
def a_:=@Option.map_eq_some_iff
def bf:=@PySem.Heap.lt_size
def bg:=@decide_eq_true
def bh:=@decide_eq_false
def bq:=@List.map_map
def bu:=@PyProof.Rows.wpS_pure
def bw:=@List.forall_mem_cons
def bz:=@Bool.false_eq_true
def bA:=@List.mem_map
def bB:=@PySem.Heap.get?_push_size
def bC:=@List.length_cons
def bD:=@List.mem_cons
def bE:=@Nat.ne_of_lt
def bF:=@List.map_cons
def bG:=@Bool.false_ne_true
def bH:=@List.getElem?_append_left
def bI:=@List.mem_append
def bJ:=@Nat.le_trans
def bK:=@Nat.lt_of_lt_of_le
def bL:=@of_decide_eq_true
def bM:=@List.length_take
def bN:=@List.getElem?_set_self
def bO:=@Nat.zero_le
def bP:=@List.mem_append_right
def bQ:=@beq_self_eq_true
def bR:=@List.pairwise_cons
def bU:=@List.append_nil
def bV:=@List.length_singleton
def bW:=@List.getElem?_set_ne
def bX:=@List.map_append
def bY:=@if_false
def bZ:=@Bool.and_eq_true
def b9:=@PySem.W.mg_none_of
def b_:=@Nat.mul_le_mul_right
def cg:=@PySem.wpAny_newObj_type
def cj:=@List.pairwise_singleton
def ck:=@Int.zero_add
def cu:=@List.length_set
def cA:=@List.mem_range
def cB:=@List.pairwise_append
def cC:=@List.length_nil
def cD:=@List.append_assoc
def cE:=@List.length_range
def cF:=@List.getElem?_eq_none
def cG:=@List.mem_append_left
def cH:=@List.pairwise_map
def cI:=@if_true
def cJ:=@PyProof.Rows.wpS_forRange
def cK:=@List.map_congr_left
def cL:=@PySem.W.kia_one
def cM:=@List.nodup_cons
def cN:=@List.find?_cons
def cO:=@Option.bind_eq_some_iff
def cP:=@PySem.F.slot_dict_keyiterator_next
def cQ:=@List.mem_filter
def cR:=@Ne.symm
def cT:=@PySem.wpAny_holding
def cU:=@Bool.not_true
def cV:=@List.filter_cons
def cW:=@Nat.zero_add
def cX:=@PySem.W.mg_of
def cY:=@PySem.wpAny_call_entry
def cZ:=@List.all_eq_true
def c5:=@List.getElem_map
def c6:=@Int.add_zero
def c7:=@List.pairwise_iff_getElem
def c8:=@List.drop_eq_getElem_cons
def c9:=@List.replicate_succ
def c_:=@Int.toNat_natCast
def dc:=@List.ext_getElem?
def dg:=@Bool.not_false
def dh:=@PySem.wpAny_mono
def di:=@of_decide_eq_false
def dj:=@List.getElem_inj
def dm:=@List.length_drop
def dw:=@PySem.wpAny_callSpecial?_slot
def dz:=@congrArg
def dB:=@List.nodup_nil
def dD:=@List.take_add_one
def dF:=@Array.length_toList
def dG:=@PySem.F.slot_dict_get
def dH:=@List.length_filter_le
def dI:=@List.getElem_mem
def dJ:=@List.take_length
def dM:=@Option.bind_some
def dN:=@PySem.AutoSeq1.wpAny_loadPart'
def dO:=@List.Perm.eq_of_pairwise
def dP:=@List.mem_of_mem_take
def dQ:=@PySem.wpAny_typeNameOfWhole_keyiter
def dR:=@PySem.wpAny_truthy_bool
def dS:=@List.flatten_cons
def dU:=@Nat.lt_succ_of_lt
def dW:=@List.nodup_append
def dX:=@List.foldl_append
def dY:=@Option.map_some
def dZ:=@PySem.PassesOwn.never
def d8:=@beq_eq_false_iff_ne
def d9:=@PySem.W.hideAll_get
def d_:=@PySem.mem_of_lookup
def ef:=@PyProof.Rows.wpS_mono
def eg:=@List.getElem?_range
def er:=@PyProof.Rows.callWith_type1
def eB:=@PySem.Heap.get?_update_other
def eE:=@Nat.lt_irrefl
def eF:=@PySem.sizeLine_eq
def eG:=@PySem.wpAny_field
def eK:=@PySem.Heap.size_push
def eL:=@PySem.F.slot_tuple_iterator_next
def eN:=@PySem.Obj.data_mapFields
def eO:=@List.Perm.refl
def eS:=@List.getElem_range
def eT:=@PySem.Heap.get?_update_self
def eU:=@Array.getElem?_toList
def eV:=@List.getElem?_toArray
def eW:=@PySem.wpAny_passesOwn
def eX:=@List.foldl_cons
def eY:=@Nat.succ_mul
def eZ:=@List.getElem?_of_mem
def e_:=@List.mem_of_mem_drop
def fh:=@PyProof.Rows.listItems_at
def fj:=@Option.isSome_iff_exists
def fm:=@List.getElem?_take_of_lt
def fq:=@PySem.wpAny_rule
def fB:=@PySem.wpAny_typeNameOf_keyiter
def fC:=@List.idxOf_lt_length_iff
def fD:=@PyProof.Rows.slot_tuple_getitem
def fF:=@List.filterMap_cons
def fG:=@PySem.Heap.SameBut.update
def fH:=@List.mem_map_of_mem
def fJ:=@List.filter_eq_self
def fK:=@Option.getD_some
def fL:=@Nat.lt_succ_self
def fM:=@List.length_eq_zero_iff
def fN:=@List.take_zero
def fO:=@List.prefix_refl
def fP:=@List.mem_flatMap
def fQ:=@PySem.W.of_hideAll
def fR:=@PySem.tupleKind_room_in1
def fS:=@PyProof.Rows.wpS_modify
def fV:=@List.prefix_append
def fW:=@Nat.lt_of_le_of_lt
def fX:=@Nat.not_lt_zero
def fY:=@List.any_cons
def fZ:=@Bool.false_or
def f6:=@Int.add_assoc
def f7:=@PySem.Obj.isFreed_of_fields
def f9:=@List.set_append_right
def f_:=@List.getElem?_append_right
def gb:=@List.range_eq_range'
def gc:=@PySem.Around.under_plainId
def gf:=@PySem.wpAny_setField
def gh:=@Option.map_map
def gp:=@PySem.wpAny_typeOf
def gq:=@List.lookup_cons
def gr:=@List.any_eq_true
def gu:=@Int.mul_zero
def gv:=@PySem.Calls.call_function_entry
def gw:=@List.mem_of_find?_eq_some
def gz:=@PySem.F.args_dict_keyiterator_next_1
def gA:=@PySem.F.args_tuple_add_2
def gB:=@PySem.wpAny_attempt
def gC:=@PySem.F.entry_dict_keyiterator_next
def gD:=@PySem.F.slot_list_getattribute
def gE:=@List.sum_cons
def gF:=@List.Pairwise.imp_of_mem
def gG:=@PySem.wpAny_execs_nil
def gH:=@List.forIn_cons
def gI:=@PySem.codeAny_builtin
def gJ:=@PySem.wpAny_pyIter_tuple
def gK:=@List.mem_filterMap
def gM:=@PySem.wpAny_Call_Name_kw
def gO:=@List.getElem?_drop
def gP:=@List.find?_eq_none
def gQ:=@Int.emod_lt_of_pos
def gR:=@List.getElem?_replicate
def gS:=@PySem.F.entry_tuple_add
def gT:=@PySem.F.args_dict_get_3
def gU:=@PySem.W.cellsFrom_some
def gW:=@PySem.F.slot_tuple_add
def gY:=@List.map_nil
def gZ:=@List.range_succ_eq_map
def g_:=@List.all_map
def h_:=@Option.isSome_map
def ie:=@PySem.F.entry_dict_get
def ig:=@PyProof.Rows.wpS_get
def ir:=@List.take_succ_eq_append_getElem
def iu:=@PySem.Heap.get?_push_ne
def iw:=@Array.getElem?_eq_none
def iy:=@Nat.lt_of_succ_lt_succ
def iz:=@Nat.mul_le_mul
def iA:=@List.find?_map
def iB:=@PySem.PassesOwn.leaving
def iC:=@List.isEmpty_cons
def iD:=@List.eraseIdxIfInBounds_toArray
def iE:=@Array.getElem?_setIfInBounds_ne
def iF:=@List.take_append_drop
def iG:=@PySem.wpAny_isOneOf_keyiter
def iH:=@PySem.F.type_dict_get
def iI:=@Nat.le_of_not_lt
def iJ:=@PySem.Heap.size_update
def iK:=@Nat.add_assoc
def iL:=@PySem.Sem.wp_pure
def iM:=@Bool.or_eq_false_iff
def iN:=@List.of_mem_zip
def iO:=@Nat.min_eq_left
def iP:=@List.find?_some
def iQ:=@Int.emod_nonneg
def iR:=@PySem.codeAny_mono
def iS:=@List.map_set
def iT:=@List.zip_cons_cons
def iU:=@List.filterMap_map
def iV:=@Bool.and_false
def iW:=@PySem.wpAny_seqItems
def iX:=@List.perm_ext_iff_of_nodup
def iY:=@PySem.wpAny_fieldsOf
def iZ:=@List.getElem_idxOf
def i6:=@PySem.wpAny_pyIter_list
def i7:=@PySem.Obj.cls_mapFields
def i8:=@List.reverse_cons
def i9:=@PySem.wpAny_dictEntries
def i_:=@List.flatMap_cons
def ja:=@List.find?_isSome
def jb:=@Nat.one_mul
def jc:=@PySem.Paired.length
def jd:=@PySem.wpAny_newList
def je:=@List.zipIdx_cons
def jf:=@List.countP_cons
def jh:=@decide_eq_decide
def ji:=@List.isEmpty_nil
def jj:=@Nat.le_of_lt
def jk:=@PySem.wpAny_call
def jl:=@PySem.call_meets
def jm:=@beq_iff_eq
def jn:=@Nat.sub_self
def jo:=@List.filter_map
def jq:=@beq_false_of_ne
def jt:=@Array.size_zip
def ju:=@List.forIn_nil
def jv:=@List.foldl_map
def jw:=@Int.mul_add
def jx:=@List.map_id
@[reducible]def af:=PySem.Value
@[reducible]def ah:=PySem.World
@[reducible]def aj:=PySem.Program
@[reducible]def ak:=PySem.Addr
@[reducible]def aq:=PySem.Heap
@[reducible]def au:=PySem.W.Frag
@[reducible]def az:=PySem.Around
@[reducible]def aA:=PySem.Shared
@[reducible]def aC:=PySem.Expr
@[reducible]def aE:=PySem.Stmt
def anI{a b:Prop}(h:a)(k:b):a/\b:=⟨h,k⟩
open Array (size_map)
open Int (mul_one neg_mul one_mul zero_mul)
open List (all_cons map_drop map_take)
open Nat (add_comm lt_trans ne_of_gt)
open Option (getD_none isSome_none isSome_some)
namespace L2
open PySem PySem.Spec PyProof.Rows
meta abbrev Key:=Sum Int Str
abbrev AK:Key->af->Bool
 | .inl k,v=>Value.isInt k v
 | .inr x,v=>Value.isStrOf x v
abbrev aag (w:ah):Key->Int
 | .inl k=>hashInt k
 | .inr x=>hashStr w x
def lH:∀{k:Key}{v:af},AK k v=true->(∃i t,k=Sum.inl i/\v=Value.int i t)\/(∃x t,k=Sum.inr x/\v=Value.str x t)
 | .inl i,v,h=>by
  obtain⟨t,e⟩:=Value.isInt_shape (k:=i) (v:=v) h;exact .inl ⟨i,t,rfl,e⟩
 | .inr x,v,h=>by
  obtain⟨t,e⟩:=Value.isStrOf_shape (x:=x) (v:=v) h;exact .inr ⟨x,t,rfl,e⟩
def J_(i:Int)(t:Tok):AK (.inl i) (.int i t)=true:=by simp[AK,Value.isInt]
def JT(x:Str)(t:Tok):AK (.inr x) (.str x t)=true:=by simp[AK,Value.isStrOf]
def Vs(a b:Int):decide ((Sum.inl a:Key)=Sum.inl b)=(a == b):=by
 by_cases e:a=b
 ·subst e;simp
 ·have h:¬(Sum.inl a:Key)=Sum.inl b:=λq=>e (Sum.inl.inj q);rw[bh h];exact(d8.mpr e).symm
def Xe(a b:Str):decide ((Sum.inr a:Key)=Sum.inr b)=decide (a=b):=by
 by_cases e:a=b
 ·subst e;simp
 ·have h:¬(Sum.inr a:Key)=Sum.inr b:=λq=>e (Sum.inr.inj q);rw[bh h,bh e]
def VB(a:Int)(b:Str):decide ((Sum.inl a:Key)=Sum.inr b)=false:=bh (λq=>nomatch q)
def WO(a:Str)(b:Int):decide ((Sum.inr a:Key)=Sum.inl b)=false:=bh (λq=>nomatch q)
abbrev kK (prog:aj)(w:ah):PySem.KeyKind prog w Key where
 is:=AK
 hash:=aag w
 inj:=λv a b ha hb=>by
  rcases lH ha with⟨i,t,rfl,rfl⟩|⟨x,t,rfl,rfl⟩
  ·rcases lH hb with⟨j,u,rfl,e⟩|⟨y,u,rfl,e⟩
   ·injection e with e1 _;rw[e1]
   ·exact nomatch e
  ·rcases lH hb with⟨j,u,rfl,e⟩|⟨y,u,rfl,e⟩
   ·exact nomatch e
   ·injection e with e1 _;rw[e1]
 byValue:=λk v h=>by
  rcases lH h with⟨i,t,rfl,rfl⟩|⟨x,t,rfl,rfl⟩<;>rfl
 pyHash:=λhv h=>by
  rcases lH hv with⟨i,t,rfl,rfl⟩|⟨x,t,rfl,rfl⟩
  ·exact wpAny_pyHash_int h
  ·exact wpAny_pyHash_str h
 eqBool:=λhu hv h=>by
  rcases lH hu with⟨i,t,rfl,rfl⟩|⟨x,t,rfl,rfl⟩
  ·rcases lH hv with⟨j,u,rfl,rfl⟩|⟨y,u,rfl,rfl⟩
   ·rw[Vs]at h;exact wpAny_eqBool_int h
   ·rw[VB]at h;exact SeqAt.EqAt.int_str i t y u _ _ _ _ h
  ·rcases lH hv with⟨j,u,rfl,rfl⟩|⟨y,u,rfl,rfl⟩
   ·rw[WO]at h;exact SeqAt.EqAt.str_int x t j u _ _ _ _ h
   ·rw[Xe]at h;exact wpAny_eqBool_str h
 «strs»:=λk x t v h=>by
  rcases lH h with⟨i,u,rfl,e⟩|⟨y,u,rfl,e⟩
  ·exact nomatch e
  ·injection e with e1 _
   subst e1
   cases v<;>rfl
def Dv(prog:aj)(w:ah)(i:Int)(t:Tok):(kK prog w).is (.inl i) (.int i t)=true:=J_ i t
def Ep(prog:aj)(w:ah)(x:Str)(t:Tok):(kK prog w).is (.inr x) (.str x t)=true:=JT x t
inductive V where
 | non|bl (b:Bool)|int (i:Int)|str (x:Str)|byt (b:Array UInt8)|flt (b:UInt64)|ref (a:ak)|ty (n:String)
 deriving DecidableEq
abbrev RelV:V->af->Prop
 | .non,u=>u=Value.none
 | .bl b,u=>u=Value.bool b
 | .int i,u=>∃t,u=Value.int i t
 | .str x,u=>∃t,u=Value.str x t
 | .byt b,u=>∃t,u=Value.bytes b t
 | .flt b,u=>∃t,u=Value.float b t
 | .ref a,u=>u=Value.ref a
 | .ty n,u=>u=Value.type n
meta abbrev Vals:List V->ba->Prop:=Paired RelV
def Vals.length{xs:List V}{us:ba}(r:Vals xs us):xs.length=us.length:=jc r
theorem Vals.get:∀{xs:List V}{us:ba}{i:Nat}{x:V},Vals xs us->xs[i]?=some x->∃u,us[i]?=some u/\RelV x u
 | _,_,_,_,.nil,e=>by simp at e
 | _,_,0,_,.cons r _,e=>by simp at e;subst e;exact⟨_,rfl,r⟩
 | _,_,i+1,x,.cons _ t,e=>by
  obtain⟨u,h1,h2⟩:=Vals.get (i:=i) (x:=x) t (by simpa using e);exact⟨u,by simpa using h1,h2⟩
theorem Vals.set{x:V}(r:RelV x u):∀{xs:List V}{us:ba}(i:Nat),Vals xs us->Vals (xs.set i x) (us.set i u)
 | _,_,_,.nil=>.nil
 | _,_,0,.cons _ t=>.cons r t
 | _,_,i+1,.cons q t=>.cons q (Vals.set r i t)
theorem Vals.append:∀{xs ys:List V}{us ws:ba},Vals xs us->Vals ys ws->Vals (xs++ys) (us++ws)
 | _,_,_,_,.nil,s=>s
 | _,_,_,_,.cons r t,s=>.cons r (Vals.append t s)
theorem Vals.take:∀{xs:List V}{us:ba}(n:Nat),Vals xs us->Vals (xs.take n) (us.take n)
 | _,_,0,_=>.nil
 | _,_,_+1,.nil=>.nil
 | _,_,n+1,.cons r t=>.cons r (Vals.take n t)
theorem Vals.drop:∀{xs:List V}{us:ba}(n:Nat),Vals xs us->Vals (xs.drop n) (us.drop n)
 | _,_,0,r=>r
 | _,_,_+1,.nil=>.nil
 | _,_,n+1,.cons _ t=>Vals.drop n t
abbrev wL:Option V->bd->Prop
 | some v,some u=>RelV v u
 | none,none=>True
 | _,_=>False
abbrev KV {κ:Type}:List (κ×V)->List (κ×af)->Prop:=Paired λ(p:κ×V) (q:κ×af)=>p.1=q.1/\RelV p.2 q.2
abbrev kV:Key->V
 | .inl i=>.int i
 | .inr x=>.str x
inductive HO where
 | lst (xs:List V)
 | tup (xs:List V)
 | dK (kvs:List (Key×V))|dT (kvs:List (List Key×V))
 | set (S:Int->Bool) (n:Nat)
 | ins (C dx:ak) (fs:List (Str×V))
 | own (x:ak)
 | xd (fs:List (Str×V))
 | met (f x:ak)
 | rng (lo hi:Int)
 | frz (o:Obj) (u:HO)
 | tbl (ps:Array af)
 | ext (φ:aq->Prop)
meta abbrev Hp:=ak->Option HO
abbrev upd (H:Hp)(a:ak)(o:HO):Hp:=λb=>if b=a then some o else H b
def ko{H:Hp}{a:ak}:upd H a o a=some o:=by unfold upd;rw[aK rfl]
def jM{H:Hp}{a:ak}(h:b≠a):upd H a o b=H b:=by unfold upd;rw[aI h]
def YZ{H:Hp}{a:ak}(h:H a=some o)(h':H b=some u)(d:o≠u):a≠b:=by
 intro e;subst e;rw[h]at h';exact d (aW h')
def jU{H:Hp}{a:ak}(h:H a=some o)(h':H b=none):a≠b:=by
 intro e;subst e;rw[h]at h';cases h'
abbrev oQ (h:aq)(a:ak)(items:Array af):Prop:=∃o,h.get? a=some o/\o.cls=.type "tuple" /\ o.dict=none/\∃n,o.data=.seq items n
def oQ.tup{a:ak}:oQ h a items->IsTup h a items:=λ⟨o,e,c,_,n,d⟩=>⟨o,e,c,n,d⟩
def oQ.new(h:aq)(items:Array af):oQ (h.push { cls:=.type "tuple",data:=.seq items }) h.objs.size items:=⟨_,bB _ rfl,rfl,rfl,_,rfl⟩
def oQ.lt{h:aq}{a:ak}(x:oQ h a items):a<h.objs.size:=let⟨_,ho,_⟩:=x;bf ho
section
variable (P:aj) (w:ah)
abbrev lC (H:Hp)(h:aq)(a:ak):HO->Prop
 | .lst xs=>xs.length<=sizeLine/\∃(its:ba) (n:Nat),Vals xs its/\h.get? a=some { cls:=.type "list",data:=.seq its.toArray n }
 | .tup xs=>xs.length<=sizeLine/\∃its:ba,Vals xs its/\oQ h a its.toArray
 | .dK kvs=>kvs.length<=sizeLine/\(a == sysModules)=false/\∃vs,KV kvs vs/\h.DictOf (kK P w) a vs
 | .dT kvs=>kvs.length<=sizeLine/\(a == sysModules)=false/\∃xs:List (List Key×ak×af),
   Paired (λ(p:List Key×V) (q:List Key×ak×af)=>p.1=q.1/\H q.2.1=some (.tup (p.1.map kV))/\RelV p.2 q.2.2) kvs xs /\
   ∃o es ep,h.get? a=some o/\o.ExactDict/\o.data=.dict es ep/\es.toList=xs.map (entryOfKey (tupleKind (kK P w)))/\(xs.map (·.1)).Nodup
 | .set S n=>h.SetOf (intKind P w) a S n
 | .ins C dx fs=>H dx=some (.own a)/\fs.length<=1000/\dx≠a/\h.get? a=some (PySem.W.instObj C dx) /\
   ∃mA,h.Ns1 dx mA/\(∀f,wL (fs.lookup f) (mA f))/\PySem.Within mA (fs.map (·.1))
 | .own _=>∃o,h.get? a=some o
 | .xd fs=>∃mA,h.Ns1 a mA/\∀f,wL (fs.lookup f) (mA f)
 | .rng lo hi=>∃t u v,h.get? a=some { cls:=.type "range",data:=.fields #[.int lo t,.int hi u,.int 1 v]}
 | .frz o u=>h.get? a=some o/\lC H h a u
 | .tbl ps=>h.get? a=some { cls:=.none,data:=.fields ps }
 | .met f x=>h.get? a=some (PySem.W.methodObj (.ref f) (.ref x))
 | .ext φ=>φ h/\(∃o,h.get? a=some o)/\∀h1 h2:aq,φ h1->(∀o,h1.get? a=some o->h2.get? a=some o)->φ h2
abbrev um (H:Hp)(h:aq):Prop:=∀a o,H a=some o->lC P w H h a o
end
section
variable {P:aj}{w:ah}{H H':Hp}{h h':aq}{a:ak}{o:HO}
def lC.lt(x:lC P w H h a o):a<h.objs.size:=by
 cases o with
 | lst xs=>obtain⟨_,_,_,_,e⟩:=x;exact bf e
 | tup xs=>obtain⟨_,_,_,p⟩:=x;exact oQ.lt p
 | dK kvs=>obtain⟨_,_,_,_,o,_,_,e,_⟩:=x;exact bf e
 | dT kvs=>obtain⟨_,_,_,_,o,_,_,e,_⟩:=x;exact bf e
 | set S n=>obtain⟨o,_,_,_,e,_⟩:=x;exact bf e
 | ins C dx fs=>obtain⟨_,_,_,e,_⟩:=x;exact bf e
 | own y=>obtain⟨_,e⟩:=x;exact bf e
 | xd fs=>obtain⟨_,⟨_,_,_,e,_⟩,_⟩:=x;exact bf e
 | rng lo hi=>obtain⟨_,_,_,e⟩:=x;exact bf e
 | frz ob u=>obtain⟨e,_⟩:=x;exact bf e
 | tbl ps=>exact bf (show h.get? a=some _ from x)
 | met f y=>exact bf (show h.get? a=some _ from x)
 | ext φ=>obtain⟨_,⟨_,e⟩,_⟩:=x;exact bf e
theorem Paired.WZ{α β:Type}{F G:α->β->Prop}:∀{l₁:List α}{l₂:List β},Paired F l₁ l₂->(∀a b,F a b->G a b)->Paired G l₁ l₂
 | _,_,.nil,_=>.nil
 | _,_,.cons r t,f=>.cons (f _ _ r) (Paired.WZ t f)
def lC.stay(x:lC P w H h a o)(k:∀b u,(b=a\/H b=some (.own a))->h.get? b=some u->h'.get? b=some u)
  (ho:∀b,H b=some (.own a)->H' b=some (.own a)) (ht:∀b xs,H b=some (.tup xs)->H' b=some (.tup xs)):lC P w H' h' a o:=by
 induction o with
 | lst xs=>obtain⟨z,its,n,r,e⟩:=x;exact⟨z,its,n,r,k _ _ (.inl rfl) e⟩
 | tup xs=>obtain⟨z,its,r,ob,e,c⟩:=x;exact⟨z,its,r,ob,k _ _ (.inl rfl) e,c⟩
 | dK kvs=>obtain⟨z,y,vs,r,ob,es,ep,e,c⟩:=x;exact⟨z,y,vs,r,ob,es,ep,k _ _ (.inl rfl) e,c⟩
 | dT kvs=>
  obtain⟨z,y,xs,r,ob,es,ep,e,c⟩:=x;exact⟨z,y,xs,Paired.WZ r λp q z=>⟨z.1,ht _ _ z.2.1,z.2.2⟩,ob,es,ep,k _ _ (.inl rfl) e,c⟩
 | set S n=>obtain⟨ob,es,ep,t,e,c⟩:=x;exact⟨ob,es,ep,t,k _ _ (.inl rfl) e,c⟩
 | ins C dx fs=>
  obtain⟨d,z,ne,e,mA,⟨od,es,ep,e2,c⟩,r⟩:=x;exact⟨ho _ d,z,ne,k _ _ (.inl rfl) e,mA,⟨od,es,ep,k _ _ (.inr d) e2,c⟩,r⟩
 | own y=>obtain⟨ob,e⟩:=x;exact⟨ob,k _ _ (.inl rfl) e⟩
 | xd fs=>obtain⟨mA,⟨od,es,ep,e,c⟩,r⟩:=x;exact⟨mA,⟨od,es,ep,k _ _ (.inl rfl) e,c⟩,r⟩
 | rng lo hi=>obtain⟨t,u,v,e⟩:=x;exact⟨t,u,v,k _ _ (.inl rfl) e⟩
 | frz ob u ih=>obtain⟨e,q⟩:=x;exact⟨k _ _ (.inl rfl) e,ih q⟩
 | tbl ps=>
  have e:h.get? a=some { cls:=.none,data:=.fields ps }:=x
  skip
  exact k a _ (.inl rfl) e
 | met f y=>
  have e:h.get? a=some (PySem.W.methodObj (.ref f) (.ref y)):=x
  skip
  exact k a _ (.inl rfl) e
 | ext φ=>obtain⟨p,⟨o,e⟩,st⟩:=x;exact⟨st _ _ p λo q=>k _ _ (.inl rfl) q,⟨o,k _ _ (.inl rfl) e⟩,st⟩
def um.lt(x:um P w H h)(e:H a=some o):a<h.objs.size:=(x a o e).lt
def um.fresh(x:um P w H h)(e:h.objs.size<=a):H a=none:=by
 cases q:H a with
 | none=>rfl
 | some u=>exact absurd (bK (x.lt q) e) (eE _)
def um.kept(x:um P w H h)(k:∀b u,h.get? b=some u->h'.get? b=some u):um P w H h':=λa o e=>
 (x a o e).stay (λb u _ q=>k b u q) (λ_ q=>q) λ_ _ q=>q
def um.laid(x:um P w H h)(k:∀b u,h.get? b=some u->h'.get? b=some u)(hp:h.objs.size<=a)(new:lC P w (upd H a o) h' a o):um P w (upd H a o) h':=λb u e=>by
 have hn:=x.fresh hp;by_cases hb:b=a
 ·subst hb;rw[ko]at e;cases e;exact new
 ·rw[jM hb]at e;exact(x b u e).stay (λc v _ q=>k c v q) (λc q=>by rw[jM (jU q hn)];exact q) λc xs q=>by rw[jM (jU q hn)];exact q
end
abbrev Rd (H:Hp)(a:ak)(u:HO):Prop:=H a=some u\/∃o,H a=some (.frz o u)
def Rd.ok{P:aj}{w:ah}{H:Hp}{a:ak}(r:Rd H a u)(x:um P w H h):lC P w H h a u:=by
 rcases r with r|⟨o,r⟩
 ·exact x a u r
 ·obtain⟨_,q⟩:=x a _ r;exact q
abbrev Y9:Option HO->Prop
 | some (.lst _)=>True
 | some (.dK _)=>True
 | some (.dT _)=>True
 | some (.set _ _)=>True
 | some (.ins _ _ _)=>True
 | some (.ext _)=>True
 | _=>False
section
variable {P:aj}{w:ah}{H:Hp}{h h':aq}{x e:ak}{o':HO}
def um.write(ok:um P w H h)(mu:Y9 (H x))(he:e=x\/H e=some (.own x))(k:∀b u,b≠e->h.get? b=some u->h'.get? b=some u)(heo:∃u,h'.get? e=some u)
  (new:lC P w (upd H x o') h' x o'):um P w (upd H x o') h':=λb u q=>by
 have nown:∀c y,H c=some (.own y)->c≠x:=λc y r z=>by subst z;rw[r]at mu;exact mu
 have ntup:∀c xs,H c=some (.tup xs)->c≠x:=λc xs r z=>by subst z;rw[r]at mu;exact mu
 by_cases hb:b=x
 ·subst hb;rw[ko]at q;cases q;exact new
 ·rw[jM hb]at q;by_cases hbe:b=e
  ·have q':H b=some (.own x):=by
    rcases he with z|z
    ·exact absurd (hbe.trans z) hb
    ·rw[hbe];exact z
   rw[q]at q';cases q';obtain⟨v,hv⟩:=heo;exact⟨v,by rw[hbe];exact hv⟩
  ·refine(ok b u q).stay (λc v hc r=>k c v ?_ r) (λc r=>by rw[jM (nown c b r)];exact r) λc xs r=>by rw[jM (ntup c xs r)];exact r
   rcases hc with rfl|hc
   ·exact hbe
   ·rintro rfl
    rcases he with z|z
    ·exact nown c b hc z
    ·rw[hc]at z;cases z;exact hb rfl
end
structure Un (fs ex:bb)(H H':Hp)(h h':aq):Prop where
 keep:∀b o,h.get? b=some o->H b=none->b∉fs->b∉ex->h'.get? b=some o
 slot:∀b o,h.get? b=some o->H b=none->b∈fs->b∉ex->∃sl,h'.get? b=some { o with slots:=sl }
 free:∀b o,h.get? b=some o->H b=none->b∉ex->H' b=none
 there:∀b o,h.get? b=some o->b∉ex->∃o',h'.get? b=some o'
 tups:∀b xs,H b=some (.tup xs)->H' b=some (.tup xs)
 frzs:∀b o u,H b=some (.frz o u)->H' b=some (.frz o u)
 tbls:∀b ps,H b=some (.tbl ps)->∃more,H' b=some (.tbl (ps++more))
section
variable {fs ex:bb}{H H1:Hp}{h h1 h':aq}{a x e:ak}{o:HO}
def Un.any(u:Un fs ex H H1 h h1){ob:Obj}(q:h.get? b=some ob)(n:H b=none)(hx:b∉ex):∃sl,h1.get? b=some { ob with slots:=sl }:=by
 by_cases hb:b∈fs
 ·exact u.slot b ob q n hb hx
 ·exact⟨ob.slots,u.keep b ob q n hb hx⟩
def Un.kept(k:∀b u,h.get? b=some u->h'.get? b=some u):Un fs ex H H h h':=
 ⟨λb ob q _ _ _=>k b ob q,λb ob q _ _ _=>⟨ob.slots,k b ob q⟩,λ_ _ _ n _=>n,λb ob q _=>⟨ob,k b ob q⟩,λ_ _ q=>q,λ_ _ _ q=>q,λ_ ps q=>⟨#[],by rw[q];simp⟩⟩
def Un.refl:Un fs ex H H h h:=Un.kept λ_ _ q=>q
def Un.laid(k:∀b u,h.get? b=some u->h'.get? b=some u)(hp:h.objs.size<=a)(hn:H a=none):Un fs ex H (upd H a o) h h' where
 keep:=λb u q _ _ _=>k b u q
 slot:=λb u q _ _ _=>⟨u.slots,k b u q⟩
 free:=λb u q n _=>by rw[jM (bE (bK (bf q) hp))];exact n
 there:=λb u q _=>⟨u,k b u q⟩
 tups:=λb xs q=>by rw[jM (jU q hn)];exact q
 frzs:=λb u xs q=>by rw[jM (jU q hn)];exact q
 tbls:=λb ps q=>⟨#[],by rw[jM (jU q hn),q];simp⟩
def Un.write(mu:Y9 (H x))(he:e=x\/H e=some (.own x))(k:∀b u,b≠e->h.get? b=some u->h'.get? b=some u)(heo:∃u,h'.get? e=some u):Un fs ex H (upd H x o) h h':=by
 have hx:∀b,H b=none->b≠x:=λb n z=>by subst z;rw[n]at mu;exact mu
 have hb:∀b,H b=none->b≠e:=λb n z=>by
  subst z
  rcases he with r|r
  ·exact hx b n r
  ·rw[n]at r;cases r
 have hm:∀b u,H b=some u->¬Y9 (some u)->b≠x:=λb u q nm z=>by subst z;rw[q]at mu;exact nm mu
 refine⟨λb u q n _ _=>k b u (hb b n) q,λb u q n _ _=>⟨u.slots,k b u (hb b n) q⟩,λb u q n _=>by rw[jM (hx b n)];exact n,λb u q _=>?_,
  λb xs q=>by rw[jM (hm b _ q λz=>z)];exact q,λb u xs q=>by rw[jM (hm b _ q λz=>z)];exact q,λb ps q=>⟨#[],by rw[jM (hm b _ q λz=>z),q];simp⟩⟩
 by_cases hbe:b=e
 ·subst hbe;exact heo
 ·exact⟨u,k b u hbe q⟩
end
abbrev ZW (h:aq)(H:Hp):bb:=(List.range h.objs.size).filter λa=>(H a).isSome
abbrev Cr (h:aq)(H:Hp):aq:=PySem.W.hideAll h (ZW h H)
def KC(h:aq)(H:Hp):(Cr h H).objs.size=h.objs.size:=PySem.W.hideAll_size _ _
def Ln{h:aq}{H:Hp}(e:h.get? b=some o)(n:H b=none):(Cr h H).get? b=some o:=
 d9 _ e λhm=>by
  have q:(H b).isSome=true:=(cQ.mp hm).2;rw[n]at q;simp at q
def RO{h:aq}{H:Hp}(e:(Cr h H).get? b=some o):h.get? b=some o/\H b=none:=by
 have e':h.get? b=some o:=fQ (ZW h H) e;refine⟨e',?_⟩
 cases q:H b with
 | none=>rfl
 | some x=>
  have hm:b∈ZW h H:=cQ.mpr ⟨cA.mpr (bf e'),by simp[q]⟩;have z:(Cr h H).get? b=none:=PySem.W.hideAll_none (ZW h H) hm;rw[z]at e;cases e
abbrev RZ (g h:aq)(L:ak):bv:=(List.range h.objs.size).filterMap λa=>if a=L\/(g.get? a).isSome=true then none else(h.get? a).map λo=>(a,o)
abbrev rest (g h:aq)(L d:ak):bv:=(RZ g h L).filter λp=>decide (p.1≠d)
structure Mod (K:au)(mg:Str->bd)(base:aq):Prop where
 kin:K.In base
 glob:base.Ns mainGlobals mg
 blt:∃mb,base.Ns builtinsNs mb/\∀x:Str,x ≠ "__name__" -> mb x=bootBuiltins x
 nolimit:base.NoLimit
structure Cx where
 prog:aj
 w:ah
 K:au
 mg:Str->bd
 base:aq
 A:az
 N:ar
 s₀:aA
 H₀:Hp
 env:Env
 outer:List Env
 stack:List Env
 ex:bb
 fn:Str->Bool
 calm:Bool
 pn:bv
 xe:af->aA->Prop
abbrev frs (l:List Env):bb:=l.filterMap (·.frame)
meta abbrev Cx.fs (X:Cx):bb:=frs X.outer
abbrev Zx (sc:Scope)(x:Str):Prop:=sc.names.lookup x=some .local\/sc.names.lookup x=some .cell\/sc.names.lookup x=some .free
abbrev Loc (sc:Scope)(x:Str):Prop:=sc.names.lookup x=some .local\/sc.names.lookup x=some .cell
abbrev Look (env:Env)(h:aq)(m:Str->bd)(x:Str)(u:af):Prop:=
 (env.kindOf x=some .local/\m x=some u)\/((env.kindOf x=some .cell\/env.kindOf x=some .free)/\∃c,env.cells.lookup x=some c/\h.IsCell c (some u))
structure Cx.Ok (X:Cx):Prop where
 mod:Mod X.K X.mg X.base
 kind:X.env.scope.kind=.function
 glob:X.env.globals=mainGlobals
 blt:X.env.builtins=builtinsNs
 above:X.s₀.heap.objs.size<=X.env.locals
 inj:∀x y c,X.env.cells.lookup x=some c->X.env.cells.lookup y=some c->x=y
 has:∀x,(X.env.kindOf x=some .cell\/X.env.kindOf x=some .free)->∃c,X.env.cells.lookup x=some c
 cab:∀x c,X.fn x=true->X.env.cells.lookup x=some c->X.s₀.heap.objs.size<=c
 hd:X.calm=true->X.A.handled=none
 frames:X.A.frames=some X.stack
 stk:X.stack=X.outer\/(X.stack=X.env::X.outer/\X.env.frame=some X.env.locals)
 exf:∀b∈X.ex,b≠X.env.locals/\∀x c,X.env.cells.lookup x=some c->c≠b
 bs:∀b o,X.base.get? b=some o->X.s₀.heap.get? b=some o/\X.H₀ b=none
 bsz:X.base.objs.size<=X.s₀.heap.objs.size
 noex:∀b o,X.base.get? b=some o->b∉X.ex
 exfs:∀b∈X.ex,b∉X.fs
 rF:X.s₀.heap.FunFrames X.base X.outer
 frf:∀b∈X.fs,X.H₀ b=none
structure Inv (X:Cx)(pins:bv)(σ:List (Option V))(H:Hp)(s:aA):Prop where
 ok:X.Ok
 os:s.os=X.s₀.os
 bare:AllBare s.gens
 base:Un X.fs X.ex X.H₀ H X.s₀.heap s.heap
 loc:∃m,s.heap.Ns X.env.locals m/\∀(i:Nat) (x:Str) (v:V),X.N[i]?=some x->σ[i]?=some (some v)->Zx X.env.scope x->∃u,RelV v u/\Look X.env s.heap m x u
 cell:∀x c,X.env.cells.lookup x=some c->∃v,s.heap.IsCell c v
 free:H X.env.locals=none
 freeC:∀x c,X.env.cells.lookup x=some c->H c=none
 pin:∀p∈X.pn++pins,s.heap.get? p.1=some p.2/\H p.1=none/\p.1≠X.env.locals/\p.1∉X.fs/\∀v,p.2.data≠.cell v
 hok:um X.prog X.w H s.heap
 len:σ.length=X.N.length
section
variable {X:Cx}{pins:bv}{σ:List (Option V)}{H H':Hp}{s:aA}{h':aq}
def Cx.Ok.aaa(ok:X.Ok)(e:X.base.get? b=some o):b∉X.fs:=λhb=>by
 have:=(ok.rF.mem hb).1;rw[e]at this;cases this
def Inv.bs(I:Inv X pins σ H s):∀b o,X.base.get? b=some o->s.heap.get? b=some o/\H b=none:=λb o e=>
 ⟨I.base.keep b o (I.ok.bs b o e).1 (I.ok.bs b o e).2 (I.ok.aaa e) (I.ok.noex b o e),I.base.free b o (I.ok.bs b o e).1 (I.ok.bs b o e).2 (I.ok.noex b o e)⟩
def Inv.bk(I:Inv X pins σ H s):∀b o,X.base.get? b=some o->s.heap.get? b=some o:=λb o e=>(I.bs b o e).1
def Inv.mod(I:Inv X pins σ H s):Mod X.K X.mg X.base:=I.ok.mod
def Inv.zp(I:Inv X pins σ H s):X.K.In s.heap:=I.ok.mod.kin.keeps I.bk
def Inv.lt(I:Inv X pins σ H s):X.env.locals<s.heap.objs.size:=let⟨_,hn,_⟩:=I.loc;hn.lt
def Inv.sz(I:Inv X pins σ H s):X.s₀.heap.objs.size<=s.heap.objs.size:=bJ I.ok.above (jj I.lt)
def Inv.Z3(I:Inv X pins σ H s){a:ak}(h:s.heap.objs.size<=a):a∉X.fs:=λhb=>by
 obtain⟨_,o,ho,_⟩:=I.ok.rF.mem hb;exact absurd (bK (bf ho) (bJ I.sz h)) (eE _)
def Inv.Sy(I:Inv X pins σ H s):∀x c,X.env.cells.lookup x=some c->c≠X.env.locals:=λx c e z=>by
 obtain⟨v,o,ho,hd⟩:=I.cell x c e;obtain⟨m,⟨o',es,ep,ho',hd',_⟩,_⟩:=I.loc;rw[z,ho']at ho;cases ho;rw[hd']at hd;cases hd
def Inv.rF(I:Inv X pins σ H s):s.heap.FunFrames X.base X.outer:=by
 have all:∀(l:List Env),(∀b∈frs l,b∈X.fs)->X.s₀.heap.FunFrames X.base l->s.heap.FunFrames X.base l:=by
  intro l
  induction l with
  | nil=>intro _ _;trivial
  | cons env r ih=>
   intro hs hl;obtain⟨hk,⟨L,o,hf,hn,ho,hd⟩,hr⟩:=hl;have hL:L∈X.fs:=hs L (by unfold frs;rw[fF,hf];exact aM);obtain⟨sl,e⟩:=I.base.slot L o ho (I.ok.frf L hL) hL λz=>I.ok.exfs L z hL;exact⟨hk,⟨L,_,hf,hn,e,hd⟩,ih (λb hb=>hs b (by unfold frs;rw[fF,hf];exact aN _ hb)) hr⟩
 exact all X.outer (λ_ hb=>hb) I.ok.rF
def Inv.stack(I:Inv X pins σ H s):s.heap.FunFrames X.base X.stack:=by
 rcases I.ok.stk with e|⟨e,hf⟩
 ·rw[e];exact I.rF
 ·rw[e];obtain⟨m,hn,_⟩:=I.loc;refine .cons (by rw[I.ok.kind];decide) hf hn ?_ I.rF;exact Heap.get?_none_of_le (bJ I.ok.bsz I.ok.above)
def Inv.zF(I:Inv X pins σ H s):∀b∈frs X.stack,b∈X.env.locals::X.fs:=λb hb=>by
 rcases I.ok.stk with e|⟨e,hf⟩
 ·rw[e]at hb;exact aN _ hb
 ·rw[e]at hb;unfold frs at hb;rw[fF,hf]at hb;exact hb
def Inv.xT(I:Inv X pins σ H s):∀b∈frs X.stack,H b=none:=λb hb=>by
 rcases bD.mp (I.zF b hb)with e|hb
 ·rw[e];exact I.free
 ·obtain⟨_,o,ho,_⟩:=I.ok.rF.mem hb;exact I.base.free b o ho (I.ok.frf b hb) λz=>I.ok.exfs b z hb
def Inv.step{g':Array GenState}{t':Nat}{d':Drawn}{ch:bb}(I:Inv X pins σ H s)
  (hch:∀b∈ch,(b∈X.ex\/X.s₀.heap.objs.size<=b)/\b≠X.env.locals/\(∀x c,X.env.cells.lookup x=some c->c≠b)/\∀p∈X.pn++pins,p.1≠b)
  (keep:∀b o,b≠X.env.locals->b∉X.fs->b∉ch->s.heap.get? b=some o->H b=none->h'.get? b=some o)
  (slot:∀b o,b≠X.env.locals->b∈X.fs->b∉ch->s.heap.get? b=some o->H b=none->∃sl,h'.get? b=some { o with slots:=sl }) (free:∀b o,b∉ch->s.heap.get? b=some o->H b=none->H' b=none)
  (there:∀b o,b∉ch->s.heap.get? b=some o->∃o',h'.get? b=some o')
  (tups:∀b xs,H b=some (.tup xs)->H' b=some (.tup xs)) (frzs:∀b o u,H b=some (.frz o u)->H' b=some (.frz o u)) (tbls:∀b ps,H b=some (.tbl ps)->∃more,H' b=some (.tbl (ps++more)))
  (ns:∀m,s.heap.Ns X.env.locals m->h'.Ns X.env.locals m) (hok:um X.prog X.w H' h') (hg:AllBare g') :
  Inv X pins σ H' { s with heap:=h',gens:=g',drawn:=d',toks:=t' }:=by
 have neL:∀b o,X.s₀.heap.get? b=some o->b≠X.env.locals:=λb o e=>bE (bK (bf e) I.ok.above);have neC:∀b o,X.s₀.heap.get? b=some o->b∉X.ex->b∉ch:=λb o e hx hb=>by
  rcases(hch b hb).1 with z|z
  ·exact hx z
  ·exact absurd (bK (bf e) z) (eE _)
 have cellK:∀x c,X.env.cells.lookup x=some c->∀v,s.heap.IsCell c v->h'.IsCell c v:=λx c e v ⟨o,ho,hd⟩=>by
  have nch:c∉ch:=λz=>(hch c z).2.2.1 x c e rfl;by_cases hc:c∈X.fs
  ·obtain⟨sl,q⟩:=slot c o (I.Sy x c e) hc nch ho (I.freeC x c e);exact⟨_,q,hd⟩
  ·exact⟨o,keep c o (I.Sy x c e) hc nch ho (I.freeC x c e),hd⟩
 refine⟨I.ok,I.os,hg,⟨λb o e n hb hx=>?_,λb o e n hb hx=>?_,λb o e n hx=>?_,λb o e hx=>?_,λb xs e=>tups b xs (I.base.tups b xs e),λb o xs e=>frzs b o xs (I.base.frzs b o xs e),λb ps e=>?_⟩,?_,λx c e=>?_,?_,λx c e=>?_,λp hp=>?_,hok,I.len⟩
 ·exact keep b o (neL b o e) hb (neC b o e hx) (I.base.keep b o e n hb hx) (I.base.free b o e n hx)
 ·obtain⟨sl,e1⟩:=I.base.slot b o e n hb hx;obtain⟨sl',e2⟩:=slot b _ (neL b o e) hb (neC b o e hx) e1 (I.base.free b o e n hx);exact⟨sl',e2⟩
 ·obtain⟨o',e1⟩:=I.base.there b o e hx;exact free b o' (neC b o e hx) e1 (I.base.free b o e n hx)
 ·obtain⟨o',e1⟩:=I.base.there b o e hx;exact there b o' (neC b o e hx) e1
 ·obtain⟨m1,e1⟩:=I.base.tbls b ps e;obtain⟨m2,e2⟩:=tbls b _ e1;exact⟨m1++m2,by rw[e2,Array.append_assoc]⟩
 ·obtain⟨m,hn,hl⟩:=I.loc;refine⟨m,ns m hn,λi x v e1 e2 e3=>?_⟩;obtain⟨u,r,l⟩:=hl i x v e1 e2 e3;refine⟨u,r,?_⟩
  rcases l with l|⟨k,c,e,z⟩
  ·exact .inl l
  ·exact .inr ⟨k,c,e,cellK x c e _ z⟩
 ·obtain⟨v,z⟩:=I.cell x c e;exact⟨v,cellK x c e v z⟩
 ·obtain⟨m,⟨o,_,_,ho,_⟩,_⟩:=I.loc;exact free _ o (λz=>(hch _ z).2.1 rfl) ho I.free
 ·obtain⟨v,o,ho,hd⟩:=I.cell x c e;exact free c o (λz=>(hch c z).2.2.1 x c e rfl) ho (I.freeC x c e)
 ·obtain⟨e,n,ne,nf,d⟩:=I.pin p hp;have nch:p.1∉ch:=λz=>(hch p.1 z).2.2.2 p hp rfl;exact⟨keep p.1 p.2 ne nf nch e n,free p.1 p.2 nch e n,ne,nf,d⟩
def Inv.un{t':Nat}(I:Inv X pins σ H s)(u:Un X.fs [] H H' s.heap h')(hok:um X.prog X.w H' h'):Inv X pins σ H' { s with heap:=h',toks:=t' }:=by
 obtain⟨m,⟨o,es,ep,ho,r⟩,_⟩:=id I.loc;obtain⟨sl,hL⟩:=u.any ho I.free (by simp);exact I.step (g':=s.gens) (d':=s.drawn) (ch:=[]) (nofun) (λb o _ hb _ e n=>u.keep b o e n hb (by simp)) (λb o _ hb _ e n=>u.slot b o e n hb (by simp)) (λb o _ e n=>u.free b o e n (by simp)) (λb o _ e=>u.there b o e (by simp)) u.tups u.frzs u.tbls (λm' hm=>by
  obtain⟨o',es',ep',ho',r'⟩:=hm;rw[ho]at ho';cases ho';exact⟨_,es',ep',hL,r'⟩) hok I.bare
def Inv.call{g':Array GenState}{t':Nat}{d':Drawn}{ch:bb}(I:Inv X pins σ H s)(u:Un (frs X.stack) ch H H' s.heap h')(hok:um X.prog X.w H' h')(hg:AllBare g')
  (hch:∀b∈ch,(b∈X.ex\/X.s₀.heap.objs.size<=b)/\b≠X.env.locals/\(∀x c,X.env.cells.lookup x=some c->c≠b)/\∀p∈X.pn++pins,p.1≠b) :
  Inv X pins σ H' { s with heap:=h',gens:=g',drawn:=d',toks:=t' }:=by
 obtain⟨m,⟨o,es,ep,ho,r⟩,_⟩:=id I.loc;obtain⟨sl,hL⟩:=u.any ho I.free λz=>(hch _ z).2.1 rfl;exact I.step (ch:=ch) hch (λb o hL hb hc e n=>u.keep b o e n (λz=>(bD.mp (I.zF b z)).elim hL hb) hc) (λb o _ _ hc e n=>u.any e n hc) (λb o hc e n=>u.free b o e n hc) (λb o hc e=>u.there b o e hc) u.tups u.frzs u.tbls (λm' hm=>by
  obtain⟨o',es',ep',ho',r'⟩:=hm;rw[ho]at ho';cases ho';exact⟨_,es',ep',hL,r'⟩) hok hg
def Inv.turned{t':Nat}{it:ak}(I:Inv X pins σ H s)(k:∀b o,b≠it->s.heap.get? b=some o->h'.get? b=some o)(hn:H it=none)(hL:it≠X.env.locals)
  (h1:it∈X.ex\/X.s₀.heap.objs.size<=it) (h2:∀x c,X.env.cells.lookup x=some c->c≠it) (h3:∀p∈X.pn++pins,p.1≠it):Inv X pins σ H { s with heap:=h',toks:=t' }:=by
 have nit:∀b u,H b=some u->b≠it:=λb u e z=>by rw[z,hn]at e;cases e
 refine I.step (g':=s.gens) (d':=s.drawn) (ch:=[it]) (λb hb=>?_) (λb o _ _ hc e _=>k b o (λz=>hc (by simp[z])) e) (λb o _ _ hc e _=>⟨o.slots,k b o (λz=>hc (by simp[z])) e⟩) (λ_ _ _ _ n=>n)
  (λb o hc e=>⟨o,k b o (λz=>hc (by simp[z])) e⟩) (λ_ _ e=>e) (λ_ _ _ e=>e) (λb ps e=>⟨#[],by rw[e];simp⟩) (λm hm=>?_) (λb u e=>?_) I.bare
 ·have e:b=it:=by simpa using hb
  subst e;exact⟨h1,hL,h2,h3⟩
 ·obtain⟨o,es,ep,ho,r⟩:=hm;exact⟨o,es,ep,k _ o (cR hL) ho,r⟩
 ·refine(I.hok b u e).stay (λc v hc q=>k c v ?_ q) (λ_ q=>q) λ_ _ q=>q
  rcases hc with z|z
  ·rw[z];exact nit b u e
  ·exact nit c _ z
def Inv.tok(I:Inv X pins σ H s)(t:Nat):Inv X pins σ H { s with toks:=t }:=I.un (h':=s.heap) (t':=t) Un.refl I.hok
def Inv.kept{t':Nat}(I:Inv X pins σ H s)(k:∀b u,s.heap.get? b=some u->h'.get? b=some u):Inv X pins σ H { s with heap:=h',toks:=t' }:=I.un (Un.kept k) (I.hok.kept k)
def Inv.laid{a:ak}{t':Nat}(I:Inv X pins σ H s)(k:∀b u,s.heap.get? b=some u->h'.get? b=some u)(hp:s.heap.objs.size<=a)(new:lC X.prog X.w (upd H a o) h' a o) :
  Inv X pins σ (upd H a o) { s with heap:=h',toks:=t' }:=I.un (Un.laid k hp (I.hok.fresh hp)) (I.hok.laid k hp new)
def Inv.write{x:ak}{t':Nat}(I:Inv X pins σ H s)(mu:Y9 (H x))(he:e=x\/H e=some (.own x))(k:∀b u,b≠e->s.heap.get? b=some u->h'.get? b=some u)(heo:∃u,h'.get? e=some u)
  (new:lC X.prog X.w (upd H x o) h' x o):Inv X pins σ (upd H x o) { s with heap:=h',toks:=t' }:=I.un (Un.write mu he k heo) (I.hok.write mu he k heo new)
def Inv.Ht{pins':bv}(I:Inv X pins σ H s)(h:∀p∈pins',s.heap.get? p.1=some p.2/\H p.1=none/\p.1≠X.env.locals/\p.1∉X.fs/\∀v,p.2.data≠.cell v):Inv X pins' σ H s:=
 ⟨I.ok,I.os,I.bare,I.base,I.loc,I.cell,I.free,I.freeC,λp hp=>(bI.mp hp).elim (λz=>I.pin p (cG _ z)) (h p),I.hok,I.len⟩
def yx{N:ar}(hN:N.Nodup){i j:Nat}{x:Str}(a:N[i]?=some x)(b:N[j]?=some x):i=j:=by
 obtain⟨h1,e1⟩:=aL.mp a;obtain⟨h2,e2⟩:=aL.mp b;exact(dj hN).mp (e1.trans e2.symm)
def Kz{A:az}{E:af->aA->Prop}{i:Nat}{x:Str}{v:V}{Q:Unit->aA->Prop}(I:Inv X pins σ H s)(hN:X.N.Nodup)(hi:X.N[i]?=some x)(hx:Loc X.env.scope x)(r:RelV v u)
  (h:∀s',Inv X pins (σ.set i (some v)) H s'->(∃a,Heap.SameBut a s.heap s'.heap/\(a=X.env.locals\/X.env.cells.lookup x=some a))->Q Unit.unit s') (hf:X.fn x=true\/X.env.scope.names.lookup x=some .local:=by first|exact .inl rfl|exact .inr rfl|assumption):wpAny M A (storeName X.env x u) Q E s:=by
 obtain⟨m,hn,hl⟩:=id I.loc;have hcls:(X.env.scope.kind == .class || (X.env.scope.kind == .module && X.env.locals != X.env.globals))=false:=by rw[I.ok.kind];rfl
 have hiσ:i<σ.length:=by rw[I.len];exact(aL.mp hi).1
 have Sy:=I.Sy;have tracked:∀{a:ak} {h':aq},(∃o,s.heap.get? a=some o/\H a=none)->Heap.SameBut a s.heap h'->um X.prog X.w H h':=λ{a h'} ha hs b ob e=>by
  obtain⟨_,_,hfree⟩:=ha;refine(I.hok b ob e).stay (λc w' hc q=>(hs.2 c ?_).trans q) (λ_ q=>q) λ_ _ q=>q;rintro rfl
  rcases hc with rfl|hc
  ·rw[hfree]at e;cases e
  ·rw[hfree]at hc;cases hc
 rcases hx with hk|hk
 ·refine wpAny_storeName_local hk hn (λh' hn' hs=>?_) hcls;obtain⟨oL,_,_,hoL,_⟩:=id hn;refine h _ ⟨I.ok,I.os,I.bare,⟨λb o e n hb hx=>?_,λb o e n hb hx=>?_,I.base.free,λb o e hx=>?_,I.base.tups,I.base.frzs,I.base.tbls⟩,⟨_,hn',λj y v' e1 e2 e3=>?_⟩,λy c e=>?_,I.free,I.freeC,λp hp=>?_,tracked ⟨oL,hoL,I.free⟩ hs,by simpa using I.len⟩ ⟨_,hs,.inl rfl⟩
  ·exact(hs.2 b (bE (bK (bf e) I.ok.above))).trans (I.base.keep b o e n hb hx)
  ·obtain⟨sl,e1⟩:=I.base.slot b o e n hb hx;exact⟨sl,(hs.2 b (bE (bK (bf e) I.ok.above))).trans e1⟩
  ·obtain⟨o',e1⟩:=I.base.there b o e hx;exact⟨o',(hs.2 b (bE (bK (bf e) I.ok.above))).trans e1⟩
  ·by_cases hj:j=i
   ·subst hj;rw[hi]at e1;cases e1;rw[bN hiσ]at e2
    cases e2
    exact⟨u,r,.inl ⟨hk,by simp⟩⟩
   ·rw[bW (cR hj)]at e2;obtain⟨u',r',q⟩:=hl j y v' e1 e2 e3;refine⟨u',r',?_⟩
    rcases q with⟨k,e⟩|⟨k,c,e,z⟩
    ·refine .inl ⟨k,?_⟩;have:y≠x:=λe=>hj (yx hN e1 (e ▸ hi));simp[this,e]
    ·exact .inr ⟨k,c,e,z.sameBut hs (Sy y c e)⟩
  ·obtain⟨w',z⟩:=I.cell y c e;exact⟨w',z.sameBut hs (Sy y c e)⟩
  ·obtain⟨e,n,ne,nf,d⟩:=I.pin p hp;exact⟨(hs.2 p.1 ne).trans e,n,ne,nf,d⟩
 ·have hfn:X.fn x=true:=by
   rcases hf with z|z
   ·exact z
   ·rw[z]at hk;cases hk
  obtain⟨c,hc⟩:=I.ok.has x (.inl hk);obtain⟨w',z⟩:=I.cell x c hc;refine wpAny_storeName_cell I.ok.kind hk hc z (λh' hc' hs=>?_);obtain⟨oc,hoc,hocd⟩:=id z;refine h { s with heap:=h' } ⟨I.ok,I.os,I.bare,⟨λb o e n hb hx=>?_,λb o e n hb hx=>?_,I.base.free,λb o e hx=>?_,I.base.tups,I.base.frzs,I.base.tbls⟩,⟨m,hn.sameBut hs (cR (Sy x c hc)),λj y v' e1 e2 e3=>?_⟩,λy c' e=>?_,I.free,I.freeC,λp hp=>?_,tracked ⟨oc,hoc,I.freeC x c hc⟩ hs,by simpa using I.len⟩ ⟨c,hs,.inr hc⟩
  ·exact(hs.2 b (bE (bK (bf e) (I.ok.cab x c hfn hc)))).trans (I.base.keep b o e n hb hx)
  ·obtain⟨sl,e1⟩:=I.base.slot b o e n hb hx;exact⟨sl,(hs.2 b (bE (bK (bf e) (I.ok.cab x c hfn hc)))).trans e1⟩
  ·obtain⟨o',e1⟩:=I.base.there b o e hx;exact⟨o',(hs.2 b (bE (bK (bf e) (I.ok.cab x c hfn hc)))).trans e1⟩
  ·by_cases hj:j=i
   ·subst hj;rw[hi]at e1;cases e1;rw[bN hiσ]at e2
    cases e2
    exact⟨u,r,.inr ⟨.inl hk,c,hc,hc'⟩⟩
   ·rw[bW (cR hj)]at e2;obtain⟨u',r',q⟩:=hl j y v' e1 e2 e3;refine⟨u',r',?_⟩
    rcases q with q|⟨k,c',e,z'⟩
    ·exact .inl q
    ·refine .inr ⟨k,c',e,z'.sameBut hs ?_⟩;rintro rfl;exact hj (yx hN e1 (I.ok.inj _ _ _ e hc ▸ hi))
  ·by_cases hcc:c'=c
   ·subst hcc;exact⟨_,hc'⟩
   ·obtain⟨w2,z2⟩:=I.cell y c' e;exact⟨w2,z2.sameBut hs hcc⟩
  ·obtain⟨e,n,ne,nf,d⟩:=I.pin p hp;refine⟨(hs.2 p.1 ?_).trans e,n,ne,nf,d⟩;intro q;rw[q,hoc]at e;have q':oc=p.2:=aW e;exact d w' (by rw[<- q'];exact hocd)
def u5{A:az}{E:af->aA->Prop}{i:Nat}{x:Str}{v:V}{Q:Unit->aA->Prop}(I:Inv X pins σ H s)(hN:X.N.Nodup)(hi:X.N[i]?=some x)(hx:Loc X.env.scope x)(r:RelV v u)
  (h:∀s',Inv X pins (σ.set i (some v)) H s'->Q Unit.unit s') (hf:X.fn x=true\/X.env.scope.names.lookup x=some .local:=by first|exact .inl rfl|exact .inr rfl|assumption):wpAny M A (storeName X.env x u) Q E s:=
 Kz I hN hi hx r (λs' I' _=>h s' I') hf
def Inv.Uy{s':aA}{ch:bb}(I:Inv X pins σ H s)(ho:s'.os=s.os)(u:Un (frs X.stack) ch H H' s.heap s'.heap)(hok:um X.prog X.w H' s'.heap)(hg:AllBare s'.gens)
  (hch:∀b∈ch,(b∈X.ex\/X.s₀.heap.objs.size<=b)/\b≠X.env.locals/\(∀x c,X.env.cells.lookup x=some c->c≠b)/\∀p∈X.pn++pins,p.1≠b):Inv X pins σ H' s':=by
 obtain⟨h',g',d',t',o'⟩:=s';have e:o'=s.os:=ho;subst e;exact I.call (g':=g') (t':=t') (d':=d') u hok hg hch
end
meta abbrev XK:=af->Option ak->Hp->Prop
meta abbrev St:=List (Option V)
meta abbrev VK:=V->Hp->Prop
meta abbrev TE:=St->Hp->VK->Prop
meta abbrev TT:=St->Hp->(Bool->Hp->Prop)->Prop
meta abbrev TA:=St->Hp->(List V->Hp->Prop)->Prop
structure Ends where
 nx:St->Hp->Prop
 rt:VK
 bk:St->Hp->Prop:=λ_ _=>False
 ct:St->Hp->Prop:=λ_ _=>False
meta abbrev TS:=Ends->St->Hp->Prop
abbrev EP (X:Cx)(pins:bv)(σ:St)(Q:VK)(u:af)(s':aA):Prop:=∃v H',Inv X pins σ H' s'/\RelV v u/\Q v H'
abbrev TP (X:Cx)(pins:bv)(σ:St)(Q:Bool->Hp->Prop)(b:Bool)(s':aA):Prop:=∃H',Inv X pins σ H' s'/\Q b H'
abbrev AP (X:Cx)(pins:bv)(σ:St)(Q:List V->Hp->Prop)(us:ba)(s':aA):Prop:=∃vs H',Inv X pins σ H' s'/\Vals vs us/\Q vs H'
abbrev SP (X:Cx)(pins:bv)(D:Ends)(f:Flow)(s':aA):Prop:=
 match f with
 | .next=>∃σ' H',Inv X pins σ' H' s'/\D.nx σ' H'
 | .brk=>∃σ' H',Inv X pins σ' H' s'/\D.bk σ' H'
 | .cont=>∃σ' H',Inv X pins σ' H' s'/\D.ct σ' H'
 | .ret u=>∃v σ' H',Inv X pins σ' H' s'/\RelV v u/\D.rt v H'
abbrev PE (X:Cx)(e:aC)(t:TE):Prop:=
 ∀(pins:bv) (s:aA) (σ:St) (H:Hp) (Q:VK),Inv X pins σ H s->t σ H Q->wpAny (model X.prog X.w) X.A (eval e X.env) (EP X pins σ Q) X.xe s
abbrev PT (X:Cx)(e:aC)(t:TT):Prop:=
 ∀(pins:bv) (s:aA) (σ:St) (H:Hp) (Q:Bool->Hp->Prop),Inv X pins σ H s->t σ H Q->wpAny (model X.prog X.w) X.A (isTrue e X.env (eval e X.env)) (TP X pins σ Q) X.xe s
abbrev PW (X:Cx)(e:aC)(t:TT):Prop:=
 ∀(whole:Sem af) (pins:bv) (s:aA) (σ:St) (H:Hp) (Q:Bool->Hp->Prop),Inv X pins σ H s->t σ H Q->wpAny (model X.prog X.w) X.A (isTrue e X.env whole) (TP X pins σ Q) X.xe s
abbrev PA (X:Cx)(es:List aC)(t:TA):Prop:=
 ∀(pos:Pos) (pins:bv) (s:aA) (σ:St) (H:Hp) (Q:List V->Hp->Prop),Inv X pins σ H s->t σ H Q->wpAny (model X.prog X.w) X.A (spliced (backTo pos (starEach es X.env))) (AP X pins σ Q) X.xe s
abbrev PS (X:Cx)(st:aE)(t:TS):Prop:=
 ∀(pins:bv) (s:aA) (σ:St) (H:Hp) (D:Ends),Inv X pins σ H s->t D σ H->wpAny (model X.prog X.w) X.A (exec st X.env) (SP X pins D) X.xe s
abbrev Ah (X:Cx)(st:List aE)(t:TS):Prop:=
 ∀(pins:bv) (s:aA) (σ:St) (H:Hp) (D:Ends),Inv X pins σ H s->t D σ H->wpAny (model X.prog X.w) X.A (execs st X.env) (SP X pins D) X.xe s
def mL{α:Type}{t:Sem α}{Q Q':α->aA->Prop}{A:az}{E:af->aA->Prop}(h:wpAny M A t Q E s)(hQ:∀a s,Q a s->Q' a s):wpAny M A t Q' E s:=dh h hQ λ_ _ x=>x
section
variable {X:Cx}
abbrev Y3 (i:Nat):TE:=λσ H Q=>∃v,σ[i]?=some (some v)/\Q v H
abbrev tC (v:V):TE:=λ_ H Q=>Q v H
def NL{i:Nat}{x:Str}(hN:X.N[i]?=some x)(hv:Zx X.env.scope x)(hd:(x == ("__debug__" : Str))=false:=by decide)(hcd:(x == ("__classdict__" : Str))=false:=by decide):PE X (.Name x pos) (Y3 i):=by
 kt_k;obtain⟨v,e,h⟩:=h;obtain⟨m,hn,hl⟩:=I.loc;obtain⟨u,r,l⟩:=hl i x v hN e hv;have fin:EP X pins σ Q u s:=⟨v,H,I,r,h⟩
 rcases l with⟨hk,hm⟩|⟨hk,c,hc,hcell⟩
 ·exact wpAny_Name (wpAny_loadName_local I.ok.kind hk hn hm fin) hd
 ·rcases hk with hk|hk
  ·exact wpAny_Name (wpAny_loadName_cell I.ok.kind hk hc hcell fin) hd
  ·exact wpAny_Name (wpAny_loadName_free I.ok.kind hk hc hcell fin hcd) hd
def VQ{i j pos}:PE X (.Constant (.int i) j pos) (tC (.int i)):=λ_ _ _ H _ I h=>wpAny_Constant_int ⟨.int i,H,I.tok _,⟨_,rfl⟩,h⟩
def Zs{b j pos}:PE X (.Constant (.bool b) j pos) (tC (.bl b)):=λ_ _ _ H _ I h=>Constant_bool ⟨.bl b,H,I,rfl,h⟩
def Wj{x j pos}:PE X (.Constant (.str x) j pos) (tC (.str x)):=λ_ _ _ H _ I h=>Calls.Constant_str ⟨.str x,H,I.tok _,⟨_,rfl⟩,h⟩
abbrev Gl (X:Cx)(x:Str):Prop:=X.env.kindOf x=some .globalImplicit
def u_{E:af->aA->Prop}{H:Hp}{x:Str}{Q:af->aA->Prop}(I:Inv X pins σ H s)(hg:Gl X x)(hm:X.mg x=some u)(h:Q u s)
  (hd:(x == ("__debug__" : Str))=false:=by decide):wpAny (model X.prog X.w) X.A (eval (.Name x pos) X.env) Q E s:=
 Calls.Name_function_global I.ok.kind hg (Calls.loadGlobal_global (by rw[I.ok.glob];exact I.mod.glob.keeps I.bk) hm h) hd
def wc{E:af->aA->Prop}{H:Hp}{x:Str}{Q:af->aA->Prop}(I:Inv X pins σ H s)(hg:Gl X x)(hm:X.mg x=none)(hv:bootBuiltins x=some u)(h:Q u s)
  (hn:x ≠ "__name__" := by decide) (hd:(x == ("__debug__" : Str))=false:=by decide):wpAny (model X.prog X.w) X.A (eval (.Name x pos) X.env) Q E s:=by
 obtain⟨mb,h1,h2⟩:=I.mod.blt;exact Calls.Name_function_global I.ok.kind hg (Calls.loadGlobal_builtin (by rw[I.ok.glob];exact I.mod.glob.keeps I.bk) hm (by rw[I.ok.blt];exact h1.keeps I.bk) ((h2 x hn).trans hv) h) hd
def IQ{x:Str}{v:V}(hg:Gl X x)(hm:X.mg x=some u)(r:RelV v u)(hd:(x == ("__debug__" : Str))=false:=by decide):PE X (.Name x pos) (tC v):=
 λ_ _ _ H _ I h=>u_ I hg hm ⟨v,H,I,r,h⟩ hd
def HF{x:Str}{v:V}(hg:Gl X x)(hm:X.mg x=none)(hv:bootBuiltins x=some u)(r:RelV v u)(hn:x ≠ "__name__" := by decide)(hd:(x == ("__debug__" : Str))=false:=by decide):PE X (.Name x pos) (tC v):=
 λ_ _ _ H _ I h=>wc I hg hm hv ⟨v,H,I,r,h⟩ hn hd
variable {a b:aC}{ta tb:TE}{pos:Pos}
variable {tA tB':TT}{rest:List aC}
abbrev Yx (t u:TT):TT:=λσ H Q=>t σ H λc H1=>if c=true then u σ H1 Q else Q false H1
abbrev tOr (t u:TT):TT:=λσ H Q=>t σ H λc H1=>if c=true then Q true H1 else u σ H1 Q
abbrev aas (t:TT):TT:=λσ H Q=>t σ H λc H1=>Q (!c) H1
def Qx(ha:PT X a tA):PW X (.BoolOp .And [a] pos) tA:=by
 intro wh pins s σ H Q I h;refine isTrue_and (mL (ha pins s σ H Q I h) λc s1 e=>?_)
 cases c with
 | true=>exact isTrue_and_nil e
 | false=>exact e
def V8(ha:PT X a tA):PW X (.BoolOp .Or [a] pos) tA:=by
 intro wh pins s σ H Q I h;refine isTrue_or (mL (ha pins s σ H Q I h) λc s1 e=>?_)
 cases c with
 | false=>exact isTrue_or_nil e
 | true=>exact e
def Wk(ha:PT X a tA)(hb:PW X (.BoolOp .And (b::rest) pos) tB'):PW X (.BoolOp .And (a::b::rest) pos) (Yx tA tB'):=by
 intro wh pins s σ H Q I h;refine isTrue_and (mL (ha pins s σ H _ I h) λc s1 ⟨H1,I1,q1⟩=>?_)
 cases c with
 | true=>exact hb wh pins s1 σ H1 Q I1 q1
 | false=>exact⟨H1,I1,q1⟩
def YB(ha:PT X a tA)(hb:PW X (.BoolOp .Or (b::rest) pos) tB'):PW X (.BoolOp .Or (a::b::rest) pos) (tOr tA tB'):=by
 intro wh pins s σ H Q I h;refine isTrue_or (mL (ha pins s σ H _ I h) λc s1 ⟨H1,I1,q1⟩=>?_)
 cases c with
 | true=>exact⟨H1,I1,q1⟩
 | false=>exact hb wh pins s1 σ H1 Q I1 q1
def V1(ha:PT X a tA):PT X (.UnaryOp .Not a pos) (aas tA):=by
 kt_k;exact isTrue_not (ha pins s σ H (λc H1=>Q (!c) H1) I h)
abbrev Zz (ta tb:TE):TE:=λσ H Q=>ta σ H λx H1=>∃c,x=.bl c/\if c=true then tb σ H1 Q else Q (.bl false) H1
abbrev Zo (ta:TE):TE:=λσ H Q=>ta σ H λx H1=>∃c,x=.bl c/\Q (.bl (!c)) H1
def WK{op}{t:TE}(h:PE X a t):PE X (.BoolOp op [a] pos) t:=λpins s σ H Q I hw=>BoolOp_one (h pins s σ H Q I hw)
def VN(ha:PE X a ta)(hb:PE X (.BoolOp .And (b::rest) pos) tb):PE X (.BoolOp .And (a::b::rest) pos) (Zz ta tb):=by
 kt_k;refine BoolOp_and (mL (ha pins s σ H _ I h) λv s1 ⟨x,H1,I1,r1,q1⟩=>?_);obtain⟨c,rfl,q1⟩:=q1
 cases r1
 refine dR ?_
 cases c with
 | true=>exact hb pins s1 σ H1 Q I1 q1
 | false=>exact⟨.bl false,H1,I1,rfl,q1⟩
def W2(ha:PE X a ta):PE X (.UnaryOp .Not a pos) (Zo ta):=by
 kt_k;refine UnaryOp_ (mL (ha pins s σ H _ I h) λv s1 ⟨x,H1,I1,r1,q1⟩=>?_);obtain⟨c,rfl,q1⟩:=q1
 cases r1
 exact not_of (dR ⟨.bl (!c),H1,I1,rfl,q1⟩)
end
abbrev qa (K:au)(H:Hp)(a:ak)(xs:List V):Prop:=
 Rd H a (.lst xs) \/
  ∃(o:Obj) (its:Array af) (n:Nat),K.lookup a=some o/\o.cls=.type "list" /\ o.dict=none/\o.data=.seq its n/\its.size<=sizeLine/\Vals xs its.toList
abbrev mO (K:au)(H:Hp)(a:ak)(xs:List V):Prop:=
 Rd H a (.tup xs) \/
  ∃(o:Obj) (its:Array af) (n:Nat),K.lookup a=some o/\o.cls=.type "tuple" /\ o.dict=none/\o.data=.seq its n/\its.size<=sizeLine/\Vals xs its.toList
abbrev Z0:af->Option V
 | .none=>some .non
 | .bool b=>some (.bl b)
 | .int i _=>some (.int i)
 | .str x _=>some (.str x)
 | .bytes b _=>some (.byt b)
 | .float b _=>some (.flt b)
 | .ref a=>some (.ref a)
 | .type n=>some (.ty n)
 | _=>none
def RelV.abs{x:V}(r:RelV x u):Z0 u=some x:=by
 cases x with
 | non=>cases r;rfl
 | bl _=>cases r;rfl
 | int _=>obtain⟨t,rfl⟩:=r;rfl
 | str _=>obtain⟨t,rfl⟩:=r;rfl
 | byt _=>obtain⟨t,rfl⟩:=r;rfl
 | flt _=>obtain⟨t,rfl⟩:=r;rfl
 | ref _=>cases r;rfl
 | ty _=>cases r;rfl
def RelV.inj{x:V}(r:RelV x u)(q:RelV y u):x=y:=aW (r.abs.symm.trans q.abs)
theorem Vals.inj:∀{xs ys:List V}{us:ba},Vals xs us->Vals ys us->xs=ys
 | _,_,_,.nil,.nil=>rfl
 | _,_,_,.cons r t,.cons r' t'=>by rw[r.inj r',Vals.inj t t']
section
variable {X:Cx}{pins:bv}{σ:St}{H:Hp}{s:aA}{a:ak}{xs ys:List V}
def qa.of{K:au}(h:H a=some (.lst xs)):qa K H a xs:=.inl (.inl h)
def mO.of{K:au}(h:H a=some (.tup xs)):mO K H a xs:=.inl (.inl h)
def Inv.list(I:Inv X pins σ H s)(h:qa X.K H a xs):∃its:ba,Vals xs its/\PlainL s.heap a its.toArray/\xs.length<=sizeLine:=by
 rcases h with h|⟨o,its,n,hk,hc,hd,hs,hz,r⟩
 ·obtain⟨z,its,n,r,e⟩:=h.ok I.hok;exact⟨its,r,⟨_,n,e,rfl,rfl,rfl⟩,z⟩
 ·refine⟨its.toList,r,⟨o,n,I.zp a o hk,hc,hd,by simpa using hs⟩,?_⟩;have e:=r.length;dsimp[dF]at e
  lia
def Inv.tuple(I:Inv X pins σ H s)(h:mO X.K H a xs):∃its:ba,Vals xs its/\IsTup s.heap a its.toArray/\xs.length<=sizeLine:=by
 rcases h with h|⟨o,its,n,hk,hc,_,hs,hz,r⟩
 ·obtain⟨z,its,r,p⟩:=h.ok I.hok;exact⟨its,r,p.tup,z⟩
 ·refine⟨its.toList,r,⟨o,I.zp a o hk,hc,n,by simpa using hs⟩,?_⟩;have e:=r.length;dsimp[dF]at e
  lia
def Inv.Em(I:Inv X pins σ H s)(h:qa X.K H a xs)(h':qa X.K H a ys):xs=ys:=by
 obtain⟨its,r,⟨o,n,e,_,_,d⟩,_⟩:=I.list h;obtain⟨its',r',⟨o',n',e',_,_,d'⟩,_⟩:=I.list h';rw[e]at e';cases e';rw[d]at d'
 injection d' with d1 _
 have:its=its':=by simpa using dz Array.toList d1
 subst this;exact r.inj r'
def Inv.wz(I:Inv X pins σ H s)(h:mO X.K H a xs)(h':mO X.K H a ys):xs=ys:=by
 obtain⟨its,r,⟨o,e,_,n,d⟩,_⟩:=I.tuple h;obtain⟨its',r',⟨o',e',_,n',d'⟩,_⟩:=I.tuple h';rw[e]at e';cases e';rw[d]at d'
 injection d' with d1 _
 have:its=its':=by simpa using dz Array.toList d1
 subst this;exact r.inj r'
end
meta abbrev Cx.Ad (X:Cx)(E:af->aA->Prop):Cx:={ X with xe:=E }
meta abbrev Cx.ZE (X:Cx):Cx:=X.Ad λ_ _=>False
def Cx.Ok.Ad{X:Cx}(ok:X.Ok)(E:af->aA->Prop):(X.Ad E).Ok:=
 ⟨ok.mod,ok.kind,ok.glob,ok.blt,ok.above,ok.inj,ok.has,ok.cab,ok.hd,ok.frames,ok.stk,ok.exf,ok.bs,ok.bsz,ok.noex,ok.exfs,ok.rF,ok.frf⟩
def Cx.Ok.sS{X:Cx}{E:af->aA->Prop}(ok:(X.Ad E).Ok):X.Ok:=
 ⟨ok.mod,ok.kind,ok.glob,ok.blt,ok.above,ok.inj,ok.has,ok.cab,ok.hd,ok.frames,ok.stk,ok.exf,ok.bs,ok.bsz,ok.noex,ok.exfs,ok.rF,ok.frf⟩
section
variable {X:Cx}{pins:bv}{σ:St}{H:Hp}{s:aA}{E:af->aA->Prop}
def Inv.Ad(I:Inv X pins σ H s)(E:af->aA->Prop):Inv (X.Ad E) pins σ H s:=⟨I.ok.Ad E,I.os,I.bare,I.base,I.loc,I.cell,I.free,I.freeC,I.pin,I.hok,I.len⟩
def Inv.sS(I:Inv (X.Ad E) pins σ H s):Inv X pins σ H s:=⟨I.ok.sS,I.os,I.bare,I.base,I.loc,I.cell,I.free,I.freeC,I.pin,I.hok,I.len⟩
def SP.sS{D:Ends}{f:Flow}(h:SP (X.Ad E) pins D f s'):SP X pins D f s':=by
 cases f with
 | next=>obtain⟨σ',H',I,q⟩:=h;exact⟨σ',H',I.sS,q⟩
 | brk=>obtain⟨σ',H',I,q⟩:=h;exact⟨σ',H',I.sS,q⟩
 | cont=>obtain⟨σ',H',I,q⟩:=h;exact⟨σ',H',I.sS,q⟩
 | ret u=>obtain⟨v,σ',H',I,r,q⟩:=h;exact⟨v,σ',H',I.sS,r,q⟩
def Ah.ZE{st:List aE}{t:TS}(h:Ah X.ZE st t):Ah X st t:=λpins s σ H D I hw=>
 dh (h pins s σ H D (I.Ad _) hw) (λ_ _ q=>q.sS) λ_ _ z=>False.elim z
end
section
variable {X:Cx}{st:aE}{rest:List aE}{t u:TS}{e:aC}{te:TE}{pos:Pos}
abbrev X9:TS:=λD σ H=>D.nx σ H
abbrev X4 (t u:TS):TS:=λD σ H=>t { D with nx:=u D } σ H
def SH:Ah X [] X9:=λ_ _ σ H _ I h=>gG ⟨σ,H,I,h⟩
def O4(h1:PS X st t)(h2:Ah X rest u):Ah X (st::rest) (X4 t u):=by
 kpf_c;refine wpAny_execs_cons (mL (h1 pins s σ H { D with nx:=u D } I h) λf s1 q=>?_)
 cases f with
 | next=>
  obtain⟨σ',H',I',q⟩:=q;exact h2 pins s1 σ' H' D I' q
 | ret v=>exact q
 | brk=>exact q
 | cont=>exact q
def SJ(h1:PS X st t):Ah X [st] t:=by
 kpf_c;refine wpAny_execs_cons (mL (h1 pins s σ H D I h) λf s1 q=>?_)
 cases f with
 | next=>exact gG q
 | ret v=>exact q
 | brk=>exact q
 | cont=>exact q
def Inv.quiet{H:Hp}(I:Inv X pins σ H s):interactive X.env=false:=by simp[interactive,I.ok.kind]
abbrev Zu (te:TE):TS:=λD σ H=>te σ H λ_ H1=>D.nx σ H1
def RP(he:PE X e te)(hs:swapsWith e none pos.line X.env=pure false:=by rfl):PS X (.Expr e pos) (Zu te):=by
 kpf_c;exact wpAny_Expr_any (mL (he pins s σ H _ I h) λv s1 ⟨x,H1,I1,r1,q1⟩=>⟨σ,H1,I1,q1⟩) I.quiet hs
abbrev aaA (te:TE):TS:=λD σ H=>te σ H D.rt
def Xn(he:PE X e te):PS X (.Return (some e) pos) (aaA te):=by
 kpf_c;exact wpAny_Return_some (mL (he pins s σ H _ I h) λv s1 ⟨x,H1,I1,r1,q1⟩=>⟨x,σ,H1,I1,r1,q1⟩)
abbrev Z_ (c:TT)(t u:TS):TS:=λD σ H=>c σ H λb H1=>if b=true then t D σ H1 else u D σ H1
def Yg{c:aC}{a:List aE}{tc:TT}(hc:PT X c tc)(ha:Ah X a t)(hb:Ah X b u):PS X (.If c a b pos) (Z_ tc t u):=by
 kpf_c;refine wpAny_If (mL (hc pins s σ H _ I h) λd s1 ⟨H1,I1,q1⟩=>?_)
 cases d with
 | true=>exact ha pins s1 σ H1 D I1 q1
 | false=>exact hb pins s1 σ H1 D I1 q1
end
meta abbrev TG:=V->St->Hp->(St->Hp->Prop)->Prop
meta abbrev Ux:=List V->St->Hp->(St->Hp->Prop)->Prop
abbrev PG (X:Cx)(target:aC)(t:TG):Prop:=
 ∀(pins:bv) (s:aA) (σ:St) (H:Hp) (v:V) (u:af) (Q:St->Hp->Prop),Inv X pins σ H s->RelV v u->t v σ H Q ->
  wpAny (model X.prog X.w) X.A (assign target X.env u) (λ_ s'=>∃σ' H',Inv X pins σ' H' s'/\Q σ' H') X.xe s
abbrev Zc (X:Cx)(ts:List aC)(t:Ux):Prop:=
 ∀(pins:bv) (s:aA) (σ:St) (H:Hp) (vs:List V) (us:ba) (Q:St->Hp->Prop),Inv X pins σ H s->Vals vs us->t vs σ H Q ->
  wpAny (model X.prog X.w) X.A (assignInOrder ((assignEach ts X.env).map (·.2)) us) (λ_ s'=>∃σ' H',Inv X pins σ' H' s'/\Q σ' H') X.xe s
meta abbrev KA:=V->V->V->Hp->(Hp->Prop)->Prop
abbrev Kl (X:Cx)(t:KA):Prop:=
 ∀(pins:bv) (s:aA) (σ:St) (H:Hp) (o i v:V) (ov iv u:af) (Q:Hp->Prop),Inv X pins σ H s->RelV o ov->RelV i iv->RelV v u->t o i v H Q ->
  wpAny (model X.prog X.w) X.A (setItem ov iv u) (λ_ s'=>∃H',Inv X pins σ H' s'/\Q H') X.xe s
section
variable {X:Cx}{pos:Pos}
abbrev Oi (i:Nat):TG:=λv σ H Q=>Q (σ.set i (some v)) H
def JC{i:Nat}{x:Str}(hN:X.N.Nodup)(hi:X.N[i]?=some x)(hx:Loc X.env.scope x)(hf:X.fn x=true\/X.env.scope.names.lookup x=some .local:=by first|exact .inl rfl|exact .inr rfl|assumption):PG X (.Name x pos) (Oi i):=by
 intro pins s σ H v u Q I r h;exact wpAny_assign_Name (u5 I hN hi hx r (λs' I'=>⟨_,H,I',h⟩) hf)
abbrev aaf:Ux:=λvs σ H Q=>vs=[]/\Q σ H
abbrev XU (t:TG)(u:Ux):Ux:=λvs σ H Q=>∃v r,vs=v::r/\t v σ H λσ' H'=>u r σ' H' Q
def Ri:Zc X [] aaf:=by
 intro pins s σ H vs us Q I r h;obtain⟨e,h⟩:=h;subst e
 cases r
 exact assignInOrder_nil ⟨σ,H,I,h⟩
def Oe{t:TG}{u:Ux}(h1:PG X e t)(h2:Zc X es u)
  (hs:(assignEach (e::es) X.env).map (·.2)=assign e X.env::(assignEach es X.env).map (·.2):=by rfl):Zc X (e::es) (XU t u):=by
 intro pins s σ H vs us Q I r h;obtain⟨v,vr,e1,h⟩:=h;subst e1
 cases r with
 | cons r rr=>
  rw[hs];refine assignInOrder_cons (mL (h1 pins s σ H _ _ _ I r h) λ_ s1 ⟨σ1,H1,I1,q1⟩=>?_);exact h2 pins s1 σ1 H1 _ _ Q I1 rr q1
abbrev aa2 (K:au)(n:Nat)(t:Ux):TG:=λv σ H Q=>∃a xs,v=.ref a/\mO K H a xs/\xs.length=n/\t xs σ H Q
def V6{k:Nat}{t:Ux}{n:Nat}(hc:X.calm=true)(h:Zc X es t)
  (hn:(assignEach es X.env).length=n:=by rfl) (hst:(assignEach es X.env).findIdx? (·.1)=none:=by rfl):PG X (.Tuple es k pos) (aa2 X.K n t):=by
 intro pins s σ H v u Q I r hw;obtain⟨a,xs,e1,hq,hl,hw⟩:=hw;subst e1
 cases r
 obtain⟨its,rv,ht,hz⟩:=I.tuple hq;refine assign_Tuple_tuple (I.ok.hd hc) ht (by simp[hn,<- hl,rv.length]) hst λh' hx=>?_;have I1:Inv X pins σ H { s with heap:=h' }:=I.kept (t':=s.toks) λb o e=>hx b o (bE (bf e)) e;exact h pins _ σ H xs _ Q I1 (by simpa using rv) hw
abbrev aaL (to ti:TE)(t:KA):TG:=λv σ H Q=>to σ H λo H1=>ti σ H1 λi H2=>t o i v H2 λH3=>Q σ H3
def GD{to ti:TE}{t:KA}(ho:PE X o to)(hi:PE X i ti)(hs:Kl X t)
  (ha:∀v,assign (.Subscript o i pos) X.env v=(do
   let ov <- holding [v] (eval o X.env)
   let iv <- holding [v,ov] (eval i X.env)
   standAt pos
   holding [v,ov,iv] (setItem ov iv v)
   release [v,ov,iv] []):=by intro _;rfl):PG X (.Subscript o i pos) (aaL to ti t):=by
 intro pins s σ H v u Q I r h;rw[ha];refine aF (cT (mL (ho pins s σ H _ I h) λov s1 ⟨x,H1,I1,r1,q1⟩=>?_));refine aF (cT (mL (hi pins s1 σ H1 _ I1 q1) λiv s2 ⟨y,H2,I2,r2,q2⟩=>?_));refine aF (wpAny_standAt (aF (cT (mL (hs pins s2 σ H2 x y v ov iv u _ I2 r1 r2 r q2) λ_ s3 ⟨H3,I3,q3⟩=>?_))));exact wpAny_release ⟨σ,H3,I3,q3⟩
abbrev Rv (te:TE)(g:TG):TS:=λD σ H=>te σ H λx H1=>g x σ H1 D.nx
def Xz{tg:aC}{te:TE}{g:TG}(he:PE X e te)(hg:PG X tg g)(hs:swapsWithSole [tg] e pos.line X.env=pure false:=by rfl)(hw:swappedStores [tg] e X.env=pure none:=by rfl)
  (h1:(assignEach [tg] X.env).map (·.2)=[assign tg X.env]:=by rfl):PS X (.Assign [tg] e pos) (Rv te g):=by
 kpf_c;refine wpAny_Assign_stores (mL (he pins s σ H _ I h) λv s1 ⟨x,H1,I1,r1,q1⟩=>?_) hs hw;rw[h1];exact mL (hg pins s1 σ H1 x v _ I1 r1 q1) λ_ s2 q=>q
def WT{i:Nat}{x:Str}{te:TE}(hN:X.N.Nodup)(hi:X.N[i]?=some x)(hx:Loc X.env.scope x)(he:PE X e te)(hs:swapsWith e (some (.Name x pos')) pos.line X.env=pure false:=by rfl)(hf:X.fn x=true\/X.env.scope.names.lookup x=some .local:=by first|exact .inl rfl|exact .inr rfl|assumption) :
  PS X (.Assign [.Name x pos'] e pos) (Rv te (Oi i)):=by
 kpf_c;refine wpAny_Assign_Name (mL (he pins s σ H _ I h) λv s1 ⟨y,H1,I1,r1,q1⟩=>?_) hs;exact u5 I1 hN hi hx r1 (λs2 I2=>⟨_,H1,I2,q1⟩) hf
end
section
variable {X:Cx}{pos:Pos}
abbrev M9 (c:TT)(tb:TS):TS:=λD σ H=>∃W:Nat->St->Hp->Prop,(∃m,W m σ H)/\∀m σ H,W m σ H ->
 c σ H λb H1=>if b=true then ∃N:St->Hp->Prop,(∀σ' H',N σ' H'->∃m',m'<m/\W m' σ' H')/\tb { D with nx:=N,ct:=N,bk:=D.nx } σ H1 else D.nx σ H1
def Oq{c:aC}{tc:TT}{tb:TS}(hp:PassesOwn (model X.prog X.w) X.A X.env X.xe)(hc:PT X c tc)(hb:Ah X body tb):PS X (.While c body [] pos) (M9 tc tb):=by
 kpf_c;obtain⟨W,⟨m0,w0⟩,turn⟩:=h;refine wpAny_While (codeAny_whileLoop (λn s'=>∃σ' H',Inv X pins σ' H' s'/\W n σ' H') ?_ m0 ⟨σ,H,I,w0⟩);rintro n s1 ⟨σ1,H1,I1,w1⟩;refine eW hp (mL (hc pins s1 σ1 H1 _ I1 (turn n σ1 H1 w1)) λb s2 ⟨H2,I2,q2⟩=>?_)
 cases b with
 | true=>
  obtain⟨N,hN,q2⟩:=q2;rw[aK rfl];refine eW hp (mL (hb pins s2 σ1 H2 _ I2 q2) λf s3 q3=>?_)
  cases f with
  | next=>
   obtain⟨σ3,H3,I3,n3⟩:=q3;obtain⟨m',hm,w3⟩:=hN σ3 H3 n3;exact⟨m',hm,σ3,H3,I3,w3⟩
  | cont=>
   obtain⟨σ3,H3,I3,n3⟩:=q3;obtain⟨m',hm,w3⟩:=hN σ3 H3 n3;exact⟨m',hm,σ3,H3,I3,w3⟩
  | brk=>exact q3
  | ret v=>exact q3
 | false=>
  rw[aI bG];exact gG ⟨σ1,H2,I2,q2⟩
end
structure It where
 go:Nat->Hp->Prop
 yld:Nat->Hp->V->Hp->Prop
 stop:Nat->Hp->Prop
abbrev vZ (X:Cx)(pins:bv)(H:Hp)(b:ak):Prop:=
 H b=none/\b≠X.env.locals/\b∉X.fs/\(b∈X.ex\/X.s₀.heap.objs.size<=b)/\(∀x c,X.env.cells.lookup x=some c->c≠b)/\∀p∈X.pn++pins,p.1≠b
def Inv.DB{X:Cx}{H H':Hp}{s:aA}(I:Inv X pins σ H s)(hb:s.heap.objs.size<=b)(hn:H' b=none):vZ X pins H' b:=by
 refine⟨hn,ne_of_gt (bK I.lt hb),I.Z3 hb,.inr (bJ I.sz hb),λx c e z=>?_,λp hp z=>?_⟩
 ·obtain⟨v,q⟩:=I.cell x c e;exact absurd (bK q.lt (by rw[z];exact hb)) (eE _)
 ·exact absurd (bK (bf (I.pin p hp).1) (by rw[z];exact hb)) (eE _)
structure Turn (P:aj)(w:ah)(K:au)(tg:aC)(J:It)(fp:bb)(it:ak)(tn:Nat->aq->Prop):Prop where
 mem:it∈fp
 obj:∀i h,tn i h->∀b∈fp,∃o,h.get? b=some o/\∀v,o.data≠.cell v
 keep:∀i h h',tn i h->(∀b∈fp,∀o,h.get? b=some o->h'.get? b=some o)->tn i h'
 item:∀(X:Cx),X.prog=P->X.w=w->X.K=K->X.calm=true->∀(i:Nat) (pins:bv) (s:aA) (σ:St) (H:Hp) (E:af->aA->Prop),Inv X pins σ H s->(∀b∈fp,vZ X pins H b)->tn i s.heap->J.go i H ->
  wpAny (model P w) X.A (pyNext (.ref it)) (λr s1=>∃u,r=some u /\
   wpAny (model P w) X.A (letOwnedTupleGo tg (.ref it) u) (λ_ s2=>∃x H',Inv X pins σ H' s2/\RelV x u/\J.yld i H x H'/\tn (i+1) s2.heap/\∀b∈fp,H' b=none) E s1) E s
 done:∀(X:Cx),X.prog=P->X.w=w->X.K=K->X.calm=true->∀(i:Nat) (pins:bv) (s:aA) (σ:St) (H:Hp) (E:af->aA->Prop),Inv X pins σ H s->(∀b∈fp,vZ X pins H b)->tn i s.heap->J.stop i H ->
  wpAny (model P w) X.A (pyNext (.ref it)) (λr s1=>r=none/\Inv X pins σ H s1) E s
 self:∀(A:az) (i:Nat) (s:aA) (Q:af->aA->Prop) (E:af->aA->Prop),tn i s.heap->Q (.ref it) s->wpAny (model P w) A (pyIter (.ref it)) Q E s
meta abbrev TI:=St->Hp->(It->Hp->Prop)->Prop
abbrev PIE (X:Cx)(pins:bv)(σ:St)(tg:aC)(R:It->Hp->Prop)(itv:af)(s2:aA):Prop:=
 ∃(it:ak) (fp:bb) (tn:Nat->aq->Prop) (J:It) (H':Hp),itv=.ref it/\Inv X pins σ H' s2/\Turn X.prog X.w X.K tg J fp it tn/\tn 0 s2.heap/\(∀b∈fp,vZ X pins H' b)/\R J H'
abbrev PI (X:Cx)(tg iter:aC)(wi:TI):Prop:=
 ∀(pins:bv) (s:aA) (σ:St) (H:Hp) (R:It->Hp->Prop),Inv X pins σ H s->wi σ H R ->
  wpAny (model X.prog X.w) X.A (eval iter X.env) (λv s1=>wpAny (model X.prog X.w) X.A (pyIter v) (PIE X pins σ tg R) X.xe s1) X.xe s
def Eg{A:az}{E:af->aA->Prop}{s:aA}{o:Obj}{n:String}{Q:Unit->aA->Prop}(ho:s.heap.get? it=some o)(hc:o.cls=.type n)(hd:o.data=.fields vs)
  (hn:["enumerate", "zip", "dict_itemiterator", "dict_reverseitemiterator", "odict_iterator", "itertools.zip_longest", "itertools.pairwise"].contains n=false) (hQ:Q Unit.unit s):wpAny M A (letOwnedTupleGo tg (.ref it) u) Q E s:=by
 unfold letOwnedTupleGo
 cases tg<;>first
  | exact aP hQ
  | (cases u<;>first
    | exact aP hQ
    | (refine aF (wpAny_load ho ?_)
       rw[hc,hd];show wpAny M A (if (["enumerate", "zip", "dict_itemiterator", "dict_reverseitemiterator", "odict_iterator", "itertools.zip_longest", "itertools.pairwise"].contains n && vs[0]? == some (rawInt _))=true then _ else _) Q E s;rw[aI (by intro h;rw[hn,Bool.false_and]at h;cases h)];exact aP hQ))
abbrev Zk (K:au)(a:ak):It:=
 ⟨λi H=>∃xs x,qa K H a xs/\xs[i]?=some x,λi H x H'=>H'=H/\∀xs,qa K H a xs->xs[i]?=some x,λi H=>∃xs,qa K H a xs/\xs.length<=i⟩
abbrev Itt (K:au)(a:ak):It:=
 ⟨λi H=>∃xs x,mO K H a xs/\xs[i]?=some x,λi H x H'=>H'=H/\∀xs,mO K H a xs->xs[i]?=some x,λi H=>∃xs,mO K H a xs/\xs.length<=i⟩
abbrev ZC (lo:Int)(n:Nat):It:=⟨λi _=>i<n,λi H x H'=>H'=H/\x=.int (lo+i),λi _=>n<=i⟩
def wC{P:aj}{w:ah}{K:au}(a it:ak):Turn P w K tg (Zk K a) [it] it (λi h=>h.IsListIter it a i) where
 mem:=by simp
 obj:=λi h st b hb=>by
  have e:b=it:=by simpa using hb
  subst e;obtain⟨o,e,c,d⟩:=st;exact⟨o,e,λv z=>by rw[d]at z;cases z⟩
 keep:=λi h h' st k=>st.at λo e=>k it (by simp) o e
 item:=by
  z_go;subst hP hw hK;obtain⟨xs,x,hq,hx⟩:=hg;obtain⟨its,rv,p,hz⟩:=I.list hq;obtain⟨u,hu,ru⟩:=rv.get hx;w_up;refine wpAny_pyNext_list_item st p.isList (x:=u) (by simpa using hu) λh' st' sb=>?_;have I1:Inv X pins σ H { s with heap:=h' }:=I.turned (t':=s.toks) (λb o hb e=>(sb.2 b hb).trans e) f0 f1 f3 f4 f5;obtain⟨o,e,c,d⟩:=id st';exact⟨u,rfl,Eg (s:={ s with heap:=h' }) e c d ⋯ ⟨x,H,I1,ru,⟨rfl,λys hy=>by rw[I.Em hy hq];exact hx⟩,st',λb hb=>(hf b hb).1⟩⟩
 done:=by
  z_go;subst hP hw hK;obtain⟨xs,hq,hx⟩:=hg;obtain⟨its,rv,p,hz⟩:=I.list hq;w_up;have hl:=rv.length;exact wpAny_pyNext_list_end (I.ok.hd hc) st p.isList (by simp;omega) λh' eb=>⟨rfl,I.turned (t':=s.toks) (λb o hb e=>eb b o hb e) f0 f1 f3 f4 f5⟩
 self:=λ_ _ _ _ _ st h=>wpAny_pyIter_listiter st h
def FZ{P:aj}{w:ah}{K:au}(a it:ak):Turn P w K tg (Itt K a) [it] it (λi h=>h.IsTupleIter it a i) where
 mem:=by simp
 obj:=λi h st b hb=>by
  have e:b=it:=by simpa using hb
  subst e;obtain⟨o,e,c,d⟩:=st;exact⟨o,e,λv z=>by rw[d]at z;cases z⟩
 keep:=λi h h' st k=>st.at λo e=>k it (by simp) o e
 item:=by
  z_go;subst hP hw hK;obtain⟨xs,x,hq,hx⟩:=hg;obtain⟨its,rv,p,hz⟩:=I.tuple hq;obtain⟨u,hu,ru⟩:=rv.get hx;w_up;refine wpAny_pyNext_tuple_item st (show s.heap.IsTuple a its.toArray from p) (x:=u) (by simpa using hu) λh' st' sb=>?_;have I1:Inv X pins σ H { s with heap:=h' }:=I.turned (t':=s.toks) (λb o hb e=>(sb.2 b hb).trans e) f0 f1 f3 f4 f5;obtain⟨o,e,c,d⟩:=id st';exact⟨u,rfl,Eg (s:={ s with heap:=h' }) e c d ⋯ ⟨x,H,I1,ru,⟨rfl,λys hy=>by rw[I.wz hy hq];exact hx⟩,st',λb hb=>(hf b hb).1⟩⟩
 done:=by
  z_go;subst hP hw hK;obtain⟨xs,hq,hx⟩:=hg;obtain⟨its,rv,p,hz⟩:=I.tuple hq;w_up;have hl:=rv.length;exact wpAny_pyNext_tuple_end (I.ok.hd hc) st (show s.heap.IsTuple a its.toArray from p) (by simp;lia) λh' eb=>⟨rfl,I.turned (t':=s.toks) (λb o hb e=>eb b o hb e) f0 f1 f3 f4 f5⟩
 self:=λ_ _ _ _ _ st h=>wpAny_pyIter_tupleiter st h
def GK{P:aj}{w:ah}{K:au}(it:ak)(lo:Int)(n:Nat):Turn P w K tg (ZC lo n) [it] it (λi h=>IsRangeIter h it (lo+(i:Nat) * 1) ((n:Int)-(i:Nat)) 1) where
 mem:=by simp
 obj:=λi h st b hb=>by
  have e:b=it:=by simpa using hb
  subst e;exact⟨_,st,λv z=>by
   have z':Data.fields _=Data.cell v:=z
   cases z'⟩
 keep:=λi h h' st k=>k it (by simp) _ st
 item:=by
  z_go;subst hP hw hK;w_up;have W:=Walks.range (prog:=X.prog) (w:=X.w) (I.ok.hd hc) it lo 1 n;refine W.item i s _ _ hg st λv h' tk hv st' kk=>?_;obtain⟨t,rfl⟩:=hv;have I1:Inv X pins σ H { s with heap:=h',toks:=tk }:=I.turned (λb o hb e=>kk b o (by simpa using hb) e) f0 f1 f3 f4 f5;refine⟨_,rfl,Eg (s:={ s with heap:=h',toks:=tk }) (n := "range_iterator") st' rfl rfl ⋯ ⟨.int (lo+i),H,I1,⟨t,?_⟩,⟨rfl,rfl⟩,st',λb hb=>(hf b hb).1⟩⟩;rw[mul_one]
 done:=by
  z_go;subst hP hw hK;w_up;exact wpAny_pyNext_range_end (I.ok.hd hc) st (by have:n<=i:=hg;lia) λh' eb=>⟨rfl,I.turned (t':=s.toks) (λb o hb e=>eb b o hb e) f0 f1 f3 f4 f5⟩
 self:=λ_ _ _ _ _ st h=>wpAny_pyIter_rangeiter st h
section
variable {X:Cx}{tg:aC}
abbrev Tt (K:au)(tl:TE):TI:=λσ H R=>tl σ H λx H1=>∃a,x=.ref a/\(∃xs,qa K H1 a xs)/\R (Zk K a) H1
abbrev aaS (K:au)(tl:TE):TI:=λσ H R=>tl σ H λx H1=>∃a,x=.ref a/\(∃xs,mO K H1 a xs)/\R (Itt K a) H1
def HG{l:aC}{tl:TE}(hl:PE X l tl):PI X tg l (Tt X.K tl):=by
 intro pins s σ H R I h;refine mL (hl pins s σ H _ I h) λv s1 ⟨x,H1,I1,r1,q1⟩=>?_;obtain⟨a,e,⟨xs,hq⟩,q⟩:=q1;subst e
 cases r1
 obtain⟨its,rv,p,hz⟩:=I1.list hq;refine i6 p.isList ?_;refine⟨s1.heap.objs.size,[s1.heap.objs.size],_,_,H1,rfl,I1.kept (t':=s1.toks) λb o e=>aO _ e,wC a _,⟨_,bB _ rfl,rfl,rfl⟩,λb hb=>?_,q⟩;have e:b=s1.heap.objs.size:=by simpa using hb
 subst e;exact I1.DB (aQ _) (I1.hok.fresh (aQ _))
def Qc{l:aC}{tl:TE}(hl:PE X l tl):PI X tg l (aaS X.K tl):=by
 intro pins s σ H R I h;refine mL (hl pins s σ H _ I h) λv s1 ⟨x,H1,I1,r1,q1⟩=>?_;obtain⟨a,e,⟨xs,hq⟩,q⟩:=q1;subst e
 cases r1
 obtain⟨its,rv,p,hz⟩:=I1.tuple hq;refine gJ (show s1.heap.IsTuple a its.toArray from p) ?_;refine⟨s1.heap.objs.size,[s1.heap.objs.size],_,_,H1,rfl,I1.kept (t':=s1.toks) λb o e=>aO _ e,FZ a _,⟨_,bB _ rfl,rfl,rfl⟩,λb hb=>?_,q⟩;have e:b=s1.heap.objs.size:=by simpa using hb
 subst e;exact I1.DB (aQ _) (I1.hok.fresh (aQ _))
def DU{H:Hp}{s:aA}{R:It->Hp->Prop}{E:af->aA->Prop}{lo hi:Int}{t v:Tok}{tk:Nat}(I:Inv X pins σ H s)(h1:-(2 ^ 62)<=lo)(h2:lo<2 ^ 62)(h3:-(2 ^ 62)<=hi)(h4:hi<2 ^ 62)
  (q:R (ZC lo (hi-lo).toNat) H):wpAny (model X.prog X.w) X.A (pyIter (.ref s.heap.objs.size)) (PIE X pins σ tg R) E { s with heap:=s.heap.push { cls:=.type "range",data:=.fields #[.int lo t,.int hi u,.int 1 v]},toks:=tk }:=by
 refine wpAny_pyIter_range (IsRange.new ..) (small_one h1 h2 h3 h4) ?_;have I1:Inv X pins σ H { s with heap:=s.heap.push { cls:=.type "range",data:=.fields #[.int lo t,.int hi u,.int 1 v]},toks:=tk }:=I.kept λb o e=>aO _ e;refine⟨(s.heap.push { cls:=.type "range",data:=.fields #[.int lo t,.int hi u,.int 1 v]}).objs.size,[(s.heap.push { cls:=.type "range",data:=.fields #[.int lo t,.int hi u,.int 1 v]}).objs.size],_,_,H,rfl,
  I1.kept (t':=tk) λb o e=>aO _ e,GK _ lo (hi-lo).toNat,?_,λb hb=>?_,q⟩
 ·have e1:lo+((0:Nat):Int) * 1=lo:=by simp
  have e2:(((hi-lo).toNat:Nat):Int)-((0:Nat):Int)=Builtin.Range.rangeSize lo hi 1:=by rw[rangeSize_one];split<;>lia
  skip
  rw[e1,e2];exact bB _ rfl
 ·have e:b=(s.heap.push { cls:=.type "range",data:=.fields #[.int lo t,.int hi u,.int 1 v]}).objs.size:=by simpa using hb
  subst e;exact I1.DB (aQ _) (I1.hok.fresh (aQ _))
abbrev uv (ta:TA):TI:=λσ H R=>ta σ H λvs H1=>∃j:Int,vs=[.int j]/\-(2 ^ 62)<=j/\j<2 ^ 62/\R (ZC 0 j.toNat) H1
abbrev yp (ta:TA):TI:=λσ H R=>ta σ H λvs H1=>∃i j:Int,vs=[.int i,.int j]/\(-(2 ^ 62)<=i/\i<2 ^ 62/\-(2 ^ 62)<=j/\j<2 ^ 62)/\R (ZC i (j-i).toNat) H1
def J6{a:aC}{ta:TA}{p:Pos}(hg:Gl X "range")(hm:X.mg "range" = none)(ha:PA X [a] ta)(hs:starEach [a] X.env=[(false,eval a X.env)]:=by rfl):PI X tg (.Call (.Name "range" p) [a] [] pos) (uv ta):=by
 intro pins s σ H R I h;refine Call_ (wc I hg hm boot_range (er (mL (ha pos pins s σ H _ I h) λus s1 ⟨vs,H1,I1,r1,q1⟩=>?_) hs rfl));obtain⟨j,e,q1,q2,q⟩:=q1;subst e
 cases r1 with
 | cons r rr=>
  cases rr
  obtain⟨t,rfl⟩:=r;exact call_range_1 (DU I1 () () q1 q2 (by simpa using q))
def Ke{a b:aC}{ta:TA}{p:Pos}(hg:Gl X "range")(hm:X.mg "range" = none)(ha:PA X [a,b] ta)(hs:starEach [a,b] X.env=[(false,eval a X.env),(false,eval b X.env)]:=by rfl)(hs2:starEach [b] X.env=[(false,eval b X.env)]:=by rfl) :
  PI X tg (.Call (.Name "range" p) [a,b] [] pos) (yp ta):=by
 intro pins s σ H R I h;refine Call_ (wc I hg hm boot_range (er (mL (ha pos pins s σ H _ I h) λus s1 ⟨vs,H1,I1,r1,q1⟩=>?_) (by rw[hs,hs2]) (by rw[hs2];rfl)));obtain⟨i,j,e,⟨q1,q2,q3,q4⟩,q⟩:=q1;subst e
 cases r1 with
 | cons r rr=>
  cases rr with
  | cons r' rr=>
   cases rr
   obtain⟨t,rfl⟩:=r;obtain⟨t',rfl⟩:=r';exact call_range_2 (DU I1 q1 q2 q3 q4 q)
abbrev aap (wi:TI)(g:TG)(tb:TS):TS:=λD σ H=>wi σ H λJ H1=>∃W:Nat->Nat->St->Hp->Prop,(∃m,W 0 m σ H1)/\∀i m σ H,W i m σ H ->
 (J.stop i H/\D.nx σ H)\/(J.go i H/\∃N:St->Hp->Prop,(∀σ' H',N σ' H'->∃m',m'<m/\W (i+1) m' σ' H')/\∀x H',J.yld i H x H'->g x σ H' λσ2 H2=>tb { D with nx:=N,ct:=N,bk:=D.nx } σ2 H2)
abbrev zj (fp:bb)(h:aq):bv:=fp.filterMap λb=>(h.get? b).map λo=>(b,o)
def pK{fp:bb}{h:aq}{b:ak}(hb:b∈fp)(e:h.get? b=some o):(b,o)∈zj fp h:=gK.mpr ⟨b,hb,by rw[e];rfl⟩
def Kg{fp:bb}{h:aq}{p:ak×Obj}(hp:p∈zj fp h):p.1∈fp/\h.get? p.1=some p.2:=by
 obtain⟨b,hb,e⟩:=gK.mp hp
 cases q:h.get? b with
 | none=>rw[q]at e;cases e
 | some o=>
  rw[q]at e;have e':(b,o)=p:=aW e;subst e';exact⟨hb,q⟩
def Inv.pinned{H:Hp}{s:aA}{fp:bb}(I:Inv X pins σ H s)(hf:∀b∈fp,vZ X pins H b)(ho:∀b∈fp,∃o,s.heap.get? b=some o/\∀v,o.data≠.cell v):Inv X (pins++zj fp s.heap) σ H s:=
 I.Ht λp hp=>(bI.mp hp).elim (λz=>I.pin p (bP _ z)) λz=>by
  obtain⟨hb,e⟩:=Kg z;obtain⟨f0,f1,f2,_⟩:=hf p.1 hb;obtain⟨o,e',d⟩:=ho p.1 hb;rw[e]at e';cases e';exact⟨e,f0,f1,f2,d⟩
def Inv.sV{pl:bv}{H:Hp}(I:Inv X (pins++pl) σ H s):Inv X pins σ H s:=I.Ht λp hp=>I.pin p (bP _ (cG _ hp))
def Vt{iter:aC}{wi:TI}{g:TG}{tb:TS}(hp:PassesOwn (model X.prog X.w) X.A X.env X.xe)(hc:X.calm=true)(hi:PI X tg iter wi)(hg:PG X tg g)(hb:Ah X body tb)
  (hs:∀x,foldedSetIterable iter X.env x=pure x:=by intro _;rfl):PS X (.For tg iter body [] pos) (aap wi g tb):=by
 kpf_c;refine wpAny_For (mL (hi pins s σ H _ I h) λv s1 h1=>mL h1 λitv s2 h2=>?_) hs;obtain⟨it,fp,tn,J,H2,e,I2,T,st2,f2,W,⟨m0,w0⟩,turn⟩:=h2;subst e;have stat:∀{H':Hp},(∀b∈fp,H' b=none)->∀b∈fp,vZ X pins H' b:=λhn b hb=>⟨hn b hb,(f2 b hb).2⟩;refine codeAny_forLoop_any (λn s'=>∃i σ' H',Inv X pins σ' H' s'/\tn i s'.heap/\(∀b∈fp,H' b=none)/\W i n σ' H') ?_ m0 ⟨0,σ,H2,I2,st2,λb hb=>(f2 b hb).1,w0⟩;rintro n s3 ⟨i,σ3,H3,I3,st3,fr3,w3⟩
 rcases turn i n σ3 H3 w3 with⟨stop,qn⟩|⟨go,N,hN,step⟩
 ·refine eW hp (mL (T.done X rfl rfl rfl hc i pins s3 σ3 H3 X.xe I3 (stat fr3) st3 stop) λr s4 ⟨hr,I4⟩=>?_);subst hr;exact gG ⟨σ3,H3,I4,qn⟩
 ·refine eW hp (mL (T.item X rfl rfl rfl hc i pins s3 σ3 H3 X.xe I3 (stat fr3) st3 go) λr s4 ⟨u,hr,h4⟩=>?_);subst hr;refine eW hp (mL h4 λ_ s5 ⟨x,H5,I5,r5,y5,st5,fr5⟩=>?_);have I5':=I5.pinned (stat fr5) (T.obj _ _ st5);refine eW hp (mL (hg _ s5 σ3 H5 x u _ I5' r5 (step x H5 y5)) λ_ s6 ⟨σ6,H6,I6,q6⟩=>?_);refine eW hp (mL (hb _ s6 σ6 H6 _ I6 q6) λf s7 q7=>?_);have again:∀{σ7:St} {H7:Hp},Inv X (pins++zj fp s5.heap) σ7 H7 s7->N σ7 H7->∃m,m<n/\∃i σ' H',Inv X pins σ' H' s7/\tn i s7.heap/\(∀b∈fp,H' b=none)/\W i m σ' H':=λ{σ7 H7} I7 n7=>by
   obtain⟨m',hm,w7⟩:=hN σ7 H7 n7;refine⟨m',hm,i+1,σ7,H7,I7.sV,T.keep _ _ _ st5 λb hb o e=>(I7.pin (b,o) (bP _ (bP _ (pK hb e)))).1,λb hb=>?_,w7⟩;obtain⟨o,e,d⟩:=T.obj _ _ st5 b hb;exact(I7.pin (b,o) (bP _ (bP _ (pK hb e)))).2.1
  cases f with
  | next=>obtain⟨σ7,H7,I7,n7⟩:=q7;exact again I7 n7
  | cont=>obtain⟨σ7,H7,I7,n7⟩:=q7;exact again I7 n7
  | brk=>obtain⟨σ7,H7,I7,q7⟩:=q7;exact⟨σ7,H7,I7.sV,q7⟩
  | ret v=>obtain⟨x7,σ7,H7,I7,r7,q7⟩:=q7;exact⟨x7,σ7,H7,I7.sV,r7,q7⟩
end
def yJ{c:TT}{tb:TS}{D:Ends}{H:Hp}(Pv:St->Hp->Prop)(μ:St->Hp->Nat)(h0:Pv σ H)
  (hs:∀σ H,Pv σ H->c σ H λb H1=>if b=true then tb { D with nx:=λσ' H'=>Pv σ' H'/\μ σ' H'<μ σ H,ct:=λσ' H'=>Pv σ' H'/\μ σ' H'<μ σ H,bk:=D.nx } σ H1 else D.nx σ H1)
  (mono:∀σ H Q Q',(∀b H1,Q b H1->Q' b H1)->c σ H Q->c σ H Q'):M9 c tb D σ H:=by
 refine⟨λm σ H=>m=μ σ H/\Pv σ H,⟨_,rfl,h0⟩,?_⟩;rintro m σ H ⟨rfl,p⟩;refine mono σ H _ _ (λb H1 q=>?_) (hs σ H p)
 cases b with
 | true=>exact⟨_,λσ' H' ⟨p',l⟩=>⟨_,l,rfl,p'⟩,q⟩
 | false=>exact q
meta abbrev R2:=V->V->Hp->VK->Prop
abbrev oE (X:Cx)(f:af->af->Sem af)(r:R2):Prop:=
 ∀(pins:bv) (s:aA) (σ:St) (H:Hp) (x y:V) (v u:af) (Q:VK),Inv X pins σ H s->RelV x v->RelV y u->r x y H Q ->
  wpAny (model X.prog X.w) X.A (f v u) (EP X pins σ Q) X.xe s
abbrev ZP (X:Cx)(f:af->Sem af)(r:V->Hp->VK->Prop):Prop:=
 ∀(pins:bv) (s:aA) (σ:St) (H:Hp) (x:V) (v:af) (Q:VK),Inv X pins σ H s->RelV x v->r x H Q ->
  wpAny (model X.prog X.w) X.A (f v) (EP X pins σ Q) X.xe s
abbrev kg (X:Cx)(f:af)(r:List V->Hp->VK->Prop):Prop:=
 ∀(pins:bv) (s:aA) (σ:St) (H:Hp) (xs:List V) (us:ba) (Q:VK),Inv X pins σ H s->Vals xs us->r xs H Q ->
  wpAny (model X.prog X.w) X.A (call f us) (EP X pins σ Q) X.xe s
abbrev Z2 (X:Cx)(r:V->Hp->(Bool->Hp->Prop)->Prop):Prop:=
 ∀(pins:bv) (s:aA) (σ:St) (H:Hp) (x:V) (v:af) (Q:Bool->Hp->Prop),Inv X pins σ H s->RelV x v->r x H Q ->
  wpAny (model X.prog X.w) X.A (truthy v) (TP X pins σ Q) X.xe s
abbrev YD (r:R2)(ta tb:TE):TE:=λσ H Q=>ta σ H λx H1=>tb σ H1 λy H2=>r x y H2 Q
abbrev tUn (r:V->Hp->VK->Prop)(ta:TE):TE:=λσ H Q=>ta σ H λx H1=>r x H1 Q
abbrev rI (C:Int->Int->Prop)(g:Int->Int->V):R2:=λx y H Q=>∃i j,x=.int i/\y=.int j/\C i j/\Q (g i j) H
abbrev UG (g:Int->Int->V):R2:=λx y H Q=>∃i j,x=.int i/\y=.int j/\Q (g i j) H
abbrev rU (g:Int->V):V->Hp->VK->Prop:=λx H Q=>∃i,x=.int i/\Q (g i) H
section
variable {X:Cx}{a b:aC}{ta tb:TE}{pos:Pos}
def Vd(ha:PE X a ta)(hb:PE X b tb){H:Hp}{R:V->V->Hp->Prop}(I:Inv X pins σ H s)
  (h:ta σ H λx H1=>tb σ H1 λy H2=>R x y H2) {Q:af->aA->Prop} {f:af->af->Sem af}
  (hf:∀v u s2 x y H2,Inv X pins σ H2 s2->RelV x v->RelV y u->R x y H2->wpAny (model X.prog X.w) X.A (f v u) Q X.xe s2) :
  wpAny (model X.prog X.w) X.A (eval a X.env) (λv s₁=>wpAny (model X.prog X.w) X.A (eval b X.env) (λu s₂=>wpAny (model X.prog X.w) X.A (f v u) Q X.xe s₂) X.xe s₁) X.xe s:=by
 refine mL (ha pins s σ H _ I h) λv s1 ⟨x,H1,I1,r1,q1⟩=>?_;refine mL (hb pins s1 σ H1 _ I1 q1) λu s2 ⟨y,H2,I2,r2,q2⟩=>?_;exact hf v u s2 x y H2 I2 r1 r2 q2
def Yp{r:R2}(ho:oE X (binaryOp op) r)(ha:PE X a ta)(hb:PE X b tb):PE X (.BinOp a op b pos) (YD r ta tb):=by
 kt_k;exact wpAny_BinOp (Vd ha hb I h λv u s2 x y H2 I2 rx ry q=>ho pins s2 σ H2 x y v u Q I2 rx ry q)
def ZD{r:V->Hp->VK->Prop}(ho:ZP X (unaryOp op) r)(ha:PE X a ta):PE X (.UnaryOp op a pos) (tUn r ta):=by
 kt_k;exact UnaryOp_ (mL (ha pins s σ H _ I h) λv s1 ⟨x,H1,I1,r1,q1⟩=>ho pins s1 σ H1 x v Q I1 r1 q1)
def ZZ{f:af->af->Sem af}{C:Int->Int->Prop}{g:Int->Int->Int}
  (rule:∀(i j:Int) (t u:Tok) (s:aA) (Q:af->aA->Prop) (E:af->aA->Prop),C i j->Q (.int (g i j) s.toks) { s with toks:=s.toks+1 }->wpAny (model X.prog X.w) X.A (f (.int i t) (.int j u)) Q E s) :
  oE X f (rI C λi j=>.int (g i j)):=by
 gp_on;obtain⟨i,j,rfl,rfl,hc,q⟩:=h;obtain⟨t,rfl⟩:=rx;obtain⟨t',rfl⟩:=ry;exact rule i j t t' s _ _ hc ⟨.int (g i j),H,I.tok _,⟨_,rfl⟩,q⟩
def Yn{f:af->af->Sem af}{g:Int->Int->Int}
  (rule:∀(i j:Int) (t u:Tok) (s:aA) (Q:af->aA->Prop) (E:af->aA->Prop),Q (.int (g i j) s.toks) { s with toks:=s.toks+1 }->wpAny (model X.prog X.w) X.A (f (.int i t) (.int j u)) Q E s) :
  oE X f (UG λi j=>.int (g i j)):=by
 gp_on;obtain⟨i,j,rfl,rfl,q⟩:=h;obtain⟨t,rfl⟩:=rx;obtain⟨t',rfl⟩:=ry;exact rule i j t t' s _ _ ⟨.int (g i j),H,I.tok _,⟨_,rfl⟩,q⟩
def RE{f:af->af->Sem af}{g:Int->Int->Bool}
  (rule:∀(i j:Int) (t u:Tok) (s:aA) (Q:af->aA->Prop) (E:af->aA->Prop),Q (.bool (g i j)) s->wpAny (model X.prog X.w) X.A (f (.int i t) (.int j u)) Q E s) :
  oE X f (UG λi j=>.bl (g i j)):=by
 gp_on;obtain⟨i,j,rfl,rfl,q⟩:=h;obtain⟨t,rfl⟩:=rx;obtain⟨t',rfl⟩:=ry;exact rule i j t t' s _ _ ⟨.bl (g i j),H,I,rfl,q⟩
abbrev Z9 (i j:Int):Prop:=0<=j/\j<=1000000/\i.natAbs<2 ^ 64
abbrev Rf (i j:Int):Prop:=(-(2 ^ 64)<i/\i<2 ^ 64)\/(-(2 ^ 64)<j/\j<2 ^ 64)
def Rf.ok{i j:Int}(h:Rf i j):IntMulOk i j:=by
 rcases h with⟨h1,h2⟩|⟨h1,h2⟩
 ·exact .of_left (intBits_le_64 h1 h2)
 ·exact .of_right (intBits_le_64 h1 h2)
def VF:oE X (binaryOp .Add) (UG λi j=>.int (i+j)):=Yn λ_ _ _ _ _ _ _ q=>add_int q
def Xp:oE X (binaryOp .Sub) (UG λi j=>.int (i-j)):=Yn λ_ _ _ _ _ _ _ q=>sub_int q
def Xb:oE X (binaryOp .Mult) (rI Rf λi j=>.int (i * j)):=ZZ λ_ _ _ _ _ _ _ hc q=>mul_int q hc.ok
def Vr:oE X (binaryOp .Mod) (rI (λ_ j=>0<j) λi j=>.int (i % j)):=ZZ λi j _ _ _ _ _ hc q=>by
 have h1:(0:Int)<j:=hc;exact mod_int' () (by rw[Int.fmod_eq_emod_of_nonneg i ()];exact q)
def VX:oE X (binaryOp .Pow) (rI Z9 λi j=>.int (i ^ j.toNat)):=ZZ λ_ _ _ _ _ _ _ hc q=>pow_int_small hc.1 hc.2.1 hc.2.2 q
def unI{f:af->Sem af}{g:Int->Int}
  (rule:∀(i:Int) (t:Tok) (s:aA) (Q:af->aA->Prop) (E:af->aA->Prop),Q (.int (g i) s.toks) { s with toks:=s.toks+1 }->wpAny (model X.prog X.w) X.A (f (.int i t)) Q E s) :
  ZP X f (rU λi=>.int (g i)):=by
 intro pins s σ H x v Q I rx h;obtain⟨i,rfl,q⟩:=h;obtain⟨t,rfl⟩:=rx;exact rule i t s _ _ ⟨.int (g i),H,I.tok _,⟨_,rfl⟩,q⟩
def VR:ZP X (unaryOp .USub) (rU λi=>.int (-i)):=unI λ_ _ _ _ _ q=>neg_int q
end
section
variable {X:Cx}{a b c:aC}{ta tb tc:TE}{pos:Pos}
def Zh:oE X (compareOp .Lt) (UG λi j=>.bl (decide (i<j))):=RE λ_ _ _ _ _ _ _ q=>lt_int q
def XX:oE X (compareOp .LtE) (UG λi j=>.bl (decide (i<=j))):=RE λ_ _ _ _ _ _ _ q=>le_int q
def Zl:oE X (compareOp .Gt) (UG λi j=>.bl (decide (j<i))):=RE λ_ _ _ _ _ _ _ q=>gt_int q
def Y5:oE X (compareOp .GtE) (UG λi j=>.bl (decide (j<=i))):=RE λ_ _ _ _ _ _ _ q=>ge_int q
def Nh(b:aC)(h:op≠.In:=by decide)(h2:op≠.NotIn:=by decide):behindInMarks op b=false:=by
 have e1:(op == CmpOp.In)=false:=by cases op<;>first|rfl|exact absurd rfl h
 have e2:(op == CmpOp.NotIn)=false:=by cases op<;>first|rfl|exact absurd rfl h2
 cases b<;>simp[behindInMarks,e1,e2]
def QH{op:CmpOp}{r:R2}(ho:oE X (compareOp op) r)(ha:PE X a ta)(hb:PE X b tb)(hm:behindInMarks op b=false):PE X (.Compare a [op] [b] pos) (YD r ta tb):=by
 kt_k;exact wpAny_Compare1 (Vd ha hb I h λv u s2 x y H2 I2 rx ry q=>ho pins s2 σ H2 x y v u Q I2 rx ry q) hm
abbrev Zj (t:TE):TT:=λσ H Q=>t σ H λx H'=>∃k,x=.bl k/\Q k H'
def QE{op:CmpOp}{r:R2}(ho:oE X (compareOp op) r)(ha:PE X a ta)(hb:PE X b tb)(hm:behindInMarks op b=false):PT X (.Compare a [op] [b] pos) (Zj (YD r ta tb)):=by
 kt_k;refine wpAny_isTrue_Compare1 (mL (ha pins s σ H _ I h) λv s1 ⟨x,H1,I1,r1,q1⟩=>mL (hb pins s1 σ H1 _ I1 q1) λu s2 ⟨y,H2,I2,r2,q2⟩=>
  mL (ho pins s2 σ H2 x y v u _ I2 r1 r2 q2) λc s3 ⟨z,H3,I3,r3,k,e,q3⟩=>?_) hm
 subst e
 cases r3
 exact dR ⟨H3,I3,q3⟩
abbrev Ma (r r':R2)(ta tb tc:TE):TE:=λσ H Q=>ta σ H λx H1=>tb σ H1 λy H2=>r x y H2 λz H3=>∃k,z=.bl k /\
 (if k=true then tc σ H3 λw' H4=>r' y w' H4 Q else Q (.bl false) H3)
def M4{r r':R2}(ho:oE X (compareOp op) r)(ho':oE X (compareOp op') r')(ha:PE X a ta)(hb:PE X b tb)(hc:PE X c tc)
  (hm:lastMarks [op,op'] [b,c]=false:=by with_unfolding_all rfl):PE X (.Compare a [op,op'] [b,c] pos) (Ma r r' ta tb tc):=by
 kt_k;refine Compare_chain (mL (ha pins s σ H _ I h) λv s1 ⟨x,H1,I1,r1,q1⟩=>chain_link (mL (hb pins s1 σ H1 _ I1 q1) λu s2 ⟨y,H2,I2,r2,q2⟩=>
  mL (ho pins s2 σ H2 x y v u _ I2 r1 r2 q2) λd s3 ⟨z,H3,I3,r3,k,e,q3⟩=>?_)) hm
 subst e
 cases r3
 refine dR ?_
 cases k with
 | false=>exact ite_ff ⟨.bl false,H3,I3,rfl,q3⟩
 | true=>exact ite_tt (chain_last (mL (hc pins s3 σ H3 _ I3 q3) λw' s4 ⟨z',H4,I4,r4,q4⟩=>ho' pins s4 σ H4 y z' u w' Q I4 r2 r4 q4))
abbrev Vg (K:au)(x:V)(H:Hp)(k:Bool):Prop:=
 match x with
 | .non=>k=false
 | .bl b=>k=b
 | .int i=>k=(i != 0)
 | .str y=>y.length<=sizeLine/\k=((y.length:Int) != 0)
 | .byt y=>y.size<=sizeLine/\k=((y.size:Int) != 0)
 | .ref p=>(∃xs,qa K H p xs/\k=!xs.isEmpty)\/(∃xs,mO K H p xs/\k=!xs.isEmpty)\/∃kvs,H p=some (.dK kvs)/\k=!kvs.isEmpty
 | _=>False
def Fx{κ:Type}{kvs:List (κ×V)}{vs:List (κ×af)}(r:KV kvs vs):(!vs.isEmpty)=!kvs.isEmpty:=by
 cases r<;>rfl
def yt{xs:List V}{its:ba}(r:Vals xs its):(!its.toArray.isEmpty)=!xs.isEmpty:=by
 cases r<;>simp
def wW:(sizeLine:Nat)<2 ^ 63:=by rw[eF];decide
def Wu:Z2 X (λx H Q=>∃k,Vg X.K x H k/\Q k H):=by
 intro pins s σ H x v Q I rx h;obtain⟨k,e,q⟩:=h;have hl:=wW;have hs:sizeLine=16777216:=eF
 cases x with
 | non=>
  cases rx
  have e':k=false:=e;subst e';exact truthy_none ⟨H,I,q⟩
 | bl b=>
  cases rx
  have e':k=b:=e;subst e';exact dR ⟨H,I,q⟩
 | int i=>
  obtain⟨t,rfl⟩:=rx;have e':k=(i != 0):=e;subst e';exact PySem.P.truthy_int ⟨H,I,q⟩
 | str y=>
  obtain⟨t,rfl⟩:=rx;obtain⟨hy,e'⟩:y.length<=sizeLine/\k=((y.length:Int) != 0):=e;subst e';exact PySem.P.truthy_str () ⟨H,I.tok _,q⟩
 | byt y=>
  obtain⟨t,rfl⟩:=rx;obtain⟨hy,e'⟩:y.size<=sizeLine/\k=((y.size:Int) != 0):=e;subst e';exact PySem.W.truthy_bytes () ⟨H,I.tok _,q⟩
 | ref p=>
  cases rx
  have e':(∃xs,qa X.K H p xs/\k=!xs.isEmpty)\/(∃xs,mO X.K H p xs/\k=!xs.isEmpty)\/∃kvs,H p=some (.dK kvs)/\k=!kvs.isEmpty:=e
  rcases e' with⟨xs,hx,e'⟩|⟨xs,hx,e'⟩|⟨kvs,hx,e'⟩
  ·subst e';obtain⟨its,r,pl,hz⟩:=I.list hx;have hlen:=r.length;exact wpAny_truthy_list pl.isList (by dsimp[aY];lia) ⟨H,I.tok _,by rw[yt r];exact q⟩
  ·subst e';obtain⟨its,r,pl,hz⟩:=I.tuple hx;have hlen:=r.length;exact truthy_tuple pl (by dsimp[aY];lia) ⟨H,I.tok _,by rw[yt r];exact q⟩
  ·subst e';obtain⟨hz,hS,vs,r,m⟩:kvs.length<=sizeLine/\(p == sysModules)=false/\∃vs,KV kvs vs/\s.heap.DictOf (kK X.prog X.w) p vs:=I.hok p _ hx;have hlen:kvs.length=vs.length:=jc r;exact wpAny_truthy_dict hS m () ⟨H,I.tok _,by rw[Fx r];exact q⟩
 | _=>exact(show False from e).elim
def MI(ha:PE X a ta)(he:∀whole,isTrue a X.env whole=(do let v <- whole;standAt a.pos;holding [v] (truthy v))) :
  PT X a (λσ H Q=>ta σ H λx H'=>∃k,Vg X.K x H' k/\Q k H'):=by
 kt_k;exact isTrue_plain (mL (ha pins s σ H _ I h) λv s1 ⟨x,H1,I1,r1,q1⟩=>Wu pins s1 σ H1 x v Q I1 r1 q1) (he _)
def GA:oE X (binaryOp .Add) (λx y H Q=>∃i j,x=.str i/\y=.str j/\i.length+j.length<=sizeLine/\Q (.str (i++j)) H):=by
 gp_on;obtain⟨i,j,rfl,rfl,hz,q⟩:=h;obtain⟨t,rfl⟩:=rx;obtain⟨t',rfl⟩:=ry;exact add_str (λt' tk=>⟨.str (i++j),H,I.tok _,⟨_,rfl⟩,q⟩) hz
def vals1{x:V}(r:Vals [x] us):∃u,us=[u]/\RelV x u:=by
 cases r with
 | cons r1 r2=>cases r2;exact⟨_,rfl,r1⟩
def vals2{x:V}(r:Vals [x,y] us):∃u w',us=[u,w']/\RelV x u/\RelV y w':=by
 cases r with
 | cons r1 r2=>
  cases r2 with
  | cons r3 r4=>cases r4;exact⟨_,_,rfl,r1,r3⟩
def O1:kg X (.builtin "abs") (λxs H Q=>∃i,xs=[.int i]/\Q (.int (if i<0 then -i else i)) H):=by
 k_ne;obtain⟨i,rfl,q⟩:=h;obtain⟨u,rfl,t,rfl⟩:=vals1 r;exact call_abs_int λu tk=>⟨.int (if i<0 then -i else i),H,I.tok _,⟨_,rfl⟩,q⟩
def KH(hc:X.calm=true):kg X (.builtin "max") (λxs H Q=>∃i j,xs=[.int i,.int j]/\Q (.int (if j>i then j else i)) H):=by
 k_ne;obtain⟨i,j,rfl,q⟩:=h;obtain⟨u,w',rfl,⟨t,rfl⟩,⟨t',rfl⟩⟩:=vals2 r;refine max_two_ints (I.ok.hd hc) λh' tk k=>⟨_,H,I.kept k,?_,q⟩;by_cases hj:j>i
 ·rw[aK hj,aK hj];exact⟨_,rfl⟩
 ·rw[aI hj,aI hj];exact⟨_,rfl⟩
def Kc(hc:X.calm=true):kg X (.builtin "min") (λxs H Q=>∃i j,xs=[.int i,.int j]/\Q (.int (if j<i then j else i)) H):=by
 k_ne;obtain⟨i,j,rfl,q⟩:=h;obtain⟨u,w',rfl,⟨t,rfl⟩,⟨t',rfl⟩⟩:=vals2 r;refine min_two_ints (I.ok.hd hc) λh' tk k=>⟨_,H,I.kept k,?_,q⟩;by_cases hj:j<i
 ·rw[aK hj,aK hj];exact⟨_,rfl⟩
 ·rw[aI hj,aI hj];exact⟨_,rfl⟩
def Aq:kg X (.type "int") (λxs H Q=>(∃i,xs=[.int i]/\Q (.int i) H)\/∃k,xs=[.bl k]/\Q (.int (if k then 1 else 0)) H):=by
 k_ne
 rcases h with⟨i,rfl,q⟩|⟨k,rfl,q⟩
 ·obtain⟨u,rfl,t,rfl⟩:=vals1 r;exact call_int_int ⟨.int i,H,I,⟨_,rfl⟩,q⟩
 ·obtain⟨u,rfl,r1⟩:=vals1 r
  cases r1
  exact call_int_bool ⟨.int (if k then 1 else 0),H,I.tok _,⟨_,rfl⟩,q⟩
abbrev aay (K:au)(x:V)(H:Hp)(n:Nat):Prop:=
 match x with
 | .str y=>y.length<=sizeLine/\n=y.length
 | .byt y=>y.size<=sizeLine/\n=y.size
 | .ref p=>(∃xs,qa K H p xs/\n=xs.length)\/∃xs,mO K H p xs/\n=xs.length
 | _=>False
def O7:kg X (.builtin "len") (λxs H Q=>∃x n,xs=[x]/\aay X.K x H n/\Q (.int n) H):=by
 k_ne;obtain⟨x,n,rfl,e,q⟩:=h;kcj_m;have hl:=wW;have hs:sizeLine=16777216:=eF
 cases x with
 | str y=>
  obtain⟨t,rfl⟩:=rx;obtain⟨hy,e'⟩:y.length<=sizeLine/\n=y.length:=e;subst e';exact len_str () ⟨.int _,H,I.tok _,⟨_,rfl⟩,q⟩
 | byt y=>
  obtain⟨t,rfl⟩:=rx;obtain⟨hy,e'⟩:y.size<=sizeLine/\n=y.size:=e;subst e';exact PySem.W.len_bytes () ⟨.int _,H,I.tok _,⟨_,rfl⟩,q⟩
 | ref p=>
  cases rx
  have e':(∃xs,qa X.K H p xs/\n=xs.length)\/∃xs,mO X.K H p xs/\n=xs.length:=e
  rcases e' with⟨xs,hx,e'⟩|⟨xs,hx,e'⟩
  ·subst e';obtain⟨its,r',pl,hz⟩:=I.list hx;have hlen:=r'.length;exact Calls.call_len_list pl.isList (by dsimp[aY];lia) ⟨.int xs.length,H,I.tok _,⟨_,by dsimp[aY];rw[hlen]⟩,q⟩
  ·subst e';obtain⟨its,r',pl,hz⟩:=I.tuple hx;have hlen:=r'.length;exact len_tuple pl (by dsimp[aY];lia) ⟨.int xs.length,H,I.tok _,⟨_,by dsimp[aY];rw[hlen]⟩,q⟩
 | _=>exact(show False from e).elim
end
structure ObjM (h:aq)(x dx C:ak)(mA:Str->bd):Prop where
 obj:h.get? x=some (PySem.W.instObj C dx)
 ns:h.Ns1 dx mA
 ne:dx≠x
def Lb{h:aq}{mA:Str->bd}(n:h.Ns1 dx mA):∃od,h.get? dx=some od/\∀name,PySem.W.lookIn name od=some (mA name):=by
 obtain⟨o,es,ep,ho,hd,hk,_,hm⟩:=n;refine⟨o,ho,λname=>?_⟩;have e:=hm name;unfold nsFind findBy at e;rw[<- Array.find?_toList]at e;unfold PySem.W.lookIn;rw[hd];dsimp only;split
 ·rename_i y q;rw[q]at e;exact dz some e
 ·rename_i q;rw[q]at e;have a:es.toList.any (·.refKey)=false:=by
   rw[List.any_eq_false];intro y hy;obtain⟨z,t,hkey⟩:=hk y (Array.mem_toList_iff.mp hy);simp[DictEntry.refKey,hkey]
  have a':¬es.toList.any (·.refKey)=true:=by rw[a];exact bG
  rw[aI a'];exact dz some e
def ObjM.look{x:ak}{mA:Str->bd}(I:ObjM h x dx C mA):∃od,PySem.W.InstAt h x (PySem.W.instObj C dx) C (some od)/\∀name,PySem.W.lookIn name od=some (mA name):=
 let⟨od,ho,hl⟩:=Lb I.ns
 ⟨od,⟨I.obj,rfl,rfl,ho⟩,hl⟩
def wL.some_of{v:V}(r:wL (some v) o):∃u,o=some u/\RelV v u:=by
 cases o with
 | none=>exact(show False from r).elim
 | some u=>exact⟨u,rfl,r⟩
section
variable {P:aj}{w:ah}{H:Hp}{h:aq}{a C dx:ak}{fs:List (Str×V)}
def RY(hok:um P w H h)(e:H a=some (.ins C dx fs)):∃mA,ObjM h a dx C mA/\(∀f,wL (fs.lookup f) (mA f))/\PySem.Within mA (fs.map (·.1))/\fs.length<=1000/\H dx=some (.own a):=by
 obtain⟨d,z,ne,ob,mA,n,r,q⟩:=(show lC P w H h a (.ins C dx fs)from hok a _ e);exact⟨mA,⟨ob,n,ne⟩,r,q,z,d⟩
end
structure Cls (K:au)(C:ak):Prop where
 pg:PySem.W.plainGet K C Str.empty=true
 hd:PySem.W.hasDictIn K C=true
 po:PySem.W.plainOver K C=true
 sa:PySem.W.findIn K (.ref C) "__setattr__" = some (some (.builtin "object.__setattr__"))
def Cls.get{K:au}(c:Cls K C)(f:Str):PySem.W.plainGet K C f=true:=c.pg
structure Con (K:au)(C:ak)(f:Str)(v:V)(u:af):Prop where
 at_:PySem.W.findIn K (.ref C) f=some (some u)
 rel:RelV v u
 get:PySem.W.specialIn K u "__get__" = some none
 cp:PySem.W.copiedNames.contains f=false
structure Meth (K:au)(C:ak)(m:Str)(f:ak):Prop where
 at_:PySem.W.findIn K (.ref C) m=some (some (.ref f))
 fn:PySem.W.isFn K (.ref f)=true
 kp:PySem.W.keepIn K (.ref f)=true
section
variable {X:Cx}{pins:bv}{σ:St}{H:Hp}{s:aA}{A:az}{E:af->aA->Prop}{Q:af->aA->Prop}{c:af}{b:Bool}
inductive TyOf (K:au) (H:Hp):V->af->Prop where
 | non:TyOf K H .non (.type "NoneType")
 | bl (x:Bool):TyOf K H (.bl x) (.type "bool")
 | int (i:Int):TyOf K H (.int i) (.type "int")
 | str (x:Str):TyOf K H (.str x) (.type "str")
 | flt (x:UInt64):TyOf K H (.flt x) (.type "float")
 | lst {a:ak} {xs:List V} (e:H a=some (.lst xs)):TyOf K H (.ref a) (.type "list")
 | frz {a:ak} {o:Obj} {xs:List V} (e:H a=some (.frz o (.lst xs))):TyOf K H (.ref a) (.type "list")
 | tup {a:ak} {xs:List V} (e:H a=some (.tup xs)):TyOf K H (.ref a) (.type "tuple")
 | dK {a:ak} {kvs:List (Key×V)} (e:H a=some (.dK kvs)):TyOf K H (.ref a) (.type "dict")
 | dT {a:ak} {kvs:List (List Key×V)} (e:H a=some (.dT kvs)):TyOf K H (.ref a) (.type "dict")
 | ins {a C dx:ak} {fs:List (Str×V)} (e:H a=some (.ins C dx fs)) (cl:Cls K C) (ha:PySem.W.findIn K (.ref C) "__class__" = some (some (.builtin "object.__class__")))
   (hn:PySem.W.specialIn K (.builtin "object.__class__") "__get__" = some (some (.builtin "getset_descriptor.__get__"))) (htk:PySem.W.takesIn K (.builtin "object.__class__")=some true)
   (hm:PySem.W.mroIn K C (.type "object")=some true):TyOf K H (.ref a) (.ref C)
def KJ{x:V}{t:af}(I:Inv X pins σ H s)(rx:RelV x u)(ty:TyOf X.K H x t)(e:PySem.W.kitOne X.K t c=some b)(h:∀tk,Q (.bool b) { s with toks:=tk }) :
  wpAny (model X.prog X.w) A (call (.builtin "isinstance") [u,c]) Q E s:=by
 cases ty with
 | non=>cases(show u=Value.none from rx);exact cL PySem.W.kitx_none I.zp True.intro e (λz=>nomatch z) h
 | bl y=>cases(show u=Value.bool y from rx);exact cL PySem.W.kitx_bool I.zp True.intro e (λz=>nomatch z) h
 | int i=>obtain⟨t,q⟩:=(show ∃t,u=Value.int i t from rx);cases q;exact cL PySem.W.kitx_int I.zp True.intro e (λz=>nomatch z) h
 | str y=>obtain⟨t,q⟩:=(show ∃t,u=Value.str y t from rx);cases q;exact cL PySem.W.kitx_str I.zp True.intro e (λz=>nomatch z) h
 | flt y=>obtain⟨t,q⟩:=(show ∃t,u=Value.float y t from rx);cases q;exact cL PySem.W.kitx_float I.zp True.intro e (λz=>nomatch z) h
 | @lst a xs ea=>
  cases(show u=Value.ref a from rx)
  obtain⟨_,_,n,_,h1⟩:=(show lC X.prog X.w H s.heap a (.lst xs)from I.hok a _ ea);exact cL PySem.W.kitx_list I.zp ⟨_,h1,rfl⟩ e (λz=>nomatch z) h
 | @frz a ob xs ea=>
  cases(show u=Value.ref a from rx)
  obtain⟨_,_,_,n,_,h1⟩:=(show lC X.prog X.w H s.heap a (.frz ob (.lst xs))from I.hok a _ ea);exact cL PySem.W.kitx_list I.zp ⟨_,h1,rfl⟩ e (λz=>nomatch z) h
 | @tup a xs ea=>
  cases(show u=Value.ref a from rx)
  obtain⟨_,_,_,p⟩:=(show lC X.prog X.w H s.heap a (.tup xs)from I.hok a _ ea);obtain⟨o,h1,h2,_⟩:=p;exact cL PySem.W.kitx_tuple I.zp ⟨o,h1,h2⟩ e (λz=>nomatch z) h
 | @dK a kvs ea=>
  cases(show u=Value.ref a from rx)
  obtain⟨_,_,vs,_,p⟩:=(show lC X.prog X.w H s.heap a (.dK kvs)from I.hok a _ ea);obtain⟨o,es,ep,h1,h2,_⟩:=p;exact cL PySem.W.kitx_dict I.zp ⟨o,h1,h2.1⟩ e (λz=>nomatch z) h
 | @dT a kvs ea=>
  cases(show u=Value.ref a from rx)
  obtain⟨_,_,xs,_,o,es,ep,h1,h2,_⟩:=(show lC X.prog X.w H s.heap a (.dT kvs)from I.hok a _ ea);exact cL PySem.W.kitx_dict I.zp ⟨o,h1,h2.1⟩ e (λz=>nomatch z) h
 | @ins a C dx fs ea cl ha hn htk hm=>
  cases(show u=Value.ref a from rx)
  obtain⟨mA,O,_⟩:=RY I.hok ea;obtain⟨od,J,_⟩:=O.look;exact cL (PySem.W.kitx_own (cl.get _) cl.hd ha hn htk hm) I.zp J e (λz=>nomatch z) h
end
structure Room (k:Nat)(A:az):Prop where
 hd:A.handled=none
 dp:A.depth+3 * k+5<recursionLimit
 un:A.units+16 * k+200<cLine
def Room.mono{k:Nat}{A:az}(r:Room k A)(h:j<=k):Room j A:=⟨r.hd,by have:=r.dp;lia,by have:=r.un;lia⟩
def Room.deeper{k:Nat}{A:az}(r:Room (k+1) A)(env:Env):Room k (A.deeper env):=
 ⟨r.hd,by have:=r.dp;show A.depth+1+3 * k+5<_;lia,by have:=r.un;show A.units+3+16 * k+200<_;lia⟩
def Room.depth{k:Nat}{A:az}(r:Room k A):A.depth<recursionLimit:=by have:=r.dp;lia
def Room.units{k:Nat}{A:az}(r:Room k A):A.units+64<cLine:=by have:=r.un;lia
abbrev aaW:TA:=λ_ H Q=>Q [] H
abbrev Yz (ta:TE)(tr:TA):TA:=λσ H Q=>ta σ H λx H1=>tr σ H1 λxs H2=>Q (x::xs) H2
section
variable {X:Cx}{e:aC}{es:List aC}{te:TE}{t:TA}{pos:Pos}
def wA:PA X [] aaW:=λ_ _ _ _ H Q I h=>Calls.spliced_nil ⟨[],H,I,.nil,h⟩
def qk(ha:PE X e te)(hr:PA X es t)(hs:starEach (e::es) X.env=(false,eval e X.env)::starEach es X.env:=by rfl):PA X (e::es) (Yz te t):=by
 intro pos pins s σ H Q I h;rw[hs]
 skip
 refine Calls.spliced_cons (mL (ha pins s σ H _ I h) λu s1 ⟨x,H1,I1,r1,q1⟩=>?_);exact mL (hr pos pins s1 σ H1 _ I1 q1) λus s2 ⟨xs,H2,I2,r2,q2⟩=>⟨x::xs,H2,I2,.cons r1 r2,q2⟩
abbrev aa1 (t:TA):TE:=λσ H Q=>t σ H λxs H1=>xs.length<=sizeLine/\∀p,H1 p=none->Q (.ref p) (upd H1 p (.tup xs))
abbrev aac (t:TA):TE:=λσ H Q=>t σ H λxs H1=>xs.length<=sizeLine/\∀p,H1 p=none->Q (.ref p) (upd H1 p (.lst xs))
def U8{x1}(h:PA X es t):PE X (.Tuple es x1 pos) (aa1 t):=by
 intro pins s σ H Q I hq;refine wpAny_Tuple_spliced (mL (h pos pins s σ H _ I hq) λus s1 ⟨xs,H1,I1,r,z,q⟩=>⟨by rw[<- r.length];exact z,?_⟩);have hf:H1 s1.heap.objs.size=none:=I1.hok.fresh (aQ _);refine⟨.ref s1.heap.objs.size,upd H1 s1.heap.objs.size (.tup xs),I1.laid (t':=s1.toks) (λb u e=>aO _ e) (aQ _) ?_,rfl,q _ hf⟩;exact⟨z,us,r,⟨_,bB _ rfl,rfl,rfl,_,rfl⟩⟩
def VG(h:PA X es t):PE X (.List es pos) (aac t):=by
 intro pins s σ H Q I hq;refine wpAny_List_spliced (mL (h pos pins s σ H _ I hq) λus s1 ⟨xs,H1,I1,r,z,q⟩=>⟨by rw[<- r.length];exact z,?_⟩);have hf:H1 s1.heap.objs.size=none:=I1.hok.fresh (aQ _);refine⟨.ref s1.heap.objs.size,upd H1 s1.heap.objs.size (.lst xs),I1.laid (t':=s1.toks) (λb u e=>aO _ e) (aQ _) ?_,rfl,q _ hf⟩;exact⟨z,us,0,r,bB _ rfl⟩
end
meta abbrev Sp:=List V->Hp->VK->XK->Prop
meta abbrev PV:=List Env->Hp->aA->XK->af->aA->Prop
structure Env0 (P:aj)(w:ah)(K:au)(mg:Str->bd)(base:aq)(A:az)(outer:List Env)(s:aA)(H:Hp):Prop where
 frames:A.frames=some outer
 mod:Mod K mg base
 bs:∀b o,base.get? b=some o->s.heap.get? b=some o/\H b=none
 bsz:base.objs.size<=s.heap.objs.size
 rF:s.heap.FunFrames base outer
 frf:∀b∈frs outer,H b=none
 hok:um P w H s.heap
 bare:AllBare s.gens
abbrev CE (outer:List Env)(P:aj)(w:ah)(H:Hp)(s:aA)(Q:VK)(u:af)(s':aA):Prop:=
 ∃v H',s'.os=s.os/\AllBare s'.gens/\Un (frs outer) [] H H' s.heap s'.heap/\um P w H' s'.heap/\RelV v u/\Q v H'
abbrev CR (CX:PV)(outer:List Env)(P:aj)(w:ah)(H:Hp)(s:aA)(Q:VK)(E:XK)(r:Result)(s':aA):Prop:=
 match r with
 | .ok (.ret u)=>CE outer P w H s Q u s'
 | .ok _=>False
 | .error e=>CX outer H s E e s'
structure FnOk (P:aj)(w:ah)(K:au)(mg:Str->bd)(base:aq)(CX:PV)(k:Nat)(f:ak)(fd:FuncData)(ps:ar)(sp:Sp):Prop where
 len:∀vs H Q E,sp vs H Q E->vs.length=ps.length
 run:∀(A:az) (outer:List Env) (s:aA) (H:Hp) (args:Args) (us:ba) (vs:List V) (Q:VK) (E:XK),Room k A->Env0 P w K mg base A outer s H->BindsTo s fd args (ps.zip us)->Vals vs us->sp vs H Q E ->
  codeAny (model P w) A (.call (.ref f) args) (CR CX outer P w H s Q E) s
section
variable {X:Cx}{pins:bv}{σ:St}{H:Hp}{s s':aA}
def Inv.Yl(I:Inv X pins σ H s):Env0 X.prog X.w X.K X.mg X.base X.A X.stack s H:=
 ⟨I.ok.frames,I.ok.mod,I.bs,bJ I.ok.bsz I.sz,I.stack,I.xT,I.hok,I.bare⟩
def Inv.after{Q:VK}(I:Inv X pins σ H s)(h:CE X.stack X.prog X.w H s Q u s'):EP X pins σ Q u s':=by
 obtain⟨v,H',os,bare,un,hok,r,q⟩:=h;obtain⟨hh,g,d,t,os'⟩:=s';obtain rfl:os'=s.os:=os;exact⟨v,H',I.call (h':=hh) (g':=g) (d':=d) (t':=t) (ch:=[]) un hok bare (λb z=>absurd z (by simp)),r,q⟩
end
abbrev Qh (sp:Sp)(dvs:List V)(E:XK)(t:TA):TE:=λσ H Q=>t σ H λvs H1=>sp (vs++dvs) H1 Q E
abbrev Binds (K:au)(fd:FuncData)(ps:ar)(ds:ba):Prop:=
 ∀(s:aA) (us:ba),K.In s.heap->(us++ds).length=ps.length->BindsTo s fd ⟨us,[]⟩ (ps.zip (us++ds))
def Binds.all{K:au}{ps:ar}(h:∀us:ba,us.length=ps.length->bindArgs fd ⟨us,[]⟩=pure (ps.zip us)):Binds K fd ps []:=λs us _ hl=>by
 rw[bU]at hl ⊢;exact .of_eq (h us hl)
abbrev Passes (CX:PV)(X:Cx)(E:XK):Prop:=∀(pins:bv) (σ:St) (H:Hp) (s:aA) (e:af) (s':aA),Inv X pins σ H s->CX X.stack H s E e s'->X.xe e s'
section
variable {X:Cx}{CX:PV}{k:Nat}{f C:ak}{fd:FuncData}{ps:ar}{sp:Sp}{dvs:List V}{ds:ba}{E:XK}{x:Str}{p pos:Pos}{e:aC}{es:List aC}{t:TA}
def Xy{H:Hp}{Q:VK}(F:FnOk X.prog X.w X.K X.mg X.base CX k f fd ps sp)(hr:Room k X.A)(hb:Binds X.K fd ps ds)(hd:Vals dvs ds)(hx:Passes CX X E)
  (I:Inv X pins σ H s) (r:Vals vs us) (h:sp (vs++dvs) H Q E):wpAny (model X.prog X.w) X.A (call (.ref f) us) (EP X pins σ Q) X.xe s:=by
 have r2:Vals (vs++dvs) (us++ds):=r.append hd;have hl:(us++ds).length=ps.length:=by rw[<- r2.length];exact F.len _ _ _ _ h
 refine jk (iR (F.run X.A X.stack s H ⟨us,[]⟩ (us++ds) (vs++dvs) Q E hr I.Yl (hb s us I.zp hl) r2 h) λr s' hq=>?_)
 cases r with
 | error e=>exact hx pins σ H s e s' I hq
 | ok fl=>
  cases fl with
  | ret u=>exact I.after hq
  | next=>exact False.elim hq
  | brk=>exact False.elim hq
  | cont=>exact False.elim hq
def II(F:FnOk X.prog X.w X.K X.mg X.base CX k f fd ps sp)(hr:Room k X.A)(hg:Gl X x)(hm:X.mg x=some (.ref f))(hk:PySem.W.keepIn X.K (.ref f)=true)(hb:Binds X.K fd ps ds)(hd:Vals dvs ds)(hx:Passes CX X E)
  (ha:PA X (e::es) t) (hdb:(x == ("__debug__" : Str))=false:=by decide) (he:starEach (e::es) X.env=(false,eval e X.env)::starEach es X.env:=by rfl) (hpl:(backTo pos (starEach es X.env)).any (·.1)=false:=by rfl) :
  PE X (.Call (.Name x p) (e::es) [] pos) (Qh sp dvs E t):=by
 kt_k;refine gM (u_ I hg hm ?_ hdb);refine PySem.W.callWith_K (h₀:=X.base) I.ok.mod.kin hk (mL (ha pos pins s σ H _ I h) λus s1 ⟨vs,H1,I1,r,q⟩=>⟨I1.zp,?_⟩) he hpl;exact Xy F hr hb hd hx I1 r q
structure Mk (K:au)(C f:ak):Prop where
 makes:PySem.W.makesIn K C=true
 init:PySem.W.findIn K (.ref C) "__init__" = some (some (.ref f))
 fn:PySem.W.isFn K (.ref f)=true
 kp:PySem.W.keepIn K (.ref C)=true
end
section
variable {fd:FuncData}{ps ks:ar}
structure KBinds (K:au)(fd:FuncData)(ps ks:ar)(g:ba->ba->ba)(gV:List V->List V->List V):Prop where
 to:∀(s:aA) (us ws:ba),K.In s.heap->(g us ws).length=ps.length->BindsTo s fd ⟨us,ks.zip ws⟩ (ps.zip (g us ws))
 rel:∀{vs:List V} {us:ba} {zs:List V} {ws:ba},Vals vs us->Vals zs ws->Vals (gV vs zs) (g us ws)
end
structure FnScope (N P:ar)(sc:Scope):Prop where
 kind:sc.kind=.function
 co:sc.isCoroutine=false
 gen:sc.isGenerator=false
 nd:N.Nodup
 pre:N.take P.length=P
 par:∀x∈P,sc.names.lookup x=some .local\/sc.names.lookup x=some .cell
 nofree:∀y∈sc.names,y.2≠.free
theorem Bh{kindOf:Str->Option NameKind}{x:Str}:∀{binds:List (Str×af)}{m:Str->bd},(∀v,(x,v)∉binds)->bindL kindOf binds m x=m x
 | [],_,_=>rfl
 | (n,v)::r,m,h=>by
  unfold bindL;rw[Bh λw hw=>h w (aN _ hw)];split
  ·have:x≠n:=by rintro rfl;exact h v aM
   simp[this]
  ·rfl
theorem AB{kindOf:Str->Option NameKind}{x:Str}:∀{binds:List (Str×af)}{m:Str->bd},(∀v,(x,v)∉binds)->bindC kindOf binds m x=m x
 | [],_,_=>rfl
 | (n,v)::r,m,h=>by
  unfold bindC;rw[AB λw hw=>h w (aN _ hw)];split
  ·rfl
  ·have:x≠n:=by rintro rfl;exact h v aM
   simp[this]
theorem A3{kindOf:Str->Option NameKind}{x:Str}{v:af}:∀{P:ar}{vs:ba}{i:Nat}{m:Str->bd},P.Nodup->P[i]?=some x->vs[i]?=some v->kindOf x=some .local ->
  bindL kindOf (P.zip vs) m x=some v
 | [],_,_,_,_,h,_,_=>by simp at h
 | _::_,[],_,_,_,_,h,_=>by simp at h
 | p::P,w::vs,0,m,nd,h1,h2,hk=>by
  simp at h1 h2;subst h1;subst h2;show bindL kindOf ((p,w)::P.zip vs) m p=_;unfold bindL;rw[Bh λv hv=>(cM.mp nd).1 (iN hv).1,aK hk];simp
 | p::P,w::vs,i+1,m,nd,h1,h2,hk=>by
  skip
  unfold bindL;exact A3 (i:=i) (cM.mp nd).2 (by simpa using h1) (by simpa using h2) hk
theorem An{kindOf:Str->Option NameKind}{x:Str}{v:af}:∀{P:ar}{vs:ba}{i:Nat}{m:Str->bd},P.Nodup->P[i]?=some x->vs[i]?=some v->kindOf x≠some .local ->
  bindC kindOf (P.zip vs) m x=some v
 | [],_,_,_,_,h,_,_=>by simp at h
 | _::_,[],_,_,_,_,h,_=>by simp at h
 | p::P,w::vs,0,m,nd,h1,h2,hk=>by
  simp at h1 h2;subst h1;subst h2;show bindC kindOf ((p,w)::P.zip vs) m p=_;unfold bindC;rw[AB λv hv=>(cM.mp nd).1 (iN hv).1,aI hk];simp
 | p::P,w::vs,i+1,m,nd,h1,h2,hk=>by
  skip
  unfold bindC;exact An (i:=i) (cM.mp nd).2 (by simpa using h1) (by simpa using h2) hk
abbrev start (N:ar)(vs:List V):St:=vs.map some++List.replicate (N.length-vs.length) none
abbrev vh (CX:PV)(P:aj)(w:ah)(K:au)(mg:Str->bd)(base:aq)(N:ar)(qual:Str)(scope:Scope)(f:ak)(cd:af)(A:az)(outer:List Env)(s:aA)(H:Hp)(E:XK):Cx where
 prog:=P
 w:=w
 K:=K
 mg:=mg
 base:=base
 A:=A.deeper (envOfC qual scope s.heap.objs.size f cd)
 N:=N
 s₀:=s
 H₀:=H
 env:=envOfC qual scope s.heap.objs.size f cd
 outer:=outer
 stack:=envOfC qual scope s.heap.objs.size f cd::outer
 ex:=[]
 calm:=true
 fn:=λ_=>true
 pn:=[]
 xe:=λe s'=>wpAny (model P w) (A.deeper (envOfC qual scope s.heap.objs.size f cd)) (leaving (envOfC qual scope s.heap.objs.size f cd) e) (λ_ s''=>CX outer H s E e s'') (λe' s''=>CX outer H s E e' s'') s'
def EE{sc:Scope}{n:Nat}{x:Str}(h:sc.names.lookup x=some .cell):∃c,(cellsFrom n sc.names []).lookup x=some c:=by
 have q:=gU sc.names n [] (.inl h);exact fj.mp q
def AN{CX:PV}{P:aj}{w:ah}{K:au}{mg:Str->bd}{base:aq}{N ps:ar}{scope:Scope}{f:ak}{A:az}{outer:List Env}{s:aA}{H:Hp}{E:XK}{vs:List V}
  (S:FnScope N ps scope) (hd:A.handled=none) (e0:Env0 P w K mg base A outer s H) (hl:vs.length=ps.length) (r:Vals vs us)
  (x:InCallC s s.heap.objs.size (bindL (envOfC qual scope s.heap.objs.size f cd).kindOf (ps.zip us) λ_=>none) (cellsFrom (s.heap.objs.size+1) scope.names []) (bindC (envOfC qual scope s.heap.objs.size f cd).kindOf (ps.zip us) λ_=>none) s1) :
  Inv (vh CX P w K mg base N qual scope f cd A outer s H E) [] (start N vs) H s1:=by
 have hpl:ps.length<=N.length:=by have:=dz List.length S.pre;rw[bM]at this;lia
 obtain⟨h1,tk,rfl,hk⟩:=x.done;have noA:∀b:ak,b∉(vh CX P w K mg base N qual scope f cd A outer s H E).ex:=λb z=>absurd (show b∈([]:bb)from z) (by simp);refine⟨⟨e0.mod,S.kind,rfl,rfl,aQ _,λy z c h1 h2=>?_,λy hy=>?_,λy c _ h=>?_,λ_=>hd,Around.frames_deeper e0.frames,.inr ⟨rfl,rfl⟩,λb z=>absurd z (noA b),e0.bs,e0.bsz,λb _ _=>noA b,λb z=>absurd z (noA b),e0.rF,e0.frf⟩,
  rfl,e0.bare,Un.kept hk,⟨_,x.toInCall.ns,λi y v h1 h2 h3=>?_⟩,λy c h=>⟨_,x.cell y c h⟩,e0.hok.fresh (aQ _),λy c h=>?_,λp hp=>absurd (show p∈([]:bv)from hp) (by simp),e0.hok.kept hk,?_⟩
 ·exact name_of_addr x.apart (d_ h1) (d_ h2)
 ·have hy:scope.names.lookup y=some .cell\/scope.names.lookup y=some .free:=hy
  rcases hy with hy|hy
  ·exact EE hy
  ·exact absurd rfl (S.nofree _ (d_ hy))
 ·exact jj (x.above y c (d_ h))
 ·have hi:i<vs.length:=by
   unfold start at h2;by_cases hi:i<vs.length
   ·exact hi
   ·rw[f_ (by simpa using hi)]at h2;rw[gR]at h2;split at h2<;>cases h2
  have ha:vs[i]?=some v:=by
   unfold start at h2;rw[bH (by simpa using hi),aS]at h2
   cases e:vs[i]? with
   | none=>rw[e]at h2;cases h2
   | some a=>rw[e]at h2;cases h2;rfl
  obtain⟨u,hu,rv⟩:=r.get ha;have hp:ps[i]?=some y:=by
   rw[<- S.pre,fm ()];exact h1
  have ndP:ps.Nodup:=by rw[<- S.pre];exact S.nd.sublist (List.take_sublist _ _)
  refine⟨u,rv,?_⟩
  rcases S.par y (aZ hp)with k|k
  ·exact .inl ⟨k,A3 ndP hp hu k⟩
  ·obtain⟨c,e⟩:=EE (n:=s.heap.objs.size+1) k;refine .inr ⟨.inl k,c,e,?_⟩;have q:=x.cell y c e;rw[An ndP hp hu (by show scope.names.lookup y≠_;rw[k];decide)]at q;exact q
 ·exact e0.hok.fresh (jj (x.above y c (d_ h)))
 ·unfold start;show _=N.length;rw[aR,aH,List.length_replicate]
  lia
def UM{CX:PV}{P:aj}{w:ah}{K:au}{mg:Str->bd}{base:aq}{k:Nat}{f:ak}{kV pm ct:af}
  {osl:Array (bd)} {N ps:ar} {sp:Sp} (lk:K.lookup f=some ⟨oc,od,.func (PySem.W.fnOf name qual params body scope dV kV doc pm an cdv ct),osl⟩) (hcd:PySem.W.codeIn K cdv qual=true) (S:FnScope N ps scope)
  (len:∀vs H Q E,sp vs H Q E->vs.length=ps.length)
  (hbody:∀(A:az) (outer:List Env) (s:aA) (H:Hp) (vs:List V) (Q:VK) (E:XK),Room k (A.deeper (envOfC qual scope s.heap.objs.size f cdv))->sp vs H Q E ->
   ∃t,Ah (vh CX P w K mg base N qual scope f cdv A outer s H E) body t/\t { nx:=λ_ H'=>Q .non H',rt:=Q } (start N vs) H) :
  FnOk P w K mg base CX (k+1) f (PySem.W.fnOf name qual params body scope dV kV doc pm an cdv ct) ps sp:=by
 refine⟨len,λA outer s H args us vs Q E hr e0 hb r hsp=>?_⟩;have hl:=len _ _ _ _ hsp;have KX:K.In s.heap:=e0.mod.kin.keeps λb o e=>(e0.bs b o e).1;have lim:s.heap.NoLimit:=e0.mod.nolimit.keeps λb o e=>(e0.bs b o e).1;have hkind:∀y∈ps.zip us,scope.names.lookup y.1=some .local\/(scope.names.lookup y.1=some .cell/\((cellsFrom (s.heap.objs.size+1) scope.names []).lookup y.1).isSome=true):=λ⟨n,v⟩ hy=>by
  rcases S.par n (iN hy).1 with q|q
  ·exact .inl q
  ·exact .inr ⟨q,gU _ _ _ (.inl q)⟩
 refine codeAny_call_function hr.depth (KX _ _ lk) rfl S.co S.gen rfl (PySem.W.codeRec_of KX hcd) (hb _ _ _ _ ?_);refine wpAny_newFunctionEnv_cells S.kind hkind λenv he s1 x=>?_;subst he;refine⟨lim.keeps x.toInCall.keep,codeAny_func ?_⟩;obtain⟨t,ht,hq⟩:=hbody A outer s H vs Q E (hr.deeper _) hsp;have I:Inv (vh CX P w K mg base N qual scope f cdv A outer s H E) [] (start N vs) H s1:=AN S hr.hd e0 hl r x;refine dh (ht [] s1 (start N vs) H _ I hq) (λfl s' hs=>?_) λe s' hs=>hs;have fin:∀{σ':St} {H':Hp} {v:V} {u:af},Inv (vh CX P w K mg base N qual scope f cdv A outer s H E) [] σ' H' s'->RelV v u->Q v H'->CE outer P w H s Q u s':=
  λ{σ' H' v u} J rv q=>⟨v,H',J.os,J.bare,J.base,J.hok,rv,q⟩
 cases fl with
 | ret u=>
  obtain⟨v,σ',H',J,rv,q⟩:=hs;exact fin J rv q
 | next=>
  obtain⟨σ',H',J,q⟩:=hs;exact fin (v:=V.non) (u:=Value.none) J rfl q
 | brk=>
  obtain⟨_,_,_,q⟩:=hs;exact False.elim q
 | cont=>
  obtain⟨_,_,_,q⟩:=hs;exact False.elim q
section
variable {X:Cx}{x:Str}{p pos:Pos}{e:aC}{es:List aC}{t:TA}{id T:String}{r:List V->Hp->VK->Prop}
abbrev tCB (r:List V->Hp->VK->Prop)(t:TA):TE:=λσ H Q=>t σ H λvs H1=>r vs H1 Q
def ER(hc:kg X (.builtin id) r)(hg:Gl X x)(hm:X.mg x=none)(hv:bootBuiltins x=some (.builtin id))(ha:PA X (e::es) t)(hn:x ≠ "__name__" := by decide)(hdb:(x == ("__debug__" : Str))=false:=by decide)
  (he:starEach (e::es) X.env=(false,eval e X.env)::starEach es X.env:=by rfl) (hpl:(backTo pos (starEach es X.env)).any (·.1)=false:=by rfl):PE X (.Call (.Name x p) (e::es) [] pos) (tCB r t):=by
 kt_k;refine gM (wc I hg hm hv ?_ hn hdb);exact PyProof.Rows.callWith_builtin1 (mL (ha pos pins s σ H _ I h) λus s1 ⟨vs,H1,I1,r1,q1⟩=>hc pins s1 σ H1 vs us Q I1 r1 q1) he hpl
def Kr(hc:kg X (.type T) r)(hg:Gl X x)(hm:X.mg x=none)(hv:bootBuiltins x=some (.type T))(ha:PA X (e::es) t)(hn:x ≠ "__name__" := by decide)(hdb:(x == ("__debug__" : Str))=false:=by decide)
  (he:starEach (e::es) X.env=(false,eval e X.env)::starEach es X.env:=by rfl) (hpl:(backTo pos (starEach es X.env)).any (·.1)=false:=by rfl):PE X (.Call (.Name x p) (e::es) [] pos) (tCB r t):=by
 kt_k;refine gM (wc I hg hm hv ?_ hn hdb);exact er (mL (ha pos pins s σ H _ I h) λus s1 ⟨vs,H1,I1,r1,q1⟩=>hc pins s1 σ H1 vs us Q I1 r1 q1) he hpl
end
end L2
namespace HT
open PySem PyProof.Rows
abbrev lexLt:ag->ag->Bool
 | [],[]=>false
 | [],_::_=>true
 | _::_,[]=>false
 | x::xs,y::ys=>if x=y then lexLt xs ys else decide (x<y)
def pS(x y:Int)(xs ys:ag):lexLt (x::xs) (y::ys)=if x=y then lexLt xs ys else decide (x<y):=rfl
def om:lexLt [] []=false:=rfl
def mF(y:Int)(ys:ag):lexLt [] (y::ys)=true:=rfl
def nQ(x:Int)(xs:ag):lexLt (x::xs) []=false:=rfl
def MZ(A:az)(s:aA)(a:Int)(t:Tok)(c:Int)(u:Tok):∃e,SeqAt.EqAt A s (.int a t) (.int c u) e/\(e=true ↔ a=c):=
 ⟨(a == c),SeqAt.EqAt.int_int a t c u,by simp⟩
def Ow(A:az)(s:aA)(a:Int)(t:Tok)(c:Int)(u:Tok)(prog:aj)(w:ah)(E:af->aA->Prop)(Q:af->aA->Prop)(h:Q (.bool (decide (a<c))) s) :
  wpAny (model prog w) A (richCompare .Lt (.int a t) (.int c u)) Q E s:=
 (PyProof.Rows.lt_int h:wpAny (model prog w) A (compareOp .Lt (.int a t) (.int c u)) Q E s)
section
open PySem.SeqAt
open PySem.AutoSeq1 (wpAny_loadPart')
open PySem.MeetsSeq PySem.MeetsSeq2 PySem.MeetsSeq3
def Aa(l b:ak)(items items2:Array af)(n n2:Nat)(dd dd2:Option ak)(sl sl2:Array (bd))(ns ms:ag)(hi:IntsAre items.toList ns)(hj:IntsAre items2.toList ms) :
  Meets (Builtin.«tuple.__lt__» ⟨[.ref l,.ref b],[]⟩)
   (λ_ R s=>s.heap.get? l=some { cls:=.type "tuple",dict:=dd,data:=.seq items n,slots:=sl }/\s.heap.get? b=some { cls:=.type "tuple",dict:=dd2,data:=.seq items2 n2,slots:=sl2 } /\
    R (.ok (.ret (.bool (lexLt ns ms)))) s):=
 .of_wp λprog w A R s h=>by
  obtain⟨hp,g,d,tk,os⟩:=s;obtain⟨hl,hb,h⟩:=h;have f2:=AutoSeq1.sub_tuple_tuple;have z1:items.size=ns.length:=by rw[<- hi.length];simp
  have z2:items2.size=ms.length:=by rw[<- hj.length];simp
  wp_walk using wpAny_loadPart' hl,wpAny_loadPart' hb,wpAny_forIn_list _ (λrest b s'=>b.1=none/\s'=⟨hp,g,d,tk,os⟩/\∃(vs ws:ba) (ns' ms':ag),rest=vs.zip ws /\
   IntsAre vs ns'/\IntsAre ws ms'/\ns'.length+items2.size=ms'.length+items.size/\R (.ok (.ret (.bool (lexLt ns' ms')))) ⟨hp,g,d,tk,os⟩) _
  case turn=>
   rintro⟨y,x⟩ rest b s' ⟨hb',rfl,vs,ws,ns',ms',hz,hvi,hwi,hlen,hR⟩
   cases hvi with
   | nil=>rw[List.zip_nil_left]at hz;cases hz
   | cons a t hvi'=>
    cases hwi with
    | nil=>rw[List.zip_nil_right]at hz;cases hz
    | cons c u hwi'=>
     rw[iT]at hz
     injection hz with hyx hrest
     injection hyx with hy hx
     subst hy hx;rw[pS]at hR;dsimp[bC]at hlen;obtain⟨e,he,hiff⟩:=MZ A.in1 ⟨hp,g,d,tk,os⟩ a t c u;refine aF (he prog w _ _ ?_)
     cases e with
     | true=>
      rw[aK (hiff.mp rfl)]at hR
      wp_walk
      exact⟨rfl,rfl,_,_,_,_,hrest,hvi',hwi',(),hR⟩
     | false=>
      rw[aI (λq=>absurd (hiff.mpr q) bG)]at hR;have hri:=Ow A.in1 ⟨hp,g,d,tk,os⟩ a t c u prog w
      wp_walk using hri
      exact⟨_,rfl,by simpa using hR⟩
  case fin=>
   rintro⟨b1,b2⟩ s' ⟨hb',rfl,vs,ws,ns',ms',hz,hvi,hwi,hlen,hR⟩;simp only at hb';subst hb';have hv:lexLt ns' ms'=decide (items.size<items2.size):=by
    cases hvi with
    | nil=>
     cases hwi with
     | nil=>
      dsimp[cC]at hlen;rw[om];exact(bh ()).symm
     | cons c u hw=>
      dsimp[cC,bC]at hlen;rw[mF];exact(bg ()).symm
    | cons a t hv=>
     cases hwi with
     | nil=>
      dsimp[cC,bC]at hlen;rw[nQ];exact(bh ()).symm
     | cons c u hw=>
      rw[iT]at hz
      cases hz
   rw[hv]at hR
   wp_walk
   exact⟨_,rfl,by simpa[Builtin.Tuple.tupleCompareSizes]using hR⟩
  case h=>
   exact⟨rfl,rfl,items.toList,items2.toList,ns,ms,rfl,hi,hj,(),h⟩
end
section
variable {prog:aj}{w:ah}{A:az}{E:af->aA->Prop}{s:aA}
def GG{l:ak}{items items2:Array af}{ns:ag}{Q:af->aA->Prop}(hl:IsTup s.heap l items)(hb:IsTup s.heap b items2)(hi:IntsAre items.toList ns)(hj:IntsAre items2.toList ms)
  (hu:A.units<cLine) (h:Q (.bool (lexLt ns ms)) s):wpAny (model prog w) A (compareOp .Lt (.ref l) (.ref b)) Q E s:=by
 obtain⟨⟨cls,dd,data,sl⟩,ho,hc,n,hd⟩:=id hl;obtain⟨⟨cls2,dd2,data2,sl2⟩,ho2,hc2,n2,hd2⟩:=id hb;simp only at hc hd hc2 hd2;subst hc hd hc2 hd2;exact richCompare_meets_room (op:=.Lt) ⟨_,ho,rfl⟩ ⟨_,ho2,rfl⟩ PySem.F.slot_tuple_lt PySem.F.entry_tuple_lt (PySem.F.args_tuple_lt_2 _ _) (Aa l b items items2 n n2 dd dd2 sl sl2 ns ms hi hj)
  ⟨ho,ho2,show Value.bool (lexLt ns ms)≠Value.notImplemented/\Q (.bool (lexLt ns ms)) s from⟨(λx=>nomatch x),h⟩⟩ hu
def Rp{t:ak}{vs ws:ba}{Q:af->aA->Prop}(ht:IsTup s.heap t vs.toArray)(hb:IsTup s.heap b ws.toArray)(hv:vs≠[])
  (h1:ws=[]->Q (.ref t) s) (h2:ws≠[]->Q (.ref s.heap.objs.size) { s with heap:=s.heap.push { cls:=.type "tuple",data:=.seq (vs++ws).toArray }})
  (hsz:vs.length+ws.length<=sizeLine):wpAny (model prog w) A (binaryOp .Add (.ref t) (.ref b)) Q E s:=by
 obtain⟨⟨cls,dd,data,sl⟩,ho,hc,n,hd⟩:=id ht;obtain⟨⟨cls2,dd2,data2,sl2⟩,ho2,hc2,n2,hd2⟩:=id hb;simp only at hc hd hc2 hd2;subst hc hd hc2 hd2;have e:vs.toArray++ws.toArray=(vs++ws).toArray:=by simp
 by_cases hw:ws=[]
 ·exact concat_meets ⟨_,ho,rfl⟩ ⟨_,ho2,rfl⟩ noFill_tuple_add seq_tuple_add gW gS (gA _ _)
   (tuple_addW1 t b vs.toArray ws.toArray n n2 dd dd2 sl sl2 (by simpa using hv) (by simp[hw])) ⟨ho,ho2,h1 hw⟩
 ·refine concat_meets ⟨_,ho,rfl⟩ ⟨_,ho2,rfl⟩ noFill_tuple_add seq_tuple_add gW gS (gA _ _)
   (tuple_addW2 t b vs.toArray ws.toArray n n2 dd dd2 sl sl2 (by simpa using hv) (by simpa using hw) (by rw[aY,aY];exact hsz)) ⟨ho,ho2,?_⟩
  rw[e];exact h2 hw
abbrev nS (n d:Nat):bi->Nat
 | none=>d
 | some v=>if v<0 then(v+(n:Int)).toNat else min v.toNat n
def Dp(n d:Nat):nS n d none=d:=rfl
def Hw(n d k:Nat):nS n d (some (k:Int))=min k n:=by
 show(if (k:Int)<0 then((k:Int)+(n:Int)).toNat else min (k:Int).toNat n)=min k n;rw[aI (),c_]
def WI(n d:Nat)(hd:d<=n)(o:bi):nS n d o<=n:=by
 cases o with
 | none=>exact hd
 | some v=>
  show(if v<0 then(v+(n:Int)).toNat else min v.toNat n)<=n;by_cases hv:v<0
  ·rw[aK hv];lia
  ·rw[aI hv];exact Nat.min_le_right _ _
def IX(v:Int)(n d:Nat):(if v<0 then max (v+(n:Int)) 0 else min v (n:Int))=((nS n d (some v):Nat):Int):=by
 show(if v<0 then max (v+(n:Int)) 0 else min v (n:Int))=(((if v<0 then(v+(n:Int)).toNat else min v.toNat n):Nat):Int);by_cases hv:v<0
 ·dsimp[aK hv];lia
 ·dsimp[aI hv];lia
def EU(lo hi:bi)(n:Nat):Builtin.Slice.sliceAdjust lo hi 1 (n:Int)=(((nS n 0 lo:Nat):Int),((nS n n hi:Nat):Int)):=by
 have h1:¬((1:Int)<0):=()
 unfold Builtin.Slice.sliceAdjust;dsimp[h1,bY];refine Prod.ext ?_ ?_
 ·cases lo with
  | none=>rfl
  | some v=>exact IX v n 0
 ·cases hi with
  | none=>rfl
  | some v=>exact IX v n n
def F9(i j:Nat):Builtin.Slice.slicePlaces (i:Int) (j:Int) 1=j-i:=by
 unfold Builtin.Slice.slicePlaces;have h1:(1:Int)>0:=()
 dsimp[h1,cI,Int.ediv_one];split<;>lia
def zc{v:af}{Q:bi->aA->Prop}(p:IsPart v o)(h:Q o s):wpAny (model prog w) A (Builtin.Slice.slicePartIndex v) Q E s:=by
 cases p with
 | none=>exact slicePart_none h
 | int i t=>exact slicePart_int h
def wm{lo:bi}{n:Nat}{Q:Int×Int×Nat->aA->Prop}(hs:s.heap.IsSliceOf sl vl vu .none)(pl:IsPart vl lo)(pu:IsPart vu hi)
  (h:Q (((nS n 0 lo:Nat):Int),1,nS n n hi-nS n 0 lo) s):wpAny (model prog w) A (Builtin.Slice.sliceApplied (.ref sl) (pure (n:Int))) Q E s:=by
 obtain⟨os,hos,hcs,hds⟩:=id hs;unfold Builtin.Slice.sliceApplied Builtin.Slice.sliceFields;refine aF (aF (eG hos hds (x:=vl) rfl (aF (eG hos hds (x:=vu) rfl (aF (eG hos hds (x:=.none) rfl (aP ?_)))))));refine aF (slicePart_none ?_)
 skip
 rw[aI ⋯];refine aF (zc pl (aF (zc pu (aF (aP ?_)))));show wpAny _ _ (match Builtin.Slice.sliceAdjust lo hi 1 (n:Int)with|(lo,hi)=>pure (lo,(1:Int),Builtin.Slice.slicePlaces lo hi 1)) _ _ s;rw[EU lo hi n];show wpAny _ _ (pure (((nS n 0 lo:Nat):Int),(1:Int),Builtin.Slice.slicePlaces ((nS n 0 lo:Nat):Int) ((nS n n hi:Nat):Int) 1)) _ _ s;rw[F9];exact aP h
def P0(xs:Array af)(i k:Nat):((List.range k).filterMap λ(m:Nat)=>xs[((i:Int)+(m:Int) * 1).toNat]?).toArray=((xs.toList.drop i).take k).toArray:=by
 have e:(λ(m:Nat)=>xs[((i:Int)+(m:Int) * 1).toNat]?)=λm=>xs[i+m]?:=by
  funext m
  have:((i:Int)+(m:Int) * 1).toNat=i+m:=()
  rw[this]
 rw[e];have:=pick_run xs i k;rw[iU]at this;have e2:((λx=>xs[x]?) ∘ λx=>i+x)=λm=>xs[i+m]?:=rfl;rw[e2]at this;rw[this]
def uV{t:ak}{items:Array af}{lo:bi}{Q:af->aA->Prop}(ht:IsTup s.heap t items)(hs:s.heap.IsSliceOf sl vl vu .none)(pl:IsPart vl lo)(pu:IsPart vu hi)
  (hw:¬(nS items.size 0 lo=0/\nS items.size items.size hi=items.size))
  (h:Q (.ref s.heap.objs.size) { s with heap:=s.heap.push { cls:=.type "tuple",data:=.seq ((items.toList.drop (nS items.size 0 lo)).take (nS items.size items.size hi-nS items.size 0 lo)).toArray }})
  (hsz:items.size<=sizeLine):wpAny (model prog w) A (getItem (.ref t) (.ref sl)) Q E s:=by
 have htake:sizeOk (.seq ((items.toList.drop (nS items.size 0 lo)).take (nS items.size items.size hi-nS items.size 0 lo)).toArray):=by
  show((items.toList.drop (nS items.size 0 lo)).take (nS items.size items.size hi-nS items.size 0 lo)).toArray.size<=sizeLine;rw[aY,bM,dm,dF];omega
 have hj:nS items.size items.size hi<=items.size:=WI _ _ (aQ _) hi;obtain⟨os,hos,hcs,hds⟩:=id hs;have hTs:s.TypeIs (.ref sl) "slice" := ⟨os,hos,hcs⟩;unfold getItem
 try with_reducible refine cT ?_
 first|refine aF (aP ?_)|skip
 refine aF (wpAny_sequenceKey ht.typeIs ⋯ ?_);refine aF (dw (name:=Str.ofString "__getitem__") ht.typeIs fD
  (cY fD ht.typeIs entry_tuple_getitem ?_ (args_tuple_getitem _ _)))
 show wpAny _ _ (Builtin.Tuple.tupleItemsOf (.ref t) >>= _) _ _ s;refine aF (tupleItemsOf_ ht ?_);refine aF (gp hTs ?_);rw[aK ⋯];refine aF (wm hs pl pu ?_);have hno:¬((((nS items.size 0 lo:Nat):Int) == 0 && (1:Int) == 1 && (nS items.size items.size hi-nS items.size 0 lo) == items.size)=true):=by
  intro q;rw[bZ,bZ]at q;have q1:((nS items.size 0 lo:Nat):Int)=0:=eq_of_beq q.1.1;have q2:nS items.size items.size hi-nS items.size 0 lo=items.size:=eq_of_beq q.2;exact hw ⟨by omega,by omega⟩
 show wpAny _ _ (if (((nS items.size 0 lo:Nat):Int) == 0 && (1:Int) == 1 && (nS items.size items.size hi-nS items.size 0 lo) == items.size)=true then _ else _) _ _ s;rw[aI hno,P0]
 first
  | exact aF (m:=Builtin.Tuple.tupleExact _) (cg (aP ⟨_,rfl,aP h⟩) htake)
  | exact aF (m:=Builtin.Tuple.tupleExact _) (cg (aF (aP (aP ⟨_,rfl,aP h⟩))) htake)
  | exact aF (aF (m:=Builtin.Tuple.tupleExact _) (cg (aP (aP ⟨_,rfl,aP h⟩)) htake))
  | exact aF (aF (m:=Builtin.Tuple.tupleExact _) (cg (aP ⟨_,rfl,aP h⟩) htake))
end
end HT
namespace L2
open PySem PySem.Spec PyProof.Rows
meta abbrev TO:=St->Hp->(bi->Hp->Prop)->Prop
abbrev PO (X:Cx)(e:Option aC)(t:TO):Prop:=
 ∀(pins:bv) (s:aA) (σ:St) (H:Hp) (Q:bi->Hp->Prop),Inv X pins σ H s->t σ H Q ->
  wpAny (model X.prog X.w) X.A (evalPart e X.env) (λu s'=>∃o H',Inv X pins σ H' s'/\IsPart u o/\Q o H') X.xe s
abbrev RN:TO:=λ_ H Q=>Q none H
abbrev YL (t:TE):TO:=λσ H Q=>t σ H λx H1=>∃i,x=.int i/\Q (some i) H1
def intsAre_of{ns:ag}:∀{us:ba},Vals (ns.map V.int) us->IntsAre us ns:=by
 induction ns with
 | nil=>intro us r;rw[gY]at r;cases r;exact .nil
 | cons n ns ih=>
  intro us r;rw[bF]at r
  cases r with
  | cons r1 r2=>
   obtain⟨t,e⟩:=r1;subst e;exact .cons n t (ih r2)
section
variable {X:Cx}{e:aC}{te:TE}{lo hi:Option aC}{tl th:TO}{pos p2:Pos}
def QB:PO X none RN:=by
 kt_k;rw[evalPart_none];exact aP ⟨none,H,I,.none,h⟩
def RQ(h:PE X e te):PO X (some e) (YL te):=by
 intro pins s σ H Q I hw;rw[evalPart_some];refine mL (h pins s σ H _ I hw) λu s1 ⟨x,H1,I1,r1,q1⟩=>?_;obtain⟨i,rfl,q⟩:=q1;obtain⟨t,rfl⟩:=r1;exact⟨some i,H1,I1,.int i t,q⟩
abbrev ZS (X:Cx)(r:V->bi->bi->Hp->VK->Prop):Prop:=
 ∀(pins:bv) (s:aA) (σ:St) (H:Hp) (x:V) (v vl vu:af) (lo hi:bi) (sl:ak) (Q:VK),Inv X pins σ H s->RelV x v->s.heap.IsSliceOf sl vl vu .none->IsPart vl lo->IsPart vu hi->r x lo hi H Q ->
  ∃T id,typeLookup (.type T) "__getitem__" = pure (some (.builtin id))/\s.TypeIs v T/\wpAny (model X.prog X.w) X.A (getItem v (.ref sl)) (EP X pins σ Q) X.xe s
abbrev tSl (r:V->bi->bi->Hp->VK->Prop)(te:TE)(tl th:TO):TE:=λσ H Q=>te σ H λx H1=>tl σ H1 λl H2=>th σ H2 λu H3=>r x l u H3 Q
def P6{r:V->bi->bi->Hp->VK->Prop}(hr:ZS X r)(he:PE X e te)(hl:PO X lo tl)(hu:PO X hi th):PE X (.Subscript e (.Slice lo hi none p2) pos) (tSl r te tl th):=by
 kt_k;refine Subscript_ (mL (he pins s σ H _ I h) λv s1 ⟨x,H1,I1,r1,q1⟩=>?_);refine wpAny_Slice (mL (hl pins s1 σ H1 _ I1 q1) λvl s2 ⟨l,H2,I2,pl,q2⟩=>mL (hu pins s2 σ H2 _ I2 q2) λvu s3 ⟨u,H3,I3,pu,q3⟩=>?_);rw[evalPart_none];refine aP ?_;have I4:Inv X pins σ H3 { s3 with heap:=s3.heap.push { cls:=.type "slice",data:=.fields #[vl,vu,.none]}}:=I3.kept (t':=s3.toks) λb ob q=>aO _ q;obtain⟨T,id,hT,ht,hg⟩:=hr pins { s3 with heap:=s3.heap.push { cls:=.type "slice",data:=.fields #[vl,vu,.none]}} σ H3 x v vl vu l u s3.heap.objs.size Q I4 r1 (Heap.IsSliceOf.new ..) pl pu q3
 skip
 exact tail_any (ops:=[.ref s3.heap.objs.size,v]) ht hT hg (by with_unfolding_all rfl)
abbrev Ez (xs:List V)(lo hi:bi):List V:=(xs.drop (HT.nS xs.length 0 lo)).take (HT.nS xs.length xs.length hi-HT.nS xs.length 0 lo)
def xy(xs:List V)(lo hi:bi):(Ez xs lo hi).length<=xs.length:=by
 unfold Ez;rw[bM,dm]
 lia
abbrev Z1 (K:au):V->bi->bi->Hp->VK->Prop:=λx lo hi H Q=>∃a xs,x=.ref a/\mO K H a xs /\
 ¬(HT.nS xs.length 0 lo=0/\HT.nS xs.length xs.length hi=xs.length)/\∀p,H p=none->Q (.ref p) (upd H p (.tup (Ez xs lo hi)))
def VV:ZS X (Z1 X.K):=by
 intro pins s σ H x v vl vu lo hi sl Q I rx hs pl pu h;obtain⟨a,xs,rfl,hx,hw,q⟩:=h
 cases rx
 obtain⟨its,r,ht,hz⟩:=I.tuple hx;have hlen:its.toArray.size=xs.length:=by rw[aY];exact r.length.symm
 refine⟨"tuple",_,fD.lookup,ht.typeIs,?_⟩;refine HT.uV ht hs pl pu (by rw[hlen];exact hw) ?_ (by rw[hlen];exact hz);rw[hlen];refine⟨.ref s.heap.objs.size,_,I.laid (t':=s.toks) (o:=.tup (Ez xs lo hi)) (λb ob q=>aO _ q) (aQ _) ?_,rfl,q _ (I.hok.fresh (aQ _))⟩;exact⟨bJ (xy xs lo hi) hz,_,(r.drop (HT.nS xs.length 0 lo)).take (HT.nS xs.length xs.length hi-HT.nS xs.length 0 lo),oQ.new _ _⟩
abbrev Zw (K:au):R2:=λx y H Q=>∃a b xs ys,x=.ref a/\y=.ref b/\mO K H a xs/\mO K H b ys/\xs≠[]/\xs.length+ys.length<=sizeLine /\
 (ys=[]->Q (.ref a) H)/\(ys≠[]->∀p,H p=none->Q (.ref p) (upd H p (.tup (xs++ys))))
def Vals.Br(r:Vals xs us):us=[] ↔ xs=[]:=by
 cases r with
 | nil=>simp
 | cons _ _=>simp
def Q3:oE X (binaryOp .Add) (Zw X.K):=by
 gp_on;obtain⟨a,b,xs,ys,rfl,rfl,ha,hb,hx,hz,q1,q2⟩:=h
 cases rx
 cases ry
 obtain⟨its,r1,p1,_⟩:=I.tuple ha;obtain⟨its2,r2,p2,_⟩:=I.tuple hb;refine HT.Rp p1 p2 (λz=>hx (r1.Br.mp z)) (λz=>⟨.ref a,H,I,rfl,q1 (r2.Br.mp z)⟩) (λz=>?_) (by rw[<- r1.length,<- r2.length];exact hz);refine⟨.ref s.heap.objs.size,_,I.laid (t':=s.toks) (o:=.tup (xs++ys)) (λb ob q=>aO _ q) (aQ _) ?_,rfl,q2 (λw=>z (r2.Br.mpr w)) _ (I.hok.fresh (aQ _))⟩;exact⟨by rw[aR];exact hz,_,r1.append r2,oQ.new _ _⟩
end
abbrev Er (n:Nat)(i:Int):bp:=if 0<=i then(if i<n then some i.toNat else none)else if -(n:Int)<=i then some (i+n).toNat else none
abbrev rA {α:Type}(xs:List α)(i:Int):Option α:=(Er xs.length i).bind λj=>xs[j]?
def I_{n:Nat}{i:Int}(h:Er n i=some j):seqIndex? i n=some j/\j<n/\-(n:Int)<=i/\i<n:=by
 unfold Er at h;by_cases h0:0<=i
 ·rw[aK h0]at h;by_cases h1:i<n
  ·rw[aK h1]at h;have e:i.toNat=j:=aW h;exact⟨by rw[seqIndex_of h0 h1,e],(),(),h1⟩
  ·rw[aI h1]at h;cases h
 ·rw[aI h0]at h;by_cases h1:-(n:Int)<=i
  ·rw[aK h1]at h;have e:(i+n).toNat=j:=aW h;exact⟨by rw[seqIndex_neg () h1,e],(),h1,()⟩
  ·rw[aI h1]at h;cases h
def Ci{α:Type}{xs:List α}{i:Int}{v:α}(h:rA xs i=some v):∃j,seqIndex? i xs.length=some j/\xs[j]?=some v/\j<xs.length/\-(xs.length:Int)<=i/\i<xs.length:=by
 unfold rA at h
 cases e:Er xs.length i with
 | none=>rw[e]at h;cases h
 | some j=>
  rw[e]at h;obtain⟨h1,h2,h3,h4⟩:=I_ e;exact⟨j,h1,h,h2,h3,h4⟩
def SM{α:Type}{xs:List α}{j:Nat}{v:α}(h:xs[j]?=some v):rA xs (j:Int)=some v:=by
 have hj:j<xs.length:=(aL.mp h).1;have e:Er xs.length (j:Int)=some j:=by
  unfold Er;rw[aK (),aK ()];simp
 unfold rA;rw[e];exact h
abbrev xQ (b:aC):Prop:=∀o i,subscripted b false o i=operate [o,i] (getItem o i)
abbrev Tr (X:Cx)(r:R2):Prop:=
 ∀(value slice:aC) (pins:bv) (s:aA) (σ:St) (H:Hp) (x y:V) (v u:af) (Q:VK),Inv X pins σ H s->RelV x v->RelV y u->r x y H Q ->
  subscripted slice false v u=operate [v,u] (getItem v u)->wpAny (model X.prog X.w) X.A (subscriptTail value slice v u) (EP X pins σ Q) X.xe s
abbrev TQ (X:Cx)(id:String)(r:V->List V->Hp->VK->Prop):Prop:=
 ∀(pins:bv) (s:aA) (σ:St) (H:Hp) (x:V) (xs:List V) (v:af) (us:ba) (Q:VK),Inv X pins σ H s->RelV x v->Vals xs us->r x xs H Q ->
  wpAny (model X.prog X.w) X.A (call (.builtin id) (v::us)) (EP X pins σ Q) X.xe s
section
variable {X:Cx}{a b:aC}{ta tb:TE}{pos:Pos}
def Nt{r:R2}(hr:Tr X r)(ha:PE X a ta)(hb:PE X b tb)(hs:xQ b):PE X (.Subscript a b pos) (YD r ta tb):=by
 kt_k;exact Subscript_ (Vd ha hb I h λv u s2 x y H2 I2 rx ry q=>hr a b pins s2 σ H2 x y v u Q I2 rx ry q (hs _ _))
abbrev aaH (K:au):R2:=λx y H Q=>∃p xs i v,x=.ref p/\y=.int i/\qa K H p xs/\rA xs i=some v/\Q v H
abbrev aa0 (K:au):R2:=λx y H Q=>∃p xs i v,x=.ref p/\y=.int i/\mO K H p xs/\rA xs i=some v/\Q v H
abbrev aae:R2:=λx y H Q=>∃z i c,x=.str z/\y=.int i/\z.length<=sizeLine/\rA z.cps.toList i=some c/\Q (.str ⟨#[c]⟩) H
def Ji:Tr X (aaH X.K):=by
 intro value slice pins s σ H x y v u Q I rx ry h hs;obtain⟨p,xs,i,z,rfl,rfl,hq,he,q⟩:=h
 cases rx
 obtain⟨t,rfl⟩:=ry;obtain⟨its,r,pl,hz⟩:=I.list hq;obtain⟨j,h1,h2,h3,h4,h5⟩:=Ci he;obtain⟨w,ew,rw'⟩:=r.get h2;have hl:=r.length;have hn:=wW;have fin:EP X pins σ Q w s:=⟨z,H,I,rw',q⟩;by_cases h0:0<=i
 ·have hj:i.toNat=j:=by
   rw[seqIndex_of h0 h5]at h1;exact aW h1
  exact item_listR pl.isList h0 () (by rw[hj];simpa using ew) fin hs
 ·have hj:(i+(its.toArray.size:Int)).toNat=j:=by
   rw[seqIndex_neg () h4]at h1;rw[aY,<- hl];exact aW h1
  exact subscriptTail_builtinR (x:=w) pl.isList.typeIs slot_list_getitem.lookup
   (wpAny_getItem_list_neg (Q:=λr s'=>r=w/\EP X pins σ Q r s') pl.isList () (by rw[aY]<;>lia) () (by rw[hj];simpa using ew) ⟨rfl,fin⟩) hs
def WB:Tr X (aa0 X.K):=by
 intro value slice pins s σ H x y v u Q I rx ry h hs;obtain⟨p,xs,i,z,rfl,rfl,hq,he,q⟩:=h
 cases rx
 obtain⟨t,rfl⟩:=ry;obtain⟨its,r,pl,hz⟩:=I.tuple hq;obtain⟨j,h1,h2,h3,h4,h5⟩:=Ci he;obtain⟨w,ew,rw'⟩:=r.get h2;have hl:=r.length;have hn:=wW;have fin:EP X pins σ Q w s:=⟨z,H,I,rw',q⟩;exact subscriptTail_builtinR (x:=w) pl.typeIs slot_tuple_getitem.lookup
  (getItem_tuple (j:=j) (Q:=λr s'=>r=w/\EP X pins σ Q r s') pl () () (by rw[aY,<- hl];exact h1) (by simpa using ew) ⟨rfl,fin⟩) hs
def W_:Tr X aae:=by
 intro value slice pins s σ H x y v u Q I rx ry h hs;obtain⟨z,i,c,rfl,rfl,hz,he,q⟩:=h;obtain⟨t,rfl⟩:=rx;obtain⟨t',rfl⟩:=ry;obtain⟨j,h1,h2,h3,h4,h5⟩:=Ci he;have hl:z.cps.toList.length=z.length:=by simp[Str.length]
 rw[hl]at h1 h4 h5;have hn:=wW;exact tail_any (typeIs_str s z t) slot_str_getitem.lookup (getItem_str (c:=c) (by
  have e1:decide (i < -(2 ^ 63:Int))=false:=bh ();have e2:decide (i>=2 ^ 63)=false:=bh ();rw[e1,e2,Bool.or_false]) (by rw[h1];simpa using h2) ⟨.str ⟨#[c]⟩,H,I.tok _,⟨_,rfl⟩,q⟩) hs
def EV(its:ba)(n j:Nat)(u:af):Obj.mapSeq (·.setIfInBounds j u) { cls:=.type "list",data:=.seq its.toArray n }={ cls:=.type "list",data:=.seq (its.set j u).toArray n }:=by
 simp[Obj.mapSeq]
def Inv.lst{H:Hp}{s:aA}{p:ak}{xs:List V}(I:Inv X pins σ H s)(h:H p=some (.lst xs)) :
  ∃(its:ba) (n:Nat),Vals xs its/\s.heap.get? p=some { cls:=.type "list",data:=.seq its.toArray n }/\xs.length<=sizeLine:=by
 obtain⟨z,its,n,r,e⟩:=I.hok p _ h;exact⟨its,n,r,e,z⟩
def Inv.Wz{H:Hp}{s:aA}{p:ak}{ys:List V}{its its':ba}{n:Nat}{f:Obj->Obj}(I:Inv X pins σ H s)(h:H p=some (.lst xs))
  (ho:s.heap.get? p=some { cls:=.type "list",data:=.seq its.toArray n }) (hf:f { cls:=.type "list",data:=.seq its.toArray n }={ cls:=.type "list",data:=.seq its'.toArray n' }) (r:Vals ys its') (hz:ys.length<=sizeLine) (t:Nat) :
  Inv X pins σ (upd H p (.lst ys)) { s with heap:=s.heap.update p f,toks:=t }:=by
 have e:(s.heap.update p f).get? p=some { cls:=.type "list",data:=.seq its'.toArray n' }:=by
  rw[eT f ho (by rw[hf]<;>rfl),hf]
 refine I.write (x:=p) (e:=p) (by rw[h];trivial) (.inl rfl) (λb u hb q=>(eB _ _ (cR hb)).trans q) ⟨_,e⟩ ?_;exact⟨hz,its',n',r,e⟩
abbrev XZ:V->V->V->Hp->(Hp->Prop)->Prop:=λo i v H Q=>∃p xs k j,o=.ref p/\i=.int k/\H p=some (.lst xs)/\Er xs.length k=some j/\Q (upd H p (.lst (xs.set j v)))
def set_list:Kl X XZ:=by
 intro pins s σ H o i v ov iv u Q I ro ri rv h;obtain⟨p,xs,k,j,rfl,rfl,hp,hj,q⟩:=h
 cases ro
 obtain⟨t,rfl⟩:=ri;obtain⟨its,n,r,ho,hz⟩:=I.lst hp;obtain⟨h1,h2,h3,h4⟩:=I_ hj;have hl:=r.length;have hn:=wW;have I':Inv X pins σ (upd H p (.lst (xs.set j v))) { s with heap:=s.heap.update p (Obj.mapSeq (·.setIfInBounds j u))}:=
  I.Wz hp ho (EV its n j u) (r.set rv j) (by rw[cu];exact hz) s.toks
 by_cases h0:0<=k
 ·have hk:k.toNat=j:=by
   rw[seqIndex_of h0 h4]at h1;exact aW h1
  exact PySem.W.ki_setAt ho h0 () (by rw[aY,<- hl];exact h4) (by rw[hk];exact⟨_,I',q⟩)
 ·have hk:(k+(its.toArray.size:Int)).toNat=j:=by
   rw[seqIndex_neg () h3]at h1;rw[aY,<- hl];exact aW h1
  exact PySem.W.ki_setBack ho () (by rw[aY,<- hl];exact h3) () (by rw[hk];exact⟨_,I',q⟩)
def BW(lo hi:bi)(n:Nat):(sliceBounds lo hi none n).1=((HT.nS n 0 lo:Nat):Int)/\(sliceBounds lo hi none n).2.1=((HT.nS n n hi:Nat):Int)/\(sliceBounds lo hi none n).2.2=1:=by
 refine⟨?_,?_,rfl⟩
 ·cases lo with
  | none=>simp[sliceBounds,HT.nS]
  | some i=>
   dsimp[sliceBounds,HT.nS,getD_none,show(1:Int)>0 by decide,cI];by_cases h:i<0
   ·dsimp[h,cI]<;>lia
   ·dsimp[h,bY]<;>lia
 ·cases hi with
  | none=>simp[sliceBounds,HT.nS]
  | some i=>
   dsimp[sliceBounds,HT.nS,getD_none,show(1:Int)>0 by decide,cI];by_cases h:i<0
   ·dsimp[h,cI]<;>lia
   ·dsimp[h,bY]<;>lia
def z0(its:ba)(lo hi:bi):slicePick its.toArray lo hi none=((its.drop (HT.nS its.length 0 lo)).take (HT.nS its.length its.length hi-HT.nS its.length 0 lo)).toArray:=by
 obtain⟨h1,h2,h3⟩:=BW lo hi its.toArray.size;unfold slicePick;rw[h1,h2,h3];dsimp[sliceRange_one,pick_run,aY]<;>rfl
abbrev aad (K:au):V->bi->bi->Hp->VK->Prop:=λx lo hi H Q=>∃a xs,x=.ref a/\qa K H a xs/\∀p,H p=none->Q (.ref p) (upd H p (.lst (Ez xs lo hi)))
def HV:ZS X (aad X.K):=by
 intro pins s σ H x v vl vu lo hi sl Q I rx hs pl pu h;obtain⟨a,xs,rfl,hx,q⟩:=h
 cases rx
 obtain⟨its,r,ht,hz⟩:=I.list hx;have hlen:=r.length;refine⟨"list",_,slot_list_getitem.lookup,ht.isList.typeIs,?_⟩;refine wpAny_getItem_list_slice ht.isList hs pl pu .none (by simp) ?_ (by rw[aY]<;>lia);rw[z0,<- hlen];refine⟨.ref s.heap.objs.size,_,I.laid (t':=s.toks) (o:=.lst (Ez xs lo hi)) (λb ob q=>aO _ q) (aQ _) ?_,rfl,q _ (I.hok.fresh (aQ _))⟩;exact⟨bJ (xy xs lo hi) hz,_,0,(r.drop (HT.nS xs.length 0 lo)).take (HT.nS xs.length xs.length hi-HT.nS xs.length 0 lo),bB _ rfl⟩
abbrev yT:V->Bool
 | .non=>true
 | .bl _=>true
 | .int _=>true
 | .str _=>true
 | _=>false
abbrev RH:V->V->Bool
 | .non,.non=>true
 | .bl a,.bl b=>a == b
 | .bl a,.int b=>(if a then 1 else 0) == b
 | .int a,.bl b=>a == (if b then 1 else 0)
 | .int a,.int b=>a == b
 | .str a,.str b=>a == b
 | _,_=>false
def Xl{A:az}{x:V}{v:af}(ry:RelV y u)(rx:RelV x v)(fy:yT y=true)(fx:yT x=true):SeqAt.EqAt A s u v (RH y x):=by
 cases y with
 | non=>
  cases ry
  cases x with
  | non=>cases rx;exact SeqAt.EqAt.same _
  | bl b=>cases rx;exact SeqAt.EqAt.none_bool b
  | int b=>obtain⟨t,rfl⟩:=rx;exact SeqAt.EqAt.none_int b t
  | str b=>obtain⟨t,rfl⟩:=rx;exact SeqAt.EqAt.none_str b t
  | _=>exact absurd (show false=true from fx) bG
 | bl a=>
  cases ry
  cases x with
  | non=>cases rx;exact SeqAt.EqAt.bool_none a
  | bl b=>cases rx;exact SeqAt.EqAt.bool_bool a b
  | int b=>obtain⟨t,rfl⟩:=rx;exact SeqAt.EqAt.bool_int a b t
  | str b=>obtain⟨t,rfl⟩:=rx;exact SeqAt.EqAt.bool_str a b t
  | _=>exact absurd (show false=true from fx) bG
 | int a=>
  obtain⟨t',rfl⟩:=ry
  cases x with
  | non=>cases rx;exact SeqAt.EqAt.int_none a t'
  | bl b=>cases rx;exact SeqAt.EqAt.int_bool a t' b
  | int b=>obtain⟨t,rfl⟩:=rx;exact SeqAt.EqAt.int_int a t' b t
  | str b=>obtain⟨t,rfl⟩:=rx;exact SeqAt.EqAt.int_str a t' b t
  | _=>exact absurd (show false=true from fx) bG
 | str a=>
  obtain⟨t',rfl⟩:=ry
  cases x with
  | non=>cases rx;exact SeqAt.EqAt.str_none a t'
  | bl b=>cases rx;exact SeqAt.EqAt.str_bool a t' b
  | int b=>obtain⟨t,rfl⟩:=rx;exact SeqAt.EqAt.str_int a t' b t
  | str b=>obtain⟨t,rfl⟩:=rx;exact SeqAt.EqAt.str_str a t' b t
  | _=>exact absurd (show false=true from fx) bG
 | _=>exact absurd (show false=true from fy) bG
def rQ:kg X (.type "list") (λxs H Q=>∃p ys,xs=[.ref p]/\(qa X.K H p ys\/mO X.K H p ys)/\∀l,H l=none->Q (.ref l) (upd H l (.lst ys))):=by
 k_ne;obtain⟨p,ys,rfl,hq,q⟩:=h;kcj_m
 cases rx
 have fin:∀(its:ba),Vals ys its->ys.length<=sizeLine->∀(h':aq) (c':Nat),(∀b o',s.heap.get? b=some o'->h'.get? b=some o') ->
   h'.get? s.heap.objs.size=some { cls:=.type "list",dict:=none,data:=.seq its.toArray c',slots:=#[]}->EP X pins σ Q (.ref s.heap.objs.size) { s with heap:=h' }:=λits r' hz h' c' kp e=>
  ⟨.ref s.heap.objs.size,_,I.laid (t':=s.toks) kp (aQ _) (show lC X.prog X.w _ h' _ (.lst ys)from⟨hz,its,c',r',e⟩),rfl,q _ (I.hok.fresh (aQ _))⟩
 rcases hq with hq|hq
 ·obtain⟨its,r',pl,hz⟩:=I.list hq;have hlen:=r'.length;obtain⟨o,ho,hc,n,hd⟩:=pl.isList;exact call_list_seq p (.inl rfl) ho hc hd (λh' c' kp e=>fin its r' hz h' c' kp e) (by dsimp[aY]<;>lia)
 ·obtain⟨its,r',pl,hz⟩:=I.tuple hq;have hlen:=r'.length;obtain⟨o,ho,hc,n,hd⟩:=pl;exact call_list_seq p (.inr rfl) ho hc hd (λh' c' kp e=>fin its r' hz h' c' kp e) (by dsimp[aY]<;>lia)
def qA:kg X (.type "tuple") (λxs H Q=>∃p ys,xs=[.ref p]/\((qa X.K H p ys/\∀l,H l=none->Q (.ref l) (upd H l (.tup ys)))\/(mO X.K H p ys/\Q (.ref p) H))):=by
 k_ne;obtain⟨p,ys,rfl,h⟩:=h;kcj_m
 cases rx
 rcases h with⟨hq,q⟩|⟨hq,q⟩
 ·obtain⟨its,r',pl,hz⟩:=I.list hq;have hlen:=r'.length;refine call_tuple_list pl.isList (λh' kp=>?_) (by dsimp[aY]<;>lia);have I1:Inv X pins σ H { s with heap:=h' }:=I.kept (t':=s.toks) kp;have I2:Inv X pins σ (upd H h'.objs.size (.tup ys)) { s with heap:=h'.push { cls:=.type "tuple",data:=.seq its.toArray }}:=
   I1.laid (t':=s.toks) (λb o e=>aO _ e) (aQ _) (show lC X.prog X.w _ _ _ (.tup ys)from⟨hz,its,r',oQ.new _ _⟩)
  exact⟨.ref h'.objs.size,_,I2,rfl,q _ (I1.hok.fresh (aQ _))⟩
 ·obtain⟨its,r',pl,hz⟩:=I.tuple hq;exact call_tuple_same pl ⟨.ref p,H,I,rfl,q⟩
abbrev X3 (K:au)(T:String)(x:V)(H:Hp):Prop:=match x with
 | .str _=>T = "str"
 | .int _=>T = "int"
 | .ref p=>(T = "list" /\ ∃xs,qa K H p xs)\/(T = "tuple" /\ ∃o,K.lookup p=some o/\o.cls=.type "tuple" /\ o.dict=none) \/
   (T = "dict" /\ ((∃kvs,H p=some (.dK kvs))\/∃kvs,H p=some (.dT kvs)))\/(T = "set" /\ ∃S n,H p=some (.set S n))
 | _=>False
def VP{H:Hp}{s:aA}{x:V}{v:af}(I:Inv X pins σ H s)(r:RelV x v)(ty:X3 X.K T x H) :
  s.TypeIs v T/\∀a,v=.ref a->∃ob,s.heap.get? a=some ob/\ob.dict=none:=by
 cases x with
 | str z=>
  obtain⟨t,rfl⟩:=r
  cases(show T = "str" from ty)
  exact⟨typeIs_str s z t,nofun⟩
 | int i=>
  obtain⟨t,rfl⟩:=r
  cases(show T = "int" from ty)
  exact⟨typeIs_int s i t,nofun⟩
 | ref p=>
  cases r
  rcases ty with⟨rfl,xs,hq⟩|⟨rfl,o,hk,hc,hd⟩|⟨rfl,hk⟩|⟨rfl,S,n,hk⟩
  ·obtain⟨its,_,pl,_⟩:=I.list hq;refine⟨pl.isList.typeIs,λa e=>?_⟩
   cases e
   obtain⟨o,n,e,c,hd,_⟩:=pl;exact⟨o,e,hd⟩
  ·refine⟨⟨o,I.zp p o hk,hc⟩,λa e=>?_⟩
   cases e
   exact⟨o,I.zp _ o hk,hd⟩
  ·have z:∃o,s.heap.get? p=some o/\o.ExactDict:=by
    rcases hk with⟨kvs,hk⟩|⟨kvs,hk⟩
    ·obtain⟨_,_,_,_,o,_,_,e,ex,_⟩:=I.hok p _ hk;exact⟨o,e,ex⟩
    ·obtain⟨_,_,_,_,o,_,_,e,ex,_⟩:=I.hok p _ hk;exact⟨o,e,ex⟩
   obtain⟨o,e,ex⟩:=z;refine⟨⟨o,e,ex.1⟩,λa e2=>?_⟩
   cases e2
   exact⟨o,e,ex.2.1⟩
  ·obtain⟨o,_,_,_,e,ex,_⟩:=I.hok p _ hk;refine⟨⟨o,e,ex.1⟩,λa e2=>?_⟩
   cases e2
   exact⟨o,e,ex.2.1⟩
 | _=>exact False.elim ty
abbrev tBM (K:au)(T:String)(r:V->List V->Hp->VK->Prop)(to:TE)(t:TA):TE:=λσ H Q=>to σ H λx H1=>X3 K T x H1/\t σ H1 λxs H2=>r x xs H2 Q
variable {o e:aC}{es:List aC}{to:TE}{t:TA}{name:Str}{apos cpos:Pos}{T id:String}{r:V->List V->Hp->VK->Prop}
def M7(pa:PlainAttrs T)(slot:Slot T name id)(hty:typeOf (.builtin id)=pure (.type "method_descriptor"))(hm:TQ X id r)(ho:PE X o to)(ha:PA X (e::es) t)
  (hbase:attributeBase o name X.env (eval o X.env)=eval o X.env:=by rfl)
  (hfew:((backTo cpos (starEach (e::es) X.env)).all (λx=>!x.1) && (backToKw cpos (keywordEach [] X.env)).all (λx=>x.1.isSome)
   && decide ((e::es).length+([]:List Keyword).length+(if ([]:List Keyword).isEmpty then 0 else 1)<30))=true:=by rfl)
  (hline:(apos.endLine == cpos.line)=true:=by rfl) (hs:starEach (e::es) X.env=(false,eval e X.env)::starEach es X.env:=by rfl) (hplain:(backTo cpos (starEach es X.env)).any (·.1)=false:=by rfl) :
  PE X (.Call (.Attribute o name apos) (e::es) [] cpos) (tBM X.K T r to t):=by
 kt_k;refine wpAny_Call_method_late hbase hfew hline rfl (mL (ho pins s σ H _ I h) λv s1 ⟨x,H1,I1,r1,ty,q1⟩=>?_);obtain⟨h1,h2⟩:=VP I1 r1 ty;refine⟨T,id,pa,slot,hty,h1,h2,?_⟩;have hA:=ha cpos pins s1 σ H1 _ I1 q1;rw[hs]at hA ⊢;refine Calls.callWith_builtin (by show(false || (backTo cpos (starEach es X.env)).any (·.1))=false;rw[hplain]<;>rfl) (Calls.evalArgs_plain ?_);exact mL hA λus s2 ⟨vs,H2,I2,r2,q2⟩=>hm pins s2 σ H2 x vs v us Q I2 r1 r2 q2
end
abbrev MtM (X:Cx)(id:String)(r:V->List V->Hp->VK->Prop):Prop:=
 ∀(pins:bv) (s:aA) (σ:St) (H:Hp) (x:V) (xs:List V) (v:af) (us:ba) (Q:VK),Inv X pins σ H s->RelV x v->Vals xs us->r x xs H Q ->
  wpAny (model X.prog X.w) X.A (call (.builtin id) (v::us)) (EP X pins σ Q) X.xe s
def Vals.one:∀{x:V}{us:ba},Vals [x] us->∃u,us=[u]/\RelV x u
 | _,_,.cons r .nil=>⟨_,rfl,r⟩
theorem Vals.eraseIdx:∀{xs:List V}{us:ba}(i:Nat),Vals xs us->Vals (xs.eraseIdx i) (us.eraseIdx i)
 | _,_,_,.nil=>.nil
 | _,_,0,.cons _ t=>t
 | _,_,i+1,.cons r t=>.cons r (Vals.eraseIdx i t)
theorem Vals.rep(h:Vals xs us):∀k:Nat,Vals (List.replicate k xs).flatten (List.replicate k us).flatten
 | 0=>.nil
 | k+1=>by
  rw[c9,c9,dS,dS];exact Vals.append h (Vals.rep h k)
theorem A8{α:Type}:∀(l:List α) (i:Nat),(l.eraseIdx i).length<=l.length
 | [],_=>aQ _
 | _::_,0=>Nat.le_succ _
 | _::r,i+1=>Nat.succ_le_succ (A8 r i)
theorem foldl_rep(its:ba):∀(k:Nat) (acc:ba),
  List.foldl (λx1 x2=>x1++x2) acc.toArray (List.replicate k its.toArray)=(acc++(List.replicate k its).flatten).toArray
 | 0,acc=>by simp
 | k+1,acc=>by
  have e:acc.toArray++its.toArray=(acc++its).toArray:=by simp
  have e2:(acc++its)++(List.replicate k its).flatten=acc++(List.replicate (k+1) its).flatten:=by
   rw[c9,dS,cD]
  rw[<- e2,<- foldl_rep its k (acc++its),<- e,c9,eX]
section
variable {X:Cx}{pins:bv}{σ:St}{H:Hp}{s:aA}{l:ak}{xs ys:List V}
def Inv.ZH{its its':ba}{n:Nat}{f:Array af->Array af}{t':Nat}(I:Inv X pins σ H s)(hH:H l=some (.lst xs))
  (e:s.heap.get? l=some { cls:=.type "list",data:=.seq its.toArray n }) (hf:f its.toArray=its'.toArray) (hv:Vals ys its') (hz:ys.length<=sizeLine) :
  Inv X pins σ (upd H l (.lst ys)) { s with heap:=s.heap.update l (Obj.mapSeq f),toks:=t' }:=by
 have q:=PySem.IsL.update e f;rw[hf]at q;refine I.write (x:=l) (e:=l) (by rw[hH];exact trivial) (.inl rfl) (λb' u hb hu=>(eB s.heap (Obj.mapSeq f) (cR hb)).trans hu) ⟨_,q⟩ ?_;exact⟨hz,its',_,hv,q⟩
def Inv.Vp{its:ba}{t':Nat}(I:Inv X pins σ H s)(hv:Vals ys its)(hz:ys.length<=sizeLine) :
  Inv X pins σ (upd H s.heap.objs.size (.lst ys)) { s with heap:=s.heap.push { cls:=.type "list",data:=.seq its.toArray },toks:=t' }:=
 I.laid (λ_ _ q=>aO _ q) (aQ _) ⟨hz,its,0,hv,bB _ rfl⟩
def Inv.fresh(I:Inv X pins σ H s):H s.heap.objs.size=none:=I.hok.fresh (aQ _)
def Inv.LX(I:Inv X pins σ H s)(hH:H l=some (.lst xs)):xs.length<=sizeLine/\∃(its:ba) (n:Nat),Vals xs its/\xs.length=its.length/\s.heap.get? l=some { cls:=.type "list",data:=.seq its.toArray n }:=by
 obtain⟨z,its,n,r,e⟩:=I.hok l _ hH;exact⟨z,its,n,r,r.length,e⟩
def NN{n:Nat}(h:n<=sizeLine):Builtin.List.listTooLong n=false:=by
 unfold Builtin.List.listTooLong;exact bh ()
end
section
variable {X:Cx}
abbrev Rq:V->List V->Hp->VK->Prop:=λx vs H Q=>∃l xs y,x=.ref l/\vs=[y]/\H l=some (.lst xs)/\xs.length<sizeLine/\Q .non (upd H l (.lst (xs++[y])))
def Bm:MtM X "list.append" Rq:=by
 intro pins s σ H x vs v us Q I rx rv h;obtain⟨l,xs,y,rfl,rfl,hH,hz,q⟩:=h
 cases rx
 obtain⟨u,rfl,ru⟩:=rv.one;obtain⟨z,its,n,r,hl,e⟩:=I.LX hH;refine jl F.slot_list_append ⟨_,e,rfl⟩ F.entry_list_append (F.args_list_append_2 _ _) (PySem.list_append l its.toArray n u (by rw[aY];lia)) ⟨e,?_⟩;refine⟨.non,_,I.ZH (its':=its++[u]) hH e (by simp) (r.append (.cons ru .nil)) ?_,rfl,q⟩;rw[aR,bV]
 lia
abbrev VU:V->List V->Hp->VK->Prop:=λx vs H Q=>∃l xs i k y,x=.ref l/\vs=[.int i]/\H l=some (.lst xs)/\-(2 ^ 63)<=i/\i<2 ^ 63/\seqIndex? i xs.length=some k/\xs[k]?=some y/\Q y (upd H l (.lst (xs.eraseIdx k)))
def Ou:MtM X "list.pop" VU:=by
 intro pins s σ H x vs v us Q I rx rv h;obtain⟨l,xs,i,k,y,rfl,rfl,hH,h1,h2,hk,hy,q⟩:=h
 cases rx
 obtain⟨u,rfl,ru⟩:=rv.one;obtain⟨t,rfl⟩:=ru;obtain⟨z,its,n,r,hl,e⟩:=I.LX hH;obtain⟨w,hw,rw'⟩:=r.get hy;refine jl F.slot_list_pop ⟨_,e,rfl⟩ F.entry_list_pop (F.args_list_pop_2 _ _)
  (MeetsSeq.list_pop_at l its.toArray n i t k w (fitsIndex_both h1 h2) (by rw[aY,<- hl];exact hk) (by rw[<- eU];exact hw) (by rw[aY];lia)) ⟨e,?_⟩
 refine⟨y,_,I.ZH (its':=its.eraseIdx k) hH e ?_ (r.eraseIdx k) ?_,rw',q⟩
 ·skip
  rw[iD]
 ·have:=A8 xs k
  lia
abbrev aau:R2:=λx y H Q=>∃l b xs zs,x=.ref l/\y=.ref b/\H l=some (.lst xs)/\H b=some (.lst zs)/\xs.length+zs.length<=sizeLine/\∀p,H p=none->Q (.ref p) (upd H p (.lst (xs++zs)))
def Vc:oE X (binaryOp .Add) aau:=by
 gp_on;obtain⟨l,b,xs,zs,rfl,rfl,hH,hB,hz,q⟩:=h
 cases rx
 cases ry
 obtain⟨z,its,n,r,hl,e⟩:=I.LX hH;obtain⟨z2,its2,n2,r2,hl2,e2⟩:=I.LX hB;refine PySem.P.add_list e e2 ?_ (by rw[aY,aY];lia);have ea:its.toArray++its2.toArray=(its++its2).toArray:=by simp
 rw[ea];exact⟨.ref _,_,I.Vp (t':=s.toks) (r.append r2) (by rw[aR];lia),rfl,q _ I.fresh⟩
abbrev aaj:R2:=λx y H Q=>∃l k xs,x=.ref l/\y=.int k/\H l=some (.lst xs)/\-(2 ^ 63)<=k/\k<2 ^ 63/\xs.length * k.toNat<=sizeLine /\
 ∀p,H p=none->Q (.ref p) (upd H p (.lst (List.replicate k.toNat xs).flatten))
def len_rep{α:Type}(xs:List α)(k:Nat):(List.replicate k xs).flatten.length=k * xs.length:=by
 induction k with
 | zero=>simp
 | succ k ih=>rw[c9,dS,aR,ih,eY,add_comm]
def VY:oE X (binaryOp .Mult) aaj:=by
 gp_on;obtain⟨l,k,xs,rfl,rfl,hH,h1,h2,hz,q⟩:=h
 cases rx
 obtain⟨t,rfl⟩:=ry;obtain⟨z,its,n,r,hl,e⟩:=I.LX hH;have hlen:its.toArray.size * k.toNat<=sizeLine:=by rw[aY,<- hl];exact hz
 have hcap:¬its.toArray.size * k.toNat>(2 ^ 63-1) / 8:=by
  have:(sizeLine:Nat)<=(2 ^ 63-1) / 8:=by decide
  omega
 have hfit:¬(!Builtin.List.listFitsIndex k)=true:=by
  rw[fitsIndex_both h1 h2];exact bG
 have hlong:¬Builtin.List.listTooLong (its.toArray.size * k.toNat)=true:=by
  rw[NN hlen];exact bG
 have hnew:List.foldl (λx1 x2=>x1++x2) #[] (List.replicate (if its.toArray.isEmpty=true then 0 else k.toNat) its.toArray)=(List.replicate k.toNat its).flatten.toArray:=by
  have f0:∀m:Nat,List.foldl (λx1 x2=>x1++x2) #[] (List.replicate m its.toArray)=(List.replicate m its).flatten.toArray:=λm=>by
   have:=foldl_rep its m [];rw[List.nil_append]at this;exact this
  rw[f0]
  cases its with
  | nil=>simp
  | cons a r'=>rw[aI (by simp)]
 refine wpAny_binaryOp_repeat_ref (T := "list") (U := "int") ⋯ ⟨_,e,rfl⟩ (λs'=>typeIs_int s' k t) noFill_list_mul F.fills_int_mul F.slot_int_rmul repeat_list F.slot_int_index.lookup
  (jl F.slot_int_rmul (typeIs_int s k t) F.entry_int_rmul (F.args_int_rmul_2 _ _) (int___rmul___int_list k t l its.toArray n)
   ⟨e,rfl,⟨_,e,rfl⟩,jl F.slot_list_mul ⟨_,e,rfl⟩ F.entry_list_mul (F.args_list_mul_2 _ _) (AutoListH.list___mul___list_int_3 l its.toArray n k t hfit hcap hlong) ⟨e,?_⟩⟩)
 rw[hnew];exact⟨.ref _,_,I.Vp (t':=s.toks) (r.rep k.toNat) (by rw[len_rep,Nat.mul_comm];exact hz),rfl,q _ I.fresh⟩
end
end L2
namespace Att
open PySem PySem.W PySem.Calls PyProof.Rows
def xH{P:Params}:∀(ns:ag) (vs:ba),WellAll P h vs (ns.map WData.int)->IntsAre vs ns:=by
 intro ns
 induction ns with
 | nil=>
  intro vs w;rw[gY]at w
  cases w
  exact .nil
 | cons n ns ih=>
  intro vs w;rw[bF]at w
  cases w with
  | cons a b=>
   cases a
   exact .cons _ _ (ih _ b)
def Ku{l:OpenLaw}{n:Nat}(hn:l.most=some n){P:Params}{h:aq}
  (hpre:l.row.toRowW.claim.pre args=true) (hwl:WellAll P h vals args) :
  ∃a vs ns,vals=[Value.ref a]/\args=[WData.list (ns.map WData.int)]/\h.get? a=some { cls:=.type "list",data:=.seq vs.toArray }/\IntsAre vs ns/\ns.length<=n:=by
 have hsh:WShape.hasAll [] args [.list .int]=true:=(pre_splitW hpre).1;have hc:l.pre.holds [] { args:=args }=true:=(pre_splitW hpre).2;obtain⟨d,r,rfl,h1,h2⟩:=hasAllW_cons hsh;obtain rfl:=hasAllW_nil h2;obtain⟨xs,rfl,h3⟩:=hasW_list h1;obtain⟨ns,rfl⟩:=items_int h3;have hlen:ns.length<=n:=by
  unfold OpenLaw.pre at hc;have h4:(WTm.not (.lt (.lit (.int (n:Int))) (.len (.arg 0)))).holds [] { args:=[.list (ns.map .int)]}=true:=by
   have h4:=(holds_andW hc).1;rw[hn]at h4;exact h4
  have h5:=condW_of h4 (w_not (w_lt w_lit (w_len_list (w_arg rfl))));rw[aH]at h5;refine iI λq=>?_;have q':(n:Int)<((ns.length:Nat):Int):=by omega
  first
   | (rw[bg q']at h5;exact absurd h5 ⋯)
   | (simp at h5;omega)
 cases hwl with
 | cons w1 w2=>
  cases w2
  cases w1 with
  | list ho hall=>exact⟨_,_,ns,rfl,rfl,ho,xH ns _ hall,hlen⟩
def Kv(l:OpenLaw)(args:List WData):l.row.toRowW.claim.post args (.bool true) args=true:=
 postW_of (r:=l.row.toRowW) (X:=(true == true))
  (show WShape.has [] (.bool true) .bool=true by first|rfl|decide|simp[WShape.has,WShape.arms,WShape.armsAll])
  (show(WTm.eq .res (.lit (.bool true))).value [] { args:=args,res:=some (.bool true),after:=args }=some (.bool (true == true))from w_eq_bool (w_res rfl) w_lit) rfl
def EN{l:OpenLaw}{n:Nat}{q:aj}{XP:(Str->bd)->aq->Prop}{YP:ah->aq->Prop}{d:DefRec}
  (hn:l.most=some n) (hdf:d.params.defaults=[])
  (call:∀(w:ah) (s₀ s₁:aA) (mg mb:Str->bd) (fa:ak) (o:Obj) (pm cd doc:af) (a:ak) (vs:ba) (ns:ag),
   Ground q loose [] XP w s₀ mg mb s₁.heap->YP w s₁.heap ->
   s₁.heap.get? fa=some o->o.data=.func (docDef d.name d.params d.body d.scope pm cd doc)->s₁.heap.CodeRec cd d.name->mg d.name=some (.ref fa) ->
   s₁.heap.get? a=some { cls:=.type "list",data:=.seq vs.toArray }->IntsAre vs ns->ns.length<=n->s₁.gens=#[] ->
   codeAny (model l.prog w) callerA (.call (.ref fa) ⟨[.ref a],[]⟩) (λr s'=>r=.ok (.ret (.bool true))/\OldK s₁.heap s'.heap/\s'.os=s₁.os/\AllBare s'.gens) s₁) :
  WalkO q loose XP YP l.row.toRowW d [] (λf vs=>PySem.call f vs):=by
 intro w s₀ s₁ mg mb G Y fa o pm cd doc dV kV ho hd hcd hD hmg hg args vals as hpre hlay hrd hwl hlo;obtain rfl:dV=.none:=Dflts.none hD hdf;obtain rfl:kV=.none:=Dflts.noKw hD;obtain⟨a,vs,ns,rfl,rfl,hobj,hints,hlen⟩:=Ku hn hpre hwl;refine enter_call (iR (call w s₀ s₁ mg mb fa o pm cd doc a vs ns G Y ho (fd_plain hd) hcd hmg hobj hints hlen hg) λr s' hq=>?_);obtain⟨rfl,h2,h3,h4⟩:=hq;exact⟨.inl ⟨.bool true,.bool true,[],rfl,λ_=>rfl,.bool true,Kv l _,λ_=>⟨List.Pairwise.nil,λ_ hm=>(nomatch hm)⟩⟩,h2,h3,h4⟩
end Att
namespace L2
open PySem PySem.Spec PyProof.Rows
theorem tM:∀{vs:ba}{ns:ag},IntsAre vs ns->Vals (ns.map V.int) vs
 | _,_,.nil=>.nil
 | _,_,.cons n t h=>.cons ⟨t,rfl⟩ (tM h)
abbrev Q_ (H:Hp):Prop:=∀b,H b=none\/∃o xs,H b=some (.frz o (.lst xs))
def Pq{P:aj}{w:ah}{K:au}{mg mb:Str->bd}{CX:PV}{k:Nat}{fa a:ak}{x:Str}{sp:Sp}{s₁:aA}{vs:ba}{ns:ag}
  (KX:K.In s₁.heap) (hns:s₁.heap.Ns mainGlobals mg) (hb:s₁.heap.Ns builtinsNs mb) (hbb:∀x:Str,x ≠ "__name__" -> mb x=bootBuiltins x) (hlim:s₁.heap.NoLimit) (hg:s₁.gens=#[])
  (ha:s₁.heap.get? a=some { cls:=.type "list",data:=.seq vs.toArray }) (hi:IntsAre vs ns) (hl:ns.length<=sizeLine) (hr:Room k callerA)
  (F:∀base:aq,K.In base->base.Ns mainGlobals mg->FnOk P w K mg base CX k fa fd [x] sp) (hbind:∀(s:aA) (u:af),BindsTo s fd ⟨[u],[]⟩ [(x,u)])
  (hsp:∀H:Hp,Q_ H->qa K H a (ns.map V.int)->sp [.ref a] H (λv _=>v=.bl true) λ_ _ _=>False)
  (hCX:∀H e s',CX [] H s₁ (λ_ _ _=>False) e s'->False) :
  codeAny (model P w) callerA (.call (.ref fa) ⟨[.ref a],[]⟩) (λr s'=>r=.ok (.ret (.bool true))/\OldK s₁.heap s'.heap/\s'.os=s₁.os/\AllBare s'.gens) s₁:=by
 have rv:=tM hi;have lenV:=hi.length;have core:∀H:Hp,Q_ H->qa K H a (ns.map V.int)->um P w H s₁.heap->(∀b,H b≠none->b=a)->(H a≠none->K.lookup a=none) ->
   codeAny (model P w) callerA (.call (.ref fa) ⟨[.ref a],[]⟩) (λr s'=>r=.ok (.ret (.bool true))/\OldK s₁.heap s'.heap/\s'.os=s₁.os/\AllBare s'.gens) s₁:=by
  intro H hO hS hok hA hK;have base_of:∀{b:ak} {o:Obj},s₁.heap.get? b=some o->H b=none->(Cr s₁.heap H).get? b=some o:=λe n=>Ln e n;have noA:∀{b:ak} {o:Obj} {es:Array DictEntry} {ep:Nat},s₁.heap.get? b=some o->o.data=.dict es ep->H b=none:=λ{b o es ep} e d=>by
   cases q:H b with
   | none=>rfl
   | some u=>
    have e':b=a:=hA b (by rw[q];simp);subst e';rw[ha]at e;cases e;have d':Data.seq vs.toArray _=Data.dict es ep:=d
    cases d'
  have nsK:∀{b:ak} {m:Str->bd},s₁.heap.Ns b m->(Cr s₁.heap H).Ns b m:=λ{b m} ⟨o,es,ep,e,d,r⟩=>⟨o,es,ep,base_of e (noA e d),d,r⟩;have hKb:K.In (Cr s₁.heap H):=λb o e=>base_of (KX b o e) (by
   cases q:H b with
   | none=>rfl
   | some u=>
    have e':b=a:=hA b (by rw[q];simp);subst e';rw[hK (by rw[q];simp)]at e;cases e)
  have hM:Mod K mg (Cr s₁.heap H):=⟨hKb,nsK hns,⟨mb,nsK hb,hbb⟩,let⟨mc,h1,h2⟩:=hlim;⟨mc,nsK h1,h2⟩⟩;have e0:Env0 P w K mg (Cr s₁.heap H) callerA [] s₁ H:=⟨rfl,hM,λb o e=>RO e,Nat.le_of_eq (KC _ _),trivial,λb hb=>absurd (show b∈([]:bb)from hb) (by simp),hok,.of_eq hg⟩;refine iR ((F _ hKb (nsK hns)).run callerA [] s₁ H ⟨[.ref a],[]⟩ [.ref a] [.ref a] _ _ hr e0 (hbind s₁ (.ref a)) (.cons rfl .nil) (hsp H hO hS)) λr s' h=>?_
  cases r with
  | error e=>exact(hCX H e s' h).elim
  | ok fl=>
   cases fl with
   | next=>exact False.elim h
   | brk=>exact False.elim h
   | cont=>exact False.elim h
   | ret u=>
    obtain⟨v,H',os,bare,un,hok',r',q⟩:=h;have q':v=.bl true:=q;subst q';obtain rfl:u=Value.bool true:=r';refine⟨rfl,OldK.of_keep λb o e=>?_,os,bare⟩
    cases q:H b with
    | none=>exact un.keep b o e q (by intro z;exact absurd (show b∈([]:bb)from z) (by simp)) (by simp)
    | some u=>
     rcases hO b with z|⟨ob,xs,z⟩
     ·rw[q]at z;cases z
     ·have z2:=un.frzs b ob _ z;obtain⟨e1,_⟩:=hok b _ z;obtain⟨e2,_⟩:=hok' b _ z2;rw[e]at e1;cases e1;exact e2
 cases hk:K.lookup a with
 | some o=>
  have e:=KX a o hk;rw[ha]at e
  cases e
  refine core (λ_=>none) (λ_=>.inl rfl) (.inr ⟨_,vs.toArray,_,hk,rfl,rfl,rfl,by rw[aY,lenV];exact hl,by simpa using rv⟩) (λb u z=>by have z':(none:Option HO)=some u:=z;cases z') (λb z=>absurd rfl z) λz=>absurd rfl z
 | none=>
  refine core (λb=>if b=a then some (.frz { cls:=.type "list",data:=.seq vs.toArray } (.lst (ns.map V.int)))else none) (λb=>?_) (.inl (.inr ⟨{ cls:=.type "list",data:=.seq vs.toArray },aK rfl⟩)) (λb u z=>?_) (λb z=>?_) λ_=>hk
  ·by_cases hb:b=a
   ·exact .inr ⟨_,_,aK hb⟩
   ·exact .inl (aI hb)
  ·by_cases hb:b=a
   ·have z':=(aK hb).symm.trans z
    cases z'
    subst hb;exact⟨ha,by rw[aH];exact hl,vs,_,rv,ha⟩
   ·have z':=(aI hb).symm.trans z
    cases z'
  ·by_cases hb:b=a
   ·exact hb
   ·exact absurd (aI hb) z
def RB{l:PySem.W.OpenLaw}{n k:Nat}{q:aj}{XP:(Str->bd)->aq->Prop}{YP:ah->aq->Prop}{d:DefRec}{K:Params->au}{CX:ah->PV}{sp:ah->Sp}{x:Str}
  (hn:l.most=some n) (hn2:n<=sizeLine) (hdf:d.params.defaults=[]) (hr:Room k callerA)
  (hY:∀(w:ah) (h:aq),YP w h->(K w.params).In h)
  (F:∀(w:ah) (mg:Str->bd) (fa:ak) (h:aq),(K w.params).In h->h.Ns mainGlobals mg->mg d.name=some (.ref fa) ->
   ∃fd:FuncData,(∀(s:aA) (u:af),BindsTo s fd ⟨[u],[]⟩ [(x,u)]) /\
    ∀base:aq,(K w.params).In base->base.Ns mainGlobals mg->FnOk l.prog w (K w.params) mg base (CX w) k fa fd [x] (sp w))
  (hsp:∀(w:ah) (H:Hp) (a:ak) (ns:ag),ns.length<=n->Q_ H->qa (K w.params) H a (ns.map V.int)->sp w [.ref a] H (λv _=>v=.bl true) λ_ _ _=>False)
  (hCX:∀(w:ah) (H:Hp) (s:aA) (e:af) (s':aA),CX w [] H s (λ_ _ _=>False) e s'->False) :
  PySem.W.WalkO q loose XP YP l.row.toRowW d [] (λf vs=>PySem.call f vs):=by
 refine Att.EN hn hdf λw s₀ s₁ mg mb fa o pm cd doc a vs ns G Y ho hd hcd hmg hobj hints hlen hg=>?_;have KX:=hY w _ Y;obtain⟨fd,hb,hF⟩:=F w mg fa _ KX G.T.g hmg;exact Pq KX G.T.g G.T.b G.T.builtins G.T.nolimit hg hobj hints (bJ hlen hn2) hr hF hb (λH hO hS=>hsp w H a ns hlen hO hS) λH e s'=>hCX w H s₁ e s'
abbrev uc (s:aE):Arguments:=match s with
 | .FunctionDef _ a _ _ _ _ _ _ _ _=>a
 | _=>{ posonlyargs:=[],args:=[],vararg:=none,kwonlyargs:=[],kw_defaults:=[],kwarg:=none,defaults:=[]}
abbrev m_ (s:aE):List aE:=match s with
 | .FunctionDef _ _ b _ _ _ _ _ _ _=>b
 | _=>[]
abbrev jL (s:aE):Scope:=match s with
 | .FunctionDef _ _ _ _ _ _ sc _ _ _=>sc
 | _=>{ kind:=.function,names:=[],isGenerator:=false,isCoroutine:=false }
meta abbrev t_:PV:=λ_ _ _ _ _ _=>False
meta abbrev E0:XK:=λ_ _ _=>False
def Y8{X:Cx}:Passes t_ X E0:=λ_ _ _ _ _ _ _ h=>h.elim
structure Fun (K:au)(x qual:Str)(st:aE)(f:ak)(fd:FuncData):Prop where
 ex:∃(oc:af) (od:Option ak) (kV doc pm:af) (an:Option ak) (cdv ct:af) (osl:Array (bd)),
  fd=PySem.W.fnOf x qual (uc st) (m_ st) (jL st) .none kV doc pm an cdv ct/\K.lookup f=some ⟨oc,od,.func fd,osl⟩/\PySem.W.codeIn K cdv qual=true
 kp:PySem.W.keepIn K (.ref f)=true
section
variable {P:aj}{w:ah}{K:au}{mg:Str->bd}{base:aq}
def Fun.ok{x:Str}{st:aE}{f:ak}{N ps:ar}{k:Nat}{sp:Sp}(F:Fun K x qual st f fd)(S:FnScope N ps (jL st))(len:∀vs H Q E,sp vs H Q E->vs.length=ps.length)
  (hbody:∀(cdv:af) (A:az) (outer:List Env) (s:aA) (H:Hp) (vs:List V) (Q:VK) (E:XK),Room k (A.deeper (envOfC qual (jL st) s.heap.objs.size f cdv))->sp vs H Q E ->
   ∃t,Ah (vh t_ P w K mg base N qual (jL st) f cdv A outer s H E).ZE (m_ st) t/\t { nx:=λ_ H'=>Q .non H',rt:=Q } (start N vs) H):FnOk P w K mg base t_ (k+1) f fd ps sp:=by
 obtain⟨oc,od,kV,doc,pm,an,cdv,ct,osl,rfl,lk,hcd⟩:=F.ex;refine UM lk hcd S len λA outer s H vs Q E hr hsp=>?_;obtain⟨t,h,q⟩:=hbody cdv A outer s H vs Q E hr hsp;exact⟨t,h.ZE,q⟩
def Fun.binds{x:Str}{st:aE}{f:ak}{ps:ar}(F:Fun K x qual st f fd)
  (h:∀(kV doc pm:af) (an:Option ak) (cdv ct:af) (us:ba),us.length=ps.length->bindArgs (PySem.W.fnOf x qual (uc st) (m_ st) (jL st) .none kV doc pm an cdv ct) ⟨us,[]⟩=pure (ps.zip us)):Binds K fd ps []:=by
 obtain⟨oc,od,kV,doc,pm,an,cdv,ct,osl,rfl,lk,hcd⟩:=F.ex;exact .all (h kV doc pm an cdv ct)
def Vf{x:Str}{st:aE}{f:ak}{kV pm ct:af}(l:K.lookup f=some ⟨oc,od,.func (PySem.W.fnOf x qual (uc st) (m_ st) (jL st) .none kV doc pm an cdv ct),osl⟩)
  (c:PySem.W.codeIn K cdv qual=true) (k:PySem.W.keepIn K (.ref f)=true):Fun K x qual st f (PySem.W.fnOf x qual (uc st) (m_ st) (jL st) .none kV doc pm an cdv ct):=⟨⟨oc,od,kV,doc,pm,an,cdv,ct,osl,rfl,l,c⟩,k⟩
end
section
variable {X:Cx}
def pv(i:Nat){x:Str}(hN:X.N[i]?=some x:=by rfl)(hv:Zx X.env.scope x:=by first|exact Or.inl rfl|exact Or.inr (Or.inl rfl)|exact Or.inr (Or.inr rfl))(hd:(x == ("__debug__" : Str))=false:=by decide)
  (hcd:(x == ("__classdict__" : Str))=false:=by decide):PE X (.Name x pos) (Y3 i):=NL hN hv hd hcd
end
set_option maxHeartbeats 4000000
abbrev WM (σ:St):bp->Option V
 | some j=>(σ[j]?).getD none
 | none=>none
abbrev yu (env:Env):List (Str×NameKind)->List (Str×ak)->List (Str×ak)
 | [],cs=>cs
 | (n,k)::r,cs=>yu env r (if k == .free then(n,(env.cells.lookup n).getD 0)::cs else cs)
def Fy{scope:Scope}{env:Env}(h:∀y∈scope.names,y.2=.free->∃c,env.cells.lookup y.1=some c):closureFor scope env=pure (yu env scope.names []):=by
 have key:∀(l:List (Str×NameKind)) (cs:List (Str×ak)),(∀y∈l,y.2=.free->∃c,env.cells.lookup y.1=some c) ->
   (forIn l cs (λ(x:Str×NameKind) (r:List (Str×ak))=>(match x with
    | (name,kind)=>if (kind == NameKind.free)=true then(do let c <- cellOf env name;pure (ForInStep.yield ((name,c)::r)))else pure (ForInStep.yield r):Sem (ForInStep (List (Str×ak))))))=(pure (yu env l cs):Sem (List (Str×ak))):=by
  intro l
  induction l with
  | nil=>intro cs _;rfl
  | cons y r ih=>
   intro cs hl;obtain⟨n,k⟩:=y;rw[gH];by_cases hk:k=.free
   ·subst hk;obtain⟨c,hc⟩:=hl (n,.free) aM rfl;have e1:cellOf env n=pure c:=by
     unfold cellOf;rw[hc]
    dsimp[bQ,cI,e1,pure_bind];rw[ih _ (λz hz=>hl z (aN _ hz))];dsimp[yu,bQ,cI,hc,fK]
   ·have hb:(k == NameKind.free)=false:=by simpa using hk
    dsimp[hb,bz,bY,pure_bind];rw[ih _ (λz hz=>hl z (aN _ hz))];dsimp[yu,hb,bz,bY]
 have:=key scope.names [] h;exact(dz (λz=>z >>= λcs=>(pure cs:Sem (List (Str×ak)))) this).trans (pure_bind _ _)
theorem zu:∀{l:List (Str×NameKind)}{x:Str}{k:NameKind},l.lookup x=some k->(x,k)∈l
 | [],_,_,h=>nomatch h
 | (n,k')::r,x,k,h=>by
  rw[gq]at h
  cases hx:x == n with
  | true=>
   rw[hx]at h;have e:x=n:=by simpa using hx
   subst e
   cases h
   exact aM
  | false=>rw[hx]at h;exact aN _ (zu h)
theorem A9{env:Env}{x:Str}{c:ak}:∀{l:List (Str×NameKind)}{cs:List (Str×ak)},(∀y∈l,y.2=.free->∃c,env.cells.lookup y.1=some c)->(yu env l cs).lookup x=some c->env.cells.lookup x=some c\/cs.lookup x=some c
 | [],cs,_,h=>.inr h
 | (n,k)::r,cs,hl,h=>by
  have h':=A9 (l:=r) (λz hz=>hl z (aN _ hz)) h
  rcases h' with h'|h'
  ·exact .inl h'
  ·by_cases hk:k=.free
   ·subst hk;dsimp[bQ,cI]at h';obtain⟨c',hc⟩:=hl (n,.free) aM rfl;rw[hc,fK,gq]at h'
    cases hx:x == n with
    | true=>
     rw[hx]at h';have e:x=n:=by simpa using hx
     subst e;left;rw[hc];exact h'
    | false=>rw[hx]at h';exact .inr h'
   ·have hb:(k == NameKind.free)=false:=by simpa using hk
    dsimp[hb,bz,bY]at h';exact .inr h'
theorem A1{env:Env}{x:Str}:∀{l:List (Str×NameKind)}{cs:List (Str×ak)},(cs.lookup x).isSome=true->((yu env l cs).lookup x).isSome=true
 | [],cs,h=>h
 | (n,k)::r,cs,h=>by
  skip
  refine A1 (l:=r) ?_;by_cases hk:(k == NameKind.free)=true
  ·rw[aK hk,gq]
   cases hx:x == n with
   | true=>rfl
   | false=>exact h
  ·rw[aI hk];exact h
theorem yE{env:Env}{x:Str}:∀{l:List (Str×NameKind)}{cs:List (Str×ak)},(x,NameKind.free)∈l->((yu env l cs).lookup x).isSome=true
 | [],_,h=>nomatch h
 | (n,k)::r,cs,h=>by
  rcases bD.mp h with e|h
  ·cases e
   skip
   refine A1 (l:=r) ?_;rw[aK (by rfl),gq];simp
  ·exact yE (l:=r) h
abbrev nh (X:Cx)(scope:Scope)(N:ar)(C:ak)(s₀:aA)(H₀:Hp)(ex:bb):Cx where
 prog:=X.prog
 w:=X.w
 K:=X.K
 mg:=X.mg
 base:=X.base
 A:=X.A
 N:=N
 s₀:=s₀
 H₀:=H₀
 env:=compEnvC scope (yu X.env scope.names []) C X.env
 outer:=X.stack
 stack:=X.stack
 ex:=ex
 fn:=λ_=>false
 calm:=X.calm
 pn:=[]
 xe:=λ_ _=>False
structure CpScope (X:Cx)(scope:Scope)(N:ar)(cap:List (bp)):Prop where
 kind:scope.kind=.function
 nocell:∀y∈scope.names,y.2≠.cell
 nm:∀y∈scope.names,y.2=.local->scope.names.lookup y.1=some .local
 fr:∀y∈scope.names,y.2=.free->X.env.kindOf y.1=some .cell\/X.env.kindOf y.1=some .free
 rl:∀y,((relabel scope X.env).names.lookup y=some .cell\/(relabel scope X.env).names.lookup y=some .free)->(y,NameKind.free)∈scope.names
 len:cap.length=N.length
 nolf:∀x,(x,NameKind.free)∈scope.names->scope.names.lookup x≠some .local
 cp:∀(i j:Nat) (x:Str),N[i]?=some x->cap[i]?=some (some j)->X.N[j]?=some x/\(x,NameKind.free)∈scope.names
def Wg{X:Cx}{N:ar}{cap:List (bp)}{H:Hp}{s:aA}{fp:bb}{h₁:aq}{m:Str->bd}{tk:Nat}(S:CpScope X scope N cap)(I:Inv X pins σ H s)
  (hf:∀b∈fp,vZ X pins H b) (ho:∀b∈fp,∃o,s.heap.get? b=some o) (hn:h₁.Ns s.heap.objs.size m) (hk:∀b o,s.heap.get? b=some o->h₁.get? b=some o) :
  Inv (nh X scope N s.heap.objs.size s H fp) [] (cap.map (WM σ)) H { s with heap:=h₁,toks:=tk }:=by
 have hfree:∀y∈scope.names,y.2=.free->∃c,X.env.cells.lookup y.1=some c:=λy hy e=>I.ok.has _ (S.fr y hy e);have lk:∀x c,(yu X.env scope.names []).lookup x=some c->X.env.cells.lookup x=some c:=λx c e=>by
  rcases A9 hfree e with z|z
  ·exact z
  ·cases z
 have lt:∀b o,s.heap.get? b=some o->b≠s.heap.objs.size:=λb o e=>bE (bf e);refine⟨⟨I.ok.mod,?_,I.ok.glob,I.ok.blt,aQ _,?_,?_,?_,I.ok.hd,I.ok.frames,.inl rfl,?_,I.bs,bJ I.ok.bsz I.sz,?_,?_,I.stack,I.xT⟩,rfl,I.bare,Un.kept hk,?_,?_,I.hok.fresh (aQ _),?_,?_,I.hok.kept hk,?_⟩
 ·exact S.kind
 ·intro x y c e1 e2;exact I.ok.inj x y c (lk x c e1) (lk y c e2)
 ·intro x e;have hm:=S.rl x e;have:=yE (env:=X.env) (cs:=[]) hm;exact fj.mp this
 ·intro x c e _;exact absurd e (by simp[nh])
 ·intro b hb;obtain⟨o,e⟩:=ho b hb;refine⟨lt b o e,λx c e2=>(hf b hb).2.2.2.2.1 x c (lk x c e2)⟩
 ·intro b o e hb;obtain⟨_,_,_,h3,_⟩:=hf b hb
  rcases h3 with z|z
  ·exact I.ok.noex b o e z
  ·exact absurd (bK (bf (I.ok.bs b o e).1) z) (eE _)
 ·intro b hb hz;obtain⟨_,h1,h2,_⟩:=hf b hb
  rcases bD.mp (I.zF b hz)with z|z
  ·exact h1 z
  ·exact h2 z
 ·refine⟨m,hn,λi x v e1 e2 e3=>?_⟩;rw[aS]at e2
  cases hc:cap[i]? with
  | none=>rw[hc]at e2;cases e2
  | some oj=>
   rw[hc]at e2
   cases oj with
   | none=>cases e2
   | some j=>
    have e2':(σ[j]?).getD none=some v:=aW e2;obtain⟨hj,hm⟩:=S.cp i j x e1 hc;obtain⟨m0,hn0,hl0⟩:=I.loc;have hσ:σ[j]?=some (some v):=by
     cases h:σ[j]? with
     | none=>rw[h]at e2';cases e2'
     | some z=>rw[h,fK]at e2';rw[e2']
    have hkd:=S.fr (x,.free) hm rfl;have hv:Zx X.env.scope x:=.inr hkd;obtain⟨u,ru,lo⟩:=hl0 j x v hj hσ hv;refine⟨u,ru,?_⟩
    rcases lo with⟨lo,_⟩|⟨_,c,ec,ic⟩
    ·rcases hkd with z|z<;>(rw[z]at lo;cases lo)
    ·have h2:=yE (env:=X.env) (cs:=[]) hm;obtain⟨c',hc'⟩:=fj.mp h2;have:c'=c:=aW ((lk x c' hc').symm.trans ec);subst this;refine .inr ⟨?_,c',hc',?_⟩
     ·rcases e3 with z|z|z
      ·exfalso;have:(relabel scope X.env).names.lookup x=some .local:=z;have hloc:scope.names.lookup x=some .local:=by
        have hmem:∃k,(x,k)∈(relabel scope X.env).names/\k=.local:=by
         clear hc' h2;have:=zu this;exact⟨_,this,rfl⟩
        obtain⟨k,hk1,rfl⟩:=hmem;obtain⟨⟨n',k'⟩,hm1,hm2⟩:=bA.mp hk1;dsimp only at hm2;split at hm2
        ·cases hm2
        ·cases hm2
         exact S.nm (x,.local) hm1 rfl
       exact False.elim (S.nolf x hm hloc)
      ·exact .inl z
      ·exact .inr z
     ·obtain⟨o,ho',hd⟩:=ic;exact⟨o,hk _ _ ho',hd⟩
 ·intro x c e;obtain⟨v,o,ho',hd⟩:=I.cell x c (lk x c e);exact⟨v,o,hk _ _ ho',hd⟩
 ·intro x c e;exact I.freeC x c (lk x c e)
 ·intro p hp
  cases hp
 ·rw[aH,S.len];rfl
abbrev Vq (X:Cx)(ifs:List aC)(t:TT):Prop:=
 ∀(pins:bv) (s:aA) (σ:St) (H:Hp) (Q:Bool->Hp->Prop),Inv X pins σ H s->t σ H Q ->
  wpAny (model X.prog X.w) X.A (forIn ifs true λc r=>if r=true then do let ok <- isTrue c X.env (eval c X.env);pure (ForInStep.yield ok)else pure (ForInStep.yield r)) (TP X pins σ Q) X.xe s
abbrev aar:TT:=λ_ H Q=>Q true H
def Ss{X:Cx}:Vq X [] aar:=λ_ _ _ H _ I h=>wpAny_tests_nil ⟨H,I,h⟩
def Ru{X:Cx}{c:aC}{t:TT}(h:PT X c t):Vq X [c] t:=λpins s σ H Q I q=>wpAny_tests_one (h pins s σ H Q I q)
abbrev Xa (cap:List (bp))(g:TG)(tc:TT)(te:TE)(σ:St)(Q:VK)(J:It)(H1:Hp):Prop:=∀D,H1 D=none ->
 ∃W:Nat->Nat->St->Hp->Prop,(∃m,W 0 m (cap.map (WM σ)) (upd H1 D (.lst [])))/\∀i m σ' H',W i m σ' H' ->
  (J.stop i H'/\Q (.ref D) H')\/(J.go i H'/\∀x H2,J.yld i H' x H2->g x σ' H2 λσ3 H3=>tc σ3 H3 λb H4=>
   if b=true then te σ3 H4 λy H5=>∃ys,H5 D=some (.lst ys)/\ys.length<sizeLine/\∃m',m'<m/\W (i+1) m' σ3 (upd H5 D (.lst (ys++[y])))
   else ∃m',m'<m/\W (i+1) m' σ3 H4)
abbrev Y6 (cap:List (bp))(wi:TI)(g:TG)(tc:TT)(te:TE):TE:=λσ H Q=>wi σ H (Xa cap g tc te σ Q)
def Si{α:Type}{t:Sem α}{Q Q':α->aA->Prop}{A:az}{E:af->aA->Prop}(h:wpAny M A t Q (λ_ _=>False) s)(hQ:∀a s,Q a s->Q' a s):wpAny M A t Q' E s:=
 dh h hQ λ_ _ f=>f.elim
structure TurnG (ok:Cx->Prop)(P:aj)(w:ah)(K:au)(tg:aC)(J:It)(fp:bb)(it:ak)(tn:Nat->aq->Prop):Prop where
 obj:∀i h,tn i h->∀b∈fp,∃o,h.get? b=some o/\∀v,o.data≠.cell v
 keep:∀i h h',tn i h->(∀b∈fp,∀o,h.get? b=some o->h'.get? b=some o)->tn i h'
 item:∀(X:Cx),X.prog=P->X.w=w->X.K=K->ok X->∀(i:Nat) (pins:bv) (s:aA) (σ:St) (H:Hp) (E:af->aA->Prop),Inv X pins σ H s->(∀b∈fp,vZ X pins H b)->tn i s.heap->J.go i H ->
  wpAny (model P w) X.A (pyNext (.ref it)) (λr s1=>∃u,r=some u /\
   wpAny (model P w) X.A (letOwnedTupleGo tg (.ref it) u) (λ_ s2=>∃x H',Inv X pins σ H' s2/\RelV x u/\J.yld i H x H'/\tn (i+1) s2.heap/\∀b∈fp,H' b=none) E s1) E s
 done:∀(X:Cx),X.prog=P->X.w=w->X.K=K->ok X->∀(i:Nat) (pins:bv) (s:aA) (σ:St) (H:Hp) (E:af->aA->Prop),Inv X pins σ H s->(∀b∈fp,vZ X pins H b)->tn i s.heap->J.stop i H ->
  wpAny (model P w) X.A (pyNext (.ref it)) (λr s1=>r=none/\Inv X pins σ H s1) E s
 self:∀(A:az) (i:Nat) (s:aA) (Q:af->aA->Prop) (E:af->aA->Prop),tn i s.heap->Q (.ref it) s->wpAny (model P w) A (pyIter (.ref it)) Q E s
abbrev Z4 (ok:Cx->Prop)(X:Cx)(pins:bv)(σ:St)(tg:aC)(R:It->Hp->Prop)(itv:af)(s2:aA):Prop:=
 ∃(it:ak) (fp:bb) (tn:Nat->aq->Prop) (J:It) (H':Hp),itv=.ref it/\Inv X pins σ H' s2/\TurnG ok X.prog X.w X.K tg J fp it tn/\tn 0 s2.heap/\(∀b∈fp,vZ X pins H' b)/\R J H'
abbrev YM (ok:Cx->Prop)(X:Cx)(tg iter:aC)(wi:TI):Prop:=
 ∀(pins:bv) (s:aA) (σ:St) (H:Hp) (R:It->Hp->Prop),Inv X pins σ H s->wi σ H R ->
  wpAny (model X.prog X.w) X.A (eval iter X.env) (λv s1=>wpAny (model X.prog X.w) X.A (pyIter v) (Z4 ok X pins σ tg R) X.xe s1) X.xe s
def PI.g{X:Cx}{iter:aC}{wi:TI}(h:PI X tg iter wi):YM (λY=>Y.calm=true) X tg iter wi:=λpins s σ H R I q=>
 mL (h pins s σ H R I q) λv s1 h1=>mL h1 λitv s2 ⟨it,fp,tn,J,H',e,I',T,a,b,c⟩=>⟨it,fp,tn,J,H',e,I',⟨T.obj,T.keep,T.item,T.done,T.self⟩,a,b,c⟩
def Hf{ok:Cx->Prop}{X:Cx}{use:Option (af->Sem Unit)}{Q':af->aA->Prop}{iter:aC}{N:ar}{wi:TI}{g:TG}{tc:TT}{te:TE}(S:CpScope X scope N cap)(hok:∀C s₀ H₀ ex,(∀a o u,X.H₀ a=some (.frz o u)->H₀ a=some (.frz o u))->ok (nh X scope N C s₀ H₀ ex))(hi:YM ok X tg iter wi)
  (hg:∀C s₀ H₀ ex,PG (nh X scope N C s₀ H₀ ex) tg g) (ht:∀C s₀ H₀ ex,Vq (nh X scope N C s₀ H₀ ex) ifs tc) (he:∀C s₀ H₀ ex,PE (nh X scope N C s₀ H₀ ex) elt te)
  (hs:∀x,foldedSetIterable iter X.env x=pure x:=by intro _;rfl):∀(pins:bv) (s:aA) (σ:St) (H:Hp) (Q:VK),Inv X pins σ H s->Y6 cap wi g tc te σ H Q ->
  (∀(s6:aA) (C D:ak) (H5:Hp) (m:Str->bd),s6.heap.Ns C m->vZ X pins H5 C->(∀h',Heap.SameBut C s6.heap h'->Inv X pins σ H5 { s6 with heap:=h' })->Q (.ref D) H5->∀v,compPost (model X.prog X.w) X.A X.xe use Q' (.ref D) C (.ok v) s6) ->
  wpAny (model X.prog X.w) X.A (comprehension (.ListComp elt [⟨tg,iter,ifs,0⟩] scope pos) scope X.env (firstIterPos [⟨tg,iter,ifs,0⟩] pos) (newList []) (firstAsync [⟨tg,iter,ifs,0⟩]) (firstIter [⟨tg,iter,ifs,0⟩] X.env) use) Q' X.xe s:=by
 intro pins s σ H Q I h hfin;have hfree:∀y∈scope.names,y.2=.free->∃c,X.env.cells.lookup y.1=some c:=λy hy e=>I.ok.has _ (S.fr y hy e);refine wpAny_comprehension_free (use:=use) rfl hs (Fy hfree) S.kind S.nm (mL (hi pins s σ H _ I h) λxv s1 h1=>mL h1 λitv s2 h2=>?_);obtain⟨it,fp,tn,J,H2,rfl,I2,T,st2,f2,h2⟩:=h2;refine cg (wpAny_newFunctionEnv S.nocell (by intro y hy;simp at hy) (λh₁ hns₁ hsb₁=>?_) S.kind);obtain⟨W,⟨m0,w0⟩,turn⟩:=h2 s2.heap.objs.size I2.fresh;dsimp only at hns₁ hsb₁ ⊢;have I3:Inv X pins σ (upd H2 s2.heap.objs.size (.lst [])) { s2 with heap:=s2.heap.push {}}:=I2.Vp (t':=s2.toks) (its:=[]) .nil (bO _);have hfp:∀b∈fp,∃o,s2.heap.get? b=some o:=λb hb=>by
  obtain⟨o,e,_⟩:=T.obj 0 _ st2 b hb;exact⟨o,e⟩
 have neD:∀b∈fp,b≠s2.heap.objs.size:=λb hb=>by
  obtain⟨o,e⟩:=hfp b hb;exact bE (bf e)
 have f3:∀b∈fp,vZ X pins (upd H2 s2.heap.objs.size (.lst [])) b:=λb hb=>⟨by rw[jM (neD b hb)];exact(f2 b hb).1,(f2 b hb).2⟩;have hDC:s2.heap.objs.size≠(s2.heap.push {}).objs.size:=by rw[eK];exact bE (fL _)
 have old:∀b o,(s2.heap.push {}).get? b=some o->h₁.get? b=some o:=λb o e=>hsb₁.extBut b o (bE (bf e)) (aO _ e);have I4:=Wg (tk:=s2.toks+([]:List (Str×af)).length) (fp:=fp) S I3 f3 (λb hb=>by
  obtain⟨o,e⟩:=hfp b hb;exact⟨o,aO _ e⟩) hns₁ old
 have st4:tn 0 h₁:=T.keep _ _ _ st2 λb hb o e=>old b o (aO _ e);have hc:=hok (s2.heap.push {}).objs.size { s2 with heap:=s2.heap.push {}} (upd H2 s2.heap.objs.size (.lst [])) fp λa o u e=>by
  have z:=I2.base.frzs a o u e;rw[jM (λq=>by rw[q,I2.fresh]at z;cases z)];exact z
 have stat:∀{H':Hp},(∀b∈fp,H' b=none)->∀b∈fp,vZ (nh X scope N (s2.heap.push {}).objs.size { s2 with heap:=s2.heap.push {}} (upd H2 s2.heap.objs.size (.lst [])) fp) [] H' b:=λhn b hb=>by
  have ok:=I4.ok;refine⟨hn b hb,(ok.exf b hb).1,ok.exfs b hb,.inl hb,λx c e=>(ok.exf b hb).2 x c e,λp hp=>nomatch hp⟩
 have loop:∀s4:aA,s4={ s2 with heap:=h₁,toks:=s2.toks+([]:List (Str×af)).length } ->
   codeAny (model X.prog X.w) X.A (.compLoop (.ListComp elt [⟨tg,iter,ifs,0⟩] scope pos) 0 (.ref it) (.ref s2.heap.objs.size) (compEnvC scope (yu X.env scope.names []) (s2.heap.push {}).objs.size X.env))
    (compPost (model X.prog X.w) X.A X.xe use Q' (.ref s2.heap.objs.size) (s2.heap.push {}).objs.size) s4:=by
  rintro s4 rfl;refine codeAny_loop rfl (λn s'=>∃i σ' H',Inv (nh X scope N (s2.heap.push {}).objs.size { s2 with heap:=s2.heap.push {}} (upd H2 s2.heap.objs.size (.lst [])) fp) [] σ' H' s'/\tn i s'.heap/\(∀b∈fp,H' b=none)/\W i n σ' H') (λn s5 hI=>?_) m0 ⟨0,_,_,I4,st4,λb hb=>(f3 b hb).1,w0⟩;obtain⟨i,σ5,H5,I5,st5,fr5,w5⟩:=hI
  skip
  refine wpAny_noted ?_;rw[compTurn_list];refine aF (wpAny_standAt (aF ?_))
  rcases turn i n σ5 H5 w5 with⟨stop,q⟩|⟨go,step⟩
  ·refine mL (T.done (nh X scope N (s2.heap.push {}).objs.size { s2 with heap:=s2.heap.push {}} (upd H2 s2.heap.objs.size (.lst [])) fp) rfl rfl rfl hc i [] s5 σ5 H5 _ I5 (stat fr5) st5 stop) λr s6 h9=>?_;obtain⟨hr,I6⟩:=h9;subst hr;obtain⟨m6,hn6,_⟩:=I6.loc;refine aP (hfin s6 _ _ H5 m6 hn6 (I3.DB (aQ _) I6.free) (λh' sb=>?_) q _);have u6:=I6.base;have nC:∀b o,(s2.heap.push {}).get? b=some o->b≠(s2.heap.push {}).objs.size:=λb o e=>bE (bf e);refine I3.Uy (ch:=fp) I6.os ⟨λb o e n hb hx=>?_,λb o e n hb hx=>?_,λb o e n hx=>?_,λb o e hx=>?_,u6.tups,u6.frzs,u6.tbls⟩ ?_ I6.bare ?_
   ·exact sb.extBut b o (nC b o e) (u6.keep b o e n hb hx)
   ·obtain⟨sl,z⟩:=u6.slot b o e n hb hx;exact⟨sl,sb.extBut b _ (nC b o e) z⟩
   ·exact u6.free b o e n hx
   ·obtain⟨o',z⟩:=u6.there b o e hx;exact⟨o',sb.extBut b _ (nC b o e) z⟩
   ·intro b o e;have hb:∀c v,H5 c=some v->c≠(s2.heap.push {}).objs.size:=λc v e z=>by
     rw[z]at e;have:=I6.free;rw[show H5 (s2.heap.push {}).objs.size=none from this]at e
     cases e
    refine(I6.hok b o e).stay (λc v hc q=>sb.extBut c v ?_ q) (λ_ q=>q) λ_ _ q=>q
    rcases hc with z|z
    ·rw[z];exact hb b o e
    ·exact hb c _ z
   ·intro b hb;obtain⟨_,z1,_,z3,z4,z5⟩:=f3 b hb;exact⟨z3,z1,z4,z5⟩
  ·refine mL (T.item (nh X scope N (s2.heap.push {}).objs.size { s2 with heap:=s2.heap.push {}} (upd H2 s2.heap.objs.size (.lst [])) fp) rfl rfl rfl hc i [] s5 σ5 H5 _ I5 (stat fr5) st5 go) λr s6 h9=>?_;obtain⟨u,hr,h6⟩:=h9;subst hr;refine aF (mL h6 λ_ s7 ⟨x,H7,I7,r7,y7,st7,fr7⟩=>?_);have I7':=I7.pinned (stat fr7) (T.obj _ _ st7);refine aF (Si (hg _ _ _ fp _ s7 σ5 H7 x u _ I7' r7 (step x H7 y7)) λ_ s8 ⟨σ8,H8,I8,q8⟩=>?_);refine aF (Si (ht _ _ _ fp _ s8 σ8 H8 _ I8 q8) λok s9 ⟨H9,I9,q9⟩=>?_);have again:∀{s10:aA} {H10:Hp},Inv (nh X scope N (s2.heap.push {}).objs.size { s2 with heap:=s2.heap.push {}} (upd H2 s2.heap.objs.size (.lst [])) fp) ([]++zj fp s7.heap) σ8 H10 s10->(∃m',m'<n/\W (i+1) m' σ8 H10) ->
     ∃m,m<n/\∃i σ' H',Inv (nh X scope N (s2.heap.push {}).objs.size { s2 with heap:=s2.heap.push {}} (upd H2 s2.heap.objs.size (.lst [])) fp) [] σ' H' s10/\tn i s10.heap/\(∀b∈fp,H' b=none)/\W i m σ' H':=λ{s10 H10} I10 h9=>by
    obtain⟨m',hm,w10⟩:=h9;refine⟨m',hm,i+1,σ8,H10,I10.sV,T.keep _ _ _ st7 λb hb o e=>(I10.pin (b,o) (bP _ (bP _ (pK hb e)))).1,λb hb=>?_,w10⟩;obtain⟨o,e,d⟩:=T.obj _ _ st7 b hb;exact(I10.pin (b,o) (bP _ (bP _ (pK hb e)))).2.1
   cases ok with
   | false=>
    rw[aI bG]at q9;exact aP ⟨rfl,again I9 q9⟩
   | true=>
    rw[aK rfl]at q9;refine aF (aF (Si (he _ _ _ fp _ s9 σ8 H9 _ I9 q9) λy s10 ⟨v10,H10,I10,r10,ys,hD,hz,w10⟩=>?_));refine aF (Si (Bm _ s10 σ8 H10 (.ref s2.heap.objs.size) [v10] _ [y] (λ_ H'=>H'=upd H10 s2.heap.objs.size (.lst (ys++[v10]))) I10 rfl (.cons r10 .nil) ⟨_,ys,v10,rfl,rfl,hD,hz,rfl⟩) λ_ s11 ⟨_,H11,I11,_,e11⟩=>?_);subst e11;exact aP (aP ⟨rfl,again I11 w10⟩)
 exact codeAny_compStart_list (loop _ rfl) (T.self _ 0 _ _ _ st4 (loop _ rfl))
def NR{ok:Cx->Prop}{X:Cx}{iter:aC}{N:ar}{wi:TI}{g:TG}{tc:TT}{te:TE}(S:CpScope X scope N cap)(hok:∀C s₀ H₀ ex,(∀a o u,X.H₀ a=some (.frz o u)->H₀ a=some (.frz o u))->ok (nh X scope N C s₀ H₀ ex))(hi:YM ok X tg iter wi)
  (hg:∀C s₀ H₀ ex,PG (nh X scope N C s₀ H₀ ex) tg g) (ht:∀C s₀ H₀ ex,Vq (nh X scope N C s₀ H₀ ex) ifs tc) (he:∀C s₀ H₀ ex,PE (nh X scope N C s₀ H₀ ex) elt te)
  (hs:∀x,foldedSetIterable iter X.env x=pure x:=by intro _;rfl):PE X (.ListComp elt [⟨tg,iter,ifs,0⟩] scope pos) (Y6 cap wi g tc te):=by
 kt_k;rw[eval_ListComp];exact Hf (use:=none) (Q':=EP X pins σ Q) S hok hi hg ht he hs pins s σ H Q I h λs6 C D H5 m hn fk inv q v=>⟨m,hn,λh' sb=>⟨.ref D,H5,inv h' sb,rfl,q⟩⟩
def YI{X:Cx}{iter:aC}{N:ar}{wi:TI}{g:TG}{tc:TT}{te:TE}(hc:X.calm=true)(S:CpScope X scope N cap)(hi:PI X tg iter wi)
  (hg:∀C s₀ H₀ ex,PG (nh X scope N C s₀ H₀ ex) tg g) (ht:∀C s₀ H₀ ex,Vq (nh X scope N C s₀ H₀ ex) ifs tc) (he:∀C s₀ H₀ ex,PE (nh X scope N C s₀ H₀ ex) elt te)
  (hs:∀x,foldedSetIterable iter X.env x=pure x:=by intro _;rfl):PE X (.ListComp elt [⟨tg,iter,ifs,0⟩] scope pos) (Y6 cap wi g tc te):=
 NR S (λ_ _ _ _ _=>hc) hi.g hg ht he hs
section
variable {X:Cx}
abbrev Qw:List V->List V->Bool
 | [],[]=>true
 | x::xs,y::ys=>RH x y && Qw xs ys
 | _,_=>false
def Wf{xs ys:List V}:∀(n:Nat),n=xs.length->n=ys.length->(List.range n).all (λj=>match xs[j]?,ys[j]? with|some x,some y=>RH x y|_,_=>true)=Qw xs ys:=by
 intro n
 induction n generalizing xs ys with
 | zero=>
  intro h1 h2
  cases xs with
  | nil=>cases ys with
   | nil=>rfl
   | cons y ys=>cases h2
  | cons x xs=>cases h1
 | succ n ih=>
  intro h1 h2
  cases xs with
  | nil=>cases h1
  | cons x xs=>
   cases ys with
   | nil=>cases h2
   | cons y ys=>
    rw[gZ,all_cons,g_];have:=ih (xs:=xs) (ys:=ys) (Nat.succ.inj h1) (Nat.succ.inj h2);show(RH x y && _)=(RH x y && Qw xs ys);rw[<- this];rfl
def SO{xs ys:List V}(h:xs.length≠ys.length):Qw xs ys=false:=by
 induction xs generalizing ys with
 | nil=>cases ys with
  | nil=>exact absurd rfl h
  | cons y ys=>rfl
 | cons x xs ih=>cases ys with
  | nil=>rfl
  | cons y ys=>
   show(RH x y && Qw xs ys)=false;rw[ih (λe=>h (by simp[e])),iV]
theorem C4:∀(ns ms:ag),Qw (ns.map V.int) (ms.map V.int)=decide (ns=ms)
 | [],[]=>rfl
 | [],_::_=>by simp[Qw]
 | _::_,[]=>by simp[Qw]
 | n::ns,m::ms=>by
  show(RH (.int n) (.int m) && Qw (ns.map V.int) (ms.map V.int))=_;rw[C4 ns ms];show((n == m) && decide (ns=ms))=_;by_cases h1:n=m<;>by_cases h2:ns=ms<;>simp[h1,h2]
abbrev ZN (xs ys:List V)(j:Nat):Bool:=match xs[j]?,ys[j]? with|some x,some y=>RH x y|_,_=>true
def OF{A:az}{xs ys:List V}{us ws:ba}(rx:Vals xs us)(ry:Vals ys ws)(fx:xs.all yT=true)(fy:ys.all yT=true) :
  ∀j (h1:j<us.toArray.size) (h2:j<ws.toArray.size),SeqAt.EqAt A s us.toArray[j] ws.toArray[j] (ZN xs ys j):=by
 intro j h1 h2;have hx:j<xs.length:=by rw[rx.length];simpa using h1
 have hy:j<ys.length:=by rw[ry.length];simpa using h2
 have e1:xs[j]?=some xs[j]:=aG hx;have e2:ys[j]?=some ys[j]:=aG hy;obtain⟨u,eu,ru⟩:=rx.get e1;obtain⟨w,ew,rw'⟩:=ry.get e2;have fu:yT xs[j]=true:=cZ.mp fx _ (dI hx);have fw:yT ys[j]=true:=cZ.mp fy _ (dI hy);have a1:us.toArray[j]=u:=by
  have:us[j]?=some us.toArray[j]:=by simp at h1;simp[h1]
  rw[eu]at this;exact(aW this).symm
 have a2:ws.toArray[j]=w:=by
  have:ws[j]?=some ws.toArray[j]:=by simp at h2;simp[h2]
  rw[ew]at this;exact(aW this).symm
 rw[a1,a2];have e3:ZN xs ys j=RH xs[j] ys[j]:=by unfold ZN;rw[e1,e2]
 rw[e3];exact Xl ru rw' fu fw
def By:kg X (.type "range") (λxs H Q=>∃i j,xs=[.int i,.int j]/\∀p,H p=none->Q (.ref p) (upd H p (.rng i j))):=by
 k_ne;obtain⟨i,j,rfl,q⟩:=h;obtain⟨u,w',rfl,⟨t,rfl⟩,⟨t',rfl⟩⟩:=vals2 r;refine call_range_2 ⟨.ref s.heap.objs.size,_,I.laid (o:=.rng i j) (λb o e=>aO _ e) (aQ _) ?_,rfl,q _ I.fresh⟩;exact⟨t,t',s.toks,bB _ rfl⟩
abbrev kP (i j:Int):ag:=(List.range (j-i).toNat).map λk:Nat=>i+(k:Int)
def pX(i j:Int):(kP i j).length=(j-i).toNat:=by unfold kP;rw[aH,cE]
def zA{i:Int}{n:Nat}{acc:Array af}(h:ItemsOf (λk v=>∃t,v=Value.int (i+(k:Int) * 1) t) acc n):Vals (((List.range n).map λk:Nat=>i+(k:Int)).map V.int) acc.toList:=by
 obtain⟨hs,hv⟩:=h;have gen:∀(l:ba) (b:Nat),(∀j v,l[j]?=some v->∃t,v=Value.int (i+((b+j:Nat):Int)) t)->Vals (((List.range' b l.length).map λk:Nat=>i+(k:Int)).map V.int) l:=by
  intro l
  induction l with
  | nil=>intro b _;exact .nil
  | cons v l ih=>
   intro b hb;rw[bC,List.range'_succ,bF,bF];refine .cons ?_ ?_
   ·obtain⟨t,e⟩:=hb 0 v rfl;exact⟨t,by rw[e];simp⟩
   ·refine ih (b+1) λj w hw=>?_;obtain⟨t,e⟩:=hb (j+1) w hw;exact⟨t,by rw[e,show b+(j+1)=b+1+j by lia]⟩
 have:=gen acc.toList 0 λj v hj=>by
  obtain⟨t,e⟩:=hv j v (by simpa using hj);exact⟨t,by rw[e,cW,mul_one]⟩
 rw[dF,hs,<- gb]at this;exact this
def OU{i j:Int}:Builtin.Range.rangeSize i j 1=(((j-i).toNat:Nat):Int):=by rw[rangeSize_one];split<;>omega
def z8(hc:X.calm=true):kg X (.type "list") (λxs H Q=>∃p i j,xs=[.ref p]/\H p=some (.rng i j)/\(-(2 ^ 62)<=i/\i<2 ^ 62/\-(2 ^ 62)<=j/\j<2 ^ 62)/\(j-i).toNat<=1000/\∀l,H l=none->Q (.ref l) (upd H l (.lst ((kP i j).map V.int)))):=by
 k_ne;obtain⟨p,i,j,rfl,hp,⟨b1,b2,b3,b4⟩,hn,q⟩:=h;kcj_m
 cases rx
 obtain⟨t,u',v,e⟩:=I.hok p _ hp;refine call_list_range (n:=(j-i).toNat) (I.ok.hd hc) e (small_one b1 b2 b3 b4) OU () λh' tk acc' c' hk hS hacc=>?_;refine⟨.ref s.heap.objs.size,_,I.laid (o:=.lst ((kP i j).map V.int)) hk (aQ _) ⟨?_,acc'.toList,c',zA hacc,by rw[hS]⟩,rfl,q _ I.fresh⟩;rw[aH,pX,eF];lia
end
section
variable {X:Cx}
def DQ{prog:aj}{w:ah}{A:az}{E:af->aA->Prop}{s:aA}{Q:ba->aA->Prop}{r:ak}{a b c:Int}{t v:Tok}{n:Nat}(hh:A.handled=none)(hr:IsRange s.heap r a b c t u v)(hsmall:Builtin.Range.small a b c=true)
  (hn:Builtin.Range.rangeSize a b c=n) (hlen:n<=2 ^ 24)
  (hQ:∀h' tk (acc':Array af),(∀b o,s.heap.get? b=some o->h'.get? b=some o)->ItemsOf (λi v=>∃t,v=.int (a+i * c) t) acc' n->Q acc'.toList { s with heap:=h',toks:=tk }) :
  wpAny (model prog w) A (collect (.ref r)) Q E s:=by
 unfold collect;refine aF (wpAny_runValue (gI F.entry_proto_collect ?_));rw[gc F.plain_proto_collect _]
 skip
 refine aF (cg ?_);refine aP ⟨plainId_quiet F.plain_list_iadd _,gI F.entry_list_iadd ?_⟩;rw[gc F.plain_list_iadd _]
 skip
 have hS:(s.heap.push {}).get? s.heap.objs.size=some { cls:=.type "list",data:=.seq #[] 0 }:=bB _ rfl;have fin':∀(h':aq) (tk:Nat) (acc':Array af) (c':Nat),(∀b o,b≠s.heap.objs.size->(s.heap.push {}).get? b=some o->h'.get? b=some o) ->
   h'.get? s.heap.objs.size=some { cls:=.type "list",dict:=none,data:=.seq acc' c',slots:=#[]}->ItemsOf (λi v=>∃t,v=.int (a+i * c) t) acc' n ->
   wpAny (model prog w) A (match Value.ref s.heap.objs.size with
   | Value.ref a=>do
    match (<- load a).data with
     | Data.seq xs _=>pure xs.toList
     | _=>unsupported "internal:collect"
   | _=>unsupported "internal:collect") Q E { s with heap:=h',toks:=tk }:=by
  intro h' tk acc' c' hk hS' hacc
  skip
  refine aF (wpAny_load hS' ?_);refine aP ?_;exact hQ h' tk acc' (λb o e=>hk b o (bE (bf e)) (aO _ e)) hacc
 refine dh (wpAny_extend_range (A:=A) (R:=λrr s'=>rr=.ok (.ret (.ref s.heap.objs.size))/\∃h' tk acc' c',s'={ s with heap:=h',toks:=tk }/\(∀b o,b≠s.heap.objs.size->(s.heap.push {}).get? b=some o->h'.get? b=some o) /\
   h'.get? s.heap.objs.size=some { cls:=.type "list",dict:=none,data:=.seq acc' c',slots:=#[]}/\ItemsOf (λi v=>∃t,v=.int (a+i * c) t) acc' n)
  (s:={ s with heap:=s.heap.push {}}) hh (aO _ hr) hsmall hn hlen s.heap.objs.size (.ref s.heap.objs.size) 0 hS
  (λh' tk acc' c' hk hS' hacc=>⟨rfl,h',tk,acc',c',rfl,hk,hS',hacc⟩)) (λfin s' h=>?_) (λe s' h=>?_)
 ·cases fin with
  | done f=>
   obtain⟨e,h',tk,acc',c',rfl,hk,hS',hacc⟩:=h
   cases e
   exact fin' h' tk acc' c' hk hS' hacc
  | again c'=>exact⟨h.1,iR h.2 λr s'' hr=>by
    obtain⟨rfl,h',tk,acc',c',rfl,hk,hS',hacc⟩:=hr;exact fin' h' tk acc' c' hk hS' hacc⟩
 ·exact absurd h.1 (by simp)
def uq(l:ak){a b:Int}{t v:Tok}{n:Nat}(hsmall:Builtin.Range.small a b 1=true)
  (hn:Builtin.Range.rangeSize a b 1=n) (hlen:n<=1000) :
  Meets (Builtin.«tuple.__new__» ⟨[.type "tuple",.ref l],[]⟩)
   (λA R s=>A.handled=none/\IsRange s.heap l a b 1 t u v/\∀(h':aq) (tk:Nat) (acc':Array af),(∀b o',s.heap.get? b=some o'->h'.get? b=some o')->ItemsOf (λi v=>∃t,v=.int (a+i * 1) t) acc' n->R (.ok (.ret (.ref h'.objs.size))) { s with heap:=h'.push { cls:=.type "tuple",data:=.seq acc' },toks:=tk }):=
 .of_wp λprog w A R s h=>by
  obtain⟨hp,g,d,tk,os⟩:=s;obtain⟨hh,ht,h⟩:=h;have hsub:=sub_tuple_self;have hinit:=init_tuple_lookup;have hmh:=madeHere_tuple;have hT:Shared.TypeIs ⟨hp,g,d,tk,os⟩ (.ref l) "range" := ⟨_,ht,rfl⟩;have hh':A.in1.handled=none:=hh
  wp_walk using dN ht,gp hT,DQ (A:=A.in1) hh' ht hsmall hn (by omega)
  intro h' tk' acc' hk hacc;show wpAny _ _ (Builtin.Tuple.tupleExact acc'.toList.toArray >>= λv=>ret v) _ _ _;unfold Builtin.Tuple.tupleExact;have e:acc'.toList.toArray=acc':=by simp
  refine aF (cg ?_ (by show acc'.toList.toArray.size<=sizeLine;rw[e,hacc.1,eF];omega));refine aP ⟨_,rfl,?_⟩;rw[e];exact h h' tk' acc' hk hacc
def zJ(hc:X.calm=true):kg X (.type "tuple") (λxs H Q=>∃p i j,xs=[.ref p]/\H p=some (.rng i j)/\(-(2 ^ 62)<=i/\i<2 ^ 62/\-(2 ^ 62)<=j/\j<2 ^ 62)/\(j-i).toNat<=1000/\∀l,H l=none->Q (.ref l) (upd H l (.tup ((kP i j).map V.int)))):=by
 k_ne;obtain⟨p,i,j,rfl,hp,⟨b1,b2,b3,b4⟩,hn,q⟩:=h;kcj_m
 cases rx
 obtain⟨t,u',v,e⟩:=I.hok p _ hp;refine callType_new F.called_tuple ⋯ (F.typeCall_tuple_1 _) (F.newCall_tuple_1 _) (λobj=>F.args_object_init_2 obj _) F.entry_tuple_new
  (uq (n:=(j-i).toNat) p (small_one b1 b2 b3 b4) OU hn) ⟨I.ok.hd hc,e,λh' tk acc' hk hacc=>⟨⟨_,bB _ rfl,rfl⟩,?_⟩⟩
 have I1:Inv X pins σ H { s with heap:=h',toks:=tk }:=I.kept hk;refine⟨.ref h'.objs.size,_,I1.laid (t':=tk) (o:=.tup ((kP i j).map V.int)) (λb o e=>aO _ e) (aQ _) ⟨?_,acc'.toList,zA hacc,?_⟩,rfl,q _ (I1.hok.fresh (aQ _))⟩
 ·rw[aH,pX,eF];lia
 ·have e:acc'.toList.toArray=acc':=by simp
  rw[e];exact oQ.new _ _
def C2{c:String}:kg X (.builtin "isinstance") (λxs H Q=>∃x t b,xs=[x,.ty c]/\TyOf X.K H x t/\PySem.W.kitOne X.K t (.type c)=some b/\Q (.bl b) H):=by
 k_ne;obtain⟨x,t,b,rfl,ty,e,q⟩:=h;obtain⟨u,w',rfl,rx,rc⟩:=vals2 r
 cases rc
 exact KJ I rx ty e λtk=>⟨.bl b,H,I.tok tk,rfl,q⟩
abbrev Xu (K:au):R2:=λx y H Q=>∃a b ys,x=.ref a/\y=.ref b/\mO K H a []/\mO K H b ys/\Q (.ref b) H
def Qa:oE X (binaryOp .Add) (Xu X.K):=by
 gp_on;obtain⟨a,b,ys,rfl,rfl,h1,h2,q⟩:=h
 cases rx
 cases ry
 obtain⟨us,r1,p1,_⟩:=I.tuple h1;obtain⟨ws,r2,p2,_⟩:=I.tuple h2
 cases r1
 obtain⟨⟨cls,dd,data,sl⟩,ho,hc,n,hd⟩:=id p1;obtain⟨⟨cls2,dd2,data2,sl2⟩,ho2,hc2,n2,hd2⟩:=id p2;simp only at hc hd hc2 hd2;subst hc hd hc2 hd2;exact concat_meets ⟨_,ho,rfl⟩ ⟨_,ho2,rfl⟩ noFill_tuple_add seq_tuple_add gW gS (gA _ _)
   (tuple_addW0 a b _ ws.toArray n n2 dd dd2 sl sl2 (by simp)) ⟨ho,ho2,⟨.ref b,H,I,rfl,q⟩⟩
end
def nJ:bootBuiltins "len" = some (.builtin "len"):=by decide +kernel
def XD:bootBuiltins "abs" = some (.builtin "abs"):=by decide +kernel
def Wn:bootBuiltins "max" = some (.builtin "max"):=by decide +kernel
def W3:bootBuiltins "min" = some (.builtin "min"):=by decide +kernel
def ud:bootBuiltins "sorted" = some (.builtin "sorted"):=by decide +kernel
def qG:bootBuiltins "isinstance" = some (.builtin "isinstance"):=by decide +kernel
def Qd:bootBuiltins "int" = some (.type "int"):=by decide +kernel
def QJ:bootBuiltins "bool" = some (.type "bool"):=by decide +kernel
def xS:bootBuiltins "list" = some (.type "list"):=by decide +kernel
def rj:bootBuiltins "tuple" = some (.type "tuple"):=by decide +kernel
def vM:bootBuiltins "range" = some (.type "range"):=by decide +kernel
structure Blt (mg:Str->bd):Prop where
 len:mg "len" = none
 abs:mg "abs" = none
 all:mg "all" = none
 any:mg "any" = none
 max:mg "max" = none
 min:mg "min" = none
 sorted:mg "sorted" = none
 isinstance:mg "isinstance" = none
 int:mg "int" = none
 bool:mg "bool" = none
 str:mg "str" = none
 list:mg "list" = none
 tuple:mg "tuple" = none
 range:mg "range" = none
def SW:∀{a b:ag},a.Perm b->a.Pairwise (·<=·)->b.Pairwise (·<=·)->a=b:=λp ha hb=>
 dO (λx y _ _ h1 h2=>Int.le_antisymm h1 h2) ha hb p
def GU(i j:Int):(kP i j).Pairwise (·<=·):=by
 unfold kP;rw[cH];exact List.pairwise_lt_range.imp λh=>()
def pU(i j:Int):(kP i j).Nodup:=by
 unfold kP;rw[List.Nodup,cH];exact List.pairwise_lt_range.imp λh=>()
def pN{i j k:Int}:k∈kP i j ↔ i<=k/\k<j:=by
 unfold kP;rw[bA];constructor
 ·rintro⟨a,ha,rfl⟩;have:=cA.mp ha
  lia
 ·rintro⟨h1,h2⟩;exact⟨(k-i).toNat,cA.mpr (),()⟩
theorem xC:∀{l m:ag},l.Nodup->(∀x∈l,x∈m)->m.length<=l.length->l.Perm m
 | [],m,_,_,h=>by
  have:m=[]:=fM.mp (Nat.le_zero.mp h);rw[this]
 | a::l,m,nd,hs,hl=>by
  have ha:a∈m:=hs a aM;have nd':=cM.mp nd;have pm:m.Perm (a::m.erase a):=List.perm_cons_erase ha;have ih:=xC (l:=l) (m:=m.erase a) nd'.2 (λx hx=>by
   have hxa:x≠a:=λe=>nd'.1 (e ▸ hx);exact(List.mem_erase_of_ne hxa).mpr (hs x (aN _ hx))) (by
   rw[List.length_erase_of_mem ha];dsimp[bC]at hl
   lia)
  exact(List.Perm.cons a ih).trans pm.symm
abbrev Kn (P:aj)(w:ah)(K:au)(mg:Str->bd)(base:aq)(k:Nat)(x:Str)(ps:ar)(sp:Sp):Prop:=
 ∃(f:ak) (fd:FuncData),FnOk P w K mg base t_ k f fd ps sp/\mg x=some (.ref f)/\PySem.W.keepIn K (.ref f)=true/\Binds K fd ps []
def Yr{X:Cx}{k:Nat}{x:Str}{sp:Sp}{t:TA}{p:Pos}(G:Kn X.prog X.w X.K X.mg X.base k x ps sp)(hr:Room k X.A)(ha:PA X (e::es) t)(hg:Gl X x:=by rfl)
  (hdb:(x == ("__debug__" : Str))=false:=by decide) (hs:starEach (e::es) X.env=(false,eval e X.env)::starEach es X.env:=by rfl) (hplain:(backTo pos (starEach es X.env)).any (·.1)=false:=by rfl) :
  PE X (.Call (.Name x p) (e::es) [] pos) (Qh sp [] E0 t):=by
 obtain⟨f,fd,F,hm,hk,hb⟩:=G;exact II F hr hg hm hk hb .nil Y8 ha hdb hs hplain
abbrev zk (XN fs:ar):ar->List (bp)->Prop
 | [],[]=>True
 | _::N,none::c=>zk XN fs N c
 | x::N,some j::c=>XN[j]?=some x/\x∈fs/\zk XN fs N c
 | _,_=>False
theorem zk.len{fs:ar}:∀{N:ar}{c:List (bp)},zk XN fs N c->c.length=N.length
 | [],[],_=>rfl
 | _::N,none::c,h=>dz (·+1) (zk.len (N:=N) (c:=c) h)
 | _::N,some j::c,h=>dz (·+1) (zk.len (N:=N) (c:=c) h.2.2)
 | [],_::_,h=>h.elim
 | _::_,[],h=>h.elim
theorem zk.cp{fs:ar}:∀{N:ar}{c:List (bp)},zk XN fs N c->∀(i j:Nat) (x:Str),N[i]?=some x->c[i]?=some (some j)->XN[j]?=some x/\x∈fs
 | [],[],_,i,j,x,h1,_=>by simp at h1
 | y::N,none::c,h,i,j,x,h1,h2=>by
  cases i with
  | zero=>simp at h2
  | succ i=>exact zk.cp (N:=N) (c:=c) h i j x (by simpa using h1) (by simpa using h2)
 | y::N,some k::c,h,i,j,x,h1,h2=>by
  cases i with
  | zero=>
   simp at h1 h2;subst h1 h2;exact⟨h.1,h.2.1⟩
  | succ i=>exact zk.cp (N:=N) (c:=c) h.2.2 i j x (by simpa using h1) (by simpa using h2)
 | [],_::_,h,_,_,_,_,_=>h.elim
 | _::_,[],h,_,_,_,_,_=>h.elim
def xm{X:Cx}{scope:Scope}{N:ar}(fs:ar)(kind:scope.kind=.function)(nocell:∀y∈scope.names,y.2≠.cell)(nm:∀y∈scope.names,y.2=.local->scope.names.lookup y.1=some .local)
  (nolf:∀y∈scope.names,y.2=.free->scope.names.lookup y.1≠some .local) (hf:∀y∈scope.names,y.2=.free->y.1∈fs) (hfs:∀x∈fs,(x,NameKind.free)∈scope.names) (hk:∀x∈fs,X.env.kindOf x=some .cell\/X.env.kindOf x=some .free) (cp:zk X.N fs N cap):CpScope X scope N cap where
 kind:=kind
 nocell:=nocell
 nm:=nm
 fr:=λy hy e=>hk _ (hf y hy e)
 rl:=λy h=>by
  have go:∀k,(k=NameKind.cell\/k=NameKind.free)->(relabel scope X.env).names.lookup y=some k->(y,NameKind.free)∈scope.names:=λk hk e=>by
   obtain⟨⟨n',k'⟩,hm1,hm2⟩:=bA.mp (zu e);dsimp only at hm2;split at hm2
   ·rename_i hc
    cases hm2
    have:k'=.free:=by
     dsimp[bZ]at hc;simpa using hc.1.1
    subst this;exact hm1
   ·cases hm2
    rcases hk with rfl|rfl
    ·exact absurd rfl (nocell _ hm1)
    ·exact hm1
  rcases h with h|h
  ·exact go _ (.inl rfl) h
  ·exact go _ (.inr rfl) h
 len:=cp.len
 nolf:=λx hx=>nolf (x,.free) hx rfl
 cp:=λi j x h1 h2=>by
  obtain⟨a,b⟩:=cp.cp i j x h1 h2;exact⟨a,hfs x b⟩
inductive Kd where
 | non|bl|int|str|lst|tup
 deriving DecidableEq
abbrev Kd.ty:Kd->af
 | .non=>.type "NoneType" | .bl=>.type "bool" | .int=>.type "int" | .str=>.type "str" | .lst=>.type "list" | .tup=>.type "tuple"
abbrev Vk (H:Hp)(x:V):Kd->Prop
 | .non=>x=.non
 | .bl=>∃b,x=.bl b
 | .int=>∃i,x=.int i
 | .str=>∃s,x=.str s
 | .lst=>∃a xs,x=.ref a/\H a=some (.lst xs)
 | .tup=>∃a xs,x=.ref a/\H a=some (.tup xs)
def Vk.aaG{K:au}{H:Hp}{x:V}{k:Kd}(h:Vk H x k):TyOf K H x k.ty:=by
 cases k with
 | non=>cases h;exact .non
 | bl=>obtain⟨b,rfl⟩:=h;exact .bl b
 | int=>obtain⟨b,rfl⟩:=h;exact .int b
 | str=>obtain⟨b,rfl⟩:=h;exact .str b
 | lst=>obtain⟨a,xs,rfl,e⟩:=h;exact .lst e
 | tup=>obtain⟨a,xs,rfl,e⟩:=h;exact .tup e
def Sd{K:au}(k:Kd):PySem.W.kitOne K k.ty (.type "int")=some (decide (k=.int\/k=.bl)):=by cases k<;>rfl
def PK{K:au}(k:Kd):PySem.W.kitOne K k.ty (.type "bool")=some (decide (k=.bl)):=by cases k<;>rfl
def kit_tuple{K:au}(k:Kd):PySem.W.kitOne K k.ty (.type "tuple")=some (decide (k=.tup)):=by cases k<;>rfl
def MY{K:au}(k:Kd):PySem.W.kitOne K k.ty (.type "list")=some (decide (k=.lst)):=by cases k<;>rfl
section
variable {prog:aj}{w:ah}{A:az}{E:af->aA->Prop}{s:aA}
def vE{t:ak}{i:Nat}{x:af}{Q:af->aA->Prop}(hit:s.heap.IsTupleIter it t i)
  (ht:s.heap.IsTuple t items) (hx:items[i]?=some x) (hQ:∀h',h'.IsTupleIter it t (i+1)->Heap.SameBut it s.heap h'->Q x { s with heap:=h' }) :
  wpAny (model prog w) A (Builtin.SmallTypes.nextOf (.ref it)) Q E s:=by
 obtain⟨o,ho,hc,hd⟩:=id hit;obtain⟨ol,hol,_,nl,hdl⟩:=ht;unfold Builtin.SmallTypes.nextOf;refine aF (dw (name:=Str.ofString "__next__") hit.typeIs eL
  (cY eL hit.typeIs F.entry_tuple_iterator_next ?_ (F.args_tuple_iterator_next_1 _)))
 show wpAny _ _ (field (.ref it) 0 >>= _) _ _ s;refine aF (eG ho hd (x:=.ref t) rfl ?_)
 skip
 rw[aI (show ¬((Value.ref t == Value.none)=true)from bG)]
 skip
 refine aF (eG ho hd (x:=.int i 0) rfl ?_)
 skip
 refine aF (iW hol hdl ?_);dsimp[c_,hx];refine aF (gf ho hd (by simp) (aP ⟨x,rfl,aP (hQ _ ?_ (fG ..))⟩));exact⟨_,eT _ ho (f7 (eN hd _)),(i7 ..).trans hc,by
  rw[eN hd];simp[rawInt]⟩
def wD{t:ak}{i:Nat}{Q:af->aA->Prop}(hh:A.handled=none)
  (hit:s.heap.IsTupleIter it t i) (ht:s.heap.IsTuple t items) (hx:items[i]?=none)
  (hE:∀h' e,Heap.ExtBut it s.heap h'->(∃o,h'.get? e=some o/\o.cls=.type "StopIteration")->E (.ref e) { s with heap:=h' }) :
  wpAny (model prog w) A (Builtin.SmallTypes.nextOf (.ref it)) Q E s:=by
 obtain⟨o,ho,hc,hd⟩:=id hit;obtain⟨ol,hol,_,nl,hdl⟩:=ht;unfold Builtin.SmallTypes.nextOf;refine aF (dw (name:=Str.ofString "__next__") hit.typeIs eL
  (cY eL hit.typeIs F.entry_tuple_iterator_next ?_ (F.args_tuple_iterator_next_1 _)))
 show wpAny _ _ (field (.ref it) 0 >>= _) _ _ s;refine aF (eG ho hd (x:=.ref t) rfl ?_)
 skip
 rw[aI (show ¬((Value.ref t == Value.none)=true)from bG)]
 skip
 refine aF (eG ho hd (x:=.int i 0) rfl ?_)
 skip
 refine aF (iW hol hdl ?_);dsimp[c_,hx];refine aF (fq (aF (gf ho hd (by simp) ?_)))
 skip
 refine aF ?_;dsimp[newExc,newTuple];refine aF (cg ?_ (by size_fits));refine aF (m:=firstArgMember _ _) (wpAny_of_eq (a:=Value.none) (by first|rfl|(dsimp[firstArgMember];rfl)) ?_);refine cg ?_ (by size_fits);dsimp[raiseNew];refine aF (wpAny_handled ?_)
 first|rw[show A.in1.handled=none from hh]|rw[hh]
 refine aF (aP (wpAny_throw ?_));exact hE _ _ (((fG ..).extBut.push _).push _) ⟨_,bB _ rfl,rfl⟩
end
def Nv{prog:aj}{w:ah}{A:az}(hh:A.handled=none)(it l:ak)(hne:l≠it)(items:Array af) :
  Draws prog w A it [it,l] items.size (λi v=>items[i]?=some v) (λi h=>h.IsTupleIter it l i/\h.IsTuple l items) where
 live:=λ_ _ st=>let⟨o,ho,_⟩:=st.1;⟨o,ho⟩
 frame:=λ_ _ _ st hk=>⟨st.1.at λo e=>hk it (by simp) o e,let⟨o,ho,r⟩:=st.2;⟨o,hk l (by simp) o ho,r⟩⟩
 item:=λi s Q E hi st hQ=>by
  refine vE st.1 st.2 (x:=items[i]) (by simp[hi]) λh' hit' hs'=>?_;exact hQ _ h' s.toks (by simp[hi]) ⟨hit',let⟨o,ho,r⟩:=st.2;⟨o,hs'.extBut l o hne ho,r⟩⟩ hs'
 done:=λs Q E st hE=>wD hh st.1 st.2 (by simp) hE
def Di(l:ak)(items:Array af) :
  Meets (Builtin.«enumerate.__new__» ⟨[.type "enumerate",.ref l],[]⟩) (λ_ R s=>s.heap.IsTuple l items /\
   R (.ok (.ret (.ref (s.heap.push { cls:=.type "tuple_iterator",data:=.fields #[.ref l,.int 0 0]}).objs.size)))
    { s with heap:=(s.heap.push { cls:=.type "tuple_iterator",data:=.fields #[.ref l,.int 0 0]}).push { cls:=.type "enumerate",data:=.fields #[.none,.bool false,.ref s.heap.objs.size,rawInt 0,.none,.none]}}):=
 .of_wp λprog w A R s h=>by
  obtain⟨hp,g,d,tk,os⟩:=s;obtain⟨hl,h⟩:=h;have hsub:=sub_enumerate;obtain⟨ol,hol,hcl,nl,hdl⟩:=id hl
  wp_walk using dN hol
  refine wpAny_stack_any λst=>aP ?_;split
  ·rename_i c _ _ _ _ _
   cases(c == Value.type "enumerate")
   ·wp_walk using dN hol,gJ hl
    exact⟨_,rfl,h⟩
   ·wp_walk using dN hol,gJ hl
    exact⟨_,rfl,h⟩
  ·wp_walk using dN hol,gJ hl
   exact⟨_,rfl,h⟩
abbrev Ite (K:au)(a:ak):It:=
 ⟨λi H=>∃xs x,mO K H a xs/\xs[i]?=some x,λi H x H'=>∃T,H T=none/\x=.ref T/\∀xs y,mO K H a xs->xs[i]?=some y->H'=upd H T (.tup [.int i,y]),λi H=>∃xs,mO K H a xs/\xs.length=i⟩
def FG{P:aj}{w:ah}{K:au}(a e it:ak)(hei:e≠it):Turn P w K (.Tuple elts x1 tpos) (Ite K a) [e,it] e (λi h=>(∃old,IsEnum h e it i old)/\h.IsTupleIter it a i) where
 mem:=by simp
 obj:=λi h st b hb=>by
  obtain⟨⟨old,st1⟩,st2⟩:=st;have hb':b=e\/b=it:=by simpa using hb
  rcases hb' with rfl|rfl
  ·exact⟨_,st1,λv z=>by cases z⟩
  ·obtain⟨o,e,c,d⟩:=st2;exact⟨o,e,λv z=>by rw[d]at z;cases z⟩
 keep:=λi h h' st k=>by
  obtain⟨⟨old,st1⟩,st2⟩:=st;exact⟨⟨old,k e (by simp) _ st1⟩,st2.at λo ho=>k it (by simp) o ho⟩
 item:=by
  z_go;subst hP hw hK;obtain⟨⟨old,st1⟩,st2⟩:=st;obtain⟨xs,x,hq,hx⟩:=hg;obtain⟨its,rv,p,hz⟩:=I.tuple hq;obtain⟨u,hu,ru⟩:=rv.get hx;have hia:a≠it:=by
   obtain⟨o,ho,hc1,_⟩:=p;obtain⟨o2,ho2,hc2,_⟩:=st2;intro z;rw[z,ho2]at ho
   cases ho
   rw[hc1]at hc2;exact absurd (Value.type.inj hc2) ⋯
  have hea:e≠a:=by
   obtain⟨o,ho,hc1,_⟩:=p;intro z;rw[<- z,st1]at ho
   cases ho
   exact absurd (Value.type.inj hc1) ⋯
  have hlt:i<its.toArray.size:=by
   rw[aY];exact(aL.mp hu).1
  refine wpAny_pyNext_enum_itemD (Nv (A:=X.A.in1) (I.ok.hd hc) it a hia its.toArray) st1 ⟨st2,p⟩ hlt hei (by simp[hei,hea]) λx' h' tk hP hout hst hT hsz hk=>?_;have ex:x'=u:=by
   have:its.toArray[i]?=some u:=by simpa using hu
   rw[this]at hP;exact(aW hP).symm
  subst ex;refine⟨_,rfl,wpAny_letOwnedTupleGo_enum hout λh2 he2 hs2=>?_⟩;have fT:H s.heap.objs.size=none:=I.hok.fresh (aQ _);have hel:e<s.heap.objs.size:=bf st1;have hil:it<s.heap.objs.size:=by obtain⟨o,ho,_⟩:=st2;exact bf ho
  have k2:∀b o,b≠e->b≠it->s.heap.get? b=some o->h2.get? b=some o:=λb o h1 h3 q=>hs2.extBut b o h1 (hk b o h1 h3 q);have hT2:h2.get? s.heap.objs.size=some { cls:=.type "tuple",data:=.seq #[.int i tk,x']}:=hs2.extBut _ _ (ne_of_gt hel) hT;obtain⟨e0,e1,e2,e3,e4,e5⟩:=hf e (by simp);obtain⟨i0,i1,i2,i3,i4,i5⟩:=hf it (by simp);have nT:∀b o,s.heap.get? b=some o->b≠s.heap.objs.size:=λb o q=>bE (bf q);have ne_tr:∀c v,H c=some v->c≠e/\c≠it:=λc v q=>⟨(λz=>by rw[z,e0]at q;cases q),(λz=>by rw[z,i0]at q;cases q)⟩;have I2:Inv X pins σ (upd H s.heap.objs.size (.tup [.int i,x])) { s with heap:=h2,toks:=tk+1 }:=by
   refine I.step (g':=s.gens) (d':=s.drawn) (ch:=[e,it]) (λb hb=>?_) (λb o _ _ hch q _=>?_) (λb o _ _ hch q _=>?_) (λb o hch q n=>?_) (λb o hch q=>?_) (λb ys q=>?_) (λb o u' q=>?_) (λb ps q=>?_) (λm hm=>?_) (λb u' q=>?_) I.bare
   ·have hb':b=e\/b=it:=by simpa using hb
    rcases hb' with rfl|rfl
    ·exact⟨e3,e1,e4,e5⟩
    ·exact⟨i3,i1,i4,i5⟩
   ·exact k2 b o (λz=>hch (by simp[z])) (λz=>hch (by simp[z])) q
   ·exact⟨o.slots,k2 b o (λz=>hch (by simp[z])) (λz=>hch (by simp[z])) q⟩
   ·rw[jM (nT b o q)];exact n
   ·exact⟨o,k2 b o (λz=>hch (by simp[z])) (λz=>hch (by simp[z])) q⟩
   ·rw[jM (jU q fT)];exact q
   ·rw[jM (jU q fT)];exact q
   ·exact⟨#[],by rw[jM (jU q fT),q];simp⟩
   ·obtain⟨o,es,ep,ho,r⟩:=hm;exact⟨o,es,ep,k2 _ o (cR e1) (cR i1) ho,r⟩
   ·by_cases z:b=s.heap.objs.size
    ·subst z;rw[ko]at q
     cases q
     exact⟨by show 2<=sizeLine;decide,[.int i tk,x'],.cons ⟨tk,rfl⟩ (.cons ru .nil),⟨_,hT2,rfl,rfl,0,rfl⟩⟩
    ·rw[jM z]at q;refine(I.hok b u' q).stay (λc v hc q'=>k2 c v ?_ ?_ q') (λc q'=>?_) λc ys q'=>?_
     ·rcases hc with z|z
      ·rw[z];exact(ne_tr b u' q).1
      ·exact(ne_tr c _ z).1
     ·rcases hc with z|z
      ·rw[z];exact(ne_tr b u' q).2
      ·exact(ne_tr c _ z).2
     ·rw[jM (jU q' fT)];exact q'
     ·rw[jM (jU q' fT)];exact q'
  refine⟨.ref s.heap.objs.size,_,I2,rfl,⟨s.heap.objs.size,fT,rfl,λys y hy hyi=>?_⟩,⟨⟨x',by simpa using he2⟩,?_⟩,λb hb=>?_⟩
  ·rw[I.wz hy hq]at hyi;rw[hx]at hyi
   cases hyi
   rfl
  ·exact hst.1.at λo ho=>hs2.extBut it o (cR hei) ho
  ·have hb':b=e\/b=it:=by simpa using hb
   rcases hb' with rfl|rfl
   ·rw[jM (bE hel)];exact e0
   ·rw[jM (bE hil)];exact i0
 done:=by
  z_go;subst hP hw hK;obtain⟨⟨old,st1⟩,st2⟩:=st;obtain⟨xs,hq,hx⟩:=hg;obtain⟨its,rv,p,hz⟩:=I.tuple hq;obtain⟨i0,i1,i2,i3,i4,i5⟩:=hf it (by simp);have hia:a≠it:=by
   obtain⟨o,ho,hc1,_⟩:=p;obtain⟨o2,ho2,hc2,_⟩:=st2;intro z;rw[z,ho2]at ho
   cases ho
   rw[hc1]at hc2;exact absurd (Value.type.inj hc2) ⋯
  have hl:=rv.length;have ei:its.toArray.size=i:=by rw[aY,<- hl,hx]
  exact wpAny_pyNext_enum_endD (Nv (A:=X.A.in1) (I.ok.hd hc) it a hia its.toArray) st1 ⟨by rw[ei];exact st2,p⟩ λh' eb=>⟨rfl,I.turned (t':=s.toks) (λb o hb q=>eb b o hb q) i0 i1 i3 i4 i5⟩
 self:=λ_ _ _ _ _ st h=>let⟨⟨_,st1⟩,_⟩:=st;wpAny_pyIter_enum st1 h
def BF:bootBuiltins "enumerate" = some (.type "enumerate"):=by decide +kernel
section
variable {X:Cx}
abbrev YT (K:au)(ta:TA):TI:=λσ H R=>ta σ H λvs H1=>∃a xs,vs=[.ref a]/\mO K H1 a xs/\R (Ite K a) H1
def NS{a:aC}{ta:TA}{p:Pos}(hg:Gl X "enumerate")(hm:X.mg "enumerate" = none)(ha:PA X [a] ta)(hs:starEach [a] X.env=[(false,eval a X.env)]:=by rfl):PI X (.Tuple elts x1 tpos) (.Call (.Name "enumerate" p) [a] [] pos) (YT X.K ta):=by
 intro pins s σ H R I h;refine Call_ (wc I hg hm BF (er (mL (ha pos pins s σ H _ I h) λus s1 ⟨vs,H1,I1,r1,q1⟩=>?_) hs rfl));obtain⟨t,xs,e,hq,q⟩:=q1;subst e;obtain⟨u,rfl,rx⟩:=vals1 r1
 cases rx
 obtain⟨its,rv,pt,hz⟩:=I1.tuple hq;refine callType_new F.called_enumerate ⋯ (F.typeCall_enumerate_1 _) (F.newCall_enumerate_1 _) (λobj=>F.args_object_init_2 obj _) F.entry_enumerate_new (Di t its.toArray) ⟨pt,⟨_,bB _ rfl,rfl⟩,?_⟩;have I2:Inv X pins σ H1 { s1 with heap:=s1.heap.push { cls:=.type "tuple_iterator",data:=.fields #[.ref t,.int 0 0]}}:=I1.kept (t':=s1.toks) λb o e=>aO _ e;have I3:Inv X pins σ H1 { s1 with heap:=(s1.heap.push { cls:=.type "tuple_iterator",data:=.fields #[.ref t,.int 0 0]}).push { cls:=.type "enumerate",data:=.fields #[.none,.bool false,.ref s1.heap.objs.size,rawInt 0,.none,.none]}}:=I2.kept (t':=s1.toks) λb o e=>aO _ e;have he:IsEnum ((s1.heap.push { cls:=.type "tuple_iterator",data:=.fields #[.ref t,.int 0 0]}).push { cls:=.type "enumerate",data:=.fields #[.none,.bool false,.ref s1.heap.objs.size,rawInt 0,.none,.none]}) (s1.heap.push { cls:=.type "tuple_iterator",data:=.fields #[.ref t,.int 0 0]}).objs.size s1.heap.objs.size 0 .none:=bB _ rfl;have hit:((s1.heap.push { cls:=.type "tuple_iterator",data:=.fields #[.ref t,.int 0 0]}).push { cls:=.type "enumerate",data:=.fields #[.none,.bool false,.ref s1.heap.objs.size,rawInt 0,.none,.none]}).IsTupleIter s1.heap.objs.size t 0:=⟨_,aO _ (bB _ rfl),rfl,rfl⟩;have hne:(s1.heap.push { cls:=.type "tuple_iterator",data:=.fields #[.ref t,.int 0 0]}).objs.size≠s1.heap.objs.size:=by rw[eK];exact ne_of_gt (fL _)
 refine wpAny_pyIter_enum he ⟨_,[_,s1.heap.objs.size],_,_,H1,rfl,I3,FG t _ s1.heap.objs.size hne,⟨⟨.none,he⟩,hit⟩,λb hb=>?_,q⟩;have hb':b=(s1.heap.push { cls:=.type "tuple_iterator",data:=.fields #[.ref t,.int 0 0]}).objs.size\/b=s1.heap.objs.size:=by simpa using hb
 rcases hb' with rfl|rfl
 ·exact I1.DB (by rw[eK];exact Nat.le_succ _) (I2.hok.fresh (aQ _))
 ·exact I1.DB (aQ _) (I1.hok.fresh (aQ _))
end
end L2
namespace L2
open PySem PySem.Spec PyProof.Rows
open PySem.SeqAt
open PySem.AutoSeq1 (wpAny_loadPart')
open PySem.MeetsSeq PySem.MeetsSeq2 PySem.MeetsSeq3 PySem.SeqAt
section
variable {X:Cx}
def Pn:oE X (binaryOp .FloorDiv) (rI (λ_ j=>0<j/\j<18446744073709551616) λi j=>.int (i / j)):=ZZ λi j _ _ _ _ _ hc q=>by
 have h1:(0:Int)<j:=hc.1;have h2:j<18446744073709551616:=hc.2;refine floordiv_int (by omega) (by rw[Int.fdiv_eq_ediv_of_nonneg i (by omega)];exact q) (.inl (PyProof.noPylong_of_log2 ?_));exact bK ((Nat.log2_lt (by omega)).mpr (show j.natAbs<2 ^ 64 by omega)) ⋯
end
end L2
namespace L2
open PySem PySem.Spec PyProof.Rows
abbrev Its (x:Str):It:=⟨λi _=>i<x.cps.size,λi H v H'=>H'=H/\∃c,x.cps[i]?=some c/\v=.str ⟨#[c]⟩,λi _=>i=x.cps.size⟩
def Py{P:aj}{w:ah}{K:au}(x:Str)(t:Tok)(it:ak):Turn P w K tg (Its x) [it] it (λi h=>h.IsStrIter it "str_ascii_iterator" x t i) where
 mem:=by simp
 obj:=λi h st b hb=>by
  have e:b=it:=by simpa using hb
  subst e;obtain⟨o,e,c,d⟩:=st;exact⟨o,e,λv z=>by rw[d]at z;cases z⟩
 keep:=λi h h' st k=>let⟨o,ho,r⟩:=st;⟨o,k it (by simp) o ho,r⟩
 item:=by
  z_go;subst hP hw hK;w_up;have W:=Walks.strAscii (prog:=X.prog) (w:=X.w) (I.ok.hd hc) it x t;refine W.item i s _ _ hg st λv h' tk hv st' kk=>?_;obtain⟨c,u,hcx,rfl⟩:=hv;have I1:Inv X pins σ H { s with heap:=h',toks:=tk }:=I.turned (λb o hb e=>kk b o (by simpa using hb) e) f0 f1 f3 f4 f5;obtain⟨o,e,cc,d⟩:=id st';exact⟨_,rfl,Eg (s:={ s with heap:=h',toks:=tk }) e cc d ⋯ ⟨.str ⟨#[c]⟩,H,I1,⟨u,rfl⟩,⟨rfl,c,hcx,rfl⟩,st',λb hb=>(hf b hb).1⟩⟩
 done:=by
  z_go;subst hP hw hK;w_up;have hg:i=x.cps.size:=hg;subst hg;have W:=Walks.strAscii (prog:=X.prog) (w:=X.w) (I.ok.hd hc) it x t;exact W.done s _ _ st λh' tk kk=>⟨rfl,I.turned (λb o hb e=>kk b o (by simpa using hb) e) f0 f1 f3 f4 f5⟩
 self:=λ_ _ _ _ _ st h=>wpAny_pyIter_striter_ascii st h
section
variable {X:Cx}{tg:aC}
abbrev aaz (tl:TE):TI:=λσ H R=>tl σ H λx H1=>∃y:Str,x=.str y/\y.cps.all (· < 128)=true/\R (Its y) H1
def WL{l:aC}{tl:TE}(hl:PE X l tl):PI X tg l (aaz tl):=by
 intro pins s σ H R I h;refine mL (hl pins s σ H _ I h) λv s1 h9=>?_;obtain⟨x,H1,I1,r1,q1⟩:=h9;obtain⟨y,e,ha,q⟩:=q1;subst e;obtain⟨t,rfl⟩:=r1;refine wpAny_pyIter_ascii ha ?_;refine⟨s1.heap.objs.size,[s1.heap.objs.size],_,_,H1,rfl,I1.kept (t':=s1.toks) λb o e=>aO _ e,Py y t _,⟨_,bB _ rfl,rfl,rfl⟩,λb hb=>?_,q⟩;have e:b=s1.heap.objs.size:=by simpa using hb
 subst e;exact I1.DB (aQ _) (I1.hok.fresh (aQ _))
def Lf:kg X (.type "int") (λxs H Q=>∃(y:Str) (n:Int),xs=[.str y]/\y.length<=640/\PySem.intText? y=some n/\Q (.int n) H):=by
 intro pins s σ H xs us Q I rv h;obtain⟨y,n,rfl,hl,hn,q⟩:=h;obtain⟨w,rfl,rw'⟩:=vals1 rv;obtain⟨u,rfl⟩:=rw';exact PySem.W.KIN.call_text hn hl ⟨.int n,H,I.tok _,⟨_,rfl⟩,q⟩
end
section
variable {κ:Type}[DecidableEq κ]
abbrev pH (kvs:List (κ×V))(k:κ):Option V:=(kvs.find? λkv=>decide (kv.1=k)).map (·.2)
abbrev putK (kvs:List (κ×V))(k:κ)(v:V):List (κ×V):=
 if (kvs.any λkv=>decide (kv.1=k))=true then kvs.map (λkv=>if kv.1=k then(kv.1,v)else kv)else kvs++[(k,v)]
def sq{p:κ×V}{r:List (κ×V)}{k:κ}(e:p.1=k):pH (p::r) k=some p.2:=by simp[pH,cN,e]
def tu{p:κ×V}{r:List (κ×V)}{k:κ}(e:¬p.1=k):pH (p::r) k=pH r k:=by simp[pH,cN,e]
theorem uY(k:κ):∀kvs:List (κ×V),(kvs.any λkv=>decide (kv.1=k))=(pH kvs k).isSome
 | []=>rfl
 | p::r=>by
  rw[fY];by_cases e:p.1=k
  ·dsimp[sq e,bg e,Bool.true_or,isSome_some]
  ·rw[tu e,bh e,fZ];exact uY k r
def sJ(kvs:List (κ×V))(k:κ)(v:V):(putK kvs k v).length<=kvs.length+1:=by
 unfold putK;split
 ·rw[aH];lia
 ·rw[aR,bC,cC];lia
def wL.wZ{o:Option V}{u:bd}(r:wL o u):o.isSome=u.isSome:=by
 cases o with
 | none=>cases u with
  | none=>rfl
  | some _=>exact(show False from r).elim
 | some _=>cases u with
  | none=>exact(show False from r).elim
  | some _=>rfl
def wL.getD{o:Option V}{u:bd}(r:wL o u)(rd:RelV d d'):RelV (o.getD d) (u.getD d'):=by
 cases o with
 | none=>cases u with
  | none=>exact rd
  | some _=>exact(show False from r).elim
 | some _=>cases u with
  | none=>exact(show False from r).elim
  | some _=>exact r
def KV.val(r:KV kvs vs)(k:κ):wL (pH kvs k) (valueAt vs k):=by
 unfold KV at r
 induction r with
 | nil=>exact True.intro
 | @cons p q ps qs h t ih=>
  obtain⟨h1,h2⟩:=h;by_cases e:p.1=k
  ·have e':q.1=k:=h1.symm.trans e;have b:valueAt (q::qs) k=some q.2:=by simp[valueAt,cN,e']
   rw[sq e,b];exact h2
  ·have e':¬q.1=k:=λz=>e (h1.trans z);have b:valueAt (q::qs) k=valueAt qs k:=by simp[valueAt,cN,e']
   rw[tu e,b];exact ih
def KV.any{kvs:List (κ×V)}{vs:List (κ×af)}(r:KV kvs vs)(k:κ):(kvs.any λkv=>decide (kv.1=k))=vs.any λkv=>decide (kv.1=k):=by
 unfold KV at r
 induction r with
 | nil=>rfl
 | cons h t ih=>rw[fY,fY,ih,h.1]
def KV.repl{kvs:List (κ×V)}{vs:List (κ×af)}(r:KV kvs vs)(k:κ)(ry:RelV y u) :
  KV (kvs.map λkv=>if kv.1=k then(kv.1,y)else kv) (vs.map λkv=>if kv.1=k then(kv.1,u)else kv):=by
 unfold KV at r ⊢
 induction r with
 | nil=>exact .nil
 | @cons p q ps qs h t ih=>
  rw[bF,bF];refine .cons ?_ ih;obtain⟨h1,h2⟩:=h;by_cases e:p.1=k
  ·rw[aK e,aK (h1.symm.trans e)];exact⟨h1,ry⟩
  ·rw[aI e,aI (λz=>e (h1.trans z))];exact⟨h1,h2⟩
def KV.put(r:KV kvs vs)(k:κ)(ry:RelV y u):KV (putK kvs k y) (stored vs k u):=by
 unfold putK stored;rw[r.any k];by_cases e:(vs.any λkv=>decide (kv.1=k))=true
 ·rw[aK e,aK e];exact r.repl k ry
 ·rw[aI e,aI e];exact Paired.snoc r ⟨rfl,ry⟩
def KV.length{kvs:List (κ×V)}{vs:List (κ×af)}(r:KV kvs vs):kvs.length=vs.length:=jc r
end
def Eu{P:aj}{w:ah}{k:Key}(r:RelV (kV k) u):(kK P w).is k u=true:=by
 cases k with
 | inl i=>obtain⟨t,e⟩:=(show ∃t,u=Value.int i t from r);subst e;exact Dv P w i t
 | inr x=>obtain⟨t,e⟩:=(show ∃t,u=Value.str x t from r);subst e;exact Ep P w x t
theorem AY{P:aj}{w:ah}:∀{ks:List Key}{us:ba},Vals (ks.map kV) us->ItemsAre (kK P w) ks us
 | [],_,r=>by rw[gY]at r;cases r;exact .nil
 | k::ks,_,r=>by
  rw[bF]at r
  cases r with
  | cons h t=>exact .cons (Eu h) (AY t)
meta abbrev KT (H:Hp):List (List Key×V)->List (List Key×ak×af)->Prop:=Paired λp q=>p.1=q.1/\H q.2.1=some (.tup (p.1.map kV))/\RelV p.2 q.2.2
def KT.val{H:Hp}(r:KT H kvs xs)(k:List Key):wL (pH kvs k) ((atKey xs k).map (·.2)):=by
 induction r with
 | nil=>exact True.intro
 | @cons p q ps qs h t ih=>
  obtain⟨h1,_,h2⟩:=h;by_cases e:p.1=k
  ·have e':q.1=k:=h1.symm.trans e;have b:atKey (q::qs) k=some q.2:=by simp[atKey,cN,e']
   rw[sq e,b];exact h2
  ·have e':¬q.1=k:=λz=>e (h1.trans z);have b:atKey (q::qs) k=atKey qs k:=by simp[atKey,cN,e']
   rw[tu e,b];exact ih
def KT.repl{H:Hp}{kvs:List (List Key×V)}{xs:List (List Key×ak×af)}(r:KT H kvs xs)(k:List Key)(ry:RelV y u) :
  KT H (kvs.map λkv=>if kv.1=k then(kv.1,y)else kv) (xs.map (putAt k u)):=by
 induction r with
 | nil=>exact .nil
 | @cons p q ps qs h t ih=>
  rw[bF,bF];refine .cons ?_ ih;obtain⟨h1,h2,h3⟩:=h;unfold putAt;by_cases e:p.1=k
  ·rw[aK e,aK (h1.symm.trans e)];exact⟨h1,h2,ry⟩
  ·rw[aI e,aI (λz=>e (h1.trans z))];exact⟨h1,h2,h3⟩
def KT.put{H:Hp}(r:KT H kvs xs)(k:List Key)(hb:H b=some (.tup (k.map kV)))(ry:RelV y u) :
  KT H (putK kvs k y) (storedH xs k b u):=by
 have e:(kvs.any λkv=>decide (kv.1=k))=(atKey xs k).isSome:=by
  rw[uY,(r.val k).wZ,h_]
 unfold putK storedH;rw[e];by_cases q:(atKey xs k).isSome=true
 ·rw[aK q,aK q];exact r.repl k ry
 ·rw[aI q,aI q];exact Paired.snoc r ⟨rfl,hb,ry⟩
def KT.keeps{H H':Hp}(r:KT H kvs xs)(ht:∀b ys,H b=some (.tup ys)->H' b=some (.tup ys)):KT H' kvs xs:=
 Paired.WZ r λ_ _ z=>⟨z.1,ht _ _ z.2.1,z.2.2⟩
section
variable {P:aj}{w:ah}{H:Hp}{h:aq}{a:ak}
def UE(ok:um P w H h)(e:Rd H a u):lC P w H h a u:=e.ok ok
def CT{kvs:List (Key×V)}(ok:um P w H h)(e:Rd H a (.dK kvs)):kvs.length<=sizeLine/\(a == sysModules)=false/\∃vs,KV kvs vs/\h.DictOf (kK P w) a vs:=
 show lC P w H h a (.dK kvs)from UE ok e
def UW{kvs:List (Key×V)}(ok:um P w H h)(e:H a=some (.dK kvs)):kvs.length<=sizeLine/\(a == sysModules)=false/\∃vs,KV kvs vs/\h.DictOf (kK P w) a vs:=CT ok (.inl e)
def v8{ks:List Key}(ok:um P w H h)(e:H a=some (.tup (ks.map kV))):(tupleKind (kK P w)).is h ks a:=by
 obtain⟨_,its,r,o,h1,h2,_,n,h3⟩:=(show lC P w H h a (.tup (ks.map kV))from ok a _ e);exact⟨o,its.toArray,n,h1,h2,h3,by simpa using AY r⟩
def CY{kvs:List (List Key×V)}(ok:um P w H h)(e:Rd H a (.dT kvs)):kvs.length<=sizeLine/\(a == sysModules)=false /\
  ∃xs,KT H kvs xs/\h.DictOfH (tupleKind (kK P w)) a xs:=by
 obtain⟨z,y,xs,r,o,es,ep,h1,h2,h3,h4,h5⟩:=(show lC P w H h a (.dT kvs)from UE ok e);refine⟨z,y,xs,r,o,es,ep,h1,h2,h3,h4,λx hx=>?_,h5⟩;have all:∀{l:List (List Key×V)} {m:List (List Key×ak×af)},KT H l m->∀x∈m,(tupleKind (kK P w)).is h x.1 x.2.1:=by
  intro l m q
  induction q with
  | nil=>intro x hx;exact nomatch hx
  | @cons p q ps qs hq t ih=>
   intro x hx
   rcases bD.mp hx with e|hx
   ·subst e;exact v8 ok (by rw[<- hq.1];exact hq.2.1)
   ·exact ih x hx
 exact all r x hx
def NP{kvs:List (List Key×V)}(ok:um P w H h)(e:H a=some (.dT kvs)):kvs.length<=sizeLine/\(a == sysModules)=false /\
  ∃xs,KT H kvs xs/\h.DictOfH (tupleKind (kK P w)) a xs:=CY ok (.inl e)
end
abbrev uL (H:Hp)(a:ak)(y:V)(r:Option V):Prop:=
 (∃kvs k,Rd H a (.dK kvs)/\y=kV k/\r=pH kvs k)\/∃kvs k b,Rd H a (.dT kvs)/\y=.ref b/\H b=some (.tup (k.map kV))/\r=pH kvs k
abbrev Ef (H:Hp)(a:ak)(y v:V)(H':Hp):Prop:=
 (∃kvs k,H a=some (.dK kvs)/\y=kV k/\kvs.length<sizeLine/\H'=upd H a (.dK (putK kvs k v))) \/
 ∃kvs k b,H a=some (.dT kvs)/\y=.ref b/\H b=some (.tup (k.map kV))/\kvs.length<sizeLine/\H'=upd H a (.dT (putK kvs k v))
theorem uL.k{H:Hp}{a:ak}{k:Key}(e:H a=some (.dK kvs)):uL H a (kV k) (pH kvs k):=.inl ⟨kvs,k,.inl e,rfl,rfl⟩
def uL.t{H:Hp}{a:ak}{k:List Key}(e:H a=some (.dT kvs))(eb:H b=some (.tup (k.map kV))):uL H a (.ref b) (pH kvs k):=.inr ⟨kvs,k,b,.inl e,rfl,eb,rfl⟩
theorem Ef.k{H:Hp}{a:ak}{kvs:List (Key×V)}{k:Key}{v:V}(e:H a=some (.dK kvs))(hl:kvs.length<sizeLine):Ef H a (kV k) v (upd H a (.dK (putK kvs k v))):=.inl ⟨kvs,k,e,rfl,hl,rfl⟩
def Ef.t{H:Hp}{a:ak}{kvs:List (List Key×V)}{k:List Key}{v:V}(e:H a=some (.dT kvs))(eb:H b=some (.tup (k.map kV)))(hl:kvs.length<sizeLine) :
  Ef H a (.ref b) v (upd H a (.dT (putK kvs k v))):=.inr ⟨kvs,k,b,e,rfl,eb,hl,rfl⟩
section
variable {X:Cx}{pins:bv}{σ:St}{H:Hp}{s:aA}{a:ak}{y v:V}{u r:af}{o:Option V}{A:az}{E:af->aA->Prop}
def Inv.big(I:Inv X pins σ H s):sysModules<s.heap.objs.size:=by
 have h:mainGlobals<s.heap.objs.size:=(I.mod.glob.keeps I.bk).lt;exact lt_trans ⋯ h
def K6{Q:af->aA->Prop}(hu:A.units+1<cLine)(I:Inv X pins σ H s)(g:uL H a y (some v))(ry:RelV y u)(h:∀w' s',Inv X pins σ H s'->RelV v w'->Q w' s') :
  wpAny (model X.prog X.w) A (getItem (.ref a) u) Q E s:=by
 rcases g with⟨kvs,k,e,ey,l⟩|⟨kvs,k,b,e,ey,eb,l⟩
 ·subst ey;obtain⟨z,hd,vs,rel,dd⟩:=CT I.hok e;obtain⟨w',hw,rw'⟩:=wL.some_of (v:=v) (o:=valueAt vs k) (by rw[l];exact rel.val k);exact wpAny_getItem_of (Eu ry) dd.mapOf hw (h w' _ (I.tok _) rw')
 ·subst ey
  cases(show u=Value.ref b from ry)
  obtain⟨z,hd,xs,rel,dd⟩:=CY I.hok e;obtain⟨w',hw,rw'⟩:=wL.some_of (v:=v) (o:=(atKey xs k).map (·.2)) (by rw[l];exact rel.val k);obtain⟨p,hp,hp2⟩:=a_.mp hw;refine wpAny_getItem_heap (fR hu) (v8 I.hok eb) dd hp ?_;rw[hp2];exact h w' _ (I.tok _) rw'
def Rk{Q:af->aA->Prop}(hu:A.units+1<cLine)(I:Inv X pins σ H s)(g:uL H a y o)(ry:RelV y u)(h:∀s',Inv X pins σ H s'->Q (.bool (!o.isSome)) s') :
  wpAny (model X.prog X.w) A (compareOp .NotIn u (.ref a)) Q E s:=by
 rcases g with⟨kvs,k,e,ey,l⟩|⟨kvs,k,b,e,ey,eb,l⟩
 ·subst ey;obtain⟨z,hd,vs,rel,dd⟩:=CT I.hok e;refine wpAny_notIn_of (Eu ry) hd dd.mapOf ?_;rw[<- (rel.val k).wZ,<- l];exact h _ (I.tok _)
 ·subst ey
  cases(show u=Value.ref b from ry)
  obtain⟨z,hd,xs,rel,dd⟩:=CY I.hok e;refine wpAny_notIn_heap (fR hu) (v8 I.hok eb) hd dd ?_;have q:=(rel.val k).wZ;rw[h_]at q;rw[<- q,<- l];exact h _ (I.tok _)
def Ie{h':aq}{t':Nat}{ob:HO}(I:Inv X pins σ H s)(mu:Y9 (H a))(hs:Heap.SameBut a s.heap h')(he:∃q,h'.get? a=some q)(new:lC X.prog X.w (upd H a ob) h' a ob) :
  Inv X pins σ (upd H a ob) { s with heap:=h',toks:=t' }:=
 I.write (x:=a) (e:=a) mu (.inl rfl) (λb q hb z=>(hs.2 b hb).trans z) he new
def OW{P:aj}{w:ah}{H':Hp}{h':aq}{kvs:List (Key×V)}(z:kvs.length<=sizeLine)(hd:(a == sysModules)=false)(rel:KV kvs vs)(dd:h'.DictOf (kK P w) a vs) :
  lC P w H' h' a (.dK kvs):=⟨z,hd,vs,rel,dd⟩
def J7{H':Hp}{Q:Unit->aA->Prop}(hu:A.units+1<cLine)(I:Inv X pins σ H s)(g:Ef H a y v H')(ry:RelV y u)(rv:RelV v r)(h:∀s',Inv X pins σ H' s'->Q Unit.unit s') :
  wpAny (model X.prog X.w) A (setItem (.ref a) u r) Q E s:=by
 rcases g with⟨kvs,k,e,ey,l,eH⟩|⟨kvs,k,b,e,ey,eb,l,eH⟩
 ·subst ey eH;obtain⟨z,hd,vs,rel,dd⟩:=UW I.hok e;have hz:vs.length<=sizeLine:=by rw[<- rel.length];exact z
  have hl:(putK kvs k v).length<=sizeLine:=by have:=sJ kvs k v;lia
  refine wpAny_setItem_pairs (hsz:=hz) (Eu ry) dd λh' dd' hs=>h _ ?_;have he:∃q,h'.get? a=some q:=let⟨q,_,_,hq,_⟩:=dd';⟨q,hq⟩
  exact Ie I (by rw[e];exact True.intro) hs he (OW hl hd (rel.put k rv) dd')
 ·subst ey eH
  cases(show u=Value.ref b from ry)
  obtain⟨z,hd,xs,rel,dd⟩:=NP I.hok e;have hz:xs.length<=sizeLine:=by rw[<- jc rel];exact z
  have hl:(putK kvs k v).length<=sizeLine:=by have:=sJ kvs k v;lia
  refine wpAny_setItem_heap (hsz:=hz) (fR hu) (v8 I.hok eb) dd λh' dd' hs=>h _ ?_;obtain⟨q,es,ep,hq,h2,h3,h4,_,h5⟩:=dd';refine Ie I (by rw[e];exact True.intro) hs ⟨q,hq⟩ ⟨hl,hd,_,(rel.put k eb rv).keeps λc ys ec=>?_,q,es,ep,hq,h2,h3,h4,h5⟩;rw[jM (YZ ec e (λz=>nomatch z))];exact ec
end
def DG{X:Cx}{H:Hp}{s:aA}{a:ak}(I:Inv X pins σ H s)(g:uL H a y o):s.TypeIs (.ref a) "dict" := by
 rcases g with⟨kvs,k,e,_,_⟩|⟨kvs,k,b,e,_,_,_⟩
 ·obtain⟨_,_,vs,_,dd⟩:=CT I.hok e;exact dd.typeIs
 ·obtain⟨_,_,xs,_,dd⟩:=CY I.hok e;exact dd.typeIs
def Lr{P:aj}{w:ah}{H:Hp}(h:aq)(hb:sysModules<h.objs.size):lC P w H (h.push { cls:=.type "dict",data:=.dict #[]}) h.objs.size (.dK []):=
 ⟨bO _,d8.mpr (cR (bE hb)),[],.nil,Heap.DictOf.new h⟩
def Mn{P:aj}{w:ah}{H:Hp}(h:aq)(hb:sysModules<h.objs.size):lC P w H (h.push { cls:=.type "dict",data:=.dict #[]}) h.objs.size (.dT []):=
 ⟨bO _,d8.mpr (cR (bE hb)),[],.nil,_,#[],0,bB _ rfl,⟨rfl,rfl,rfl⟩,rfl,rfl,dB⟩
abbrev VH:TE:=λ_ H Q=>∀p,H p=none->Q (.ref p) (upd H p (.dK []))
abbrev Wx:TE:=λ_ H Q=>∀p,H p=none->Q (.ref p) (upd H p (.dT []))
section
variable {X:Cx}{pos:Pos}
def P5:PE X (.Dict [] [] pos) VH:=λpins s σ H Q I h=>
 wpAny_Dict_empty ⟨.ref s.heap.objs.size,_,I.laid (a:=s.heap.objs.size) (o:=.dK []) (t':=s.toks) (λ_ _ q=>aO _ q) (aQ _) (Lr s.heap I.big),rfl,h _ (I.hok.fresh (aQ _))⟩
def NB:PE X (.Dict [] [] pos) Wx:=λpins s σ H Q I h=>
 wpAny_Dict_empty ⟨.ref s.heap.objs.size,_,I.laid (a:=s.heap.objs.size) (o:=.dT []) (t':=s.toks) (λ_ _ q=>aO _ q) (aQ _) (Mn s.heap I.big),rfl,h _ (I.hok.fresh (aQ _))⟩
end
structure M1 (X:Cx)(o:aC)(m:Str)(apos:Pos)(e:aC)(cpos:Pos):Prop where
 base:attributeBase o m X.env (eval o X.env)=eval o X.env
 few:((backTo cpos (starEach [e] X.env)).all (λx=>!x.1) && (backToKw cpos (keywordEach [] X.env)).all (λx=>x.1.isSome)
  && decide (([e]:List aC).length+([]:List Keyword).length+(if ([]:List Keyword).isEmpty then 0 else 1)<30))=true
 line:(apos.endLine == cpos.line)=true
 trees:backTo cpos (starEach [e] X.env)=[(false,eval e X.env)]
structure M2 (X:Cx)(o:aC)(m:Str)(apos:Pos)(e f:aC)(cpos:Pos):Prop where
 base:attributeBase o m X.env (eval o X.env)=eval o X.env
 few:((backTo cpos (starEach [e,f] X.env)).all (λx=>!x.1) && (backToKw cpos (keywordEach [] X.env)).all (λx=>x.1.isSome)
  && decide (([e,f]:List aC).length+([]:List Keyword).length+(if ([]:List Keyword).isEmpty then 0 else 1)<30))=true
 line:(apos.endLine == cpos.line)=true
 trees:backTo cpos (starEach [e,f] X.env)=[(false,eval e X.env),(false,eval f X.env)]
section
variable {X:Cx}{pins:bv}{σ:St}{H:Hp}{s:aA}{a:ak}{y d:V}{u r:af}{o:Option V}{A:az}{E:af->aA->Prop}
def Ws{Q:af->aA->Prop}(hu:A.units+1<cLine)(I:Inv X pins σ H s)(g:uL H a y o)(ry:RelV y u)(rd:RelV d r)(h:∀w' s',Inv X pins σ H s'->RelV (o.getD d) w'->Q w' s') :
  wpAny (model X.prog X.w) A (call (.builtin "dict.get") [.ref a,u,r]) Q E s:=by
 rcases g with⟨kvs,k,e,ey,l⟩|⟨kvs,k,b,e,ey,eb,l⟩
 ·subst ey;obtain⟨z,hd,vs,rel,dd⟩:=CT I.hok e;refine call_meetsIn dG dd.typeIs ie (gT _ _ _) (meets_dict_get_default (kK X.prog X.w) a (Eu ry) hd r) ⟨_,dd.mapOf,h _ _ (I.tok _) ?_⟩;rw[l];exact(rel.val k).getD rd
 ·subst ey
  cases(show u=Value.ref b from ry)
  obtain⟨z,hd,xs,rel,dd⟩:=CY I.hok e;refine call_meetsIn dG dd.typeIs ie (gT _ _ _) (meetsH_dict_get_default (tupleKind (kK X.prog X.w)) a b hd r) ⟨fR hu,k,xs,v8 I.hok eb,dd,h _ _ (I.tok _) ?_⟩;rw[l];exact(rel.val k).getD rd
end
section
variable {X:Cx}
def IA(hu:X.A.units+1<cLine):Tr X (λx y H Q=>∃a v,x=.ref a/\uL H a y (some v)/\Q v H):=by
 intro value slice pins s σ H x y v u Q I rx ry h hs;obtain⟨a,z,rfl,g,q⟩:=h
 cases rx
 have hT:=DG I g;unfold subscriptTail;refine aF ?_;rw[getitemInPython_of_ne hT.not_modules];refine aF (wpAny_specialOf hT PySem.F.slot_dict_getitem.lookup ?_);have fin:wpAny (model X.prog X.w) X.A (subscripted slice false (.ref a) u) (λr s₃=>wpAny (model X.prog X.w) X.A (letTemporaryGo value (.ref a) r >>= λ_=>pure r) (EP X pins σ Q) X.xe s₃) X.xe s:=by
  rw[hs];exact wpAny_operating (K6 hu I g ry λw' s3 I3 rw'=>aF (wpAny_letTemporaryGo (aP ⟨z,H,I3,rw',q⟩)))
 first
  | exact aP (aF fin)
  | exact aF (aP (aF fin))
  | exact aF fin
def Kq(hu:X.A.units+1<cLine):oE X (compareOp .NotIn) (λy x H Q=>∃a o,x=.ref a/\uL H a y o/\Q (.bl (!o.isSome)) H):=by
 intro pins s σ H y x v u Q I ry rx h;obtain⟨a,o,rfl,g,q⟩:=h
 cases rx
 exact Rk hu I g ry λs3 I3=>⟨.bl (!o.isSome),H,I3,rfl,q⟩
def set_dict(hu:X.A.units+1<cLine):Kl X (λo i v H Q=>∃a H',o=.ref a/\Ef H a i v H'/\Q H'):=by
 intro pins s σ H o i v ov iv u Q I ro ri rv h;obtain⟨a,H',rfl,g,q⟩:=h
 cases ro
 exact J7 hu I g ri rv λs4 I4=>⟨H',I4,q⟩
abbrev Yk:V->List V->Hp->VK->Prop:=λx vs H Q=>∃a b ks kvs y,x=.ref a/\vs=[.ref b,y]/\H a=some (.dT kvs)/\H b=some (.tup (ks.map kV))/\Q ((pH kvs ks).getD y) H
def QW(hu:X.A.units+1<cLine):MtM X "dict.get" Yk:=by
 intro pins s σ H x vs v us Q I rx rv h;obtain⟨a,b,ks,kvs,y,rfl,rfl,ea,eb,q⟩:=h
 cases rx
 cases rv with
 | @cons _ u1 _ Xj r1 rv=>
  cases rv with
  | @cons _ u2 _ Dl r2 rv=>
   cases rv
   cases r1
   obtain⟨z,hd,xs,rel,dd⟩:=NP I.hok ea;refine call_meetsIn dG dd.typeIs ie (gT _ _ _) (meetsH_dict_get_default (tupleKind (kK X.prog X.w)) a b hd u2) ⟨fR hu,ks,xs,v8 I.hok eb,dd,?_⟩;refine⟨(pH kvs ks).getD y,H,I.tok _,?_,q⟩;have rl:=rel.val ks
   cases e1:pH kvs ks with
   | none=>
    rw[e1]at rl
    cases e2:(atKey xs ks).map (·.2)with
    | none=>exact r2
    | some w'=>rw[e2]at rl;exact rl.elim
   | some w1=>
    rw[e1]at rl
    cases e2:(atKey xs ks).map (·.2)with
    | none=>rw[e2]at rl;exact rl.elim
    | some w'=>rw[e2]at rl;exact rl
end
section
theorem kt_at{H:Hp}:∀{kvs:List (List Key×V)}{xs:List (List Key×ak×af)},KT H kvs xs->kvs.length=xs.length/\∀(i:Nat) (p:List Key×V),kvs[i]?=some p->∃y:List Key×ak×af,xs[i]?=some y/\p.1=y.1/\H y.2.1=some (.tup (p.1.map kV))/\RelV p.2 y.2.2
 | [],[],_=>⟨rfl,λi p h=>by simp at h⟩
 | [],_::_,r=>nomatch r
 | _::_,[],r=>nomatch r
 | a::kvs,b::xs,.cons z r=>by
  obtain⟨l,q⟩:=kt_at r;refine⟨by simp[l],λi p h=>?_⟩
  cases i with
  | zero=>
   have:a=p:=by simpa using h
   subst this;exact⟨b,rfl,z⟩
  | succ i=>exact q i p (by simpa using h)
end
abbrev C0 (e:ak)(h:aq):Prop:=∃o vs,h.get? e=some o/\o.data=.fields vs/\vs[2]?=some .none/\o.dict=none
abbrev j4 (e:ak){α:Type}(m:Sem α):Prop:=∀(M:Model) (Γ:PySem.Ctx) (Q:α->Pos->aA->Prop) (E:af->Pos->aA->Prop) (p:Pos) (s:aA),Sem.wp M Γ m Q E p s->C0 e s.heap->Sem.wp M Γ m (λa p s=>Q a p s/\C0 e s.heap) (λv p s=>E v p s/\C0 e s.heap) p s
section
variable {e:ak}{α β:Type}
def j4.bind{m:Sem α}{f:α->Sem β}(h1:j4 e m)(h2:∀a,j4 e (f a)):j4 e (m >>= f):=by
 intro M Γ Q E p s h c;rw[Sem.wp_bind']at h ⊢;exact Sem.wp_mono M Γ m (λa p' s' z=>h2 a M Γ Q E p' s' z.1 z.2) (λ_ _ _ z=>z) p s (h1 M Γ _ _ p s h c)
theorem j4.pure(a:α):j4 e (pure a:Sem α):=λM Γ Q E p s h c=>by rw[Sem.wp_pure']at h ⊢;exact⟨h,c⟩
def j4.NZ(w:String):j4 e (PySem.unsupported w:Sem α):=λM Γ Q E p s h c=>by
 have h:Sem.wp M Γ (.unsupported w:Sem α) Q E p s:=h;rw[Sem.wp_unsupported]at h;exact h.elim
def j4.load(a:ak):j4 e (PySem.load a):=λM Γ Q E p s h c=>by
 have h:Sem.wp M Γ (.load a none .pure) Q E p s:=h;show Sem.wp M Γ (.load a none .pure) _ _ p s;rw[Sem.wp_load]at h ⊢;obtain⟨o,ho,h⟩:=h;rw[iL]at h;exact⟨o,ho,by rw[iL];exact⟨h,c⟩⟩
def C0.update{h:aq}{a:ak}{f:Obj->Obj}(c:C0 e h)(hf:∀o vs,o.data=.fields vs->vs[2]?=some .none->∃ws,(f o).data=.fields ws/\ws[2]?=some .none/\(f o).dict=o.dict):C0 e (h.update a f):=by
 obtain⟨o,vs,h1,h2,h3,h4⟩:=c;by_cases z:a=e
 ·subst z;obtain⟨ws,w1,w2,w3⟩:=hf o vs h2 h3;exact⟨f o,ws,eT f h1 (f7 w1),w1,w2,w3.trans h4⟩
 ·exact⟨o,vs,by rw[eB _ _ z];exact h1,h2,h3,h4⟩
def j4.update(a:ak)(f:Obj->Obj)(hf:∀o vs,o.data=.fields vs->vs[2]?=some .none->∃ws,(f o).data=.fields ws/\ws[2]?=some .none/\(f o).dict=o.dict):j4 e (PySem.update a f):=λM Γ Q E p s h c=>by
 have h:Sem.wp M Γ (.update a none f .pure) Q E p s:=h;show Sem.wp M Γ (.update a none f .pure) _ _ p s;rw[Sem.wp_update]at h ⊢;obtain⟨ho,h⟩:=h;rw[iL]at h;exact⟨ho,by rw[iL];exact⟨h,c.update hf⟩⟩
def j4.alloc(o:Obj):j4 e (PySem.alloc o):=λM Γ Q E p s h c=>by
 have h:Sem.wp M Γ (.alloc o .pure) Q E p s:=h;show Sem.wp M Γ (.alloc o .pure) _ _ p s;rw[Sem.wp_alloc,iL]at h ⊢;obtain⟨ob,vs,h1,h2,h3,h4⟩:=c;exact⟨h,ob,vs,aO _ h1,h2,h3,h4⟩
def j4.stack:j4 e PySem.stack:=λM Γ Q E p s h c=>by
 have h:Sem.wp M Γ (.stack .pure) Q E p s:=h;show Sem.wp M Γ (.stack .pure) _ _ p s;rw[Sem.wp_stack,iL]at h ⊢;exact⟨h,c⟩
def j4.ite{c:Prop}[Decidable c]{a b:Sem α}(h1:j4 e a)(h2:j4 e b):j4 e (if c then a else b):=by
 split
 ·exact h1
 ·exact h2
def j4.field(v:af)(i:Nat):j4 e (PySem.field v i):=by
 unfold PySem.field PySem.fieldsOf;refine j4.bind ?_ λvs=>?_
 ·split
  ·refine j4.bind (j4.load _) λo=>?_;split
   ·exact j4.pure _
   ·exact j4.NZ _
  ·exact j4.NZ _
 ·split
  ·exact j4.pure _
  ·exact j4.NZ _
def j4.setField(v x:af)(i:Nat)(hi:i≠2):j4 e (PySem.setField v i x):=by
 unfold PySem.setField PySem.updateField;split
 ·refine j4.bind (j4.load _) λo=>?_;split
  ·refine j4.ite (j4.update _ _ λo vs h1 h2=>⟨_,eN h1 _,?_,?_⟩) (j4.NZ _)
   ·rw[iE hi];exact h2
   ·unfold Obj.mapFields;split<;>rfl
  ·exact j4.NZ _
 ·exact j4.NZ _
def j4.frameEnvs:j4 e PySem.frameEnvs:=by
 unfold PySem.frameEnvs;exact j4.bind j4.stack λ_=>j4.pure _
def j4.behind(env:Env)(outer:List Env):j4 e (behindIsImport env outer):=by
 unfold behindIsImport;refine j4.ite (j4.pure _) (j4.ite (j4.pure _) (j4.bind (j4.field _ _) λ_=>j4.pure _))
def j4.under:j4 e underTheClaimsCaller:=by
 unfold underTheClaimsCaller;exact j4.bind j4.stack λ_=>j4.pure _
def j4.kept(env:Env)(b:Bool)(l:List Env):j4 e (keptBack env b l):=by
 unfold keptBack;split
 ·refine j4.ite (j4.pure _) (j4.bind j4.under λ_=>j4.pure _)
 ·exact j4.pure _
theorem j4.ready:∀(l:List Env),j4 e (readyFrames l)
 | []=>j4.pure _
 | env::outer=>by
  unfold readyFrames;split
  ·refine j4.bind (j4.load _) λo=>?_;refine j4.ite (j4.pure _) ?_;refine j4.bind (j4.behind _ _) λ_=>j4.bind (j4.kept _ _ _) λ_=>j4.bind (j4.update _ _ λo vs h1 h2=>⟨vs,h1,h2,rfl⟩) λ_=>j4.ready outer
  ·exact j4.NZ _
def j4.frameOf(env:Env):j4 e (PySem.frameOf env):=by
 unfold PySem.frameOf;refine j4.bind j4.frameEnvs λl=>j4.bind ?_ λ_=>?_
 ·unfold frameObject;split
  ·exact j4.pure _
  ·exact j4.bind (j4.ready _) λ_=>j4.pure _
 ·split
  ·exact j4.pure _
  ·exact j4.NZ _
def j4.place(f:ak)(b:Bool):j4 e (entryPlaceOf f b):=by
 unfold entryPlaceOf;refine j4.bind j4.stack λ_=>?_;split
 ·exact j4.pure _
 ·exact j4.pure _
def j4.entry(a b c d f:af)(l:ba):j4 e (EntryCells.newEntry a b c d f l):=by
 unfold EntryCells.newEntry newFields newObj
 repeat (first|exact j4.pure _|exact j4.NZ _|refine j4.bind (j4.alloc _) λ_=>?_|refine j4.bind (j4.NZ _) λ_=>?_|refine j4.ite ?_ ?_|(refine j4.bind ?_ λ_=>?_))
def j4.flight(v:af)(f:Option ak):j4 e (setFlight v f):=by
 unfold setFlight;refine j4.bind (j4.field _ _) λ_=>j4.ite (j4.setField _ _ _ ⋯) (j4.pure _)
def j4.note(v:af)(env:Env):j4 e (noteFrame v env):=by
 unfold noteFrame;split
 ·refine j4.bind (j4.field _ _) λh=>j4.ite ?_ ?_
  ·refine j4.bind (j4.field _ _) λ_=>j4.ite (j4.pure _) ?_;refine j4.bind (j4.setField _ _ _ ⋯) λ_=>j4.bind (j4.frameOf _) λ_=>j4.bind (j4.place _ _) λ_=>j4.bind (j4.entry _ _ _ _ _ _) λ_=>j4.setField _ _ _ ⋯
  ·refine j4.bind (j4.frameOf _) λ_=>j4.bind (j4.place _ _) λ_=>j4.bind (j4.entry _ _ _ _ _ _) λ_=>j4.setField _ _ _ ⋯
 ·exact j4.NZ _
def j4.leave(v:af)(env:Env):j4 e (leaving env v):=by
 unfold leaving;exact j4.bind (j4.note _ _) λ_=>j4.flight _ _
def j4.any{m:Sem α}{A:az}{Q:α->aA->Prop}{E:af->aA->Prop}{s:aA}(k:j4 e m)(h:wpAny M A m Q E s)(c:C0 e s.heap):wpAny M A m (λa s'=>Q a s'/\C0 e s'.heap) (λv s'=>E v s'/\C0 e s'.heap) s:=
 λΓ p hΓ=>k M Γ _ _ p s (h Γ p hΓ) c
end
def lC.here{P:aj}{w:ah}{H:Hp}{h:aq}{a:ak}(x:lC P w H h a o):∃ob,h.get? a=some ob:=by
 cases o with
 | lst xs=>obtain⟨_,_,_,_,e⟩:=x;exact⟨_,e⟩
 | tup xs=>obtain⟨_,_,_,p⟩:=x;obtain⟨o,e,_⟩:=p;exact⟨_,e⟩
 | dK kvs=>obtain⟨_,_,_,_,o,_,_,e,_⟩:=x;exact⟨_,e⟩
 | dT kvs=>obtain⟨_,_,_,_,o,_,_,e,_⟩:=x;exact⟨_,e⟩
 | set S n=>obtain⟨o,_,_,_,e,_⟩:=x;exact⟨_,e⟩
 | ins C dx fs=>obtain⟨_,_,_,e,_⟩:=x;exact⟨_,e⟩
 | own y=>exact x
 | xd fs=>obtain⟨_,⟨_,_,_,e,_⟩,_⟩:=x;exact⟨_,e⟩
 | rng lo hi=>obtain⟨_,_,_,e⟩:=x;exact⟨_,e⟩
 | frz ob u=>obtain⟨e,_⟩:=x;exact⟨_,e⟩
 | tbl ps=>exact⟨_,(show h.get? a=some _ from x)⟩
 | met f y=>exact⟨_,(show h.get? a=some _ from x)⟩
 | ext φ=>obtain⟨_,⟨o,e⟩,_⟩:=x;exact⟨_,e⟩
structure Fly (l:List Env)(g:aq)(pn:bv)(H:Hp)(e:ak)(cls:af)(h:aq):Prop where
 ex:∃(B:aq) (a0:af),Heap.FlyingW B l e cls a0 h/\(∀a u,H a=some u->∃o,B.get? a=some o)/\(∀b o,g.get? b=some o->b∉frs l->∃o',B.get? b=some o')/\(∀p∈pn,∃o',B.get? p.1=some o')/\C0 e h
structure Made (X:Cx)(H:Hp)(e:ak)(cls:af)(g:aq)(h:aq):Prop where
 ex:∃(g':aq) (vs:ba),Heap.MadeExcOf g' h e cls vs/\g'.FunFrames X.base X.stack/\(∀a u,H a=some u->∃o,g'.get? a=some o)/\(∀b o,g.get? b=some o->∃o',g'.get? b=some o')/\(∀p∈X.pn,∃o',g'.get? p.1=some o')
def GS{g:aq}{cls:af}(M:Heap.MadeExcOf g h e cls vs):C0 e h:=by
 obtain⟨t,he,_⟩:=M.there;exact⟨_,_,he,rfl,rfl,rfl⟩
abbrev zz (X:Cx)(H:Hp)(e:ak)(cls:af)(s':aA):Prop:=Made X H e cls X.s₀.heap s'.heap\/Fly X.stack X.s₀.heap X.pn H e cls s'.heap
section
variable {X:Cx}{pins:bv}{σ:L2.St}{H:Hp}{s':aA}{e:ak}{cls:af}
def yz(I:Inv X pins σ H s')(hex:X.ex=[]){B:aq}(k1:B.StaysIn s'.heap)(k2:B.StaysIn h')(up:s'.heap.UpToSlots h')(c1:∀a u,H a=some u->∃o,B.get? a=some o)(c2:∀b o,X.s₀.heap.get? b=some o->b∉X.fs->∃o',B.get? b=some o') :
  Un X.fs [] X.H₀ H X.s₀.heap h'/\um X.prog X.w H h':=by
 have nx:∀b:ak,b∉X.ex:=λb z=>by rw[hex]at z;cases z
 have cov:∀b o o',B.get? b=some o'->s'.heap.get? b=some o->h'.get? b=some o:=λb o o' eb es=>by
  have:=k1 b o' eb;rw[es]at this;cases this;exact k2 b o eb
 have slot:∀b o,X.s₀.heap.get? b=some o->X.H₀ b=none->b∈X.fs->∃sl,h'.get? b=some { o with slots:=sl }:=λb o q n hb=>by
  obtain⟨sl,e1⟩:=I.base.slot b o q n hb (nx b);obtain⟨_,o2,q2,d2⟩:=I.ok.rF.mem hb;rw[q]at q2;cases q2;obtain⟨sl',e2⟩:=up b _ e1 d2;exact⟨sl',e2⟩
 refine⟨⟨λb o q n hb _=>?_,λb o q n hb _=>slot b o q n hb,λb o q n _=>I.base.free b o q n (nx b),λb o q _=>?_,I.base.tups,I.base.frzs,I.base.tbls⟩,λa u ea=>?_⟩
 ·obtain⟨o',eb⟩:=c2 b o q hb;exact cov b o o' eb (I.base.keep b o q n hb (nx b))
 ·by_cases hb:b∈X.fs
  ·obtain⟨sl,z⟩:=slot b o q (I.ok.frf b hb) hb;exact⟨_,z⟩
  ·obtain⟨o',eb⟩:=c2 b o q hb;exact⟨o',k2 b o' eb⟩
 ·refine(I.hok a u ea).stay (λb v hb q=>?_) (λ_ q=>q) λ_ _ q=>q
  rcases hb with z|z
  ·subst z;obtain⟨o',eb⟩:=c1 _ u ea;exact cov _ v o' eb q
  ·obtain⟨o',eb⟩:=c1 b _ z;exact cov b v o' eb q
def ES(I:Inv X pins σ H s')(hst:X.stack=X.env::X.outer)(hf:X.env.frame=some X.env.locals)(hex:X.ex=[])(R:zz X H e cls s'){Q:aA->Prop}{E:af->aA->Prop}
  (hQ:∀h',Un X.fs [] X.H₀ H X.s₀.heap h'->um X.prog X.w H h'->Fly X.outer X.s₀.heap [] H e cls h'->Q { s' with heap:=h' }):wpAny (model X.prog X.w) X.A (leaving X.env (.ref e)) (λ_ s''=>Q s'') E s':=by
 have hfr:X.A.frames=some (X.env::X.outer):=by rw[<- hst];exact I.ok.frames
 have nl:∀b o,X.s₀.heap.get? b=some o->b∉X.fs->b∉frs (X.env::X.outer):=λb o q hb z=>by
  unfold frs at z;rw[fF,hf]at z
  rcases bD.mp z with z|z
  ·rw[z]at q;exact absurd (bK (bf q) I.ok.above) (eE _)
  ·exact hb z
 rcases R with⟨g',vs,M,ffg,m1,m2,_⟩|⟨B,a0,F,c1,c2,_,k0⟩
 ·
  rw[hst]at ffg;have hin:∀env∈(X.env::X.outer),∀b,env.frame=some b->b∈frs (X.env::X.outer):=λenv he b hb=>gK.mpr ⟨env,he,hb⟩;refine dh (j4.any (e:=e) (j4.leave _ _) (wpAny_leaves_madeW (Q:=λ_ s''=>∃h' t,s''={ s' with heap:=h' }/\Heap.FlyingW (PySem.W.hideAll g' (frs (X.env::X.outer))) X.outer e cls (.ref t) h'/\s'.heap.UpToSlots h') (E:=λ_ _=>False) (base:=PySem.W.hideAll g' (frs (X.env::X.outer))) hfr hf (λb o q=>fQ _ q) (PySem.W.funFrames_hide ffg hin) M λh' t x1 x2 x3 x4=>⟨h',t,rfl,x1,x4⟩) (GS M)) (λ_ s'' z=>?_) λ_ _ z=>z.1.elim;obtain⟨⟨h',t,rfl,x1,x4⟩,k0⟩:=z;have k1:(PySem.W.hideAll g' (frs (X.env::X.outer))).StaysIn s'.heap:=λb o q=>M.keeps b o (fQ _ q);have c1:∀a u,H a=some u->∃o,(PySem.W.hideAll g' (frs (X.env::X.outer))).get? a=some o:=λa u ea=>by
   obtain⟨o,q⟩:=m1 a u ea;refine⟨o,d9 _ q λz=>?_⟩;rw[<- hst]at z;rw[I.xT a z]at ea;cases ea
  have c2:∀b o,X.s₀.heap.get? b=some o->b∉X.fs->∃o',(PySem.W.hideAll g' (frs (X.env::X.outer))).get? b=some o':=λb o q hb=>by
   obtain⟨o',q'⟩:=m2 b o q;exact⟨o',d9 _ q' (nl b o q hb)⟩
  obtain⟨un,hok⟩:=yz I hex k1 x1.1 x4 c1 c2;exact hQ h' un hok ⟨_,_,x1,c1,λb o q hb=>c2 b o q hb,λp hp=>absurd hp (by simp),k0⟩
 ·rw[hst]at F c2;refine dh (j4.any (e:=e) (j4.leave _ _) (wpAny_leaves_onW (Q:=λ_ s''=>∃h',s''={ s' with heap:=h' }/\Heap.FlyingW B X.outer e cls a0 h'/\s'.heap.UpToSlots h') (E:=λ_ _=>False) hfr hf F λh' x1 x4=>⟨h',rfl,x1,x4⟩) k0) (λ_ s'' z=>?_) λ_ _ z=>z.1.elim;obtain⟨⟨h',rfl,x1,x4⟩,k0'⟩:=z;have c2':∀b o,X.s₀.heap.get? b=some o->b∉X.fs->∃o',B.get? b=some o':=λb o q hb=>c2 b o q (nl b o q hb);obtain⟨un,hok⟩:=yz I hex F.1 x1.1 x4 c1 c2';exact hQ h' un hok ⟨_,_,x1,c1,c2',λp hp=>absurd hp (by simp),k0'⟩
end
abbrev zP (P:aj)(w:ah):PV:=λouter H s E e s''=>∃ea cls H',e=.ref ea/\s''.os=s.os/\AllBare s''.gens/\Un (frs outer) [] H H' s.heap s''.heap/\um P w H' s''.heap/\Fly outer s.heap [] H' ea cls s''.heap/\E cls none H'
section
variable {P:aj}{w:ah}{K:au}{mg:Str->bd}{base:aq}{N:ar}{qual:Str}{scope:Scope}{f:ak}{cd:af}{A:az}{outer:List Env}{s:aA}{H:Hp}{E:XK}
def JS{H':Hp}{cls:af}(I:Inv (vh (zP P w) P w K mg base N qual scope f cd A outer s H E) pins σ' H' s')
  (hf:(envOfC qual scope s.heap.objs.size f cd).frame=some (envOfC qual scope s.heap.objs.size f cd).locals)
  (R:zz (vh (zP P w) P w K mg base N qual scope f cd A outer s H E) H' ea cls s') (hE:E cls none H'):(vh (zP P w) P w K mg base N qual scope f cd A outer s H E).xe (.ref ea) s':=by
 refine ES I rfl hf rfl R (Q:=λs''=>zP P w outer H s E (.ref ea) s'') λh' un hok fl=>?_;exact⟨ea,cls,H',rfl,I.os,I.bare,un,hok,fl,hE⟩
abbrev EX (X:Cx):XK:=λcls _ H'=>X.ex=[]/\∀pins σ' s' e,Inv X pins σ' H' s'->zz X H' e cls s'->X.xe (.ref e) s'
def LV{X:Cx}(hP:X.prog=P)(hw:X.w=w):Passes (zP P w) X (EX X):=by
 intro pins σ H s e s' I ⟨ea,cls,H',he,os,bare,un,hok,⟨B,a0,F,c1,c2,_,k0⟩,hE⟩;subst he hP hw;obtain⟨hh,g,d,t,os'⟩:=s';obtain rfl:os'=s.os:=os;refine hE.2 pins σ _ ea (I.call (h':=hh) (g':=g) (d':=d) (t':=t) (ch:=[]) un hok bare (λb z=>absurd z (by simp))) (.inr ⟨B,a0,F,c1,λb o q hb=>?_,λp hp=>?_,k0⟩)
 ·obtain⟨o',q'⟩:=I.base.there b o q (by rw[hE.1];simp);exact c2 b o' q' hb
 ·obtain⟨q,_,n1,n2,_⟩:=I.pin p (cG _ hp);exact c2 p.1 _ q λz=>(bD.mp (I.zF _ z)).elim n1 n2
abbrev VJ (X:Cx)(C:ak)(t:TA):TS:=λ_ σ H=>t σ H λvs H'=>vs.length<=sizeLine/\EX X (.ref C) none H'
def MF{X:Cx}{x:Str}{B:String}{t:TA}(O:OwnCls x C bmB newId X.mg X.base)(FB:ExcBaseFacts B newId initId bmB)(hh:X.A.handled=none)(ha:PA X (e::es) t)(hg:Gl X x:=by rfl)
  (hs:starEach (e::es) X.env=(false,eval e X.env)::starEach es X.env:=by rfl) (hplain:(backTo cpos (starEach es X.env)).any (·.1)=false:=by rfl) (hd:(x == ("__debug__" : Str))=false:=by decide) :
  PS X (.Raise (some (.Call (.Name x np) (e::es) [] cpos)) none pos) (VJ X C t):=by
 kpf_c;obtain⟨tl,N,nm,q,bs,hdct,sn,sub,ab,col,dd,k0,k1,k2,k3,k5,mN,hC,hN,hni,T⟩:=O.obj;refine wpAny_Raise_call_subU (C:=C) (nm:=nm) (q:=q) (N:=N) (bs:=bs) (bm:=tl) (hdct:=hdct) (sn:=sn) (sub:=sub) (ab:=ab) (col:=col) (dd:=dd) (k0:=k0) (k1:=k1) (k2:=k2) (k3:=k3) (k5:=k5)
  FB FB.hasB FB (mN:=mN) (T.hasType FB.hasBase) hh (by rw[hs];show(false || (backTo cpos (starEach es X.env)).any (·.1))=false;rw[hplain];rfl) hni (u_ I hg O.bound ⟨rfl,?_⟩ hd)
 have hA:=ha cpos pins s σ H _ I h;rw[hs]at hA ⊢;refine Calls.evalArgs_plain (mL hA λus s2 ⟨vs,H2,I2,r2,hl,hex,q2⟩=>?_);refine⟨rfl,by rw[<- r2.length];exact hl,I2.bk _ _ hC,hN.keeps I2.bk,T.keeps I2.bk,λh' ea M=>?_⟩;refine q2 pins σ { s2 with heap:=h' } ea ?_ (.inl ⟨s2.heap,us,M,I2.stack,λa u ea=>?_,λb o q=>?_,λp hp=>⟨_,(I2.pin p (cG _ hp)).1⟩⟩)
 ·exact I2.kept (t':=s2.toks) M.keeps
 ·exact(I2.hok a u ea).here
 ·exact I2.base.there b o q (by rw[hex];simp)
end
abbrev zK:List (Str ⊕ TE)->St->Hp->(Hp->Prop)->Prop
 | [],_,H,k=>k H
 | .inl x::ps,σ,H,k=>x.length<=1000/\zK ps σ H k
 | .inr t::ps,σ,H,k=>t σ H λv H'=>∃i,v=.int i/\i.natAbs.log2<64/\zK ps σ H' k
inductive FParts (X:Cx):List aC->List (Str ⊕ TE)->Prop
 | nil:FParts X [] []
 | txt {x:Str} {j pos} {es:List aC} {ps:List (Str ⊕ TE)} (h:FParts X es ps):FParts X (.Constant (.str x) j pos::es) (.inl x::ps)
 | val {e:aC} {pos:Pos} {t:TE} {es:List aC} {ps:List (Str ⊕ TE)} (he:PE X e t) (h:FParts X es ps):FParts X (.FormattedValue e (-1) none pos::es) (.inr t::ps)
theorem uO{X:Cx}{Q:VK}:∀{es:List aC}{ps:List (Str ⊕ TE)},FParts X es ps->∀(H:Hp) (s:aA) (out:Str),Inv X pins σ H s->out.length+2000 * es.length<=sizeLine ->
  zK ps σ H (λH'=>∀x:Str,x.length<=sizeLine->Q (.str x) H')->wpAny (model X.prog X.w) X.A (joinParts out (evalEach es X.env)) (EP X pins σ Q) X.xe s
 | _,_,.nil,H,s,out,I,hl,h=>joinParts_nilE (joinParts_nil (show EP X pins σ Q _ _ from⟨.str out,H,I.tok _,⟨_,rfl⟩,h out (by simpa using hl)⟩) (by simpa using hl))
 | _,_,.txt (x:=x) hp,H,s,out,I,hl,h=>by
  refine joinParts_consE (joinParts_cons (Calls.Constant_str ?_));rw[bC]at hl;have hx:=h.1;have hz:(out++x).length=out.length+x.length:=strLen_append ..;exact⟨by rw[hz];lia,uO hp H _ _ (I.tok _) (by rw[hz];lia) h.2⟩
 | _,_,.val (e:=e) (t:=t) he hp,H,s,out,I,hl,h=>by
  rw[bC]at hl;refine joinParts_consE (joinParts_cons (FormattedValue_plain (mL (he pins s σ H _ I h) λv s1 ⟨x,H1,I1,r1,i,hx,hi,h1⟩=>?_)));subst hx;obtain⟨tk,rfl⟩:=r1;refine formatField_int_small () ?_;have ht:(Str.ofString (toString i)).length<=65:=by
   have:=int_text_length_le (a:=i) (k:=64) ⋯ hi;rw[PySem.ofString_length];exact this
  have hz:(out++Str.ofString (toString i)).length=out.length+(Str.ofString (toString i)).length:=strLen_append ..;exact⟨by rw[hz];lia,uO hp H1 _ _ (I1.tok _) (by rw[hz];lia) h1⟩
abbrev tFs (ps:List (Str ⊕ TE)):TE:=λσ H Q=>zK ps σ H λH'=>∀x:Str,x.length<=sizeLine->Q (.str x) H'
def Zn{X:Cx}(h:FParts X (e1::e2::es) ps)(hl:2000 * (e1::e2::es).length<=sizeLine:=by decide):PE X (.JoinedStr (e1::e2::es) pos) (tFs ps):=
 λpins s σ H Q I q=>JoinedStr_many (uO h H s Str.empty I (by rw[show Str.empty.length=0 from rfl,cW];exact hl) q)
abbrev Cx.z9 (X:Cx)(pn':bv)(xe':af->aA->Prop):Cx:={ X with xe:=xe',pn:=pn' }
abbrev xu:HO:=.ext λ_=>True
abbrev Cx.hand (X:Cx)(pn':bv)(e:ak)(oe:Obj):Cx:={ X with A:=X.A.mark (some (.ref e)),calm:=false,xe:=λ_ _=>False,pn:=pn',H₀:=upd X.H₀ e (.frz oe xu)}
structure XO (C:ak)(o:Obj):Prop where
 cls:o.cls=.ref C
 dict:o.dict=none
 ctx:∃vs,o.data=.fields vs/\vs[2]?=some .none
structure Fr0 (X:Cx)(e:ak):Prop where
 no:∀o,X.s₀.heap.get? e≠some o
 tup:∀xs,X.H₀ e≠some (.tup xs)
 frz:∀o u,X.H₀ e≠some (.frz o u)
 tbl:∀ps,X.H₀ e≠some (.tbl ps)
section
variable {X:Cx}{pins:bv}{σ:L2.St}{H:Hp}{s':aA}{e:ak}{cls:af}
def K4(I:Inv X pins σ H s')(hst:X.stack=X.env::X.outer)(hf:X.env.frame=some X.env.locals)(R:zz X H e cls s'){Q:Unit->aA->Prop}{E:af->aA->Prop}
  (hQ:∀h' B a0,Heap.HeldW B (X.env::X.outer) e cls a0 X.env.locals h'->B.StaysIn s'.heap->s'.heap.UpToSlots h'->(∀a u,H a=some u->∃o,B.get? a=some o)->(∀b o,X.s₀.heap.get? b=some o->b∉X.fs->∃o',B.get? b=some o')->(∀p∈X.pn,∃o',B.get? p.1=some o')->C0 e h'->Q Unit.unit { s' with heap:=h' }) :
  wpAny (model X.prog X.w) X.A (noteFrame (.ref e) X.env) Q E s':=by
 have hfr:X.A.frames=some (X.env::X.outer):=by rw[<- hst];exact I.ok.frames
 have nl:∀b o,X.s₀.heap.get? b=some o->b∉X.fs->b∉frs (X.env::X.outer):=λb o q hb z=>by
  unfold frs at z;rw[fF,hf]at z
  rcases bD.mp z with z|z
  ·rw[z]at q;exact absurd (bK (bf q) I.ok.above) (eE _)
  ·exact hb z
 rcases R with⟨g',vs,M,ffg,m1,m2,m3⟩|⟨B,a0,F,c1,c2,c3,k0⟩
 ·rw[hst]at ffg;have hin:∀env∈(X.env::X.outer),∀b,env.frame=some b->b∈frs (X.env::X.outer):=λenv he b hb=>gK.mpr ⟨env,he,hb⟩;have hl:=PySem.W.funFrames_hide ffg hin;obtain⟨t,he,htn,ht⟩:=M.there;have bn:(PySem.W.hideAll g' (frs (X.env::X.outer))).get? e=none:=by
   cases hq:(PySem.W.hideAll g' (frs (X.env::X.outer))).get? e with
   | none=>rfl
   | some o'=>have:=fQ _ hq;rw[M.new]at this;cases this
  have k1:(PySem.W.hideAll g' (frs (X.env::X.outer))).StaysIn s'.heap:=λb o q=>M.keeps b o (fQ _ q);have go:wpAny (model X.prog X.w) X.A (noteFrame (.ref e) X.env) (λ_ s''=>∃h',s''={ s' with heap:=h' }/\Heap.HeldW (PySem.W.hideAll g' (frs (X.env::X.outer))) (X.env::X.outer) e cls (.ref t) X.env.locals h'/\s'.heap.UpToSlots h') (λ_ _=>False) s':=by
   unfold noteFrame;dsimp[hf];refine aF (eG he rfl (x:=.none) rfl ?_);rw[aI ⋯];refine wpAny_entryW (base:=PySem.W.hideAll g' (frs (X.env::X.outer))) (a0:=.ref t) hfr (hl.of_keeps λb o hb _=>⟨o,M.keeps b o hb,rfl⟩) hf he k1 bn rfl (by simp) rfl λh' hL=>?_;obtain⟨x1,x2,x3,x4⟩:=hL;exact⟨h',rfl,⟨x1,bn,x2,x3⟩,x4⟩
  refine dh (j4.any (e:=e) (j4.note _ _) go (GS M)) (λ_ s'' z=>?_) λ_ _ z=>z.1.elim;obtain⟨⟨h',rfl,x1,x4⟩,k0⟩:=z;refine hQ h' _ _ x1 k1 x4 (λa u ea=>?_) (λb o q hb=>?_) (λp hp=>?_) k0
  ·obtain⟨o,q⟩:=m1 a u ea;refine⟨o,d9 _ q λz=>?_⟩;rw[<- hst]at z;rw[I.xT a z]at ea;cases ea
  ·obtain⟨o',q'⟩:=m2 b o q;exact⟨o',d9 _ q' (nl b o q hb)⟩
  ·obtain⟨o',q'⟩:=m3 p hp;obtain⟨q,_,n1,n2,_⟩:=I.pin p (cG _ hp);refine⟨o',d9 _ q' λz=>?_⟩;rw[<- hst]at z;exact(bD.mp (I.zF _ z)).elim n1 n2
 ·rw[hst]at F c2;refine dh (j4.any (e:=e) (j4.note _ _) (wpAny_looks_onW (Q:=λ_ s''=>∃h',s''={ s' with heap:=h' }/\Heap.HeldW B (X.env::X.outer) e cls a0 X.env.locals h'/\s'.heap.UpToSlots h') (E:=λ_ _=>False) hfr hf F λh' x1 x4=>⟨h',rfl,x1,x4⟩) k0) (λ_ s'' z=>?_) λ_ _ z=>z.1.elim;obtain⟨⟨h',rfl,x1,x4⟩,k0'⟩:=z;exact hQ h' B a0 x1 F.1 x4 c1 (λb o q hb=>c2 b o q (nl b o q hb)) c3 k0'
end
section
variable {X:Cx}{pn' pins:bv}{xe':af->aA->Prop}{σ:L2.St}{H:Hp}{s':aA}{e C:ak}{B h6:aq}{a0:af}
def Ax(I:Inv (X.z9 pn' xe') pins σ H s')(hex:X.ex=[])(F:Heap.FlyingW B (X.env::X.outer) e (.ref C) a0 h6)(k1:B.StaysIn s'.heap)(up:s'.heap.UpToSlots h6)
  (c1:∀a u,H a=some u->∃o,B.get? a=some o) (c2:∀b o,X.s₀.heap.get? b=some o->b∉X.fs->∃o',B.get? b=some o') (c3:∀p∈pn',∃o',B.get? p.1=some o') (k0:C0 e h6) :
  Fr0 X e/\H e=none/\∃oe,XO C oe/\Inv (X.hand pn' e oe) [] σ (upd H e (.frz oe xu)) { s' with heap:=h6 }:=by
 obtain⟨un,hok⟩:=yz I hex k1 F.1 up c1 c2;have hn:H e=none:=by
  cases q:H e with
  | none=>rfl
  | some u=>obtain⟨o,z⟩:=c1 e u q;rw[F.2.1]at z;cases z
 obtain⟨o0,vs0,g1,g2,g3,g5⟩:=k0;have ns:∀o,X.s₀.heap.get? e≠some o:=λo q=>by
  by_cases hb:e∈X.fs
  ·obtain⟨_,o2,q2,d2⟩:=I.ok.rF.mem hb;have q2:X.s₀.heap.get? e=some o2:=q2;rw[q]at q2;cases q2;obtain⟨sl,z⟩:=un.slot e o q (I.ok.frf e hb) hb (by simp);rw[g1]at z;have z:o0=_:=aW z;rw[z]at g2;exact d2 _ g2
  ·obtain⟨o',z⟩:=c2 e o q hb;rw[F.2.1]at z;cases z
 have hs0:∀(b:ak) (ob:Obj),s'.heap.get? b=some ob->(∀vs,ob.data≠.fields vs)->b≠e:=λb ob q d z=>by
  obtain⟨sl,z'⟩:=up b ob q d;rw[z,g1]at z';have z':o0=_:=aW z';rw[z']at g2;exact d _ g2
 obtain⟨m,hm,hl⟩:=id I.loc;have hm':s'.heap.Ns X.env.locals m:=hm;have cel:∀c v,s'.heap.IsCell c v->h6.IsCell c v:=λc v h9=>by
  obtain⟨oc,q,d⟩:=h9;obtain⟨sl,z⟩:=up c oc q λvs y=>by rw[d]at y;cases y
  exact⟨_,z,d⟩
 have lne:X.env.locals≠e:=by
  obtain⟨oL,es,ep,q,d,_⟩:=id hm';exact hs0 _ oL q λvs y=>by rw[d]at y;cases y
 have xo:XO C o0:=by
  obtain⟨_,_,_,oe,vs,T,oT,ts,he,⟨hc,_⟩,hd,_⟩:=F;rw[g1]at he;have he:o0=oe:=aW he;subst he;exact⟨hc,g5,vs0,g2,g3⟩
 have no:∀u,H e≠some u:=λu q=>by rw[hn]at q;cases q
 have fr:Fr0 X e:=⟨ns,λxs q=>no _ (un.tups e xs q),λo u q=>no _ (un.frzs e o u q),λps q=>let⟨_,z⟩:=un.tbls e ps q;no _ z⟩;refine⟨fr,hn,o0,xo,⟨I.ok.mod,I.ok.kind,I.ok.glob,I.ok.blt,I.ok.above,I.ok.inj,I.ok.has,I.ok.cab,λh=>(by cases h),I.ok.frames,I.ok.stk,I.ok.exf,λb o q=>⟨(I.ok.bs b o q).1,?_⟩,I.ok.bsz,I.ok.noex,I.ok.exfs,I.ok.rF,λb hb=>?_⟩,I.os,I.bare,?_,⟨m,up.ns hm',λi x v h1 h2 h3=>?_⟩,λx c h=>?_,?_,λx c h=>?_,λp hp=>?_,λb u q=>?_,I.len⟩
 ·show upd X.H₀ e _ b=none;rw[jM (λz=>ns o (by rw[<- z];exact(I.ok.bs b o q).1))];exact(I.ok.bs b o q).2
 ·show upd X.H₀ e _ b=none;obtain⟨_,o2,q2,d2⟩:=I.ok.rF.mem hb;rw[jM (λz=>ns o2 (by rw[<- z];exact q2))];exact I.ok.frf b hb
 ·have h0:∀b o,X.s₀.heap.get? b=some o->upd X.H₀ e (.frz o0 xu) b=none->X.H₀ b=none:=λb o q n=>by
   rwa [jM (λz=>ns o (by rw[<- z];exact q))]at n
  refine⟨λb o q n h _=>un.keep b o q (h0 b o q n) h (by simp),λb o q n h _=>un.slot b o q (h0 b o q n) h (by simp),λb o q n _=>?_,λb o q _=>un.there b o q (by simp),λb xs q=>?_,λb o u q=>?_,λb ps q=>?_⟩
  ·rw[jM (λz=>ns o (by rw[<- z];exact q))];exact un.free b o q (h0 b o q n) (by simp)
  ·have q:upd X.H₀ e (.frz o0 xu) b=some (.tup xs):=q;by_cases hb:b=e
   ·rw[hb,ko]at q;cases q
   ·rw[jM hb]at q ⊢;exact un.tups b xs q
  ·have q:upd X.H₀ e (.frz o0 xu) b=some (.frz o u):=q;by_cases hb:b=e
   ·rw[hb,ko]at q ⊢;exact q
   ·rw[jM hb]at q ⊢;exact un.frzs b o u q
  ·have q:upd X.H₀ e (.frz o0 xu) b=some (.tbl ps):=q;by_cases hb:b=e
   ·rw[hb,ko]at q;cases q
   ·rw[jM hb]at q ⊢;exact un.tbls b ps q
 ·obtain⟨u,r,lk⟩:=hl i x v h1 h2 h3;refine⟨u,r,?_⟩
  rcases lk with⟨k,z⟩|⟨k,c,z,y⟩
  ·exact .inl ⟨k,z⟩
  ·exact .inr ⟨k,c,z,cel c _ y⟩
 ·obtain⟨v,z⟩:=I.cell x c h;exact⟨v,cel c v z⟩
 ·show upd H e _ X.env.locals=none;rw[jM lne];exact I.free
 ·obtain⟨v,oc,q,d⟩:=I.cell x c h;rw[jM (hs0 c oc q λvs y=>by rw[d]at y;cases y)];exact I.freeC x c h
 ·have hp:p∈pn':=by
   have hp:p∈pn'++[]:=hp
   rwa [bU]at hp
  obtain⟨q,n,n1,n2,d⟩:=I.pin p (cG _ hp);obtain⟨o',z⟩:=c3 p hp;have z1:=k1 _ _ z;rw[q]at z1;have z1:p.2=o':=aW z1;refine⟨by rw[z1];exact F.1 _ _ z,?_,n1,n2,d⟩;rw[jM (λy=>by rw[y,F.2.1]at z;cases z)];exact n
 ·by_cases hb:b=e
  ·subst hb;rw[ko]at q;cases q;exact⟨g1,trivial,⟨o0,g1⟩,λ_ _ _ _=>trivial⟩
  ·rw[jM hb]at q;exact(hok b u q).stay (λ_ _ _ z=>z) (λc z=>by rw[jM (jU z hn)];exact z) λc xs z=>by rw[jM (jU z hn)];exact z
end
section
variable {X:Cx}{pins:bv}{σ:L2.St}{H:Hp}{s:aA}
def Lc{A:az}{E:af->aA->Prop}{i:Nat}{n:Str}{v:V}{Q:Unit->aA->Prop}(I:Inv X pins σ H s)(hN:X.N.Nodup)(hi:X.N[i]?=some n)(hlo:X.env.scope.names.lookup n=some .local)(hv:σ[i]?=some (some v))
  (h:∀s',Inv X pins (σ.set i none) H s'->Q Unit.unit s'):wpAny M A (unbindName X.env n) Q E s:=by
 obtain⟨m,hn,hl⟩:=id I.loc;obtain⟨u,r,lk⟩:=hl i n v hi hv (.inl hlo);have hm:m n=some u:=by
  rcases lk with⟨_,z⟩|⟨k,_⟩
  ·exact z
  ·exfalso;have hk:X.env.kindOf n=some .local:=hlo
   rcases k with k|k<;>(rw[hk]at k;cases k)
 have hcl:(X.env.scope.kind == .class || (X.env.scope.kind == .module && X.env.locals != X.env.globals))=false:=by rw[I.ok.kind];rfl
 refine wpAny_unbindName_local hlo hn hm hcl λh' u' hn' hs=>?_;have far:∀b o,X.s₀.heap.get? b=some o->h'.get? b=s.heap.get? b:=λb o q=>hs.2 b (bE (bK (bf q) I.ok.above));obtain⟨oL,_,_,hoL,_⟩:=id hn;refine h _ ⟨I.ok,I.os,I.bare,⟨λb o q a1 a2 a3=>(far b o q).trans (I.base.keep b o q a1 a2 a3),λb o q a1 a2 a3=>?_,I.base.free,λb o q a3=>?_,I.base.tups,I.base.frzs,I.base.tbls⟩,⟨_,hn',λj y v' e1 e2 e3=>?_⟩,λy c q=>?_,I.free,I.freeC,λp hp=>?_,λb ob q=>?_,by rw[cu];exact I.len⟩
 ·obtain⟨sl,z⟩:=I.base.slot b o q a1 a2 a3;exact⟨sl,(far b o q).trans z⟩
 ·obtain⟨o',z⟩:=I.base.there b o q a3;exact⟨o',(far b o q).trans z⟩
 ·by_cases hj:j=i
  ·subst hj;have:j<σ.length:=(aL.mp hv).1;rw[bN this]at e2
   cases e2
  ·rw[bW (cR hj)]at e2;obtain⟨w,r',q⟩:=hl j y v' e1 e2 e3;refine⟨w,r',?_⟩
   rcases q with⟨k,z⟩|⟨k,c,z,y'⟩
   ·have:y≠n:=λz=>hj (yx hN e1 (z ▸ hi));exact .inl ⟨k,by simp[this,z]⟩
   ·exact .inr ⟨k,c,z,y'.sameBut hs (I.Sy y c z)⟩
 ·obtain⟨w,z⟩:=I.cell y c q;exact⟨w,z.sameBut hs (I.Sy y c q)⟩
 ·obtain⟨z,n0,ne,nf,d⟩:=I.pin p hp;exact⟨(hs.2 p.1 ne).trans z,n0,ne,nf,d⟩
 ·refine(I.hok b ob q).stay (λc w hc z=>(hs.2 c ?_).trans z) (λ_ z=>z) λ_ _ z=>z;intro y
  rcases hc with hc|hc
  ·rw[<- hc,y,I.free]at q;cases q
  ·rw[y,I.free]at hc;cases hc
def Inv.z9(I:Inv X pins σ H s)(xe':af->aA->Prop):Inv (X.z9 (X.pn++pins) xe') [] σ H s:=
 ⟨⟨I.ok.mod,I.ok.kind,I.ok.glob,I.ok.blt,I.ok.above,I.ok.inj,I.ok.has,I.ok.cab,I.ok.hd,I.ok.frames,I.ok.stk,I.ok.exf,I.ok.bs,I.ok.bsz,I.ok.noex,I.ok.exfs,I.ok.rF,I.ok.frf⟩,I.os,I.bare,I.base,I.loc,I.cell,I.free,I.freeC,λp hp=>I.pin p (by
  have hp:p∈(X.pn++pins)++[]:=hp
  rwa [bU]at hp),I.hok,I.len⟩
def Inv.ID{xe':af->aA->Prop}(I:Inv (X.z9 (X.pn++pins) xe') pins' σ H s):Inv X pins σ H s:=
 ⟨⟨I.ok.mod,I.ok.kind,I.ok.glob,I.ok.blt,I.ok.above,I.ok.inj,I.ok.has,I.ok.cab,I.ok.hd,I.ok.frames,I.ok.stk,I.ok.exf,I.ok.bs,I.ok.bsz,I.ok.noex,I.ok.exfs,I.ok.rF,I.ok.frf⟩,I.os,I.bare,I.base,I.loc,I.cell,I.free,I.freeC,λp hp=>I.pin p (cG _ hp),I.hok,I.len⟩
def Inv.Xm(I:Inv (X.hand (X.pn++pins) e oe) pins' σ H s)(ok:X.Ok)(f0:Fr0 X e):Inv X pins σ H s:=
 have h0:∀b o,X.s₀.heap.get? b=some o->X.H₀ b=none->upd X.H₀ e (.frz oe xu) b=none:=λb o q n=>by
  rw[jM (λz=>f0.no o (by rw[<- z];exact q))];exact n
 ⟨ok,I.os,I.bare,⟨λb o q n=>I.base.keep b o q (h0 b o q n),λb o q n=>I.base.slot b o q (h0 b o q n),λb o q n=>I.base.free b o q (h0 b o q n),I.base.there,λb xs q=>I.base.tups b xs (show upd X.H₀ e (.frz oe xu) b=_ by rw[jM (λz=>f0.tup xs (by rw[<- z];exact q))];exact q),λb o u q=>I.base.frzs b o u (show upd X.H₀ e (.frz oe xu) b=_ by rw[jM (λz=>f0.frz o u (by rw[<- z];exact q))];exact q),λb ps q=>I.base.tbls b ps (show upd X.H₀ e (.frz oe xu) b=_ by rw[jM (λz=>f0.tbl ps (by rw[<- z];exact q))];exact q)⟩,I.loc,I.cell,I.free,I.freeC,λp hp=>I.pin p (cG _ hp),I.hok,I.len⟩
end
section
variable {M:Model}{A:az}{E:af->aA->Prop}{h:aq}{g:Array GenState}{d:Drawn}{t:Nat}{os:OsState}{C N D N':ak}{nm q nm' q':Str}{bs bm bs' bm':ba}{hdct hdct':Bool}{sn sn':ar}{sub sub':ba}{ab ab':Bool}{col col':bj}{dd dd':Option ak}{k0 k1 k2 k3 k5 k0' k1' k2' k3' k5':bd}{newId newId':String}
def Af{oe:Obj}{Q:Bool->aA->Prop}(hC:h.get? C=some (excClassObj nm q C N bs bm hdct sn sub ab col dd k0 k1 k2 k3 k5 newId))(hD:h.get? D=some (excClassObj nm' q' D N' bs' bm' hdct' sn' sub' ab' col' dd' k0' k1' k2' k3' k5' newId'))
  (he:h.get? e=some oe) (hcls:oe.cls=.ref C) (hbase:bm'.contains (.type "BaseException")=true) (hq:Q ((Value.ref C::bm).contains (.ref D)) ⟨h,g,d,t,os⟩):wpAny M A (excMatches (.ref e) (.ref D)) Q E ⟨h,g,d,t,os⟩:=by
 have hcB:(Value.ref D::bm').contains (.type "BaseException")=true:=by rw[List.contains_cons,hbase,Bool.or_true]
 have f:=tc_notTuple;unfold excMatches
 repeat (first|(with_reducible refine wpAny_loadPart_at he ?_;rw[hcls])|with_reducible refine wpAny_loadPart_at hD ?_|(with_reducible refine wpAny_isSubtype_exc hD ?_;rw[hcB])|with_reducible refine wpAny_isSubtype_exc hC ?_|wp_step)
 cases hb:(Value.ref C::bm).contains (.ref D)<;>(rw[hb]at hq;wp_walk;exact hq)
end
abbrev mroIn (K:au)(C:ak):Option (ba):=match K.lookup C with
 | some ⟨.type "type",_,.cls cd,sl⟩=>(match cd.mro,sl.toList with
  | .ref C'::bm,[_,_,_,_,some (.builtin _),_]=>if C'=C/\cd.hasDel=false then some bm else none
  | _,_=>none)
 | _=>none
structure ClsAt (h:aq)(C:ak)(bm:ba):Prop where
 ex:∃nm q N bs hdct sn sub ab col dd k0 k1 k2 k3 k5 newId,h.get? C=some (excClassObj nm q C N bs bm hdct sn sub ab col dd k0 k1 k2 k3 k5 newId)
def Ql{K:au}(X:K.In h)(e:mroIn K C=some bm):ClsAt h C bm:=by
 unfold mroIn at e;split at e
 ·rename_i dd cd sl ho;split at e
  ·rename_i C' bm' k0 k1 k2 k3 n k5 hm hs;split at e
   ·rename_i hc
    cases e
    obtain⟨rfl,hdel⟩:=hc;obtain⟨nm,bs,mro,ns,qn,hd,sn,sub,ab,col,del⟩:=cd;dsimp only at hm hdel;subst hm hdel;have hsl:sl=#[k0,k1,k2,k3,some (.builtin n),k5]:=by
     obtain⟨l⟩:=sl;simp only at hs;rw[hs]
    subst hsl;exact⟨nm,qn,ns,bs,hd,sn,sub,ab,col,dd,k0,k1,k2,k3,k5,n,X _ _ ho⟩
   ·cases e
  ·cases e
 ·cases e
abbrev unD (i:Nat)(D:Ends):Ends:=⟨λσ H=>D.nx (σ.set i none) H,D.rt,λσ H=>D.bk (σ.set i none) H,λσ H=>D.ct (σ.set i none) H⟩
section
variable {X:Cx}{pins pins':bv}{xe':af->aA->Prop}{σ:L2.St}{H:Hp}{s':aA}{e C Dc:ak}{bm bmD:ba}{x n:Str}{i:Nat}{De:Ends}{b0:aE}{suite:List aE}{np hp:Pos}
def Dz{f:Flow}(hN:X.N.Nodup)(hi:X.N[i]?=some n)(hlo:X.env.scope.names.lookup n=some .local)(ok:X.Ok)(f0:Fr0 X e)(h:SP (X.hand (X.pn++pins) e oe) [] (unD i De) f s2) :
  wpAny (model X.prog X.w) X.A (do bindName X.env n .none;unbindBehindTheSuite X.env n pos) (λ_ s3=>SP X pins De f s3) X.xe s2:=by
 have hl:∀{σ':L2.St} {H':Hp},Inv (X.hand (X.pn++pins) e oe) [] σ' H' s2->(∀s3,Inv X pins (σ'.set i none) H' s3->SP X pins De f s3)->wpAny (model X.prog X.w) X.A (do bindName X.env n .none;unbindBehindTheSuite X.env n pos) (λ_ s3=>SP X pins De f s3) X.xe s2:=λ{σ' H'} J k=>by
  have J:=J.Xm ok f0;have hiσ:i<σ'.length:=by rw[J.len];exact(aL.mp hi).1
  refine aF (wpAny_bindName (u5 (v:=.non) J hN hi (.inl hlo) rfl (λs3 J3=>?_) (.inr hlo)));unfold unbindBehindTheSuite;refine wpAny_onRaise (Lc (v:=.non) J3 hN hi hlo (bN hiσ) λs4 J4=>k s4 ?_)
  rwa [List.set_set]at J4
 cases f with
 | next=>obtain⟨σ',H',J,q⟩:=h;exact hl J λs3 J3=>⟨_,_,J3,q⟩
 | brk=>obtain⟨σ',H',J,q⟩:=h;exact hl J λs3 J3=>⟨_,_,J3,q⟩
 | cont=>obtain⟨σ',H',J,q⟩:=h;exact hl J λs3 J3=>⟨_,_,J3,q⟩
 | ret u=>obtain⟨v,σ',H',J,r,q⟩:=h;exact hl J λs3 J3=>⟨v,_,_,J3,r,q⟩
def Mf(hst:X.stack=X.env::X.outer)(hf:X.env.frame=some X.env.locals)(hex:X.ex=[])(hN:X.N.Nodup)(hi:X.N[i]?=some n)(hlo:X.env.scope.names.lookup n=some .local)(hg:Gl X x)(hm:X.mg x=some (.ref Dc))(mD:mroIn X.K Dc=some bmD)(hbD:bmD.contains (.type "BaseException")=true)
  (I:Inv (X.z9 (X.pn++pins) xe') pins' σ H s') (R:zz (X.z9 (X.pn++pins) xe') H e (.ref C) s') (mC:mroIn X.K C=some bm) (hCD:(Value.ref C::bm).contains (.ref Dc)=true)
  (k:∀oe s6,XO C oe->H e=none->Inv (X.hand (X.pn++pins) e oe) [] (σ.set i (some (.ref e))) (upd H e (.frz oe xu)) s6->wpAny (model X.prog X.w) (X.A.mark (some (.ref e))) (execs (b0::suite) X.env) (SP (X.hand (X.pn++pins) e oe) [] (unD i De)) (λ_ _=>False) s6)
  (ok:X.Ok) (hdb:(x == ("__debug__" : Str))=false) :
  wpAny (model X.prog X.w) X.A (noteFrame (.ref e) X.env) (λ_ s2=>wpAny (model X.prog X.w) X.A (setFlight (.ref e) none) (λ_ s3=>wpAny (model X.prog X.w) X.A (handleBy (.ref e) X.env [.ExceptHandler (some (.Name x np)) (some n) (b0::suite) hp]) (SP X pins De) X.xe s3) X.xe s2) X.xe s':=by
 refine K4 I hst hf R λh4 B a0 held k1 up4 c1 c2 c3 z4=>?_;refine dh (j4.any (e:=e) (j4.flight _ _) (wpAny_landsW (Q:=λ_ s''=>∃h',s''={ s' with heap:=h' }/\Heap.FlyingW B (X.env::X.outer) e (.ref C) a0 h'/\h4.UpToSlots h') (E:=λ_ _=>False) held λh' y1 y2=>⟨h',rfl,y1,y2⟩) z4) (λ_ s'' z=>?_) λ_ _ z=>z.1.elim;obtain⟨⟨h5,rfl,F5,up5⟩,z5⟩:=z;obtain⟨_,_,o5,x5,I5⟩:=Ax I hex F5 k1 (up4.trans up5) c1 c2 c3 z5;refine wpAny_handleBy_cons (codeAny_handlers_test (u_ (X:=X.hand (X.pn++pins) e o5) I5 hg hm ?_ hdb)) (by intro q;cases q);obtain⟨g1,_⟩:=I5.hok e _ ko;obtain⟨_,_,_,_,_,_,_,_,_,_,_,_,_,_,_,_,hC⟩:=(Ql I5.zp mC).ex;obtain⟨_,_,_,_,_,_,_,_,_,_,_,_,_,_,_,_,hD⟩:=(Ql I5.zp mD).ex;refine Af hC hD g1 x5.cls hbD ?_;rw[hCD];refine codeAny_handlers_suite_as ?_;refine dh (j4.any (e:=e) (j4.flight _ _) (lands_againW (Q:=λ_ s''=>∃h',s''={ s' with heap:=h' }/\Heap.FlyingW B (X.env::X.outer) e (.ref C) a0 h'/\h5.UpToSlots h') (E:=λ_ _=>False) F5 λh' y1 y2=>⟨h',rfl,y1,y2⟩) z5) (λ_ s'' z=>?_) λ_ _ z=>z.1.elim;obtain⟨⟨h6,rfl,F6,up6⟩,z6⟩:=z;obtain⟨f0,n6,o6,x6,I6⟩:=Ax I hex F6 k1 ((up4.trans up5).trans up6) c1 c2 c3 z6;refine u5 (X:=X.hand (X.pn++pins) e o6) (v:=.ref e) I6 hN hi (.inl hlo) rfl (λs7 I7=>?_) (.inr hlo);exact dh (k o6 s7 x6 n6 I7) (λf s8 h8=>Dz hN hi hlo ok f0 h8) λ_ _ z=>z.elim
end
open PySem.W in
structure XCls (K:au)(C:ak):Prop where
 ga:findIn K (.ref C) "__getattribute__" = some (some (.builtin "BaseException.__getattribute__"))
 gt:findIn K (.ref C) "__getattr__" = some none
 fc:findObj K C none "__class__" = some (.bind (.builtin "getset_descriptor.__get__") (.builtin "object.__class__"))
 ob:PySem.W.mroIn K C (.type "object")=some true
 bs:subIn K (.ref C) (.type "BaseException")=some true
section
open PySem.W
variable {K:au}{C a:ak}{ox:Obj}{prog:aj}{w:ah}{A:az}{E:af->aA->Prop}{h:aq}{g:Array GenState}{d:Drawn}{t:Nat}{os:OsState}
def MH{Q:Fin->aA->Prop}(x:XCls K C)(X:K.In h)(I:PySem.W.InstAt h a ox C none)(hq:Q (.done (.ret (.ref C))) ⟨h,g,d,t,os⟩) :
  wpAny (model prog w) A (Builtin.«object.__getattribute__» ⟨[.ref a,.str "__class__" tk],[]⟩) Q E ⟨h,g,d,t,os⟩:=by
 have L0:=I.type (M:=model prog w);have L1:=looks_find (M:=model prog w) X I x.fc;unfold Builtin.«object.__getattribute__»
 repeat (first|with_reducible refine aF (jk ?_)|with_reducible refine jk ?_|lk)
 refine class_get X I x.ob ?_
 repeat lk
 exact hq
def N_{Q:Unit->aA->Prop}(x:XCls K C)(X:K.In h)(I:PySem.W.InstAt h a ox C none)(hq:Q Unit.unit ⟨h,g,d,t,os⟩):wpAny M A (checkBuiltinCall "BaseException.__getattribute__" ⟨[.ref a,nv],[]⟩) Q E ⟨h,g,d,t,os⟩:=by
 have hk:builtinKind "BaseException.__getattribute__" = some .slot:=by decide +kernel
 have hs:splitId "BaseException.__getattribute__" = some ("BaseException", "__getattribute__"):=by decide +kernel
 have LI:Looks M h (isInstance (.ref a) (.type "BaseException")) true:=(I.type (M:=M)).andThen (looks_subIn X x.bs);have hA:=F.args_bexc_ga (.ref a) nv;dsimp[checkBuiltinCall,hk,hs];refine aF (LI.at ?_);show wpAny M A (match Manifest.signature? "BaseException.__getattribute__" with
  | some sig=>Bind.checkArgs "BaseException.__getattribute__" sig { pos:=[Value.ref a,nv]}
  | x=>pure Unit.unit) Q E _
 cases hsig:Manifest.signature? "BaseException.__getattribute__" with
 | none=>exact aP hq
 | some sig=>
  dsimp[argsOk,hsig]at hA;have h2:Bind.checkArgs "BaseException.__getattribute__" sig ⟨[.ref a,nv],[]⟩=pure Unit.unit:=hA;show wpAny M A (Bind.checkArgs "BaseException.__getattribute__" sig ⟨[.ref a,nv],[]⟩) Q E _;rw[h2];exact aP hq
def Tj(self:af):bindSpecial (.builtin "BaseException.__getattribute__") self=pure (.builtin "BaseException.__getattribute__",[self]):=by
 have h1:withoutEnding? "BaseException.__getattribute__" "#opaque" = none:=by decide +kernel
 have h2:withoutEnding? "BaseException.__getattribute__" "#data" = none:=by decide +kernel
 have hk:builtinKind "BaseException.__getattribute__" = some .slot:=by decide +kernel
 dsimp[bindSpecial,typeOf,builtinType,h1,h2,hk];rfl
def Zf{Q:af->aA->Prop}(x:XCls K C)(X:K.In h)(I:PySem.W.InstAt h a ox C none)(hq:Q (.ref C) ⟨h,g,d,t,os⟩):wpAny (model prog w) A (getAttrBy (.ref a) (.str "__class__" tk) false) Q E ⟨h,g,d,t,os⟩:=by
 have L0:=I.type (M:=model prog w);have L1:=looks_findIn (M:=model prog w) X x.ga;have L2:=looks_findIn (M:=model prog w) X x.gt;unfold getAttrBy;refine cT (aF (L0.at (aF (L1.at ?_))));show wpAny _ _ (if (onTheHeap (Value.ref C) && Value.builtin "BaseException.__getattribute__" == Value.builtin "object.__getattribute__")=true then _ else getAttrByItsOwn (.ref a) (.str "__class__" tk) (.ref C) (.builtin "BaseException.__getattribute__") false false) _ _ _;have ne:(Value.builtin "BaseException.__getattribute__" == Value.builtin "object.__getattribute__")=false:=by decide +kernel
 rw[ne,iV,aI bG];unfold getAttrByItsOwn hookBefore;rw[aK (show onTheHeap (Value.ref C)=true from rfl)];refine aF (L2.at (aF (gB (cT ?_))));unfold callGetattribute boundAndCalled
 skip
 rw[Tj,pure_bind];refine jk (codeAny_call_builtin ∅ F.entry_bexc_ga (N_ x X I (MH x X I ?_)));exact aP hq
def Mc{Q:bd->aA->Prop}(x:XCls K C)(X:K.In h)(I:PySem.W.InstAt h a ox C none)(hq:Q (some (.ref C)) ⟨h,g,d,t+1,os⟩):wpAny (model prog w) A (getAttr? (.ref a) "__class__") Q E ⟨h,g,d,t,os⟩:=by
 unfold getAttr? getAttrBy?;refine aF (wpAny_mkText (aF (gB (Zf x X I ?_))));exact aP hq
abbrev XIn (C a:ak):aq->Prop:=λh=>∃ox,PySem.W.InstAt h a ox C none
def P9(x:XCls K C)(hc:(clsIn K C).isSome=true):KitX K (.ref a) (.ref C) (XIn C a) where
 ty:=λ_ _ _ ⟨_,I⟩=>I.type
 it:=λ_ _ X _=>by
  unfold clsIn at hc;split at hc
  ·rename_i ho;intro A' Q' E' s' k q;unfold isType loadHead;exact aF (wpAny_loadPart (k _ _ (X _ _ ho)) (aP q))
  ·cases hc
 ne:=λh tp dd its n sl X htp=>by
  refine Bool.eq_false_iff.mpr λq=>?_;have e:C=tp:=Value.ref.inj (jm.mp q);subst e;unfold clsIn at hc;split at hc
  ·rename_i ho;have z:=(X _ _ ho).symm.trans htp
   cases z
  ·cases hc
 ca:=λ{_ _ _ _ _ s} X ⟨_,I⟩ k=>by
  obtain⟨hh,gg,dd,tt,oo⟩:=s;exact Mc x X I k
end
section
variable {X:Cx}{C:ak}{pins:bv}{σ:L2.St}{H:Hp}{s:aA}
def E7{A:az}{E:af->aA->Prop}{Q:af->aA->Prop}{a:ak}{c:af}(x:XCls X.K C)(hc:(PySem.W.clsIn X.K C).isSome=true)(I:Inv X pins σ H s)(ha:H a=some (.frz oe xu))(hx:XO C oe)(e:PySem.W.kitOne X.K (.ref C) c=some b)(h:∀tk,Q (.bool b) { s with toks:=tk }) :
  wpAny (model X.prog X.w) A (call (.builtin "isinstance") [.ref a,c]) Q E s:=by
 obtain⟨g1,_⟩:=I.hok a _ ha;obtain⟨g2,g5,vs,g3,g4⟩:=hx;refine cL (P9 x hc) I.zp ⟨oe,g1,g2,?_,?_⟩ e (λz=>nomatch z) h
 ·unfold PySem.W.notCls;rw[g3]
 ·rw[g5];trivial
end
end L2
namespace L2
open PySem PySem.Spec PyProof.Rows
def zX:entryFor table "proto.unchain" = some Builtin.«proto.unchain»:=entryFor_of_fast (by kernel_rfl)
section
variable {prog:aj}{w:ah}{A:az}{E:af->aA->Prop}{s:aA}{e n:ak}{oe on:Obj}{vs ns:Array af}
def Gy{α:Type}{Q:α->aA->Prop}(hh:A.handled=some (.ref e))(he:s.heap.get? e=some oe)(hd:oe.data=.fields vs)(h2:vs[2]?=some .none)(hn:s.heap.get? n=some on)(nd:on.data=.fields ns)(n2:2<ns.size)(ne:e≠n)
  (h:E (.ref n) { s with heap:=s.heap.update n (Obj.mapFields (·.setIfInBounds 2 (.ref e)))}):wpAny (model prog w) A (raiseNew (.ref n):Sem α) Q E s:=by
 unfold raiseNew;refine aF (wpAny_handled ?_);rw[hh];show wpAny _ _ (if (Value.ref e != Value.ref n)=true then _ else _) _ _ _;rw[aK (by simp[ne])];refine aF (cT (wpAny_runValue (gI zX ?_)));unfold Builtin.«proto.unchain»;refine aF (eG he hd h2 ?_);rw[aK (show(Value.none == Value.none)=true from rfl)];refine aP ?_
 skip
 exact aF (gf hn nd n2 (wpAny_throw h))
def FO{l:ak}{i:Nat}{Q:bd->aA->Prop}(hh:A.handled=some (.ref e))(he:s.heap.get? e=some oe)(hd:oe.data=.fields vs)(h2:vs[2]?=some .none)(nit:e≠it)
  (hit:s.heap.IsListIter it l i) (hl:s.heap.IsList l items) (hx:items[i]?=none) (hQ:∀h',Heap.ExtBut it s.heap h'->Q none { s with heap:=h' }):wpAny (model prog w) A (pyNext (.ref it)) Q E s:=by
 obtain⟨o,ho,hc,ho2⟩:=id hit;obtain⟨ol,hol,_,nl,hdl⟩:=hl;unfold pyNext;refine aF (gB (dw (name:=Str.ofString "__next__") hit.typeIs slot_listiter_next (cY slot_listiter_next hit.typeIs entry_listiter_next ?_ (args_listiter_next _))));show wpAny _ _ (field (.ref it) 0 >>= _) _ _ _;refine aF (eG ho ho2 (x:=.ref l) rfl ?_)
 skip
 rw[aI (show ¬((Value.ref l == Value.none)=true)from bG)]
 skip
 refine aF (eG ho ho2 (x:=.int i 0) rfl ?_)
 skip
 refine aF (iW hol hdl ?_);dsimp[c_,hx];refine aF (fq (aF (gf ho ho2 (by simp) ?_)))
 skip
 refine aF ?_;dsimp[newExc,newTuple];refine aF (cg ?_ (by size_fits));refine aF (m:=firstArgMember _ _) (wpAny_of_eq (a:=Value.none) (by first|rfl|(dsimp[firstArgMember];rfl)) ?_);refine cg ?_ (by size_fits);have he1:∀(f:Obj->Obj),(s.heap.update it f).get? e=some oe:=λf=>by rw[eB _ _ (cR nit)];exact he
 have hlt:∀(f:Obj->Obj) (o1:Obj),e≠((s.heap.update it f).push o1).objs.size:=λf o1=>bE (bf (aO _ (he1 f)));refine Gy (A:=A.in1) hh (aO _ (aO _ (he1 _))) hd h2 (bB _ rfl) rfl (by simp[ownMembersOf]) (hlt _ _) ?_;refine aF (wpAny_isInstance (T := "StopIteration") (b:=true) ⟨_,eT _ (bB _ rfl) (f7 (eN rfl _)),i7 ..⟩ isSubtype_stop ?_);refine aP (hQ _ λb o' hb q=>?_);have q2:=((fG it (Obj.mapFields λx=>x.setIfInBounds 0 Value.none) (h:=s.heap)).extBut.push { cls:=Value.type "tuple",data:=Data.seq #[]}) b o' hb q;rw[eB _ _ (cR (bE (bf q2)))];exact aO _ q2
end
abbrev E9 (A:az):az:={ A with handled:=none }
abbrev AQ (k:Nat)(A:az):Prop:=Room k (E9 A)
def KN{k:Nat}{A:az}(r:Room j A)(hk:k<=j):AQ k (A.mark h):=⟨rfl,(r.mono hk).dp,(r.mono hk).un⟩
structure Hnd (A:az)(H:Hp)(e:ak)(oe:Obj)(C:ak):Prop where
 hh:A.handled=some (.ref e)
 h0:H e=some (.frz oe xu)
 xo:XO C oe
structure FnOkH (P:aj)(w:ah)(K:au)(mg:Str->bd)(base:aq)(k:Nat)(f:ak)(fd:FuncData)(ps:ar)(sp:Sp):Prop where
 len:∀vs H Q E,sp vs H Q E->vs.length=ps.length
 run:∀(A:az) (outer:List Env) (s:aA) (H:Hp) (args:Args) (us:ba) (vs:List V) (Q:VK) (e:ak) (oe:Obj) (C:ak),AQ k A->Hnd A H e oe C->Env0 P w K mg base A outer s H->BindsTo s fd args (ps.zip us)->Vals vs us->sp vs H Q E0 ->
  codeAny (model P w) A (.call (.ref f) args) (CR t_ outer P w H s Q E0) s
abbrev ZL (P:aj)(w:ah)(K:au)(mg:Str->bd)(base:aq)(N:ar)(qual:Str)(scope:Scope)(f:ak)(cd:af)(A:az)(outer:List Env)(s:aA)(H:Hp):Cx:=
 { vh t_ P w K mg base N qual scope f cd A outer s H E0 with calm:=false,xe:=λ_ _=>False }
def FH{P:aj}{w:ah}{K:au}{mg:Str->bd}{base:aq}{N:ar}{f:ak}{A:az}{outer:List Env}{H H':Hp}
  (I:Inv (vh t_ P w K mg base N qual scope f cd (E9 A) outer s H E0) pins σ H' s1):Inv (ZL P w K mg base N qual scope f cd A outer s H) pins σ H' s1:=
 ⟨⟨I.ok.mod,I.ok.kind,I.ok.glob,I.ok.blt,I.ok.above,I.ok.inj,I.ok.has,I.ok.cab,λh=>(by cases h),I.ok.frames,I.ok.stk,I.ok.exf,I.ok.bs,I.ok.bsz,I.ok.noex,I.ok.exfs,I.ok.rF,I.ok.frf⟩,I.os,I.bare,I.base,I.loc,I.cell,I.free,I.freeC,I.pin,I.hok,I.len⟩
def U7{P:aj}{w:ah}{K:au}{mg:Str->bd}{base:aq}{k:Nat}{x:Str}{st:aE}{f:ak}{N ps:ar}{sp:Sp}(F:Fun K x qual st f fd)(S:FnScope N ps (jL st))(len:∀vs H Q E,sp vs H Q E->vs.length=ps.length)
  (hb:∀(cdv:af) (A:az) (outer:List Env) (s:aA) (H:Hp) (vs:List V) (Q:VK) (e:ak) (oe:Obj) (C:ak),AQ k (A.deeper (envOfC qual (jL st) s.heap.objs.size f cdv))->Hnd A H e oe C->sp vs H Q E0 ->
   ∃t,Ah (ZL P w K mg base N qual (jL st) f cdv A outer s H) (m_ st) t/\t { nx:=λ_ H'=>Q .non H',rt:=Q } (start N vs) H):FnOkH P w K mg base (k+1) f fd ps sp:=by
 obtain⟨oc,od,kV,doc,pm,an,cdv,ct,osl,rfl,lk,hcd⟩:=F.ex;refine⟨len,λA outer s H args us vs Q e oe C hr hx e0 hbd r hsp=>?_⟩;have hl:=len _ _ _ _ hsp;have KX:K.In s.heap:=e0.mod.kin.keeps λb o z=>(e0.bs b o z).1;have lim:s.heap.NoLimit:=e0.mod.nolimit.keeps λb o z=>(e0.bs b o z).1;have kinds:∀y∈ps.zip us,(jL st).names.lookup y.1=some .local\/((jL st).names.lookup y.1=some .cell/\((cellsFrom (s.heap.objs.size+1) (jL st).names []).lookup y.1).isSome=true):=λy hy=>
  (S.par y.1 (iN hy).1).imp (λq=>q) λq=>⟨q,gU _ _ _ (.inl q)⟩
 refine codeAny_call_function (show A.depth<_ from hr.depth) (KX _ _ lk) rfl S.co S.gen rfl (PySem.W.codeRec_of KX hcd) (hbd _ _ _ _ ?_);refine wpAny_newFunctionEnv_cells S.kind kinds λenv he s1 xc=>?_;subst he;refine⟨lim.keeps xc.toInCall.keep,codeAny_func ?_⟩;obtain⟨t,ht,hq⟩:=hb cdv A outer s H vs Q e oe C (Room.deeper hr _) hx hsp;have e1:Env0 P w K mg base (E9 A) outer s H:=⟨e0.frames,e0.mod,e0.bs,e0.bsz,e0.rF,e0.frf,e0.hok,e0.bare⟩;have I:=FH (AN (CX:=t_) (E:=E0) (qual:=qual) (f:=f) (cd:=cdv) S hr.hd e1 hl r xc);refine dh (ht [] s1 (start N vs) H _ I hq) (λfl s' hs=>?_) λ_ _ z=>z.elim;have fin:∀{σ':L2.St} {H':Hp} {v:V} {u:af},Inv (ZL P w K mg base N qual (jL st) f cdv A outer s H) [] σ' H' s'->RelV v u->Q v H'->CE outer P w H s Q u s':=λ{σ' H' v u} J rv q=>⟨v,H',J.os,J.bare,J.base,J.hok,rv,q⟩
 cases fl with
 | ret u=>obtain⟨v,σ',H',J,rv,q⟩:=hs;exact fin J rv q
 | next=>obtain⟨σ',H',J,q⟩:=hs;exact fin (v:=V.non) (u:=Value.none) J rfl q
 | brk=>obtain⟨_,_,_,q⟩:=hs;exact q.elim
 | cont=>obtain⟨_,_,_,q⟩:=hs;exact q.elim
abbrev KnH (P:aj)(w:ah)(K:au)(mg:Str->bd)(base:aq)(k:Nat)(x:Str)(ps:ar)(sp:Sp):Prop:=
 ∃(f:ak) (fd:FuncData),FnOkH P w K mg base k f fd ps sp/\mg x=some (.ref f)/\PySem.W.keepIn K (.ref f)=true/\Binds K fd ps []
def Vo{X:Cx}{k:Nat}{x:Str}{sp:Sp}{a:aC}{t:TA}{p:Pos}(G:KnH X.prog X.w X.K X.mg X.base k x ps sp)(hr:AQ k X.A)(hh:X.A.handled=some (.ref e))(h0:X.H₀ e=some (.frz oe xu))(xo:XO C oe)(ha:PA X (a::es) t)(hg:Gl X x:=by rfl)
  (hdb:(x == ("__debug__" : Str))=false:=by decide) (hs:starEach (a::es) X.env=(false,eval a X.env)::starEach es X.env:=by rfl) (hplain:(backTo pos (starEach es X.env)).any (·.1)=false:=by rfl) :
  PE X (.Call (.Name x p) (a::es) [] pos) (Qh sp [] E0 t):=by
 obtain⟨f,fd,F,hm,hk,hb⟩:=G;kt_k;refine gM (u_ I hg hm ?_ hdb);refine PySem.W.callWith_K (h₀:=X.base) I.ok.mod.kin hk (mL (ha pos pins s σ H _ I h) λus s1 ⟨vs,H1,I1,r,q⟩=>⟨I1.zp,?_⟩) hs hplain;have q:sp (vs++[]) H1 Q E0:=q;rw[bU]at q;have hl:us.length=ps.length:=by rw[<- r.length];exact F.len _ _ _ _ q
 refine jk (iR (F.run X.A X.stack s1 H1 ⟨us,[]⟩ us vs Q e oe C hr ⟨hh,I1.base.frzs e oe xu h0,xo⟩ I1.Yl (by have:=hb s1 us I1.zp (by rw[bU];exact hl);rwa [bU]at this) r q) λr s' hq=>?_)
 cases r with
 | error e=>exact hq.elim
 | ok fl=>
  cases fl with
  | ret u=>exact I1.after hq
  | next=>exact hq.elim
  | brk=>exact hq.elim
  | cont=>exact hq.elim
def Qk{X:Cx}{i:Nat}{spos:Pos}{iter:aC}{N:ar}{wi:TI}{g:TG}{tc:TT}{te:TE}
  (hN:X.N.Nodup) (hi':X.N[i]?=some y) (hx:Loc X.env.scope y) (hc:X.calm=true) (S:CpScope X scope N cap) (hi:PI X tg iter wi)
  (hg:∀C s₀ H₀ ex,PG (nh X scope N C s₀ H₀ ex) tg g) (ht:∀C s₀ H₀ ex,Vq (nh X scope N C s₀ H₀ ex) ifs tc) (he:∀C s₀ H₀ ex,PE (nh X scope N C s₀ H₀ ex) elt te)
  (hsw:swapsWith (.ListComp elt [⟨tg,iter,ifs,0⟩] scope pos) (some (.Name y py)) spos.line X.env=pure true)
  (hf:X.fn y=true\/X.env.scope.names.lookup y=some .local) (hs:∀x,foldedSetIterable iter X.env x=pure x:=by intro _;rfl) :
  PS X (.Assign [.Name y py] (.ListComp elt [⟨tg,iter,ifs,0⟩] scope pos) spos) (Rv (Y6 cap wi g tc te) (Oi i)):=by
 kpf_c;rw[exec_Assign_Name_used _ _ _ _ hsw];refine aF (wpAny_standAt (aF ?_))
 skip
 refine aF (dh (Hf (ok:=λY=>Y.calm=true) (Q':=λ_ s'=>SP X pins D .next s') S (λ_ _ _ _ _=>hc) (PI.g hi) hg ht he hs pins s σ H _ I h ?_) (λ_ s' hq=>aP (aP hq)) λ_ _ e=>e);intro s6 C Dd H5 m hn fk inv q v;have Ia:=inv s6.heap (Heap.SameBut.refl _ _);obtain⟨oC,hoC⟩:∃o,s6.heap.get? C=some o/\∀v,o.data≠.cell v:=by
  obtain⟨o,es,ep,e,d,_⟩:=hn;exact⟨o,e,λv z=>by rw[d]at z;cases z⟩
 have Ip:=Ia.pinned (fp:=[C]) (λb hb=>by rw[aV]at hb;rw[hb];exact fk) (λb hb=>by rw[aV]at hb;rw[hb];exact⟨oC,hoC⟩)
 skip
 refine mL (JC hN hi' hx hf _ s6 σ H5 (.ref Dd) (.ref Dd) _ Ip rfl q) λ_ s7 h9=>?_;obtain⟨σ7,H7,I7,q7⟩:=h9;have hp:=I7.pin (C,oC) (bP _ (bP _ (pK (aV.mpr rfl) hoC.1)));refine⟨m,hn.at' λo e=>by rw[hoC.1]at e;cases e;exact hp.1,λh' sb=>?_⟩;have nC:∀c v,H7 c=some v->c≠C:=λc v e z=>by rw[z,hp.2.1]at e;cases e
 refine⟨σ7,H7,?_,q7⟩;refine I7.sV.Uy (ch:=[C]) rfl ⟨λb o e n hb hx=>?_,λb o e n hb hx=>?_,λb o e n hx=>n,λb o e hx=>?_,λ_ _ e=>e,λ_ _ _ e=>e,λ_ _ e=>⟨#[],by rw[Array.append_empty];exact e⟩⟩ ?_ I7.bare ?_
 ·exact sb.extBut b o (by simpa using hx) e
 ·exact⟨o.slots,sb.extBut b o (by simpa using hx) e⟩
 ·exact⟨o,sb.extBut b o (by simpa using hx) e⟩
 ·intro b o e;refine(I7.hok b o e).stay (λc v hc q=>sb.extBut c v ?_ q) (λ_ q=>q) λ_ _ q=>q
  rcases hc with z|z
  ·rw[z];exact nC b o e
  ·exact nC c _ z
 ·intro b hb;rw[aV]at hb;rw[hb];exact⟨fk.2.2.2.1,fk.2.1,fk.2.2.2.2.1,fk.2.2.2.2.2⟩
end L2
namespace Sx
open PySem PyProof.Rows
structure Ord where
 lt:Nat->Nat->Bool
 Ll:∀i,lt i i=false
 tr:∀i j k,lt i j=true->lt j k=true->lt i k=true
 neg:∀i j k,lt i k=true->lt i j=true\/lt j k=true
abbrev P (o:Ord)(i j:Nat):Prop:=o.lt i j=true\/(o.lt j i=false/\i<j)
def Ord.aaF(o:Ord)(h:o.lt i j=true):o.lt j i=false:=by
 cases e:o.lt j i with
 | false=>rfl
 | true=>have:=o.tr _ _ _ h e;rw[o.Ll]at this;cases this
def P.Ll(h:P o i i):False:=by
 rcases h with h|⟨_,h⟩
 ·rw[o.Ll]at h;cases h
 ·lia
def P.trans{k:Nat}(a:P o i j)(b:P o j k):P o i k:=by
 rcases a with a|⟨a,a'⟩
 ·rcases b with b|⟨b,b'⟩
  ·exact .inl (o.tr _ _ _ a b)
  ·rcases o.neg i k j a with z|z
   ·exact .inl z
   ·rw[b]at z;cases z
 ·rcases b with b|⟨b,b'⟩
  ·rcases o.neg j i k b with z|z
   ·rw[a]at z;cases z
   ·exact .inl z
  ·refine .inr ⟨?_,()⟩
   cases e:o.lt k i with
   | false=>rfl
   | true=>
    rcases o.neg k j i e with z|z
    ·rw[b]at z;cases z
    ·rw[a]at z;cases z
def P.of_lt{o:Ord}(h:o.lt i j=true):P o i j:=.inl h
def P.xB{o:Ord}(h:o.lt j i=false)(hij:i<j):P o i j:=.inr ⟨h,hij⟩
def P.lt{o:Ord}(h:P o i j)(hij:j<i):o.lt i j=true:=by
 rcases h with h|⟨_,h⟩
 ·exact h
 ·lia
def P.ge{o:Ord}(h:P o i j):o.lt j i=false:=by
 rcases h with h|⟨h,_⟩
 ·exact o.aaF h
 ·exact h
abbrev So (o:Ord)(g:Nat->Nat)(a b:Nat):Prop:=∀i j,a<=i->i<j->j<b->P o (g i) (g j)
abbrev Cl (g:Nat->Nat)(a b:Nat):Prop:=∀i,a<=i->i<b->a<=g i/\g i<b
abbrev rev (g:Nat->Nat)(i j:Nat):Nat->Nat:=λk=>if i<=k/\k<j then g (i+j-1-k)else g k
abbrev mv (g:Nat->Nat)(src dst:Nat):Nat->Nat:=λk=>if k=dst then g src else if dst<k/\k<=src then g (k-1)else g k
def zd{g:Nat->Nat}{k:Nat}(h:i<=k)(h2:k<j):rev g i j k=g (i+j-1-k):=aK ⟨h,h2⟩
def pB{g:Nat->Nat}{k:Nat}(h:k<i\/j<=k):rev g i j k=g k:=aI ()
def PR{g:Nat->Nat}:mv g s d d=g s:=aK rfl
def DY{g:Nat->Nat}{k:Nat}(h:d<k)(h2:k<=s):mv g s d k=g (k-1):=by
 unfold mv;rw[aI (),aK ⟨h,h2⟩]
def Bq{g:Nat->Nat}{k:Nat}(hd:d<=s)(h:k<d\/s<k):mv g s d k=g k:=by
 unfold mv;rw[aI (),aI ()]
section
variable {prog:aj}{w:ah}{A:az}{E:af->aA->Prop}{s:aA}{o:Ord}{N:Nat}{f:Nat->Keyed}{kd:SortKind}{g:Nat->Nat}{p:Array (Nat×Nat×Nat)}{st:SortSt}
abbrev A_ (prog:aj)(w:ah)(A:az)(s:aA)(o:Ord)(N:Nat)(f:Nat->Keyed)(kd:SortKind):Prop:=
 ∀i j,i<N->j<N->∀(E':af->aA->Prop) (Q:Bool->aA->Prop),Q (o.lt i j) s->wpAny (model prog w) A (keyLt' kd (f i).1 (f j).1) Q E' s
structure Sg (N:Nat)(f:Nat->Keyed)(kd:SortKind)(g:Nat->Nat)(p:Array (Nat×Nat×Nat))(st:SortSt):Prop where
 size:(arrOf st).size=N
 get:∀i,i<N->(arrOf st)[i]?=some (f (g i))
 lt:∀i,i<N->g i<N
 kind:kindOf st=kd
 failed:failedOf st=none
 pend:pendingOf st=p
def yy(C:A_ prog w A s o N f kd)(hk:kindOf st=kd)(hi:i<N)(hj:j<N){Q:bj->SortSt->Prop}(q:Q (some (o.lt i j)) st):wpS (model prog w) A E s (lt' (f i) (f j)) Q st:=by
 rw[lt'_eq];refine aX (ig ?_);rw[hk];refine aX (wpS_lift (gB (C i j hi hj _ _ ⟨rfl,?_⟩)));exact bu q
def j8{xs:Array Keyed}{i:Nat}{x:Keyed}(e:xs[i]?=some x){Q:Keyed->SortSt->Prop}(q:Q x st):wpS (model prog w) A E s (elem' xs i) Q st:=by
 rw[elem'_eq,e];exact bu q
def vB(C:A_ prog w A s o N f kd)(h:Sg N f kd g p st)(hi:i<N)(hj:j<N){Q:bj->SortSt->Prop}(q:Q (some (o.lt (g i) (g j))) st):wpS (model prog w) A E s (ltAt' i j) Q st:=by
 rw[ltAt'_eq];refine aX (ig ?_)
 skip
 exact aX (j8 (h.get i hi) (aX (j8 (h.get j hj) (yy C h.kind (h.lt i hi) (h.lt j hj) q))))
def Sg.arr(h:Sg N f kd g p st){xs:Array Keyed}{g':Nat->Nat}(hs:xs.size=N)(hg:∀i,i<N->xs[i]?=some (f (g' i)))(hl:∀i,i<N->g' i<N):Sg N f kd g' p (setArr st xs):=⟨hs,hg,hl,h.kind,h.failed,h.pend⟩
def ya(h:Sg N f kd g p st)(hj:j<=N){Q:Unit->SortSt->Prop}(q:∀st',Sg N f kd (rev g i j) p st'->Q Unit.unit st'):wpS (model prog w) A E s (reverseSlice' i j) Q st:=by
 rw[reverseSlice'_eq];refine fS (q _ (h.arr (by rw[mirror_size];exact h.size) (λk hk=>?_) λk hk=>?_))
 ·rw[getElem?_mirror_all (by rw[h.size];exact hj)];unfold rev;by_cases c:i<=k/\k<j
  ·rw[aK c,aK c];exact h.get _ (by omega)
  ·rw[aI c,aI c];exact h.get _ hk
 ·unfold rev;by_cases c:i<=k/\k<j
  ·rw[aK c];exact h.lt _ (by omega)
  ·rw[aI c];exact h.lt _ hk
def V_(h:Sg N f kd g p st){a:Nat}(ha:a<N)(hb:b<=a){Q:Unit->SortSt->Prop}(q:∀st',Sg N f kd (mv g a b) p st'->Q Unit.unit st'):wpS (model prog w) A E s (moveDown' a b) Q st:=by
 rw[moveDown'_eq];refine fS (q _ (h.arr (by rw[bubble_size];exact h.size) (λk hk=>?_) λk hk=>?_))
 ·rw[getElem?_bubble (by rw[h.size];exact ha) _ (),show a-(a-b)=b by lia];unfold mv;by_cases c:k=b
  ·rw[aK c,aK c];exact h.get _ ha
  ·rw[aI c,aI c];by_cases c2:b<k/\k<=a
   ·rw[aK c2,aK c2];exact h.get _ ()
   ·rw[aI c2,aI c2];exact h.get _ hk
 ·unfold mv;by_cases c:k=b
  ·rw[aK c];exact h.lt _ ha
  ·rw[aI c];by_cases c2:b<k/\k<=a
   ·rw[aK c2];exact h.lt _ ()
   ·rw[aI c2];exact h.lt _ hk
structure Rn (o:Ord)(g0 g:Nat->Nat)(a b:Nat):Prop where
 out:∀i,i<a\/b<=i->g i=g0 i
 cl:Cl g a b
 so:So o g a b
def Xx{g0:Nat->Nat}{lo k l:Nat}(R:Rn o g0 g lo (lo+k))(hk:g (lo+k)=lo+k)(hl:l<=k)(h1:∀i,i<l->P o (g (lo+i)) (lo+k))(h2:∀i,l<=i->i<k->P o (lo+k) (g (lo+i))):Rn o g0 (mv g (lo+k) (lo+l)) lo (lo+(k+1)) where
 out i hi:=by rw[Bq () ()];exact R.out i ()
 cl i a b:=by
  by_cases c:i=lo+l
  ·subst c;rw[PR,hk];lia
  ·by_cases c2:lo+l<i
   ·rw[DY c2 ()];have:=R.cl (i-1) () ()
    lia
   ·rw[Bq () ()];have:=R.cl i () ()
    lia
 so i j a b d:=by
  by_cases c:i=lo+l
  ·subst c;rw[PR,DY b (),hk];have:=h2 (j-1-lo) () ()
   rwa [show lo+(j-1-lo)=j-1 by lia]at this
  ·by_cases c2:lo+l<i
   ·rw[DY c2 (),DY () ()];exact R.so _ _ () () ()
   ·rw[Bq (k:=i) () ()];by_cases c3:j=lo+l
    ·subst c3;rw[PR,hk];have:=h1 (i-lo) ()
     rwa [show lo+(i-lo)=i by lia]at this
    ·by_cases c4:lo+l<j
     ·rw[DY c4 ()];exact R.so _ _ () () ()
     ·rw[Bq () ()];exact R.so _ _ () () ()
def We(C:A_ prog w A s o N f kd){g0:Nat->Nat}{lo n ok:Nat}(h:Sg N f kd g p st)(hn:lo+n<=N)(h1:1<=ok)(hok:ok<=n)(R:Rn o g0 g lo (lo+ok))(hid:∀i,lo+ok<=i->i<lo+n->g0 i=i)
  {Q:Bool->SortSt->Prop} (q:∀g' st',Sg N f kd g' p st'->Rn o g0 g' lo (lo+n)->Q true st'):wpS (model prog w) A E s (binarySort' lo n ok) Q st:=by
 rw[binarySort'_eq,show max ok 1=ok by lia];refine aX (ef (cJ (I:=λk c st'=>c=(none,Unit.unit)/\∃g',Sg N f kd g' p st'/\Rn o g0 g' lo (lo+min k n))
  (Q:=λc st'=>c=(none,Unit.unit)/\∃g',Sg N f kd g' p st'/\Rn o g0 g' lo (lo+n)) ?step ?fin ?init) ?post)
 case post=>
  rintro c st' ⟨rfl,g',h',R'⟩;exact bu (q g' st' h' R')
 case init=>exact⟨rfl,g,h,by rw[show min ok n=ok by lia];exact R⟩
 case fin=>
  rintro c st' ⟨hc,g',h',R'⟩;exact⟨hc,g',h',by rwa [show min (max ok n) n=n by lia]at R'⟩
 case step=>
  rintro k c st' hak hkn ⟨rfl,g',h',R'⟩;rw[show min k n=k by lia]at R';have gk:g' (lo+k)=lo+k:=by rw[R'.out _ ()];exact hid _ () ()
  refine aX (ef (cJ (I:=λx c s2=>s2=st'/\∃u v,c=(none,u,v)/\u<=v/\v<=k/\v-u<=k-x /\
    (∀i,i<u->P o (g' (lo+i)) (lo+k))/\(∀i,v<=i->i<k->P o (lo+k) (g' (lo+i))))
   (Q:=λc s2=>s2=st'/\∃u v,c=(none,u,v)/\u<=k /\
    (∀i,i<u->P o (g' (lo+i)) (lo+k))/\(∀i,u<=i->i<k->P o (lo+k) (g' (lo+i)))) ?istep ?ifin ?iinit) ?ipost)
  case iinit=>exact⟨rfl,0,k,rfl,(),(),(),λi hi=>(),λi h1 h2=>()⟩
  case ifin=>
   rintro c s2 ⟨rfl,u,v,rfl,huv,hvk,hm,low,top⟩;have:u=v:=()
   subst this;exact⟨rfl,u,u,rfl,hvk,low,top⟩
  case istep=>
   rintro x c s2 _ hxk ⟨rfl,u,v,rfl,huv,hvk,hm,low,top⟩;dsimp only;by_cases hge:u>=v
   ·rw[aK hge];have:u=v:=()
    subst this;exact bu ⟨rfl,u,u,rfl,hvk,low,top⟩
   ·rw[aI hge];have hmk:(u+v) / 2<k:=()
    have gm:=R'.cl (lo+(u+v) / 2) () ();refine aX (vB C h' () () ?_);rw[gk]
    cases hless:o.lt (lo+k) (g' (lo+(u+v) / 2))
    case true=>
     dsimp[cI];refine bu ⟨rfl,u,(u+v) / 2,rfl,(),(),(),low,λi h1 h2=>?_⟩;by_cases c:i=(u+v) / 2
     ·subst c;exact .inl hless
     ·exact(P.of_lt hless).trans (R'.so _ _ () () ())
    case false=>
     dsimp[bz,bY];refine bu ⟨rfl,(u+v) / 2+1,v,rfl,(),(),(),λi h1=>?_,top⟩;have last:=P.xB hless gm.2;by_cases c:i=(u+v) / 2
     ·subst c;exact last
     ·exact(R'.so _ _ () () ()).trans last
  case ipost=>
   rintro c s2 ⟨rfl,u,v,rfl,huk,low,top⟩;dsimp only;refine aX (V_ h' () () λst3 h3=>?_);refine bu ⟨rfl,_,h3,?_⟩;rw[show min (k+1) n=k+1 by lia];exact Xx R' gk huk low top
end
meta abbrev As:=Option (bp)×Nat
meta abbrev Ds:=Option (bp)×Nat×Nat
abbrev MG (lo a nrem:Nat):StateT SortSt Sem As:=
 forIn [a:nrem] ((none,a):As) λ_ c=>do
  let x <- ltAt' (lo+c.2) (lo+c.2-1)
  match x with
  | some b=>if b=true then pure (ForInStep.done (none,c.2))else pure (ForInStep.yield (none,c.2+1))
  | _=>pure (ForInStep.done (some none,c.2))
abbrev DX (lo n nrem:Nat):StateT SortSt Sem (bp):=do
 reverseSlice' lo (lo+n)
 let c <- MG lo n nrem
 match c.1 with
 | some r=>pure r
 | none=>pure (some c.2)
abbrev Ry (lo n nrem:Nat):StateT SortSt Sem Ds:=
 forIn [n:nrem] ((none,n,0):Ds) λ_ c=>do
  let x <- ltAt' (lo+c.2.1) (lo+c.2.1-1)
  match x with
  | some b=>
   if b=true then
    if c.2.2>0 then do
     reverseSlice' (lo+c.2.1-(c.2.2+1)) (lo+c.2.1)
     pure (ForInStep.yield (none,c.2.1+1,0))
    else pure (ForInStep.yield (none,c.2.1+1,0))
   else do
    let x <- ltAt' (lo+c.2.1-1) (lo+c.2.1)
    match x with
    | some b=>
     if b=true then pure (ForInStep.done (none,c.2.1,c.2.2))
     else pure (ForInStep.yield (none,c.2.1+1,c.2.2+1))
    | _=>pure (ForInStep.done (some none,c.2.1,c.2.2))
  | _=>pure (ForInStep.done (some none,c.2.1,c.2.2))
abbrev Nk (lo n nrem:Nat):StateT SortSt Sem (bp):=do
 liftM (rule "list.sort.descending-run")
 let c <- Ry lo (n+1) nrem
 match c.1 with
 | some r=>pure r
 | none=>
  if c.2.2>0 then do
   reverseSlice' (lo+c.2.1-(c.2.2+1)) (lo+c.2.1)
   DX lo c.2.1 nrem
  else DX lo c.2.1 nrem
def count_eq(lo nrem:Nat):countRun' lo nrem=(do
  let c <- MG lo 1 nrem
  match c.1 with
  | some r=>pure r
  | none=>
   if (c.2 == nrem)=true then pure (some c.2)
   else if c.2>1 then do
    let x <- ltAt' lo (lo+c.2-1)
    match x with
    | some b=>if b=true then pure (some c.2)else do
      reverseSlice' lo (lo+c.2)
      Nk lo c.2 nrem
    | _=>pure none
   else Nk lo c.2 nrem):=by
 rw[countRun'_eq];dsimp only;unfold Nk DX Ry MG;congr 1
 funext c
 obtain⟨r,n⟩:=c
 cases r with
 | some r=>rfl
 | none=>
  dsimp only;split
  ·rfl
  ·split
   ·congr 1
    funext x
    cases x with
    | none=>rfl
    | some b=>
     dsimp only;split
     ·rfl
     ·congr 1
      funext _r
      congr 1
      funext _u
      congr 1;congr 1
      funext s2
      obtain⟨r2,n2,q2⟩:=s2
      cases r2 with
      | some r2=>rfl
      | none=>
       dsimp only;split
       ·congr 1
        funext _v
        congr 1
        funext _w
        congr 1
        funext s3
        obtain⟨r3,n3⟩:=s3
        cases r3<;>rfl
       ·congr 1
        funext _w
        congr 1
        funext s3
        obtain⟨r3,n3⟩:=s3
        cases r3<;>rfl
   ·congr 1
    funext _u
    congr 1;congr 1
    funext s2
    obtain⟨r2,n2,q2⟩:=s2
    cases r2 with
    | some r2=>rfl
    | none=>
     dsimp only;split
     ·congr 1
      funext _v
      congr 1
      funext _w
      congr 1
      funext s3
      obtain⟨r3,n3⟩:=s3
      cases r3<;>rfl
     ·congr 1
      funext _w
      congr 1
      funext s3
      obtain⟨r3,n3⟩:=s3
      cases r3<;>rfl
section
variable {prog:aj}{w:ah}{A:az}{E:af->aA->Prop}{s:aA}{o:Ord}{N:Nat}{f:Nat->Keyed}{kd:SortKind}{g g0:Nat->Nat}{p:Array (Nat×Nat×Nat)}{st:SortSt}
def Rn.snoc{a:Nat}(R:Rn o g0 g a b)(hab:a<b)(hb:g b=b)(h:o.lt b (g (b-1))=false):Rn o g0 g a (b+1) where
 out i hi:=R.out i ()
 cl i h1 h2:=by
  by_cases c:i=b
  ·subst c;lia
  ·have:=R.cl i h1 ();lia
 so i j h1 h2 h3:=by
  by_cases c:j=b
  ·subst c;rw[hb];have l:=R.cl (j-1) () ();have last:P o (g (j-1)) j:=P.xB h l.2;by_cases c2:i=j-1
   ·subst c2;exact last
   ·exact(R.so i (j-1) h1 () ()).trans last
  ·exact R.so i j h1 h2 ()
def Lm(C:A_ prog w A s o N f kd){lo a:Nat}(h:Sg N f kd g p st)(hn:lo+nrem<=N)(h1:1<=a)(han:a<=nrem)(R:Rn o g0 g lo (lo+a))(hid:∀i,lo+a<=i->i<lo+nrem->g0 i=i)
  {Q:As->SortSt->Prop} (q:∀n,a<=n->n<=nrem->Rn o g0 g lo (lo+n)->(n=nrem\/o.lt (lo+n) (g (lo+n-1))=true)->Q (none,n) st):wpS (model prog w) A E s (MG lo a nrem) Q st:=by
 unfold MG;refine cJ (I:=λx c st'=>st'=st/\c=(none,x)/\Rn o g0 g lo (lo+x)) ?step ?fin ⟨rfl,rfl,R⟩
 case fin=>
  rintro c st' ⟨rfl,rfl,R'⟩;rw[show max a nrem=nrem by lia]at R' ⊢;exact q nrem han (aQ _) R' (.inl rfl)
 case step=>
  rintro x c st' hax hxn ⟨rfl,rfl,R'⟩;dsimp only;have gx:g (lo+x)=lo+x:=by rw[R'.out _ ()];exact hid _ () ()
  refine aX (vB C h () () ?_);rw[gx]
  cases hl:o.lt (lo+x) (g (lo+x-1))
  case true=>
   dsimp[cI];exact bu (q x hax () R' (.inr hl))
  case false=>
   dsimp[bz,bY];exact bu ⟨rfl,rfl,R'.snoc () gx hl⟩
structure Dc (o:Ord)(g0 g:Nat->Nat)(a b q:Nat):Prop where
 out:∀i,i<a\/b<=i->g i=g0 i
 cl:Cl g a b
 few:a+(q+1)<=b
 dn:∀i j,a<=i->i<j->j<b->i<b-(q+1)->P o (g j) (g i)
 id:∀i,b-(q+1)<=i->i<b->g i=i
 al:∀i j,b-(q+1)<=i->i<b->b-(q+1)<=j->j<b->o.lt i j=false
def Dc.turn{a q:Nat}(D:Dc o g0 g a b q):(∀i,i<a\/b<=i->rev g (b-(q+1)) b i=g0 i)/\Cl (rev g (b-(q+1)) b) a b/\(∀i j,a<=i->i<j->j<b->P o (rev g (b-(q+1)) b j) (rev g (b-(q+1)) b i))/\(∀i,b-(q+1)<=i->i<b->∃k,rev g (b-(q+1)) b i=k/\b-(q+1)<=k/\k<b):=by
 have few:=D.few;have inn:∀i,b-(q+1)<=i->i<b->rev g (b-(q+1)) b i=b-(q+1)+b-1-i:=λi h1 h2=>by
  rw[zd h1 h2];exact D.id _ (by omega) (by omega)
 refine⟨λi hi=>?_,λi h1 h2=>?_,λi j h1 h2 h3=>?_,λi h1 h2=>⟨_,inn i h1 h2,by omega,by omega⟩⟩
 ·rw[pB (by omega)];exact D.out i hi
 ·by_cases c:i<b-(q+1)
  ·rw[pB (by omega)];exact D.cl i h1 h2
  ·rw[inn i (by omega) h2];omega
 ·by_cases c:i<b-(q+1)
  ·rw[pB (k:=i) (by omega)];by_cases c2:j<b-(q+1)
   ·rw[pB (by omega)];exact D.dn i j h1 h2 h3 c
   ·rw[inn j (by omega) h3];have:=D.dn i (b-(q+1)+b-1-j) h1 (by omega) (by omega) c
    rwa [D.id _ (by omega) (by omega)]at this
  ·rw[inn i (by omega) (by omega),inn j (by omega) h3];exact P.xB (D.al _ _ (by omega) (by omega) (by omega) (by omega)) (by omega)
abbrev Fin (o:Ord)(g0 g:Nat->Nat)(a b:Nat):Prop:=(∀i,i<a\/b<=i->g i=g0 i)/\Cl g a b/\(∀i j,a<=i->i<j->j<b->P o (g j) (g i))
def Dc.DR{a:Nat}(D:Dc o g0 g a b 0):Fin o g0 g a b:=⟨D.out,D.cl,λi j h1 h2 h3=>D.dn i j h1 h2 h3 ()⟩
def Fin.rn{a:Nat}(D:Fin o g0 g a b):Rn o g0 (rev g a b) a b where
 out i hi:=by rw[pB hi];exact D.1 i hi
 cl i h1 h2:=by
  rw[zd h1 h2];exact D.2.1 _ () ()
 so i j h1 h2 h3:=by
  rw[zd h1 (),zd () h3];exact D.2.2 _ _ () () ()
def Fin.add{a:Nat}(D:Fin o g0 g a b)(hb:g b=b)(hab:a<b)(h:∀i,a<=i->i<b->P o b (g i)):Dc o g0 g a (b+1) 0 where
 out i hi:=D.1 i ()
 cl i h1 h2:=by
  by_cases c:i=b
  ·subst c;lia
  ·have:=D.2.1 i h1 ();lia
 few:=()
 dn i j h1 h2 h3 _:=by
  by_cases c:j=b
  ·subst c;rw[hb];exact h i h1 h2
  ·exact D.2.2 i j h1 h2 ()
 id i h1 h2:=by
  have:i=b:=()
  rw[this,hb]
 al i j h1 h2 h3 h4:=by
  have:i=j:=()
  rw[this];exact o.Ll _
def uU(C:A_ prog w A s o N f kd){lo n:Nat}(h:Sg N f kd g p st)(hn:lo+nrem<=N)(h1:1<=n)(han:n<=nrem)(D:Fin o g0 g lo (lo+n))(hid:∀i,lo<=i->i<lo+nrem->g0 i=i)
  {Q:bp->SortSt->Prop} (q:∀m g' st',Sg N f kd g' p st'->1<=m->m<=nrem->Rn o g0 g' lo (lo+m)->Q (some m) st'):wpS (model prog w) A E s (DX lo n nrem) Q st:=by
 unfold DX;refine aX (ya h () λst2 h2=>?_);exact aX (Lm C h2 hn h1 han D.rn (λi a b=>hid i () b) λm hm1 hm2 R _=>bu (q m _ _ h2 () hm2 R))
def WX(C:A_ prog w A s o N f kd){lo n:Nat}(h:Sg N f kd g p st)(hn:lo+nrem<=N)(h1:1<=n)(han:n<=nrem)(D:Dc o g0 g lo (lo+n) 0)(hid:∀i,lo<=i->i<lo+nrem->g0 i=i)
  {Q:Ds->SortSt->Prop} (q:∀m e g' st',Sg N f kd g' p st'->1<=m->m<=nrem->Dc o g0 g' lo (lo+m) e->Q (none,m,e) st'):wpS (model prog w) A E s (Ry lo n nrem) Q st:=by
 unfold Ry;refine cJ (I:=λx c st'=>∃e g',c=(none,x,e)/\Sg N f kd g' p st'/\Dc o g0 g' lo (lo+x) e) ?step ?fin ⟨0,g,rfl,h,D⟩
 case fin=>
  rintro c st' ⟨e,g',rfl,h',D'⟩;rw[show max n nrem=nrem by lia]at D' ⊢;exact q nrem e g' st' h' () (aQ _) D'
 case step=>
  rintro x c st' hax hxn ⟨e,g',rfl,h',D'⟩;dsimp only;have few:=D'.few;have gx:g' (lo+x)=lo+x:=by rw[D'.out _ ()];exact hid _ () ()
  have gy:g' (lo+x-1)=lo+x-1:=D'.id _ () ();refine aX (vB C h' () () ?_);rw[gx,gy]
  cases hl:o.lt (lo+x) (lo+x-1)
  case true=>
   dsimp[cI];by_cases he:e>0
   ·rw[aK he];obtain⟨t1,t2,t3,t4⟩:=D'.turn;refine aX (ya h' () λst2 h2=>bu ⟨0,_,rfl,h2,?_⟩);refine Fin.add (b:=lo+x) ⟨t1,t2,t3⟩ (by rw[pB ()];exact gx) () λi a b=>?_;by_cases c:lo+x-(e+1)<=i
    ·obtain⟨k,ek,k1,k2⟩:=t4 i c b;rw[ek]
     rcases o.neg _ k _ hl with z|z
     ·exact .inl z
     ·rw[D'.al _ _ k1 k2 () ()]at z;cases z
    ·rw[pB ()];have:=D'.dn i (lo+x-1) a () () ();rw[gy]at this;exact(P.of_lt hl).trans this
   ·rw[aI he];have:e=0:=()
    subst this;refine bu ⟨0,_,rfl,h',Fin.add (b:=lo+x) D'.DR gx () λi a b=>?_⟩;by_cases c:i=lo+x-1
    ·subst c;rw[gy];exact .inl hl
    ·have:=D'.dn i (lo+x-1) a () () ();rw[gy]at this;exact(P.of_lt hl).trans this
  case false=>
   dsimp[bz,bY];refine aX (vB C h' () () ?_);rw[gx,gy]
   cases hg:o.lt (lo+x-1) (lo+x)
   case true=>
    dsimp[cI];exact bu (q x e g' st' h' () () D')
   case false=>
    dsimp[bz,bY];refine bu ⟨e+1,g',rfl,h',?_⟩;have eq1:∀i,lo+x-(e+1)<=i->i<lo+x->o.lt i (lo+x)=false/\o.lt (lo+x) i=false:=λi a b=>by
     constructor
     ·cases z:o.lt i (lo+x)with
      | false=>rfl
      | true=>
       rcases o.neg _ (lo+x-1) _ z with y|y
       ·rw[D'.al _ _ a b () ()]at y;cases y
       ·rw[hg]at y;cases y
     ·cases z:o.lt (lo+x) i with
      | false=>rfl
      | true=>
       rcases o.neg _ (lo+x-1) _ z with y|y
       ·rw[hl]at y;cases y
       ·rw[D'.al _ _ () () a b]at y;cases y
    exact {
     out:=λi hi=>D'.out i ()
     cl:=λi a b=>by
      by_cases c:i=lo+x
      ·subst c;lia
      ·have:=D'.cl i a ();lia
     few:=()
     dn:=λi j a b c d=>by
      by_cases z:j=lo+x
      ·subst z;rw[gx];have y:=D'.dn i (lo+x-1) a () () ();rw[gy]at y;have gi:=D'.cl i a ()
       rcases y with y|⟨_,y⟩
       ·rcases o.neg _ (lo+x) _ y with v|v
        ·rw[hg]at v;cases v
        ·exact .inl v
       ·lia
      ·exact D'.dn i j a b () ()
     id:=λi a b=>by
      by_cases z:i=lo+x
      ·subst z;exact gx
      ·exact D'.id i () ()
     al:=λi j a b c d=>by
      by_cases z:i=lo+x
      ·subst z;by_cases y:j=lo+x
       ·subst y;exact o.Ll _
       ·exact(eq1 j () ()).2
      ·by_cases y:j=lo+x
       ·subst y;exact(eq1 i () ()).1
       ·exact D'.al i j () () () ()}
def IU(C:A_ prog w A s o N f kd){lo n:Nat}(h:Sg N f kd g p st)(hn:lo+nrem<=N)(han:n+1<=nrem)(D:Dc o g0 g lo (lo+(n+1)) 0)(hid:∀i,lo<=i->i<lo+nrem->g0 i=i)
  {Q:bp->SortSt->Prop} (q:∀m g' st',Sg N f kd g' p st'->1<=m->m<=nrem->Rn o g0 g' lo (lo+m)->Q (some m) st'):wpS (model prog w) A E s (Nk lo n nrem) Q st:=by
 unfold Nk;refine aX (wpS_lift (fq ⟨rfl,?_⟩));refine aX (WX C h hn () han D hid λm e g' st' h' m1 m2 D'=>?_);dsimp only;by_cases he:e>0
 ·rw[aK he];obtain⟨t1,t2,t3,_⟩:=D'.turn;exact aX (ya h' () λst2 h2=>uU C h2 hn m1 m2 ⟨t1,t2,t3⟩ hid q)
 ·rw[aI he];have:e=0:=()
  subst this;exact uU C h' hn m1 m2 D'.DR hid q
def LK(C:A_ prog w A s o N f kd){lo:Nat}(h:Sg N f kd g p st)(hn:lo+nrem<=N)(h1:1<=nrem)(hid:∀i,lo<=i->i<lo+nrem->g i=i)
  {Q:bp->SortSt->Prop} (q:∀m g' st',Sg N f kd g' p st'->1<=m->m<=nrem->Rn o g g' lo (lo+m)->Q (some m) st'):wpS (model prog w) A E s (countRun' lo nrem) Q st:=by
 rw[count_eq];refine aX (Lm C h hn (aQ 1) h1 (g0:=g) ⟨λ_ _=>rfl,λi a b=>?_,λi j a b c=>()⟩ (λi a b=>hid i () b) λn n1 n2 R hor=>?_)
 ·have:i=lo:=()
  subst this;rw[hid i (aQ _) ()];lia
 dsimp only;by_cases hnn:n=nrem
 ·rw[aK (by simpa using hnn)];exact bu (q n g st h n1 n2 R)
 ·rw[aI (by simpa using hnn)];have hlt:=hor.resolve_left hnn;rw[hid (lo+n-1) () ()]at hlt;have gn:g (lo+n)=lo+n:=hid _ () ();by_cases hgt:n>1
  ·rw[aK hgt];refine aX (vB C h () () ?_);rw[hid lo () (),hid (lo+n-1) () ()]
   cases hr:o.lt lo (lo+n-1)
   case true=>
    dsimp[cI];exact bu (q n g st h n1 n2 R)
   case false=>
    dsimp[bz,bY];have id':∀i,lo<=i->i<lo+n->g i=i:=λi a b=>hid i a ();have pp:∀i j,lo<=i->i<j->j<lo+n->o.lt i j=false/\o.lt j i=false:=λi j a b c=>by
     have r:=R.so i j a b c;rw[id' i a (),id' j () c]at r;refine⟨?_,r.ge⟩
     cases z:o.lt i j with
     | false=>rfl
     | true=>
      rcases o.neg _ lo _ z with y|y
      ·by_cases x:i=lo
       ·subst x;rw[o.Ll]at y;cases y
       ·have r2:=R.so lo i () () ();rw[id' i a (),id' lo () ()]at r2;rw[r2.ge]at y;cases y
      ·rcases o.neg _ (lo+n-1) _ y with x|x
       ·rw[hr]at x;cases x
       ·by_cases v:j=lo+n-1
        ·subst v;rw[o.Ll]at x;cases x
        ·have r2:=R.so j (lo+n-1) () () ();rw[id' j () c,id' (lo+n-1) () ()]at r2;rw[r2.ge]at x;cases x
    refine aX (ya h () λst2 h2=>IU C h2 hn () ?_ hid q);have rin:∀i,lo<=i->i<lo+n->rev g lo (lo+n) i=lo+(lo+n)-1-i:=λi a b=>by rw[zd a b];exact id' _ () ()
    refine Fin.add (b:=lo+n) ⟨λi hi=>pB hi,λi a b=>by rw[rin i a b];lia,λi j a b c=>?_⟩ (by rw[pB ()];exact gn) () λi a b=>?_
    ·rw[rin i a (),rin j () c];exact P.xB (pp _ _ () () ()).2 ()
    ·rw[rin i a b];by_cases x:lo+(lo+n)-1-i=lo+n-1
     ·rw[x];exact .inl hlt
     ·rcases o.neg _ (lo+(lo+n)-1-i) _ hlt with z|z
      ·exact .inl z
      ·rw[(pp _ _ () () ()).1]at z;cases z
  ·rw[aI hgt];have:n=1:=()
   subst this;refine IU C h hn () ?_ hid q;refine Fin.add (b:=lo+1) ⟨λi hi=>rfl,R.cl,λi j a b c=>()⟩ gn () λi a b=>?_;have:i=lo:=()
   subst this;rw[hid i () ()];rw[show i+1-1=i by lia]at hlt;exact .inl hlt
end
abbrev mK:Bool->Keyed->Array Keyed->Nat->Nat->Nat->StateT SortSt Sem (bp):=sortPriv% PySem.Builtin.gallop
abbrev V4 (ask:Nat->StateT SortSt Sem (bj))(n at0:Nat):StateT SortSt Sem (bp):=do
 let mut was:=0
 let mut far:=1
 let mut low:=0
 let mut top:=0
 let some yes <- ask at0|return none
 if yes then
  let most:=n-at0
  for _ in [0:n] do
   if far>=most then break
   let some ok <- ask (at0+far)|return none
   if !ok then break
   was:=far
   far:=2 * far+1
  low:=at0+was+1
  top:=at0+min far most
 else
  let most:=at0+1
  for _ in [0:n] do
   if far>=most then break
   let some hit <- ask (at0-far)|return none
   if hit then break
   was:=far
   far:=2 * far+1
  low:=at0+1-min far most
  top:=at0-was
 for _ in [0:n] do
  if low>=top then break
  let m:=low+(top-low) / 2
  let some ok <- ask m|return none
  if ok then low:=m+1 else top:=m
 return some top
def AU(left:Bool)(key:Keyed)(arr:Array Keyed)(base n hint:Nat):mK left key arr base n hint=V4 (λi=>do
  let x <- elem' arr (base+i)
  if left then lt' x key else return (<- lt' key x).map (!·)) n hint:=rfl
section
variable {prog:aj}{w:ah}{A:az}{E:af->aA->Prop}{s:aA}{st:SortSt}
abbrev ZM (be:Nat->StateT SortSt Sem (bj))(n l0 h0:Nat):StateT SortSt Sem (bp):=do
 let mut low:=l0
 let mut top:=h0
 for _ in [0:n] do
  if low>=top then break
  let m:=low+(top-low) / 2
  let some ok <- be m|return none
  if ok then low:=m+1 else top:=m
 return some top
def Uh{be:Nat->StateT SortSt Sem (bj)}{n h0:Nat}(b:Nat->Bool)(hbe:∀i,i<n->∀Q:bj->SortSt->Prop,Q (some (b i)) st->wpS (model prog w) A E s (be i) Q st)(hb:∀i j,i<=j->j<n->b j=true->b i=true)
  (hlh:l0<=h0) (hn:h0<=n) (hl:∀i,i<l0->b i=true) (hh:∀i,h0<=i->i<n->b i=false)
  {Q:bp->SortSt->Prop} (q:∀k,k<=n->(∀i,i<k->b i=true)->(∀i,k<=i->i<n->b i=false)->Q (some k) st):wpS (model prog w) A E s (ZM be n l0 h0) Q st:=by
 unfold ZM;refine aX (ef (cJ (I:=λx c st'=>st'=st/\∃lo hi,c=(none,lo,hi)/\lo<=hi/\hi<=n/\hi-lo<=n-x/\(∀i,i<lo->b i=true)/\(∀i,hi<=i->i<n->b i=false))
  (Q:=λc st'=>st'=st/\∃k,c=(none,k,k)/\k<=n/\(∀i,i<k->b i=true)/\(∀i,k<=i->i<n->b i=false)) ?step ?fin ⟨rfl,l0,h0,rfl,hlh,hn,(),hl,hh⟩) ?post)
 case post=>
  rintro c st' ⟨rfl,k,rfl,h1,h2,h3⟩;exact bu (q k h1 h2 h3)
 case fin=>
  rintro c st' ⟨rfl,lo,hi,rfl,h1,h2,h3,h4,h5⟩;have:lo=hi:=()
  subst this;exact⟨rfl,lo,rfl,h2,h4,h5⟩
 case step=>
  rintro x c st' _ hx ⟨rfl,lo,hi,rfl,h1,h2,h3,h4,h5⟩;dsimp only;by_cases hge:lo>=hi
  ·rw[aK hge];have:lo=hi:=()
   subst this;exact bu ⟨rfl,lo,rfl,h2,h4,h5⟩
  ·rw[aI hge];have hm:lo+(hi-lo) / 2<hi:=()
   obtain⟨m,hm'⟩:∃m,m=lo+(hi-lo) / 2:=⟨_,rfl⟩;rw[<- hm']at hm ⊢;refine aX (hbe m () _ ?_)
   cases hv:b m
   ·dsimp[bz,bY];refine bu ⟨rfl,lo,m,rfl,(),(),(),h4,λi a c=>?_⟩
    cases z:b i with
    | false=>rfl
    | true=>rw[hb m i a c z]at hv;cases hv
   ·dsimp[cI];exact bu ⟨rfl,m+1,hi,rfl,(),h2,(),λi a=>hb i m () () hv,h5⟩
def Iw{be:Nat->StateT SortSt Sem (bj)}{n:Nat}(b:Nat->Bool)(hbe:∀i,i<n->∀Q:bj->SortSt->Prop,Q (some (b i)) st->wpS (model prog w) A E s (be i) Q st)(hb:∀i j,i<=j->j<n->b j=true->b i=true)(hh:hint<n)
  {Q:bp->SortSt->Prop} (q:∀k,k<=n->(∀i,i<k->b i=true)->(∀i,k<=i->i<n->b i=false)->Q (some k) st):wpS (model prog w) A E s (V4 be n hint) Q st:=by
 unfold V4;have hb':∀i j,i<=j->j<n->b i=false->b j=false:=λi j a c d=>by
  cases z:b j with
  | false=>rfl
  | true=>rw[hb i j a c z]at d;cases d
 refine aX (hbe hint hh _ ?_)
 cases hr:b hint
 ·dsimp only;dsimp[bz,bY];refine aX (ef (cJ (I:=λx c st'=>st'=st/\∃l u,c=(none,l,u)/\x+1<=u/\l<u/\l<=hint/\b (hint-l)=false)
   (Q:=λc st'=>st'=st/\∃l u,c=(none,l,u)/\l<u/\l<=hint/\b (hint-l)=false/\(u>=hint+1\/b (hint-u)=true)) ?step ?fin ⟨rfl,0,1,rfl,by omega,by omega,by omega,hr⟩) ?post)
  case post=>
   rintro c st' ⟨rfl,l,u,rfl,h1,h2,h3,h4⟩;dsimp only;refine(Uh b hbe hb (l0:=hint+1-min u (hint+1)) (h0:=hint-l) (by omega) (by omega) (λi a=>?_) (λi a c=>hb' _ _ a c h3) q:wpS (model prog w) A E s (ZM be n _ _) Q st')
   rcases h4 with h4|h4
   ·omega
   ·exact hb i (hint-u) (by omega) (by omega) h4
  case fin=>
   rintro c st' ⟨rfl,l,u,rfl,h1,h2,h3,h4⟩;exact⟨rfl,l,u,rfl,h2,h3,h4,.inl (by omega)⟩
  case step=>
   rintro x c st' _ hx ⟨rfl,l,u,rfl,h1,h2,h3,h4⟩;dsimp only;by_cases hge:u>=hint+1
   ·rw[aK hge];exact bu ⟨rfl,l,u,rfl,h2,h3,h4,.inl hge⟩
   ·rw[aI hge];refine aX (hbe _ (by omega) _ ?_)
    cases hv:b (hint-u)
    ·dsimp[bz,bY];exact bu ⟨rfl,u,2 * u+1,rfl,by omega,by omega,by omega,hv⟩
    ·dsimp[cI];exact bu ⟨rfl,l,u,rfl,h2,h3,h4,.inr hv⟩
 ·dsimp only;dsimp[cI];refine aX (ef (cJ (I:=λx c st'=>st'=st/\∃l u,c=(none,l,u)/\x+1<=u/\l<u/\hint+l<n/\b (hint+l)=true)
   (Q:=λc st'=>st'=st/\∃l u,c=(none,l,u)/\l<u/\hint+l<n/\b (hint+l)=true/\(u>=n-hint\/b (hint+u)=false)) ?step2 ?fin2 ⟨rfl,0,1,rfl,by omega,by omega,by omega,hr⟩) ?post2)
  case post2=>
   rintro c st' ⟨rfl,l,u,rfl,h1,h2,h3,h4⟩;dsimp only;refine(Uh b hbe hb (l0:=hint+l+1) (h0:=hint+min u (n-hint)) (by omega) (by omega) (λi a=>hb i _ (by omega) h2 h3) (λi a c=>?_) q:wpS (model prog w) A E s (ZM be n _ _) Q st')
   rcases h4 with h4|h4
   ·omega
   ·exact hb' (hint+u) i (by omega) c h4
  case fin2=>
   rintro c st' ⟨rfl,l,u,rfl,h1,h2,h3,h4⟩;exact⟨rfl,l,u,rfl,h2,h3,h4,.inl (by omega)⟩
  case step2=>
   rintro x c st' _ hx ⟨rfl,l,u,rfl,h1,h2,h3,h4⟩;dsimp only;by_cases hge:u>=n-hint
   ·rw[aK hge];exact bu ⟨rfl,l,u,rfl,h2,h3,h4,.inl hge⟩
   ·rw[aI hge];refine aX (hbe _ (by omega) _ ?_)
    cases hv:b (hint+u)
    ·dsimp[dg,cI];exact bu ⟨rfl,l,u,rfl,h2,h3,h4,.inr hv⟩
    ·dsimp[cU,bz,bY];exact bu ⟨rfl,u,2 * u+1,rfl,by omega,by omega,by omega,hv⟩
end
section
variable {prog:aj}{w:ah}{A:az}{E:af->aA->Prop}{s:aA}{o:Ord}{N:Nat}{f:Nat->Keyed}{kd:SortKind}{st:SortSt}
def Qs(C:A_ prog w A s o N f kd)(hk:kindOf st=kd){base n:Nat}{arr:Array Keyed}{h:Nat->Nat}(ha:∀i,i<n->arr[base+i]?=some (f (h i)))(hN:∀i,i<n->h i<key)(hkN:key<N)(so:So o h 0 n)(hh:hint<n)
  {Q:bp->SortSt->Prop} (q:∀k,k<=n->(∀i,i<k->P o (h i) key)->(∀i,k<=i->i<n->P o key (h i))->Q (some k) st):wpS (model prog w) A E s (mK false (f key) arr base n hint) Q st:=by
 rw[AU];refine Iw (λi=>!o.lt key (h i)) (λi hi Q' q'=>?_) (λi j a b c=>?_) hh λk h1 h2 h3=>q k h1 (λi a=>?_) λi a b=>?_
 ·refine aX (j8 (ha i hi) ?_);dsimp[bz,bY];exact aX (yy C hk hkN (by have:=hN i hi;lia) (bu q'))
 ·by_cases z:i=j
  ·subst z;exact c
  ·have r:=so i j (bO _) () b;have c':o.lt key (h j)=false:=by simpa using c
   cases e:o.lt key (h i)with
   | false=>rfl
   | true=>
    have:=(P.of_lt e).trans r;rw[this.lt (hN j b)]at c';cases c'
 ·have:=h2 i a;exact P.xB (by simpa using this) (hN i ())
 ·have:=h3 i a b;exact .inl (by simpa using this)
def MD(C:A_ prog w A s o N f kd)(hk:kindOf st=kd){base n:Nat}{arr:Array Keyed}{h:Nat->Nat}(ha:∀i,i<n->arr[base+i]?=some (f (h i)))(hN:∀i,i<n->key<h i/\h i<N)(so:So o h 0 n)(hh:hint<n)
  {Q:bp->SortSt->Prop} (q:∀k,k<=n->(∀i,i<k->P o (h i) key)->(∀i,k<=i->i<n->P o key (h i))->Q (some k) st):wpS (model prog w) A E s (mK true (f key) arr base n hint) Q st:=by
 rw[AU];refine Iw (λi=>o.lt (h i) key) (λi hi Q' q'=>?_) (λi j a b c=>?_) hh λk h1 h2 h3=>q k h1 (λi a=>?_) λi a b=>?_
 ·refine aX (j8 (ha i hi) ?_);dsimp[cI];exact yy C hk (hN i hi).2 (by have:=hN i hi;lia) q'
 ·by_cases z:i=j
  ·subst z;exact c
  ·have r:=so i j (bO _) () b;exact(r.trans (P.of_lt c)).lt (hN i ()).1
 ·exact .inl (h2 i a)
 ·exact P.xB (h3 i a b) (hN i b).1
end
abbrev yC:Array Keyed->Array Keyed->StateT SortSt Sem (Array Keyed):=sortPriv% PySem.Builtin.mergeLo
abbrev yU:Array Keyed->Array Keyed->StateT SortSt Sem (Array Keyed):=sortPriv% PySem.Builtin.mergeHi
abbrev xD:Nat->StateT SortSt Sem Unit:=sortPriv% PySem.Builtin.setMinGallop
def Q4(m:Nat):xD m=modify λs=>SortSt.mk' (kindOf s) (arrOf s) (pendingOf s) m (failedOf s):=rfl
def Gf(a b:Array Keyed):yC a b=(do
 rule "list.sort.merge-lo"
 let all_:=a.size+b.size
 let end1 (acc:Array Keyed) (p q:Nat):=acc++a.extract p a.size++b.extract q b.size
 let end2 (acc:Array Keyed) (p q:Nat):=acc++b.extract q b.size++a.extract p a.size
 let mut acc:Array Keyed:=#[<- elem' b 0]
 let mut p:=0
 let mut q:=1
 if q == b.size then return end1 acc p q
 if p+1 == a.size then return end2 acc p q
 let mut mg:=gallopOf (<- get)
 for _ in [0:all_] do
  let mut ca:=0
  let mut cb:=0
  for _ in [0:all_] do
   let some won <- lt' (<- elem' b q) (<- elem' a p)|return end1 acc p q
   if won then
    acc:=acc.push (<- elem' b q);q:=q+1;cb:=cb+1;ca:=0
    if q == b.size then return end1 acc p q
    if cb>=mg then break
   else
    acc:=acc.push (<- elem' a p);p:=p+1;ca:=ca+1;cb:=0
    if p+1 == a.size then return end2 acc p q
    if ca>=mg then break
  rule "list.sort.gallop"
  mg:=mg+1
  for _ in [0:all_] do
   if mg>1 then mg:=mg-1
   xD mg
   let some k <- mK false (<- elem' b q) a p (a.size-p) 0|return end1 acc p q
   ca:=k
   if k>0 then
    acc:=acc++a.extract p (p+k);p:=p+k
    if p+1 == a.size then return end2 acc p q
    if p == a.size then return end1 acc p q
   acc:=acc.push (<- elem' b q);q:=q+1
   if q == b.size then return end1 acc p q
   let some k <- mK true (<- elem' a p) b q (b.size-q) 0|return end1 acc p q
   cb:=k
   if k>0 then
    acc:=acc++b.extract q (q+k);q:=q+k
    if q == b.size then return end1 acc p q
   acc:=acc.push (<- elem' a p);p:=p+1
   if p+1 == a.size then return end2 acc p q
   if ca<7 && cb<7 then break
  mg:=mg+1
  xD mg
 unsupported "internal:list.sort.merge-bound"):=rfl
section
variable {o:Ord}{N:Nat}{f:Nat->Keyed}{A B hs:am}{ia ib:Nat}
abbrev fa (f:Nat->Keyed)(l:am):Array Keyed:=(l.map f).toArray
def nc(l:am):(fa f l).size=l.length:=by unfold fa;rw[aY,aH]
def Oj(l:am)(i:Nat):(fa f l)[i]?=(l[i]?).map f:=by unfold fa;rw[eV,aS]
def mQ{l:am}{i x:Nat}(h:l[i]?=some x):(fa f l)[i]?=some (f x):=by rw[Oj,h];rfl
def vK(l:am)(x:Nat):(fa f l).push (f x)=fa f (l++[x]):=by
 unfold fa;rw[List.push_toArray,bX];rfl
def pY(l m:am):fa f l++fa f m=fa f (l++m):=by
 unfold fa;rw[List.append_toArray,bX]
def wI(l:am)(i j:Nat):(fa f l).extract i j=fa f ((l.drop i).take (j-i)):=by
 unfold fa;rw[List.extract_toArray,List.extract_eq_take_drop,map_take,map_drop]
def yh(l:am)(i:Nat):(fa f l).extract i l.length=fa f (l.drop i):=by
 rw[wI,List.take_of_length_le (by rw[dm];lia)]
structure Ab (o:Ord)(N:Nat)(A B:am):Prop where
 sa:A.Pairwise (P o)
 sb:B.Pairwise (P o)
 lt:∀x∈A,∀y∈B,x<y
 nb:∀y∈B,y<N
 na:∀x∈A,x<N
structure Mg (o:Ord)(A B hs:am)(ia ib:Nat):Prop where
 la:ia<=A.length
 lb:ib<=B.length
 len:hs.length=ia+ib
 so:hs.Pairwise (P o)
 mem:∀x∈hs,x∈A\/x∈B
 ua:∀x∈hs,∀y∈A.drop ia,P o x y
 ub:∀x∈hs,∀y∈B.drop ib,P o x y
abbrev Res (o:Ord)(f:Nat->Keyed)(A B:am)(out:Array Keyed):Prop:=∃hs:am,out=fa f hs/\hs.length=A.length+B.length/\hs.Pairwise (P o)/\∀x∈hs,x∈A\/x∈B
def sW{l:am}(h:l.Pairwise (P o)){i j x:Nat}(hx:l[i]?=some x)(hy:l[j]?=some y)(hij:i<j):P o x y:=by
 obtain⟨h1,e1⟩:=aL.mp hx;obtain⟨h2,e2⟩:=aL.mp hy;rw[<- e1,<- e2];exact c7.mp h i j h1 h2 hij
def uR{l:am}{y:Nat}(h:y∈l.drop i):∃j,i<=j/\l[j]?=some y:=by
 obtain⟨k,hk⟩:=eZ h;rw[gO]at hk;exact⟨i+k,(),hk⟩
def Mg.xq(ab:Ab o N A B)(m:Mg o A B hs ia ib){x:Nat}(hx:A[ia]?=some x)(h:∀y∈B.drop ib,P o x y):Mg o A B (hs++[x]) (ia+1) ib:=by
 obtain⟨h1,e1⟩:=aL.mp hx;have hd:A.drop ia=x::A.drop (ia+1):=by rw[<- e1];exact c8 h1
 refine⟨(),m.lb,by rw[aR,m.len];show ia+ib+1=_;lia,?_,λz hz=>?_,λz hz y hy=>?_,λz hz y hy=>?_⟩
 ·rw[cB];exact⟨m.so,cj ..,λa ha b hb=>by rw[aV.mp hb];exact m.ua a ha x (by rw[hd];exact aM ..)⟩
 ·rcases bI.mp hz with z'|z'
  ·exact m.mem z z'
  ·rw[aV.mp z'];exact .inl (aZ hx)
 ·rcases bI.mp hz with z'|z'
  ·exact m.ua z z' y (by rw[hd];exact aN _ hy)
  ·rw[aV.mp z'];obtain⟨j,hj,ej⟩:=uR hy;exact sW ab.sa hx ej ()
 ·rcases bI.mp hz with z'|z'
  ·exact m.ub z z' y hy
  ·rw[aV.mp z'];exact h y hy
def Ab.yi(ab:Ab o N A B)(m:Mg o A B hs ia ib){x:Nat}(hx:B[ib]?=some x)(h:∀y∈A.drop ia,P o x y):Mg o A B (hs++[x]) ia (ib+1):=by
 obtain⟨h1,e1⟩:=aL.mp hx;have hd:B.drop ib=x::B.drop (ib+1):=by rw[<- e1];exact c8 h1
 refine⟨m.la,(),by rw[aR,m.len];rfl,?_,λz hz=>?_,λz hz y hy=>?_,λz hz y hy=>?_⟩
 ·rw[cB];exact⟨m.so,cj ..,λa ha b hb=>by rw[aV.mp hb];exact m.ub a ha x (by rw[hd];exact aM ..)⟩
 ·rcases bI.mp hz with z'|z'
  ·exact m.mem z z'
  ·rw[aV.mp z'];exact .inr (aZ hx)
 ·rcases bI.mp hz with z'|z'
  ·exact m.ua z z' y hy
  ·rw[aV.mp z'];exact h y hy
 ·rcases bI.mp hz with z'|z'
  ·exact m.ub z z' y (by rw[hd];exact aN _ hy)
  ·rw[aV.mp z'];obtain⟨j,hj,ej⟩:=uR hy;exact sW ab.sb hx ej ()
def qZ{l:am}(h:l.Pairwise (P o)){i x:Nat}(hx:l[i]?=some x)(hxy:P o y x):∀z∈l.drop i,P o y z:=λz hz=>by
 obtain⟨j,hj,ej⟩:=uR hz;by_cases c:j=i
 ·subst c;rw[hx]at ej;cases ej;exact hxy
 ·exact hxy.trans (sW h hx ej ())
def take_snoc{l:am}{k x:Nat}(h:l[i+k]?=some x):(l.drop i).take (k+1)=(l.drop i).take k++[x]:=by
 have h':(l.drop i)[k]?=some x:=by rw[gO];exact h
 obtain⟨h1,e1⟩:=aL.mp h';rw[ir h1,e1]
theorem Mg.zC(ab:Ab o N A B)(m:Mg o A B hs ia ib)(hy:B[ib]?=some y):∀k,ia+k<=A.length->(∀i x,i<k->A[ia+i]?=some x->P o x y)->Mg o A B (hs++(A.drop ia).take k) (ia+k) ib
 | 0,_,_=>by rw[fN,bU];exact m
 | k+1,hk,h=>by
  have ih:=Mg.zC ab m hy k () λi x hi=>h i x ();have hx:A[ia+k]?=some (A[ia+k]'()):=aG _;rw[take_snoc hx,<- cD];exact ih.xq ab hx (qZ ab.sb hy (h k _ () hx))
theorem Mg.zm(ab:Ab o N A B)(m:Mg o A B hs ia ib)(hy:A[ia]?=some y):∀k,ib+k<=B.length->(∀i x,i<k->B[ib+i]?=some x->P o x y)->Mg o A B (hs++(B.drop ib).take k) ia (ib+k)
 | 0,_,_=>by rw[fN,bU];exact m
 | k+1,hk,h=>by
  have ih:=Mg.zm ab m hy k () λi x hi=>h i x ();have hx:B[ib+k]?=some (B[ib+k]'()):=aG _;rw[take_snoc hx,<- cD];exact ab.yi ih hx (qZ ab.sa hy (h k _ () hx))
def ye{l:am}(h:l.Pairwise (P o))(i:Nat):(l.drop i).Pairwise (P o):=h.sublist (List.drop_sublist ..)
def Mg.fin(ab:Ab o N A B)(m:Mg o A B hs ia ib)(h:∀x∈A.drop ia,∀y∈B.drop ib,P o x y):Res o f A B (fa f hs++(fa f A).extract ia A.length++(fa f B).extract ib B.length):=by
 rw[yh,yh,pY,pY];have la:=m.la;have lb:=m.lb;refine⟨_,rfl,by rw[aR,aR,m.len,dm,dm];lia,?_,λx hx=>?_⟩
 ·rw[cB,cB];refine⟨⟨m.so,ye ab.sa _,m.ua⟩,ye ab.sb _,λx hx y hy=>?_⟩
  rcases bI.mp hx with z|z
  ·exact m.ub x z y hy
  ·exact h x z y hy
 ·rcases bI.mp hx with z|z
  ·rcases bI.mp z with z|z
   ·exact m.mem x z
   ·exact .inl (e_ z)
  ·exact .inr (e_ z)
def Mg.VD(ab:Ab o N A B)(m:Mg o A B hs ia ib)(h:∀x∈A.drop ia,∀y∈B.drop ib,P o y x):Res o f A B (fa f hs++(fa f B).extract ib B.length++(fa f A).extract ia A.length):=by
 rw[yh,yh,pY,pY];have la:=m.la;have lb:=m.lb;refine⟨_,rfl,by rw[aR,aR,m.len,dm,dm];lia,?_,λx hx=>?_⟩
 ·rw[cB,cB];refine⟨⟨m.so,ye ab.sb _,m.ub⟩,ye ab.sa _,λx hx y hy=>?_⟩
  rcases bI.mp hx with z|z
  ·exact m.ua x z y hy
  ·exact h y hy x z
 ·rcases bI.mp hx with z|z
  ·rcases bI.mp z with z|z
   ·exact m.mem x z
   ·exact .inr (e_ z)
  ·exact .inl (e_ z)
def drop_nil{l:am}(h:l.length<=i):l.drop i=[]:=List.drop_eq_nil_of_le h
def Je{l:am}(h:l.Pairwise (P o))(b n:Nat)(hn:b+n<=l.length):So o (λi=>l.getD (b+i) 0) 0 n:=λi j _ hij hj=>
 sW h (i:=b+i) (j:=b+j) (by show _=some (l.getD (b+i) 0);rw[aJ,aG (show b+i<l.length by lia)];rfl) (by show _=some (l.getD (b+j) 0);rw[aJ,aG (show b+j<l.length by lia)];rfl) ()
def getD_at{l:am}{i:Nat}(h:i<l.length):l[i]?=some (l.getD i 0):=by
 rw[aJ,aG h];rfl
end
structure Sm (st st':SortSt):Prop where
 a:arrOf st'=arrOf st
 k:kindOf st'=kindOf st
 p:pendingOf st'=pendingOf st
 f:failedOf st'=failedOf st
def Sm.refl{st:SortSt}:Sm st st:=⟨rfl,rfl,rfl,rfl⟩
def Sm.trans{st:SortSt}(a:Sm st st')(b:Sm st' st''):Sm st st'':=⟨b.a.trans a.a,b.k.trans a.k,b.p.trans a.p,b.f.trans a.f⟩
meta abbrev G:=Option (Array Keyed)×Array Keyed×Nat×Nat×Nat×Nat×Nat
abbrev T3 (a b out:Array Keyed)(ia ib mg ac bc:Nat):StateT SortSt Sem (ForInStep G):=do
 let x <- elem' a ia
 if (ia+1+1 == a.size)=true then pure (ForInStep.done (some (out.push x++b.extract ib b.size++a.extract (ia+1) a.size),out.push x,ia+1,ib,mg,ac,bc))
 else if (decide (ac<7) && decide (bc<7))=true then pure (ForInStep.done (none,out.push x,ia+1,ib,mg,ac,bc))
 else pure (ForInStep.yield (none,out.push x,ia+1,ib,mg,ac,bc))
abbrev T2 (a b out:Array Keyed)(ia ib mg ac bc:Nat):StateT SortSt Sem (ForInStep G):=do
 let x <- elem' b ib
 if (ib+1 == b.size)=true then pure (ForInStep.done (some (out.push x++a.extract ia a.size++b.extract (ib+1) b.size),out.push x,ia,ib+1,mg,ac,bc))
 else
  let y <- elem' a ia
  let r <- mK true y b (ib+1) (b.size-(ib+1)) 0
  match r with
  | some k=>
   if k>0 then
    if (ib+1+k == b.size)=true then pure (ForInStep.done (some (out.push x++b.extract (ib+1) (ib+1+k)++a.extract ia a.size++b.extract (ib+1+k) b.size),out.push x++b.extract (ib+1) (ib+1+k),ia,ib+1+k,mg,ac,k))
    else T3 a b (out.push x++b.extract (ib+1) (ib+1+k)) ia (ib+1+k) mg ac k
   else T3 a b (out.push x) ia (ib+1) mg ac k
  | _=>pure (ForInStep.done (some (out.push x++a.extract ia a.size++b.extract (ib+1) b.size),out.push x,ia,ib+1,mg,ac,bc))
abbrev T1 (a b out:Array Keyed)(ia ib mg ac bc:Nat):StateT SortSt Sem (ForInStep G):=do
 xD mg
 let x <- elem' b ib
 let r <- mK false x a ia (a.size-ia) 0
 match r with
 | some k=>
  if k>0 then
   if (ia+k+1 == a.size)=true then pure (ForInStep.done (some (out++a.extract ia (ia+k)++b.extract ib b.size++a.extract (ia+k) a.size),out++a.extract ia (ia+k),ia+k,ib,mg,k,bc))
   else if (ia+k == a.size)=true then pure (ForInStep.done (some (out++a.extract ia (ia+k)++a.extract (ia+k) a.size++b.extract ib b.size),out++a.extract ia (ia+k),ia+k,ib,mg,k,bc))
   else T2 a b (out++a.extract ia (ia+k)) (ia+k) ib mg k bc
  else T2 a b out ia ib mg k bc
 | _=>pure (ForInStep.done (some (out++a.extract ia a.size++b.extract ib b.size),out,ia,ib,mg,ac,bc))
section
variable {prog:aj}{w:ah}{A:az}{E:af->aA->Prop}{s:aA}{o:Ord}{N:Nat}{f:Nat->Keyed}{kd:SortKind}{st st0:SortSt}{X Y hs:am}{ia ib:Nat}
def uT(h:Sm st0 st){Q:Unit->SortSt->Prop}(q:∀st',Sm st0 st'->Q Unit.unit st'):wpS (model prog w) A E s (xD m) Q st:=by
 rw[Q4];exact fS (q _ (h.trans ⟨rfl,rfl,rfl,rfl⟩))
abbrev On (o:Ord)(f:Nat->Keyed)(X Y:am)(n:Nat)(hs:am)(ia ib:Nat):Prop:=Mg o X Y hs ia ib/\ia+1<X.length/\ib<Y.length/\n<=ia+ib
abbrev G2 (o:Ord)(f:Nat->Keyed)(X Y:am)(n:Nat)(st0:SortSt):ForInStep G->SortSt->Prop:=λr st'=>Sm st0 st'/\match r with
 | .done c=>(∃r z,c=(some r,z)/\Res o f X Y r)\/∃hs ia ib mg ac bc,c=(none,fa f hs,ia,ib,mg,ac,bc)/\On o f X Y n hs ia ib
 | .yield c=>∃hs ia ib mg ac bc,c=(none,fa f hs,ia,ib,mg,ac,bc)/\On o f X Y n hs ia ib
abbrev Top (o:Ord)(X Y:am):Prop:=∀i x,X[i]?=some x->i+1=X.length->∀y∈Y,P o y x
def un3{α β γ κ:Type}{g:α->κ}{O:α->β->γ->Prop}{T:κ->Prop}(k:∀a b c,O a b c->T (g a)):∀q,(∃a b c,q=g a/\O a b c)->T q:=by
 rintro _ ⟨a,b,c,rfl,h⟩;exact k a b c h
def un4{α β γ δ κ:Type}{S:Prop}{g:α->β->γ->δ->κ}{O:α->β->γ->δ->Prop}{T:κ->Prop}(k:S->∀a b c d,O a b c d->T (g a b c d)):∀q,(S/\∃a b c d,q=g a b c d/\O a b c d)->T q:=by
 rintro q ⟨s,a,b,c,d,rfl,o⟩;exact k s a b c d o
def un5{α β γ δ ε κ:Type}{S:Prop}{g:α->β->γ->δ->ε->κ}{O:α->β->γ->δ->ε->Prop}{T:κ->Prop}(k:S->∀a b c d e,O a b c d e->T (g a b c d e)):∀q,(S/\∃a b c d e,q=g a b c d e/\O a b c d e)->T q:=by
 rintro q ⟨s,a,b,c,d,e,rfl,o⟩;exact k s a b c d e o
def un6{α β γ δ ε ζ κ:Type}{S:Prop}{g:α->β->γ->δ->ε->ζ->κ}{O:α->β->γ->δ->ε->ζ->Prop}{T:κ->Prop}(k:S->∀a b c d e f,O a b c d e f->T (g a b c d e f)):∀q,(S/\∃a b c d e f,q=g a b c d e f/\O a b c d e f)->T q:=by
 rintro q ⟨s,a,b,c,d,e,f,rfl,o⟩;exact k s a b c d e f o
def uo5{α β γ δ ε κ ρ σ:Type}{S:Prop}{j:ρ->σ->κ}{R:ρ->Prop}{g:α->β->γ->δ->ε->κ}{O:α->β->γ->δ->ε->Prop}{T:κ->Prop}(k1:S->∀r z,R r->T (j r z))(k:S->∀a b c d e,O a b c d e->T (g a b c d e)):∀q,(S/\((∃r z,q=j r z/\R r)\/∃a b c d e,q=g a b c d e/\O a b c d e))->T q:=by
 rintro q ⟨s,⟨r,z,rfl,hr⟩|⟨a,b,c,d,e,rfl,o⟩⟩
 ·exact k1 s r z hr
 ·exact k s a b c d e o
def uo6{α β γ δ ε ζ κ ρ σ:Type}{S:Prop}{j:ρ->σ->κ}{R:ρ->Prop}{g:α->β->γ->δ->ε->ζ->κ}{O:α->β->γ->δ->ε->ζ->Prop}{T:κ->Prop}(k1:S->∀r z,R r->T (j r z))(k:S->∀a b c d e f,O a b c d e f->T (g a b c d e f)):∀q,(S/\((∃r z,q=j r z/\R r)\/∃a b c d e f,q=g a b c d e f/\O a b c d e f))->T q:=by
 rintro q ⟨s,⟨r,z,rfl,hr⟩|⟨a,b,c,d,e,f,rfl,o⟩⟩
 ·exact k1 s r z hr
 ·exact k s a b c d e f o
def vI(ab:Ab o N X Y)(tp:Top o X Y)(m:Mg o X Y hs ia ib)(h:ia+1=X.length):Res o f X Y (fa f hs++(fa f Y).extract ib Y.length++(fa f X).extract ia X.length):=
 m.VD ab λx hx y hy=>by
  obtain⟨j,hj,ej⟩:=uR hx;have:=(aL.mp ej).1;exact tp j x ej () y (e_ hy)
def Ud(ab:Ab o N X Y)(tp:Top o X Y)(hm:Sm st0 st){n mg x:Nat}(m:Mg o X Y hs ia ib)(ha:ia+1<X.length)(hb:ib<Y.length)(hn:n<=ia+ib)(hx:X[ia]?=some x)(hy:Y[ib]?=some y)(hxy:P o x y) :
  wpS (model prog w) A E s (T3 (fa f X) (fa f Y) (fa f hs) ia ib mg ac bc) (G2 o f X Y n st0) st:=by
 unfold T3;rw[nc,nc];refine aX (j8 (mQ hx) ?_);have m2:=m.xq ab hx (qZ ab.sb hy hxy);rw[vK];by_cases c:ia+1+1=X.length
 ·rw[aK (by rw[c];exact bQ _)];exact bu ⟨hm,.inl ⟨_,_,rfl,vI ab tp m2 c⟩⟩
 ·rw[aI (by simpa using c)];by_cases c2:(decide (ac<7) && decide (bc<7))=true
  ·rw[aK c2];exact bu ⟨hm,.inr ⟨_,_,_,_,_,_,rfl,m2,(),hb,()⟩⟩
  ·rw[aI c2];exact bu ⟨hm,⟨_,_,_,_,_,_,rfl,m2,(),hb,()⟩⟩
def Uj(C:A_ prog w A s o N f kd)(hk:kindOf st=kd)(ab:Ab o N X Y)(tp:Top o X Y)(hm:Sm st0 st){n mg x:Nat}(m:Mg o X Y hs ia ib)(ha:ia+1<X.length)(hb:ib<Y.length)(hn:n<=ia+ib)(hx:X[ia]?=some x)(hy:Y[ib]?=some y)(hxy:P o y x) :
  wpS (model prog w) A E s (T2 (fa f X) (fa f Y) (fa f hs) ia ib mg ac bc) (G2 o f X Y n st0) st:=by
 unfold T2;rw[nc,nc];refine aX (j8 (mQ hy) ?_);have m2:=ab.yi m hy (qZ ab.sa hx hxy);rw[vK];by_cases c:ib+1=Y.length
 ·rw[aK (by rw[c];exact bQ _)];exact bu ⟨hm,.inl ⟨_,_,rfl,m2.fin ab λx _ y hy=>by rw[drop_nil ()]at hy;cases hy⟩⟩
 ·rw[aI (by simpa using c)];refine aX (j8 (mQ hx) ?_);refine aX (MD C hk (h:=λi=>Y.getD (ib+1+i) 0) (λi hi=>mQ (getD_at ())) (λi hi=>?_) (Je ab.sb _ _ ()) () λk k1 k2 k3=>?_)
  ·have:=aZ (getD_at (l:=Y) (i:=ib+1+i) ());exact⟨ab.lt x (aZ hx) _ this,ab.nb _ this⟩
  ·dsimp only;have m3:=m2.zm ab hx k () λi z hi ez=>by
    have:=k2 i hi;rw[aJ,ez]at this;exact this
   by_cases c2:k>0
   ·rw[aK c2,wI,show ib+1+k-(ib+1)=k by lia,pY];by_cases c3:ib+1+k=Y.length
    ·rw[aK (by rw[c3];exact bQ _)];exact bu ⟨hm,.inl ⟨_,_,rfl,m3.fin ab λx _ y hy=>by rw[drop_nil ()]at hy;cases hy⟩⟩
    ·rw[aI (by simpa using c3)];exact Ud ab tp hm m3 ha () () hx (getD_at ()) (k3 k (aQ _) ())
   ·rw[aI c2];have:k=0:=()
    subst this;exact Ud ab tp hm m2 ha () () hx (getD_at ()) (k3 0 (aQ _) ())
def Zv(C:A_ prog w A s o N f kd)(hk:kindOf st0=kd)(ab:Ab o N X Y)(tp:Top o X Y)(hm:Sm st0 st){n mg:Nat}(m:Mg o X Y hs ia ib)(ha:ia+1<X.length)(hb:ib<Y.length)(hn:n<=ia+ib) :
  wpS (model prog w) A E s (T1 (fa f X) (fa f Y) (fa f hs) ia ib mg ac bc) (G2 o f X Y n st0) st:=by
 unfold T1;rw[nc,nc];refine aX (uT hm λst1 hm1=>?_);have hy:=getD_at (l:=Y) (i:=ib) hb;have yB:=aZ hy;refine aX (j8 (mQ hy) ?_);refine aX (Qs C (by rw[hm1.k];exact hk) (h:=λi=>X.getD (ia+i) 0) (λi hi=>mQ (getD_at ())) (λi hi=>ab.lt _ (aZ (getD_at (l:=X) (i:=ia+i) ())) _ yB) (ab.nb _ yB) (Je ab.sa _ _ ()) () λk k1 k2 k3=>?_);dsimp only;have m3:=m.zC ab hy k () λi z hi ez=>by
  have:=k2 i hi;rw[aJ,ez]at this;exact this
 by_cases c2:k>0
 ·rw[aK c2,wI,show ia+k-ia=k by lia,pY];by_cases c3:ia+k+1=X.length
  ·rw[aK (by rw[c3];exact bQ _)];exact bu ⟨hm1,.inl ⟨_,_,rfl,vI ab tp m3 c3⟩⟩
  ·rw[aI (by simpa using c3)];by_cases c4:ia+k=X.length
   ·rw[aK (by rw[c4];exact bQ _)];exact bu ⟨hm1,.inl ⟨_,_,rfl,m3.fin ab λx hx y _=>by rw[drop_nil ()]at hx;cases hx⟩⟩
   ·rw[aI (by simpa using c4)];exact Uj C (by rw[hm1.k];exact hk) ab tp hm1 m3 () hb () (getD_at ()) hy (k3 k (aQ _) ())
 ·rw[aI c2];have:k=0:=()
  subst this;exact Uj C (by rw[hm1.k];exact hk) ab tp hm1 m ha hb hn (getD_at ()) hy (k3 0 (aQ _) ())
def Yt(C:A_ prog w A s o N f kd)(hk:kindOf st=kd)(ab:Ab o N X Y)(tp:Top o X Y)(h1:1<=X.length)(hy0:Y[0]?=some y0)(h0:∀x∈X,P o y0 x)
  {Q:Array Keyed->SortSt->Prop} (q:∀out st',Sm st st'->Res o f X Y out->Q out st'):wpS (model prog w) A E s (yC (fa f X) (fa f Y)) Q st:=by
 rw[Gf];refine aX (wpS_lift (fq ⟨rfl,?_⟩));dsimp only;rw[nc,nc];have hY:=(aL.mp hy0).1;refine aX (j8 (mQ hy0) ?_);have m0:Mg o X Y [] 0 0:=⟨bO _,bO _,rfl,List.Pairwise.nil,(nofun),(nofun),(nofun)⟩;have m1:Mg o X Y [y0] 0 1:=ab.yi m0 hy0 h0;have e1:(#[f y0]:Array Keyed)=fa f [y0]:=rfl;rw[e1];by_cases c:1=Y.length
 ·rw[aK (by rw[<- c];rfl)];exact bu (q _ _ Sm.refl (m1.fin ab λx _ y hy=>by rw[drop_nil ()]at hy;cases hy))
 ·rw[aI (by simpa using c)];by_cases c2:0+1=X.length
  ·rw[aK (by rw[<- c2];rfl)];exact bu (q _ _ Sm.refl (vI ab tp m1 c2))
  ·rw[aI (by simpa using c2)];refine aX (ig ?_);refine aX (ef (cJ (I:=λx c st'=>Sm st st'/\∃hs ia ib mg,c=(none,fa f hs,ia,ib,mg)/\On o f X Y (x+1) hs ia ib)
    (Q:=λc st'=>Sm st st'/\∃r z,c=(some r,z)/\Res o f X Y r) ?step ?fin ⟨Sm.refl,_,_,_,_,rfl,m1,(),(),aQ _⟩) ?post)
   case post=>
    rintro c st' ⟨hm,r,z,rfl,hr⟩;exact bu (q _ _ hm hr)
   case fin=>
    rintro c st' ⟨hm,hs,ia,ib,mg,rfl,m,a1,a2,a3⟩;exfalso
    lia
   case step=>
    intro x c st' _ hx hh;revert hh;revert c;refine un4 λhm hs ia ib mg ho=>?_;have m:=ho.1;have a1:=ho.2.1;have a2:=ho.2.2.1;have a3:=ho.2.2.2;clear ho;dsimp only;refine aX (ef (cJ (I:=λx' c st''=>Sm st st''/\∃hs ia ib ac bc,c=(none,fa f hs,ia,ib,ac,bc)/\On o f X Y (x+1+min x' 1) hs ia ib)
     (Q:=λc st''=>Sm st st''/\((∃r z,c=(some r,z)/\Res o f X Y r)\/∃hs ia ib ac bc,c=(none,fa f hs,ia,ib,ac,bc)/\On o f X Y (x+1+1) hs ia ib)) ?istep ?ifin ⟨hm,_,_,_,_,_,rfl,m,a1,a2,a3⟩) ?ipost)
    case ifin=>
     rintro c st'' ⟨hm',hs,ia,ib,ac,bc,rfl,m,a1,a2,a3⟩;exact⟨hm',.inr ⟨_,_,_,_,_,rfl,m,a1,a2,()⟩⟩
    case istep=>
     intro x' c st'' _ hx' hh;revert hh;revert c;refine un5 λhm' hs ia ib ac bc ho=>?_;have m:=ho.1;have a1:=ho.2.1;have a2:=ho.2.2.1;have a3:=ho.2.2.2;clear ho;dsimp only;have hy:=getD_at (l:=Y) (i:=ib) a2;have hxx:=getD_at (l:=X) (i:=ia) ();have yB:=aZ hy;have xA:=aZ hxx;have lt:=ab.lt _ xA _ yB;refine aX (j8 (mQ hy) ?_);refine aX (j8 (mQ hxx) ?_);refine aX (yy C (by rw[hm'.k];exact hk) (ab.nb _ yB) (ab.na _ xA) ?_)
     cases hl:o.lt (Y.getD ib 0) (X.getD ia 0)
     ·dsimp[bz,bY];refine aX (j8 (mQ hxx) ?_);have m2:=m.xq ab hxx (qZ ab.sb hy (P.xB hl lt));rw[vK];by_cases c3:ia+1+1=X.length
      ·rw[aK (by rw[c3];exact bQ _)];exact bu ⟨hm',.inl ⟨_,_,rfl,vI ab tp m2 c3⟩⟩
      ·rw[aI (by simpa using c3)];by_cases c4:ac+1>=mg
       ·rw[aK c4];exact bu ⟨hm',.inr ⟨_,_,_,_,_,rfl,m2,(),a2,()⟩⟩
       ·rw[aI c4];exact bu ⟨hm',_,_,_,_,_,rfl,m2,(),a2,()⟩
     ·dsimp[cI];refine aX (j8 (mQ hy) ?_);have m2:=ab.yi m hy (qZ ab.sa hxx (P.of_lt hl));rw[vK];by_cases c3:ib+1=Y.length
      ·rw[aK (by rw[c3];exact bQ _)];exact bu ⟨hm',.inl ⟨_,_,rfl,m2.fin ab λx _ y hy=>by rw[drop_nil ()]at hy;cases hy⟩⟩
      ·rw[aI (by simpa using c3)];by_cases c4:bc+1>=mg
       ·rw[aK c4];exact bu ⟨hm',.inr ⟨_,_,_,_,_,rfl,m2,a1,(),()⟩⟩
       ·rw[aI c4];exact bu ⟨hm',_,_,_,_,_,rfl,m2,a1,(),()⟩
    case ipost=>
     intro c st'' hh;revert hh;revert c;refine uo5 (λhm' r z hr=>?_) λhm' hs ia ib ac bc ho=>?_
     ·dsimp only;exact bu ⟨hm',r,_,rfl,hr⟩
     ·have m:=ho.1;have a1:=ho.2.1;have a2:=ho.2.2.1;have a3:=ho.2.2.2;clear ho;dsimp only;refine aX (wpS_lift (fq ⟨rfl,?_⟩));refine aX (ef (cJ (I:=λx' c st''=>Sm st st''/\∃hs ia ib mg ac bc,c=(none,fa f hs,ia,ib,mg,ac,bc)/\On o f X Y (x+1+1) hs ia ib)
       (Q:=λc st''=>Sm st st''/\((∃r z,c=(some r,z)/\Res o f X Y r)\/∃hs ia ib mg ac bc,c=(none,fa f hs,ia,ib,mg,ac,bc)/\On o f X Y (x+1+1) hs ia ib)) ?jstep ?jfin ⟨hm',_,_,_,_,_,_,rfl,m,a1,a2,a3⟩) ?jpost)
      case jfin=>
       rintro c st3 ⟨hm3,hh⟩;exact⟨hm3,.inr hh⟩
      case jstep=>
       intro x' c st3 _ hx' hh;revert hh;revert c;refine un6 λhm3 hs ia ib mg ac bc ho=>?_;have m:=ho.1;have a1:=ho.2.1;have a2:=ho.2.2.1;have a3:=ho.2.2.2;clear ho;dsimp only;have t1:=λmg=>Zv (n:=x+1+1) (mg:=mg) (ac:=ac) (bc:=bc) (E:=E) C hk ab tp hm3 m a1 a2 a3;unfold T1 T2 T3 at t1;rw[nc,nc]at t1;refine ef (Q:=G2 o f X Y (x+1+1) st) ?_ ?_
       ·by_cases c3:mg>1
        ·rw[aK c3];exact t1 (mg-1)
        ·rw[aI c3];exact t1 mg
       ·rintro r st4 ⟨hm4,hr⟩
        cases r with
        | done c=>exact⟨hm4,hr⟩
        | yield c=>exact⟨hm4,hr⟩
      case jpost=>
       intro c st3 hh;revert hh;revert c;refine uo6 (λhm3 r z hr=>?_) λhm3 hs ia ib mg ac bc ho=>?_
       ·dsimp only;exact bu ⟨hm3,r,_,rfl,hr⟩
       ·have m:=ho.1;have a1:=ho.2.1;have a2:=ho.2.2.1;have a3:=ho.2.2.2;clear ho;dsimp only;refine aX (uT hm3 λst4 hm4=>?_);exact bu ⟨hm4,_,_,_,_,rfl,m,a1,a2,a3⟩
end
def E6(a b:Array Keyed):yU a b=(do
 rule "list.sort.merge-hi"
 let all_:=a.size+b.size
 let end1 (acc:Array Keyed) (p q:Nat):=a.extract 0 p++b.extract 0 q++acc.reverse
 let end2 (acc:Array Keyed) (p q:Nat):=b.extract 0 q++a.extract 0 p++acc.reverse
 let mut p:=a.size-1
 let mut q:=b.size
 let mut acc:Array Keyed:=#[<- elem' a p]
 if p == 0 then return end1 acc p q
 if q == 1 then return end2 acc p q
 let mut mg:=gallopOf (<- get)
 for _ in [0:all_] do
  let mut ca:=0
  let mut cb:=0
  for _ in [0:all_] do
   let some won <- lt' (<- elem' b (q-1)) (<- elem' a (p-1))|return end1 acc p q
   if won then
    p:=p-1;acc:=acc.push (<- elem' a p);ca:=ca+1;cb:=0
    if p == 0 then return end1 acc p q
    if ca>=mg then break
   else
    q:=q-1;acc:=acc.push (<- elem' b q);cb:=cb+1;ca:=0
    if q == 1 then return end2 acc p q
    if cb>=mg then break
  rule "list.sort.gallop"
  mg:=mg+1
  for _ in [0:all_] do
   if mg>1 then mg:=mg-1
   xD mg
   let some t <- mK false (<- elem' b (q-1)) a 0 p (p-1)|return end1 acc p q
   let k:=p-t
   ca:=k
   if k>0 then
    acc:=acc++(a.extract t p).reverse;p:=t
    if p == 0 then return end1 acc p q
   q:=q-1;acc:=acc.push (<- elem' b q)
   if q == 1 then return end2 acc p q
   let some t <- mK true (<- elem' a (p-1)) b 0 q (q-1)|return end1 acc p q
   let k:=q-t
   cb:=k
   if k>0 then
    acc:=acc++(b.extract t q).reverse;q:=t
    if q == 1 then return end2 acc p q
    if q == 0 then return end1 acc p q
   p:=p-1;acc:=acc.push (<- elem' a p)
   if p == 0 then return end1 acc p q
   if ca<7 && cb<7 then break
  mg:=mg+1
  xD mg
 unsupported "internal:list.sort.merge-bound"):=rfl
section
variable {o:Ord}{N:Nat}{f:Nat->Keyed}{A B ts:am}{na nb:Nat}
def PY(l:am):(fa f l).reverse=fa f l.reverse:=by
 unfold fa;rw[List.reverse_toArray,List.map_reverse]
def yf(l:am)(i:Nat):(fa f l).extract 0 i=fa f (l.take i):=by
 rw[wI,List.drop_zero,Nat.sub_zero]
structure Mh (o:Ord)(A B ts:am)(na nb:Nat):Prop where
 la:na<=A.length
 lb:nb<=B.length
 len:ts.length+na+nb=A.length+B.length
 so:ts.Pairwise (P o)
 mem:∀x∈ts,x∈A\/x∈B
 ua:∀y∈A.take na,∀x∈ts,P o y x
 ub:∀y∈B.take nb,∀x∈ts,P o y x
def vd{l:am}{y:Nat}(h:y∈l.take i):∃j,j<i/\l[j]?=some y:=by
 obtain⟨k,hk⟩:=eZ h;have:=(aL.mp hk).1;rw[bM]at this;rw[fm ()]at hk;exact⟨k,(),hk⟩
def take_one{l:am}{i x:Nat}(h:l[i]?=some x):l.take (i+1)=l.take i++[x]:=by
 obtain⟨h1,e1⟩:=aL.mp h;rw[ir h1,e1]
def Mh.xq(ab:Ab o N A B)(m:Mh o A B ts (na+1) nb){x:Nat}(hx:A[na]?=some x)(h:∀y∈B.take nb,P o y x):Mh o A B (x::ts) na nb:=by
 have la:=m.la;have len:=m.len;have ht:=take_one hx;have xin:x∈A.take (na+1):=by rw[ht];exact bP _ (aV.mpr rfl)
 refine⟨(),m.lb,by rw[bC];lia,bR.mpr ⟨λy hy=>m.ua x xin y hy,m.so⟩,λz hz=>?_,λy hy z hz=>?_,λy hy z hz=>?_⟩
 ·rcases bD.mp hz with rfl|z'
  ·exact .inl (aZ hx)
  ·exact m.mem z z'
 ·rcases bD.mp hz with rfl|z'
  ·obtain⟨j,hj,ej⟩:=vd hy;exact sW ab.sa ej hx hj
  ·exact m.ua y (by rw[ht];exact cG _ hy) z z'
 ·rcases bD.mp hz with rfl|z'
  ·exact h y hy
  ·exact m.ub y hy z z'
def Mh.N3(ab:Ab o N A B)(m:Mh o A B ts na (nb+1)){x:Nat}(hx:B[nb]?=some x)(h:∀y∈A.take na,P o y x):Mh o A B (x::ts) na nb:=by
 have lb:=m.lb;have len:=m.len;have ht:=take_one hx;have xin:x∈B.take (nb+1):=by rw[ht];exact bP _ (aV.mpr rfl)
 refine⟨m.la,(),by rw[bC];lia,bR.mpr ⟨λy hy=>m.ub x xin y hy,m.so⟩,λz hz=>?_,λy hy z hz=>?_,λy hy z hz=>?_⟩
 ·rcases bD.mp hz with rfl|z'
  ·exact .inr (aZ hx)
  ·exact m.mem z z'
 ·rcases bD.mp hz with rfl|z'
  ·exact h y hy
  ·exact m.ua y hy z z'
 ·rcases bD.mp hz with rfl|z'
  ·obtain⟨j,hj,ej⟩:=vd hy;exact sW ab.sb ej hx hj
  ·exact m.ub y (by rw[ht];exact cG _ hy) z z'
def rm{l:am}(h:l.Pairwise (P o)){i x:Nat}(hx:l[i]?=some x)(hxy:P o x y):∀z∈l.take (i+1),P o z y:=λz hz=>by
 obtain⟨j,hj,ej⟩:=vd hz;by_cases c:j=i
 ·subst c;rw[hx]at ej;cases ej;exact hxy
 ·exact(sW h ej hx ()).trans hxy
theorem Mh.zC(ab:Ab o N A B){mb:Nat}(hy:B[mb]?=some y):∀(k:Nat) {ts:am}{at_:Nat},Mh o A B ts (at_+k) (mb+1)->(∀i x,at_<=i->i<at_+k->A[i]?=some x->P o y x)->Mh o A B ((A.drop at_).take k++ts) at_ (mb+1)
 | 0,ts,at_,m,_=>by rw[fN];exact m
 | k+1,ts,at_,m,h=>by
  have la:=m.la;have hx:A[at_+k]?=some (A[at_+k]'()):=aG _;have m2:=Mh.xq ab (show Mh o A B ts (at_+k+1) (mb+1)from m) hx (rm ab.sb hy (h _ _ () () hx));have m3:=Mh.zC ab hy k m2 λi x h1 h2=>h i x h1 ();rw[take_snoc hx,cD];exact m3
theorem Mh.zm(ab:Ab o N A B){ma:Nat}(hy:A[ma]?=some y):∀(k:Nat) {ts:am}{at_:Nat},Mh o A B ts (ma+1) (at_+k)->(∀i x,at_<=i->i<at_+k->B[i]?=some x->P o y x)->Mh o A B ((B.drop at_).take k++ts) (ma+1) at_
 | 0,ts,at_,m,_=>by rw[fN];exact m
 | k+1,ts,at_,m,h=>by
  have lb:=m.lb;have hx:B[at_+k]?=some (B[at_+k]'()):=aG _;have m2:=Mh.N3 ab (show Mh o A B ts (ma+1) (at_+k+1)from m) hx (rm ab.sa hy (h _ _ () () hx));have m3:=Mh.zm ab hy k m2 λi x h1 h2=>h i x h1 ();rw[take_snoc hx,cD];exact m3
def xY{l:am}(h:l.Pairwise (P o))(i:Nat):(l.take i).Pairwise (P o):=h.sublist (List.take_sublist ..)
def Mh.fin(ab:Ab o N A B)(m:Mh o A B ts na nb)(h:∀x∈A.take na,∀y∈B.take nb,P o x y):Res o f A B ((fa f A).extract 0 na++(fa f B).extract 0 nb++fa f ts):=by
 rw[yf,yf,pY,pY];have la:=m.la;have lb:=m.lb;have len:=m.len;refine⟨_,rfl,by rw[aR,aR,bM,bM];lia,?_,λx hx=>?_⟩
 ·rw[cB,cB];refine⟨⟨xY ab.sa _,xY ab.sb _,h⟩,m.so,λx hx y hy=>?_⟩
  rcases bI.mp hx with z|z
  ·exact m.ua x z y hy
  ·exact m.ub x z y hy
 ·rcases bI.mp hx with z|z
  ·rcases bI.mp z with z|z
   ·exact .inl (dP z)
   ·exact .inr (dP z)
  ·exact m.mem x z
def Mh.VD(ab:Ab o N A B)(m:Mh o A B ts na nb)(h:∀x∈A.take na,∀y∈B.take nb,P o y x):Res o f A B ((fa f B).extract 0 nb++(fa f A).extract 0 na++fa f ts):=by
 rw[yf,yf,pY,pY];have la:=m.la;have lb:=m.lb;have len:=m.len;refine⟨_,rfl,by rw[aR,aR,bM,bM];lia,?_,λx hx=>?_⟩
 ·rw[cB,cB];refine⟨⟨xY ab.sb _,xY ab.sa _,λx hx y hy=>h y hy x hx⟩,m.so,λx hx y hy=>?_⟩
  rcases bI.mp hx with z|z
  ·exact m.ub x z y hy
  ·exact m.ua x z y hy
 ·rcases bI.mp hx with z|z
  ·rcases bI.mp z with z|z
   ·exact .inr (dP z)
   ·exact .inl (dP z)
  ·exact m.mem x z
abbrev ZF (o:Ord)(X Y:am):Prop:=∀y,Y[0]?=some y->∀x∈X,P o y x
def tW(ab:Ab o N A B)(bt:ZF o A B)(m:Mh o A B ts na nb)(h:nb=1):Res o f A B ((fa f B).extract 0 nb++(fa f A).extract 0 na++fa f ts):=
 m.VD ab λx hx y hy=>by
  obtain⟨j,hj,ej⟩:=vd hy;have:j=0:=()
  subst this;exact bt y ej x (dP hx)
def Mh.DR(ab:Ab o N A B)(m:Mh o A B ts na nb)(h:na=0\/nb=0):Res o f A B ((fa f A).extract 0 na++(fa f B).extract 0 nb++fa f ts):=
 m.fin ab λx hx y hy=>by
  rcases h with rfl|rfl
  ·rw[fN]at hx;cases hx
  ·rw[fN]at hy;cases hy
def yj(l:am)(x:Nat):(fa f l.reverse).push (f x)=fa f (x::l).reverse:=by rw[vK,i8]
def LA(l m:am):fa f l.reverse++(fa f m).reverse=fa f (m++l).reverse:=by rw[PY,pY,List.reverse_append]
def uG(l:am):(fa f l.reverse).reverse=fa f l:=by rw[PY,List.reverse_reverse]
end
meta abbrev H:=Option (Array Keyed)×Nat×Nat×Array Keyed×Nat×Nat×Nat
abbrev U3 (a b out:Array Keyed)(na nb mg ac bc:Nat):StateT SortSt Sem (ForInStep H):=do
 let x <- elem' a (na-1)
 if (na-1 == 0)=true then pure (ForInStep.done (some (a.extract 0 (na-1)++b.extract 0 nb++(out.push x).reverse),na-1,nb,out.push x,mg,ac,bc))
 else if (decide (ac<7) && decide (bc<7))=true then pure (ForInStep.done (none,na-1,nb,out.push x,mg,ac,bc))
 else pure (ForInStep.yield (none,na-1,nb,out.push x,mg,ac,bc))
abbrev U2 (a b out:Array Keyed)(na nb mg ac bc:Nat):StateT SortSt Sem (ForInStep H):=do
 let x <- elem' b (nb-1)
 if (nb-1 == 1)=true then pure (ForInStep.done (some (b.extract 0 (nb-1)++a.extract 0 na++(out.push x).reverse),na,nb-1,out.push x,mg,ac,bc))
 else
  let y <- elem' a (na-1)
  let r <- mK true y b 0 (nb-1) (nb-1-1)
  match r with
  | some t=>
   if nb-1-t>0 then
    if (t == 1)=true then pure (ForInStep.done (some (b.extract 0 t++a.extract 0 na++(out.push x++(b.extract t (nb-1)).reverse).reverse),na,t,out.push x++(b.extract t (nb-1)).reverse,mg,ac,nb-1-t))
    else if (t == 0)=true then pure (ForInStep.done (some (a.extract 0 na++b.extract 0 t++(out.push x++(b.extract t (nb-1)).reverse).reverse),na,t,out.push x++(b.extract t (nb-1)).reverse,mg,ac,nb-1-t))
    else U3 a b (out.push x++(b.extract t (nb-1)).reverse) na t mg ac (nb-1-t)
   else U3 a b (out.push x) na (nb-1) mg ac (nb-1-t)
  | _=>pure (ForInStep.done (some (a.extract 0 na++b.extract 0 (nb-1)++(out.push x).reverse),na,nb-1,out.push x,mg,ac,bc))
abbrev U1 (a b out:Array Keyed)(na nb mg ac bc:Nat):StateT SortSt Sem (ForInStep H):=do
 xD mg
 let x <- elem' b (nb-1)
 let r <- mK false x a 0 na (na-1)
 match r with
 | some t=>
  if na-t>0 then
   if (t == 0)=true then pure (ForInStep.done (some (a.extract 0 t++b.extract 0 nb++(out++(a.extract t na).reverse).reverse),t,nb,out++(a.extract t na).reverse,mg,na-t,bc))
   else U2 a b (out++(a.extract t na).reverse) t nb mg (na-t) bc
  else U2 a b out na nb mg (na-t) bc
 | _=>pure (ForInStep.done (some (a.extract 0 na++b.extract 0 nb++out.reverse),na,nb,out,mg,ac,bc))
section
variable {prog:aj}{w:ah}{A:az}{E:af->aA->Prop}{s:aA}{o:Ord}{N:Nat}{f:Nat->Keyed}{kd:SortKind}{st st0:SortSt}{X Y ts:am}{na nb:Nat}
abbrev Oh (o:Ord)(X Y:am)(n:Nat)(ts:am)(na nb:Nat):Prop:=Mh o X Y ts na nb/\1<=na/\2<=nb/\na+nb+n<=X.length+Y.length
abbrev H2 (o:Ord)(f:Nat->Keyed)(X Y:am)(n:Nat)(st0:SortSt):ForInStep H->SortSt->Prop:=λr st'=>Sm st0 st'/\match r with
 | .done c=>(∃r z,c=(some r,z)/\Res o f X Y r)\/∃ts na nb mg ac bc,c=(none,na,nb,fa f ts.reverse,mg,ac,bc)/\Oh o X Y n ts na nb
 | .yield c=>∃ts na nb mg ac bc,c=(none,na,nb,fa f ts.reverse,mg,ac,bc)/\Oh o X Y n ts na nb
def UN(ab:Ab o N X Y)(hm:Sm st0 st){n mg x:Nat}(m:Mh o X Y ts (na+1) (nb+1))(hb:1<=nb)(hn:na+1+(nb+1)+n<=X.length+Y.length)(hx:X[na]?=some x)(hy:Y[nb]?=some y)(hxy:P o y x) :
  wpS (model prog w) A E s (U3 (fa f X) (fa f Y) (fa f ts.reverse) (na+1) (nb+1) mg ac bc) (H2 o f X Y n st0) st:=by
 unfold U3;rw[show na+1-1=na by lia];refine aX (j8 (mQ hx) ?_);have m2:=m.xq ab hx (rm ab.sb hy hxy);rw[yj,uG];by_cases c:na=0
 ·rw[aK (by rw[c];rfl)];exact bu ⟨hm,.inl ⟨_,_,rfl,m2.DR ab (.inl c)⟩⟩
 ·rw[aI (by simpa using c)];by_cases c2:(decide (ac<7) && decide (bc<7))=true
  ·rw[aK c2];exact bu ⟨hm,.inr ⟨_,_,_,_,_,_,rfl,m2,(),(),()⟩⟩
  ·rw[aI c2];exact bu ⟨hm,⟨_,_,_,_,_,_,rfl,m2,(),(),()⟩⟩
def TU(C:A_ prog w A s o N f kd)(hk:kindOf st=kd)(ab:Ab o N X Y)(bt:ZF o X Y)(hm:Sm st0 st){n mg x:Nat}(m:Mh o X Y ts (na+1) (nb+1))(hb:1<=nb)(hn:na+1+(nb+1)+n<=X.length+Y.length)(hx:X[na]?=some x)(hy:Y[nb]?=some y)(hxy:P o x y) :
  wpS (model prog w) A E s (U2 (fa f X) (fa f Y) (fa f ts.reverse) (na+1) (nb+1) mg ac bc) (H2 o f X Y n st0) st:=by
 unfold U2;rw[show nb+1-1=nb by lia,show na+1-1=na by lia];refine aX (j8 (mQ hy) ?_);have m2:=m.N3 ab hy (rm ab.sa hx hxy);have lb:=m.lb;rw[yj,uG];by_cases c:nb=1
 ·rw[aK (by rw[c];rfl)];exact bu ⟨hm,.inl ⟨_,_,rfl,tW ab bt m2 c⟩⟩
 ·rw[aI (by simpa using c)];refine aX (j8 (mQ hx) ?_);refine aX (MD C hk (h:=λi=>Y.getD (0+i) 0) (λi hi=>mQ (getD_at ())) (λi hi=>?_) (Je ab.sb _ _ ()) () λt t1 t2 t3=>?_)
  ·have:=aZ (getD_at (l:=Y) (i:=0+i) ());exact⟨ab.lt x (aZ hx) _ this,ab.nb _ this⟩
  ·dsimp only;have m3:=Mh.zm ab hx (nb-t) (at_:=t) (by rw[show t+(nb-t)=nb by lia];exact m2) λi z hi1 hi2 ez=>by
    have:=t3 i hi1 ();rw[cW,aJ (l:=Y),ez]at this;exact this
   by_cases c2:nb-t>0
   ·rw[aK c2,wI Y t nb,LA,uG];by_cases c3:t=1
    ·rw[aK (by rw[c3];rfl)];exact bu ⟨hm,.inl ⟨_,_,rfl,tW ab bt m3 c3⟩⟩
    ·rw[aI (by simpa using c3)];by_cases c4:t=0
     ·rw[aK (by rw[c4];rfl)];exact bu ⟨hm,.inl ⟨_,_,rfl,m3.DR ab (.inr c4)⟩⟩
     ·rw[aI (by simpa using c4)];obtain⟨u,rfl⟩:∃u,t=u+1:=⟨t-1,()⟩;have:=t2 u ();rw[cW]at this;exact UN ab hm m3 () () hx (getD_at ()) this
   ·rw[aI c2];have:t=nb:=()
    subst this;obtain⟨u,rfl⟩:∃u,t=u+1:=⟨t-1,()⟩;have:=t2 u ();rw[cW]at this;exact UN ab hm m2 () () hx (getD_at ()) this
def Za(C:A_ prog w A s o N f kd)(hk:kindOf st0=kd)(ab:Ab o N X Y)(bt:ZF o X Y)(hm:Sm st0 st){n mg:Nat}(m:Mh o X Y ts (na+1) (nb+1))(hb:1<=nb)(hn:na+1+(nb+1)+n<=X.length+Y.length) :
  wpS (model prog w) A E s (U1 (fa f X) (fa f Y) (fa f ts.reverse) (na+1) (nb+1) mg ac bc) (H2 o f X Y n st0) st:=by
 unfold U1;refine aX (uT hm λst1 hm1=>?_);have lb:=m.lb;have la:=m.la;rw[show nb+1-1=nb by lia,show na+1-1=na by lia];have hy:=getD_at (l:=Y) (i:=nb) ();have yB:=aZ hy;refine aX (j8 (mQ hy) ?_);refine aX (Qs C (by rw[hm1.k];exact hk) (h:=λi=>X.getD (0+i) 0) (λi hi=>mQ (getD_at ())) (λi hi=>ab.lt _ (aZ (getD_at (l:=X) (i:=0+i) ())) _ yB) (ab.nb _ yB) (Je ab.sa _ _ ()) () λt t1 t2 t3=>?_);dsimp only;have m3:=Mh.zC ab hy (na+1-t) (at_:=t) (by rw[show t+(na+1-t)=na+1 by lia];exact m) λi z hi1 hi2 ez=>by
  have:=t3 i hi1 ();rw[cW,aJ (l:=X),ez]at this;exact this
 by_cases c2:na+1-t>0
 ·rw[aK c2,wI X t (na+1),LA,uG];by_cases c4:t=0
  ·rw[aK (by rw[c4];rfl)];exact bu ⟨hm1,.inl ⟨_,_,rfl,m3.DR ab (.inl c4)⟩⟩
  ·rw[aI (by simpa using c4)];obtain⟨u,rfl⟩:∃u,t=u+1:=⟨t-1,()⟩;have:=t2 u ();rw[cW]at this;exact TU C (by rw[hm1.k];exact hk) ab bt hm1 m3 hb () (getD_at ()) hy this
 ·rw[aI c2];have:t=na+1:=()
  subst this;have:=t2 na ();rw[cW]at this;exact TU C (by rw[hm1.k];exact hk) ab bt hm1 m hb hn (getD_at ()) hy this
def Yj(C:A_ prog w A s o N f kd)(hk:kindOf st=kd)(ab:Ab o N X Y)(tp:Top o X Y)(bt:ZF o X Y)(h1:1<=X.length)(h2:1<=Y.length)
  {Q:Array Keyed->SortSt->Prop} (q:∀out st',Sm st st'->Res o f X Y out->Q out st'):wpS (model prog w) A E s (yU (fa f X) (fa f Y)) Q st:=by
 rw[E6];refine aX (wpS_lift (fq ⟨rfl,?_⟩));dsimp only;rw[nc,nc];have hx0:=getD_at (l:=X) (i:=X.length-1) ();refine aX (j8 (mQ hx0) ?_);have m0:Mh o X Y [] (X.length-1+1) Y.length:=⟨(),aQ _,by rw[cC];lia,List.Pairwise.nil,(nofun),(λ_ _ _ h=>nomatch h),(λ_ _ _ h=>nomatch h)⟩;have m1:=m0.xq ab hx0 λy hy=>tp _ _ hx0 () y (dP hy);obtain⟨x0,ex0⟩:∃x0,x0=X.getD (X.length-1) 0:=⟨_,rfl⟩;rw[<- ex0]at m1 ⊢;have e1:(#[f x0]:Array Keyed)=fa f [x0].reverse:=rfl;rw[e1,uG];by_cases c:X.length-1=0
 ·rw[aK (by rw[c];rfl)];exact bu (q _ _ Sm.refl (m1.DR ab (.inl c)))
 ·rw[aI (by simpa using c)];by_cases c2:Y.length=1
  ·rw[aK (by rw[c2];rfl)];exact bu (q _ _ Sm.refl (tW ab bt m1 c2))
  ·rw[aI (by simpa using c2)];refine aX (ig ?_);refine aX (ef (cJ (I:=λx c st'=>Sm st st'/\∃ts na nb mg,c=(none,na,nb,fa f ts.reverse,mg)/\Oh o X Y (x+1) ts na nb)
    (Q:=λc st'=>Sm st st'/\∃r z,c=(some r,z)/\Res o f X Y r) ?step ?fin ⟨Sm.refl,_,_,_,_,rfl,m1,(),(),()⟩) ?post)
   case post=>
    rintro c st' ⟨hm,r,z,rfl,hr⟩;exact bu (q _ _ hm hr)
   case fin=>
    rintro c st' ⟨hm,ts,na,nb,mg,rfl,m,a1,a2,a3⟩;exfalso
    lia
   case step=>
    intro x c st' _ hx hh;revert hh;revert c;refine un4 λhm ts na nb mg ho=>?_;have m:=ho.1;have a1:=ho.2.1;have a2:=ho.2.2.1;have a3:=ho.2.2.2;clear ho;dsimp only;refine aX (ef (cJ (I:=λx' c st''=>Sm st st''/\∃ts na nb ac bc,c=(none,na,nb,fa f ts.reverse,ac,bc)/\Oh o X Y (x+1+min x' 1) ts na nb)
     (Q:=λc st''=>Sm st st''/\((∃r z,c=(some r,z)/\Res o f X Y r)\/∃ts na nb ac bc,c=(none,na,nb,fa f ts.reverse,ac,bc)/\Oh o X Y (x+1+1) ts na nb)) ?istep ?ifin ⟨hm,_,_,_,_,_,rfl,m,a1,a2,a3⟩) ?ipost)
    case ifin=>
     rintro c st'' ⟨hm',ts,na,nb,ac,bc,rfl,m,a1,a2,a3⟩;exact⟨hm',.inr ⟨_,_,_,_,_,rfl,m,a1,a2,()⟩⟩
    case istep=>
     intro x' c st'' _ hx' hh;revert hh;revert c;refine un5 λhm' ts na nb ac bc ho=>?_;have m:=ho.1;have a1:=ho.2.1;have a2:=ho.2.2.1;have a3:=ho.2.2.2;clear ho;dsimp only;obtain⟨u,rfl⟩:∃u,na=u+1:=⟨na-1,()⟩;obtain⟨v,rfl⟩:∃v,nb=v+1:=⟨nb-1,()⟩;have la:=m.la;have lb:=m.lb;rw[show u+1-1=u by lia,show v+1-1=v by lia];have hy:=getD_at (l:=Y) (i:=v) ();have hxx:=getD_at (l:=X) (i:=u) ();have yB:=aZ hy;have xA:=aZ hxx;have lt:=ab.lt _ xA _ yB;refine aX (j8 (mQ hy) ?_);refine aX (j8 (mQ hxx) ?_);refine aX (yy C (by rw[hm'.k];exact hk) (ab.nb _ yB) (ab.na _ xA) ?_)
     cases hl:o.lt (Y.getD v 0) (X.getD u 0)
     ·dsimp[bz,bY];refine aX (j8 (mQ hy) ?_);have m2:=m.N3 ab hy (rm ab.sa hxx (P.xB hl lt));rw[yj,uG];by_cases c3:v=1
      ·rw[aK (by rw[c3];rfl)];exact bu ⟨hm',.inl ⟨_,_,rfl,tW ab bt m2 c3⟩⟩
      ·rw[aI (by simpa using c3)];by_cases c4:bc+1>=mg
       ·rw[aK c4];exact bu ⟨hm',.inr ⟨_,_,_,_,_,rfl,m2,a1,(),()⟩⟩
       ·rw[aI c4];exact bu ⟨hm',_,_,_,_,_,rfl,m2,a1,(),()⟩
     ·dsimp[cI];refine aX (j8 (mQ hxx) ?_);have m2:=m.xq ab hxx (rm ab.sb hy (P.of_lt hl));rw[yj,uG];by_cases c3:u=0
      ·rw[aK (by rw[c3];rfl)];exact bu ⟨hm',.inl ⟨_,_,rfl,m2.DR ab (.inl c3)⟩⟩
      ·rw[aI (by simpa using c3)];by_cases c4:ac+1>=mg
       ·rw[aK c4];exact bu ⟨hm',.inr ⟨_,_,_,_,_,rfl,m2,(),a2,()⟩⟩
       ·rw[aI c4];exact bu ⟨hm',_,_,_,_,_,rfl,m2,(),a2,()⟩
    case ipost=>
     intro c st'' hh;revert hh;revert c;refine uo5 (λhm' r z hr=>?_) λhm' ts na nb ac bc ho=>?_
     ·dsimp only;exact bu ⟨hm',r,_,rfl,hr⟩
     ·have m:=ho.1;have a1:=ho.2.1;have a2:=ho.2.2.1;have a3:=ho.2.2.2;clear ho;dsimp only;refine aX (wpS_lift (fq ⟨rfl,?_⟩));refine aX (ef (cJ (I:=λx' c st''=>Sm st st''/\∃ts na nb mg ac bc,c=(none,na,nb,fa f ts.reverse,mg,ac,bc)/\Oh o X Y (x+1+1) ts na nb)
       (Q:=λc st''=>Sm st st''/\((∃r z,c=(some r,z)/\Res o f X Y r)\/∃ts na nb mg ac bc,c=(none,na,nb,fa f ts.reverse,mg,ac,bc)/\Oh o X Y (x+1+1) ts na nb)) ?jstep ?jfin ⟨hm',_,_,_,_,_,_,rfl,m,a1,a2,a3⟩) ?jpost)
      case jfin=>
       rintro c st3 ⟨hm3,hh⟩;exact⟨hm3,.inr hh⟩
      case jstep=>
       intro x' c st3 _ hx' hh;revert hh;revert c;refine un6 λhm3 ts na nb mg ac bc ho=>?_;have m:=ho.1;have a1:=ho.2.1;have a2:=ho.2.2.1;have a3:=ho.2.2.2;clear ho;dsimp only;obtain⟨u,rfl⟩:∃u,na=u+1:=⟨na-1,()⟩;obtain⟨v,rfl⟩:∃v,nb=v+1:=⟨nb-1,()⟩;have t1:=λmg=>Za (n:=x+1+1) (mg:=mg) (ac:=ac) (bc:=bc) (E:=E) C hk ab bt hm3 m () a3;unfold U1 U2 U3 at t1;refine ef (Q:=H2 o f X Y (x+1+1) st) ?_ ?_
       ·by_cases c3:mg>1
        ·rw[aK c3];exact t1 (mg-1)
        ·rw[aI c3];exact t1 mg
       ·rintro r st4 ⟨hm4,hr⟩
        cases r with
        | done c=>exact⟨hm4,hr⟩
        | yield c=>exact⟨hm4,hr⟩
      case jpost=>
       intro c st3 hh;revert hh;revert c;refine uo6 (λhm3 r z hr=>?_) λhm3 ts na nb mg ac bc ho=>?_
       ·dsimp only;exact bu ⟨hm3,r,_,rfl,hr⟩
       ·have m:=ho.1;have a1:=ho.2.1;have a2:=ho.2.2.1;have a3:=ho.2.2.2;clear ho;dsimp only;refine aX (uT hm3 λst4 hm4=>?_);exact bu ⟨hm4,_,_,_,_,rfl,m,a1,a2,a3⟩
end
def E2(i:Nat):mergeAt' i=(do
 let s <- get
 let(some (a1,n1,pw),some (a2,n2,_)):=((pendingOf s)[i]?,(pendingOf s)[i+1]?)|unsupported "internal:list.sort.pending"
 set (setPending s (((pendingOf s).setIfInBounds i (a1,n1+n2,pw)).eraseIdxIfInBounds (i+1)))
 let some k <- mK false (<- elem' (arrOf s) a2) (arrOf s) a1 n1 0|return false
 let(a1,n1):=(a1+k,n1-k)
 if n1 == 0 then return true
 let some n2 <- mK true (<- elem' (arrOf s) (a1+n1-1)) (arrOf s) a2 n2 (n2-1)|return false
 if n2 == 0 then return true
 let x:=(arrOf s).extract a1 a2
 let y:=(arrOf s).extract a2 (a2+n2)
 let both <- if n1<=n2 then yC x y else yU x y
 modify λs=>setArr s (both.toList.zipIdx.foldl (λa (p,j)=>a.setIfInBounds (a1+j) p) (arrOf s))
 return (failedOf (<- get)).isNone):=rfl
abbrev seg (g:Nat->Nat)(a n:Nat):am:=(List.range n).map λi=>g (a+i)
section
variable {o:Ord}{N:Nat}{f:Nat->Keyed}{g:Nat->Nat}
def n_(g:Nat->Nat)(a n:Nat):(seg g a n).length=n:=by unfold seg;rw[aH,cE]
def rZ{a n i:Nat}(h:i<n):(seg g a n)[i]?=some (g (a+i)):=by unfold seg;rw[aS,eg h];rfl
def qt{a n x:Nat}(h:x∈seg g a n):∃i,i<n/\x=g (a+i):=by
 obtain⟨i,hi,rfl⟩:=bA.mp h;exact⟨i,cA.mp hi,rfl⟩
def O_{a n:Nat}(h:So o g a (a+n)):(seg g a n).Pairwise (P o):=by
 rw[c7];intro i j hi hj hij;rw[n_]at hi hj;have e1:=rZ (g:=g) (a:=a) hi;have e2:=rZ (g:=g) (a:=a) hj;rw[aG (by rw[n_];exact hi)]at e1;rw[aG (by rw[n_];exact hj)]at e2;rw[aW e1,aW e2];exact h _ _ () () ()
def Iu{arr:Array Keyed}(hs:arr.size=N)(hg:∀i,i<N->arr[i]?=some (f (g i))){a n:Nat}(h:a+n<=N):arr.extract a (a+n)=fa f (seg g a n):=by
 apply Array.ext_getElem?;intro i;rw[Oj,Array.getElem?_extract];by_cases c:i<n
 ·rw[aK (),rZ c,hg _ ()];rfl
 ·rw[aI (),cF (by rw[n_];lia)];rfl
theorem Au{α:Type}(b:Nat):∀(l:List α) (n:Nat) (arr:Array α),((l.zipIdx n).foldl (λa (p,j)=>a.setIfInBounds (b+j) p) arr).size=arr.size
 | [],_,_=>rfl
 | x::l,n,arr=>by
  rw[je,eX,Au b l (n+1)];exact Array.size_setIfInBounds ..
theorem C1{α:Type}(b:Nat):∀(l:List α) (n:Nat) (arr:Array α) (k:Nat),b+n+l.length<=arr.size->((l.zipIdx n).foldl (λa (p,j)=>a.setIfInBounds (b+j) p) arr)[k]?=if b+n<=k/\k<b+n+l.length then l[k-(b+n)]? else arr[k]?
 | [],n,arr,k,h=>by rw[aI (by rw[cC];lia)];rfl
 | x::l,n,arr,k,h=>by
  rw[bC]at h;rw[je,eX,C1 b l (n+1) _ k (by rw[Array.size_setIfInBounds];lia),bC];by_cases c:k=b+n
  ·subst c;rw[aI (),aK (),jn];show(arr.setIfInBounds (b+n) x)[b+n]?=some x;rw[Array.getElem?_setIfInBounds_self_of_lt ()]
  ·by_cases c2:b+n<=k/\k<b+n+(l.length+1)
   ·rw[aK (),aK c2,show k-(b+n)=k-(b+(n+1))+1 by lia,List.getElem?_cons_succ]
   ·rw[aI (),aI c2]
    skip
    rw[iE ()]
end
section
variable {prog:aj}{w:ah}{A:az}{E:af->aA->Prop}{s:aA}{o:Ord}{N:Nat}{f:Nat->Keyed}{kd:SortKind}{g:Nat->Nat}{st:SortSt}
def R_{Q:PUnit->SortSt->Prop}(h:Q ⟨⟩ st'):wpS (model prog w) A E s (set st':StateT SortSt Sem PUnit) Q st:=by
 unfold wpS;rw[StateT.run_set];exact aP ⟨rfl,h⟩
def Zt(C:A_ prog w A s o N f kd){l1:List (Nat×Nat×Nat)}{sa na nb pw pv:Nat}(h:Sg N f kd g (l1++(sa,na,pw)::(sa+na,nb,pv)::l2).toArray st)(ha:1<=na)(hb:1<=nb)(hN:sa+na+nb<=N)
  (c1:Cl g sa (sa+na)) (s1:So o g sa (sa+na)) (c2:Cl g (sa+na) (sa+na+nb)) (s2:So o g (sa+na) (sa+na+nb))
  {Q:Bool->SortSt->Prop} (q:∀g' st',Sg N f kd g' (l1++(sa,na+nb,pw)::l2).toArray st'->Rn o g g' sa (sa+na+nb)->Q true st'):wpS (model prog w) A E s (mergeAt' l1.length) Q st:=by
 rw[E2];refine aX (ig ?_);have e1:(pendingOf st)[l1.length]?=some (sa,na,pw):=by rw[h.pend];simp
 have e2:(pendingOf st)[l1.length+1]?=some (sa+na,nb,pv):=by rw[h.pend];simp
 have e3:((pendingOf st).setIfInBounds l1.length (sa,na+nb,pw)).eraseIdxIfInBounds (l1.length+1)=(l1++(sa,na+nb,pw)::l2).toArray:=by
  rw[h.pend,List.setIfInBounds_toArray,iD];congr 1;rw[f9 _ _ (aQ _),jn,List.eraseIdx_append_of_length_le (),show l1.length+1-l1.length=1 by lia];rfl
 rw[e1,e2];dsimp only;rw[e3];refine aX (R_ ?_);have h':Sg N f kd g (l1++(sa,na+nb,pw)::l2).toArray (setPending st (l1++(sa,na+nb,pw)::l2).toArray):=⟨h.size,h.get,h.lt,h.kind,h.failed,rfl⟩;obtain⟨st1,hst1⟩:∃st1,st1=setPending st (l1++(sa,na+nb,pw)::l2).toArray:=⟨_,rfl⟩;rw[<- hst1]at h' ⊢;refine aX (j8 (h.get (sa+na) ()) ?_);have b0:=c2 (sa+na) () ();refine aX (Qs C h'.kind (h:=λi=>g (sa+i)) (λi hi=>h.get _ ()) (λi hi=>by have:=c1 (sa+i) () ();lia) () (λi j _ a b=>s1 _ _ () () ()) () λk k1 k2 k3=>?_);dsimp only;by_cases cz:na-k=0
 ·rw[aK (by rw[cz];rfl)];refine bu (q g st1 h' ⟨λ_ _=>rfl,λi a b=>?_,λi j a b c=>?_⟩)
  ·by_cases d:i<sa+na
   ·have:=c1 i a d;lia
   ·have:=c2 i () b;lia
  ·by_cases d:j<sa+na
   ·exact s1 i j a b d
   ·by_cases d2:sa+na<=i
    ·exact s2 i j d2 b c
    ·have r:=k2 (i-sa) ();rw[show sa+(i-sa)=i by lia]at r;by_cases d3:j=sa+na
     ·subst d3;exact r
     ·exact r.trans (s2 _ _ () () c)
 ·rw[aI (by simpa using cz)];have hlast:sa+k+(na-k)-1=sa+na-1:=()
  rw[hlast];refine aX (j8 (h.get (sa+na-1) ()) ?_);have a0:=c1 (sa+na-1) () ();refine aX (MD C h'.kind (h:=λi=>g (sa+na+i)) (λi hi=>h.get _ ()) (λi hi=>by have:=c2 (sa+na+i) () ();lia) (λi j _ a b=>s2 _ _ () () ()) () λt t1 t2 t3=>?_);dsimp only;by_cases cy:t=0
  ·rw[aK (by rw[cy];rfl)];subst cy;refine bu (q g st1 h' ⟨λ_ _=>rfl,λi a b=>?_,λi j a b c=>?_⟩)
   ·by_cases d:i<sa+na
    ·have:=c1 i a d;lia
    ·have:=c2 i () b;lia
   ·by_cases d:j<sa+na
    ·exact s1 i j a b d
    ·by_cases d2:sa+na<=i
     ·exact s2 i j d2 b c
     ·have r:=t3 (j-(sa+na)) () ();rw[show sa+na+(j-(sa+na))=j by lia]at r;by_cases d3:i=sa+na-1
      ·subst d3;exact r
      ·exact(s1 i (sa+na-1) a () ()).trans r
  ·rw[aI (by simpa using cy)];have x1:(arrOf st).extract (sa+k) (sa+na)=fa f (seg g (sa+k) (na-k)):=by
    have:=Iu (f:=f) (g:=g) h.size h.get (a:=sa+k) (n:=na-k) ()
    rwa [show sa+k+(na-k)=sa+na by lia]at this
   have x2:(arrOf st).extract (sa+na) (sa+na+t)=fa f (seg g (sa+na) t):=Iu h.size h.get ();rw[x1,x2];have sx:So o g (sa+k) (sa+k+(na-k)):=λi j a b c=>s1 i j () b ();have sy:So o g (sa+na) (sa+na+t):=λi j a b c=>s2 i j a b ();have ab:Ab o N (seg g (sa+k) (na-k)) (seg g (sa+na) t):={
    sa:=O_ sx
    sb:=O_ sy
    lt:=λx hx y hy=>by
     obtain⟨i,hi,rfl⟩:=qt hx;obtain⟨j,hj,rfl⟩:=qt hy;have:=c1 (sa+k+i) () ();have:=c2 (sa+na+j) () ()
     lia
    nb:=λy hy=>by
     obtain⟨j,hj,rfl⟩:=qt hy;exact h.lt _ ()
    na:=λy hy=>by
     obtain⟨j,hj,rfl⟩:=qt hy;exact h.lt _ ()}
   have tp:Top o (seg g (sa+k) (na-k)) (seg g (sa+na) t):=λi x hx hi y hy=>by
    rw[n_]at hi;rw[rZ ()]at hx
    cases hx
    obtain⟨j,hj,rfl⟩:=qt hy;rw[show sa+k+i=sa+na-1 by lia];exact t2 j hj
   have bt:ZF o (seg g (sa+k) (na-k)) (seg g (sa+na) t):=λy hy x hx=>by
    rw[rZ ()]at hy
    cases hy
    obtain⟨i,hi,rfl⟩:=qt hx;have:=k3 (k+i) () ()
    rwa [<- iK]at this
   have fin:∀out st2,Sm st1 st2->Res o f (seg g (sa+k) (na-k)) (seg g (sa+na) t) out->wpS (model prog w) A E s (do
     modify λs=>setArr s (out.toList.zipIdx.foldl (λa (p,j)=>a.setIfInBounds (sa+k+j) p) (arrOf s))
     let s <- get
     pure (failedOf s).isNone) Q st2:=by
    rintro out st2 hm ⟨hs,rfl,hlen,hso,hmem⟩;rw[n_,n_]at hlen;refine aX (fS (aX (ig ?_)));have hf:(failedOf st2)=none:=by rw[hm.f];exact h'.failed
    have hmx:∀j x,hs[j]?=some x->(∃i,i<na-k/\x=g (sa+k+i))\/∃i,i<t/\x=g (sa+na+i):=λj x e=>by
     rcases hmem x (aZ e)with z|z
     ·exact .inl (qt z)
     ·exact .inr (qt z)
    have ez:(fa f hs).toList=hs.map f:=by unfold fa;rfl
    have hsz:sa+k+0+(hs.map f).length<=(arrOf st2).size:=by rw[aH,hlen,hm.a,h'.size];lia
    refine bu ?_
    skip
    rw[hf];refine q (λi=>if sa+k<=i/\i<sa+k+(na-k+t)then hs.getD (i-(sa+k)) 0 else g i) _ ⟨?_,λi hi=>?_,λi hi=>?_,by rw[show kindOf (setArr st2 _)=kindOf st2 from rfl,hm.k];exact h'.kind,hf,by rw[show pendingOf (setArr st2 _)=pendingOf st2 from rfl,hm.p];exact h'.pend⟩ ?_
    ·have:=Au (sa+k) (fa f hs).toList 0 (arrOf st2);rw[hm.a,h'.size]at this;rw[<- this,<- hm.a]
    ·skip
     rw[ez,C1 _ _ _ _ _ hsz,aH,hlen,hm.a];by_cases d:sa+k<=i/\i<sa+k+(na-k+t)
     ·rw[aK (),aK d,aS,Nat.add_zero,getD_at (l:=hs) ()];rfl
     ·rw[aI (),aI d];exact h'.get i hi
    ·by_cases d:sa+k<=i/\i<sa+k+(na-k+t)
     ·rw[aK d]
      rcases hmx _ _ (getD_at (l:=hs) (i:=i-(sa+k)) ())with⟨j,hj,e⟩|⟨j,hj,e⟩
      ·rw[e];exact h.lt _ ()
      ·rw[e];exact h.lt _ ()
     ·rw[aI d];exact h.lt i hi
    ·have gin:∀i,sa+k<=i->i<sa+na+t->(if sa+k<=i/\i<sa+k+(na-k+t)then hs.getD (i-(sa+k)) 0 else g i)=hs.getD (i-(sa+k)) 0:=λi a b=>aK ();have gout:∀i,i<sa+k\/sa+na+t<=i->(if sa+k<=i/\i<sa+k+(na-k+t)then hs.getD (i-(sa+k)) 0 else g i)=g i:=λi a=>aI ();refine⟨λi hi=>gout i (),λi a b=>?_,λi j a b c=>?_⟩
     ·by_cases d:sa+k<=i/\i<sa+na+t
      ·skip
       rw[gin i d.1 d.2]
       rcases hmx _ _ (getD_at (l:=hs) (i:=i-(sa+k)) ())with⟨j,hj,e⟩|⟨j,hj,e⟩
       ·rw[e];have:=c1 (sa+k+j) () ();lia
       ·rw[e];have:=c2 (sa+na+j) () ();lia
      ·skip
       rw[gout i ()];by_cases d2:i<sa+na
       ·have:=c1 i a d2;lia
       ·have:=c2 i () b;lia
     ·skip
      by_cases d1:i<sa+k
      ·rw[gout i (.inl d1)];have r:=k2 (i-sa) ();rw[show sa+(i-sa)=i by lia]at r;by_cases d2:j<sa+k
       ·rw[gout j (.inl d2)];exact s1 i j a b ()
       ·by_cases d3:j<sa+na+t
        ·rw[gin j () d3]
         rcases hmx _ _ (getD_at (l:=hs) (i:=j-(sa+k)) ())with⟨v,hv,e⟩|⟨v,hv,e⟩
         ·rw[e];exact s1 _ _ a () ()
         ·rw[e];by_cases d4:v=0
          ·subst d4;exact r
          ·exact r.trans (s2 _ _ () () ())
        ·rw[gout j ()];exact r.trans (s2 _ _ () () c)
      ·by_cases d2:i<sa+na+t
       ·rw[gin i () d2];by_cases d3:j<sa+na+t
        ·rw[gin j () d3];exact sW hso (getD_at ()) (getD_at ()) ()
        ·rw[gout j ()]
         rcases hmx _ _ (getD_at (l:=hs) (i:=i-(sa+k)) ())with⟨v,hv,e⟩|⟨v,hv,e⟩
         ·rw[e];have r:=t3 (j-(sa+na)) () ();rw[show sa+na+(j-(sa+na))=j by lia]at r;by_cases d4:sa+k+v=sa+na-1
          ·rw[d4];exact r
          ·exact(s1 _ (sa+na-1) () () ()).trans r
         ·rw[e];exact s2 _ _ () () c
       ·rw[gout i (),gout j ()];exact s2 i j () b c
   by_cases cl:na-k<=t
   ·rw[aK cl];exact aX (Yt C h'.kind ab tp (by rw[n_];lia) (rZ ()) (bt _ (rZ ())) fin)
   ·rw[aI cl];exact aX (Yj C h'.kind ab tp bt (by rw[n_];lia) (by rw[n_];lia) fin)
end
meta abbrev pr (x:Nat×Nat×Nat):Nat×Nat:=(x.1,x.2.1)
abbrev r9 (o:Ord)(g:Nat->Nat):List (Nat×Nat)->Nat->Nat->Prop
 | [],a,b=>a=b
 | x::l,a,b=>x.1=a/\1<=x.2/\Cl g a (a+x.2)/\So o g a (a+x.2)/\r9 o g l (a+x.2) b
abbrev PA (o:Ord)(g:Nat->Nat)(p:Array (Nat×Nat×Nat))(b:Nat):Prop:=r9 o g (p.toList.map pr) 0 b
section
variable {o:Ord}{g:Nat->Nat}
def r9.le:∀{l:List (Nat×Nat)}{a b:Nat},r9 o g l a b->a+l.length<=b
 | [],a,b,h=>by have h:a=b:=h;rw[cC];lia
 | x::l,a,b,h=>by
  have:=h.2.2.2.2.le;have:=h.2.1;rw[bC];lia
def r9.congr{g':Nat->Nat}:∀{l:List (Nat×Nat)}{a b:Nat},r9 o g l a b->(∀i,a<=i->i<b->g' i=g i)->r9 o g' l a b
 | [],a,b,h,_=>h
 | x::l,a,b,h,e=>by
  have hb:=h.2.2.2.2.le;refine⟨h.1,h.2.1,λi h1 h2=>?_,λi j h1 h2 h3=>?_,h.2.2.2.2.congr λi h1 h2=>e i () h2⟩
  ·rw[e i h1 ()];exact h.2.2.1 i h1 h2
  ·rw[e i h1 (),e j () ()];exact h.2.2.2.1 i j h1 h2 h3
theorem r9.app:∀{l m:List (Nat×Nat)}{a b:Nat},r9 o g (l++m) a b ↔ ∃c,r9 o g l a c/\r9 o g m c b
 | [],m,a,b=>⟨λh=>⟨a,rfl,h⟩,λ⟨c,h1,h2⟩=>by have h1:a=c:=h1;subst h1;exact h2⟩
 | x::l,m,a,b=>by
  constructor
  ·rintro⟨h1,h2,h3,h4,h5⟩;obtain⟨c,h6,h7⟩:=r9.app.mp h5;exact⟨c,⟨h1,h2,h3,h4,h6⟩,h7⟩
  ·rintro⟨c,⟨h1,h2,h3,h4,h5⟩,h6⟩;exact⟨h1,h2,h3,h4,r9.app.mpr ⟨c,h5,h6⟩⟩
def U9{p:Array (Nat×Nat×Nat)}(h:i+1<p.size):∃l1 x y l2,p=(l1++x::y::l2).toArray/\l1.length=i:=by
 have h':i+1<p.toList.length:=h;refine⟨p.toList.take i,p.toList[i],p.toList[i+1],p.toList.drop (i+2),?_,by rw[bM];lia⟩;apply Array.toList_inj.mp
 skip
 conv=>lhs;rw[<- iF i p.toList,c8 (show i<p.toList.length by lia),c8 h']
end
section
variable {prog:aj}{w:ah}{A:az}{E:af->aA->Prop}{s:aA}{o:Ord}{N:Nat}{f:Nat->Keyed}{kd:SortKind}{g:Nat->Nat}{p:Array (Nat×Nat×Nat)}{st:SortSt}
def Fi(C:A_ prog w A s o N f kd)(h:Sg N f kd g p st){lo:Nat}(hp:PA o g p lo)(hlo:lo<=N)(hi:i+1<p.size)
  {Q:Bool->SortSt->Prop} (q:∀g' p' st',Sg N f kd g' p' st'->PA o g' p' lo->p'.size+1=p.size->(∀k,lo<=k->g' k=g k)->Q true st'):wpS (model prog w) A E s (mergeAt' i) Q st:=by
 obtain⟨l1,⟨sa,na,pw⟩,⟨sb,nb,pv⟩,l2,rfl,rfl⟩:=U9 hi;unfold PA at hp;rw[show(l1++(sa,na,pw)::(sb,nb,pv)::l2).toArray.toList=l1++(sa,na,pw)::(sb,nb,pv)::l2 from rfl,bX]at hp;obtain⟨c,h1,h2⟩:=r9.app.mp hp;obtain⟨e1,n1,cl1,so1,e2,n2,cl2,so2,rest⟩:=h2;have e1:sa=c:=e1;subst e1;have e2:sb=sa+na:=e2;subst e2;have l2b:=rest.le;have n1:1<=na:=n1;have n2:1<=nb:=n2;have l2b:sa+na+nb<=lo:=by
  have:sa+na+nb+(List.map pr l2).length<=lo:=l2b
  lia
 refine Zt C h n1 n2 () cl1 so1 cl2 so2 λg' st' h' R=>q g' _ st' h' ?_ (by simp;lia) λk hk=>R.out k ();unfold PA;rw[show(l1++(sa,na+nb,pw)::l2).toArray.toList=l1++(sa,na+nb,pw)::l2 from rfl,bX];refine r9.app.mpr ⟨sa,h1.congr λi a b=>R.out i (),rfl,by show 1<=na+nb;lia,?_,?_,?_⟩
 ·show Cl g' sa (sa+(na+nb));rw[<- iK];exact R.cl
 ·show So o g' sa (sa+(na+nb));rw[<- iK];exact R.so
 ·skip
  rw[<- iK];exact rest.congr λi a b=>R.out i (.inr a)
def Ai{p:Array (Nat×Nat×Nat)}{lo:Nat}{u:Nat×Nat×Nat->Nat×Nat×Nat}(hu:∀x,pr (u x)=pr x)(h:PA o g p lo):PA o g (p.modify i u) lo:=by
 unfold PA at h ⊢;have:(p.modify i u).toList.map pr=p.toList.map pr:=by
  rw[Array.toList_modify];apply dc;intro k;rw[aS,aS,List.getElem?_modify]
  cases p.toList[k]? with
  | none=>rfl
  | some x=>
   show some (pr (if i=k then u x else x))=some (pr x);by_cases c:i=k
   ·rw[aK c,hu x]
   ·rw[aI c]
 rw[this];exact h
def xZ{p:Array (Nat×Nat×Nat)}{lo n v:Nat}(h:PA o g p lo)(hn:1<=n)(c:Cl g lo (lo+n))(d:So o g lo (lo+n)):PA o g (p.push (lo,n,v)) (lo+n):=by
 unfold PA at h ⊢;rw[Array.toList_push,bX];exact r9.app.mpr ⟨lo,h,rfl,hn,c,d,rfl⟩
def Sg.XQ(h:Sg N f kd g p st)(p':Array (Nat×Nat×Nat)):Sg N f kd g p' (setPending st p'):=⟨h.size,h.get,h.lt,h.kind,h.failed,rfl⟩
def Q5(C:A_ prog w A s o N f kd)(h:Sg N f kd (λi=>i) #[] st)(hN:1<=N)
  {Q:Unit->SortSt->Prop} (q:∀g' p' st',Sg N f kd g' p' st'->Cl g' 0 N->So o g' 0 N->Q Unit.unit st'):wpS (model prog w) A E s sortRuns' Q st:=by
 rw[sortRuns'_eq];refine aX (ig ?_);dsimp only;rw[h.size];refine aX (ef (cJ
  (I:=λx c st'=>∃lo g p,c=(none,lo)/\lo<=N/\(x<=lo\/lo=N)/\Sg N f kd g p st'/\PA o g p lo/\(∀i,lo<=i->g i=i))
  (Q:=λc st'=>∃g p,c=(none,N)/\Sg N f kd g p st'/\PA o g p N) ?step ?fin ⟨0,_,_,rfl,bO _,.inl (aQ _),h,rfl,λ_ _=>rfl⟩) ?post)
 case fin=>
  rintro c st' ⟨lo,g,p,rfl,h1,h2,h3,h4,h5⟩;have:lo=N:=()
  subst this;exact⟨g,p,rfl,h3,h4⟩
 case step=>
  intro x c st' _ hx hh;revert hh;revert c;refine un3 λlo g p hh=>?_;have h1:=hh.1;have h2:=hh.2.1;have h3:=hh.2.2.1;have h4:=hh.2.2.2.1;have h5:=hh.2.2.2.2;clear hh;dsimp only;by_cases hge:lo>=N
  ·rw[aK hge];have:lo=N:=()
   subst this;exact bu ⟨g,p,rfl,h3,h4⟩
  ·rw[aI hge];refine aX (LK C h3 () () (λi a b=>h5 i a) λm g1 st1 s1 m1 m2 R1=>?_);dsimp only;by_cases c2:m<minRun' N N 0
   ·rw[aK c2];refine aX (wpS_lift (fq ⟨rfl,?_⟩));refine aX (We C s1 () m1 () R1 (λi a b=>h5 i ()) λg2 st2 s2 R2=>?_);rw[aI ⋯];have n2:1<=min (N-lo) (minRun' N N 0):=()
    have n3:lo+min (N-lo) (minRun' N N 0)<=N:=()
    refine aX (ig ?_);rw[s2.pend];have hp2:=r9.congr h4 λi a b=>R2.out i (.inl b)
    cases e:p.back? with
    | none=>
     dsimp only;refine aX (fS (bu ⟨_,_,_,rfl,n3,(),s2.XQ _,?_,λi hi=>by rw[R2.out i (.inr hi),h5 i ()]⟩));rw[s2.pend];exact xZ hp2 n2 R2.cl R2.so
    | some y=>
     obtain⟨y1,y2,y3⟩:=y;dsimp only;refine aX (ef (cJ (I:=λ_ c st'=>c=(none,Unit.unit)/\∃g' p',Sg N f kd g' p' st'/\PA o g' p' lo/\(∀k,lo<=k->g' k=g2 k)) (Q:=λc st'=>c=(none,Unit.unit)/\∃g' p',Sg N f kd g' p' st'/\PA o g' p' lo/\(∀k,lo<=k->g' k=g2 k)) ?vstep (λ_ _ h=>h) ⟨rfl,_,_,s2,hp2,λ_ _=>rfl⟩) ?vpost)
     case vstep=>
      rintro x c st' _ hx ⟨rfl,g',p',h1,h2,h3⟩;refine aX (ig ?_);rw[h1.pend];by_cases c:p'.size>1
      ·rw[aK c]
       cases e:p'[p'.size-2]? with
       | none=>exact bu ⟨rfl,g',p',h1,h2,h3⟩
       | some y=>
        obtain⟨y1,y2,y3⟩:=y;dsimp only;split
        ·exact bu ⟨rfl,g',p',h1,h2,h3⟩
        ·refine aX (Fi C h1 h2 () () λg3 p3 st3 s3 q3 _ z3=>?_);exact bu ⟨rfl,g3,p3,s3,q3,λk hk=>by rw[z3 k hk,h3 k hk]⟩
      ·rw[aI c];exact bu ⟨rfl,g',p',h1,h2,h3⟩
     case vpost=>
      rintro c st' ⟨rfl,g',p',h1,h2,h3⟩;dsimp only;refine aX (fS (aX (fS (bu ⟨_,_,_,rfl,n3,(),(h1.XQ _).XQ _,?_,λi hi=>by rw[h3 i (),R2.out i (.inr hi),h5 i ()]⟩))))
      skip
      rw[h1.pend];exact xZ (Ai (λ_=>rfl) h2) n2 (λi a b=>by rw[h3 i a];exact R2.cl i a b) (λi j a b c=>by rw[h3 i a,h3 j ()];exact R2.so i j a b c)
   ·rw[aI c2];have n3:lo+m<=N:=()
    obtain⟨g2,hg2⟩:∃g2,g2=g1:=⟨_,rfl⟩;rw[<- hg2]at R1 s1;have R2:=R1;have s2:=s1;have n2:=m1;refine aX (ig ?_);rw[s2.pend];have hp2:=r9.congr h4 λi a b=>R2.out i (.inl b)
    cases e:p.back? with
    | none=>
     dsimp only;refine aX (fS (bu ⟨_,_,_,rfl,n3,(),s2.XQ _,?_,λi hi=>by rw[R2.out i (.inr hi),h5 i ()]⟩));rw[s2.pend];exact xZ hp2 n2 R2.cl R2.so
    | some y=>
     obtain⟨y1,y2,y3⟩:=y;dsimp only;refine aX (ef (cJ (I:=λ_ c st'=>c=(none,Unit.unit)/\∃g' p',Sg N f kd g' p' st'/\PA o g' p' lo/\(∀k,lo<=k->g' k=g2 k)) (Q:=λc st'=>c=(none,Unit.unit)/\∃g' p',Sg N f kd g' p' st'/\PA o g' p' lo/\(∀k,lo<=k->g' k=g2 k)) ?vstep (λ_ _ h=>h) ⟨rfl,_,_,s2,hp2,λ_ _=>rfl⟩) ?vpost)
     case vstep=>
      rintro x c st' _ hx ⟨rfl,g',p',h1,h2,h3⟩;refine aX (ig ?_);rw[h1.pend];by_cases c:p'.size>1
      ·rw[aK c]
       cases e:p'[p'.size-2]? with
       | none=>exact bu ⟨rfl,g',p',h1,h2,h3⟩
       | some y=>
        obtain⟨y1,y2,y3⟩:=y;dsimp only;split
        ·exact bu ⟨rfl,g',p',h1,h2,h3⟩
        ·refine aX (Fi C h1 h2 () () λg3 p3 st3 s3 q3 _ z3=>?_);exact bu ⟨rfl,g3,p3,s3,q3,λk hk=>by rw[z3 k hk,h3 k hk]⟩
      ·rw[aI c];exact bu ⟨rfl,g',p',h1,h2,h3⟩
     case vpost=>
      rintro c st' ⟨rfl,g',p',h1,h2,h3⟩;dsimp only;refine aX (fS (aX (fS (bu ⟨_,_,_,rfl,n3,(),(h1.XQ _).XQ _,?_,λi hi=>by rw[h3 i (),R2.out i (.inr hi),h5 i ()]⟩))))
      skip
      rw[h1.pend];exact xZ (Ai (λ_=>rfl) h2) n2 (λi a b=>by rw[h3 i a];exact R2.cl i a b) (λi j a b c=>by rw[h3 i a,h3 j ()];exact R2.so i j a b c)
 case post=>
  rintro c st' ⟨g,p,rfl,h1,h2⟩;dsimp only;refine aX (ef (cJ
   (I:=λx c st''=>c=(none,Unit.unit)/\∃g p,Sg N f kd g p st''/\PA o g p N/\(p.size<=1\/p.size+x<=N))
   (Q:=λc st''=>c=(none,Unit.unit)/\∃g p,Sg N f kd g p st''/\PA o g p N/\p.size<=1) ?fstep ?ffin ⟨rfl,g,p,h1,h2,.inr ?finit⟩) ?fpost)
  case finit=>
   have:=r9.le h2;rw[aH]at this;show p.toList.length+0<=N
   lia
  case ffin=>
   rintro c st'' ⟨rfl,g,p,h1,h2,h3⟩;exact⟨rfl,g,p,h1,h2,()⟩
  case fstep=>
   rintro x c st'' _ hx ⟨rfl,g,p,h1,h2,h3⟩;refine aX (ig ?_);rw[h1.pend];by_cases c:p.size<=1
   ·rw[aK c];exact bu ⟨rfl,g,p,h1,h2,c⟩
   ·rw[aI c];have il:∀(d:Prop) [Decidable d],(if d then p.size-2-1 else p.size-2)+1<p.size:=λd _=>by
     by_cases hd:d
     ·rw[aK hd];lia
     ·rw[aI hd];lia
    refine aX (Fi C h1 h2 (aQ _) (il _) λg' p' st3 s3 q3 z3 _=>?_);exact bu ⟨rfl,g',p',s3,q3,()⟩
  case fpost=>
   rintro c st'' ⟨rfl,g,p,h1,h2,h3⟩;dsimp only;refine bu ?_;unfold PA at h2;have h3:p.toList.length<=1:=h3
   match hl:p.toList,h3 with
   | [],_=>
    rw[hl]at h2;have:0=N:=h2
    lia
   | [x],_=>
    rw[hl]at h2;obtain⟨e1,e2,e3,e4,e5⟩:=h2;have e5:0+x.2.1=N:=e5;have e3:Cl g 0 (0+x.2.1):=e3;have e4:So o g 0 (0+x.2.1):=e4;rw[e5]at e3 e4;exact q g p st'' h1 e3 e4
end
meta abbrev BN (h:aq)(a:ak)(vs:ba):aq:=((h.update a (Obj.mapSeq λ_=>#[])).push (seqObj "tuple" vs.toArray 0)).push (seqObj "list" #[] 0)
def GY{h:aq}{a:ak}(hb:b≠a)(hlt:b<h.objs.size):(BN h a vs).get? b=h.get? b:=by
 rw[iu _ _ _ (by rw[size_push',iJ];exact bE (dU hlt)),
  iu _ _ _ (by rw[iJ];exact bE hlt),Heap.get?_update_ne _ _ _ _ hb]
meta abbrev vv (vs:ba)(i:Nat):Keyed:=(vs.getD i .none,vs.getD i .none)
def zip_get(vs:ba){i:Nat}(h:i<vs.length):(vs.toArray.zip vs.toArray)[i]?=some (vv vs i):=by
 have e:vs[i]?=some (vs.getD i .none):=by rw[aJ,aG h];rfl
 rw[Array.getElem?_zip_eq_some];exact⟨by rw[eV];exact e,by rw[eV];exact e⟩
section
variable {prog:aj}{w:ah}{A:az}{E:af->aA->Prop}{s:aA}{o:Ord}{kd:SortKind}
def w_{a:ak}{vs:ba}{n:Nat}{P:PySem.Fin->aA->Prop}(hL:s.heap.get? a=some (seqObj "list" vs.toArray n))(hsz:vs.length<=sizeLine)
  (hkk:2<=vs.length->∀Q:SortKind->aA->Prop,Q kd { s with heap:=BN s.heap a vs }->wpAny (model prog w) A (keyKind' vs.toArray) Q E { s with heap:=BN s.heap a vs })
  (C:2<=vs.length->A_ prog w A { s with heap:=BN s.heap a vs } o vs.length (vv vs) kd)
  (h:∀g,Cl g 0 vs.length->So o g 0 vs.length->P (.done (.ret .none)) { s with heap:=sortedHeap s.heap a vs ((List.range vs.length).map λi=>vs.getD (g i) .none).toArray }) :
  wpAny (model prog w) A (Builtin.«list.sort» ⟨[.ref a],[]⟩) P E s:=by
 rw[list_sort_plain];have lta:a<s.heap.objs.size:=bf hL;refine aF (fh hL rfl ?_);refine aF (listUpdate_at hL rfl ?_ (by rw[aY];exact hsz) (bO _));obtain⟨ep,hL1⟩:∃ep,(s.heap.update a (Obj.mapSeq λ_=>#[])).get? a=some (seqObj "list" #[] ep):=⟨_,get?_update_seq hL (λ_=>#[])⟩;refine aF (seqEpoch_at hL1 rfl ?_);refine aF (wpAny_newTuple ?_);refine aF (jd ?_);refine cT ?_;have hL6:(BN s.heap a vs).get? a=some (seqObj "list" #[] ep):=by
  rw[iu _ _ _ (by rw[size_push',iJ];exact bE (dU lta)),iu _ _ _ (by rw[iJ];exact bE lta)];exact hL1
 skip
 dsimp only;have hz:vs.toArray.size=vs.length:=by simp
 have getE:∀i,i<vs.length->vs[i]?=some (vs.getD i .none):=λi hi=>by rw[aJ,aG hi];rfl
 have qd:∀(arr:Array Keyed) (g:Nat->Nat),arr.size=vs.length->(∀i,i<vs.length->arr[i]?=some (vv vs (g i)))->arr.map (·.2)=((List.range vs.length).map λi=>vs.getD (g i) .none).toArray:=λarr g h1 two=>by
  apply Array.ext_getElem?;intro i;have e0:((List.range vs.length).map λi=>vs.getD (g i) Value.none).toArray[i]?=((List.range vs.length).map λi=>vs.getD (g i) Value.none)[i]?:=eV ..;rw[Array.getElem?_map,e0,aS];by_cases c:i<vs.length
  ·rw[two i c,eg c];rfl
  ·rw[iw (),cF (by rw[cE];lia)];rfl
 by_cases two:vs.toArray.size<2
 ·rw[aK two,aK two];refine aF (aP ?_);rw[StateT.run_pure];refine aF (aP ?_);dsimp only;refine aF (seqEpoch_at hL6 rfl ?_);have oe:=qd (vs.toArray.zip vs.toArray) (λi=>i) (by rw[jt,hz];lia) λi hi=>zip_get vs hi;refine aF (listUpdate_at hL6 rfl ?_ (by simp) (hsz2:=by rw[size_map];show(vs.toArray.zip vs.toArray).size<=_;rw[jt,hz];lia));dsimp[bne_self_eq_false,bz,bY];refine aP ?_;have:=h (λi=>i) (λi a b=>⟨a,b⟩) (λi j a b c=>());rw[<- oe]at this;exact this
 ·rw[aI two,aI two];have h2':2<=vs.length:=()
  refine aF (hkk h2' _ ?_);refine aF (dh (Q5 (f:=vv vs) (N:=vs.length) (C h2') (st:=SortSt.mk' kd (vs.toArray.zip vs.toArray) #[] 7 none)
   (Q:=λ_ st'=>∃g p,Sg vs.length (vv vs) kd g p st'/\Cl g 0 vs.length/\So o g 0 vs.length)
   ⟨by show(vs.toArray.zip vs.toArray).size=_;rw[jt,hz];lia,λi hi=>zip_get vs hi,λi hi=>hi,rfl,rfl,rfl⟩ () λg' p' st' a1 a2 a3=>⟨g',p',a1,a2,a3⟩) ?_ λ_ _ e=>e)
  rintro⟨⟨⟩,st'⟩ s' ⟨rfl,g,p,hS,hc,hso⟩;dsimp only;refine aF (seqEpoch_at hL6 rfl ?_);have oe:=qd (arrOf st') g hS.size hS.get;refine aF (listUpdate_at hL6 rfl ?_ (by simp) (hsz2:=by have hh:(arrOf st').size=vs.length:=hS.size;show((arrOf st').map (·.2)).size<=_;rw[size_map,hh];lia));rw[hS.failed];dsimp[bne_self_eq_false,bz,bY];have:=h g hc hso;rw[<- oe]at this;exact aP this
end
section
variable {prog:aj}{w:ah}{A:az}{E:af->aA->Prop}{s:aA}
def wU(b:Bool)(x y:af):keyLt' (tuples' b) x y=(do
  let us <- Builtin.List.listItems x
  let vs <- Builtin.List.listItems y
  for ((u,v),k)in (us.toList.zip vs.toList).zipIdx do
   if !(<- eqBool u v)then return <- oneLt' (b && k == 0) u v
  return us.size<vs.size):=rfl
def IB(b:Bool){x y:Int}{t:Tok}{Q:Bool->aA->Prop}(h:Q (decide (x<y)) s):wpAny (model prog w) A (oneLt' b (.int x t) (.int y u)) Q E s:=by
 cases b with
 | true=>exact oneLt_int h
 | false=>
  rw[oneLt'_eq];dsimp[bz,bY];exact aF (PySem.P.lt_int (dR h))
def FE(b:Bool){l k:ak}{xs ys:ba}{ns:ag}{Q:Bool->aA->Prop}(hl:IsTup s.heap l xs.toArray)(hk:IsTup s.heap k ys.toArray)(hi:IntsAre xs ns)(hj:IntsAre ys ms)(h:Q (HT.lexLt ns ms) s) :
  wpAny (model prog w) A (keyLt' (tuples' b) (.ref l) (.ref k)) Q E s:=by
 rw[wU];obtain⟨o1,ho1,_,n1,hd1⟩:=hl;obtain⟨o2,ho2,_,n2,hd2⟩:=hk;refine aF (fh ho1 hd1 ?_);refine aF (fh ho2 hd2 ?_);have key:∀(xs ys:ba) (ns ms:ag) (n:Nat),IntsAre xs ns->IntsAre ys ms->∀Q':bj×Unit->aA->Prop,(∀r,(r=some (HT.lexLt ns ms)\/(r=none/\HT.lexLt ns ms=decide (xs.length<ys.length)))->Q' (r,Unit.unit) s) ->
   wpAny (model prog w) A (forIn ((xs.zip ys).zipIdx n) ((none,Unit.unit):bj×Unit) λx c=>match x with
      | ((p,q),i)=>do
       let e <- eqBool p q
       if (!e)=true then do
         let r <- oneLt' (b && i == 0) p q
         pure (ForInStep.done (some r,Unit.unit))
        else pure (ForInStep.yield (none,Unit.unit))) Q' E s:=by
  intro xs
  induction xs with
  | nil=>
   intro ys ns ms n h1 h2 Q' q
   cases h1
   rw[List.zip_nil_left,List.zipIdx_nil,ju];refine aP (q none (.inr ⟨rfl,?_⟩))
   cases h2 with
   | nil=>rw[HT.om];rfl
   | cons a t h2=>rw[HT.mF,bg (by simp)]
  | cons v vs ih=>
   intro ys ns ms n h1 h2 Q' q
   cases h1 with
   | cons a t h1=>
    cases h2 with
    | nil=>
     rw[List.zip_nil_right,List.zipIdx_nil,ju];exact aP (q none (.inr ⟨rfl,by rw[HT.nQ,bh (by simp)]⟩))
    | cons c u h2=>
     rw[iT,je,gH];rw[HT.pS]at q;dsimp only;refine aF (aF (wpAny_eqBool_int ?_));by_cases e:a=c
     ·rw[aK e]at q;subst e;dsimp[bQ,cU,bz,bY];refine aP (ih _ _ _ _ h1 h2 _ λr hr=>q r ?_)
      rcases hr with hr|⟨hr,hz⟩
      ·exact .inl hr
      ·exact .inr ⟨hr,by rw[hz];simp⟩
     ·rw[aI e]at q;have e':(a == c)=false:=by simpa using e
      dsimp[e',dg,cI];exact aF (IB _ (aP (aP (q _ (.inl rfl)))))
 refine aF (key xs ys ns ms 0 hi hj _ λr hr=>?_)
 rcases hr with rfl|⟨rfl,hz⟩
 ·exact aP h
 ·dsimp only;rw[aY,aY,<- hz];exact aP h
end
theorem xW:∀a:ag,HT.lexLt a a=false
 | []=>HT.om
 | x::a=>by rw[HT.pS,aK rfl];exact xW a
theorem BC:∀{a b c:ag},HT.lexLt a b=true->HT.lexLt b c=true->HT.lexLt a c=true
 | [],[],_,h,_=>by rw[HT.om]at h;cases h
 | x::a,[],_,h,_=>by rw[HT.nQ]at h;cases h
 | _,y::b,[],_,h=>by rw[HT.nQ]at h;cases h
 | [],y::b,z::c,_,_=>HT.mF ..
 | x::a,y::b,z::c,h1,h2=>by
  rw[HT.pS]at h1 h2 ⊢;by_cases e1:x=y
  ·rw[aK e1]at h1;by_cases e2:y=z
   ·rw[aK e2]at h2;rw[aK (e1.trans e2)];exact BC h1 h2
   ·rw[aI e2]at h2;have:=bL h2;rw[aI (by omega)];exact bg (by omega)
  ·rw[aI e1]at h1;have l1:=bL h1;by_cases e2:y=z
   ·rw[aI (by omega)];exact bg (by omega)
   ·rw[aI e2]at h2;have:=bL h2;rw[aI (by omega)];exact bg (by omega)
theorem vf:∀{a b:ag},HT.lexLt a b=false->HT.lexLt b a=false->a=b
 | [],[],_,_=>rfl
 | [],y::b,h,_=>by rw[HT.mF]at h;cases h
 | x::a,[],_,h=>by rw[HT.mF]at h;cases h
 | x::a,y::b,h1,h2=>by
  rw[HT.pS]at h1 h2;by_cases e:x=y
  ·rw[aK e]at h1;rw[aK e.symm]at h2;rw[e,vf h1 h2]
  ·rw[aI e]at h1;rw[aI (λz=>e z.symm)]at h2;have:=di h1;have:=di h2
   lia
def IL{a c:ag}(h:HT.lexLt a c=true):HT.lexLt a b=true\/HT.lexLt b c=true:=by
 cases e:HT.lexLt a b with
 | true=>exact .inl rfl
 | false=>
  right
  cases e2:HT.lexLt b a with
  | true=>exact BC e2 h
  | false=>rw[<- vf e e2];exact h
abbrev zU (kss:List (ag)):Ord where
 lt i j:=HT.lexLt (kss.getD i []) (kss.getD j [])
 Ll i:=xW _
 tr i j k:=BC
 neg i j k:=IL
section
variable {prog:aj}{w:ah}{A:az}{E:af->aA->Prop}{s:aA}
theorem JJ{α β:Type}{f:α->Sem β}(r:α->β):∀(l:List α),(∀a∈l,∀Q:β->aA->Prop,Q (r a) s->wpAny M A (f a) Q E s)->∀Q:List β->aA->Prop,Q (l.map r) s->wpAny M A (l.mapM f) Q E s
 | [],_,Q,q=>by rw[List.mapM_nil];exact aP q
 | a::l,h,Q,q=>by
  rw[List.mapM_cons];refine aF (h a (aM ..) _ (aF (JJ r l (λb hb=>h b (aN _ hb)) _ (aP q))))
def yk{α β:Type}{f:α->Sem β}(r:α->β)(l:List α)(h:∀a∈l,∀Q:β->aA->Prop,Q (r a) s->wpAny M A (f a) Q E s)(Q:Array β->aA->Prop)(q:Q (l.map r).toArray s):wpAny M A (l.toArray.mapM f) Q E s:=by
 rw[List.mapM_toArray,map_eq_pure_bind];exact aF (JJ r l h _ (aP q))
def D4(u:af):firstOfTuple' u=(do
  if (<- typeOf u) != .type "tuple" then return none
  return (<- Builtin.List.listItems u)[0]?):=rfl
def JQ{vs:ba}(h0:vs≠[])(ht:∀v∈vs,∃(l:ak) (xs:ba) (n:Int) (t:Tok),v=.ref l/\IsTup s.heap l (.int n t::xs).toArray){Q:SortKind->aA->Prop}(q:Q (tuples' true) s) :
  wpAny (model prog w) A (keyKind' vs.toArray) Q E s:=by
 have ch:∀v,∃x:Int×Tok,v∈vs->∃(l:ak) (xs:ba),v=.ref l/\IsTup s.heap l (.int x.1 x.2::xs).toArray:=λv=>by
  by_cases c:v∈vs
  ·obtain⟨l,xs,n,t,e1,e2⟩:=ht v c;exact⟨(n,t),λ_=>⟨l,xs,e1,e2⟩⟩
  ·exact⟨(0,0),λz=>absurd z c⟩
 obtain⟨F,hF⟩:=Classical.axiomOfChoice ch;rw[keyKind'_eq];refine aF (yk (λv=>some (Value.int (F v).1 (F v).2)) vs (λv hv Q' q'=>?_) _ ?_)
 ·obtain⟨l,xs,rfl,o,ho,hc,n,hd⟩:=hF v hv;rw[D4];refine aF (gp (T := "tuple") ⟨o,ho,hc⟩ ?_);rw[aI ⋯];exact aF (fh ho hd (aP q'))
 ·rw[aK (by simp)];refine aF (fq ?_);have e1:(vs.map λv=>some (Value.int (F v).1 (F v).2)).toArray.filterMap id=(vs.map λv=>Value.int (F v).1 (F v).2).toArray:=by
   rw[List.filterMap_toArray,iU];congr 1;rw[show(id ∘ λv=>some (Value.int (F v).1 (F v).2))=λv=>some (Value.int (F v).1 (F v).2)from rfl];exact congrFun List.filterMap_eq_map' vs
  rw[e1,oneTypeOnly'_eq];refine aF (aF (yk (λ_=>Value.type "int") _ (λv hv Q' q'=>?_) _ ?_))
  ·obtain⟨u,_,rfl⟩:=bA.mp hv;exact aP q'
  ·rw[bq];obtain⟨v0,vs',rfl⟩:∃v0 vs',vs=v0::vs':=by
    cases vs with
    | nil=>exact absurd rfl h0
    | cons a b=>exact⟨a,b,rfl⟩
   have ha:((List.map ((λ_=>Value.type "int") ∘ λv=>Value.int (F v).1 (F v).2) (v0::vs')).toArray.all λx=>x == Value.type "int")=true:=by
    dsimp[List.all_toArray,g_,cZ];intro _ _;rfl
   have hz:(List.map ((λ_=>Value.type "int") ∘ λv=>Value.int (F v).1 (F v).2) (v0::vs')).toArray[0]?=some (Value.type "int"):=by simp
   rw[hz];dsimp[ha,cI];exact aP (aP q)
end
end Sx
namespace L2
open PySem PySem.Spec PyProof.Rows
section
variable {X:Cx}
theorem wR:∀{rs:bb}{its:ba},Vals (rs.map V.ref) its->its=rs.map Value.ref
 | [],_,r=>by cases r;rfl
 | a::rs,_,r=>by
  cases r with
  | cons h t=>
   have e:_=Value.ref a:=h;rw[e,wR t];rfl
theorem wk:∀(rs:bb),Vals (rs.map V.ref) (rs.map Value.ref)
 | []=>.nil
 | a::rs=>.cons (show RelV (.ref a) (.ref a)from rfl) (wk rs)
def KD{s:aA}{H:Hp}{Q:VK}{h':aq}{tk:Nat}{rs:bb}{kss:List (ag)}(I1:Inv X pins σ H { s with heap:=h',toks:=tk })(hlen:rs.length=kss.length)(hz:rs.length<=sizeLine)
  (hT:∀(i:Nat) (r:ak) (ks:ag),rs[i]?=some r->kss[i]?=some ks->mO X.K H r (ks.map V.int)/\ks≠[])
  (q:∀l g,H l=none->Sx.Cl g 0 kss.length->Sx.So (Sx.zU kss) g 0 kss.length->Q (.ref l) (upd H l (.lst (((List.range kss.length).map λi=>rs.getD (g i) 0).map V.ref)))) :
  wpAny (model X.prog X.w) X.A.in1 (do
   let l <- newList (rs.map Value.ref)
   let _ <- holding [l] (call (Value.builtin "list.sort") [l] [])
   ret l) (λfin s'=>∃v,fin=Fin.done (Flow.ret v)/\EP X pins σ Q v s') X.xe { s with heap:=h',toks:=tk }:=by
 have hN:(rs.map Value.ref).length=kss.length:=by rw[aH,hlen]
 refine aF (jd ?_);have hoL:(h'.push (seqObj "list" (rs.map Value.ref).toArray 0)).get? h'.objs.size=some (seqObj "list" (rs.map Value.ref).toArray 0):=bB _ rfl
 skip
 have tup:∀(i:Nat) (r:ak) (ks:ag),rs[i]?=some r->kss[i]?=some ks->∃its:ba,IntsAre its ks/\IsTup (Sx.BN (h'.push (seqObj "list" (rs.map Value.ref).toArray 0)) h'.objs.size (rs.map Value.ref)) r its.toArray:=λi r ks e1 e2=>by
  obtain⟨its,rv,⟨o,ho,hc,n,hd⟩,_⟩:=I1.tuple (hT i r ks e1 e2).1;refine⟨its,intsAre_of rv,o,?_,hc,n,hd⟩;have lt:r<h'.objs.size:=bf ho;rw[Sx.GY (bE lt) (by rw[eK];exact dU lt)];exact aO _ ho
 refine aF (cT (cY slot_list_sort ⟨_,hoL,rfl⟩ entry_list_sort (Sx.w_ (o:=Sx.zU kss) (kd:=tuples' true) hoL (by rw[hN];lia) (λh2 Q' q'=>?_) (λh2 i j hi hj E' Q' q'=>?_) λg hc hs=>⟨_,rfl,?_⟩) (args_list_sort _)))
 ·refine Sx.JQ (λz=>by rw[z]at h2;simp at h2) (λv hv=>?_) q';obtain⟨i,hi⟩:=eZ hv;rw[aS]at hi;obtain⟨r,hr,rfl⟩:=a_.mp hi;have lt:=(aL.mp hr).1;have e2:kss[i]?=some kss[i]:=aG ();obtain⟨its,h1,h3⟩:=tup i r _ hr e2;have hne:=(hT i r _ hr e2).2;generalize kss[i]=ks at h1 hne
  cases h1 with
  | nil=>exact absurd rfl hne
  | cons a t h1=>exact⟨r,_,a,t,rfl,h3⟩
 ·rw[hN]at hi hj;have e1:rs[i]?=some (rs[i]'()):=aG _;have e2:rs[j]?=some (rs[j]'()):=aG _;have k1:kss[i]?=some kss[i]:=aG hi;have k2:kss[j]?=some kss[j]:=aG hj;obtain⟨x1,a1,b1⟩:=tup i _ _ e1 k1;obtain⟨x2,a2,b2⟩:=tup j _ _ e2 k2;have v1:(rs.map Value.ref).getD i .none=.ref (rs[i]'()):=by rw[aJ,aS,e1];rfl
  have v2:(rs.map Value.ref).getD j .none=.ref (rs[j]'()):=by rw[aJ,aS,e2];rfl
  show wpAny _ _ (keyLt' (tuples' true) ((rs.map Value.ref).getD i .none) ((rs.map Value.ref).getD j .none)) Q' E' _;rw[v1,v2];refine Sx.FE true b1 b2 a1 a2 ?_;have d1:kss.getD i []=kss[i]:=by rw[aJ,k1];rfl
  have d2:kss.getD j []=kss[j]:=by rw[aJ,k2];rfl
  have:(Sx.zU kss).lt i j=HT.lexLt kss[i] kss[j]:=by show HT.lexLt _ _=_;rw[d1,d2]
  rw[<- this];exact q'
 ·rw[hN]at hc hs ⊢;obtain⟨e,he⟩:=sortedHeap_at (out:=((List.range kss.length).map λi=>(rs.map Value.ref).getD (g i) .none).toArray) hoL;have old:∀b ob,h'.get? b=some ob->(sortedHeap (h'.push (seqObj "list" (rs.map Value.ref).toArray 0)) h'.objs.size (rs.map Value.ref) ((List.range kss.length).map λi=>(rs.map Value.ref).getD (g i) .none).toArray).get? b=some ob:=λb ob eb=>by
   rw[sortedHeap_old (bE (bf eb)) (by rw[eK];exact dU (bf eb))];exact aO _ eb
  refine aP ⟨_,rfl,.ref h'.objs.size,_,I1.laid (t':=tk) (o:=.lst (((List.range kss.length).map λi=>rs.getD (g i) 0).map V.ref)) old (aQ _) ?_,rfl,q _ g (I1.hok.fresh (aQ _)) hc hs⟩;refine⟨by rw[aH,aH,cE];lia,((List.range kss.length).map λi=>rs.getD (g i) 0).map Value.ref,e,wk _,?_⟩;rw[he];congr 2;rw[bq];congr 1;refine cK λi hi=>?_;have:=(hc i (bO _) (cA.mp hi)).2;have lt:g i<rs.length:=()
  show(rs.map Value.ref).getD (g i) .none=Value.ref (rs.getD (g i) 0);rw[aJ,aS,aG lt,aJ,aG lt];rfl
end
end L2
namespace Sx
open PySem PyProof.Rows
open PySem.AutoSeq1 (wpAny_loadPart')
open PySem.MeetsSeq PySem.MeetsSeq2 PySem.MeetsSeq3
theorem xP:∀{xs:ba}{ns:ag}{i:Nat},IntsAre xs ns->i<ns.length->∃t,xs[i]?=some (.int (ns.getD i 0) t)
 | _,_,i,.nil,h=>absurd h (fX _)
 | _,_,0,.cons n t h,_=>⟨t,rfl⟩
 | _,_,i+1,.cons n t h,hi=>by
  obtain⟨t',e⟩:=xP h (i:=i) (by simpa using hi);exact⟨t',by simpa using e⟩
end Sx
namespace Am
open PySem
inductive A where
 | unb|non|bl (b:Bool)|int (i:Int)|str (x:Str)|tup (xs:List A)|frz (xs:List A)|rng (lo hi:Int)|ref (n:Nat)|exn (c:Str)|ty (n:String)|ktu (xs:List A)
@[reducible]def ae:=List A
inductive O where
 | lst (xs:ae)|dct (kvs:List (ag×A))|qM (kvs:List (Int×A))|ins (c:Str) (fs:List (Str×A))
meta abbrev jE:=List O
inductive R (α:Type) where
 | ok (a:α) (S:jE)|ex (c:Str) (S:jE)|no
abbrev R.bind {α β:Type}(r:R α)(f:α->jE->R β):R β:=match r with
 | .ok a S=>f a S
 | .ex c S=>.ex c S
 | .no=>.no
abbrev R.post {α:Type}(r:R α)(P:α->jE->Prop)(E:Str->jE->Prop):Prop:=match r with
 | .ok a S=>P a S
 | .ex c S=>E c S
 | .no=>False
def jK{α β:Type}{r:R α}{f:α->jE->R β}{P:β->jE->Prop}{E:Str->jE->Prop}(h:(r.bind f).post P E):r.post (λa S=>(f a S).post P E) E:=by
 cases r<;>exact h
def vU{α:Type}{r:R α}{P P':α->jE->Prop}{E E':Str->jE->Prop}(h:r.post P E)(hp:∀a S,P a S->P' a S)(he:∀c S,E c S->E' c S):r.post P' E':=by
 cases r with
 | ok a S=>exact hp _ _ h
 | ex c S=>exact he _ _ h
 | no=>exact h.elim
abbrev gd {α:Type}(c:Prop)[Decidable c](r:R α):R α:=if c then r else .no
abbrev opt {α β:Type}(o:Option β)(f:β->R α):R α:=match o with
 | some b=>f b
 | none=>.no
def j3{α:Type}{c:Prop}[Decidable c]{r:R α}{P:α->jE->Prop}{E:Str->jE->Prop}(h:(gd c r).post P E):c/\r.post P E:=by
 unfold gd at h;by_cases hc:c
 ·rw[aK hc]at h;exact⟨hc,h⟩
 ·rw[aI hc]at h;exact h.elim
def jO{α β:Type}{o:Option β}{f:β->R α}{P:α->jE->Prop}{E:Str->jE->Prop}(h:(opt o f).post P E):∃b,o=some b/\(f b).post P E:=by
 cases o with
 | none=>exact h.elim
 | some b=>exact⟨b,rfl,h⟩
def aaO{α:Type}{c:Prop}[Decidable c]{r:R α}(h:c):gd c r=r:=aK h
abbrev jC (S:jE)(n:Nat):Option (ae):=match S[n]? with
 | some (.lst xs)=>some xs
 | _=>none
def jT{n:Nat}(h:jC S n=some xs):S[n]?=some (.lst xs):=by
 unfold jC at h;split at h
 ·rename_i e;cases h;exact e
 ·cases h
def vO{S:jE}{n:Nat}(h:S[n]?=some (.lst xs)):jC S n=some xs:=by
 unfold jC;rw[h]
inductive RS where
 | nx (τ:ae) (S:jE)|rt (a:A) (S:jE)|bk (τ:ae) (S:jE)|ct (τ:ae) (S:jE)|ex (c:Str) (S:jE)|no
meta abbrev Ex:=ae->jE->R A
meta abbrev qc:=ae->jE->R (ae)
meta abbrev Te:=ae->jE->R Bool
meta abbrev Sm:=ae->jE->RS
meta abbrev Tg:=A->ae->jE->R (ae)
end Am
namespace Am
open PySem L2
section
variable (K:au) (ρ:bb) (H:Hp)
abbrev FU (K:au)(c:Str)(C:ak):Prop:=PySem.W.nsIn K mainGlobals c=some (some (.ref C))
abbrev Fz (K:au)(H:Hp)(a:ak)(vs:List V):Prop:=
 (∃o,H a=some (.frz o (.lst vs)))\/∃(o:Obj) (its:Array af) (n:Nat),K.lookup a=some o/\o.cls=.type "list" /\ o.dict=none/\o.data=.seq its n/\its.size<=sizeLine/\Vals vs its.toList
abbrev KTp (K:au)(a:ak)(vs:List V):Prop:=∃(o:Obj) (its:Array af) (n:Nat),K.lookup a=some o/\o.cls=.type "tuple" /\ o.dict=none/\o.data=.seq its n/\its.size<=sizeLine/\Vals vs its.toList
mutual
inductive AV:A->V->Prop
 | non:AV .non .non
 | bl (b:Bool):AV (.bl b) (.bl b)
 | int (i:Int):AV (.int i) (.int i)
 | str (x:Str):AV (.str x) (.str x)
 | ty (n:String):AV (.ty n) (.ty n)
 | tup {a:ak} {xs:ae} {vs:List V} (h:H a=some (.tup vs)) (r:AVs xs vs):AV (.tup xs) (.ref a)
 | frz {a:ak} {xs:ae} {vs:List V} (h:Fz K H a vs) (r:AVs xs vs):AV (.frz xs) (.ref a)
 | rng {a:ak} {lo hi:Int} (h:H a=some (.rng lo hi)):AV (.rng lo hi) (.ref a)
 | ref {a:ak} {n:Nat} (h:ρ[n]?=some a):AV (.ref n) (.ref a)
 | exn {a C:ak} {c:Str} {oe:Obj} (n:FU K c C) (h:H a=some (.frz oe xu)) (x:XO C oe):AV (.exn c) (.ref a)
 | ktu {a:ak} {xs:ae} {vs:List V} (h:KTp K a vs) (r:AVs xs vs):AV (.ktu xs) (.ref a)
inductive AVs:ae->List V->Prop
 | nil:AVs [] []
 | cons {x:A} {v:V} {xs:ae} {vs:List V} (h:AV x v) (t:AVs xs vs):AVs (x::xs) (v::vs)
end
abbrev DV:List (ag×A)->List (List Key×V)->Prop
 | [],[]=>True
 | p::r,q::r'=>(q.1=p.1.map Sum.inl/\AV K ρ H p.2 q.2)/\DV r r'
 | _,_=>False
abbrev DI:List (Int×A)->List (Key×V)->Prop
 | [],[]=>True
 | p::r,q::r'=>(q.1=Sum.inl p.1/\AV K ρ H p.2 q.2)/\DI r r'
 | _,_=>False
abbrev OR (a:ak):O->Prop
 | .lst xs=>∃vs,H a=some (.lst vs)/\AVs K ρ H xs vs
 | .dct kvs=>∃ks,H a=some (.dT ks)/\DV K ρ H kvs ks
 | .qM kvs=>∃ks,H a=some (.dK ks)/\DI K ρ H kvs ks
 | .ins _ _=>∃o u,H a=some (.frz o u)
structure Rel (S:jE):Prop where
 len:ρ.length=S.length
 nd:ρ.Nodup
 «at»:∀(n:Nat) (a:ak) (o:O),ρ[n]?=some a->S[n]?=some o->OR K ρ H a o
end
abbrev Imm:HO->Prop
 | .tup _=>True
 | .rng _ _=>True
 | .frz _ _=>True
 | _=>False
structure Ext0 (ρ ρ':bb)(H H':Hp):Prop where
 pre:ρ <+: ρ'
 im:∀a u,Imm u->H a=some u->H' a=some u
structure Ext (ρ ρ':bb)(H H':Hp):Prop extends Ext0 ρ ρ' H H' where
 fr:∀a u,H a=some u->a∉ρ->H' a=some u
 nw:∀a,a∈ρ'->a∈ρ\/H a=none
def Ext.refl{H:Hp}:Ext ρ ρ H H:=⟨⟨fO _,λ_ _ _ h=>h⟩,λ_ _ h _=>h,λ_ h=>.inl h⟩
def Ext.trans{H H1 H2:Hp}(a:Ext ρ ρ1 H H1)(b:Ext ρ1 ρ2 H1 H2):Ext ρ ρ2 H H2:=⟨⟨a.pre.trans b.pre,λx u i h=>b.im x u i (a.im x u i h)⟩,λx u h n=>b.fr x u (a.fr x u h n) λz=>(a.nw x z).elim n λz=>by(rw[z]at h;cases h),λx h=>by
 by_cases hx:x∈ρ
 ·exact .inl hx
 ·right
  cases q:H x with
  | none=>rfl
  | some u=>
   rcases b.nw x h with z|z
   ·exact((a.nw x z).elim hx λz=>by(rw[z]at q;cases q)).elim
   ·rw[a.fr x u q hx]at z;cases z⟩
def Ext0.get{H H':Hp}(e:Ext0 ρ ρ' H H'){n:Nat}{a:ak}(h:ρ[n]?=some a):ρ'[n]?=some a:=by
 obtain⟨t,rfl⟩:=e.pre;rw[bH (aL.mp h).1];exact h
section
variable {K:au}{ρ ρ':bb}{H H':Hp}
def Ext0.ZY(e:Ext0 ρ ρ' H H'){a:ak}(h:mO K H a vs):mO K H' a vs:=by
 rcases h with(h|⟨o,h⟩)|h
 ·exact .inl (.inl (e.im _ _ trivial h))
 ·exact .inl (.inr ⟨o,e.im _ _ trivial h⟩)
 ·exact .inr h
def Ext0.fz(e:Ext0 ρ ρ' H H'){a:ak}(h:Fz K H a vs):Fz K H' a vs:=by
 rcases h with⟨o,h⟩|h
 ·exact .inl ⟨o,e.im _ _ trivial h⟩
 ·exact .inr h
def Fz.Qv{a:ak}(h:Fz K H a vs):qa K H a vs:=by
 rcases h with⟨o,h⟩|h
 ·exact .inl (.inr ⟨o,h⟩)
 ·exact .inr h
mutual
theorem AV.nF(e:Ext0 ρ ρ' H H'):∀{x:A}{v:V},AV K ρ H x v->AV K ρ' H' x v
 | _,_,.non=>.non
 | _,_,.bl b=>.bl b
 | _,_,.int i=>.int i
 | _,_,.str x=>.str x
 | _,_,.ty x=>.ty x
 | _,_,.tup h r=>.tup (e.im _ _ trivial h) (AVs.nF e r)
 | _,_,.frz h r=>.frz (e.fz h) (AVs.nF e r)
 | _,_,.rng h=>.rng (e.im _ _ trivial h)
 | _,_,.ref h=>.ref (e.get h)
 | _,_,.exn n h x=>.exn n (e.im _ _ trivial h) x
 | _,_,.ktu h r=>.ktu h (AVs.nF e r)
theorem AVs.nF(e:Ext0 ρ ρ' H H'):∀{xs:ae}{vs:List V},AVs K ρ H xs vs->AVs K ρ' H' xs vs
 | _,_,.nil=>.nil
 | _,_,.cons h t=>.cons (AV.nF e h) (AVs.nF e t)
end
theorem DV.nF(e:Ext0 ρ ρ' H H'):∀{xs:List (ag×A)}{vs:List (List Key×V)},DV K ρ H xs vs->DV K ρ' H' xs vs
 | [],[],_=>trivial
 | _::_,_::_,⟨⟨a,b⟩,r⟩=>⟨⟨a,AV.nF e b⟩,DV.nF e r⟩
def DV.ext{x:List (ag×A)}{v:List (List Key×V)}(h:DV K ρ H x v)(e:Ext ρ ρ' H H'):DV K ρ' H' x v:=DV.nF e.toExt0 h
theorem DI.nF(e:Ext0 ρ ρ' H H'):∀{xs:List (Int×A)}{vs:List (Key×V)},DI K ρ H xs vs->DI K ρ' H' xs vs
 | [],[],_=>trivial
 | _::_,_::_,⟨⟨a,b⟩,r⟩=>⟨⟨a,AV.nF e b⟩,DI.nF e r⟩
def DI.ext{x:List (Int×A)}{v:List (Key×V)}(h:DI K ρ H x v)(e:Ext ρ ρ' H H'):DI K ρ' H' x v:=DI.nF e.toExt0 h
def AV.ext{x:A}{v:V}(h:AV K ρ H x v)(e:Ext ρ ρ' H H'):AV K ρ' H' x v:=AV.nF e.toExt0 h
def AVs.ext{x:ae}{v:List V}(h:AVs K ρ H x v)(e:Ext ρ ρ' H H'):AVs K ρ' H' x v:=AVs.nF e.toExt0 h
theorem AVs.length:∀{xs:ae}{vs:List V},AVs K ρ H xs vs->xs.length=vs.length
 | _,_,.nil=>rfl
 | _,_,.cons _ t=>dz (·+1) (AVs.length t)
theorem AVs.append:∀{xs ys:ae}{vs ws:List V},AVs K ρ H xs vs->AVs K ρ H ys ws->AVs K ρ H (xs++ys) (vs++ws)
 | _,_,_,_,.nil,s=>s
 | _,_,_,_,.cons h t,s=>.cons h (AVs.append t s)
theorem AVs.take:∀{xs:ae}{vs:List V}(n:Nat),AVs K ρ H xs vs->AVs K ρ H (xs.take n) (vs.take n)
 | _,_,0,_=>.nil
 | _,_,_+1,.nil=>.nil
 | _,_,n+1,.cons h t=>.cons h (AVs.take n t)
theorem AVs.drop:∀{xs:ae}{vs:List V}(n:Nat),AVs K ρ H xs vs->AVs K ρ H (xs.drop n) (vs.drop n)
 | _,_,0,r=>r
 | _,_,_+1,.nil=>.nil
 | _,_,n+1,.cons _ t=>AVs.drop n t
theorem AVs.get:∀{xs:ae}{vs:List V}{i:Nat}{x:A},AVs K ρ H xs vs->xs[i]?=some x->∃v,vs[i]?=some v/\AV K ρ H x v
 | _,_,_,_,.nil,e=>by simp at e
 | _,_,0,_,.cons h _,e=>by simp at e;subst e;exact⟨_,rfl,h⟩
 | _,_,i+1,x,.cons _ t,e=>by
  obtain⟨u,h1,h2⟩:=AVs.get (i:=i) (x:=x) t (by simpa using e);exact⟨u,by simpa using h1,h2⟩
theorem AVs.set{x:A}{v:V}(h:AV K ρ H x v):∀{xs:ae}{vs:List V}(i:Nat),AVs K ρ H xs vs->AVs K ρ H (xs.set i x) (vs.set i v)
 | _,_,_,.nil=>.nil
 | _,_,0,.cons _ t=>.cons h t
 | _,_,i+1,.cons q t=>.cons q (AVs.set h i t)
def AVs.one{x:A}{v:V}(h:AV K ρ H x v):AVs K ρ H [x] [v]:=.cons h .nil
theorem AVs.eraseIdx:∀{xs:ae}{vs:List V}(i:Nat),AVs K ρ H xs vs->AVs K ρ H (xs.eraseIdx i) (vs.eraseIdx i)
 | _,_,_,.nil=>.nil
 | _,_,0,.cons _ t=>t
 | _,_,i+1,.cons q t=>.cons q (AVs.eraseIdx i t)
theorem qU:∀(ns:ag),AVs K ρ H (ns.map .int) (ns.map .int)
 | []=>.nil
 | n::ns=>.cons (.int n) (qU ns)
def Rel.lay{S:jE}{p:ak}(R:Rel K ρ H S)(hp:H p=none)(r:AVs K ρ H xs vs):Ext ρ (ρ++[p]) H (upd H p (.lst vs))/\Rel K (ρ++[p]) (upd H p (.lst vs)) (S++[.lst xs])/\(ρ++[p])[S.length]?=some p:=by
 have ex:Ext ρ (ρ++[p]) H (upd H p (.lst vs)):=⟨⟨fV _ _,λa u _ h=>by rw[jM (jU h hp)];exact h⟩,λa u h _=>by rw[jM (jU h hp)];exact h,λa h=>by
  rcases bI.mp h with z|z
  ·exact .inl z
  ·have e:a=p:=by simpa using z
   rw[e];exact .inr hp⟩
 have np:∀(n:Nat) (a:ak),ρ[n]?=some a->a≠p:=by
  intro n a e z;subst z;have hn:n<S.length:=by rw[<- R.len];exact(aL.mp e).1
  have:=R.at n a S[n] e (aG hn)
  cases ho:S[n]with
  | lst xs=>rw[ho]at this;obtain⟨vs,h,_⟩:=this;rw[hp]at h;cases h
  | dct _|qM _=>rw[ho]at this;obtain⟨vs,h,_⟩:=this;rw[hp]at h;cases h
  | ins _ _=>rw[ho]at this;obtain⟨_,_,h⟩:=this;rw[hp]at h;cases h
 have last:(ρ++[p])[S.length]?=some p:=by rw[<- R.len];simp
 refine⟨ex,⟨by simp[R.len],?_,?_⟩,last⟩
 ·rw[dW];refine⟨R.nd,by simp,λa ha b hb e=>?_⟩;have:b=p:=by simpa using hb
  obtain⟨n,hn,e'⟩:=List.mem_iff_getElem.mp ha;exact np n a (by rw[aG hn,e']) (e.trans this)
 ·intro n a o h1 h2;by_cases hn:n<S.length
  ·rw[bH (by rw[R.len];exact hn)]at h1;rw[bH hn]at h2;have:=R.at n a o h1 h2
   cases o with
   | lst ys=>obtain⟨ws,e,q⟩:=this;exact⟨ws,by rw[jM (np n a h1)];exact e,q.ext ex⟩
   | dct _|qM _=>obtain⟨ws,e,q⟩:=this;exact⟨ws,by rw[jM (np n a h1)];exact e,q.ext ex⟩
   | ins _ _=>obtain⟨oo,uu,e⟩:=this;exact⟨oo,uu,by rw[jM (np n a h1)];exact e⟩
  ·have e:n=S.length:=by
    have:=(aL.mp h2).1;simp at this
    lia
   subst e;rw[last]at h1
   cases h1
   simp at h2;subst h2;exact⟨vs,ko,r.ext ex⟩
def Rel.im{p:ak}(R:Rel K ρ H S)(hp:H p=none):Ext ρ ρ H (upd H p u)/\Rel K ρ (upd H p u) S:=by
 have ex:Ext ρ ρ H (upd H p u):=⟨⟨fO _,λa u _ h=>by rw[jM (jU h hp)];exact h⟩,λa u h _=>by rw[jM (jU h hp)];exact h,λ_ h=>.inl h⟩;refine⟨ex,R.len,R.nd,λn a o h1 h2=>?_⟩;have:=R.at n a o h1 h2
 cases o with
 | lst ys=>obtain⟨ws,e,q⟩:=this;exact⟨ws,by rw[jM (jU e hp)];exact e,q.ext ex⟩
 | dct _|qM _=>obtain⟨ws,e,q⟩:=this;exact⟨ws,by rw[jM (jU e hp)];exact e,q.ext ex⟩
 | ins _ _=>obtain⟨oo,uu,e⟩:=this;exact⟨oo,uu,by rw[jM (jU e hp)];exact e⟩
def Rel.put{S:jE}{n:Nat}{a:ak}(R:Rel K ρ H S)(ha:ρ[n]?=some a)(hS:S[n]?=some (.lst xs))(r:AVs K ρ H ys ws):Ext ρ ρ H (upd H a (.lst ws))/\Rel K ρ (upd H a (.lst ws)) (S.set n (.lst ys)):=by
 obtain⟨vs,e,_⟩:=R.at n a _ ha hS;have ex:Ext ρ ρ H (upd H a (.lst ws)):=⟨⟨fO _,λb u i h=>by
  have:b≠a:=by
   intro z;subst z;rw[e]at h;cases h;exact i
  rw[jM this];exact h⟩,λb u h n=>by
  rw[jM (λz=>n (by rw[z];exact aZ ha))];exact h,λ_ h=>.inl h⟩
 refine⟨ex,by rw[cu];exact R.len,R.nd,λm b o h1 h2=>?_⟩;by_cases hm:m=n
 ·subst hm;rw[ha]at h1;cases h1;rw[bN (aL.mp hS).1]at h2
  cases h2
  exact⟨ws,ko,r.ext ex⟩
 ·rw[bW (cR hm)]at h2;have nb:b≠a:=λz=>by
   subst z;obtain⟨l1,e1⟩:=aL.mp ha;obtain⟨l2,e2⟩:=aL.mp h1;exact hm ((dj R.nd).mp (e2.trans e1.symm))
  have:=R.at m b o h1 h2
  cases o with
  | lst ys=>obtain⟨ws',e',q⟩:=this;exact⟨ws',by rw[jM nb];exact e',q.ext ex⟩
  | dct _|qM _=>obtain⟨ws',e',q⟩:=this;exact⟨ws',by rw[jM nb];exact e',q.ext ex⟩
  | ins _ _=>obtain⟨oo,uu,e'⟩:=this;exact⟨oo,uu,by rw[jM nb];exact e'⟩
def Rel.lst{n:Nat}{a:ak}(R:Rel K ρ H S)(ha:ρ[n]?=some a)(hS:S[n]?=some (.lst xs)):∃vs,H a=some (.lst vs)/\AVs K ρ H xs vs:=R.at n a _ ha hS
structure SR (K:au)(ρ:bb)(H:Hp)(τ:ae)(σ:St):Prop where
 len:τ.length=σ.length
 «at»:∀(i:Nat) (a:A),τ[i]?=some a->a=.unb\/∃v,σ[i]?=some (some v)/\AV K ρ H a v
def SR.nF(s:SR K ρ H τ σ)(e:Ext0 ρ ρ' H H'):SR K ρ' H' τ σ:=⟨s.len,λi a h=>by
 rcases s.at i a h with z|⟨v,h1,h2⟩
 ·exact .inl z
 ·exact .inr ⟨v,h1,AV.nF e h2⟩⟩
def SR.ext(s:SR K ρ H τ σ)(e:Ext ρ ρ' H H'):SR K ρ' H' τ σ:=s.nF e.toExt0
def Rel.out{D:ak}(R:Rel K ρ H S)(hD:H D=some (.lst vs))(hn:D∉ρ):Ext0 ρ ρ H (upd H D (.lst ws))/\Rel K ρ (upd H D (.lst ws)) S:=by
 have ex:Ext0 ρ ρ H (upd H D (.lst ws)):=⟨fO _,λb u i h=>by
  have:b≠D:=by
   intro z;subst z;rw[hD]at h;cases h;exact i
  rw[jM this];exact h⟩
 refine⟨ex,R.len,R.nd,λn a o h1 h2=>?_⟩;have na:a≠D:=λz=>hn (by rw[<- z];exact aZ h1);have:=R.at n a o h1 h2
 cases o with
 | lst ys=>obtain⟨ws',e,q⟩:=this;exact⟨ws',by rw[jM na];exact e,AVs.nF ex q⟩
 | dct _|qM _=>obtain⟨ws',e,q⟩:=this;exact⟨ws',by rw[jM na];exact e,q.nF ex⟩
 | ins _ _=>obtain⟨oo,uu,e⟩:=this;exact⟨oo,uu,by rw[jM na];exact e⟩
def Rel.take{S:jE}{D:ak}(R:Rel K ρ H S)(hD:H D=some (.lst vs))(hn:D∉ρ)(r:AVs K ρ H xs vs):Rel K (ρ++[D]) H (S++[.lst xs])/\(ρ++[D])[S.length]?=some D:=by
 have ex:Ext0 ρ (ρ++[D]) H H:=⟨fV _ _,λ_ _ _ h=>h⟩;have last:(ρ++[D])[S.length]?=some D:=by rw[<- R.len];simp
 refine⟨⟨by simp[R.len],?_,λn a o h1 h2=>?_⟩,last⟩
 ·rw[dW];refine⟨R.nd,by simp,λa ha b hb e=>?_⟩;have:b=D:=by simpa using hb
  exact hn (by rw[<- this,<- e];exact ha)
 ·by_cases hs:n<S.length
  ·rw[bH (by rw[R.len];exact hs)]at h1;rw[bH hs]at h2;have:=R.at n a o h1 h2
   cases o with
   | lst ys=>obtain⟨ws,e,q⟩:=this;exact⟨ws,e,AVs.nF ex q⟩
   | dct _|qM _=>obtain⟨ws,e,q⟩:=this;exact⟨ws,e,q.nF ex⟩
   | ins _ _=>obtain⟨oo,uu,e⟩:=this;exact⟨oo,uu,e⟩
  ·have e:n=S.length:=by
    have:=(aL.mp h2).1;simp at this
    lia
   subst e;rw[last]at h1
   cases h1
   simp at h2;subst h2;exact⟨vs,hD,AVs.nF ex r⟩
def SR.set{τ:ae}{σ:St}{a:A}{v:V}(s:SR K ρ H τ σ)(h:AV K ρ H a v):SR K ρ H (τ.set i a) (σ.set i (some v)):=by
 refine⟨by simp[s.len],λj b e=>?_⟩;by_cases hj:j=i
 ·subst hj;have hl:j<τ.length:=by
   have:=(aL.mp e).1;simpa using this
  rw[bN hl]at e
  cases e
  exact .inr ⟨v,bN (by rw[<- s.len];exact hl),h⟩
 ·rw[bW (cR hj)]at e;rw[bW (cR hj)];exact s.at j b e
end
end Am
namespace Am
open PySem PySem.Spec PyProof.Rows L2
abbrev XE (X:Cx)(ρ:bb)(H:Hp):Str->jE->Prop:=λc S'=>∀(C:ak) (ρ':bb) (H':Hp),FU X.K c C->Ext ρ ρ' H H'->Rel X.K ρ' H' S'->EX X (.ref C) none H'
def XE.ext{X:Cx}{H H':Hp}{c:Str}(h:XE X ρ H c S)(e:Ext ρ ρ' H H'):XE X ρ' H' c S:=λC ρ2 H2 n e2=>h C ρ2 H2 n (e.trans e2)
abbrev zV (X:Cx)(ρ:bb)(H:Hp)(Q:VK):A->jE->Prop:=λa S'=>∀ρ' H' v,Ext ρ ρ' H H'->Rel X.K ρ' H' S'->AV X.K ρ' H' a v->Q v H'
abbrev ZT (X:Cx)(ρ:bb)(H:Hp)(Q:Bool->Hp->Prop):Bool->jE->Prop:=λb S'=>∀ρ' H',Ext ρ ρ' H H'->Rel X.K ρ' H' S'->Q b H'
abbrev okL (X:Cx)(ρ:bb)(H:Hp)(Q:List V->Hp->Prop):ae->jE->Prop:=λas S'=>∀ρ' H' vs,Ext ρ ρ' H H'->Rel X.K ρ' H' S'->AVs X.K ρ' H' as vs->Q vs H'
def zV.ext{X:Cx}{H H':Hp}{Q:VK}{a:A}(h:zV X ρ H Q a S)(e:Ext ρ ρ' H H'):zV X ρ' H' Q a S:=λρ2 H2 v e2=>h ρ2 H2 v (e.trans e2)
def ZT.ext{X:Cx}{H H':Hp}{Q:Bool->Hp->Prop}{a:Bool}(h:ZT X ρ H Q a S)(e:Ext ρ ρ' H H'):ZT X ρ' H' Q a S:=λρ2 H2 e2=>h ρ2 H2 (e.trans e2)
def jG{α:Type}{X:Cx}{H H':Hp}{r:R α}{P P':α->jE->Prop}(h:r.post P (XE X ρ H))(e:Ext ρ ρ' H H')(hp:∀a S,P a S->P' a S):r.post P' (XE X ρ' H'):=vU h hp λ_ _ z=>z.ext e
abbrev tE (X:Cx)(c:Ex):TE:=λσ H Q=>∃ρ S τ,Rel X.K ρ H S/\SR X.K ρ H τ σ/\(c τ S).post (zV X ρ H Q) (XE X ρ H)
abbrev tT (X:Cx)(c:Te):TT:=λσ H Q=>∃ρ S τ,Rel X.K ρ H S/\SR X.K ρ H τ σ/\(c τ S).post (ZT X ρ H Q) (XE X ρ H)
abbrev tL (X:Cx)(c:qc):TA:=λσ H Q=>∃ρ S τ,Rel X.K ρ H S/\SR X.K ρ H τ σ/\(c τ S).post (okL X ρ H Q) (XE X ρ H)
abbrev AE (X:Cx)(e:aC)(c:Ex):Prop:=PE X e (tE X c)
abbrev AT (X:Cx)(e:aC)(c:Te):Prop:=PT X e (tT X c)
abbrev AW (X:Cx)(e:aC)(c:Te):Prop:=PW X e (tT X c)
abbrev AL (X:Cx)(es:List aC)(c:qc):Prop:=PA X es (tL X c)
def PE.imp{X:Cx}{t t':TE}(h:PE X e t)(i:∀σ H Q,t' σ H Q->t σ H Q):PE X e t':=λpins s σ H Q I q=>h pins s σ H Q I (i σ H Q q)
def PT.imp{X:Cx}{t t':TT}(h:PT X e t)(i:∀σ H Q,t' σ H Q->t σ H Q):PT X e t':=λpins s σ H Q I q=>h pins s σ H Q I (i σ H Q q)
def PW.imp{X:Cx}{t t':TT}(h:PW X e t)(i:∀σ H Q,t' σ H Q->t σ H Q):PW X e t':=λw pins s σ H Q I q=>h w pins s σ H Q I (i σ H Q q)
def PA.imp{X:Cx}{t t':TA}(h:PA X e t)(i:∀σ H Q,t' σ H Q->t σ H Q):PA X e t':=λp pins s σ H Q I q=>h p pins s σ H Q I (i σ H Q q)
def AW.at{X:Cx}{c:Te}(h:AW X e c):AT X e c:=h _
abbrev A.p5:A->Bool
 | .unb=>true
 | _=>false
abbrev jB (i:Nat):Ex:=λτ S=>if (τ.getD i .unb).p5 then .no else .ok (τ.getD i .unb) S
abbrev eC (a:A):Ex:=λ_ S=>.ok a S
section
variable {X:Cx}{pos:Pos}{a b:aC}
def jz(i:Nat){x:Str}(hN:X.N[i]?=some x:=by rfl)(hv:Zx X.env.scope x:=by first|exact Or.inl rfl|exact Or.inr (Or.inl rfl)|exact Or.inr (Or.inr rfl))(hd:(x == ("__debug__" : Str))=false:=by decide)
  (hcd:(x == ("__classdict__" : Str))=false:=by decide):AE X (.Name x pos) (jB i):=PE.imp (NL hN hv hd hcd) λσ H Q h9=>by
 room;unfold jB at h
 cases hi:τ[i]? with
 | none=>
  rw[aJ,hi]at h;exact h.elim
 | some x=>
  rw[aJ,hi]at h
  rcases r.at i x hi with z|⟨v,e,q⟩
  ·subst z;exact h.elim
  ·refine⟨v,e,?_⟩
   cases x<;>first|(exact h ρ H v .refl R q)|exact h.elim
def jD{i:Int}{j pos}:AE X (.Constant (.int i) j pos) (eC (.int i)):=PE.imp VQ λσ H Q ⟨ρ,S,τ,R,r,h⟩=>h ρ H _ .refl R (.int i)
def xg{j pos}:AE X (.Constant (.bool i) j pos) (eC (.bl i)):=PE.imp Zs λσ H Q ⟨ρ,S,τ,R,r,h⟩=>h ρ H _ .refl R (.bl i)
def r6{x:Str}{j pos}:AE X (.Constant (.str x) j pos) (eC (.str x)):=PE.imp Wj λσ H Q ⟨ρ,S,τ,R,r,h⟩=>h ρ H _ .refl R (.str x)
abbrev jI (f:A->A->jE->R A)(ca cb:Ex):Ex:=λτ S=>(ca τ S).bind λa S1=>(cb τ S1).bind λb S2=>f a b S2
abbrev r2 (X:Cx)(f:A->A->jE->R A):R2:=λx y H Q=>∃ρ S a b,Rel X.K ρ H S/\AV X.K ρ H a x/\AV X.K ρ H b y/\(f a b S).post (zV X ρ H Q) (XE X ρ H)
abbrev r1 (X:Cx)(f:A->jE->R A):V->Hp->VK->Prop:=λx H Q=>∃ρ S a,Rel X.K ρ H S/\AV X.K ρ H a x/\(f a S).post (zV X ρ H Q) (XE X ρ H)
abbrev rN (X:Cx)(f:ae->jE->R A):List V->Hp->VK->Prop:=λxs H Q=>∃ρ S as,Rel X.K ρ H S/\AVs X.K ρ H as xs/\(f as S).post (zV X ρ H Q) (XE X ρ H)
def oE.imp{f:af->af->Sem af}{r r':R2}(h:oE X f r)(i:∀x y H Q,r' x y H Q->r x y H Q):oE X f r':=λpins s σ H x y v u Q I rx ry q=>h pins s σ H x y v u Q I rx ry (i _ _ _ _ q)
def kg.imp{f:af}{r r':List V->Hp->VK->Prop}(h:kg X f r)(i:∀x H Q,r' x H Q->r x H Q):kg X f r':=λpins s σ H x v Q I rx q=>h pins s σ H x v Q I rx (i _ _ _ q)
def t8{f:A->A->jE->R A}{ca cb:Ex}{H:Hp}{Q:VK}(h:tE X (jI f ca cb) σ H Q):YD (r2 X f) (tE X ca) (tE X cb) σ H Q:=by
 kpc_g;refine⟨ρ,S,τ,R,r,jG (jK h) .refl λa S1 h1 ρ1 H1 x e1 R1 v1=>⟨ρ1,S1,τ,R1,r.ext e1,jG (jK h1) e1 λb S2 h2 ρ2 H2 y e2 R2 v2=>?_⟩⟩;exact⟨ρ2,S2,a,b,R2,v1.ext e2,v2,jG h2 (e1.trans e2) λc S3 h3=>h3.ext (e1.trans e2)⟩
def jR{f:A->A->jE->R A}{ca cb:Ex}(ho:oE X (binaryOp op) (r2 X f))(ha:AE X a ca)(hb:AE X b cb):AE X (.BinOp a op b pos) (jI f ca cb):=
 PE.imp (Yp ho ha hb) λσ H Q h=>t8 h
def wY{op:CmpOp}{f:A->A->jE->R A}{ca cb:Ex}(ho:oE X (compareOp op) (r2 X f))(ha:AE X a ca)(hb:AE X b cb)(hm:behindInMarks op b=false:=by first|exact Nh _|with_unfolding_all rfl):AE X (.Compare a [op] [b] pos) (jI f ca cb):=
 PE.imp (QH ho ha hb hm) λσ H Q h=>t8 h
abbrev A.Vx:A->jE->bj
 | .non,_=>some false
 | .bl b,_=>some b
 | .int i,_=>some (i != 0)
 | .str x,_=>if x.length<=sizeLine then some ((x.length:Int) != 0)else none
 | .tup xs,_=>some (!xs.isEmpty)
 | .frz xs,_=>some (!xs.isEmpty)
 | .ref n,S=>(jC S n).map λxs=>!xs.isEmpty
 | _,_=>none
abbrev ug (c:Ex):Te:=λτ S=>(c τ S).bind λa S1=>opt (a.Vx S1) λb=>.ok b S1
abbrev xr (c:Ex):Te:=λτ S=>(c τ S).bind λa S1=>match a with
 | .bl b=>.ok b S1
 | _=>.no
def C5{K:au}{H:Hp}{b:Bool}{v:V}(h:AV K ρ H (.bl b) v):v=.bl b:=by cases h;rfl
def mH{op:CmpOp}{f:A->A->jE->R A}{ca cb:Ex}(ho:oE X (compareOp op) (r2 X f))(ha:AE X a ca)(hb:AE X b cb)(hm:behindInMarks op b=false:=by first|exact Nh _|with_unfolding_all rfl):AT X (.Compare a [op] [b] pos) (xr (jI f ca cb)):=
 PT.imp (QE ho ha hb hm) λσ H Q h9=>by
  room;refine t8 ⟨ρ,S,τ,R,r,jG (jK h) .refl λc S1 h1 ρ1 H1 x e1 R1 v1=>?_⟩
  cases c with
  | bl k=>cases C5 v1;exact⟨k,rfl,h1 ρ1 H1 e1 R1⟩
  | _=>exact h1.elim
def WG{K:au}{H:Hp}{x:A}{v:V}{b:Bool}(R:Rel K ρ H S)(h:AV K ρ H x v)(e:x.Vx S=some b):Vg K v H b:=by
 have emp:∀{xs:ae} {vs:List V},AVs K ρ H xs vs->(!xs.isEmpty)=!vs.isEmpty:=λr=>by cases r<;>rfl
 cases h with
 | non=>exact(aW e).symm
 | bl b=>exact(aW e).symm
 | int i=>exact(aW e).symm
 | str x=>
  by_cases hx:x.length<=sizeLine
  ·exact⟨hx,by have:=(aK hx).symm.trans e;exact(aW this).symm⟩
  ·have:=(aI hx).symm.trans e;cases this
 | tup h r=>exact .inr (.inl ⟨_,mO.of h,by rw[<- emp r];exact(aW e).symm⟩)
 | frz h r=>exact .inl ⟨_,h.Qv,by rw[<- emp r];exact(aW e).symm⟩
 | rng h=>cases e
 | ty n=>cases e
 | exn n h x=>cases e
 | ktu h r=>cases e
 | @ref a n h=>
  have e:(jC S n).map (λxs=>!xs.isEmpty)=some b:=e;obtain⟨xs,hn,e⟩:=a_.mp e;obtain⟨vs,h1,h2⟩:=R.lst h (jT hn);exact .inl ⟨vs,qa.of h1,by rw[<- emp h2];exact e.symm⟩
def rO{ca:Ex}(ha:AE X a ca)(he:∀whole,isTrue a X.env whole=(do let v <- whole;standAt a.pos;holding [v] (truthy v)):=by intro _;rfl):AT X a (ug ca):=
 PT.imp (MI ha he) λσ H Q ⟨ρ,S,τ,R,r,h⟩=>⟨ρ,S,τ,R,r,jG (jK h) .refl λc S1 h1 ρ1 H1 x e1 R1 v1=>by
  obtain⟨b,hb,h1⟩:=jO h1;exact⟨b,WG R1 v1 hb,h1 ρ1 H1 e1 R1⟩⟩
abbrev zG (c:Te):Te:=λτ S=>(c τ S).bind λb S1=>.ok (!b) S1
abbrev RV (c d:Te):Te:=λτ S=>(c τ S).bind λb S1=>match b with|true=>d τ S1|false=>.ok false S1
abbrev WE (c d:Te):Te:=λτ S=>(c τ S).bind λb S1=>match b with|true=>.ok true S1|false=>d τ S1
def zL{c:Te}(h:AT X a c):AT X (.UnaryOp .Not a pos) (zG c):=PT.imp (V1 h) λσ H Q ⟨ρ,S,τ,R,r,h⟩=>⟨ρ,S,τ,R,r,jG (jK h) .refl λb S1 h1=>h1⟩
def and_imp{c d:Te}{H:Hp}{Q:Bool->Hp->Prop}(h:tT X (RV c d) σ H Q):Yx (tT X c) (tT X d) σ H Q:=by
 kpc_g;refine⟨ρ,S,τ,R,r,jG (jK h) .refl λb S1 h1 ρ1 H1 e1 R1=>?_⟩
 cases b with
 | true=>
  rw[aK rfl];exact⟨ρ1,S1,τ,R1,r.ext e1,jG h1 e1 λ_ _ z=>z.ext e1⟩
 | false=>
  rw[aI bG];exact h1 ρ1 H1 e1 R1
def or_imp{c d:Te}{H:Hp}{Q:Bool->Hp->Prop}(h:tT X (WE c d) σ H Q):tOr (tT X c) (tT X d) σ H Q:=by
 kpc_g;refine⟨ρ,S,τ,R,r,jG (jK h) .refl λb S1 h1 ρ1 H1 e1 R1=>?_⟩
 cases b with
 | false=>
  rw[aI bG];exact⟨ρ1,S1,τ,R1,r.ext e1,jG h1 e1 λ_ _ z=>z.ext e1⟩
 | true=>
  rw[aK rfl];exact h1 ρ1 H1 e1 R1
variable {rest:List aC}
def QZ{c:Te}(h:AT X a c):AW X (.BoolOp .And [a] pos) c:=Qx h
def OI{c:Te}(h:AT X a c):AW X (.BoolOp .Or [a] pos) c:=V8 h
def Wq{c d:Te}(h:AT X a c)(h2:AW X (.BoolOp .And (b::rest) pos) d):AW X (.BoolOp .And (a::b::rest) pos) (RV c d):=PW.imp (Wk h h2) λ_ _ _ q=>and_imp q
def Tv{c d:Te}(h:AT X a c)(h2:AW X (.BoolOp .Or (b::rest) pos) d):AW X (.BoolOp .Or (a::b::rest) pos) (WE c d):=PW.imp (YB h h2) λ_ _ _ q=>or_imp q
abbrev Ka (c d:Ex):Ex:=λτ S=>(c τ S).bind λa S1=>match a with | .bl true=>d τ S1 | .bl false=>.ok (.bl false) S1|_=>.no
abbrev eOr (c d:Ex):Ex:=λτ S=>(c τ S).bind λa S1=>match a with | .bl true=>.ok (.bl true) S1 | .bl false=>d τ S1|_=>.no
abbrev Ve (c:Ex):Ex:=λτ S=>(c τ S).bind λa S1=>match a with | .bl b=>.ok (.bl !b) S1|_=>.no
def Gn{op}{c:Ex}(h:AE X a c):AE X (.BoolOp op [a] pos) c:=WK h
def FJ{c d:Ex}(h:AE X a c)(h2:AE X (.BoolOp .And (b::rest) pos) d):AE X (.BoolOp .And (a::b::rest) pos) (Ka c d):=PE.imp (VN h h2) λσ H Q h9=>by
 room;refine⟨ρ,S,τ,R,r,jG (jK h) .refl λb S1 h1 ρ1 H1 x e1 R1 v1=>?_⟩
 cases b with
 | bl k=>
  cases C5 v1
  refine⟨k,rfl,?_⟩
  cases k with
  | true=>
   rw[aK rfl];exact⟨ρ1,S1,τ,R1,r.ext e1,jG h1 e1 λ_ _ z=>z.ext e1⟩
  | false=>
   rw[aI bG];exact h1 ρ1 H1 _ e1 R1 (.bl false)
 | _=>exact h1.elim
def W5{c:Ex}(h:AE X a c):AE X (.UnaryOp .Not a pos) (Ve c):=PE.imp (W2 h) λσ H Q h9=>by
 room;refine⟨ρ,S,τ,R,r,jG (jK h) .refl λb S1 h1 ρ1 H1 x e1 R1 v1=>?_⟩
 cases b with
 | bl k=>
  cases C5 v1
  exact⟨k,rfl,h1 ρ1 H1 _ e1 R1 (.bl _)⟩
 | _=>exact h1.elim
abbrev eIf (t:Te)(c d:Ex):Ex:=λτ S=>(t τ S).bind λb S1=>match b with|true=>c τ S1|false=>d τ S1
abbrev jF:qc:=λ_ S=>.ok [] S
abbrev jy (c:Ex)(d:qc):qc:=λτ S=>(c τ S).bind λa S1=>(d τ S1).bind λas S2=>.ok (a::as) S2
def jJ:AL X [] jF:=PA.imp wA λσ H Q ⟨ρ,S,τ,R,r,h⟩=>h ρ H _ .refl R .nil
def jA{c:Ex}{d:qc}(ha:AE X e c)(hr:AL X es d)(hs:starEach (e::es) X.env=(false,eval e X.env)::starEach es X.env:=by rfl):AL X (e::es) (jy c d):=
 PA.imp (qk ha hr hs) λσ H Q h9=>by
  room;refine⟨ρ,S,τ,R,r,jG (jK h) .refl λa S1 h1 ρ1 H1 x e1 R1 v1=>⟨ρ1,S1,τ,R1,r.ext e1,jG (jK h1) e1 λas S2 h2 ρ2 H2 xs e2 R2 v2=>?_⟩⟩;exact h2 ρ2 H2 _ (e1.trans e2) R2 (.cons (v1.ext e2) v2)
abbrev oz (d:qc):Ex:=λτ S=>(d τ S).bind λas S1=>gd (as.length<=sizeLine) (.ok (.tup as) S1)
abbrev newL (as:ae)(S:jE):R A:=gd (as.length<=sizeLine) (.ok (.ref S.length) (S++[.lst as]))
abbrev mZ (d:qc):Ex:=λτ S=>(d τ S).bind λas S1=>newL as S1
def t7{H H0:Hp}{Q:VK}(R:Rel X.K ρ H S)(r:AVs X.K ρ H as vs)(e:Ext ρ0 ρ H0 H)(h:zV X ρ0 H0 Q (.tup as) S):∀p,H p=none->Q (.ref p) (upd H p (.tup vs)):=λp hp=>by
 obtain⟨ex,R'⟩:=R.im (u:=.tup vs) hp;exact h ρ _ _ (e.trans ex) R' (.tup ko (r.ext ex))
def m8{H H0:Hp}{S:jE}{Q:VK}(R:Rel X.K ρ H S)(r:AVs X.K ρ H as vs)(e:Ext ρ0 ρ H0 H)(h:zV X ρ0 H0 Q (.ref S.length) (S++[.lst as])):∀p,H p=none->Q (.ref p) (upd H p (.lst vs)):=λp hp=>by
 obtain⟨ex,R',g⟩:=R.lay hp r;exact h _ _ _ (e.trans ex) R' (.ref g)
def QV{H H0:Hp}{vs:List V}{Q:VK}(R:Rel X.K ρ H S)(r:AVs X.K ρ H as vs)(e:Ext ρ0 ρ H0 H)(h:(newL as S).post (zV X ρ0 H0 Q) (XE X ρ0 H0)):vs.length<=sizeLine/\∀p,H p=none->Q (.ref p) (upd H p (.lst vs)):=by
 obtain⟨hl,h⟩:=j3 h;exact⟨by rw[<- r.length];exact hl,m8 R r e h⟩
def nE{d:qc}{x1}(h:AL X es d):AE X (.Tuple es x1 pos) (oz d):=PE.imp (U8 h) λσ H Q h9=>by
 room;refine⟨ρ,S,τ,R,r,jG (jK h) .refl λas S1 h1 ρ1 H1 xs e1 R1 v1=>?_⟩;obtain⟨hl,h1⟩:=j3 h1;exact⟨by rw[<- v1.length];exact hl,t7 R1 v1 e1 h1⟩
def lD{d:qc}(h:AL X es d):AE X (.List es pos) (mZ d):=PE.imp (VG h) λσ H Q ⟨ρ,S,τ,R,r,h⟩=>
 ⟨ρ,S,τ,R,r,jG (jK h) .refl λas S1 h1 ρ1 H1 xs e1 R1 v1=>QV R1 v1 e1 h1⟩
end
section
variable {X:Cx}{pos:Pos}{a b:aC}
abbrev aSub (a b:A)(S:jE):R A:=match a,b with
 | .int i,.int j=>.ok (.int (i-j)) S
 | _,_=>.no
def o8:oE X (binaryOp .Sub) (r2 X aSub):=oE.imp Xp λx y H Q h9=>by
 x_go
 cases va<;>first|exact h.elim|(cases vb<;>first|exact h.elim|exact⟨_,_,rfl,rfl,h _ _ _ .refl R (.int _)⟩)
abbrev Ii (i j:Int):Bool:=(decide (-(2 ^ 64)<i) && decide (i<2 ^ 64)) || (decide (-(2 ^ 64)<j) && decide (j<2 ^ 64))
def mulOk_of{i j:Int}(h:Ii i j=true):Rf i j:=by
 unfold Ii at h;dsimp[Bool.or_eq_true,bZ,decide_eq_true_eq]at h;exact h
abbrev Bw (a b:A)(S:jE):R A:=match a,b with
 | .int i,.int j=>gd (Ii i j) (.ok (.int (i * j)) S)
 | .ref n,.int k=>opt (jC S n) λxs=>gd (-(2 ^ 63)<=k/\k<2 ^ 63/\xs.length * k.toNat<=sizeLine) (.ok (.ref S.length) (S++[.lst (List.replicate k.toNat xs).flatten]))
 | _,_=>.no
theorem AVs.rep{K:au}{H:Hp}(r:AVs K ρ H xs vs):∀k:Nat,AVs K ρ H (List.replicate k xs).flatten (List.replicate k vs).flatten
 | 0=>.nil
 | k+1=>by rw[c9,c9,dS,dS];exact r.append (AVs.rep r k)
def G6:oE X (binaryOp .Mult) (r2 X Bw):=λpins s σ H x y v u Q I rx ry h9=>by
 x_go
 cases va with
 | int i=>
  cases vb with
  | int j=>
   obtain⟨hm,h⟩:=j3 h;exact Xb pins s σ H _ _ v u Q I rx ry ⟨i,j,rfl,rfl,mulOk_of hm,h _ _ _ .refl R (.int _)⟩
  | _=>exact h.elim
 | @ref p n hp=>
  cases vb with
  | int k=>
   kj_on;obtain⟨hc,h⟩:=j3 h;obtain⟨vs,h1,h2⟩:=R.lst hp (jT hn);exact VY pins s σ H _ _ v u Q I rx ry ⟨p,k,vs,rfl,rfl,h1,hc.1,hc.2.1,by rw[<- h2.length];exact hc.2.2,m8 R (h2.rep _) .refl h⟩
  | _=>exact h.elim
 | _=>exact h.elim
abbrev G8 (a b:A)(S:jE):R A:=match a,b with
 | .int i,.int j=>gd (0<j/\j<18446744073709551616) (.ok (.int (i / j)) S)
 | _,_=>.no
def PU:oE X (binaryOp .FloorDiv) (r2 X G8):=oE.imp Pn λx y H Q h9=>by
 x_go
 cases va<;>first|exact h.elim|(cases vb<;>first|exact h.elim|exact⟨_,_,rfl,rfl,(j3 h).1,(j3 h).2 _ _ _ .refl R (.int _)⟩)
abbrev ym (a b:A)(S:jE):R A:=match a,b with
 | .int i,.int j=>gd (0<j) (.ok (.int (i % j)) S)
 | _,_=>.no
def AH:oE X (binaryOp .Mod) (r2 X ym):=oE.imp Vr λx y H Q h9=>by
 x_go
 cases va<;>first|exact h.elim|(cases vb<;>first|exact h.elim|exact⟨_,_,rfl,rfl,(j3 h).1,(j3 h).2 _ _ _ .refl R (.int _)⟩)
abbrev GJ (a b:A)(S:jE):R A:=match a,b with
 | .int i,.int j=>gd (0<=j/\j<=1000000/\i.natAbs<2 ^ 64) (.ok (.int (i ^ j.toNat)) S)
 | _,_=>.no
def Ua:oE X (binaryOp .Pow) (r2 X GJ):=oE.imp VX λx y H Q h9=>by
 x_go
 cases va<;>first|exact h.elim|(cases vb<;>first|exact h.elim|exact⟨_,_,rfl,rfl,(j3 h).1,(j3 h).2 _ _ _ .refl R (.int _)⟩)
abbrev lg (a b:A)(S:jE):R A:=match a,b with
 | .int i,.int j=>.ok (.int (i+j)) S
 | .tup xs,.tup ys=>gd (xs.length+ys.length<=sizeLine) (.ok (.tup (xs++ys)) S)
 | .str x,.str y=>gd (x.length+y.length<=sizeLine) (.ok (.str (x++y)) S)
 | .ref n,.ref m=>opt (jC S n) λxs=>opt (jC S m) λys=>gd (xs.length+ys.length<=sizeLine) (.ok (.ref S.length) (S++[.lst (xs++ys)]))
 | _,_=>.no
def AVs.nil_inv{K:au}{H:Hp}(r:AVs K ρ H xs vs):xs=[] ↔ vs=[]:=by cases r<;>simp
def lO:oE X (binaryOp .Add) (r2 X lg):=λpins s σ H x y v u Q I rx ry h9=>by
 x_go
 cases va with
 | int i=>
  cases vb with
  | int j=>exact VF pins s σ H _ _ v u Q I rx ry ⟨i,j,rfl,rfl,h _ _ _ .refl R (.int _)⟩
  | _=>exact h.elim
 | str x=>
  cases vb with
  | str y=>
   obtain⟨hc,h⟩:=j3 h;exact GA pins s σ H _ _ v u Q I rx ry ⟨x,y,rfl,rfl,hc,h _ _ _ .refl R (.str _)⟩
  | _=>exact h.elim
 | @tup p xs vs h1 r1=>
  cases vb with
  | @tup q ys ws h2 r2=>
   obtain⟨hc,h⟩:=j3 h;by_cases hv:vs=[]
   ·have hx:=r1.nil_inv.mpr hv;subst hv hx;exact Qa pins s σ H _ _ v u Q I rx ry ⟨p,q,ws,rfl,rfl,mO.of h1,mO.of h2,h _ _ _ .refl R (.tup h2 r2)⟩
   ·refine Q3 pins s σ H _ _ v u Q I rx ry ⟨p,q,vs,ws,rfl,rfl,mO.of h1,mO.of h2,hv,by rw[<- r1.length,<- r2.length];exact hc,λe=>?_,λ_=>t7 R (r1.append r2) .refl h⟩;have hy:=r2.nil_inv.mpr e;subst hy;rw[bU]at h;exact h _ _ _ .refl R (.tup h1 r1)
  | _=>exact h.elim
 | @ref p n hp=>
  cases vb with
  | @ref q m hq=>
   kj_on;obtain⟨ys,hm,h⟩:=jO h;obtain⟨hc,h⟩:=j3 h;obtain⟨vs,h1,h2⟩:=R.lst hp (jT hn);obtain⟨ws,h3,h4⟩:=R.lst hq (jT hm);exact Vc pins s σ H _ _ v u Q I rx ry ⟨p,q,vs,ws,rfl,rfl,h1,h3,by rw[<- h2.length,<- h4.length];exact hc,m8 R (h2.append h4) .refl h⟩
  | _=>exact h.elim
 | _=>exact h.elim
abbrev A.ints:ae->Option (ag)
 | []=>some []
 | .int i::xs=>(A.ints xs).map (i::·)
 | _=>none
theorem xM{K:au}{H:Hp}:∀{xs:ae}{vs:List V}{bs:ag},AVs K ρ H xs vs->A.ints xs=some bs->vs=bs.map V.int
 | _,_,_,.nil,e=>by cases e;rfl
 | _,_,_,.cons (x:=.int b) h t,e=>by
  obtain⟨cs,e1,rfl⟩:=a_.mp e
  cases h
  rw[xM t e1];rfl
 | _,_,_,.cons (x:=.unb) h t,e=>nomatch e
 | _,_,_,.cons (x:=.non) h t,e=>nomatch e
 | _,_,_,.cons (x:=.bl _) h t,e=>nomatch e
 | _,_,_,.cons (x:=.str _) h t,e=>nomatch e
 | _,_,_,.cons (x:=.tup _) h t,e=>nomatch e
 | _,_,_,.cons (x:=.frz _) h t,e=>nomatch e
 | _,_,_,.cons (x:=.rng _ _) h t,e=>nomatch e
 | _,_,_,.cons (x:=.ref _) h t,e=>nomatch e
 | _,_,_,.cons (x:=.exn _) h t,e=>nomatch e
 | _,_,_,.cons (x:=.ty _) h t,e=>nomatch e
abbrev Y_ (a b:A)(S:jE):R A:=match a,b with
 | .int i,.int j=>.ok (.bl (decide (i<j))) S
 | _,_=>.no
def Yv(hu:X.A.units+64<cLine):oE X (compareOp .Lt) (r2 X Y_):=λpins s σ H x y v u Q I rx ry h9=>by
 x_go
 cases va with
 | int i=>
  cases vb with
  | int j=>exact Zh pins s σ H _ _ v u Q I rx ry ⟨i,j,rfl,rfl,h _ _ _ .refl R (.bl _)⟩
  | _=>exact h.elim
 | _=>exact h.elim
abbrev ZX (a b:A)(S:jE):R A:=match a,b with
 | .int i,.int j=>.ok (.bl (decide (i<=j))) S
 | _,_=>.no
def aaR:oE X (compareOp .LtE) (r2 X ZX):=oE.imp XX λx y H Q h9=>by
 x_go
 cases va<;>first|exact h.elim|(cases vb<;>first|exact h.elim|exact⟨_,_,rfl,rfl,h _ _ _ .refl R (.bl _)⟩)
abbrev UA (a b:A)(S:jE):R A:=match a,b with
 | .int i,.int j=>.ok (.bl (decide (j<i))) S
 | _,_=>.no
def N7(hu:X.A.units+64<cLine):oE X (compareOp .Gt) (r2 X UA):=λpins s σ H x y v u Q I rx ry h9=>by
 x_go
 cases va with
 | int i=>
  cases vb with
  | int j=>exact Zl pins s σ H _ _ v u Q I rx ry ⟨i,j,rfl,rfl,h _ _ _ .refl R (.bl _)⟩
  | _=>exact h.elim
 | _=>exact h.elim
abbrev XY (a b:A)(S:jE):R A:=match a,b with
 | .int i,.int j=>.ok (.bl (decide (j<=i))) S
 | _,_=>.no
def YU:oE X (compareOp .GtE) (r2 X XY):=oE.imp Y5 λx y H Q h9=>by
 x_go
 cases va<;>first|exact h.elim|(cases vb<;>first|exact h.elim|exact⟨_,_,rfl,rfl,h _ _ _ .refl R (.bl _)⟩)
abbrev U0 (neg:Bool)(a b:A)(S:jE):R A:=match a,b with
 | .bl i,.bl j=>.ok (.bl (if neg then i != j else i == j)) S
 | .non,.non=>.ok (.bl (!neg)) S
 | .unb,.non=>.no
 | .exn _,.non=>.no
 | _,.non=>.ok (.bl neg) S
 | _,_=>.no
abbrev QD (f:A->jE->R A)(c:Ex):Ex:=λτ S=>(c τ S).bind λa S1=>f a S1
abbrev Ce (a:A)(S:jE):R A:=match a with
 | .int i=>.ok (.int (-i)) S
 | _=>.no
def Zb:ZP X (unaryOp .USub) (r1 X Ce):=λpins s σ H x v Q I rx h9=>by
 obtain⟨ρ,S,a,R,va,h⟩:=h9
 cases va with
 | int i=>exact VR pins s σ H _ v Q I rx ⟨i,rfl,h _ _ _ .refl R (.int _)⟩
 | _=>exact h.elim
def Xd{f:A->jE->R A}{c:Ex}{H:Hp}{Q:VK}(h:tE X (QD f c) σ H Q):tUn (r1 X f) (tE X c) σ H Q:=by
 kpc_g;exact⟨ρ,S,τ,R,r,jG (jK h) .refl λa S1 h1 ρ1 H1 x e1 R1 v1=>⟨ρ1,S1,a,R1,v1,jG h1 e1 λc S3 h3=>h3.ext e1⟩⟩
def Gk{c:Ex}(h:AE X a c):AE X (.UnaryOp .USub a pos) (QD Ce c):=PE.imp (ZD Zb h) λ_ _ _ q=>Xd q
abbrev oh (a b:A)(S:jE):R A:=match a,b with
 | .tup xs,.int i=>opt (rA xs i) λx=>.ok x S
 | .frz xs,.int i=>opt (rA xs i) λx=>.ok x S
 | .ref n,.int i=>opt (jC S n) λxs=>opt (rA xs i) λx=>.ok x S
 | .str z,.int i=>gd (z.length<=sizeLine) (opt (rA z.cps.toList i) λc=>.ok (.str ⟨#[c]⟩) S)
 | _,_=>.no
def AVs.rA{K:au}{H:Hp}{i:Int}{x:A}(r:AVs K ρ H xs vs)(h:L2.rA xs i=some x):∃v,L2.rA vs i=some v/\AV K ρ H x v:=by
 unfold L2.rA at h ⊢;rw[<- r.length]
 cases hj:Er xs.length i with
 | none=>rw[hj]at h;cases h
 | some j=>
  rw[hj]at h;exact r.get h
def YO:Tr X (r2 X oh):=λvalue slice pins s σ H x y v u Q I rx ry ⟨ρ,S,a,b,R,va,vb,h⟩ hs=>by
 cases va with
 | @tup p xs vs h1 r1=>
  cases vb with
  | int i=>
   obtain⟨x,hx,h⟩:=jO h;obtain⟨z,e,q⟩:=r1.rA hx;exact WB value slice pins s σ H _ _ v u Q I rx ry ⟨p,vs,i,z,rfl,rfl,mO.of h1,e,h _ _ _ .refl R q⟩ hs
  | _=>exact h.elim
 | @frz p xs vs h1 r1=>
  cases vb with
  | int i=>
   obtain⟨x,hx,h⟩:=jO h;obtain⟨z,e,q⟩:=r1.rA hx;exact Ji value slice pins s σ H _ _ v u Q I rx ry ⟨p,vs,i,z,rfl,rfl,h1.Qv,e,h _ _ _ .refl R q⟩ hs
  | _=>exact h.elim
 | @ref p n hp=>
  cases vb with
  | int i=>
   kj_on;obtain⟨x,hx,h⟩:=jO h;obtain⟨vs,h1,r1⟩:=R.lst hp (jT hn);obtain⟨z,e,q⟩:=r1.rA hx;exact Ji value slice pins s σ H _ _ v u Q I rx ry ⟨p,vs,i,z,rfl,rfl,qa.of h1,e,h _ _ _ .refl R q⟩ hs
  | _=>exact h.elim
 | str z=>
  cases vb with
  | int i=>
   obtain⟨hz,h⟩:=j3 h;obtain⟨c,hc,h⟩:=jO h;exact W_ value slice pins s σ H _ _ v u Q I rx ry ⟨z,i,c,rfl,rfl,hz,hc,h _ _ _ .refl R (.str _)⟩ hs
  | _=>exact h.elim
 | _=>exact h.elim
def k_{ca cb:Ex}(ha:AE X a ca)(hb:AE X b cb)(hs:xQ b:=by exact λ_ _=>rfl):AE X (.Subscript a b pos) (jI oh ca cb):=PE.imp (Nt YO ha hb hs) λσ H Q h=>t8 h
end
abbrev rB (f:A->A->bj):ae->ae->bj
 | [],[]=>some true
 | x::xs,y::ys=>(f x y).bind λp=>(rB f xs ys).map λq=>p && q
 | _,_=>some false
inductive Sh
 | non
 | bl (b:Bool)
 | int (i:Int)
 | str (x:Str)
 | tup (xs:ae)
 | lst
abbrev WD (S:jE):A->Option Sh
 | .non=>some .non
 | .bl b=>some (.bl b)
 | .int i=>some (.int i)
 | .str x=>some (.str x)
 | .tup xs=>some (.tup xs)
 | .ref i=>(jC S i).map λ_=>.lst
 | _=>none
abbrev Qz (f:A->A->bj):Sh->Sh->bj
 | .non,.non=>some true
 | .bl x,.bl y=>some (x == y)
 | .bl x,.int y=>some ((if x then 1 else 0) == y)
 | .int x,.bl y=>some (x == (if y then 1 else 0))
 | .int x,.int y=>some (x == y)
 | .str x,.str y=>some (x == y)
 | .tup xs,.tup ys=>rB f xs ys
 | .lst,.lst=>none
 | _,_=>some false
abbrev se (S:jE):Nat->A->A->bj
 | 0,_,_=>none
 | n+1,a,b=>match a,b with
  | .ref i,.ref j=>(jC S i).bind λxs=>(jC S j).bind λys=>rB (se S n) xs ys
  | _,_=>(WD S a).bind λx=>(WD S b).bind λy=>Qz (se S n) x y
section
variable {X:Cx}{pins:bv}{σ:L2.St}{H:Hp}{s:aA}{ρ:bb}{S:jE}
inductive KdV (s:aA):Sh->af->Prop
 | non:KdV s .non .none
 | bl (b:Bool):KdV s (.bl b) (.bool b)
 | int (i:Int) (t:Tok):KdV s (.int i) (.int i t)
 | str (x:Str) (t:Tok):KdV s (.str x) (.str x t)
 | tup {p:ak} {us:ba} (xs:ae) (h:s.heap.IsTuple p us.toArray):KdV s (.tup xs) (.ref p)
 | lst {p:ak} {us:ba} (h:s.heap.IsList p us.toArray):KdV s .lst (.ref p)
def GQ{p:ak}(h:s.heap.IsTuple p us)(h':s.heap.IsList p ws):False:=by
 obtain⟨o,e,c,_⟩:=h;obtain⟨o',e',c',_⟩:=h';rw[e]at e'
 cases e'
 exact absurd (c.symm.trans c') ⋯
def Jq(I:Inv X pins σ H s)(R:Rel X.K ρ H S){a:A}{x:V}(ha:AV X.K ρ H a x)(r:RelV x u)(e:WD S a=some h):KdV s h u:=by
 cases ha with
 | non=>cases e;cases(show u=Value.none from r);exact .non
 | bl b=>cases e;cases(show u=Value.bool b from r);exact .bl b
 | int i=>cases e;obtain⟨t,rfl⟩:∃t,u=Value.int i t:=r;exact .int i t
 | str i=>cases e;obtain⟨t,rfl⟩:∃t,u=Value.str i t:=r;exact .str i t
 | tup h1 r1=>cases e;cases(show u=Value.ref _ from r);obtain⟨us,_,p,_⟩:=I.tuple (mO.of h1);exact .tup _ p
 | ref h1=>
  obtain⟨xs,e1,rfl⟩:=a_.mp e
  cases(show u=Value.ref _ from r)
  obtain⟨vs,h3,r1⟩:=R.lst h1 (jT e1);obtain⟨us,_,p,_⟩:=I.list (qa.of h3);exact .lst p.isList
 | _=>cases e
abbrev Al (B:az)(s:aA)(u v:af)(k:Bool):Prop:=SeqAt.RcAt B s u v k/\SeqAt.EqAt B s u v k/\SeqAt.RcNeAt B s u v (!k)
def Yy{B:az}(hu:B.units<cLine){f:A->A->bj}{v:af}{k:Bool}(d:KdV s h u)(d':KdV s h' v)(nt:∀xs ys,h=.tup xs->h'≠.tup ys)(e:Qz f h h'=some k):Al B s u v k:=by
 cases d with
 | non=>cases d' with
  | non=>cases e;exact⟨.none_none,.same _,.none_none⟩
  | bl b=>cases e;exact⟨.none_bool _,.none_bool _,.none_bool _⟩
  | int i t=>cases e;exact⟨.none_int _ _,.none_int _ _,.none_int _ _⟩
  | str x t=>cases e;exact⟨.none_str _ _,.none_str _ _,.none_str _ _⟩
  | tup xs p=>cases e;exact⟨.none_tuple p hu,.none_tuple p hu,.none_tuple p hu⟩
  | lst p=>cases e;exact⟨.none_list p hu,.none_list p hu,.none_list p hu⟩
 | bl c=>cases d' with
  | non=>cases e;exact⟨.bool_none _,.bool_none _,.bool_none _⟩
  | bl b=>cases e;exact⟨.bool_bool _ _,.bool_bool _ _,.bool_bool _ _⟩
  | int i t=>cases e;exact⟨.bool_int _ _ _,.bool_int _ _ _,.bool_int _ _ _⟩
  | str x t=>cases e;exact⟨.bool_str _ _ _,.bool_str _ _ _,.bool_str _ _ _⟩
  | tup xs p=>cases e;exact⟨.bool_tuple _ p hu,.bool_tuple _ p hu,.bool_tuple _ p hu⟩
  | lst p=>cases e;exact⟨.bool_list _ p hu,.bool_list _ p hu,.bool_list _ p hu⟩
 | int c t'=>cases d' with
  | non=>cases e;exact⟨.int_none _ _,.int_none _ _,.int_none _ _⟩
  | bl b=>cases e;exact⟨.int_bool _ _ _,.int_bool _ _ _,.int_bool _ _ _⟩
  | int i t=>cases e;exact⟨.int_int _ _ _ _,.int_int _ _ _ _,.int_int _ _ _ _⟩
  | str x t=>cases e;exact⟨.int_str _ _ _ _,.int_str _ _ _ _,.int_str _ _ _ _⟩
  | tup xs p=>cases e;exact⟨.int_tuple _ _ p hu,.int_tuple _ _ p hu,.int_tuple _ _ p hu⟩
  | lst p=>cases e;exact⟨.int_list _ _ p hu,.int_list _ _ p hu,.int_list _ _ p hu⟩
 | str c t'=>cases d' with
  | non=>cases e;exact⟨.str_none _ _,.str_none _ _,.str_none _ _⟩
  | bl b=>cases e;exact⟨.str_bool _ _ _,.str_bool _ _ _,.str_bool _ _ _⟩
  | int i t=>cases e;exact⟨.str_int _ _ _ _,.str_int _ _ _ _,.str_int _ _ _ _⟩
  | str x t=>cases e;exact⟨.str_str _ _ _ _,.str_str _ _ _ _,.str_str _ _ _ _⟩
  | tup xs p=>cases e;exact⟨.str_tuple _ _ p hu,.str_tuple _ _ p hu,.str_tuple _ _ p hu⟩
  | lst p=>cases e;exact⟨.str_list _ _ p hu,.str_list _ _ p hu,.str_list _ _ p hu⟩
 | tup zs p'=>cases d' with
  | non=>cases e;exact⟨.tuple_none p' hu,.tuple_none p' hu,.tuple_none p' hu⟩
  | bl b=>cases e;exact⟨.tuple_bool _ p' hu,.tuple_bool _ p' hu,.tuple_bool _ p' hu⟩
  | int i t=>cases e;exact⟨.tuple_int _ _ p' hu,.tuple_int _ _ p' hu,.tuple_int _ _ p' hu⟩
  | str x t=>cases e;exact⟨.tuple_str _ _ p' hu,.tuple_str _ _ p' hu,.tuple_str _ _ p' hu⟩
  | tup xs p=>exact absurd rfl (nt _ _ rfl)
  | lst p=>cases e;exact⟨.tuple_list p' p hu,.of_refs (λz=>by subst z;exact GQ p' p) (.tuple_list p' p hu),.tuple_list p' p hu⟩
 | lst p'=>cases d' with
  | non=>cases e;exact⟨.list_none p' hu,.list_none p' hu,.list_none p' hu⟩
  | bl b=>cases e;exact⟨.list_bool _ p' hu,.list_bool _ p' hu,.list_bool _ p' hu⟩
  | int i t=>cases e;exact⟨.list_int _ _ p' hu,.list_int _ _ p' hu,.list_int _ _ p' hu⟩
  | str x t=>cases e;exact⟨.list_str _ _ p' hu,.list_str _ _ p' hu,.list_str _ _ p' hu⟩
  | tup xs p=>cases e;exact⟨.list_tuple p' p hu,.of_refs (λz=>by subst z;exact GQ p p') (.list_tuple p' p hu),.list_tuple p' p hu⟩
  | lst p=>cases e
def BS{a:A}{x:V}(h:AV X.K ρ H a x)(e:WD S a=some (.tup xs)):a=.tup xs/\∃p vs,x=.ref p/\H p=some (.tup vs)/\AVs X.K ρ H xs vs:=by
 cases h with
 | tup h r=>cases e;exact⟨rfl,_,_,rfl,h,r⟩
 | ref h=>obtain⟨_,_,z⟩:=a_.mp e;cases z
 | _=>cases e
def BJ{i:Nat}{x:V}(h:AV X.K ρ H (.ref i) x):∃p,x=.ref p/\ρ[i]?=some p:=by
 cases h with
 | ref h=>exact⟨_,rfl,h⟩
def Ox{a:A}(e:WD S a=some .lst):∃i,a=.ref i:=by
 cases a with
 | ref i=>exact⟨i,rfl⟩
 | _=>cases e
def Ot{n:Nat}{a:A}{k:Bool}(e:se S (n+1) a b=some k):(∃i j xs ys,a=.ref i/\b=.ref j/\jC S i=some xs/\jC S j=some ys/\rB (se S n) xs ys=some k)\/(∃h h',WD S a=some h/\WD S b=some h'/\Qz (se S n) h h'=some k/\(h=.lst->h'≠.lst)):=by
 unfold se at e;split at e
 ·obtain⟨xs,e1,e⟩:=cO.mp e;obtain⟨ys,e2,e⟩:=cO.mp e;exact .inl ⟨_,_,xs,ys,rfl,rfl,e1,e2,e⟩
 ·rename_i nr;obtain⟨h,e1,e⟩:=cO.mp e;obtain⟨h',e2,e⟩:=cO.mp e;refine .inr ⟨h,h',e1,e2,e,λz1 z2=>?_⟩;subst z1 z2;obtain⟨i,rfl⟩:=Ox e1;obtain⟨j,rfl⟩:=Ox e2;exact nr i j rfl rfl
def Ti{f:A->A->bj}{k:Bool}(d:KdV s h u)(d':KdV s h' u)(nt:∀xs ys,h=.tup xs->h'≠.tup ys)(e:Qz f h h'=some k):k=true:=by
 cases d with
 | non=>cases d';exact(aW e).symm
 | bl b=>cases d';exact(aW e).symm.trans (bQ b)
 | int b=>cases d';exact(aW e).symm.trans (bQ b)
 | str b=>cases d';exact(aW e).symm.trans (bQ b)
 | tup xs p=>cases d' with
  | tup=>exact absurd rfl (nt _ _ rfl)
  | lst q=>exact(GQ p q).elim
 | lst p=>cases d' with
  | tup _ q=>exact(GQ q p).elim
  | lst q=>cases e
def DM{f:A->A->bj}(hf:∀a b x u k,AV X.K ρ H a x->AV X.K ρ H b x->RelV x u->f a b=some k->k=true):∀{xs ys:ae}{vs:List V}{us:ba}{k:Bool},AVs X.K ρ H xs vs->AVs X.K ρ H ys vs->Vals vs us->rB f xs ys=some k->k=true:=by
 intro xs ys vs us k h1 h2 q e
 induction q generalizing xs ys k with
 | nil=>cases h1;cases h2;exact(aW e).symm
 | cons rv _ ih=>
  cases h1 with
  | cons h t=>cases h2 with
   | cons h' t'=>
    obtain⟨p,e1,e⟩:=cO.mp e;obtain⟨q,e2,e3⟩:=a_.mp e;rw[<- e3,hf _ _ _ _ p h h' rv e1,ih t t' e2];rfl
def HD(h h':Sh):(∃xs ys,h=.tup xs/\h'=.tup ys)\/(∀xs ys,h=.tup xs->h'≠.tup ys):=by
 cases h with
 | tup xs=>cases h' with
  | tup ys=>exact .inl ⟨xs,ys,rfl,rfl⟩
  | _=>exact .inr λ_ _ _ z=>nomatch z
 | _=>exact .inr λ_ _ z=>nomatch z
theorem Bs(I:Inv X pins σ H s)(R:Rel X.K ρ H S):∀(n:Nat) (a b:A) (x:V) (u:af) (k:Bool),AV X.K ρ H a x->AV X.K ρ H b x->RelV x u->se S n a b=some k->k=true
 | 0,_,_,_,_,_,_,_,_,e=>nomatch e
 | n+1,a,b,x,u,k,ha,hb,ru,e=>by
  rcases Ot e with⟨i,j,xs,ys,rfl,rfl,e1,e2,e⟩|⟨h,h',e1,e2,e,_⟩
  ·obtain⟨p,rfl,h1⟩:=BJ ha;obtain⟨q,z,h2⟩:=BJ hb
   cases z
   obtain⟨vs,h3,r1⟩:=R.lst h1 (jT e1);obtain⟨ws,h4,r2⟩:=R.lst h2 (jT e2);rw[h3]at h4
   cases h4
   obtain⟨us,q,_⟩:=I.list (qa.of h3);exact DM (λa b x u k=>Bs I R n a b x u k) r1 r2 q e
  ·rcases HD h h' with⟨xs,ys,rfl,rfl⟩|nt
   ·obtain⟨rfl,p,vs,rfl,h3,r1⟩:=BS ha e1;obtain⟨rfl,q,ws,z,h4,r2⟩:=BS hb e2
    cases z
    have:=I.wz (mO.of h3) (mO.of h4);subst this;obtain⟨us,q,_⟩:=I.tuple (mO.of h3);exact DM (λa b x u k=>Bs I R n a b x u k) r1 r2 q e
   ·exact Ti (Jq I R ha ru e1) (Jq I R hb ru e2) nt e
abbrev zZ (f:A->A->bj)(xs ys:ae)(j:Nat):Bool:=match xs[j]?,ys[j]? with
 | some x,some y=>(f x y).getD true
 | _,_=>true
theorem xN{f:A->A->bj}:∀{xs ys:ae}{k:Bool},rB f xs ys=some k->k=((List.range (min xs.length ys.length)).all (zZ f xs ys) && xs.length == ys.length)/\∀j x y,xs[j]?=some x->ys[j]?=some y->f x y=some (zZ f xs ys j)
 | [],[],k,e=>⟨(aW e).symm,λj x y h=>by simp at h⟩
 | [],_::_,k,e=>⟨(aW e).symm,λj x y h=>by simp at h⟩
 | _::_,[],k,e=>⟨(aW e).symm,λj x y _ h=>by simp at h⟩
 | x::xs,y::ys,k,e=>by
  unfold rB at e
  cases e1:f x y with
  | none=>rw[e1]at e;cases e
  | some p=>
   rw[e1]at e;obtain⟨q,e2,e3⟩:=a_.mp e;obtain⟨h1,h2⟩:=xN e2;have p0:zZ f (x::xs) (y::ys) 0=p:=by simp[zZ,e1]
   have ps:∀j,zZ f (x::xs) (y::ys) (j+1)=zZ f xs ys j:=λj=>by simp[zZ]
   refine⟨?_,λj a b ha hb=>?_⟩
   ·rw[<- e3,h1,bC,bC,Nat.succ_min_succ,gZ,all_cons,g_,p0];have:(zZ f (x::xs) (y::ys) ∘ Nat.succ)=zZ f xs ys:=funext ps;rw[this,Bool.and_assoc];simp
   ·cases j with
    | zero=>
     simp at ha hb;subst ha hb;rw[p0];exact e1
    | succ j=>rw[ps];exact h2 j a b (by simpa using ha) (by simpa using hb)
def yg{f:A->A->bj}{B:az}(hf:∀a b x y u v k,AV X.K ρ H a x->AV X.K ρ H b y->RelV x u->RelV y v->f a b=some k->SeqAt.EqAt B s u v k){us ts:ba}{k:Bool}
  (r1:AVs X.K ρ H xs vs) (r2:AVs X.K ρ H ys ws) (q1:Vals vs us) (q2:Vals ws ts) (e:rB f xs ys=some k):∀j (h1:j<us.toArray.size) (h2:j<ts.toArray.size),SeqAt.EqAt B s us.toArray[j] ts.toArray[j] (zZ f xs ys j):=by
 intro j h1 h2;have l1:=r1.length;have l2:=r2.length;have l3:=q1.length;have l4:=q2.length;have hx:j<xs.length:=by simp at h1;lia
 have hy:j<ys.length:=by simp at h2;lia
 have e1:xs[j]?=some xs[j]:=aG hx;have e2:ys[j]?=some ys[j]:=aG hy;obtain⟨x,ex,ax⟩:=r1.get e1;obtain⟨y,ey,ay⟩:=r2.get e2;obtain⟨u,eu,ru⟩:=q1.get ex;obtain⟨t,et,rt⟩:=q2.get ey;have a1:us.toArray[j]=u:=by
  have:us[j]?=some us.toArray[j]:=by simp at h1;simp[h1]
  rw[eu]at this;exact(aW this).symm
 have a2:ts.toArray[j]=t:=by
  have:ts[j]?=some ts.toArray[j]:=by simp at h2;simp[h2]
  rw[et]at this;exact(aW this).symm
 rw[a1,a2];exact hf _ _ x y u t _ ax ay ru rt ((xN e).2 j _ _ e1 e2)
def in1_units(B:az):B.in1.units=B.units+1:=rfl
theorem JM(I:Inv X pins σ H s)(R:Rel X.K ρ H S):∀(n:Nat) (B:az) (a b:A) (x y:V) (u v:af) (k:Bool),B.units+n<cLine->AV X.K ρ H a x->AV X.K ρ H b y->RelV x u->RelV y v->se S n a b=some k->Al B s u v k
 | 0,_,_,_,_,_,_,_,_,_,_,_,_,_,e=>nomatch e
 | n+1,B,a,b,x,y,u,v,k,hu,ha,hb,rx,ry,e=>by
  have hu0:B.units<cLine:=()
  have items:∀a b x y u v k,AV X.K ρ H a x->AV X.K ρ H b y->RelV x u->RelV y v->se S n a b=some k->SeqAt.EqAt B.in1 s u v k:=λa b x y u v k h1 h2 h3 h4 h5=>(JM I R n B.in1 a b x y u v k (by rw[in1_units];lia) h1 h2 h3 h4 h5).2.1;have same:=λ(z:y=x)=>Bs I R (n+1) a b x u k ha (z ▸ hb) rx e;have refs:∀{p q:ak},x=.ref p->y=.ref q->u=.ref p->v=.ref q->SeqAt.RcAt B s u v k->SeqAt.EqAt B s u v k:=λ{p q} z1 z2 z3 z4 h=>by
   subst z3 z4;by_cases hp:p=q
   ·subst hp;rw[same (z2.trans z1.symm)];exact .same _
   ·exact .of_refs hp h
  rcases Ot e with⟨i,j,xs,ys,rfl,rfl,e1,e2,e⟩|⟨h,h',e1,e2,e,_⟩
  ·obtain⟨p,rfl,h1⟩:=BJ ha;obtain⟨q,rfl,h2⟩:=BJ hb;obtain⟨vs,h3,r1⟩:=R.lst h1 (jT e1);obtain⟨ws,h4,r2⟩:=R.lst h2 (jT e2);obtain⟨us,q1,p1,_⟩:=I.list (qa.of h3);obtain⟨ts,q2,p2,_⟩:=I.list (qa.of h4);have ru:=refs rfl rfl rx ry
   cases(show u=Value.ref p from rx)
   cases(show v=Value.ref q from ry)
   have l1:=r1.length;have l2:=r2.length;have l3:=q1.length;have l4:=q2.length;have ek:=(xN e).1;by_cases hl:xs.length=ys.length
   ·rw[<- hl,Nat.min_self,bQ,Bool.and_true]at ek;have eh:us.toArray.size=ts.toArray.size:=by simp;lia
    have z1:=SeqAt.RcAt.lists p1.isList p2.isList eh hu0 (yg items r1 r2 q1 q2 e);have z2:=SeqAt.RcNeAt.lists p1.isList p2.isList eh hu0 (yg items r1 r2 q1 q2 e);rw[aY,<- l3,<- l1,<- ek]at z1 z2;exact⟨z1,ru z1,z2⟩
   ·have:(xs.length == ys.length)=false:=by simpa using hl
    rw[this,iV]at ek;subst ek;have eh:(us.toArray.size != ts.toArray.size)=true:=by simp;lia
    have z1:=SeqAt.RcAt.lists_lengths p1.isList p2.isList eh hu0;exact⟨z1,ru z1,SeqAt.RcNeAt.lists_lengths p1.isList p2.isList eh hu0⟩
  ·rcases HD h h' with⟨xs,ys,rfl,rfl⟩|nt
   ·obtain⟨rfl,p,vs,rfl,h3,r1⟩:=BS ha e1;obtain⟨rfl,q,ws,rfl,h4,r2⟩:=BS hb e2;have ru:=refs rfl rfl rx ry
    cases(show u=Value.ref p from rx)
    cases(show v=Value.ref q from ry)
    obtain⟨us,q1,p1,_⟩:=I.tuple (mO.of h3);obtain⟨ts,q2,p2,_⟩:=I.tuple (mO.of h4);have ek:=(xN e).1;have z1:=SeqAt.RcAt.tuples p1 p2 hu0 (yg items r1 r2 q1 q2 e);have z2:=SeqAt.RcNeAt.tuples p1 p2 hu0 (yg items r1 r2 q1 q2 e);rw[aY,aY,<- q1.length,<- q2.length,<- r1.length,<- r2.length,<- ek]at z1 z2;exact⟨z1,ru z1,z2⟩
   ·exact Yy hu0 (Jq I R ha rx e1) (Jq I R hb ry e2) nt e
end
section
variable {X:Cx}
abbrev sf (neg:Bool)(a b:A)(S:jE):R A:=opt (se S 12 a b) λk=>.ok (.bl (if neg then !k else k)) S
def GI(hu:X.A.units+64<cLine):oE X (compareOp .Eq) (r2 X (sf false)):=λpins s σ H x y v u Q I rx ry h9=>by
 x_go;obtain⟨k,e,h⟩:=jO h;exact(JM I R 12 X.A a b x y v u k (by omega) va vb rx ry e).1 _ _ _ _ ⟨.bl _,H,I,rfl,h _ _ _ .refl R (.bl _)⟩
def KW(hu:X.A.units+64<cLine):oE X (compareOp .NotEq) (r2 X (sf true)):=λpins s σ H x y v u Q I rx ry h9=>by
 x_go;obtain⟨k,e,h⟩:=jO h;exact(JM I R 12 X.A a b x y v u k () va vb rx ry e).2.2 _ _ _ _ ⟨.bl _,H,I,rfl,h _ _ _ .refl R (.bl _)⟩
end
section
variable {X:Cx}{pos:Pos}{a b:aC}
meta abbrev Pt:=ae->jE->R (bi)
abbrev Ay:Pt:=λ_ S=>.ok none S
abbrev Ao (c:Ex):Pt:=λτ S=>(c τ S).bind λa S1=>match a with
 | .int i=>.ok (some i) S1
 | _=>.no
abbrev tO (X:Cx)(c:Pt):TO:=λσ H Q=>∃ρ S τ,Rel X.K ρ H S/\SR X.K ρ H τ σ/\(c τ S).post (λo S'=>∀ρ' H',Ext ρ ρ' H H'->Rel X.K ρ' H' S'->Q o H') (XE X ρ H)
abbrev AO (X:Cx)(e:Option aC)(c:Pt):Prop:=PO X e (tO X c)
def G1:AO X none Ay:=λpins s σ H Q I ⟨ρ,S,τ,R,r,h⟩=>QB pins s σ H Q I (h ρ H .refl R)
def HP{c:Ex}(ha:AE X a c):AO X (some a) (Ao c):=λpins s σ H Q I ⟨ρ,S,τ,R,r,h⟩=>RQ ha pins s σ H Q I ⟨ρ,S,τ,R,r,jG (jK h) .refl λx S1 h1 ρ1 H1 v e1 R1 v1=>by
 cases v1<;>first|exact h1.elim|exact⟨_,rfl,h1 ρ1 H1 e1 R1⟩⟩
abbrev xF (xs:ae)(lo hi:bi):ae:=(xs.drop (HT.nS xs.length 0 lo)).take (HT.nS xs.length xs.length hi-HT.nS xs.length 0 lo)
def AVs.cut{K:au}{H:Hp}(r:AVs K ρ H xs vs)(lo hi:bi):AVs K ρ H (xF xs lo hi) (Ez vs lo hi):=by
 unfold xF Ez;rw[r.length];exact(r.drop _).take _
abbrev Zg (a:A)(lo hi:bi)(S:jE):R A:=match a with
 | .ref n=>opt (jC S n) λxs=>.ok (.ref S.length) (S++[.lst (xF xs lo hi)])
 | .frz xs=>.ok (.ref S.length) (S++[.lst (xF xs lo hi)])
 | .tup xs=>gd (¬(HT.nS xs.length 0 lo=0/\HT.nS xs.length xs.length hi=xs.length)) (.ok (.tup (xF xs lo hi)) S)
 | _=>.no
abbrev XR (c:Ex)(lo hi:Pt):Ex:=λτ S=>(c τ S).bind λa S1=>(lo τ S1).bind λl S2=>(hi τ S2).bind λu S3=>Zg a l u S3
abbrev rS (X:Cx):V->bi->bi->Hp->VK->Prop:=λx lo hi H Q=>∃ρ S a,Rel X.K ρ H S/\AV X.K ρ H a x/\(Zg a lo hi S).post (zV X ρ H Q) (XE X ρ H)
def Vw:ZS X (rS X):=λpins s σ H x v vl vu lo hi sl Q I rx hs pl pu h9=>by
 obtain⟨ρ,S,a,R,va,h⟩:=h9
 cases va with
 | @tup p xs vs h1 r1=>
  obtain⟨hc,h⟩:=j3 h;exact VV pins s σ H _ v vl vu lo hi sl Q I rx hs pl pu ⟨p,vs,rfl,(mO.of h1),by rw[<- r1.length];exact hc,t7 R (r1.cut lo hi) .refl h⟩
 | @frz p xs vs h1 r1=>exact HV pins s σ H _ v vl vu lo hi sl Q I rx hs pl pu ⟨p,vs,rfl,h1.Qv,m8 R (r1.cut lo hi) .refl h⟩
 | @ref p n hp=>
  kj_on;obtain⟨vs,h1,r1⟩:=R.lst hp (jT hn);exact HV pins s σ H _ v vl vu lo hi sl Q I rx hs pl pu ⟨p,vs,rfl,qa.of h1,m8 R (r1.cut lo hi) .refl h⟩
 | _=>exact h.elim
def US{lo:Option aC}{c:Ex}{cl ch:Pt}(he:AE X e c)(hl:AO X lo cl)(hh:AO X hi ch):AE X (.Subscript e (.Slice lo hi none p2) pos) (XR c cl ch):=PE.imp (P6 Vw he hl hh) λσ H Q h9=>by
 room;refine⟨ρ,S,τ,R,r,jG (jK h) .refl λa S1 h1 ρ1 H1 x e1 R1 v1=>⟨ρ1,S1,τ,R1,r.ext e1,jG (jK h1) e1 λl S2 h2 ρ2 H2 e2 R2=>⟨ρ2,S2,τ,R2,r.ext (e1.trans e2),jG (jK h2) (e1.trans e2) λu S3 h3 ρ3 H3 e3 R3=>?_⟩⟩⟩;exact⟨ρ3,S3,a,R3,v1.ext (e2.trans e3),jG h3 (e1.trans (e2.trans e3)) λ_ _ z=>z.ext (e1.trans (e2.trans e3))⟩
abbrev YK (a:A)(S:jE):R A:=match a with
 | .ref n=>opt (jC S n) λxs=>.ok (.ref S.length) (S++[.lst xs.reverse])
 | .tup xs=>.ok (.tup xs.reverse) S
 | _=>.no
abbrev jZ (f:ae->jE->R A)(d:qc):Ex:=λτ S=>(d τ S).bind λas S1=>f as S1
def EC{f:ae->jE->R A}{d:qc}{H:Hp}{Q:VK}(h:tE X (jZ f d) σ H Q):tCB (rN X f) (tL X d) σ H Q:=by
 kpc_g;exact⟨ρ,S,τ,R,r,jG (jK h) .refl λas S1 h1 ρ1 H1 vs e1 R1 v1=>⟨ρ1,S1,as,R1,v1,jG h1 e1 λ_ _ z=>z.ext e1⟩⟩
variable {x:Str}{p:Pos}{e:aC}{es:List aC}{id T:String}{f:ae->jE->R A}{d:qc}
def kc(hc:kg X (.builtin id) (rN X f))(hm:X.mg x=none)(hv:bootBuiltins x=some (.builtin id))(ha:AL X (e::es) d)(hg:Gl X x:=by rfl)(hn:x ≠ "__name__" := by decide)(hdb:(x == ("__debug__" : Str))=false:=by decide)
  (he:starEach (e::es) X.env=(false,eval e X.env)::starEach es X.env:=by rfl) (hpl:(backTo pos (starEach es X.env)).any (·.1)=false:=by rfl):AE X (.Call (.Name x p) (e::es) [] pos) (jZ f d):=
 PE.imp (ER hc hg hm hv ha hn hdb he hpl) λ_ _ _ h=>EC h
def kW(hc:kg X (.type T) (rN X f))(hm:X.mg x=none)(hv:bootBuiltins x=some (.type T))(ha:AL X (e::es) d)(hg:Gl X x:=by rfl)(hn:x ≠ "__name__" := by decide)(hdb:(x == ("__debug__" : Str))=false:=by decide)
  (he:starEach (e::es) X.env=(false,eval e X.env)::starEach es X.env:=by rfl) (hpl:(backTo pos (starEach es X.env)).any (·.1)=false:=by rfl):AE X (.Call (.Name x p) (e::es) [] pos) (jZ f d):=
 PE.imp (Kr hc hg hm hv ha hn hdb he hpl) λ_ _ _ h=>EC h
def UY(hm:X.mg x=none)(hv:bootBuiltins x=some (.type T))(hg:Gl X x:=by rfl)(hn:x ≠ "__name__" := by decide)(hdb:(x == ("__debug__" : Str))=false:=by decide):AE X (.Name x pos) (eC (.ty T)):=
 PE.imp (HF (v:=.ty T) hg hm hv rfl hn hdb) λσ H Q ⟨ρ,S,τ,R,r,h⟩=>h ρ H _ .refl R (.ty T)
abbrev A.seq (S:jE):A->Option (ae)
 | .tup xs=>some xs
 | .frz xs=>some xs
 | .ref n=>jC S n
 | _=>none
def V2{K:au}{H:Hp}{x:A}{v:V}(R:Rel K ρ H S)(h:AV K ρ H x v)(e:x.seq S=some xs):∃p vs,v=.ref p/\(qa K H p vs\/mO K H p vs)/\AVs K ρ H xs vs:=by
 cases h with
 | tup h r=>cases aW e;exact⟨_,_,rfl,.inr (mO.of h),r⟩
 | frz h r=>cases aW e;exact⟨_,_,rfl,.inl h.Qv,r⟩
 | ref h=>
  obtain⟨vs,h1,r1⟩:=R.lst h (jT e);exact⟨_,vs,rfl,.inl (qa.of h1),r1⟩
 | _=>cases e
def QY{K:au}{H:Hp}{x:A}(h:AVs K ρ H [x] vs):∃v,vs=[v]/\AV K ρ H x v:=by
 cases h with
 | cons h t=>cases t;exact⟨_,rfl,h⟩
def Vb{K:au}{H:Hp}{x:A}(h:AVs K ρ H [x,y] vs):∃v w,vs=[v,w]/\AV K ρ H x v/\AV K ρ H y w:=by
 cases h with
 | cons h t=>obtain⟨w,rfl,h'⟩:=QY t;exact⟨_,_,rfl,h,h'⟩
abbrev f1 (g:A->jE->R A):ae->jE->R A:=λas S=>match as with
 | [x]=>g x S
 | _=>.no
abbrev f2 (g:A->A->jE->R A):ae->jE->R A:=λas S=>match as with
 | [x,y]=>g x y S
 | _=>.no
def Sk{g:A->jE->R A}{P:A->jE->Prop}{E:Str->jE->Prop}(h:(f1 g as S).post P E):∃x,as=[x]/\(g x S).post P E:=by
 match as,h with
 | [],h=>exact h.elim
 | [x],h=>exact⟨x,rfl,h⟩
 | _::_::_,h=>exact h.elim
def RA{g:A->A->jE->R A}{P:A->jE->Prop}{E:Str->jE->Prop}(h:(f2 g as S).post P E):∃x y,as=[x,y]/\(g x y S).post P E:=by
 match as,h with
 | [],h=>exact h.elim
 | [_],h=>exact h.elim
 | [x,y],h=>exact⟨x,y,rfl,h⟩
 | _::_::_::_,h=>exact h.elim
def Rb{g:A->jE->R A}{H:Hp}{Q:VK}(h:rN X (f1 g) vs H Q):∃v,vs=[v]/\∃ρ S x,Rel X.K ρ H S/\AV X.K ρ H x v/\(g x S).post (zV X ρ H Q) (XE X ρ H):=by
 obtain⟨ρ,S,as,R,v,h⟩:=h;obtain⟨x,rfl,h⟩:=Sk h;obtain⟨w,rfl,hv⟩:=QY v;exact⟨w,rfl,ρ,S,x,R,hv,h⟩
def ZO{g:A->A->jE->R A}{H:Hp}{Q:VK}(h:rN X (f2 g) vs H Q):∃v w,vs=[v,w]/\∃ρ S x y,Rel X.K ρ H S/\AV X.K ρ H x v/\AV X.K ρ H y w/\(g x y S).post (zV X ρ H Q) (XE X ρ H):=by
 obtain⟨ρ,S,as,R,v,h⟩:=h;obtain⟨x,y,rfl,h⟩:=RA h;obtain⟨w,w',rfl,hv,hv'⟩:=Vb v;exact⟨w,w',rfl,ρ,S,x,y,R,hv,hv',h⟩
abbrev p9 (x:A)(S:jE):R A:=match x with
 | .str x=>gd (x.length<=sizeLine) (.ok (.int x.length) S)
 | .tup xs=>.ok (.int xs.length) S
 | .frz xs=>.ok (.int xs.length) S
 | .ref n=>opt (jC S n) λxs=>.ok (.int xs.length) S
 | _=>.no
def qx:kg X (.builtin "len") (rN X (f1 p9)):=kg.imp O7 λvs H Q h0=>by
 gn_on;clear h0
 cases hv with
 | str z=>
  obtain⟨hz,h⟩:=j3 h;exact⟨_,_,rfl,⟨hz,rfl⟩,h _ _ _ .refl R (.int _)⟩
 | @tup p xs us h1 r=>exact⟨_,us.length,rfl,.inr ⟨us,(mO.of h1),rfl⟩,by rw[<- r.length];exact h _ _ _ .refl R (.int _)⟩
 | @frz p xs us h1 r=>exact⟨_,us.length,rfl,.inl ⟨us,h1.Qv,rfl⟩,by rw[<- r.length];exact h _ _ _ .refl R (.int _)⟩
 | ref hp=>
  kj_on;obtain⟨us,h1,r⟩:=R.lst hp (jT hn);exact⟨_,us.length,rfl,.inl ⟨us,qa.of h1,rfl⟩,by rw[<- r.length];exact h _ _ _ .refl R (.int _)⟩
 | _=>exact h.elim
abbrev Vj (x:A)(S:jE):R A:=match x with
 | .int i=>.ok (.int (if i<0 then -i else i)) S
 | _=>.no
def YA:kg X (.builtin "abs") (rN X (f1 Vj)):=kg.imp O1 λvs H Q h0=>by
 gn_on;clear h0
 cases hv<;>first|exact h.elim|exact⟨_,rfl,h _ _ _ .refl R (.int _)⟩
abbrev MP (x y:A)(S:jE):R A:=match x,y with
 | .int i,.int j=>.ok (.int (if j>i then j else i)) S
 | _,_=>.no
def Wi(hc:X.calm=true):kg X (.builtin "max") (rN X (f2 MP)):=kg.imp (KH hc) λvs H Q h0=>by
 obtain⟨w,w',rfl,ρ,S,x,y,R,hv,hv',h⟩:=ZO h0;clear h0
 cases hv<;>first|exact h.elim|(cases hv'<;>first|exact h.elim|exact⟨_,_,rfl,h _ _ _ .refl R (.int _)⟩)
abbrev PD (x y:A)(S:jE):R A:=match x,y with
 | .int i,.int j=>.ok (.int (if j<i then j else i)) S
 | _,_=>.no
def V5(hc:X.calm=true):kg X (.builtin "min") (rN X (f2 PD)):=kg.imp (Kc hc) λvs H Q h0=>by
 obtain⟨w,w',rfl,ρ,S,x,y,R,hv,hv',h⟩:=ZO h0;clear h0
 cases hv<;>first|exact h.elim|(cases hv'<;>first|exact h.elim|exact⟨_,_,rfl,h _ _ _ .refl R (.int _)⟩)
abbrev JG (x:A)(S:jE):R A:=match x with
 | .int i=>.ok (.int i) S
 | .bl k=>.ok (.int (if k then 1 else 0)) S
 | .str y=>opt (PySem.intText? y) λn=>gd (y.length<=640) (.ok (.int n) S)
 | _=>.no
def Xc:kg X (.type "int") (rN X (f1 JG)):=λpins s σ H xs us Q I rv h0=>by
 gn_on;clear h0
 cases hv with
 | int i=>exact Aq pins s σ H _ us Q I rv (.inl ⟨i,rfl,h _ _ _ .refl R (.int _)⟩)
 | bl k=>exact Aq pins s σ H _ us Q I rv (.inr ⟨k,rfl,h _ _ _ .refl R (.int _)⟩)
 | str y=>
  obtain⟨n,hn,h⟩:=jO h;obtain⟨hl,h⟩:=j3 h;exact Lf pins s σ H _ us Q I rv ⟨y,n,rfl,hl,hn,h _ _ _ .refl R (.int _)⟩
 | _=>exact h.elim
abbrev rE (x y:A)(S:jE):R A:=match x,y with
 | .int i,.int j=>.ok (.rng i j) S
 | _,_=>.no
def vN:kg X (.type "range") (rN X (f2 rE)):=kg.imp By λvs H Q h0=>by
 obtain⟨w,w',rfl,ρ,S,x,y,R,hv,hv',h⟩:=ZO h0;clear h0
 cases hv with
 | int i=>
  cases hv' with
  | int j=>
   refine⟨i,j,rfl,λp hp=>?_⟩;obtain⟨ex,R'⟩:=R.im (u:=.rng i j) hp;exact h ρ _ _ ex R' (.rng ko)
  | _=>exact h.elim
 | _=>exact h.elim
abbrev yL (i j:Int):Prop:=(-(2 ^ 62)<=i/\i<2 ^ 62/\-(2 ^ 62)<=j/\j<2 ^ 62)/\(j-i).toNat<=1000
instance (i j:Int):Decidable (yL i j):=by unfold yL;infer_instance
abbrev uw (x:A)(S:jE):R A:=match x with
 | .rng i j=>gd (yL i j) (.ok (.ref S.length) (S++[.lst ((kP i j).map .int)]))
 | .tup xs=>.ok (.ref S.length) (S++[.lst xs])
 | .frz xs=>.ok (.ref S.length) (S++[.lst xs])
 | .ref n=>opt (jC S n) λxs=>.ok (.ref S.length) (S++[.lst xs])
 | _=>.no
def Ck(hc:X.calm=true):kg X (.type "list") (rN X (f1 uw)):=λpins s σ H vs us Q I rx h0=>by
 gn_on;clear h0
 cases hv with
 | @rng p i j hp=>
  obtain⟨hc',h⟩:=j3 h;exact z8 hc pins s σ H _ us Q I rx ⟨p,i,j,rfl,hp,hc'.1,hc'.2,m8 R (qU _) .refl h⟩
 | @tup p xs vs h1 r=>exact rQ pins s σ H _ us Q I rx ⟨p,vs,rfl,.inr (mO.of h1),m8 R r .refl h⟩
 | @frz p xs vs h1 r=>exact rQ pins s σ H _ us Q I rx ⟨p,vs,rfl,.inl h1.Qv,m8 R r .refl h⟩
 | @ref p n hp=>
  kj_on;obtain⟨vs,h1,r⟩:=R.lst hp (jT hn);exact rQ pins s σ H _ us Q I rx ⟨p,vs,rfl,.inl (qa.of h1),m8 R r .refl h⟩
 | _=>exact h.elim
abbrev nX (x:A)(S:jE):R A:=match x with
 | .rng i j=>gd (yL i j) (.ok (.tup ((kP i j).map .int)) S)
 | .tup xs=>.ok (.tup xs) S
 | .frz xs=>.ok (.tup xs) S
 | .ref n=>opt (jC S n) λxs=>.ok (.tup xs) S
 | _=>.no
def t6(hc:X.calm=true):kg X (.type "tuple") (rN X (f1 nX)):=λpins s σ H vs us Q I rx h0=>by
 gn_on;clear h0
 cases hv with
 | @rng p i j hp=>
  obtain⟨hc',h⟩:=j3 h;exact zJ hc pins s σ H _ us Q I rx ⟨p,i,j,rfl,hp,hc'.1,hc'.2,t7 R (qU _) .refl h⟩
 | @tup p xs vs h1 r=>exact qA pins s σ H _ us Q I rx ⟨p,vs,rfl,.inr ⟨(mO.of h1),h _ _ _ .refl R (.tup h1 r)⟩⟩
 | @frz p xs vs h1 r=>exact qA pins s σ H _ us Q I rx ⟨p,vs,rfl,.inl ⟨h1.Qv,t7 R r .refl h⟩⟩
 | @ref p n hp=>
  kj_on;obtain⟨vs,h1,r⟩:=R.lst hp (jT hn);exact qA pins s σ H _ us Q I rx ⟨p,vs,rfl,.inl ⟨qa.of h1,t7 R r .refl h⟩⟩
 | _=>exact h.elim
abbrev A.ZV:ae->Option (List Bool)
 | []=>some []
 | .bl b::xs=>(A.ZV xs).map (b::·)
 | _=>none
abbrev insI (x:Int):ag->ag
 | []=>[x]
 | y::ys=>if x<=y then x::y::ys else y::insI x ys
abbrev sortI:ag->ag
 | []=>[]
 | x::xs=>insI x (sortI xs)
theorem insI_perm(x:Int):∀ys:ag,(insI x ys).Perm (x::ys)
 | []=>eO _
 | y::ys=>by
  unfold insI;by_cases h:x<=y
  ·rw[aK h]
  ·rw[aI h];exact((insI_perm x ys).cons y).trans (List.Perm.swap x y ys)
theorem sortI_perm:∀xs:ag,(sortI xs).Perm xs
 | []=>eO _
 | x::xs=>(insI_perm x (sortI xs)).trans ((sortI_perm xs).cons x)
theorem G3(x:Int):∀ys:ag,ys.Pairwise (·<=·)->(insI x ys).Pairwise (·<=·)
 | [],_=>cj _ _
 | y::ys,h=>by
  unfold insI;obtain⟨h1,h2⟩:=bR.mp h;by_cases hx:x<=y
  ·rw[aK hx];exact bR.mpr ⟨λz hz=>(bD.mp hz).elim (λe=>e ▸ hx) λhz=>Int.le_trans hx (h1 z hz),h⟩
  ·rw[aI hx];refine bR.mpr ⟨λz hz=>?_,G3 x ys h2⟩
   rcases bD.mp ((insI_perm x ys).mem_iff.mp hz)with e|hz
   ·subst e;lia
   ·exact h1 z hz
theorem yK:∀xs:ag,(sortI xs).Pairwise (·<=·)
 | []=>List.Pairwise.nil
 | x::xs=>G3 x _ (yK xs)
abbrev A.kd:A->jE->Option Kd
 | .non,_=>some .non
 | .bl _,_=>some .bl
 | .int _,_=>some .int
 | .str _,_=>some .str
 | .tup _,_=>some .tup
 | .ref n,S=>(jC S n).map λ_=>.lst
 | _,_=>none
def SD{K:au}(k:Kd):PySem.W.kitOne K k.ty (.type "str")=some (decide (k=.str)):=by cases k<;>rfl
abbrev KZ (k:Kd)(c:String):bj:=if c = "int" then some (decide (k=.int\/k=.bl))else if c = "bool" then some (decide (k=.bl))else if c = "tuple" then some (decide (k=.tup))else if c = "list" then some (decide (k=.lst))else if c = "str" then some (decide (k=.str))else none
def Jr{K:au}{k:Kd}{c:String}{b:Bool}(h:KZ k c=some b):PySem.W.kitOne K k.ty (.type c)=some b:=by
 unfold KZ at h;split at h
 ·rename_i e;subst e;rw[<- h];exact Sd k
 ·split at h
  ·rename_i e;subst e;rw[<- h];exact PK k
  ·split at h
   ·rename_i e;subst e;rw[<- h];exact kit_tuple k
   ·split at h
    ·rename_i e;subst e;rw[<- h];exact MY k
    ·split at h
     ·rename_i e;subst e;rw[<- h];exact SD k
     ·cases h
abbrev Q9 (x y:A)(S:jE):R A:=match y with
 | .ty c=>opt (x.kd S) λk=>opt (KZ k c) λb=>.ok (.bl b) S
 | _=>.no
def ZI{K:au}{H:Hp}{x:A}{v:V}{k:Kd}(R:Rel K ρ H S)(h:AV K ρ H x v)(e:x.kd S=some k):(∃p vs,v=.ref p/\mO K H p vs/\k=.tup)\/Vk H v k:=by
 cases h with
 | non=>cases e;exact .inr rfl
 | bl b=>cases e;exact .inr ⟨b,rfl⟩
 | int i=>cases e;exact .inr ⟨i,rfl⟩
 | str i=>cases e;exact .inr ⟨i,rfl⟩
 | tup h r=>cases e;exact .inl ⟨_,_,rfl,(mO.of h),rfl⟩
 | ref h=>
  obtain⟨xs,e1,e2⟩:=a_.mp e;obtain⟨vs,h1,_⟩:=R.lst h (jT e1)
  cases e2
  exact .inr ⟨_,vs,rfl,h1⟩
 | _=>cases e
def Ul:kg X (.builtin "isinstance") (rN X (f2 Q9)):=λpins s σ H vs us Q I rx h0=>by
 obtain⟨w,w',rfl,ρ,S,x,y,R,hv,hv',h⟩:=ZO h0;clear h0
 cases hv' with
 | ty c=>
  obtain⟨k,hk,h⟩:=jO h;obtain⟨b,hb,hq⟩:=jO h;have hq:zV X ρ H Q (.bl b) S:=hq;clear h
  rcases ZI R hv hk with⟨p,vs,rfl,ht,rfl⟩|hd
  ·obtain⟨u1,u2,rfl,r1,r2⟩:=vals2 rx;obtain⟨its,q,⟨o,h1,h2,_⟩,_⟩:=I.tuple ht
   cases(show _=Value.ref p from r1)
   cases(show _=Value.type c from r2)
   exact cL PySem.W.kitx_tuple I.zp ⟨o,h1,h2⟩ (Jr hb) (λz=>nomatch z) λtk=>⟨.bl b,H,I.tok _,rfl,hq _ _ _ .refl R (.bl _)⟩
  ·exact C2 (c:=c) pins s σ H _ us Q I rx ⟨w,_,b,rfl,hd.aaG,Jr hb,hq _ _ _ .refl R (.bl _)⟩
 | _=>exact h.elim
end
abbrev Cv (x:ag):List (ag)->List (ag)
 | []=>[x]
 | y::ys=>if HT.lexLt y x=true then y::Cv x ys else x::y::ys
abbrev l_:List (ag)->List (ag)
 | []=>[]
 | x::xs=>Cv x (l_ xs)
abbrev Ct (a b:ag):Prop:=HT.lexLt b a=false
def Ct.trans{a c:ag}(h1:Ct a b)(h2:Ct b c):Ct a c:=by
 unfold Ct at *
 cases e:HT.lexLt c a with
 | false=>rfl
 | true=>
  rcases Sx.IL (b:=b) e with z|z
  ·rw[h2]at z;cases z
  ·rw[h1]at z;cases z
theorem v9(x:ag):∀ys:List (ag),(Cv x ys).Perm (x::ys)
 | []=>eO _
 | y::ys=>by
  unfold Cv;by_cases h:HT.lexLt y x=true
  ·rw[aK h];exact((v9 x ys).cons y).trans (List.Perm.swap x y ys)
  ·rw[aI h]
theorem jX:∀xs:List (ag),(l_ xs).Perm xs
 | []=>eO _
 | x::xs=>(v9 x (l_ xs)).trans ((jX xs).cons x)
theorem Hr(x:ag):∀ys:List (ag),ys.Pairwise Ct->(Cv x ys).Pairwise Ct
 | [],_=>cj _ _
 | y::ys,h=>by
  unfold Cv;obtain⟨h1,h2⟩:=bR.mp h;by_cases hx:HT.lexLt y x=true
  ·rw[aK hx];refine bR.mpr ⟨λz hz=>?_,Hr x ys h2⟩
   rcases bD.mp ((v9 x ys).mem_iff.mp hz)with e|hz
   ·subst e;unfold Ct
    cases e:HT.lexLt z y with
    | false=>rfl
    | true=>have:=Sx.BC hx e;rw[Sx.xW]at this;cases this
   ·exact h1 z hz
  ·rw[aI hx];have hx':Ct x y:=by unfold Ct;simpa using hx
   exact bR.mpr ⟨λz hz=>(bD.mp hz).elim (λe=>e ▸ hx') λhz=>hx'.trans (h1 z hz),h⟩
theorem q_:∀xs:List (ag),(l_ xs).Pairwise Ct
 | []=>List.Pairwise.nil
 | x::xs=>Hr x _ (q_ xs)
def F_{xs:List (ag)}(p:xs.Perm ys)(h:xs.Pairwise Ct):xs=l_ ys:=
 dO (λa b _ _ h1 h2=>(Sx.vf h1 h2).symm) h (q_ ys) (p.trans (jX ys).symm)
theorem pig:∀(N:Nat) (l:am),l.Nodup->(∀x∈l,x<N)->l.length<=N
 | 0,l,_,h=>by
  cases l with
  | nil=>exact aQ _
  | cons a l=>exact absurd (h a (aM ..)) (fX _)
 | N+1,l,nd,h=>by
  have h1:=pig N (l.erase N) (nd.erase N) λx hx=>by
   have:=h x (List.mem_of_mem_erase hx);have:x≠N:=λz=>by
    subst z;exact(List.Nodup.not_mem_erase nd) hx
   lia
  have:=List.le_length_erase (l:=l) (a:=N)
  lia
def rP{N:Nat}{g:Nat->Nat}(h:∀i,i<N->g i<N)(inj:∀i j,i<j->j<N->g i≠g j):((List.range N).map g).Perm (List.range N):=by
 have nd:((List.range N).map g).Nodup:=by
  unfold List.Nodup;rw[c7];intro i j hi hj hij;rw[aH,cE]at hi hj;rw[c5,c5,eS,eS];exact inj i j hij hj
 have lt:∀x∈(List.range N).map g,x<N:=λx hx=>by
  obtain⟨i,hi,rfl⟩:=bA.mp hx;exact h i (cA.mp hi)
 refine(iX nd List.nodup_range).mpr λa=>⟨λha=>cA.mpr (lt a ha),λha=>?_⟩;refine Classical.byContradiction λhn=>?_;have:=pig N (a::(List.range N).map g) (cM.mpr ⟨hn,nd⟩) λx hx=>by
  rcases bD.mp hx with rfl|hx
  ·exact cA.mp ha
  ·exact lt x hx
 rw[bC,aH,cE]at this
 lia
def range_getD{α:Type}(l:List α)(d:α):(List.range l.length).map (λi=>l.getD i d)=l:=by
 apply dc;intro i;rw[aS];by_cases c:i<l.length
 ·rw[eg c];show some (l.getD i d)=_;rw[aJ,aG c];rfl
 ·rw[cF (by rw[cE];lia),cF ()];rfl
def M5{kss:List (ag)}{g:Nat->Nat}(c:Sx.Cl g 0 kss.length)(so:Sx.So (Sx.zU kss) g 0 kss.length):(List.range kss.length).map (λi=>kss.getD (g i) [])=l_ kss:=by
 refine F_ ?_ ?_
 ·have p:=rP (N:=kss.length) (g:=g) (λi hi=>(c i (bO _) hi).2) λi j hij hj z=>by
   have:=so i j (bO _) hij hj;rw[z]at this;exact this.Ll
  have:=p.map λi=>kss.getD i [];rw[bq,range_getD]at this;exact this
 ·rw[c7];intro i j hi hj hij;rw[aH,cE]at hi hj;rw[c5,c5,eS,eS];exact(so i j (bO _) hij hj).ge
theorem BH{K:au}{H:Hp}{α:Type}{f:α->A}{h:α->V}:∀{l:List α},(∀a∈l,AV K ρ H (f a) (h a))->AVs K ρ H (l.map f) (l.map h)
 | [],_=>.nil
 | a::l,e=>.cons (e a (aM ..)) (BH λb hb=>e b (aN _ hb))
abbrev RS.post (r:RS)(N:ae->jE->Prop)(T:A->jE->Prop)(B C:ae->jE->Prop)(E:Str->jE->Prop):Prop:=match r with
 | .nx τ S=>N τ S
 | .rt a S=>T a S
 | .bk τ S=>B τ S
 | .ct τ S=>C τ S
 | .ex c S=>E c S
 | .no=>False
abbrev RS.of {α:Type}(r:R α)(f:α->jE->RS):RS:=match r with
 | .ok a S=>f a S
 | .ex c S=>.ex c S
 | .no=>.no
def of_post{α:Type}{r:R α}{f:α->jE->RS}{N B C:ae->jE->Prop}{T:A->jE->Prop}{E:Str->jE->Prop}(h:(RS.of r f).post N T B C E):r.post (λa S=>(f a S).post N T B C E) E:=by
 cases r<;>exact h
def RS.mono{r:RS}{N B C N' B' C':ae->jE->Prop}{T T':A->jE->Prop}{E E':Str->jE->Prop}(h:r.post N T B C E)(hn:∀τ S,N τ S->N' τ S)(ht:∀a S,T a S->T' a S)(hb:∀τ S,B τ S->B' τ S)(hc:∀τ S,C τ S->C' τ S)(he:∀c S,E c S->E' c S):r.post N' T' B' C' E':=by
 cases r with
 | nx τ S=>exact hn _ _ h
 | rt a S=>exact ht _ _ h
 | bk τ S=>exact hb _ _ h
 | ct τ S=>exact hc _ _ h
 | ex c S=>exact he _ _ h
 | no=>exact h.elim
abbrev OH (X:Cx)(ρ:bb)(H:Hp)(N:L2.St->Hp->Prop):ae->jE->Prop:=λτ' S'=>∀ρ' H' σ',Ext ρ ρ' H H'->Rel X.K ρ' H' S'->SR X.K ρ' H' τ' σ'->N σ' H'
def OH.ext{X:Cx}{H H':Hp}{N:L2.St->Hp->Prop}(h:OH X ρ H N τ S)(e:Ext ρ ρ' H H'):OH X ρ' H' N τ S:=λρ2 H2 σ2 e2=>h ρ2 H2 σ2 (e.trans e2)
abbrev yV (X:Cx)(ρ:bb)(H:Hp)(D:Ends)(r:RS):Prop:=r.post (OH X ρ H D.nx) (zV X ρ H D.rt) (OH X ρ H D.bk) (OH X ρ H D.ct) (XE X ρ H)
def yV.ext{X:Cx}{H H':Hp}{D:Ends}{r:RS}(h:yV X ρ H D r)(e:Ext ρ ρ' H H'):yV X ρ' H' D r:=RS.mono h (λ_ _ z=>z.ext e) (λ_ _ z=>z.ext e) (λ_ _ z=>z.ext e) (λ_ _ z=>z.ext e) λ_ _ z=>z.ext e
abbrev tS (X:Cx)(c:Sm):TS:=λD σ H=>∃ρ S τ,Rel X.K ρ H S/\SR X.K ρ H τ σ/\yV X ρ H D (c τ S)
abbrev AS (X:Cx)(st:aE)(c:Sm):Prop:=PS X st (tS X c)
abbrev K9 (X:Cx)(sts:List aE)(c:Sm):Prop:=Ah X sts (tS X c)
abbrev tG (X:Cx)(g:Tg):TG:=λv σ H Q=>∃ρ S τ a,Rel X.K ρ H S/\SR X.K ρ H τ σ/\AV X.K ρ H a v/\(g a τ S).post (OH X ρ H Q) (XE X ρ H)
abbrev AG (X:Cx)(e:aC)(g:Tg):Prop:=PG X e (tG X g)
meta abbrev Qu:=ae->ae->jE->R (ae)
abbrev tGs (X:Cx)(g:Qu):Ux:=λvs σ H Q=>∃ρ S τ as,Rel X.K ρ H S/\SR X.K ρ H τ σ/\AVs X.K ρ H as vs/\(g as τ S).post (OH X ρ H Q) (XE X ρ H)
abbrev ZU (X:Cx)(es:List aC)(g:Qu):Prop:=Zc X es (tGs X g)
section
variable {X:Cx}{pos:Pos}{a b e:aC}{st:aE}{rest:List aE}{c d:Sm}
def PS.imp{t t':TS}(h:PS X st t)(i:∀D σ H,t' D σ H->t D σ H):PS X st t':=λpins s σ H D I q=>h pins s σ H D I (i D σ H q)
def Ah.imp{t t':TS}(h:Ah X rest t)(i:∀D σ H,t' D σ H->t D σ H):Ah X rest t':=λpins s σ H D I q=>h pins s σ H D I (i D σ H q)
def PG.imp{t t':TG}(h:PG X e t)(i:∀v σ H Q,t' v σ H Q->t v σ H Q):PG X e t':=λpins s σ H v u Q I r q=>h pins s σ H v u Q I r (i _ _ _ _ q)
abbrev kQ (i:Nat):Tg:=λa τ S=>.ok (τ.set i a) S
def j9{i:Nat}{x:Str}(hN:X.N.Nodup)(hi:X.N[i]?=some x:=by rfl)(hx:Loc X.env.scope x:=by first|exact Or.inl rfl|exact Or.inr rfl)(hf:X.fn x=true\/X.env.scope.names.lookup x=some .local:=by first|exact .inl rfl|exact .inr rfl|assumption):AG X (.Name x pos) (kQ i):=
 PG.imp (JC hN hi hx hf) λv σ H Q ⟨ρ,S,τ,a,R,r,va,h⟩=>h ρ H _ .refl R (r.set va)
abbrev A0:Qu:=λas τ S=>match as with
 | []=>.ok τ S
 | _=>.no
abbrev r_ (g:Tg)(gs:Qu):Qu:=λas τ S=>match as with
 | a::as=>(g a τ S).bind λτ1 S1=>gs as τ1 S1
 | []=>.no
def nO:ZU X [] A0:=λpins s σ H vs us Q I r ⟨ρ,S,τ,as,R,sr,va,h⟩=>Ri pins s σ H vs us Q I r (by
 cases va with
 | nil=>exact⟨rfl,h ρ H σ .refl R sr⟩
 | cons _ _=>exact h.elim)
def kh{g:Tg}{gs:Qu}(h1:AG X e g)(h2:ZU X es gs)(hs:(assignEach (e::es) X.env).map (·.2)=assign e X.env::(assignEach es X.env).map (·.2):=by rfl):ZU X (e::es) (r_ g gs):=
 λpins s σ H vs us Q I r ⟨ρ,S,τ,as,R,sr,va,h⟩=>Oe h1 h2 hs pins s σ H vs us Q I r (by
  cases va with
  | nil=>exact h.elim
  | cons ha hr=>exact⟨_,_,rfl,ρ,S,τ,_,R,sr,ha,jG (jK h) .refl λτ1 S1 h1 ρ1 H1 σ1 e1 R1 sr1=>⟨ρ1,S1,τ1,_,R1,sr1,hr.ext e1,jG h1 e1 λ_ _ z=>z.ext e1⟩⟩)
abbrev Aj (n:Nat)(gs:Qu):Tg:=λa τ S=>match a with
 | .tup xs | .ktu xs=>gd (xs.length=n) (gs xs τ S)
 | _=>.no
def pO{k n:Nat}{gs:Qu}(hc:X.calm=true)(h:ZU X es gs)(hn:(assignEach es X.env).length=n:=by rfl)(hst:(assignEach es X.env).findIdx? (·.1)=none:=by rfl):AG X (.Tuple es k pos) (Aj n gs):=
 PG.imp (V6 hc h hn hst) λv σ H Q h9=>by
  obtain⟨ρ,S,τ,a,R,r,va,h⟩:=h9
  cases va with
  | tup h1 r1=>
   obtain⟨hl,h⟩:=j3 h;exact⟨_,_,rfl,mO.of h1,by rw[<- r1.length];exact hl,ρ,S,τ,_,R,r,r1,h⟩
  | ktu h1 r1=>
   obtain⟨hl,h⟩:=j3 h;exact⟨_,_,rfl,.inr h1,by rw[<- r1.length];exact hl,ρ,S,τ,_,R,r,r1,h⟩
  | _=>exact h.elim
abbrev EL (o i v:A)(S:jE):R Unit:=match o,i with
 | .ref n,.int k=>opt (jC S n) λxs=>opt (Er xs.length k) λj=>.ok Unit.unit (S.set n (.lst (xs.set j v)))
 | _,_=>.no
abbrev rSt (X:Cx):KA:=λo i v H Q=>∃ρ S ao ai av,Rel X.K ρ H S/\AV X.K ρ H ao o/\AV X.K ρ H ai i/\AV X.K ρ H av v/\(EL ao ai av S).post (λ_ S'=>∀ρ' H',Ext ρ ρ' H H'->Rel X.K ρ' H' S'->Q H') (XE X ρ H)
def QX:Kl X (rSt X):=λpins s σ H o i v ov iv u Q I ro ri rv h9=>by
 obtain⟨ρ,S,ao,ai,av,R,h1,h2,h3,h⟩:=h9
 cases h1 with
 | @ref p n hp=>
  cases h2 with
  | int k=>
   kj_on;obtain⟨j,hj,h⟩:=jO h;obtain⟨vs,e,r⟩:=R.lst hp (jT hn);obtain⟨ex,R'⟩:=R.put hp (jT hn) (r.set h3 j);exact set_list pins s σ H _ _ v ov iv u Q I ro ri rv ⟨p,vs,k,j,rfl,rfl,e,by rw[<- r.length];exact hj,h _ _ ex R'⟩
  | _=>exact h.elim
 | _=>exact h.elim
abbrev VT (co ci:Ex):Tg:=λa τ S=>(co τ S).bind λo S1=>(ci τ S1).bind λi S2=>(EL o i a S2).bind λ_ S3=>.ok τ S3
def zE{co ci:Ex}(ho:AE X o co)(hi:AE X i ci)
  (ha:∀v,assign (.Subscript o i pos) X.env v=(do
   let ov <- holding [v] (eval o X.env)
   let iv <- holding [v,ov] (eval i X.env)
   standAt pos
   holding [v,ov,iv] (setItem ov iv v)
   release [v,ov,iv] []):=by intro _;rfl):AG X (.Subscript o i pos) (VT co ci):=PG.imp (GD ho hi QX ha) λv σ H Q h9=>by
 obtain⟨ρ,S,τ,a,R,r,va,h⟩:=h9;kd_p;kcf_m;exact h3 ρ3 H3 σ ((e1.trans e2).trans e3) R3 (r.ext ((e1.trans e2).trans e3))
abbrev oH:Sm:=λτ S=>.nx τ S
abbrev j5 (c d:Sm):Sm:=λτ S=>match c τ S with
 | .nx τ' S'=>d τ' S'
 | r=>r
def lB:K9 X [] oH:=Ah.imp SH λD σ H ⟨ρ,S,τ,R,r,h⟩=>h ρ H σ .refl R r
def Tp{D:Ends}{H:Hp}(h:tS X (j5 c d) D σ H):X4 (tS X c) (tS X d) D σ H:=by
 kpc_g;refine⟨ρ,S,τ,R,r,?_⟩;unfold j5 at h
 cases hc:c τ S with
 | nx τ1 S1=>
  rw[hc]at h;exact λρ1 H1 σ1 e1 R1 r1=>⟨ρ1,S1,τ1,R1,r1,yV.ext h e1⟩
 | rt a S1=>rw[hc]at h;exact h
 | bk τ1 S1=>rw[hc]at h;exact h
 | ct τ1 S1=>rw[hc]at h;exact h
 | ex x S1=>rw[hc]at h;exact h
 | no=>rw[hc]at h;exact h
def jH(h1:AS X st c)(h2:K9 X rest d):K9 X (st::rest) (j5 c d):=Ah.imp (O4 h1 h2) λD σ H h=>Tp h
def jN(h1:AS X st c):K9 X [st] c:=SJ h1
abbrev VO:Sm:=λτ S=>.bk τ S
abbrev X7:Sm:=λτ S=>.ct τ S
abbrev pJ (e:Ex):Sm:=λτ S=>.of (e τ S) λ_ S1=>.nx τ S1
def n9{f:Ex}(he:AE X e f)(hs:swapsWith e none pos.line X.env=pure false:=by rfl):AS X (.Expr e pos) (pJ f):=PS.imp (RP he hs) λD σ H ⟨ρ,S,τ,R,r,h⟩=>
 ⟨ρ,S,τ,R,r,jG (of_post h) .refl λa S1 h1 ρ1 H1 x e1 R1 v1=>h1 ρ1 H1 σ e1 R1 (r.ext e1)⟩
abbrev lE (e:Ex):Sm:=λτ S=>.of (e τ S) λa S1=>.rt a S1
def j_{f:Ex}(he:AE X e f):AS X (.Return (some e) pos) (lE f):=PS.imp (Xn he) λD σ H ⟨ρ,S,τ,R,r,h⟩=>⟨ρ,S,τ,R,r,jG (of_post h) .refl λa S1 h1=>h1⟩
abbrev YV:Sm:=λτ S=>.rt .non S
abbrev wV (t:Te)(c d:Sm):Sm:=λτ S=>.of (t τ S) λb S1=>match b with|true=>c τ S1|false=>d τ S1
def nI{t:Te}(ht:AT X e t)(ha:K9 X ca c)(hb:K9 X cb d):AS X (.If e ca cb pos) (wV t c d):=PS.imp (Yg ht ha hb) λD σ H h9=>by
 room;refine⟨ρ,S,τ,R,r,jG (of_post h) .refl λb S1 h1 ρ1 H1 e1 R1=>?_⟩
 cases b with
 | true=>rw[aK rfl];exact⟨ρ1,S1,τ,R1,r.ext e1,yV.ext h1 e1⟩
 | false=>rw[aI bG];exact⟨ρ1,S1,τ,R1,r.ext e1,yV.ext h1 e1⟩
abbrev kD (e:Ex)(g:Tg):Sm:=λτ S=>.of (e τ S) λa S1=>.of (g a τ S1) λτ' S2=>.nx τ' S2
def Rt{f:Ex}{g:Tg}{D:Ends}{H:Hp}(h:tS X (kD f g) D σ H):Rv (tE X f) (tG X g) D σ H:=by
 kpc_g;exact⟨ρ,S,τ,R,r,jG (of_post h) .refl λa S1 h1 ρ1 H1 x e1 R1 v1=>⟨ρ1,S1,τ,a,R1,r.ext e1,v1,jG (of_post h1) e1 λτ2 S2 h2=>OH.ext h2 e1⟩⟩
def qD{tg:aC}{f:Ex}{g:Tg}(he:AE X e f)(hg:AG X tg g)(hs:swapsWithSole [tg] e pos.line X.env=pure false:=by rfl)(hw:swappedStores [tg] e X.env=pure none:=by rfl)
  (h1:(assignEach [tg] X.env).map (·.2)=[assign tg X.env]:=by rfl):AS X (.Assign [tg] e pos) (kD f g):=PS.imp (Xz he hg hs hw h1) λD σ H h=>Rt h
def j7{i:Nat}{x:Str}{f:Ex}(hN:X.N.Nodup)(he:AE X e f)(hi:X.N[i]?=some x:=by rfl)(hx:Loc X.env.scope x:=by first|exact Or.inl rfl|exact Or.inr rfl)(hs:swapsWith e (some (.Name x pos')) pos.line X.env=pure false:=by rfl)(hf:X.fn x=true\/X.env.scope.names.lookup x=some .local:=by first|exact .inl rfl|exact .inr rfl|assumption) :
  AS X (.Assign [.Name x pos'] e pos) (kD f (kQ i)):=PS.imp (WT hN hi hx he hs hf) λD σ H ⟨ρ,S,τ,R,r,h⟩=>
 ⟨ρ,S,τ,R,r,jG (of_post h) .refl λa S1 h1 ρ1 H1 x e1 R1 v1=>h1 ρ1 H1 _ e1 R1 ((r.ext e1).set v1)⟩
abbrev aaX (i j:Nat)(c:qc):Sm:=λτ S=>.of (c τ S) λas S1=>match as with
 | [a,b]=>.nx ((τ.set i a).set j b) S1
 | _=>.no
abbrev aaE (a b:A)(S:jE):R A:=match a,b with
 | .int i,.int j=>.ok (.int (i+j)) S
 | _,_=>.no
abbrev YQ (i:Nat)(f:A->A->jE->R A)(e:Ex):Sm:=λτ S=>if (τ.getD i .unb).p5 then .no else .of (e τ S) λb S1=>.of (f (τ.getD i .unb) b S1) λc S2=>.nx (τ.set i c) S2
abbrev Sv (a b:A)(S:jE):R A:=match a,b with
 | .ref n,.int i=>opt (jC S n) λxs=>gd (0<=i) (opt (xs[i.toNat]?) λx=>.ok x S)
 | _,_=>.no
abbrev ZK (co ci ce:Ex)(f:A->A->jE->R A):Sm:=λτ S=>.of (co τ S) λo S1=>.of (ci τ S1) λi S2=>.of (Sv o i S2) λx S3=>.of (ce τ S3) λy S4=>.of (f x y S4) λz S5=>.of (EL o i z S5) λ_ S6=>.nx τ S6
abbrev nG (t:Te)(c:Sm):Nat->Sm
 | 0=>λ_ _=>.no
 | n+1=>λτ S=>.of (t τ S) λb S1=>match b with
  | false=>.nx τ S1
  | true=>match c τ S1 with
   | .nx τ' S'=>nG t c n τ' S'
   | .ct τ' S'=>nG t c n τ' S'
   | .bk τ' S'=>.nx τ' S'
   | r=>r
def MV(n:Nat){t:Te}(hp:PassesOwn (model X.prog X.w) X.A X.env X.xe)(ht:AT X e t)(hb:K9 X body c):AS X (.While e body [] pos) (nG t c n):=PS.imp (Oq hp ht hb) λD σ H h9=>by
 room;refine⟨λm σ' H'=>∃ρ' S' τ',Ext ρ ρ' H H'/\Rel X.K ρ' H' S'/\SR X.K ρ' H' τ' σ'/\yV X ρ' H' D (nG t c m τ' S'),⟨n,ρ,S,τ,.refl,R,r,h⟩,?_⟩;rintro m σ1 H1 ⟨ρ1,S1,τ1,e1,R1,r1,h1⟩
 cases m with
 | zero=>exact h1.elim
 | succ m=>
  refine⟨ρ1,S1,τ1,R1,r1,jG (of_post h1) .refl λb S2 h2 ρ2 H2 e2 R2=>?_⟩
  cases b with
  | false=>rw[aI bG];exact h2 ρ2 H2 σ1 e2 R2 (r1.ext e2)
  | true=>
   rw[aK rfl];refine⟨λσ' H'=>∃ρ' S' τ',Ext ρ ρ' H H'/\Rel X.K ρ' H' S'/\SR X.K ρ' H' τ' σ'/\yV X ρ' H' D (nG t c m τ' S'),λσ' H' z=>⟨m,fL _,z⟩,ρ2,S2,τ1,R2,r1.ext e2,?_⟩;have h2:yV X ρ1 H1 D (match c τ1 S2 with
    | .nx τ' S'=>nG t c m τ' S'
    | .ct τ' S'=>nG t c m τ' S'
    | .bk τ' S'=>.nx τ' S'
    | r=>r):=h2
   cases hc:c τ1 S2 with
   | nx τ3 S3=>rw[hc]at h2;exact λρ3 H3 σ3 e3 R3 r3=>⟨ρ3,S3,τ3,(e1.trans e2).trans e3,R3,r3,yV.ext h2 (e2.trans e3)⟩
   | ct τ3 S3=>rw[hc]at h2;exact λρ3 H3 σ3 e3 R3 r3=>⟨ρ3,S3,τ3,(e1.trans e2).trans e3,R3,r3,yV.ext h2 (e2.trans e3)⟩
   | bk τ3 S3=>rw[hc]at h2;exact OH.ext h2 e2
   | rt a S3=>rw[hc]at h2;exact zV.ext h2 e2
   | ex x S3=>rw[hc]at h2;exact XE.ext h2 e2
   | no=>rw[hc]at h2;exact h2
end
structure Src where
 k:Nat
 get:Nat->jE->Option A
 fin:jE->Bool
structure JR (K:au)(s:Src)(J:It)(ρ0:bb)(H0:Hp):Prop where
 go:∀(i:Nat) (S:jE) (H:Hp) (ρ:bb) (x:A),Ext0 ρ0 ρ H0 H->Rel K ρ H S->s.get i S=some x->J.go i H/\∀v H',J.yld i H v H'->Ext ρ ρ H H'/\Rel K ρ H' S/\AV K ρ H' x v
 stop:∀(S:jE) (H:Hp) (ρ:bb),Ext0 ρ0 ρ H0 H->Rel K ρ H S->s.fin S=true->J.stop s.k H
meta abbrev Ic:=ae->jE->R Src
abbrev tI (X:Cx)(c:Ic):TI:=λσ H Q=>∃ρ S τ,Rel X.K ρ H S/\SR X.K ρ H τ σ/\(c τ S).post (λs S'=>∀ρ' H' J,Ext ρ ρ' H H'->Rel X.K ρ' H' S'->JR X.K s J ρ' H'->Q J H') (XE X ρ H)
abbrev AI (X:Cx)(tg iter:aC)(c:Ic):Prop:=PI X tg iter (tI X c)
abbrev w6 (xs:ae):Src:=⟨xs.length,λi _=>xs[i]?,λ_=>true⟩
abbrev lq (n k:Nat):Src:=⟨k,λi S=>(jC S n).bind (·[i]?),λS=>match jC S n with
 | some ys=>decide (ys.length<=k)
 | none=>false⟩
abbrev qL (lo hi:Int):Src:=⟨(hi-lo).toNat,λi _=>if i<(hi-lo).toNat then some (.int (lo+i))else none,λ_=>true⟩
abbrev oK (c:Ex):Ic:=λτ S=>(c τ S).bind λa S1=>match a with
 | .tup xs=>.ok (w6 xs) S1
 | .frz xs=>.ok (w6 xs) S1
 | .ref n=>opt (jC S1 n) λxs=>.ok (lq n xs.length) S1
 | .str x=>gd (x.cps.all (· < 128)=true) (.ok (w6 (x.cps.toList.map λc=>.str ⟨#[c]⟩)) S1)
 | _=>.no
section
variable {X:Cx}{pos:Pos}{tg e a b:aC}
def Xi{K:au}{H0:Hp}{p:ak}(h:mO K H0 p vs)(r:AVs K ρ0 H0 xs vs):JR K (w6 xs) (Itt K p) ρ0 H0 where
 go:=λi S H ρ x e R g=>by
  obtain⟨v,ev,av⟩:=(AVs.nF e r).get g;have hs:=e.ZY h;refine⟨⟨vs,v,hs,ev⟩,λw H' ⟨e1,y⟩=>?_⟩;subst e1;have:=y vs hs;rw[ev]at this
  cases this
  exact⟨.refl,R,av⟩
 stop:=λS H ρ e R _=>⟨vs,e.ZY h,by rw[<- r.length];exact aQ _⟩
def Wb{K:au}{H0:Hp}{p:ak}(h:Fz K H0 p vs)(r:AVs K ρ0 H0 xs vs):JR K (w6 xs) (Zk K p) ρ0 H0 where
 go:=λi S H ρ x e R g=>by
  obtain⟨v,ev,av⟩:=(AVs.nF e r).get g;have hs:=(e.fz h).Qv;refine⟨⟨vs,v,hs,ev⟩,λw H' ⟨e1,y⟩=>?_⟩;subst e1;have:=y vs hs;rw[ev]at this
  cases this
  exact⟨.refl,R,av⟩
 stop:=λS H ρ e R _=>⟨vs,(e.fz h).Qv,by rw[<- r.length];exact aQ _⟩
def PM{K:au}{ρ0:bb}{H0:Hp}{p:ak}{n k:Nat}(h:ρ0[n]?=some p):JR K (lq n k) (Zk K p) ρ0 H0 where
 go:=λi S H ρ x e R g=>by
  obtain⟨ys,hn,hx⟩:=cO.mp (show(jC S n).bind (·[i]?)=some x from g);obtain⟨vs,h1,r⟩:=R.lst (e.get h) (jT hn);obtain⟨v,ev,av⟩:=r.get hx;refine⟨⟨vs,v,qa.of h1,ev⟩,λw H' ⟨e1,y⟩=>?_⟩;subst e1;have:=y vs (qa.of h1);rw[ev]at this
  cases this
  exact⟨.refl,R,av⟩
 stop:=λS H ρ e R g=>by
  have g:(match jC S n with
   | some ys=>decide (ys.length<=k)
   | none=>false)=true:=g
  cases hn:jC S n with
  | none=>rw[hn]at g;cases g
  | some ys=>
   rw[hn]at g;obtain⟨vs,h1,r⟩:=R.lst (e.get h) (jT hn);exact⟨vs,qa.of h1,by rw[<- r.length];exact bL g⟩
def NF{K:au}{H0:Hp}{lo hi:Int}:JR K (qL lo hi) (ZC lo (hi-lo).toNat) ρ0 H0 where
 go:=λi S H ρ x e R g=>by
  have g:(if i<(hi-lo).toNat then some (A.int (lo+i))else none)=some x:=g;by_cases hi':i<(hi-lo).toNat
  ·rw[aK hi']at g
   cases g
   refine⟨hi',λw H' ⟨e1,y⟩=>?_⟩;subst e1 y;exact⟨.refl,R,.int _⟩
  ·rw[aI hi']at g;cases g
 stop:=λS H ρ e R _=>aQ _
def WQ{K:au}{H0:Hp}{x:Str}:JR K (w6 (x.cps.toList.map λc=>A.str ⟨#[c]⟩)) (Its x) ρ0 H0 where
 go:=λi S H ρ y e R g=>by
  have g:(x.cps.toList.map λc=>A.str ⟨#[c]⟩)[i]?=some y:=g;rw[aS]at g;obtain⟨c,hc,rfl⟩:=a_.mp g;rw[eU]at hc;refine⟨(Array.getElem?_eq_some_iff.mp hc).1,λw H' ⟨e1,c',hc',y'⟩=>?_⟩;rw[hc]at hc'
  cases hc'
  subst e1 y';exact⟨.refl,R,.str _⟩
 stop:=λS H ρ e R _=>by
  show(x.cps.toList.map λc=>A.str ⟨#[c]⟩).length=x.cps.size;rw[aH,dF]
def oU{c:Ex}(he:AE X e c):AI X tg e (oK c):=λpins s σ H Q I h9=>by
 room;have hb:=jK h
 cases hc:c τ S with
 | no=>rw[hc]at hb;exact hb.elim
 | ex x S1=>
  rw[hc]at hb;exact Qc he pins s σ H Q I ⟨ρ,S,τ,R,r,by rw[hc];exact hb⟩
 | ok a S1=>
  rw[hc]at hb
  cases a with
  | tup xs=>
   refine Qc he pins s σ H Q I ⟨ρ,S,τ,R,r,?_⟩;rw[hc];intro ρ1 H1 x e1 R1 v1
   cases v1 with
   | tup h1 r1=>exact⟨_,rfl,⟨_,(mO.of h1)⟩,hb ρ1 H1 _ e1 R1 (Xi (mO.of h1) r1)⟩
  | frz xs=>
   refine HG he pins s σ H Q I ⟨ρ,S,τ,R,r,?_⟩;rw[hc];intro ρ1 H1 x e1 R1 v1
   cases v1 with
   | frz h1 r1=>exact⟨_,rfl,⟨_,h1.Qv⟩,hb ρ1 H1 _ e1 R1 (Wb h1 r1)⟩
  | ref n=>
   obtain⟨xs,hn,hb⟩:=jO hb;refine HG he pins s σ H Q I ⟨ρ,S,τ,R,r,?_⟩;rw[hc];intro ρ1 H1 x e1 R1 v1
   cases v1 with
   | ref hp=>
    obtain⟨vs,h1,r1⟩:=R1.lst hp (jT hn);exact⟨_,rfl,⟨_,qa.of h1⟩,hb ρ1 H1 _ e1 R1 (PM hp)⟩
  | str x=>
   obtain⟨ha,hb⟩:=j3 hb;refine WL he pins s σ H Q I ⟨ρ,S,τ,R,r,?_⟩;rw[hc];intro ρ1 H1 v e1 R1 v1
   cases v1 with
   | str=>exact⟨x,rfl,ha,hb ρ1 H1 _ e1 R1 WQ⟩
  | _=>exact hb.elim
abbrev bnd (i:Int):Prop:=-(2 ^ 62)<=i/\i<2 ^ 62
instance (i:Int):Decidable (bnd i):=by unfold bnd;infer_instance
abbrev uv (c:Ex):Ic:=λτ S=>(c τ S).bind λa S1=>match a with
 | .int j=>gd (bnd j) (.ok (qL 0 j) S1)
 | _=>.no
abbrev yp (c d:Ex):Ic:=λτ S=>(c τ S).bind λa S1=>(d τ S1).bind λb S2=>match a,b with
 | .int i,.int j=>gd (bnd i/\bnd j) (.ok (qL i j) S2)
 | _,_=>.no
def tR{p:Pos}{c:Ex}(hm:X.mg "range" = none)(ha:AE X a c)(hg:Gl X "range" := by rfl)(hs:starEach [a] X.env=[(false,eval a X.env)]:=by rfl):AI X tg (.Call (.Name "range" p) [a] [] pos) (uv c):=λpins s σ H Q I h9=>by
 room;refine J6 hg hm (qk ha wA hs) hs pins s σ H Q I ⟨ρ,S,τ,R,r,jG (jK h) .refl λx S1 h1 ρ1 H1 v e1 R1 v1=>?_⟩
 cases v1 with
 | int j=>
  obtain⟨hb,h1⟩:=j3 h1;exact⟨_,rfl,hb.1,hb.2,by have:=h1 ρ1 H1 _ e1 R1 NF;rwa [Int.sub_zero]at this⟩
 | _=>exact h1.elim
def KI{p:Pos}{c d:Ex}(hm:X.mg "range" = none)(ha:AE X a c)(hb:AE X b d)(hg:Gl X "range" := by rfl)(hs:starEach [a,b] X.env=[(false,eval a X.env),(false,eval b X.env)]:=by rfl)(hs2:starEach [b] X.env=[(false,eval b X.env)]:=by rfl):AI X tg (.Call (.Name "range" p) [a,b] [] pos) (yp c d):=λpins s σ H Q I h9=>by
 room;refine Ke hg hm (qk ha (qk hb wA hs2) (by rw[hs,hs2])) hs hs2 pins s σ H Q I ⟨ρ,S,τ,R,r,jG (jK h) .refl λx S1 h1 ρ1 H1 v e1 R1 v1=>⟨ρ1,S1,τ,R1,r.ext e1,jG (jK h1) e1 λy S2 h2 ρ2 H2 w e2 R2 v2=>?_⟩⟩
 cases v1 with
 | int i=>
  cases v2 with
  | int j=>
   obtain⟨hb,h2⟩:=j3 h2;exact⟨_,_,rfl,⟨hb.1.1,hb.1.2,hb.2.1,hb.2.2⟩,h2 ρ2 H2 _ (e1.trans e2) R2 NF⟩
  | _=>exact h2.elim
 | _=>exact h2.elim
abbrev C_ (xs:ae):Src:=⟨xs.length,λi _=>(xs[i]?).map λx=>.tup [.int i,x],λ_=>true⟩
abbrev QK (c:Ex):Ic:=λτ S=>(c τ S).bind λa S1=>match a with
 | .tup xs=>.ok (C_ xs) S1
 | _=>.no
def W7{K:au}{H0:Hp}{p:ak}(h:mO K H0 p vs)(r:AVs K ρ0 H0 xs vs):JR K (C_ xs) (Ite K p) ρ0 H0 where
 go:=λi S H ρ x e R g=>by
  obtain⟨y,hy,rfl⟩:=a_.mp (show(xs[i]?).map (λx=>A.tup [.int i,x])=some x from g);obtain⟨v,ev,av⟩:=(AVs.nF e r).get hy;have hs:=e.ZY h;refine⟨⟨vs,v,hs,ev⟩,λw H' q=>?_⟩;obtain⟨pp,hp,rfl,hz⟩:=q;have hz':=hz vs v hs ev;subst hz';obtain⟨ex,R'⟩:=R.im (u:=.tup [.int i,v]) hp;exact⟨ex,R',.tup ko (.cons (.int _) (.cons (av.ext ex) .nil))⟩
 stop:=λS H ρ e R _=>⟨vs,e.ZY h,by rw[<- r.length];rfl⟩
def W6{p:Pos}{c:Ex}(hm:X.mg "enumerate" = none)(ha:AE X a c)(hg:Gl X "enumerate" := by rfl)(hs:starEach [a] X.env=[(false,eval a X.env)]:=by rfl):AI X (.Tuple elts x1 tpos) (.Call (.Name "enumerate" p) [a] [] pos) (QK c):=λpins s σ H Q I h9=>by
 room;refine NS hg hm (qk ha wA hs) hs pins s σ H Q I ⟨ρ,S,τ,R,r,jG (jK h) .refl λx S1 h1 ρ1 H1 v e1 R1 v1=>?_⟩
 cases v1 with
 | tup h2 r2=>exact⟨_,_,rfl,(mO.of h2),h1 ρ1 H1 _ e1 R1 (W7 (mO.of h2) r2)⟩
 | _=>exact h1.elim
abbrev qw (s:Src)(g:Tg)(c:Sm):Nat->Nat->Sm
 | 0,_=>λτ S=>if s.fin S then .nx τ S else .no
 | k+1,i=>λτ S=>match s.get i S with
  | none=>.no
  | some x=>.of (g x τ S) λτ1 S1=>match c τ1 S1 with
   | .nx τ' S'=>qw s g c k (i+1) τ' S'
   | .ct τ' S'=>qw s g c k (i+1) τ' S'
   | .bk τ' S'=>.nx τ' S'
   | r=>r
abbrev nj (src:Ic)(g:Tg)(c:Sm):Sm:=λτ S=>.of (src τ S) λs S1=>qw s g c s.k 0 τ S1
def p6{iter:aC}{src:Ic}{g:Tg}{c:Sm}(hp:PassesOwn (model X.prog X.w) X.A X.env X.xe)(hc:X.calm=true)(hi:AI X tg iter src)(hg:AG X tg g)(hb:K9 X body c)
  (hs:∀x,foldedSetIterable iter X.env x=pure x:=by intro _;rfl):AS X (.For tg iter body [] pos) (nj src g c):=PS.imp (Vt hp hc hi hg hb hs) λD σ H h9=>by
 room;refine⟨ρ,S,τ,R,r,jG (of_post h) .refl λs S1 h1 ρ1 H1 J e1 R1 jr=>?_⟩;refine⟨λi m σ' H'=>m+i=s.k/\∃ρ' S' τ',Ext ρ1 ρ' H1 H'/\Rel X.K ρ' H' S'/\SR X.K ρ' H' τ' σ'/\yV X ρ' H' D (qw s g c m i τ' S'),⟨s.k,rfl,ρ1,S1,τ,.refl,R1,r.ext e1,yV.ext h1 e1⟩,?_⟩;rintro i m σ2 H2 ⟨hm,ρ2,S2,τ2,e2,R2,r2,h2⟩
 cases m with
 | zero=>
  left;have h2:yV X ρ2 H2 D (if s.fin S2 then .nx τ2 S2 else .no):=h2
  cases hf:s.fin S2 with
  | false=>rw[hf]at h2;exact h2.elim
  | true=>
   rw[hf]at h2;refine⟨by rw[show i=s.k by lia];exact jr.stop S2 H2 ρ2 e2.toExt0 R2 hf,h2 ρ2 H2 σ2 .refl R2 r2⟩
 | succ m=>
  right;have h2:yV X ρ2 H2 D (match s.get i S2 with
   | none=>.no
   | some x=>.of (g x τ2 S2) λτ1 S1=>match c τ1 S1 with
    | .nx τ' S'=>qw s g c m (i+1) τ' S'
    | .ct τ' S'=>qw s g c m (i+1) τ' S'
    | .bk τ' S'=>.nx τ' S'
    | r=>r):=h2
  cases hx:s.get i S2 with
  | none=>rw[hx]at h2;exact h2.elim
  | some x=>
   rw[hx]at h2;obtain⟨hgo,hy⟩:=jr.go i S2 H2 ρ2 x e2.toExt0 R2 hx;refine⟨hgo,λσ' H'=>m+(i+1)=s.k/\∃ρ' S' τ',Ext ρ1 ρ' H1 H'/\Rel X.K ρ' H' S'/\SR X.K ρ' H' τ' σ'/\yV X ρ' H' D (qw s g c m (i+1) τ' S'),λσ' H' z=>⟨m,fL _,z⟩,λv H3 y=>?_⟩;obtain⟨e3,R3,v3⟩:=hy v H3 y;refine⟨ρ2,S2,τ2,x,R3,r2.ext e3,v3,jG (of_post h2) e3 λτ4 S4 h4 ρ4 H4 σ4 e4 R4 r4=>⟨ρ4,S4,τ4,R4,r4,?_⟩⟩;have e24:=e3.trans e4
   cases hcc:c τ4 S4 with
   | nx τ5 S5=>rw[hcc]at h4;exact λρ5 H5 σ5 e5 R5 r5=>⟨(),ρ5,S5,τ5,(e2.trans e24).trans e5,R5,r5,yV.ext h4 (e24.trans e5)⟩
   | ct τ5 S5=>rw[hcc]at h4;exact λρ5 H5 σ5 e5 R5 r5=>⟨(),ρ5,S5,τ5,(e2.trans e24).trans e5,R5,r5,yV.ext h4 (e24.trans e5)⟩
   | bk τ5 S5=>rw[hcc]at h4;exact OH.ext h4 e24
   | rt x5 S5=>rw[hcc]at h4;exact zV.ext h4 e24
   | ex x5 S5=>rw[hcc]at h4;exact XE.ext h4 e24
   | no=>rw[hcc]at h4;exact h4
end
abbrev R.p7 {α β:Type}(r:R α)(f:α->jE->R β):R β:=match r with
 | .ok a S=>f a S
 | _=>.no
def vR{α β:Type}{r:R α}{f:α->jE->R β}{b:β}(h:r.p7 f=.ok b S2):∃a S,r=.ok a S/\f a S=.ok b S2:=by
 cases r with
 | ok a S=>exact⟨a,S,rfl,h⟩
 | ex _ _=>cases h
 | no=>cases h
def F8{α β:Type}{r:R α}{f:α->jE->R β}{P:β->jE->Prop}{E:Str->jE->Prop}(h:(r.p7 f).post P E):∃a S,r=.ok a S/\(f a S).post P E:=by
 cases r with
 | ok a S=>exact⟨a,S,rfl,h⟩
 | ex _ _=>exact h.elim
 | no=>exact h.elim
def V7{α β:Type}{o:Option β}{f:β->R α}{a:α}(h:opt o f=.ok a S):∃b,o=some b/\f b=.ok a S:=by
 cases o with
 | none=>cases h
 | some b=>exact⟨b,rfl,h⟩
abbrev lJ (s:Src)(g:Tg)(t:Te)(e:Ex):Nat->Nat->ae->jE->R (ae)
 | 0,_=>λ_ S=>if s.fin S then .ok [] S else .no
 | k+1,i=>λτ S=>opt (s.get i S) λx=>(g x τ S).p7 λτ1 S1=>(t τ1 S1).p7 λb S2=>match b with
  | true=>(e τ1 S2).p7 λy S3=>(lJ s g t e k (i+1) τ1 S3).p7 λys S4=>.ok (y::ys) S4
  | false=>lJ s g t e k (i+1) τ1 S2
abbrev l9 (cap:List (bp))(τ:ae):ae:=cap.map λo=>match o with
 | some j=>τ.getD j .unb
 | none=>.unb
abbrev kZ (cap:List (bp))(src:Ic)(g:Tg)(t:Te)(e:Ex):Ex:=λτ S=>(src τ S).bind λs S1=>(lJ s g t e s.k 0 (l9 cap τ) S1).p7 λys S2=>newL ys S2
abbrev qb:Te:=λ_ S=>.ok true S
def EI{s:Src}{g:Tg}{t:Te}{e:Ex}{k:Nat}{T:Prop}(h:lJ s g t e (k+1) i τ S=.ok zs S')
  (q:∀x τ1 S1 b S2,s.get i S=some x->g x τ S=.ok τ1 S1->t τ1 S1=.ok b S2->(b=true->∃y S3 ws,e τ1 S2=.ok y S3/\lJ s g t e k (i+1) τ1 S3=.ok ws S'/\zs=y::ws)->(b=false->lJ s g t e k (i+1) τ1 S2=.ok zs S')->T):T:=by
 obtain⟨x,hx,h⟩:=V7 h;obtain⟨τ1,S1,h1,h⟩:=vR h;obtain⟨b,S2,h2,h⟩:=vR h;refine q x τ1 S1 b S2 hx h1 h2 (λhb=>?_) λhb=>?_
 ·subst hb;obtain⟨y,S3,h3,h⟩:=vR h;obtain⟨ws,S4,h4,h⟩:=vR h
  cases h
  exact⟨y,S3,ws,h3,h4,rfl⟩
 ·subst hb;exact h
structure Out (ρ1:bb)(H1:Hp)(D:ak)(accV:List V)(ρ:bb)(H:Hp):Prop where
 e0:Ext0 ρ1 ρ H1 H
 fr:∀a u,a≠D->H1 a=some u->a∉ρ1->H a=some u
 nw:∀a∈ρ,a∈ρ1\/H1 a=none
 nD:D∉ρ
 hD:H D=some (.lst accV)
def Out.stay{H1 H3 H7:Hp}{D:ak}(o:Out ρ1 H1 D accV ρ3 H3)(hD1:H1 D=none)(e7:Ext ρ3 ρ7 H3 H7):Out ρ1 H1 D accV ρ7 H7:=by
 refine⟨⟨o.e0.pre.trans e7.pre,λa u i h=>e7.im a u i (o.e0.im a u i h)⟩,λa u na hu nr=>e7.fr a u (o.fr a u na hu nr) λz=>(o.nw a z).elim nr λz=>by(rw[z]at hu;cases hu),λa ha=>?_,λz=>(e7.nw D z).elim o.nD λz=>by(rw[o.hD]at z;cases z),e7.fr D _ o.hD o.nD⟩;by_cases hr:a∈ρ1
 ·exact .inl hr
 ·right
  cases q:H1 a with
  | none=>rfl
  | some u=>
   have aD:a≠D:=jU q hD1
   rcases e7.nw a ha with z|z
   ·exact((o.nw a z).elim hr λz=>by(rw[z]at q;cases q)).elim
   ·rw[o.fr a u aD q hr]at z;cases z
def Out.put{H1 H:Hp}{D:ak}(o:Out ρ1 H1 D accV ρ H)(ex:Ext0 ρ ρ H (upd H D (.lst vs))):Out ρ1 H1 D vs ρ (upd H D (.lst vs)):=
 ⟨⟨o.e0.pre,λa u i h=>ex.im a u i (o.e0.im a u i h)⟩,λa u na hu nr=>by rw[jM na];exact o.fr a u na hu nr,o.nw,o.nD,ko⟩
def Out.end{H1 H:Hp}{D:ak}(o:Out ρ1 H1 D accV ρ H)(hD:H1 D=none):Ext ρ1 (ρ++[D]) H1 H:=by
 refine⟨⟨o.e0.pre.trans (fV _ _),o.e0.im⟩,λa u hu na=>o.fr a u (jU hu hD) hu na,λa ha=>?_⟩
 rcases bI.mp ha with z|z
 ·exact o.nw a z
 ·have:a=D:=by simpa using z
  rw[this];exact .inr hD
abbrev Cq (K:au)(ρ1:bb)(H1:Hp)(D:ak)(ys:ae)(k:Nat)(E:bb->Hp->Prop)(P:Nat->Nat->ae->jE->ae->Prop)(i m:Nat)(σ:L2.St)(H:Hp):Prop:=
 m+i=k/\∃ρ S τ acc zs accV,Out ρ1 H1 D accV ρ H/\E ρ H/\Rel K ρ H S/\SR K ρ H τ σ/\AVs K ρ H acc accV/\P m i τ S zs/\acc++zs=ys
section
variable {K:au}{ρ1 ρ:bb}{H1 H:Hp}{D:ak}{ys acc zs:ae}{accV:List V}{k i m:Nat}{E:bb->Hp->Prop}{P:Nat->Nat->ae->jE->ae->Prop}{σ:L2.St}{S:jE}{τ:ae}
def Cq.el{T:Prop}(h:Cq K ρ1 H1 D ys k E P i m σ H)(q:∀ρ S τ acc zs accV,m+i=k->Out ρ1 H1 D accV ρ H->E ρ H->Rel K ρ H S->SR K ρ H τ σ->AVs K ρ H acc accV->P m i τ S zs->acc++zs=ys->T):T:=by
 obtain⟨hm,ρ,S,τ,acc,zs,accV,h1,h2,h3,h4,h5,h6,h7⟩:=h;exact q ρ S τ acc zs accV hm h1 h2 h3 h4 h5 h6 h7
def Cq.of(hm:m+i=k)(o:Out ρ1 H1 D accV ρ H)(e:E ρ H)(R:Rel K ρ H S)(r:SR K ρ H τ σ)(v:AVs K ρ H acc accV)(p:P m i τ S zs)(q:acc++zs=ys):Cq K ρ1 H1 D ys k E P i m σ H:=⟨hm,ρ,S,τ,acc,zs,accV,o,e,R,r,v,p,q⟩
end
abbrev Yw (K:au)(c:Ex):TE:=λσ H Q=>∃ρ S τ a S',Rel K ρ H S/\SR K ρ H τ σ/\c τ S=.ok a S'/\∀ρ' H' v,Ext ρ ρ' H H'->Rel K ρ' H' S'->AV K ρ' H' a v->Q v H'
abbrev XS (K:au)(c:Te):TT:=λσ H Q=>∃ρ S τ a S',Rel K ρ H S/\SR K ρ H τ σ/\c τ S=.ok a S'/\∀ρ' H',Ext ρ ρ' H H'->Rel K ρ' H' S'->Q a H'
abbrev Yi (K:au)(g:Tg):TG:=λv σ H Q=>∃ρ S τ a τ' S',Rel K ρ H S/\SR K ρ H τ σ/\AV K ρ H a v/\g a τ S=.ok τ' S'/\∀ρ' H' σ',Ext ρ ρ' H H'->Rel K ρ' H' S'->SR K ρ' H' τ' σ'->Q σ' H'
section
variable {X:Cx}{pos:Pos}{tg iter elt e:aC}{ifs:List aC}{scope:Scope}{N:ar}{cap:List (bp)}{src:Ic}{g:Tg}{t:Te}{c:Ex}
def AE.e0{K:au}(hK:X.K=K)(h:AE X e c):PE X e (Yw K c):=PE.imp h λσ H Q ⟨ρ,S,τ,a,S',R,r,hc,q⟩=>⟨ρ,S,τ,by rw[hK];exact R,by rw[hK];exact r,by rw[hc];exact λρ' H' v e R' v'=>q ρ' H' v e (by rw[<- hK];exact R') (by rw[<- hK];exact v')⟩
def AT.t0{K:au}(hK:X.K=K)(h:AT X e t):PT X e (XS K t):=PT.imp h λσ H Q ⟨ρ,S,τ,a,S',R,r,hc,q⟩=>⟨ρ,S,τ,by rw[hK];exact R,by rw[hK];exact r,by rw[hc];exact λρ' H' e R'=>q ρ' H' e (by rw[<- hK];exact R')⟩
def AG.g0{K:au}(hK:X.K=K)(h:AG X e g):PG X e (Yi K g):=PG.imp h λv σ H Q ⟨ρ,S,τ,a,τ',S',R,r,va,hc,q⟩=>⟨ρ,S,τ,a,by rw[hK];exact R,by rw[hK];exact r,by rw[hK];exact va,by rw[hc];exact λρ' H' v e R' v'=>q ρ' H' v e (by rw[<- hK];exact R') (by rw[<- hK];exact v')⟩
abbrev Ze (X:Cx)(ifs:List aC)(t:Te):Prop:=Vq X ifs (XS X.K t)
def uQ:Ze X [] qb:=λpins s σ H Q I ⟨ρ,S,τ,a,S',R,r,hc,q⟩=>Ss pins s σ H Q I (by cases hc;exact q ρ H .refl R)
def Cu(h:AT X e t):Ze X [e] t:=Ru (h.t0 rfl)
def ZG{K:au}{H:Hp}(r:SR K ρ H τ σ)(cap:List (bp)):SR K ρ H (l9 cap τ) (cap.map (WM σ)):=by
 refine⟨by simp[l9],λi a h=>?_⟩;unfold l9 at h;rw[aS]at h;obtain⟨o,ho,e⟩:=a_.mp h
 cases o with
 | none=>exact .inl e.symm
 | some j=>
  have e:τ.getD j .unb=a:=e
  cases hj:τ[j]? with
  | none=>rw[aJ,hj]at e;exact .inl e.symm
  | some b=>
   rw[aJ,hj]at e;have e:b=a:=e;subst e
   rcases r.at j b hj with z|⟨v,h1,h2⟩
   ·exact .inl z
   ·exact .inr ⟨v,by rw[aS,ho];show some ((σ[j]?).getD none)=_;rw[h1];rfl,h2⟩
def Rel.Pb{K:au}{H:Hp}{p:ak}(R:Rel K ρ H S)(hp:H p=none):p∉ρ:=λhm=>by
 obtain⟨n,hn,e⟩:=List.mem_iff_getElem.mp hm;have hl:n<S.length:=by rw[<- R.len];exact hn
 have:=R.at n p S[n] (by rw[aG hn,e]) (aG hl)
 cases ho:S[n]with
 | lst xs=>rw[ho]at this;obtain⟨vs,h,_⟩:=this;rw[hp]at h;cases h
 | dct _|qM _=>rw[ho]at this;obtain⟨vs,h,_⟩:=this;rw[hp]at h;cases h
 | ins _ _=>rw[ho]at this;obtain⟨_,_,h⟩:=this;rw[hp]at h;cases h
def yD(σ:L2.St)(H:Hp)(Q:VK)(h:tE X (kZ cap src g t c) σ H Q):Y6 cap (tI X src) (Yi X.K g) (XS X.K t) (Yw X.K c) σ H Q:=by
 kpc_g;refine⟨ρ,S,τ,R,r,jG (jK h) .refl λs S1 h1 ρ1 H1 J e1 R1 jr D hD=>?_⟩;obtain⟨ys,S2,hcg,h1⟩:=F8 h1;obtain⟨hlen,h1⟩:=j3 h1;have h1:zV X ρ H Q (.ref S2.length) (S2++[.lst ys]):=h1;obtain⟨eD,RD⟩:=R1.im (u:=.lst []) hD;refine⟨Cq X.K ρ1 H1 D ys s.k (λ_ _=>True) λm i τ S zs=>lJ s g t c m i τ S=.ok zs S2,⟨s.k,.of rfl ⟨eD.toExt0,λa u na hu _=>by rw[jM na];exact hu,λa ha=>.inl ha,R1.Pb hD,ko⟩ trivial RD (ZG ((r.ext e1).ext eD) cap) .nil hcg rfl⟩,?_⟩;intro i m σ3 H3 hw;refine hw.el λρ3 S3 τ3 acc zs accV hm o3 _ R3 r3 ac3 cg3 eys=>?_;clear hw
 cases m with
 | zero=>
  left;have cg3:(if s.fin S3 then Am.R.ok [] S3 else .no)=.ok zs S2:=cg3
  cases hf:s.fin S3 with
  | false=>rw[hf]at cg3;cases cg3
  | true=>
   rw[hf]at cg3
   cases cg3
   rw[bU]at eys;subst eys;refine⟨by rw[show i=s.k by lia];exact jr.stop _ H3 ρ3 o3.e0 R3 hf,?_⟩;obtain⟨RT,gt⟩:=R3.take o3.hD o3.nD ac3;exact h1 (ρ3++[D]) H3 _ (e1.trans (o3.end hD)) RT (.ref gt)
 | succ m=>
  right;refine EI cg3 λx τ4 S4 b S5 hx hg4 ht5 hT hF=>?_;have jg:=jr.go i S3 H3 ρ3 x o3.e0 R3 hx;refine⟨jg.1,λv H4 y=>?_⟩;obtain⟨e4,R4,v4⟩:=jg.2 v H4 y;refine⟨ρ3,S3,τ3,x,τ4,S4,R4,r3.ext e4,v4,hg4,λρ5 H5 σ5 e5 R5 r5=>⟨ρ5,S4,τ4,b,S5,R5,r5,ht5,λρ6 H6 e6 R6=>?_⟩⟩;have e36:=(e4.trans e5).trans e6
  cases b with
  | false=>
   dsimp only;rw[aI bG];exact⟨m,fL _,.of () (o3.stay hD e36) trivial R6 (r5.ext e6) (ac3.ext e36) (hF rfl) eys⟩
  | true=>
   dsimp only;rw[aK rfl];obtain⟨y,S6,ws,he6,cg6,ezs⟩:=hT rfl;refine⟨ρ6,S5,τ4,y,S6,R6,r5.ext e6,he6,λρ7 H7 w e7 R7 v7=>?_⟩;have o7:=o3.stay hD (e36.trans e7);obtain⟨ex8,R8⟩:=R7.out (ws:=accV++[w]) o7.hD o7.nD;have l1:=ac3.length;refine⟨accV,o7.hD,?_,m,fL _,.of () (o7.put ex8) trivial R8 ((r5.ext (e6.trans e7)).nF ex8) (AVs.nF ex8 ((ac3.ext (e36.trans e7)).append (.one v7))) cg6 ?_⟩
   ·have:(acc++zs).length<=sizeLine:=by rw[eys];exact hlen
    rw[ezs,aR,bC]at this
    lia
   ·rw[cD,<- eys,ezs];rfl
def t9(hc:X.calm=true)(Sc:CpScope X scope N cap)(hi:AI X tg iter src)(hg:∀C s₀ H₀ ex,AG (nh X scope N C s₀ H₀ ex) tg g)(ht:∀C s₀ H₀ ex,Ze (nh X scope N C s₀ H₀ ex) ifs t)(he:∀C s₀ H₀ ex,AE (nh X scope N C s₀ H₀ ex) elt c)
  (hs:∀x,foldedSetIterable iter X.env x=pure x:=by intro _;rfl):AE X (.ListComp elt [⟨tg,iter,ifs,0⟩] scope pos) (kZ cap src g t c):=
 PE.imp (YI hc Sc hi (g:=Yi X.K g) (tc:=XS X.K t) (te:=Yw X.K c) (λC s₀ H₀ ex=>(hg C s₀ H₀ ex).g0 rfl) (λC s₀ H₀ ex=>ht C s₀ H₀ ex) (λC s₀ H₀ ex=>(he C s₀ H₀ ex).e0 rfl) hs) yD
def QA{i:Nat}{x:Str}{spos:Pos}(hN:X.N.Nodup)(hc:X.calm=true)(Sc:CpScope X scope N cap)(hi:AI X tg iter src)(hg:∀C s₀ H₀ ex,AG (nh X scope N C s₀ H₀ ex) tg g)(ht:∀C s₀ H₀ ex,Ze (nh X scope N C s₀ H₀ ex) ifs t)(he:∀C s₀ H₀ ex,AE (nh X scope N C s₀ H₀ ex) elt c)
  (hi':X.N[i]?=some x:=by rfl) (hx:Loc X.env.scope x:=by first|exact Or.inl rfl|exact Or.inr rfl)
  (hsw:swapsWith (.ListComp elt [⟨tg,iter,ifs,0⟩] scope pos) (some (.Name x pos')) spos.line X.env=pure true:=by rfl) (hf:X.fn x=true\/X.env.scope.names.lookup x=some .local:=by first|exact .inl rfl|exact .inr rfl|assumption)
  (hs:∀x,foldedSetIterable iter X.env x=pure x:=by intro _;rfl):AS X (.Assign [.Name x pos'] (.ListComp elt [⟨tg,iter,ifs,0⟩] scope pos) spos) (kD (kZ cap src g t c) (kQ i)):=
 PS.imp (Qk hN hi' hx hc Sc hi (g:=Yi X.K g) (tc:=XS X.K t) (te:=Yw X.K c) (λC s₀ H₀ ex=>(hg C s₀ H₀ ex).g0 rfl) (λC s₀ H₀ ex=>ht C s₀ H₀ ex) (λC s₀ H₀ ex=>(he C s₀ H₀ ex).e0 rfl) hsw hf hs) λD σ H ⟨ρ,S,τ,R,r,h⟩=>
  yD σ H _ ⟨ρ,S,τ,R,r,jG (of_post h) .refl λa S1 h1 ρ1 H1 x e1 R1 v1=>h1 ρ1 H1 _ e1 R1 ((r.ext e1).set v1)⟩
end
abbrev A.lst? (S:jE):A->Option (ae)
 | .ref n=>jC S n
 | _=>none
abbrev XM (f:A->ae->jE->R A)(co:Ex)(d:qc):Ex:=λτ S=>(co τ S).bind λo S1=>opt (o.lst? S1) λ_=>(d τ S1).bind λas S2=>f o as S2
abbrev aan (f:A->ae->jE->R A)(co:Ex):Ex:=λτ S=>(co τ S).bind λo S1=>opt (o.lst? S1) λ_=>f o [] S1
abbrev rM (X:Cx)(f:A->ae->jE->R A):V->List V->Hp->VK->Prop:=λx vs H Q=>∃ρ S o as,Rel X.K ρ H S/\AV X.K ρ H o x/\AVs X.K ρ H as vs/\(f o as S).post (zV X ρ H Q) (XE X ρ H)
section
variable {X:Cx}{apos cpos:Pos}{o e:aC}{es:List aC}{name:Str}{id:String}{f:A->ae->jE->R A}{co:Ex}{d:qc}
def lst?_ty{K:au}{H:Hp}{x:A}{v:V}(R:Rel K ρ H S)(h:AV K ρ H x v)(e:x.lst? S=some xs):X3 K "list" v H:=by
 cases h with
 | ref h=>
  obtain⟨vs,h1,_⟩:=R.lst h (jT e);exact .inl ⟨rfl,vs,qa.of h1⟩
 | _=>cases e
def LF(slot:Slot "list" name id)(hty:typeOf (.builtin id)=pure (.type "method_descriptor"))(hm:TQ X id (rM X f))(ho:AE X o co)(ha:AL X (e::es) d)
  (hbase:attributeBase o name X.env (eval o X.env)=eval o X.env:=by rfl)
  (hfew:((backTo cpos (starEach (e::es) X.env)).all (λx=>!x.1) && (backToKw cpos (keywordEach [] X.env)).all (λx=>x.1.isSome)
   && decide ((e::es).length+([]:List Keyword).length+(if ([]:List Keyword).isEmpty then 0 else 1)<30))=true:=by rfl)
  (hline:(apos.endLine == cpos.line)=true:=by rfl) (hs:starEach (e::es) X.env=(false,eval e X.env)::starEach es X.env:=by rfl) (hplain:(backTo cpos (starEach es X.env)).any (·.1)=false:=by rfl) :
  AE X (.Call (.Attribute o name apos) (e::es) [] cpos) (XM f co d):=PE.imp (M7 PySem.F.plainAttrs_list slot hty hm ho ha hbase hfew hline hs hplain) λσ H Q h9=>by
 room;refine⟨ρ,S,τ,R,r,jG (jK h) .refl λx S1 h1 ρ1 H1 v e1 R1 v1=>?_⟩;obtain⟨xs,hx,h1⟩:=jO h1;refine⟨lst?_ty R1 v1 hx,ρ1,S1,τ,R1,r.ext e1,jG (jK h1) e1 λas S2 h2 ρ2 H2 vs e2 R2 v2=>?_⟩;exact⟨ρ2,S2,x,as,R2,v1.ext e2,v2,jG h2 (e1.trans e2) λ_ _ z=>z.ext (e1.trans e2)⟩
abbrev vQ (o:A)(as:ae)(S:jE):R A:=match o,as with
 | .ref n,[x]=>opt (jC S n) λxs=>gd (xs.length<sizeLine) (.ok .non (S.set n (.lst (xs++[x]))))
 | _,_=>.no
def EG:TQ X "list.append" (rM X vQ):=λpins s σ H x vs v us Q I rx rv h9=>by
 obtain⟨ρ,S,o,as,R,vo,va,h⟩:=h9
 cases vo with
 | @ref p n hp=>
  match as,va,h with
  | [],_,h=>exact h.elim
  | _::_::_,_,h=>exact h.elim
  | [y],va,h=>
   obtain⟨w,rfl,hw⟩:=QY va;kj_on;obtain⟨hl,h⟩:=j3 h;obtain⟨ws,h1,r⟩:=R.lst hp (jT hn);obtain⟨ex,R'⟩:=R.put hp (jT hn) (r.append (.one hw));exact Bm pins s σ H _ _ v us Q I rx rv ⟨p,ws,w,rfl,rfl,h1,by rw[<- r.length];exact hl,h _ _ _ ex R' .non⟩
 | _=>exact h.elim
abbrev Gb (o:A)(as:ae)(S:jE):R A:=match o,as with
 | .ref n,[.int i]=>opt (jC S n) λxs=>gd (-(2 ^ 63)<=i/\i<2 ^ 63) (opt (seqIndex? i xs.length) λk=>opt (xs[k]?) λx=>.ok x (S.set n (.lst (xs.eraseIdx k))))
 | _,_=>.no
def Rg:TQ X "list.pop" (rM X Gb):=λpins s σ H x vs v us Q I rx rv h9=>by
 obtain⟨ρ,S,o,as,R,vo,va,h⟩:=h9
 cases vo with
 | @ref p n hp=>
  match as,va,h with
  | [],_,h=>exact h.elim
  | y::_::_,_,h=>exact(by cases y<;>exact h.elim)
  | [y],va,h=>
   obtain⟨w,rfl,hw⟩:=QY va
   cases hw with
   | int i=>
    kj_on;obtain⟨hi,h⟩:=j3 h;obtain⟨k,hk,h⟩:=jO h;obtain⟨y,hy,h⟩:=jO h;obtain⟨ws,h1,r⟩:=R.lst hp (jT hn);obtain⟨w,hw,vw⟩:=r.get hy;obtain⟨ex,R'⟩:=R.put hp (jT hn) (r.eraseIdx k);exact Ou pins s σ H _ _ v us Q I rx rv ⟨p,ws,i,k,w,rfl,rfl,h1,hi.1,hi.2,by rw[<- r.length];exact hk,hw,h _ _ _ ex R' (vw.ext ex)⟩
   | _=>exact h.elim
 | _=>exact h.elim
end
abbrev lV (N:ar)(m:Sm)(as:ae)(S:jE):R A:=match m (as++List.replicate (N.length-as.length) .unb) S with
 | .rt a S'=>.ok a S'
 | .nx _ S'=>.ok .non S'
 | .ex c S'=>.ex c S'
 | _=>.no
abbrev uz (K:au)(n:Nat)(F:ae->jE->R A):Sp:=λvs H Q _=>vs.length=n/\∃ρ S as a S',Rel K ρ H S/\AVs K ρ H as vs/\F as S=.ok a S'/\∀ρ' H' v,Ext ρ ρ' H H'->Rel K ρ' H' S'->AV K ρ' H' a v->Q v H'
def CB{K:au}{H:Hp}{as:ae}(r:AVs K ρ H as vs)(N:ar):SR K ρ H (as++List.replicate (N.length-as.length) .unb) (L2.start N vs):=by
 have hl:=r.length;refine⟨by unfold L2.start;simp[hl],λi a h=>?_⟩;by_cases hi:i<as.length
 ·rw[bH hi]at h;obtain⟨v,hv,av⟩:=r.get h;exact .inr ⟨v,by unfold L2.start;rw[bH (by simp;lia),aS,hv];rfl,av⟩
 ·rw[f_ (),gR]at h;split at h
  ·exact .inl (aW h).symm
  ·cases h
section
variable {P:aj}{w:ah}{K:au}{mg:Str->bd}{base:aq}
def Bo{x:Str}{st:aE}{f:ak}{N ps:ar}{k:Nat}{m:Sm}(F:Fun K x qual st f fd)(Sc:FnScope N ps (jL st))
  (body:∀(cdv:af) (A:az) (outer:List Env) (s:aA) (H:Hp) (E:XK),Room k (A.deeper (envOfC qual (jL st) s.heap.objs.size f cdv))->K9 (vh t_ P w K mg base N qual (jL st) f cdv A outer s H E).ZE (m_ st) m) :
  FnOk P w K mg base t_ (k+1) f fd ps (uz K ps.length (lV N m)):=by
 refine F.ok Sc (λvs H Q E h=>h.1) λcdv B outer s H vs Q E hr ⟨hl,ρ,S,as,a,S',R,va,hF,q⟩=>⟨_,body cdv B outer s H E hr,ρ,S,_,R,CB va N,?_⟩;unfold lV at hF
 cases hm:m (as++List.replicate (N.length-as.length) .unb) S with
 | rt b S2=>rw[hm]at hF;cases hF;exact q
 | nx τ S2=>rw[hm]at hF;cases hF;exact λρ' H' σ' e R' _=>q ρ' H' _ e R' .non
 | bk τ S2=>rw[hm]at hF;cases hF
 | ct τ S2=>rw[hm]at hF;cases hF
 | ex c S2=>rw[hm]at hF;cases hF
 | no=>rw[hm]at hF;cases hF
end
meta abbrev su (P:aj)(w:ah)(K:au)(mg:Str->bd)(base:aq)(k:Nat)(x:Str)(ps:ar)(F:ae->jE->R A):Prop:=Kn P w K mg base k x ps (uz K ps.length F)
abbrev eFn (F:ae->jE->R A)(d:qc):Ex:=λτ S=>(d τ S).bind λas S1=>match F as S1 with
 | .ok a S2=>.ok a S2
 | _=>.no
section
variable {X:Cx}{pos p:Pos}{e:aC}{es:List aC}{x:Str}{ps:ar}{k:Nat}{F:ae->jE->R A}{d:qc}
def G9(G:su X.prog X.w X.K X.mg X.base k x ps F)(hr:Room k X.A)(ha:AL X (e::es) d)(hl:∀τ S as S',d τ S=.ok as S'->as.length=ps.length)(hg:Gl X x:=by rfl)(hdb:(x == ("__debug__" : Str))=false:=by decide)
  (hs:starEach (e::es) X.env=(false,eval e X.env)::starEach es X.env:=by rfl) (hplain:(backTo pos (starEach es X.env)).any (·.1)=false:=by rfl):AE X (.Call (.Name x p) (e::es) [] pos) (eFn F d):=
 PE.imp (Yr G hr ha hg hdb hs hplain) λσ H Q h9=>by
  room;refine⟨ρ,S,τ,R,r,?_⟩;have hb:=jK h
  cases hd:d τ S with
  | no=>rw[hd]at hb;exact hb
  | ex c S1=>rw[hd]at hb;exact hb
  | ok as S1=>
   rw[hd]at hb;intro ρ1 H1 vs e1 R1 v1;rw[bU];refine⟨by rw[<- v1.length];exact hl τ S as S1 hd,ρ1,S1,as,?_⟩;have hb:Am.R.post (match F as S1 with
    | .ok a S2=>.ok a S2
    | _=>.no) (zV X ρ H Q) (XE X ρ H):=hb
   cases hF:F as S1 with
   | ok a S2=>rw[hF]at hb;exact⟨a,S2,R1,v1,rfl,λρ2 H2 v e2=>hb ρ2 H2 v (e1.trans e2)⟩
   | ex c S2=>rw[hF]at hb;exact hb.elim
   | no=>rw[hF]at hb;exact hb.elim
def nZ:∀τ S as S',jF τ S=.ok as S'->as.length=0:=λτ S as S' h=>by cases h;rfl
def kj{c:Ex}{d:qc}{n:Nat}(h:∀τ S as S',d τ S=.ok as S'->as.length=n):∀τ S as S',jy c d τ S=.ok as S'->as.length=n+1:=λτ S as S' e=>by
 unfold jy at e
 cases hc:c τ S with
 | ok a S1=>
  rw[hc]at e
  cases hd:d τ S1 with
  | ok bs S2=>
   have e:R.bind (d τ S1) (λas S2=>.ok (a::as) S2)=.ok as S':=e;rw[hd]at e;cases e;rw[bC,h τ S1 bs _ hd]
  | ex _ _=>
   have e:R.bind (d τ S1) (λas S2=>.ok (a::as) S2)=.ok as S':=e;rw[hd]at e;cases e
  | no=>
   have e:R.bind (d τ S1) (λas S2=>.ok (a::as) S2)=.ok as S':=e;rw[hd]at e;cases e
 | ex _ _=>rw[hc]at e;cases e
 | no=>rw[hc]at e;cases e
end
section
variable {X:Cx}{pos:Pos}{a b c:aC}
abbrev kCh (f':A->A->jE->R A)(cc:Ex)(τ:ae)(b k:A)(S:jE):R A:=match k with
 | .bl true=>(cc τ S).bind λc S4=>f' b c S4
 | .bl false=>.ok (.bl false) S
 | _=>.no
abbrev XJ (f f':A->A->jE->R A)(ca cb cc:Ex):Ex:=λτ S=>(ca τ S).bind λa S1=>(cb τ S1).bind λb S2=>(f a b S2).bind λk S3=>kCh f' cc τ b k S3
def Vn{f f':A->A->jE->R A}{ca cb cc:Ex}{H:Hp}{Q:VK}(h:tE X (XJ f f' ca cb cc) σ H Q):Ma (r2 X f) (r2 X f') (tE X ca) (tE X cb) (tE X cc) σ H Q:=by
 kpc_g;refine⟨ρ,S,τ,R,r,jG (jK h) .refl λa S1 h1 ρ1 H1 x e1 R1 v1=>⟨ρ1,S1,τ,R1,r.ext e1,jG (jK h1) e1 λb S2 h2 ρ2 H2 y e2 R2 v2=>?_⟩⟩;have e12:=e1.trans e2;refine⟨ρ2,S2,a,b,R2,v1.ext e2,v2,jG (jK h2) e12 λk S3 h3 ρ3 H3 z e3 R3 v3=>?_⟩;have e13:=e12.trans e3
 cases k with
 | bl k=>
  cases C5 v3
  refine⟨k,rfl,?_⟩
  cases k with
  | true=>
   rw[aK rfl];exact⟨ρ3,S3,τ,R3,r.ext e13,jG (jK h3) e13 λc S4 h4 ρ4 H4 w e4 R4 v4=>⟨ρ4,S4,b,c,R4,v2.ext (e3.trans e4),v4,jG h4 (e13.trans e4) λ_ _ q=>q.ext (e13.trans e4)⟩⟩
  | false=>
   rw[aI bG];exact h3 ρ3 H3 _ e13 R3 (.bl false)
 | _=>exact h3.elim
def YC{f f':A->A->jE->R A}{ca cb cc:Ex}(ho:oE X (compareOp op) (r2 X f))(ho':oE X (compareOp op') (r2 X f'))(ha:AE X a ca)(hb:AE X b cb)(hc:AE X c cc)(hm:lastMarks [op,op'] [b,c]=false:=by with_unfolding_all rfl) :
  AE X (.Compare a [op,op'] [b,c] pos) (XJ f f' ca cb cc):=PE.imp (M4 ho ho' ha hb hc hm) λ_ _ _ h=>Vn h
abbrev X_ (S:jE)(x:A):ae->bj
 | []=>some false
 | z::zs=>(se S 12 z x).bind λp=>(X_ S x zs).map λq=>p || q
abbrev aIn (neg:Bool)(x y:A)(S:jE):R A:=opt (y.seq S) λys=>opt (X_ S x ys) λb=>.ok (.bl (if neg then !b else b)) S
theorem B8{H:Hp}{x:A}{v:af}(I:Inv X pins σ H s)(R:Rel X.K ρ H S)(hu:X.A.units+64<cLine)(hx:AV X.K ρ H x vx)(rx:RelV vx v) :
  ∀{ys:ae} {us:List V} {its:ba} {b:Bool},AVs X.K ρ H ys us->Vals us its->X_ S x ys=some b->∃e:af->Bool,(∀w∈its,SeqAt.EqAt X.A.in1 s w v (e w))/\its.any e=b
 | _,_,_,b,.nil,.nil,h=>⟨λ_=>false,(λw hw=>by cases hw),aW h⟩
 | z::zs,u::us,w0::its,b,.cons hz hzs,.cons r rs,h=>by
  classical
  obtain⟨p,hp,h⟩:=cO.mp h;obtain⟨q,hq,h⟩:=a_.mp h;obtain⟨e,he,ha⟩:=B8 I R hu hx rx hzs rs hq;have h0:=(JM I R 12 X.A.in1 z x u vx w0 v p (by rw[in1_units];omega) hz hx r rx hp).2.1;subst h
  cases p with
  | true=>
   refine⟨λw=>if w=w0 then true else e w,λw hw=>?_,?_⟩
   ·by_cases hww:w=w0
    ·dsimp[hww,cI];exact h0
    ·dsimp[hww,bY]
     rcases bD.mp hw with z|z
     ·exact absurd z hww
     ·exact he w z
   ·simp
  | false=>
   by_cases hm:w0∈its
   ·refine⟨e,λw hw=>?_,?_⟩
    ·rcases bD.mp hw with z|z
     ·rw[z];exact he w0 hm
     ·exact he w z
    ·rw[fY,ha,fZ]
     cases q with
     | true=>simp
     | false=>
      have:=List.any_eq_false.mp ha w0 hm;simpa using this
   ·refine⟨λw=>if w=w0 then false else e w,λw hw=>?_,?_⟩
    ·by_cases hww:w=w0
     ·dsimp[hww,cI];exact h0
     ·dsimp[hww,bY]
      rcases bD.mp hw with z|z
      ·exact absurd z hww
      ·exact he w z
    ·rw[fY,<- ha];dsimp[cI,fZ];have:∀l:ba,(∀w∈l,w≠w0)->l.any (λw=>if w=w0 then false else e w)=l.any e:=λl hl=>by
      induction l with
      | nil=>rfl
      | cons c l ih=>rw[fY,fY,ih λw hw=>hl w (aN _ hw),aI (hl c (aM ..))]
     exact this its λw hw z=>hm (z ▸ hw)
def aaw(hu:X.A.units+64<cLine):oE X (compareOp .In) (r2 X (aIn false)):=λpins s σ H x y v u Q I rx ry h9=>by
 x_go;obtain⟨ys,hy,h⟩:=jO h;obtain⟨k,hk,h⟩:=jO h;obtain⟨p,us,rfl,hs,r⟩:=V2 R vb hy
 cases ry
 rcases hs with hs|hs
 ·obtain⟨its,rv,pl,hz⟩:=I.list hs;obtain⟨e,he,ha⟩:=B8 I R hu va rx r rv hk;refine SeqAt.in_listAt e pl.isList (λw hw=>he w (by simpa using hw)) ⟨.bl _,H,I,rfl,?_⟩;rw[show its.toArray.any e=its.any e by simp,ha];exact h _ _ _ .refl R (.bl _)
 ·obtain⟨its,rv,pl,hz⟩:=I.tuple hs;obtain⟨e,he,ha⟩:=B8 I R hu va rx r rv hk;refine SeqAt.in_tupleAt e pl (λw hw=>he w (by simpa using hw)) ⟨.bl _,H,I,rfl,?_⟩;rw[show its.toArray.any e=its.any e by simp,ha];exact h _ _ _ .refl R (.bl _)
end
abbrev jY (S:jE)(n:Nat):Option (List (ag×A)):=match S[n]? with
 | some (.dct xs)=>some xs
 | _=>none
def nR{n:Nat}(h:jY S n=some xs):S[n]?=some (.dct xs):=by
 unfold jY at h;split at h
 ·rename_i e;cases h;exact e
 ·cases h
def vc{S:jE}{n:Nat}(h:S[n]?=some (.dct xs)):jY S n=some xs:=by
 unfold jY;rw[h]
abbrev lK (kvs:List (ag×A))(k:ag):Option A:=(kvs.find? λkv=>decide (kv.1=k)).map (·.2)
abbrev putD (kvs:List (ag×A))(k:ag)(v:A):List (ag×A):=
 if (lK kvs k).isSome=true then kvs.map (λkv=>if kv.1=k then(kv.1,v)else kv)else kvs++[(k,v)]
theorem Cg:∀{a b:ag},a.map (Sum.inl:Int->Key)=b.map Sum.inl->a=b
 | [],[],_=>rfl
 | [],_::_,e=>by simp at e
 | _::_,[],e=>by simp at e
 | x::xs,y::ys,e=>by
  rw[bF,bF]at e
  injection e with e1 e2
  injection e1 with e1
  rw[e1,Cg e2]
def Ib(ns:ag):(ns.map (Sum.inl:Int->Key)).map kV=ns.map V.int:=by rw[bq];rfl
section
variable {K:au}{ρ:bb}{H:Hp}
def JZ{p:ag×A}{r:List (ag×A)}{k:ag}(e:p.1=k):lK (p::r) k=some p.2:=by simp[lK,cN,e]
def KU{p:ag×A}{r:List (ag×A)}{k:ag}(e:¬p.1=k):lK (p::r) k=lK r k:=by simp[lK,cN,e]
theorem DV.look:∀{kvs:List (ag×A)}{ks:List (List Key×V)}(k:ag),DV K ρ H kvs ks->(lK kvs k).isSome=(pH ks (k.map Sum.inl)).isSome/\∀x,lK kvs k=some x->∃v,pH ks (k.map Sum.inl)=some v/\AV K ρ H x v
 | [],[],k,_=>⟨rfl,λx h=>nomatch h⟩
 | p::r,q::r',k,⟨⟨e,a⟩,t⟩=>by
  by_cases c:p.1=k
  ·have c':q.1=k.map Sum.inl:=by rw[e,c]
   rw[JZ c,sq c'];exact⟨rfl,λx h=>by cases h;exact⟨_,rfl,a⟩⟩
  ·have c':¬q.1=k.map Sum.inl:=λz=>c (Cg (e.symm.trans z));rw[KU c,tu c'];exact DV.look k t
theorem DV.repl{x:A}{v:V}(h:AV K ρ H x v)(k:ag):∀{kvs:List (ag×A)}{ks:List (List Key×V)},DV K ρ H kvs ks->DV K ρ H (kvs.map λkv=>if kv.1=k then(kv.1,x)else kv) (ks.map λkv=>if kv.1=k.map Sum.inl then(kv.1,v)else kv)
 | [],[],_=>trivial
 | p::r,q::r',⟨⟨e,a⟩,t⟩=>by
  refine⟨?_,DV.repl h k t⟩;dsimp only;by_cases c:p.1=k
  ·rw[aK c,aK (by rw[e,c])];exact⟨e,h⟩
  ·rw[aI c,aI (λz=>c (Cg (e.symm.trans z)))];exact⟨e,a⟩
theorem DV.snoc{x:A}{v:V}(h:AV K ρ H x v)(k:ag):∀{kvs:List (ag×A)}{ks:List (List Key×V)},DV K ρ H kvs ks->DV K ρ H (kvs++[(k,x)]) (ks++[(k.map Sum.inl,v)])
 | [],[],_=>⟨⟨rfl,h⟩,trivial⟩
 | p::r,q::r',⟨a,t⟩=>⟨a,DV.snoc h k t⟩
def DV.put{x:A}{v:V}(h:AV K ρ H x v)(k:ag)(d:DV K ρ H kvs ks):DV K ρ H (putD kvs k x) (putK ks (k.map Sum.inl) v):=by
 unfold putD putK;rw[uY,<- (d.look k).1];by_cases c:(lK kvs k).isSome=true
 ·rw[aK c,aK c];exact DV.repl h k d
 ·rw[aI c,aI c];exact DV.snoc h k d
def DV.length:∀{kvs:List (ag×A)}{ks:List (List Key×V)},DV K ρ H kvs ks->kvs.length=ks.length
 | [],[],_=>rfl
 | _::_,_::_,⟨_,t⟩=>dz (·+1) t.length
def Rel.dct{n:Nat}{a:ak}(R:Rel K ρ H S)(ha:ρ[n]?=some a)(hS:S[n]?=some (.dct xs)):∃vs,H a=some (.dT vs)/\DV K ρ H xs vs:=R.at n a _ ha hS
def Rel.aaY{S:jE}{p:ak}(R:Rel K ρ H S)(hp:H p=none)(r:DV K ρ H xs vs):Ext ρ (ρ++[p]) H (upd H p (.dT vs))/\Rel K (ρ++[p]) (upd H p (.dT vs)) (S++[.dct xs])/\(ρ++[p])[S.length]?=some p:=by
 have ex:Ext ρ (ρ++[p]) H (upd H p (.dT vs)):=⟨⟨fV _ _,λa u _ h=>by rw[jM (jU h hp)];exact h⟩,λa u h _=>by rw[jM (jU h hp)];exact h,λa h=>by
  rcases bI.mp h with z|z
  ·exact .inl z
  ·have e:a=p:=by simpa using z
   rw[e];exact .inr hp⟩
 have np:p∉ρ:=R.Pb hp;have last:(ρ++[p])[S.length]?=some p:=by rw[<- R.len];simp
 refine⟨ex,⟨by simp[R.len],?_,?_⟩,last⟩
 ·rw[dW];refine⟨R.nd,by simp,λa ha b hb e=>?_⟩;have:b=p:=by simpa using hb
  exact np (by rw[<- this,<- e];exact ha)
 ·intro n a o h1 h2;by_cases hn:n<S.length
  ·rw[bH (by rw[R.len];exact hn)]at h1;rw[bH hn]at h2;have na:a≠p:=λz=>np (by rw[<- z];exact aZ h1);have:=R.at n a o h1 h2
   cases o with
   | lst ys=>obtain⟨ws,e,q⟩:=this;exact⟨ws,by rw[jM na];exact e,q.ext ex⟩
   | dct _|qM _=>obtain⟨ws,e,q⟩:=this;exact⟨ws,by rw[jM na];exact e,q.ext ex⟩
   | ins _ _=>obtain⟨oo,uu,e⟩:=this;exact⟨oo,uu,by rw[jM na];exact e⟩
  ·have e:n=S.length:=by
    have:=(aL.mp h2).1;simp at this;omega
   subst e;rw[last]at h1
   cases h1
   simp at h2;subst h2;exact⟨vs,ko,r.ext ex⟩
def Rel.putD{S:jE}{n:Nat}{a:ak}(R:Rel K ρ H S)(ha:ρ[n]?=some a)(hS:S[n]?=some (.dct xs))(r:DV K ρ H ys ws):Ext ρ ρ H (upd H a (.dT ws))/\Rel K ρ (upd H a (.dT ws)) (S.set n (.dct ys)):=by
 obtain⟨vs,e,_⟩:=R.at n a _ ha hS;have ex:Ext ρ ρ H (upd H a (.dT ws)):=⟨⟨fO _,λb u i h=>by
  have:b≠a:=by
   intro z;subst z;rw[e]at h;cases h;exact i
  rw[jM this];exact h⟩,λb u h n=>by
  rw[jM (λz=>n (by rw[z];exact aZ ha))];exact h,λ_ h=>.inl h⟩
 refine⟨ex,by rw[cu];exact R.len,R.nd,λm b o h1 h2=>?_⟩;by_cases hm:m=n
 ·subst hm;rw[ha]at h1;cases h1;rw[bN (aL.mp hS).1]at h2
  cases h2
  exact⟨ws,ko,r.ext ex⟩
 ·rw[bW (cR hm)]at h2;have nb:b≠a:=λz=>by
   subst z;obtain⟨l1,e1⟩:=aL.mp ha;obtain⟨l2,e2⟩:=aL.mp h1;exact hm ((dj R.nd).mp (e2.trans e1.symm))
  have:=R.at m b o h1 h2
  cases o with
  | lst ys=>obtain⟨ws',e',q⟩:=this;exact⟨ws',by rw[jM nb];exact e',q.ext ex⟩
  | dct _|qM _=>obtain⟨ws',e',q⟩:=this;exact⟨ws',by rw[jM nb];exact e',q.ext ex⟩
  | ins _ _=>obtain⟨oo,uu,e'⟩:=this;exact⟨oo,uu,by rw[jM nb];exact e'⟩
end
section
variable {X:Cx}{pos:Pos}{a b:aC}
def B3{H:Hp}{p q:ak}{n:Nat}{ns:ag}(R:Rel X.K ρ H S)(hp:ρ[n]?=some p)(hn:jY S n=some kvs)(hq:H q=some (.tup vs))(r:AVs X.K ρ H xs vs)(hi:A.ints xs=some ns) :
  ∃ks,H p=some (.dT ks)/\DV X.K ρ H kvs ks/\H q=some (.tup ((ns.map (Sum.inl:Int->Key)).map kV))/\uL H p (.ref q) (pH ks (ns.map Sum.inl)):=by
 obtain⟨ks,e,d⟩:=R.dct hp (nR hn);have z:=xM r hi;subst z;rw[<- Ib]at hq;exact⟨ks,e,d,hq,uL.t e hq⟩
abbrev xG (x y:A)(S:jE):R A:=match x,y with
 | .ref n,.tup xs=>opt (jY S n) λkvs=>opt (A.ints xs) λns=>opt (lK kvs ns) λv=>.ok v S
 | _,_=>.no
def YG(hu:X.A.units+64<cLine):Tr X (r2 X xG):=λvalue slice pins s σ H x y v u Q I rx ry ⟨ρ,S,a,b,R,va,vb,h⟩ hs=>by
 cases va with
 | @ref p n hp=>
  cases vb with
  | @tup q xs vs hq r=>
   obtain⟨kvs,hn,h⟩:=jO h;obtain⟨ns,hi,h⟩:=jO h;obtain⟨z,hz,h⟩:=jO h;obtain⟨ks,e,d,hq',g⟩:=B3 R hp hn hq r hi;obtain⟨w,hw,aw⟩:=(d.look ns).2 z hz;rw[hw]at g;exact IA () value slice pins s σ H _ _ v u Q I rx ry ⟨p,w,rfl,g,h _ _ _ .refl R aw⟩ hs
  | _=>exact h.elim
 | _=>exact h.elim
def B9(hu:X.A.units+64<cLine){ca cb:Ex}(ha:AE X a ca)(hb:AE X b cb)(hs:xQ b:=by exact λ_ _=>rfl):AE X (.Subscript a b pos) (jI xG ca cb):=PE.imp (Nt (YG hu) ha hb hs) λσ H Q h=>t8 h
abbrev QF (neg:Bool)(x y:A)(S:jE):R A:=match x,y with
 | .tup xs,.ref n=>opt (jY S n) λkvs=>opt (A.ints xs) λns=>.ok (.bl (if neg then !(lK kvs ns).isSome else(lK kvs ns).isSome)) S
 | _,_=>.no
def O3(hu:X.A.units+64<cLine):oE X (compareOp .NotIn) (r2 X (QF true)):=λpins s σ H x y v u Q I rx ry h9=>by
 x_go
 cases va with
 | @tup q xs vs hq r=>
  cases vb with
  | @ref p n hp=>
   obtain⟨kvs,hn,h⟩:=jO h;obtain⟨ns,hi,h⟩:=jO h;obtain⟨ks,e,d,hq',g⟩:=B3 R hp hn hq r hi;exact Kq (by omega) pins s σ H _ _ v u Q I rx ry ⟨p,_,rfl,g,by rw[<- (d.look ns).1];exact h _ _ _ .refl R (.bl _)⟩
  | _=>exact h.elim
 | _=>exact h.elim
abbrev Eb (o i v:A)(S:jE):R Unit:=match o,i with
 | .ref n,.tup xs=>opt (jY S n) λkvs=>opt (A.ints xs) λns=>gd (kvs.length<sizeLine) (.ok Unit.unit (S.set n (.dct (putD kvs ns v))))
 | _,_=>.no
abbrev aaq (X:Cx):KA:=λo i v H Q=>∃ρ S ao ai av,Rel X.K ρ H S/\AV X.K ρ H ao o/\AV X.K ρ H ai i/\AV X.K ρ H av v/\(Eb ao ai av S).post (λ_ S'=>∀ρ' H',Ext ρ ρ' H H'->Rel X.K ρ' H' S'->Q H') (XE X ρ H)
def Sj(hu:X.A.units+64<cLine):Kl X (aaq X):=λpins s σ H o i v ov iv u Q I ro ri rv h9=>by
 obtain⟨ρ,S,ao,ai,av,R,h1,h2,h3,h⟩:=h9
 cases h1 with
 | @ref p n hp=>
  cases h2 with
  | @tup q xs vs hq r=>
   obtain⟨kvs,hn,h⟩:=jO h;obtain⟨ns,hi,h⟩:=jO h;obtain⟨hl,h⟩:=j3 h;obtain⟨ks,e,d,hq',g⟩:=B3 R hp hn hq r hi;obtain⟨ex,R'⟩:=R.putD hp (nR hn) (d.put h3 ns);exact set_dict () pins s σ H _ _ v ov iv u Q I ro ri rv ⟨p,_,rfl,Ef.t e hq' (by rw[<- d.length];exact hl),h _ _ ex R'⟩
  | _=>exact h.elim
 | _=>exact h.elim
abbrev Gx (co ci:Ex):Tg:=λa τ S=>(co τ S).bind λo S1=>(ci τ S1).bind λi S2=>(Eb o i a S2).bind λ_ S3=>.ok τ S3
def xU(hu:X.A.units+64<cLine){co ci:Ex}(ho:AE X o co)(hi:AE X i ci)
  (ha:∀v,assign (.Subscript o i pos) X.env v=(do
   let ov <- holding [v] (eval o X.env)
   let iv <- holding [v,ov] (eval i X.env)
   standAt pos
   holding [v,ov,iv] (setItem ov iv v)
   release [v,ov,iv] []):=by intro _;rfl):AG X (.Subscript o i pos) (Gx co ci):=PG.imp (GD ho hi (Sj hu) ha) λv σ H Q h9=>by
 obtain⟨ρ,S,τ,a,R,r,va,h⟩:=h9;kd_p;kcf_m;exact h3 ρ3 H3 σ ((e1.trans e2).trans e3) R3 (r.ext ((e1.trans e2).trans e3))
abbrev yO:Ex:=λ_ S=>.ok (.ref S.length) (S++[.dct []])
def uZ:AE X (.Dict [] [] pos) yO:=PE.imp NB λσ H Q ⟨ρ,S,τ,R,r,h⟩ p hp=>by
 obtain⟨ex,R',hl⟩:=R.aaY (xs:=[]) (vs:=[]) hp trivial;exact h _ _ _ ex R' (.ref hl)
abbrev dct? (a:A)(S:jE):Option Unit:=match a with
 | .ref n=>(jY S n).map λ_=>Unit.unit
 | _=>none
abbrev Xk (f:A->ae->jE->R A)(co:Ex)(d:qc):Ex:=λτ S=>(co τ S).bind λx S1=>opt (dct? x S1) λ_=>(d τ S1).bind λas S2=>f x as S2
def dct?_ty{K:au}{H:Hp}{x:A}{v:V}(R:Rel K ρ H S)(a:AV K ρ H x v)(e:dct? x S=some u):X3 K "dict" v H:=by
 cases a with
 | @ref p n h=>
  obtain⟨xs,hx,_⟩:=a_.mp e;obtain⟨vs,h1,_⟩:=R.dct h (nR hx);exact .inr (.inr (.inl ⟨rfl,.inr ⟨vs,h1⟩⟩))
 | _=>cases e
def WY{id:String}{apos cpos:Pos}{f:A->ae->jE->R A}{co:Ex}{d:qc}(slot:Slot "dict" name id)(hty:typeOf (.builtin id)=pure (.type "method_descriptor"))(hm:TQ X id (rM X f))(ho:AE X o co)(ha:AL X (e::es) d)
  (hbase:attributeBase o name X.env (eval o X.env)=eval o X.env:=by rfl)
  (hfew:((backTo cpos (starEach (e::es) X.env)).all (λx=>!x.1) && (backToKw cpos (keywordEach [] X.env)).all (λx=>x.1.isSome)
   && decide ((e::es).length+([]:List Keyword).length+(if ([]:List Keyword).isEmpty then 0 else 1)<30))=true:=by rfl)
  (hline:(apos.endLine == cpos.line)=true:=by rfl) (hs:starEach (e::es) X.env=(false,eval e X.env)::starEach es X.env:=by rfl) (hplain:(backTo cpos (starEach es X.env)).any (·.1)=false:=by rfl) :
  AE X (.Call (.Attribute o name apos) (e::es) [] cpos) (Xk f co d):=PE.imp (M7 PySem.F.plainAttrs_dict slot hty hm ho ha hbase hfew hline hs hplain) λσ H Q h9=>by
 room;refine⟨ρ,S,τ,R,r,jG (jK h) .refl λx S1 h1 ρ1 H1 v e1 R1 v1=>?_⟩;obtain⟨xs,hx,h1⟩:=jO h1;refine⟨dct?_ty R1 v1 hx,ρ1,S1,τ,R1,r.ext e1,jG (jK h1) e1 λas S2 h2 ρ2 H2 vs e2 R2 v2=>?_⟩;exact⟨ρ2,S2,x,as,R2,v1.ext e2,v2,jG h2 (e1.trans e2) λ_ _ z=>z.ext (e1.trans e2)⟩
abbrev VL (o:A)(as:ae)(S:jE):R A:=match o,as with
 | .ref n,[.tup xs,y]=>opt (jY S n) λkvs=>opt (A.ints xs) λk=>.ok ((lK kvs k).getD y) S
 | _,_=>.no
def X0(hu:X.A.units+64<cLine):TQ X "dict.get" (rM X VL):=λpins s σ H x vs v us Q I rx rv h9=>by
 obtain⟨ρ,S,o,as,R,vo,va,h⟩:=h9
 cases vo with
 | @ref p n hp=>
  match as,va,h with
  | [],_,h=>exact h.elim
  | [z],_,h=>exact(by cases z<;>exact h.elim)
  | z::_::_::_,_,h=>exact(by cases z<;>exact h.elim)
  | [z,y],va,h=>
   obtain⟨w1,w2,rfl,hz,hy⟩:=Vb va
   cases hz with
   | @tup q xs ws hq rr=>
    obtain⟨kvs,hn,h⟩:=jO h;obtain⟨ns,hi,h⟩:=jO h;have z:=xM rr hi;subst z;obtain⟨ks,h1,dv⟩:=R.dct hp (nR hn);refine QW (by omega) pins s σ H _ _ v us Q I rx rv ⟨p,q,ns.map Sum.inl,ks,w2,rfl,rfl,h1,by rw[Ib];exact hq,h _ _ _ .refl R ?_⟩;obtain⟨l1,l2⟩:=dv.look ns
    cases e1:lK kvs ns with
    | none=>
     rw[e1]at l1
     cases e2:pH ks (ns.map Sum.inl)with
     | none=>exact hy
     | some _=>rw[e2]at l1;cases l1
    | some x1=>
     obtain⟨v1,e2,a1⟩:=l2 x1 e1;rw[e2];exact a1
   | _=>exact h.elim
 | _=>exact h.elim
end
abbrev HU (K:au)(n:Nat)(F:ae->jE->R A):Sp:=λvs H Q E=>vs.length=n/\∃ρ S as,Rel K ρ H S/\AVs K ρ H as vs/\(F as S).post (λa S'=>∀ρ' H' v,Ext ρ ρ' H H'->Rel K ρ' H' S'->AV K ρ' H' a v->Q v H') (λc S'=>∀C ρ' H',FU K c C->Ext ρ ρ' H H'->Rel K ρ' H' S'->E (.ref C) none H')
section
variable {P:aj}{w:ah}{K:au}{mg:Str->bd}{base:aq}
def Fun.okX{x:Str}{st:aE}{f:ak}{N ps:ar}{k:Nat}{sp:Sp}(F:Fun K x qual st f fd)(S:FnScope N ps (jL st))(len:∀vs H Q E,sp vs H Q E->vs.length=ps.length)
  (hb:∀(cdv:af) (A:az) (outer:List Env) (s:aA) (H:Hp) (vs:List V) (Q:VK) (E:XK),Room k (A.deeper (envOfC qual (jL st) s.heap.objs.size f cdv))->sp vs H Q E->∃t,Ah (vh (zP P w) P w K mg base N qual (jL st) f cdv A outer s H E) (m_ st) t/\t { nx:=λ_ H'=>Q .non H',rt:=Q } (L2.start N vs) H):FnOk P w K mg base (zP P w) (k+1) f fd ps sp:=by
 obtain⟨oc,od,kV,doc,pm,an,cdv,ct,osl,rfl,lk,hcd⟩:=F.ex;exact UM lk hcd S len λA outer s H vs Q E hr hsp=>hb cdv A outer s H vs Q E hr hsp
def fnX{x:Str}{st:aE}{f:ak}{N ps:ar}{k:Nat}{m:Sm}(F:Fun K x qual st f fd)(Sc:FnScope N ps (jL st))
  (body:∀(cdv:af) (A:az) (outer:List Env) (s:aA) (H:Hp) (E:XK),Room k (A.deeper (envOfC qual (jL st) s.heap.objs.size f cdv))->K9 (vh (zP P w) P w K mg base N qual (jL st) f cdv A outer s H E) (m_ st) m) :
  FnOk P w K mg base (zP P w) (k+1) f fd ps (HU K ps.length (lV N m)):=by
 refine Fun.okX F Sc (λvs H Q E h=>h.1) λcdv B outer s H vs Q E hr ⟨hl,ρ,S,as,R,va,q⟩=>⟨_,body cdv B outer s H E hr,ρ,S,_,R,CB va N,?_⟩;unfold lV at q
 cases hm:m (as++List.replicate (N.length-as.length) .unb) S with
 | rt b S2=>rw[hm]at q;exact q
 | nx τ S2=>rw[hm]at q;exact λρ' H' σ' e R' _=>q ρ' H' _ e R' .non
 | bk τ S2=>rw[hm]at q;exact q.elim
 | ct τ S2=>rw[hm]at q;exact q.elim
 | no=>rw[hm]at q;exact q.elim
 | ex c S2=>
  rw[hm]at q;intro C ρ' H' n e R';exact⟨rfl,λpins σ' s' ea I Ra=>JS I rfl Ra (q C ρ' H' n e R')⟩
end
abbrev zQ (P:aj)(w:ah)(K:au)(mg:Str->bd)(base:aq)(k:Nat)(x:Str)(ps:ar)(F:ae->jE->R A):Prop:=
 ∃(f:ak) (fd:FuncData),FnOk P w K mg base (zP P w) k f fd ps (HU K ps.length F)/\mg x=some (.ref f)/\PySem.W.keepIn K (.ref f)=true/\Binds K fd ps []
abbrev lQ (F:ae->jE->R A)(d:qc):Ex:=λτ S=>(d τ S).bind λas S1=>F as S1
section
variable {X:Cx}{pos p:Pos}{e:aC}{es:List aC}{x:Str}{ps:ar}{k:Nat}{F:ae->jE->R A}{d:qc}
def yF(G:zQ X.prog X.w X.K X.mg X.base k x ps F)(hr:Room k X.A)(ha:AL X (e::es) d)(hl:∀τ S as S',d τ S=.ok as S'->as.length=ps.length)(hg:Gl X x:=by rfl)(hdb:(x == ("__debug__" : Str))=false:=by decide)
  (hs:starEach (e::es) X.env=(false,eval e X.env)::starEach es X.env:=by rfl) (hplain:(backTo pos (starEach es X.env)).any (·.1)=false:=by rfl):AE X (.Call (.Name x p) (e::es) [] pos) (lQ F d):=by
 obtain⟨f,fd,Fo,hm,hk,hb⟩:=G;refine PE.imp (II Fo hr hg hm hk hb .nil (LV (X:=X) rfl rfl) ha hdb hs hplain) λσ H Q h9=>?_;room;refine⟨ρ,S,τ,R,r,?_⟩;have hq:=jK h
 cases hd:d τ S with
 | no=>rw[hd]at hq;exact hq
 | ex c S1=>rw[hd]at hq;exact hq
 | ok as S1=>
  rw[hd]at hq;intro ρ1 H1 vs e1 R1 v1;rw[bU];refine⟨by rw[<- v1.length];exact hl τ S as S1 hd,ρ1,S1,as,R1,v1,vU hq (λa S2 q ρ2 H2 v e2=>q ρ2 H2 v (e1.trans e2)) λc S2 q C ρ2 H2 n e2=>q C ρ2 H2 n (e1.trans e2)⟩
end
abbrev V3:ba:=[.type "ValueError",.type "Exception",.type "BaseException",.type "object"]
def Yq{K:au}{mg:Str->bd}{base:aq}{x:Str}(M:Mod K mg base)(e:FU K x C)(q:PySem.W.excIn K C bmB newId=true):OwnCls x C bmB newId mg base:=by
 refine⟨cX M.kin M.glob e,?_⟩;unfold PySem.W.excIn at q;split at q
 ·rename_i dd cd sl ho;split at q
  ·rename_i C' bm k0 k1 k2 k3 nw k5 hm hs;rw[bZ,bZ,bZ,bZ,bZ]at q;obtain⟨⟨⟨⟨⟨q1,q2⟩,q3⟩,q4⟩,q5⟩,q6⟩:=q;have q1:=jm.mp q1;have q2:=jm.mp q2;have q3:cd.hasDel=false:=by simpa using q3
   have q6:=jm.mp q6;subst q1 q2;obtain⟨nm,bs,mro,ns,qn,hd,sn,sub,ab,col,del⟩:=cd;have hm:mro=_:=hm;have q3:del=false:=q3;subst hm q3;obtain⟨sl⟩:=sl;have hs:sl=_:=hs;subst hs;exact⟨bm,ns,nm,qn,bs,hd,sn,sub,ab,col,dd,k0,k1,k2,k3,k5,_,M.kin _ _ ho,.of_isNs (PySem.W.isNs_of_in M.kin q5),PySem.W.nsMap_none_of_in M.kin q5 q6,PySem.W.tail_of_in M.kin q4⟩
  ·cases q
 ·cases q
abbrev Oc:List (Str ⊕ Ex)->ae->jE->R Unit
 | [],_,S=>.ok Unit.unit S
 | .inl _::ps,τ,S=>Oc ps τ S
 | .inr e::ps,τ,S=>(e τ S).bind λv S1=>match v with
  | .int i=>gd (i.natAbs.log2<64) (Oc ps τ S1)
  | _=>.no
abbrev QO:List (Str ⊕ Ex)->Bool
 | []=>true
 | .inl x::ps=>decide (x.length<=1000) && QO ps
 | .inr _::ps=>QO ps
abbrev CD (c:Str)(ps:List (Str ⊕ Ex)):Sm:=λτ S=>.of (Oc ps τ S) λ_ S1=>.ex c S1
abbrev ZQ (X:Cx):List (Str ⊕ Ex)->List (Str ⊕ TE)
 | []=>[]
 | .inl x::ps=>.inl x::ZQ X ps
 | .inr e::ps=>.inr (tE X e)::ZQ X ps
section
variable {X:Cx}{pos np cpos fp:Pos}{x:Str}{C:ak}{e1 e2:aC}{es:List aC}{ps:List (Str ⊕ Ex)}
theorem wF{H0:Hp}{k:Hp->Prop}(c:Str)(hk:∀ρ H S,Ext ρ0 ρ H0 H->Rel X.K ρ H S->XE X ρ0 H0 c S->k H):∀(ps:List (Str ⊕ Ex)) (ρ:bb) (H:Hp) (S:jE),QO ps=true->Ext ρ0 ρ H0 H->Rel X.K ρ H S->SR X.K ρ H τ σ ->
  (Oc ps τ S).post (λ_ S'=>XE X ρ0 H0 c S') (XE X ρ0 H0)->zK (ZQ X ps) σ H k
 | [],ρ,H,S,_,e,R,r,h=>hk ρ H S e R h
 | .inl x::ps,ρ,H,S,ok,e,R,r,h=>by
  obtain⟨hx,ok⟩:=Bool.and_eq_true_iff.mp ok;exact⟨bL hx,wF c hk ps ρ H S ok e R r h⟩
 | .inr a::ps,ρ,H,S,ok,e,R,r,h=>by
  refine⟨ρ,S,τ,R,r,?_⟩;have h:=jK h;refine vU h (λv S1 h1 ρ1 H1 u e1 R1 v1=>?_) λc' S' z=>z.ext e
  cases v with
  | int i=>
   obtain⟨hi,h1⟩:=j3 h1
   cases v1
   exact⟨i,rfl,hi,wF c hk ps ρ1 H1 S1 ok (e.trans e1) R1 (r.ext e1) h1⟩
  | _=>exact h1.elim
def A2(hn:FU X.K x C)(hq:PySem.W.excIn X.K C V3 "ValueError.__new__" = true)(hh:X.A.handled=none)(hp:FParts X (e1::e2::es) (ZQ X ps))(hfs:QO ps=true:=by rfl)(hg:Gl X x:=by rfl)(hl:2000 * (e1::e2::es).length<=sizeLine:=by decide)
  (hs:starEach [.JoinedStr (e1::e2::es) fp] X.env=(false,eval (.JoinedStr (e1::e2::es) fp) X.env)::starEach [] X.env:=by rfl) (hpl:(backTo cpos (starEach [] X.env)).any (·.1)=false:=by rfl) (hd:(x == ("__debug__" : Str))=false:=by decide) :
  AS X (.Raise (some (.Call (.Name x np) [.JoinedStr (e1::e2::es) fp] [] cpos)) none pos) (CD x ps):=by
 intro pins s σ H D I ⟨ρ,S,τ,R,r,h⟩;refine MF (Yq I.mod hn hq) PySem.F.excBase_ValueError hh (qk (Zn hp hl) wA hs) hg hs hpl hd pins s σ H D I ?_;refine wF (X:=X) (ρ0:=ρ) (H0:=H) x (λρ1 H1 S1 e1 R1 z y hy=>?_) ps ρ H S hfs .refl R r (of_post h);exact⟨(show 1<=sizeLine by decide),z C ρ1 H1 hn e1 R1⟩
end
abbrev Rl (i:Nat):RS->RS
 | .nx τ S=>.nx (τ.set i .unb) S
 | .bk τ S=>.bk (τ.set i .unb) S
 | .ct τ S=>.ct (τ.set i .unb) S
 | .rt a S=>.rt a S
 | _=>.no
abbrev C3 (i n:Nat)(cs:ar)(c d:Sm):Sm:=λτ S=>match c τ S with
 | .ex x S1=>if x∈cs then Rl i (d ((List.replicate n .unb).set i (.exn x)) S1)else .no
 | r=>r
def SR.unset{K:au}{H:Hp}{τ:ae}{σ:L2.St}(s:SR K ρ H τ σ):SR K ρ H (τ.set i .unb) (σ.set i none):=by
 refine⟨by simp[s.len],λj b e=>?_⟩;by_cases hj:j=i
 ·subst hj;have hl:j<τ.length:=by
   have:=(aL.mp e).1;simpa using this
  rw[bN hl]at e
  cases e
  exact .inl rfl
 ·rw[bW (cR hj)]at e;rw[bW (cR hj)];exact s.at j b e
section
variable {X:Cx}{pos np hp:Pos}{y n:Str}{Dc:ak}{i:Nat}{body suite:List aE}{b0:aE}{c d:Sm}{cs:ar}
def Xv(hb:∀pn' xe',K9 (X.z9 pn' xe') body c)(hh:∀pn' e oe C,XO C oe->K9 (X.hand pn' e oe) (b0::suite) d)(hN:X.N.Nodup)(hD:FU X.K y Dc)(mD:L2.mroIn X.K Dc=some V3)(hcs:∀x∈cs,∃C,FU X.K x C/\L2.mroIn X.K C=some (.ref Dc::V3))
  {ln:Nat} (hln:X.N.length=ln:=by rfl) (hi:X.N[i]?=some n:=by rfl) (hlo:X.env.scope.names.lookup n=some .local:=by rfl) (hst:X.stack=X.env::X.outer:=by rfl) (hf:X.env.frame=some X.env.locals:=by rfl) (hex:X.ex=[]:=by rfl) (hg:Gl X y:=by rfl) (hdb:(y == ("__debug__" : Str))=false:=by decide) :
  AS X (.Try body [.ExceptHandler (some (.Name y np)) (some n) (b0::suite) hp] [] [] pos) (C3 i ln cs c d):=by
 subst hln;intro pins s σ H D I ⟨ρ,S,τ,R,r,h⟩;refine wpAny_Try_except ?_;have tl:τ.length=X.N.length:=by rw[r.len];exact I.len
 have hgo:∀xe',(∀x S1,c τ S=.ex x S1->XE (X.z9 (X.pn++pins) xe') ρ H x S1)->yV (X.z9 (X.pn++pins) xe') ρ H D (c τ S):=λxe' hx=>by
  have h:yV X ρ H D (C3 i X.N.length cs c d τ S):=h;unfold C3 at h
  cases hc:c τ S with
  | nx τ' S'=>rw[hc]at h;exact h
  | rt a S'=>rw[hc]at h;exact h
  | bk τ' S'=>rw[hc]at h;exact h
  | ct τ' S'=>rw[hc]at h;exact h
  | no=>rw[hc]at h;exact h
  | ex x S1=>exact hx x S1 hc
 refine dh (hb (X.pn++pins) _ [] s σ H D (I.z9 _) ⟨ρ,S,τ,R,r,hgo _ λx S1 hc C ρ1 H1 hn e1 R1=>?_⟩) (λf s1 hs=>?_) λe s1 z=>z
 ·refine⟨hex,λpins' σ' s' e I' R'=>?_⟩;have h:yV X ρ H D (C3 i X.N.length cs c d τ S):=h;unfold C3 at h;rw[hc]at h;have h:yV X ρ H D (if x∈cs then Rl i (d ((List.replicate X.N.length .unb).set i (.exn x)) S1)else .no):=h;by_cases hx:x∈cs
  ·rw[aK hx]at h;obtain⟨C',hn',mC⟩:=hcs x hx;have:C'=C:=by
    have z:=hn'.symm.trans hn
    injection z with z
    injection z with z
    injection z
   subst this;have hm:X.mg y=some (.ref Dc):=cX I.mod.kin I.mod.glob hD;refine Mf hst hf hex hN hi hlo hg hm mD ⋯ I' R' mC (by simp) (λoe s6 xo hn0 I6=>?_) I.ok hdb;obtain⟨ex,Rn⟩:=R1.im (u:=.frz oe xu) hn0;refine hh (X.pn++pins) e oe C' xo [] s6 _ _ (unD i D) I6 ⟨ρ1,S1,(List.replicate X.N.length .unb).set i (.exn x),Rn,SR.set ⟨?_,λj b z=>?_⟩ (.exn hn' ko xo),?_⟩
   ·rw[List.length_replicate];exact I'.len.symm
   ·rw[gR]at z;split at z
    ·exact .inl (aW z).symm
    ·cases z
   ·have e2:=e1.trans ex
    cases hd:d ((List.replicate X.N.length .unb).set i (.exn x)) S1 with
    | nx τ' S'=>rw[hd]at h;exact λρ' H' σ' e' R' r'=>h ρ' H' _ (e2.trans e') R' r'.unset
    | bk τ' S'=>rw[hd]at h;exact λρ' H' σ' e' R' r'=>h ρ' H' _ (e2.trans e') R' r'.unset
    | ct τ' S'=>rw[hd]at h;exact λρ' H' σ' e' R' r'=>h ρ' H' _ (e2.trans e') R' r'.unset
    | rt a S'=>rw[hd]at h;exact λρ' H' v e' R' r'=>h ρ' H' v (e2.trans e') R' r'
    | ex _ _=>rw[hd]at h;exact h.elim
    | no=>rw[hd]at h;exact h.elim
  ·rw[aI hx]at h;exact h.elim
 ·cases f with
  | next=>obtain⟨σ',H',J,q⟩:=hs;exact gG ⟨σ',H',J.ID,q⟩
  | brk=>obtain⟨σ',H',J,q⟩:=hs;exact⟨σ',H',J.ID,q⟩
  | cont=>obtain⟨σ',H',J,q⟩:=hs;exact⟨σ',H',J.ID,q⟩
  | ret u=>obtain⟨v,σ',H',J,rv,q⟩:=hs;exact⟨v,σ',H',J.ID,rv,q⟩
end
abbrev wX (f:Str->bj)(c:Ex):Ex:=λτ S=>(c τ S).bind λv S1=>match v with
 | .exn x=>opt (f x) λb=>.ok (.bl b) S1
 | _=>.no
section
variable {X:Cx}{pos p py:Pos}{a:aC}{y:Str}{vy:V}{cy:af}{f:Str->bj}{c:Ex}
def Ml(ry:∀u,RelV vy u->u=cy)(hf:∀x b C,f x=some b->FU X.K x C->XCls X.K C/\(PySem.W.clsIn X.K C).isSome=true/\PySem.W.kitOne X.K (.ref C) cy=some b) :
  kg X (.builtin "isinstance") (λxs H Q=>∃ρ S x v b,Rel X.K ρ H S/\xs=[v,vy]/\AV X.K ρ H (.exn x) v/\f x=some b/\Q (.bl b) H):=by
 intro pins s σ H xs us Q I r ⟨ρ,S,x,v,b,R,exs,va,hb,q⟩;subst exs;obtain⟨u,w',rfl,r1,r2⟩:=vals2 r;have:=ry _ r2;subst this
 cases va with
 | exn n h xo=>
  obtain⟨g1,g2,g3⟩:=hf _ _ _ hb n
  cases(show u=Value.ref _ from r1)
  exact E7 g1 g2 I h xo g3 λtk=>⟨.bl b,H,I.tok tk,rfl,q⟩
def Qi(hy:PE X (.Name y py) (tC vy))(ry:∀u,RelV vy u->u=cy)(hf:∀x b C,f x=some b->FU X.K x C->XCls X.K C/\(PySem.W.clsIn X.K C).isSome=true/\PySem.W.kitOne X.K (.ref C) cy=some b)(ha:AE X a c)(hm:X.mg "isinstance" = none)(hg:Gl X "isinstance" := by rfl)
  (he:starEach [a,.Name y py] X.env=(false,eval a X.env)::starEach [.Name y py] X.env:=by rfl) (he2:starEach [.Name y py] X.env=(false,eval (.Name y py) X.env)::starEach [] X.env:=by rfl) (hpl:(backTo pos (starEach [.Name y py] X.env)).any (·.1)=false:=by rfl) :
  AE X (.Call (.Name "isinstance" p) [a,.Name y py] [] pos) (wX f c):=
 PE.imp (ER (Ml ry hf) hg hm qG (qk ha (qk hy wA he2) he) ⋯ ⋯ he hpl) λσ H Q h9=>by
  room;refine⟨ρ,S,τ,R,r,jG (jK h) .refl λv S1 h1 ρ1 H1 x e1 R1 v1=>?_⟩
  cases v with
  | exn n=>
   obtain⟨b,hb,h1⟩:=jO h1;exact⟨ρ1,S1,n,x,b,R1,rfl,v1,hb,h1 ρ1 H1 _ e1 R1 (.bl b)⟩
  | _=>exact h1.elim
end
structure ExcK (K:au)(U:ak)(c:Str)(C:ak):Prop where
 n:FU K c C
 q:PySem.W.excIn K C V3 "ValueError.__new__" = true
 r:L2.mroIn K C=some (.ref U::V3)
 x:XCls K C
 cl:(PySem.W.clsIn K C).isSome=true
 v:PySem.W.kitOne K (.ref C) (.type "ValueError")=some true
def zW:bootBuiltins "ValueError" = some (.type "ValueError"):=by decide +kernel
abbrev Ko (tb:List (Str×Bool)):Str->bj:=λx=>tb.lookup x
def TJ{K:au}{tb:List (Str×Bool)}(h:∀p∈tb,∃C,FU K p.1 C/\XCls K C/\(PySem.W.clsIn K C).isSome=true/\PySem.W.kitOne K (.ref C) cy=some p.2):∀x b C,Ko tb x=some b->FU K x C->XCls K C/\(PySem.W.clsIn K C).isSome=true/\PySem.W.kitOne K (.ref C) cy=some b:=λx b C e n=>by
 obtain⟨C',n',g⟩:=h (x,b) (d_ e);have:C'=C:=by
  have z:=n'.symm.trans n
  injection z with z
  injection z with z
  injection z
 subst this;exact g
section
variable {X:Cx}{pos p py:Pos}{a:aC}{y:Str}{Cy:ak}{tb:List (Str×Bool)}{c:Ex}
def sU(hm:X.mg y=some (.ref Cy))(h:∀p∈tb,∃C,FU X.K p.1 C/\XCls X.K C/\(PySem.W.clsIn X.K C).isSome=true/\PySem.W.kitOne X.K (.ref C) (.ref Cy)=some p.2)(ha:AE X a c)(hi:X.mg "isinstance" = none)(hg:Gl X "isinstance" := by rfl)(hgy:Gl X y:=by rfl)(hdb:(y == ("__debug__" : Str))=false:=by decide)
  (he:starEach [a,.Name y py] X.env=(false,eval a X.env)::starEach [.Name y py] X.env:=by rfl) (he2:starEach [.Name y py] X.env=(false,eval (.Name y py) X.env)::starEach [] X.env:=by rfl) (hpl:(backTo pos (starEach [.Name y py] X.env)).any (·.1)=false:=by rfl) :
  AE X (.Call (.Name "isinstance" p) [a,.Name y py] [] pos) (wX (Ko tb) c):=Qi (vy:=.ref Cy) (cy:=.ref Cy) (IQ hgy hm rfl hdb) (λu r=>r) (TJ h) ha hi hg he he2 hpl
def WN(hm:X.mg "ValueError" = none)(h:∀p∈tb,∃C,FU X.K p.1 C/\XCls X.K C/\(PySem.W.clsIn X.K C).isSome=true/\PySem.W.kitOne X.K (.ref C) (.type "ValueError")=some p.2)(ha:AE X a c)(hi:X.mg "isinstance" = none)(hg:Gl X "isinstance" := by rfl)(hgy:Gl X "ValueError" := by rfl)
  (he:starEach [a,.Name "ValueError" py] X.env=(false,eval a X.env)::starEach [.Name "ValueError" py] X.env:=by rfl) (he2:starEach [.Name "ValueError" py] X.env=(false,eval (.Name "ValueError" py) X.env)::starEach [] X.env:=by rfl) (hpl:(backTo pos (starEach [.Name "ValueError" py] X.env)).any (·.1)=false:=by rfl) :
  AE X (.Call (.Name "isinstance" p) [a,.Name "ValueError" py] [] pos) (wX (Ko tb) c):=Qi (vy:=.ty "ValueError") (cy:=.type "ValueError") (HF hgy hm zW rfl ⋯ ⋯) (λu r=>r) (TJ h) ha hi hg he he2 hpl
end
section
variable {P:aj}{w:ah}{K:au}{mg:Str->bd}{base:aq}
def fnH{x:Str}{st:aE}{f:ak}{N ps:ar}{k:Nat}{m:Sm}(F:Fun K x qual st f fd)(Sc:FnScope N ps (jL st))
  (body:∀(cdv:af) (A:az) (outer:List Env) (s:aA) (H:Hp) (e:ak) (oe:Obj) (C:ak),AQ k (A.deeper (envOfC qual (jL st) s.heap.objs.size f cdv))->A.handled=some (.ref e)->H e=some (.frz oe xu)->XO C oe->K9 (ZL P w K mg base N qual (jL st) f cdv A outer s H) (m_ st) m) :
  FnOkH P w K mg base (k+1) f fd ps (uz K ps.length (lV N m)):=by
 refine U7 F Sc (λvs H Q E h=>h.1) λcdv B outer s H vs Q e oe C hr hx ⟨hl,ρ,S,as,a,S',R,va,hF,q⟩=>⟨_,body cdv B outer s H e oe C hr hx.hh hx.h0 hx.xo,ρ,S,_,R,CB va N,?_⟩;unfold lV at hF
 cases hm:m (as++List.replicate (N.length-as.length) .unb) S with
 | rt b S2=>rw[hm]at hF;cases hF;exact q
 | nx τ S2=>rw[hm]at hF;cases hF;exact λρ' H' σ' e R' _=>q ρ' H' _ e R' .non
 | bk τ S2=>rw[hm]at hF;cases hF
 | ct τ S2=>rw[hm]at hF;cases hF
 | ex c S2=>rw[hm]at hF;cases hF
 | no=>rw[hm]at hF;cases hF
end
meta abbrev Xo (P:aj)(w:ah)(K:au)(mg:Str->bd)(base:aq)(k:Nat)(x:Str)(ps:ar)(F:ae->jE->R A):Prop:=KnH P w K mg base k x ps (uz K ps.length F)
def Wv{X:Cx}{p:Pos}{a:aC}{x:Str}{ps:ar}{k:Nat}{F:ae->jE->R A}{d:qc}(G:Xo X.prog X.w X.K X.mg X.base k x ps F)(hr:AQ k X.A)(hh:X.A.handled=some (.ref e))(h0:X.H₀ e=some (.frz oe xu))(xo:XO C oe)(ha:AL X (a::es) d)(hl:∀τ S as S',d τ S=.ok as S'->as.length=ps.length)(hg:Gl X x:=by rfl)(hdb:(x == ("__debug__" : Str))=false:=by decide)
  (hs:starEach (a::es) X.env=(false,eval a X.env)::starEach es X.env:=by rfl) (hplain:(backTo pos (starEach es X.env)).any (·.1)=false:=by rfl):AE X (.Call (.Name x p) (a::es) [] pos) (eFn F d):=
 PE.imp (Vo G hr hh h0 xo ha hg hdb hs hplain) λσ H Q h9=>by
  room;refine⟨ρ,S,τ,R,r,?_⟩;have hq:=jK h
  cases hd:d τ S with
  | no=>rw[hd]at hq;exact hq
  | ex c S1=>rw[hd]at hq;exact hq
  | ok as S1=>
   rw[hd]at hq;intro ρ1 H1 vs e1 R1 v1;rw[bU];refine⟨by rw[<- v1.length];exact hl τ S as S1 hd,ρ1,S1,as,?_⟩;have hq:Am.R.post (match F as S1 with
    | .ok a S2=>.ok a S2
    | _=>.no) (zV X ρ H Q) (XE X ρ H):=hq
   cases hF:F as S1 with
   | ok a S2=>rw[hF]at hq;exact⟨a,S2,R1,v1,rfl,λρ2 H2 v e2=>hq ρ2 H2 v (e1.trans e2)⟩
   | ex c S2=>rw[hF]at hq;exact hq.elim
   | no=>rw[hF]at hq;exact hq.elim
abbrev Yo (F:ae->jE->R A)(d:qc):Ex:=λτ S=>match d τ S with
 | .ok as S1=>F as S1
 | _=>.no
section
variable {d:qc}
abbrev Zy (t:Te)(c d:Sm):Sm:=λτ S=>match t τ S with
 | .ok true S1=>c τ S1
 | .ok false S1=>d τ S1
 | _=>.no
end
abbrev TY (i:Nat)(cs:ar)(c d:Sm):Sm:=λτ S=>match c τ S with
 | .ex x S1=>if x∈cs then Rl i (d (τ.set i (.exn x)) S1)else .no
 | r=>r
end Am
namespace L2
open PySem PySem.Spec PyProof.Rows
abbrev HX (e:ak)(oe:Obj)(Y:Cx):Prop:=Y.A.handled=some (.ref e)/\Y.H₀ e=some (.frz oe xu)
def Gw{P:aj}{w:ah}{K:au}(ho:XO C oe)(a it:ak):TurnG (HX e oe) P w K tg (Zk K a) [it] it (λi h=>h.IsListIter it a i) where
 obj:=(wC (P:=P) (w:=w) (K:=K) (tg:=tg) a it).obj
 keep:=(wC (P:=P) (w:=w) (K:=K) (tg:=tg) a it).keep
 item:=by
  z_go;subst hP hw hK;obtain⟨xs,x,hq,hx⟩:=hg;obtain⟨its,rv,p,hz⟩:=I.list hq;obtain⟨u,hu,ru⟩:=rv.get hx;w_up;refine wpAny_pyNext_list_item st p.isList (x:=u) (by simpa using hu) λh' st' sb=>?_;have I1:Inv X pins σ H { s with heap:=h' }:=I.turned (t':=s.toks) (λb o hb e=>(sb.2 b hb).trans e) f0 f1 f3 f4 f5;obtain⟨o,e,c,d⟩:=id st';exact⟨u,rfl,Eg (s:={ s with heap:=h' }) e c d ⋯ ⟨x,H,I1,ru,⟨rfl,λys hy=>by rw[I.Em hy hq];exact hx⟩,st',λb hb=>(hf b hb).1⟩⟩
 done:=by
  z_go;subst hP hw hK;obtain⟨xs,hq,hx⟩:=hg;obtain⟨its,rv,p,hz⟩:=I.list hq;w_up;obtain⟨vs,d1,d2⟩:=ho.ctx;have fe:=I.base.frzs e oe xu hc.2;obtain⟨ge,_⟩:=I.hok e _ fe;have hl:=rv.length;exact FO hc.1 ge d1 d2 (λz=>by rw[z,f0]at fe;cases fe) st p.isList (by simp;lia) λh' eb=>⟨rfl,I.turned (t':=s.toks) (λb o hb e=>eb b o hb e) f0 f1 f3 f4 f5⟩
 self:=λ_ _ _ _ _ st h=>wpAny_pyIter_listiter st h
def CU{X:Cx}(ho:XO C oe){l:aC}{tl:TE}(hl:PE X l tl):YM (HX e oe) X tg l (Tt X.K tl):=by
 intro pins s σ H R I h;refine mL (hl pins s σ H _ I h) λv s1 h9=>?_;obtain⟨x,H1,I1,r1,q1⟩:=h9;obtain⟨a,e,⟨xs,hq⟩,q⟩:=q1;subst e
 cases r1
 obtain⟨its,rv,p,hz⟩:=I1.list hq;refine i6 p.isList ?_;refine⟨s1.heap.objs.size,[s1.heap.objs.size],_,_,H1,rfl,I1.kept (t':=s1.toks) λb o e=>aO _ e,Gw ho a _,⟨_,bB _ rfl,rfl,rfl⟩,λb hb=>?_,q⟩;have e:b=s1.heap.objs.size:=by simpa using hb
 subst e;exact I1.DB (aQ _) (I1.hok.fresh (aQ _))
end L2
namespace Am
open PySem PySem.Spec PyProof.Rows L2
abbrev AX (c:Ex):Ic:=λτ S=>(c τ S).bind λa S1=>match a with
 | .ref n=>opt (jC S1 n) λxs=>.ok (lq n xs.length) S1
 | _=>.no
def QT{X:Cx}{l:aC}(ho:XO C oe){c:Ex}(he:AE X l c):YM (HX e oe) X tg l (tI X (AX c)):=λpins s σ H Q I h9=>by
 room;have hb:=jK h
 cases hc:c τ S with
 | no=>rw[hc]at hb;exact hb.elim
 | ex x S1=>
  rw[hc]at hb;exact CU ho he pins s σ H Q I ⟨ρ,S,τ,R,r,by rw[hc];exact hb⟩
 | ok a S1=>
  rw[hc]at hb
  cases a with
  | ref n=>
   obtain⟨xs,hn,hb⟩:=jO hb;refine CU ho he pins s σ H Q I ⟨ρ,S,τ,R,r,?_⟩;rw[hc];intro ρ1 H1 x e1 R1 v1
   cases v1 with
   | ref hp=>
    obtain⟨vs,h1,r1⟩:=R1.lst hp (jT hn);exact⟨_,rfl,⟨_,qa.of h1⟩,hb ρ1 H1 _ e1 R1 (PM hp)⟩
  | _=>exact hb.elim
def Nj{X:Cx}{iter:aC}{N:ar}{g:Tg}{t:Te}{c ci:Ex}(hh:X.A.handled=some (.ref e))(h0:X.H₀ e=some (.frz oe xu))(ho:XO C oe)
  (Sc:CpScope X scope N cap) (hi:AE X iter ci) (hg:∀C s₀ H₀ ex,AG (nh X scope N C s₀ H₀ ex) tg g) (ht:∀C s₀ H₀ ex,Ze (nh X scope N C s₀ H₀ ex) ifs t) (he:∀C s₀ H₀ ex,AE (nh X scope N C s₀ H₀ ex) elt c)
  (hs:∀x,foldedSetIterable iter X.env x=pure x:=by intro _;rfl):AE X (.ListComp elt [⟨tg,iter,ifs,0⟩] scope pos) (kZ cap (AX ci) g t c):=
 PE.imp (NR Sc (λ_ _ _ _ hk=>⟨hh,hk e oe xu h0⟩) (QT ho hi) (g:=Yi X.K g) (tc:=XS X.K t) (te:=Yw X.K c) (λC s₀ H₀ ex=>(hg C s₀ H₀ ex).g0 rfl) (λC s₀ H₀ ex=>ht C s₀ H₀ ex) (λC s₀ H₀ ex=>(he C s₀ H₀ ex).e0 rfl) hs) yD
def KS{K:au}{H:Hp}{a:ak}{ns:ag}{F:ae->jE->R A}(hO:Q_ H)(hS:qa K H a (ns.map V.int))(h:∃S',F [.frz (ns.map .int)] []=.ok (.bl true) S'):uz K 1 F [.ref a] H (λv _=>v=.bl true) λ_ _ _=>False:=by
 obtain⟨S',h⟩:=h;have fz:Fz K H a (ns.map V.int):=by
  rcases hS with(h|⟨o,h⟩)|h
  ·rcases hO a with z|⟨ob,xs,z⟩
   ·rw[h]at z;cases z
   ·rw[h]at z;cases z
  ·exact .inl ⟨o,h⟩
  ·exact .inr h
 exact⟨rfl,[],[],_,_,S',⟨rfl,dB,λn a o h=>by simp at h⟩,.cons (.frz fz (qU ns)) .nil,h,λρ' H' v _ _ hv=>C5 hv⟩
section
variable {P:aj}{w:ah}{K:au}{mg:Str->bd}{base:aq}{f:ak}{fd:FuncData}{ps:ar}{k n:Nat}
def VS(h:n=ps.length):FnOk P w K mg base (zP P w) k f fd ps (HU K n λ_ _=>.no):=
 ⟨λ_ _ _ _ z=>z.1.trans h,λ_ _ _ _ _ _ _ _ _ _ _ _ _ z=>by obtain⟨_,_,_,_,_,_,e⟩:=z;exact e.elim⟩
end
def Xj{P:ba->Prop}(h:∀a0,P [a0]):∀us:ba,us.length=1->P us
 | [_],_=>h _
def Dl{P:ba->Prop}(h:∀a0 a1,P [a0,a1]):∀us:ba,us.length=2->P us
 | [_,_],_=>h _ _
def W8{n:Nat}{us:ba}(h:us.length=n+1):∃a t,us=a::t/\t.length=n:=by
 cases us with
 | nil=>simp at h
 | cons a t=>exact⟨a,t,rfl,by simpa using h⟩
def XT{P:ba->Prop}(h:∀a0 a1 a2,P [a0,a1,a2]):∀us:ba,us.length=3->P us:=λus e=>by
 obtain⟨a0,t0,rfl,e0⟩:=W8 e;obtain⟨a1,t1,rfl,e1⟩:=W8 e0;obtain⟨a2,t2,rfl,e2⟩:=W8 e1
 cases fM.mp e2
 exact h _ _ _
end Am
namespace Am
open PySem L2
section
variable {α β:Type}{a b:A}{S S1:jE}{τ:ae}{x:α}
@[simp]def R.nH {f:α->jE->R β}:(R.ok x S).bind f=f x S:=rfl
@[simp]def R.IG {f:α->jE->R β}{c:Str}:(R.ex c S:R α).bind f=.ex c S:=rfl
@[simp]def R.ki {f:α->jE->R β}:(R.ok x S).p7 f=f x S:=rfl
@[simp]def RS.of_ok {f:α->jE->RS}:RS.of (R.ok x S) f=f x S:=rfl
@[simp]def RS.Ug {f:α->jE->RS}{c:Str}:RS.of (R.ex c S:R α) f=.ex c S:=rfl
@[simp]def kJ {f:β->R α}{y:β}:opt (some y) f=f y:=rfl
@[simp]def Js {r:R α}:gd True r=r:=aK trivial
theorem mw{c:Prop}[Decidable c]{r:R α}(h:c):gd c r=r:=aK h
@[simp]def JB {i:Nat}:jB i τ S=bif (τ.getD i .unb).p5 then .no else .ok (τ.getD i .unb) S:=by unfold jB;cases(τ.getD i .unb).p5<;>rfl
@[simp]def Jo {xs:ae}:A.p5 (.tup xs)=false:=rfl
@[simp]def GN {xs:ae}:A.p5 (.frz xs)=false:=rfl
@[simp]def HE {i:Int}:A.p5 (.int i)=false:=rfl
@[simp]def N4 {i:Bool}:A.p5 (.bl i)=false:=rfl
@[simp]def Jm {i:Str}:A.p5 (.str i)=false:=rfl
@[simp]def HR {i:Nat}:A.p5 (.ref i)=false:=rfl
@[simp]def Jg:A.p5 .non=false:=rfl
@[simp]def IF {i j:Int}:A.p5 (.rng i j)=false:=rfl
@[simp]def GO {c:Str}:A.p5 (.exn c)=false:=rfl
@[simp]def TL:eC a τ S=.ok a S:=rfl
abbrev ZA (f:A->A->jE->R A)(cb:Ex)(τ:ae)(a:A)(S:jE):R A:=(cb τ S).bind (f a)
@[simp]def Iz {f:A->A->jE->R A}{cb:Ex}:ZA f cb τ a S=(cb τ S).bind (f a):=rfl
@[simp]def Hz {f:A->A->jE->R A}{ca cb:Ex}:jI f ca cb τ S=(ca τ S).bind (ZA f cb τ):=rfl
@[simp]def MM {f:A->jE->R A}{ca:Ex}:QD f ca τ S=(ca τ S).bind f:=rfl
@[simp]def Jl {c:Ex}:ug c τ S=(c τ S).bind λa S1=>opt (a.Vx S1) λb=>.ok b S1:=rfl
abbrev aB (a:A)(S:jE):R Bool:=match a with
 | .bl b=>.ok b S
 | _=>.no
@[simp]def TM {b:Bool}:aB (.bl b) S=.ok b S:=rfl
@[simp]def LY {c:Ex}:xr c τ S=(c τ S).bind aB:=rfl
@[simp]def HN {c:Te}:zG c τ S=(c τ S).bind λb S1=>.ok (!b) S1:=rfl
abbrev Vu (d:Te)(τ:ae)(b:Bool)(S:jE):R Bool:=match b with|true=>d τ S|false=>.ok false S
abbrev kOr (d:Te)(τ:ae)(b:Bool)(S:jE):R Bool:=match b with|true=>.ok true S|false=>d τ S
@[simp]def Px {d:Te}:Vu d τ true S=d τ S:=rfl
@[simp]def MR {d:Te}:Vu d τ false S=.ok false S:=rfl
@[simp]def UP {d:Te}:kOr d τ true S=.ok true S:=rfl
@[simp]def Tu {d:Te}:kOr d τ false S=d τ S:=rfl
@[simp]def HH {c d:Te}:RV c d τ S=(c τ S).bind (Vu d τ):=rfl
@[simp]def Pf {c d:Te}:WE c d τ S=(c τ S).bind (kOr d τ):=rfl
@[simp]def Jj:qb τ S=.ok true S:=rfl
abbrev N2 (d:Ex)(τ:ae)(a:A)(S:jE):R A:=match a with | .bl true=>d τ S | .bl false=>.ok (.bl false) S|_=>.no
abbrev Wo (d:Ex)(τ:ae)(a:A)(S:jE):R A:=match a with | .bl true=>.ok (.bl true) S | .bl false=>d τ S|_=>.no
@[simp]def IK {d:Ex}:N2 d τ (.bl true) S=d τ S:=rfl
@[simp]def Hv {d:Ex}:N2 d τ (.bl false) S=.ok (.bl false) S:=rfl
@[simp]def O8 {d:Ex}:Wo d τ (.bl true) S=.ok (.bl true) S:=rfl
@[simp]def O9 {d:Ex}:Wo d τ (.bl false) S=d τ S:=rfl
@[simp]def HY {c d:Ex}:Ka c d τ S=(c τ S).bind (N2 d τ):=by
 unfold Ka
 cases c τ S with
 | ok a S1=>cases a<;>first|rfl|(rename_i b;cases b<;>rfl)
 | _=>rfl
@[simp]def LZ {c d:Ex}:eOr c d τ S=(c τ S).bind (Wo d τ):=by
 unfold eOr
 cases c τ S with
 | ok a S1=>cases a<;>first|rfl|(rename_i b;cases b<;>rfl)
 | _=>rfl
abbrev UJ (a:A)(S:jE):R A:=match a with | .bl b=>.ok (.bl !b) S|_=>.no
@[simp]def CP {b:Bool}:UJ (.bl b) S=.ok (.bl !b) S:=rfl
@[simp]def Jb {c:Ex}:Ve c τ S=(c τ S).bind UJ:=rfl
abbrev Vv (c d:Ex)(τ:ae)(b:Bool)(S:jE):R A:=match b with|true=>c τ S|false=>d τ S
@[simp]def O2 {c d:Ex}:Vv c d τ true S=c τ S:=rfl
@[simp]def Nq {c d:Ex}:Vv c d τ false S=d τ S:=rfl
@[simp]def NI {t:Te}{c d:Ex}:eIf t c d τ S=(t τ S).bind (Vv c d τ):=rfl
@[simp]def JD:jF τ S=.ok [] S:=rfl
abbrev F4 (a:A)(as:ae)(S:jE):R (ae):=.ok (a::as) S
abbrev TN (d:qc)(τ:ae)(a:A)(S:jE):R (ae):=(d τ S).bind (F4 a)
@[simp]def Ba {as:ae}:F4 a as S=.ok (a::as) S:=rfl
@[simp]def DS {d:qc}:TN d τ a S=(d τ S).bind (F4 a):=rfl
@[simp]def D6 {c:Ex}{d:qc}:jy c d τ S=(c τ S).bind (TN d τ):=rfl
@[simp]def Hx {d:qc}:oz d τ S=(d τ S).bind λas S1=>gd (as.length<=sizeLine) (.ok (.tup as) S1):=rfl
@[simp]def HL {d:qc}:mZ d τ S=(d τ S).bind newL:=rfl
theorem kY{as:ae}(h:as.length<=16777216):newL as S=.ok (.ref S.length) (S++[.lst as]):=mw (by rw[eF];exact h)
@[simp]def Dg {f:ae->jE->R A}{d:qc}:jZ f d τ S=(d τ S).bind f:=rfl
abbrev okR (r:R A):R A:=match r with
 | .ok a S=>.ok a S
 | _=>.no
@[simp]def Nm:okR (.ok a S)=.ok a S:=rfl
abbrev kFn (f:ae->jE->R A)(as:ae)(S:jE):R A:=okR (f as S)
@[simp]def ND {f:ae->jE->R A}{as:ae}:kFn f as S=okR (f as S):=rfl
@[simp]def NX {f:ae->jE->R A}{d:qc}:eFn f d τ S=(d τ S).bind (kFn f):=rfl
@[simp]def Ub {g:A->jE->R A}:f1 g [a] S=g a S:=rfl
@[simp]def Um {g:A->A->jE->R A}:f2 g [a,b] S=g a b S:=rfl
abbrev W4 (h:Pt)(τ:ae)(a:A)(l:bi)(S:jE):R A:=(h τ S).bind (Zg a l)
abbrev kSl (l h:Pt)(τ:ae)(a:A)(S:jE):R A:=(l τ S).bind (W4 h τ a)
@[simp]def HJ {h:Pt}{l:bi}:W4 h τ a l S=(h τ S).bind (Zg a l):=rfl
@[simp]def NG {l h:Pt}:kSl l h τ a S=(l τ S).bind (W4 h τ a):=rfl
@[simp]def Ni {c:Ex}{l h:Pt}:XR c l h τ S=(c τ S).bind (kSl l h τ):=rfl
@[simp]def Ec:Ay τ S=.ok none S:=rfl
abbrev aPt (a:A)(S:jE):R (bi):=match a with
 | .int i=>.ok (some i) S
 | _=>.no
@[simp]def G0 {i:Int}:aPt (.int i) S=.ok (some i) S:=rfl
@[simp]def DC {c:Ex}:Ao c τ S=(c τ S).bind aPt:=rfl
abbrev Vm (f:A->ae->jE->R A)(d:qc)(τ:ae)(o:A)(S:jE)(_:ae):R A:=(d τ S).bind (f o)
abbrev kMe (f:A->ae->jE->R A)(d:qc)(τ:ae)(o:A)(S:jE):R A:=opt (o.lst? S) (Vm f d τ o S)
@[simp]def GR {f:A->ae->jE->R A}{d:qc}{xs:ae}:Vm f d τ a S xs=(d τ S).bind (f a):=rfl
@[simp]def N9 {f:A->ae->jE->R A}{d:qc}:kMe f d τ a S=opt (a.lst? S) (Vm f d τ a S):=rfl
@[simp]def OX {f:A->ae->jE->R A}{c:Ex}{d:qc}:XM f c d τ S=(c τ S).bind (kMe f d τ):=rfl
@[simp]def Ik {f:A->ae->jE->R A}{c:Ex}:aan f c τ S=(c τ S).bind λo S1=>opt (o.lst? S1) λ_=>f o [] S1:=rfl
@[simp]def lst?_ref {n:Nat}:A.lst? S (.ref n)=jC S n:=rfl
abbrev RS.seq (r:RS)(d:Sm):RS:=match r with
 | .nx τ S=>d τ S
 | r=>r
@[simp]def RS.Lp {d:Sm}:RS.seq (.nx τ S) d=d τ S:=rfl
@[simp]def RS.L_ {d:Sm}:RS.seq (.rt a S) d=.rt a S:=rfl
@[simp]def RS.MN {d:Sm}{c:Str}:RS.seq (.ex c S) d=.ex c S:=rfl
@[simp]def RS.LB {d:Sm}:RS.seq (.bk τ S) d=.bk τ S:=rfl
@[simp]def RS.Qp {d:Sm}:RS.seq (.ct τ S) d=.ct τ S:=rfl
@[simp]def Hl {c d:Sm}:j5 c d τ S=RS.seq (c τ S) d:=by unfold j5 RS.seq;cases c τ S<;>rfl
@[simp]def Hq:oH τ S=.nx τ S:=rfl
@[simp]def AD:VO τ S=.bk τ S:=rfl
@[simp]def D7:X7 τ S=.ct τ S:=rfl
@[simp]def DO {e:Ex}:pJ e τ S=RS.of (e τ S) λ_ S1=>.nx τ S1:=rfl
@[simp]def Jw {e:Ex}:lE e τ S=RS.of (e τ S) .rt:=rfl
@[simp]def Dy:YV τ S=.rt .non S:=rfl
abbrev ZR (c d:Sm)(τ:ae)(b:Bool)(S:jE):RS:=match b with|true=>c τ S|false=>d τ S
@[simp]def UB {c d:Sm}:ZR c d τ true S=c τ S:=rfl
@[simp]def Uk {c d:Sm}:ZR c d τ false S=d τ S:=rfl
@[simp]def P7 {t:Te}{c d:Sm}:wV t c d τ S=RS.of (t τ S) (ZR c d τ):=rfl
abbrev YE (g:Tg)(τ:ae)(a:A)(S:jE):RS:=RS.of (g a τ S) .nx
@[simp]def HC {g:Tg}:YE g τ a S=RS.of (g a τ S) .nx:=rfl
@[simp]def Ih {e:Ex}{g:Tg}:kD e g τ S=RS.of (e τ S) (YE g τ):=rfl
@[simp]def N1 {i:Nat}:kQ i a τ S=.ok (τ.set i a) S:=rfl
abbrev Xs (a o:A)(τ:ae)(i:A)(S:jE):R (ae):=(EL o i a S).bind λ_ S3=>.ok τ S3
abbrev kSb (ci:Ex)(τ:ae)(a o:A)(S:jE):R (ae):=(ci τ S).bind (Xs a o τ)
@[simp]def HB {o i:A}:Xs a o τ i S=(EL o i a S).bind λ_ S3=>.ok τ S3:=rfl
@[simp]def OT {ci:Ex}{o:A}:kSb ci τ a o S=(ci τ S).bind (Xs a o τ):=rfl
@[simp]def LW {co ci:Ex}:VT co ci a τ S=(co τ S).bind (kSb ci τ a):=rfl
@[simp]def MW {n:Nat}{gs:Qu}{xs:ae}:Aj n gs (.tup xs) τ S=gd (xs.length=n) (gs xs τ S):=rfl
@[simp]def PL:A0 [] τ S=.ok τ S:=rfl
@[simp]def Pc {g:Tg}{gs:Qu}{as:ae}:r_ g gs (a::as) τ S=(g a τ S).bind (gs as):=rfl
abbrev sPr (i j:Nat)(τ:ae)(as:ae)(S:jE):RS:=match as with
 | [a,b]=>.nx ((τ.set i a).set j b) S
 | _=>.no
@[simp]def OQ {i j:Nat}:sPr i j τ [a,b] S=.nx ((τ.set i a).set j b) S:=rfl
@[simp]def JF {i j:Nat}{c:qc}:aaX i j c τ S=RS.of (c τ S) (sPr i j τ):=rfl
abbrev Lz (i:Nat)(τ:ae)(c:A)(S:jE):RS:=.nx (τ.set i c) S
abbrev Yd (i:Nat)(f:A->A->jE->R A)(τ:ae)(b:A)(S:jE):RS:=.of (f (τ.getD i .unb) b S) (Lz i τ)
@[simp]def EH {i:Nat}:Lz i τ a S=.nx (τ.set i a) S:=rfl
@[simp]def GZ {i:Nat}{f:A->A->jE->R A}:Yd i f τ a S=.of (f (τ.getD i .unb) a S) (Lz i τ):=rfl
@[simp]def IJ {i:Nat}{f:A->A->jE->R A}{e:Ex}:YQ i f e τ S=bif (τ.getD i .unb).p5 then .no else .of (e τ S) (Yd i f τ):=by
 unfold YQ;cases(τ.getD i .unb).p5<;>rfl
abbrev kS5 (o i:A)(τ:ae)(z:A)(S:jE):RS:=.of (EL o i z S) λ_ S6=>.nx τ S6
abbrev kS4 (f:A->A->jE->R A)(o i x:A)(τ:ae)(y:A)(S:jE):RS:=.of (f x y S) (kS5 o i τ)
abbrev kS3 (ce:Ex)(f:A->A->jE->R A)(o i:A)(τ:ae)(x:A)(S:jE):RS:=.of (ce τ S) (kS4 f o i x τ)
abbrev Z8 (ce:Ex)(f:A->A->jE->R A)(o:A)(τ:ae)(i:A)(S:jE):RS:=.of (Sv o i S) (kS3 ce f o i τ)
abbrev kS1 (ci ce:Ex)(f:A->A->jE->R A)(τ:ae)(o:A)(S:jE):RS:=.of (ci τ S) (Z8 ce f o τ)
@[simp]def Mm {o i:A}:kS5 o i τ a S=.of (EL o i a S) λ_ S6=>.nx τ S6:=rfl
@[simp]def Od {f:A->A->jE->R A}{o i x:A}:kS4 f o i x τ a S=.of (f x a S) (kS5 o i τ):=rfl
@[simp]def NK {ce:Ex}{f:A->A->jE->R A}{o i:A}:kS3 ce f o i τ a S=.of (ce τ S) (kS4 f o i a τ):=rfl
@[simp]def Pz {ce:Ex}{f:A->A->jE->R A}{o:A}:Z8 ce f o τ a S=.of (Sv o a S) (kS3 ce f o a τ):=rfl
@[simp]def M8 {ci ce:Ex}{f:A->A->jE->R A}:kS1 ci ce f τ a S=.of (ci τ S) (Z8 ce f a τ):=rfl
@[simp]def DT {co ci ce:Ex}{f:A->A->jE->R A}:ZK co ci ce f τ S=RS.of (co τ S) (kS1 ci ce f τ):=rfl
abbrev RS.end (r:RS):R A:=match r with
 | .rt a S'=>.ok a S'
 | .nx _ S'=>.ok .non S'
 | .ex c S'=>.ex c S'
 | _=>.no
@[simp]def RS.NV:RS.end (.rt a S)=.ok a S:=rfl
@[simp]def RS.LC:RS.end (.nx τ S)=.ok .non S:=rfl
@[simp]def RS.P8 {c:Str}:RS.end (.ex c S)=.ex c S:=rfl
theorem xO {N:ar}{m:Sm}{as:ae}:lV N m as S=RS.end (m (as++List.replicate (N.length-as.length) .unb) S):=by
 unfold lV RS.end;cases m (as++List.replicate (N.length-as.length) .unb) S<;>rfl
@[simp]def Pe {i j:Int}:lg (.int i) (.int j) S=.ok (.int (i+j)) S:=rfl
@[simp]def P_ {i j:Int}:aSub (.int i) (.int j) S=.ok (.int (i-j)) S:=rfl
@[simp]def N6 {i j:Int}:aaE (.int i) (.int j) S=.ok (.int (i+j)) S:=rfl
theorem Mt{i j:Int}(h:-18446744073709551616<i)(h':i<18446744073709551616):Bw (.int i) (.int j) S=.ok (.int (i * j)) S:=mw (by unfold Ii;simp;left;exact⟨by omega,by omega⟩)
def Mp{i j:Int}(h:0<j)(h':j<1073741824):G8 (.int i) (.int j) S=.ok (.int (i / j)) S:=mw ⟨h,()⟩
def A5{i j:Int}(h:0<j):ym (.int i) (.int j) S=.ok (.int (i % j)) S:=mw h
@[simp]def Tq {i j:Int}:Y_ (.int i) (.int j) S=.ok (.bl (decide (i<j))) S:=rfl
@[simp]def UK {i j:Int}:ZX (.int i) (.int j) S=.ok (.bl (decide (i<=j))) S:=rfl
@[simp]def Us {i j:Int}:UA (.int i) (.int j) S=.ok (.bl (decide (j<i))) S:=rfl
@[simp]def TF {i j:Int}:XY (.int i) (.int j) S=.ok (.bl (decide (j<=i))) S:=rfl
@[simp]def Uu {i j:Bool}:U0 false (.bl i) (.bl j) S=.ok (.bl (i == j)) S:=rfl
@[simp]def MS {i j:Bool}:U0 true (.bl i) (.bl j) S=.ok (.bl (i != j)) S:=rfl
@[simp]def Pu {i:Int}:Ce (.int i) S=.ok (.int (-i)) S:=rfl
@[simp]def Nu {xs:ae}:p9 (.tup xs) S=.ok (.int xs.length) S:=rfl
@[simp]def NO {xs:ae}:p9 (.frz xs) S=.ok (.int xs.length) S:=rfl
@[simp]def ML {n:Nat}:p9 (.ref n) S=opt (jC S n) λxs=>.ok (.int xs.length) S:=rfl
@[simp]def LD {i:Int}:Vj (.int i) S=.ok (.int (if i<0 then -i else i)) S:=rfl
@[simp]def Il {i j:Int}:MP (.int i) (.int j) S=.ok (.int (if j>i then j else i)) S:=rfl
@[simp]def Ja {i j:Int}:PD (.int i) (.int j) S=.ok (.int (if j<i then j else i)) S:=rfl
@[simp]def GW {i:Int}:JG (.int i) S=.ok (.int i) S:=rfl
@[simp]def GV {i:Bool}:JG (.bl i) S=.ok (.int (if i then 1 else 0)) S:=rfl
@[simp]def A7 {i j:Int}:rE (.int i) (.int j) S=.ok (.rng i j) S:=rfl
@[simp]def Uc {xs:ae}{i:Int}:oh (.tup xs) (.int i) S=opt (rA xs i) λx=>.ok x S:=rfl
@[simp]def Up {xs:ae}{i:Int}:oh (.frz xs) (.int i) S=opt (rA xs i) λx=>.ok x S:=rfl
@[simp]def UL {n:Nat}{i:Int}:oh (.ref n) (.int i) S=opt (jC S n) λxs=>opt (rA xs i) λx=>.ok x S:=rfl
@[simp]def M6 {n:Nat}{k:Int}:EL (.ref n) (.int k) a S=opt (jC S n) λxs=>opt (Er xs.length k) λj=>.ok Unit.unit (S.set n (.lst (xs.set j a))):=rfl
@[simp]def Ph {n:Nat}{i:Int}:Sv (.ref n) (.int i) S=opt (jC S n) λxs=>gd (0<=i) (opt (xs[i.toNat]?) λx=>.ok x S):=rfl
theorem Ar{i j:Int}(h:yL i j):uw (.rng i j) S=.ok (.ref S.length) (S++[.lst ((kP i j).map .int)]):=mw h
def Gj{i j:Int}(h:yL i j):nX (.rng i j) S=.ok (.tup ((kP i j).map .int)) S:=mw h
@[simp]def JL {xs:ae}:uw (.tup xs) S=.ok (.ref S.length) (S++[.lst xs]):=rfl
@[simp]def Hu {xs:ae}:uw (.frz xs) S=.ok (.ref S.length) (S++[.lst xs]):=rfl
@[simp]def JE {n:Nat}:uw (.ref n) S=opt (jC S n) λxs=>.ok (.ref S.length) (S++[.lst xs]):=rfl
@[simp]def ED {xs:ae}:nX (.tup xs) S=.ok (.tup xs) S:=rfl
@[simp]def Ed {n:Nat}:nX (.ref n) S=opt (jC S n) λxs=>.ok (.tup xs) S:=rfl
@[simp]def Me {xs:ae}:YK (.tup xs) S=.ok (.tup xs.reverse) S:=rfl
@[simp]def Pa {n:Nat}:YK (.ref n) S=opt (jC S n) λxs=>.ok (.ref S.length) (S++[.lst xs.reverse]):=rfl
@[simp]def U5 {n:Nat}{l u:bi}:Zg (.ref n) l u S=opt (jC S n) λxs=>.ok (.ref S.length) (S++[.lst (xF xs l u)]):=rfl
@[simp]def zH {n:Nat}:vQ (.ref n) [a] S=opt (jC S n) λxs=>gd (xs.length<sizeLine) (.ok .non (S.set n (.lst (xs++[a])))):=rfl
@[simp]def Nl {b:Bool}:A.Vx (.bl b) S=some b:=rfl
@[simp]def HA {i:Int}:A.Vx (.int i) S=some (i != 0):=rfl
theorem Fc{o:O}:(S++[o])[S.length]?=some o:=by simp
@[simp]def jQ {xs:ae}:jC (S++[.lst xs]) S.length=some xs:=vO Fc
theorem kN{o:O}{n:Nat}(h:jC S n=some xs):jC (S++[o]) n=some xs:=by
 have h':=jT h;exact vO (by rw[bH (aL.mp h').1];exact h')
def nW{n:Nat}(h:jC S n=some xs):n<S.length:=(aL.mp (jT h)).1
def o9{n:Nat}(h:n<S.length):jC (S.set n (.lst ys)) n=some ys:=vO (bN h)
def pI{n:Nat}(h:n≠m):jC (S.set n (.lst ys)) m=jC S m:=by unfold jC;rw[bW h]
def FI{xs:ae}{i:Int}{k:Nat}{x:A}(h:i=k)(hx:xs[k]?=some x):rA xs i=some x:=by rw[h];exact SM hx
def yQ{n:Nat}{i:Int}{k:Nat}(h:i=k)(hk:k<n):Er n i=some k:=by
 subst h;unfold Er;rw[aK (),aK ()];simp
end
structure Kp (b:Nat->Prop)(S S':jE):Prop where
 len:S.length<=S'.length
 obj:∀(n:Nat) (o:O),¬b n->S[n]?=some o->S'[n]?=some o
meta abbrev lX:=Kp λ_=>False
def Kp.lst{b:Nat->Prop}(h:Kp b S S')(n:Nat)(xs:ae)(hb:¬b n)(e:jC S n=some xs):jC S' n=some xs:=vO (h.obj n _ hb (jT e))
def Kp.dct{b:Nat->Prop}(h:Kp b S S')(n:Nat)(xs:List (ag×A))(hb:¬b n)(e:jY S n=some xs):jY S' n=some xs:=vc (h.obj n _ hb (nR e))
def Kp.refl{b:Nat->Prop}:Kp b S S:=⟨aQ _,λ_ _ _ h=>h⟩
def Kp.trans{b:Nat->Prop}(h:Kp b S S1)(h':Kp b S1 S2):Kp b S S2:=⟨bJ h.len h'.len,λn xs hb e=>h'.obj n xs hb (h.obj n xs hb e)⟩
def BP{S:jE}{n:Nat}(e:S[n]?=some o):n<S.length:=(aL.mp e).1
def Kp.lay{b:Nat->Prop}{o:O}(h:Kp b S S1):Kp b S (S1++[o]):=⟨bJ h.len (by simp),λn xs hb e=>by
 have:=h.obj n xs hb e;rw[bH (BP this)];exact this⟩
def Kp.E1{b:Nat->Prop}{S S1:jE}(h:Kp b S S1)(hm:b m\/S.length<=m):Kp b S (S1.set m o):=⟨by rw[cu];exact h.len,λn xs hb e=>by
 have:m≠n:=λz=>by
  subst z
  rcases hm with z|z
  ·exact hb z
  ·exact absurd (BP e) ()
 rw[bW this];exact h.obj n xs hb e⟩
def Kp.set{b:Nat->Prop}{S S1:jE}(h:Kp b S S1)(hm:b m\/S.length<=m):Kp b S (S1.set m (.lst ys)):=h.E1 hm
def Kp.mono{b c:Nat->Prop}{S:jE}(h:Kp b S S1)(hb:∀n,n<S.length->b n->c n):Kp c S S1:=⟨h.len,λn xs hc e=>h.obj n xs (λz=>hc (hb n (BP e) z)) e⟩
def Kp.of0{b:Nat->Prop}(h:lX S S1):Kp b S S1:=h.mono λ_ _ z=>z.elim
def Kp.old{b c:Nat->Prop}{S:jE}(h:Kp b S S1)(h':Kp c S1 S2)(hc:∀n,n<S.length->¬b n->¬c n):Kp b S S2:=⟨bJ h.len h'.len,λn xs hb e=>h'.obj n xs (hc n (BP e) hb) (h.obj n xs hb e)⟩
theorem yJ{t:Te}{c:Sm}(Inv:ae->jE->Prop)(μ:ae->jE->Nat)(Post:RS->Prop)
  (h:∀τ S,Inv τ S->(∃S1,t τ S=.ok false S1/\Post (.nx τ S1))\/(∃S1,t τ S=.ok true S1/\((∃τ' S',c τ S1=.nx τ' S'/\Inv τ' S'/\μ τ' S'<μ τ S)\/(∃a S',c τ S1=.rt a S'/\Post (.rt a S'))))) :
  ∀n τ S,Inv τ S->μ τ S<n->Post (nG t c n τ S)
 | 0,_,_,_,hn=>absurd hn (fX _)
 | n+1,τ,S,hi,hn=>by
  unfold nG
  rcases h τ S hi with⟨S1,e,q⟩|⟨S1,e,⟨τ',S',e2,hi',hm⟩|⟨a,S',e2,q⟩⟩
  ·rw[e];exact q
  ·rw[e];show Post (match c τ S1 with
    | .nx τ' S'=>nG t c n τ' S'
    | .ct τ' S'=>nG t c n τ' S'
    | .bk τ' S'=>.nx τ' S'
    | r=>r)
   rw[e2];exact yJ Inv μ Post h n τ' S' hi' ()
  ·rw[e];show Post (match c τ S1 with
    | .nx τ' S'=>nG t c n τ' S'
    | .ct τ' S'=>nG t c n τ' S'
    | .bk τ' S'=>.nx τ' S'
    | r=>r)
   rw[e2];exact q
theorem CI{s:Src}{g:Tg}{c:Sm}(Inv:Nat->ae->jE->Prop)(Post:RS->Prop)
  (step:∀i τ S,i<s.k->Inv i τ S->∃x τ1 S1,s.get i S=some x/\g x τ S=.ok τ1 S1/\((∃τ' S',c τ1 S1=.nx τ' S'/\Inv (i+1) τ' S')\/(∃a S',c τ1 S1=.rt a S'/\Post (.rt a S'))))
  (fin:∀τ S,Inv s.k τ S->s.fin S=true/\Post (.nx τ S)):∀k i τ S,k+i=s.k->Inv i τ S->Post (qw s g c k i τ S)
 | 0,i,τ,S,hk,hi=>by
  have:i=s.k:=()
  subst this;obtain⟨hf,q⟩:=fin τ S hi;unfold qw;rw[aK hf];exact q
 | k+1,i,τ,S,hk,hi=>by
  obtain⟨x,τ1,S1,hx,hg,h⟩:=step i τ S () hi;unfold qw;rw[hx];show Post (RS.of (g x τ S) λτ1 S1=>match c τ1 S1 with
   | .nx τ' S'=>qw s g c k (i+1) τ' S'
   | .ct τ' S'=>qw s g c k (i+1) τ' S'
   | .bk τ' S'=>.nx τ' S'
   | r=>r)
  rw[hg];show Post (match c τ1 S1 with
   | .nx τ' S'=>qw s g c k (i+1) τ' S'
   | .ct τ' S'=>qw s g c k (i+1) τ' S'
   | .bk τ' S'=>.nx τ' S'
   | r=>r)
  rcases h with⟨τ',S',e,hi'⟩|⟨a,S',e,q⟩
  ·rw[e];exact CI Inv Post step fin k (i+1) τ' S' () hi'
  ·rw[e];exact q
def CO{lo hi:Int}{c:Sm}{src:Ic}{τ:ae}(hs:src τ S=.ok (qL lo hi) S1)(Inv:Nat->ae->jE->Prop)(Post:RS->Prop)(h0:Inv 0 τ S1)
  (step:∀(i:Nat) τ S,(i:Int)<hi-lo->Inv i τ S->(∃τ' S',c (τ.set j (.int (lo+i))) S=.nx τ' S'/\Inv (i+1) τ' S')\/(∃a S',c (τ.set j (.int (lo+i))) S=.rt a S'/\Post (.rt a S')))
  (fin:∀τ S,Inv (hi-lo).toNat τ S->Post (.nx τ S)):Post (nj src (kQ j) c τ S):=by
 unfold nj;rw[hs];refine CI (s:=qL lo hi) Inv Post (λi τ S hi' h=>?_) (λτ S h=>⟨rfl,fin τ S h⟩) _ 0 τ S1 rfl h0;have hi':i<(hi-lo).toNat:=hi';exact⟨.int (lo+i),_,S,aK hi',rfl,step i τ S () h⟩
def WV{xs:ae}{g:Tg}{c:Sm}{src:Ic}(hs:src τ S=.ok (C_ xs) S1)(Inv:Nat->ae->jE->Prop)(Post:RS->Prop)(h0:Inv 0 τ S1)
  (step:∀(i:Nat) x τ S,xs[i]?=some x->Inv i τ S->∃τ1 S1,g (.tup [.int i,x]) τ S=.ok τ1 S1/\((∃τ' S',c τ1 S1=.nx τ' S'/\Inv (i+1) τ' S')\/(∃a S',c τ1 S1=.rt a S'/\Post (.rt a S'))))
  (fin:∀τ S,Inv xs.length τ S->Post (.nx τ S)):Post (nj src g c τ S):=by
 unfold nj;rw[hs];refine CI (s:=C_ xs) Inv Post (λi τ S hi' h=>?_) (λτ S h=>⟨rfl,fin τ S h⟩) _ 0 τ S1 rfl h0;have hi':i<xs.length:=hi';obtain⟨τ1,S1,e,q⟩:=step i xs[i] τ S (aG hi') h;exact⟨.tup [.int i,xs[i]],τ1,S1,by show(xs[i]?).map _=_;rw[aG hi'];rfl,e,q⟩
def tU{n:Nat}{xs:ae}{g:Tg}{c:Sm}{src:Ic}(hs:src τ S=.ok (lq n xs.length) S1)(Inv:Nat->ae->jE->Prop)(Post:RS->Prop)(h0:Inv 0 τ S1)(hl:∀i τ S,Inv i τ S->jC S n=some xs)
  (step:∀(i:Nat) x τ S,xs[i]?=some x->Inv i τ S->∃τ1 S1,g x τ S=.ok τ1 S1/\((∃τ' S',c τ1 S1=.nx τ' S'/\Inv (i+1) τ' S')\/(∃a S',c τ1 S1=.rt a S'/\Post (.rt a S'))))
  (fin:∀τ S,Inv xs.length τ S->Post (.nx τ S)):Post (nj src g c τ S):=by
 unfold nj;rw[hs];refine CI (s:=lq n xs.length) Inv Post (λi τ S hi' h=>?_) (λτ S h=>⟨?_,fin τ S h⟩) _ 0 τ S1 rfl h0
 ·have hi':i<xs.length:=hi';obtain⟨τ1,S1,e,q⟩:=step i xs[i] τ S (aG hi') h;exact⟨xs[i],τ1,S1,by show(jC S n).bind _=_;rw[hl i τ S h];exact aG hi',e,q⟩
 ·show(match jC S n with
   | some ys=>decide (ys.length<=xs.length)
   | none=>false)=true
  rw[hl _ τ S h];exact bg (aQ _)
@[simp]def vA {c:Ex}{τ:ae}{S S1:jE}{j:Int}(h:c τ S=.ok (.int j) S1)(hb:bnd j):uv c τ S=.ok (qL 0 j) S1:=by
 unfold uv;rw[h];exact mw hb
def Oz{c d:Ex}{i j:Int}(h:c τ S=.ok (.int i) S1)(h':d τ S1=.ok (.int j) S2)(hb:bnd i)(hb':bnd j):yp c d τ S=.ok (qL i j) S2:=by
 unfold yp;rw[h];show(d τ S1).bind _=_;rw[h'];exact mw ⟨hb,hb'⟩
def oX{c:Ex}{n:Nat}{xs:ae}(h:c τ S=.ok (.ref n) S1)(hl:jC S1 n=some xs):oK c τ S=.ok (lq n xs.length) S1:=by
 unfold oK;rw[h];show opt (jC S1 n) _=_;rw[hl];rfl
def VI{c:Ex}(h:c τ S=.ok (.tup xs) S1):QK c τ S=.ok (C_ xs) S1:=by unfold QK;rw[h];rfl
theorem vm{s:Src}{g:Tg}{t:Te}{e:Ex}{P:jE->Prop}{T:ae->Prop}(it:Nat->A)(p:Nat->Bool)(f:Nat->A)
  (hget:∀i S,i<s.k->P S->s.get i S=some (it i)) (hfin:∀S,P S->s.fin S=true)
  (step:∀i τ S,i<s.k->T τ->P S->∃τ1 S1 S2,g (it i) τ S=.ok τ1 S1/\t τ1 S1=.ok (p i) S2/\T τ1/\(p i=false->P S2)/\(p i=true->∃S3,e τ1 S2=.ok (f i) S3/\P S3)) :
  ∀k i τ S,k+i=s.k->T τ->P S->∃S',lJ s g t e k i τ S=.ok (((List.range' i k).filter p).map f) S'/\P S'
 | 0,i,τ,S,hk,hT,hP=>⟨S,by unfold lJ;rw[aK (hfin S hP)];rfl,hP⟩
 | k+1,i,τ,S,hk,hT,hP=>by
  obtain⟨τ1,S1,S2,hg,ht,hT1,hF,hTr⟩:=step i τ S (by omega) hT hP;unfold lJ;rw[hget i S (by omega) hP,kJ,hg,R.ki,ht,R.ki,List.range'_succ,cV]
  cases hp:p i with
  | false=>
   obtain⟨S',h1,h2⟩:=vm it p f hget hfin step k (i+1) τ1 S2 (by omega) hT1 (hF hp);exact⟨S',by simpa using h1,h2⟩
  | true=>
   obtain⟨S3,he,hP3⟩:=hTr hp;obtain⟨S',h1,h2⟩:=vm it p f hget hfin step k (i+1) τ1 S3 (by omega) hT1 hP3;refine⟨S',?_,h2⟩
   skip
   rw[he,R.ki,h1];rfl
def AA{s:Src}{src:Ic}{t:Te}{e:Ex}{S1:jE}(hs:src τ S=.ok s S1)(it:Nat->A)(p:Nat->Bool)(f:Nat->A)(hget:∀i,i<s.k->s.get i S1=some (it i))(hfin:s.fin S1=true)
  (ht:∀i,i<s.k->t (it i::l9 cap τ) S1=.ok (p i) S1) (he:∀i,i<s.k->p i=true->e (it i::l9 cap τ) S1=.ok (f i) S1) (hl:s.k<=16777216) :
  kZ (none::cap) src (kQ 0) t e τ S=.ok (.ref S1.length) (S1++[.lst (((List.range s.k).filter p).map f)]):=by
 unfold kZ;rw[hs,R.nH];obtain⟨S',h1,h2⟩:=vm (s:=s) (g:=kQ 0) (t:=t) (e:=e) (P:=λS=>S=S1) (T:=λτ'=>∃y,τ'=y::l9 cap τ) it p f (λi S hi h=>by subst h;exact hget i hi) (λS h=>by subst h;exact hfin)
  (λi τ' S hi ⟨y,hy⟩ h=>by
   subst h hy;exact⟨it i::l9 cap τ,S,S,rfl,ht i hi,⟨_,rfl⟩,λ_=>rfl,λhp=>⟨S,he i hi hp,rfl⟩⟩) s.k 0 (l9 (none::cap) τ) S1 rfl ⟨_,rfl⟩ rfl
 subst h2;rw[h1,R.ki,gb];refine kY ?_;rw[aH];refine bJ (dH _ _) ?_;rw[List.length_range'];exact hl
def rz{α β:Type}(xs:List α)(p:α->Bool)(f:α->β):∀(d:α) ,(((List.range xs.length).filter λi=>p (xs.getD i d)).map λi=>f (xs.getD i d))=(xs.filter p).map f:=by
 intro d
 induction xs with
 | nil=>rfl
 | cons x xs ih=>
  rw[bC,gZ,cV,cV];have e:((List.filter (λi=>p ((x::xs).getD i d)) (List.map Nat.succ (List.range xs.length))).map λi=>f ((x::xs).getD i d))=(xs.filter p).map f:=by
   rw[jo,bq];rw[<- ih];rfl
  show List.map _ (if p x=true then _ else _)=List.map f (if p x=true then _ else _);by_cases hp:p x=true
  ·rw[aK hp,aK hp,bF,bF,e];rfl
  ·rw[aI hp,aI hp,e]
def Pj{lo hi:Int}{src:Ic}{t:Te}{e:Ex}{S1:jE}(hs:src τ S=.ok (qL lo hi) S1)(p:Int->Bool)(f:Int->A)
  (ht:∀k,lo<=k->k<hi->t (.int k::l9 cap τ) S1=.ok (p k) S1) (he:∀k,lo<=k->k<hi->p k=true->e (.int k::l9 cap τ) S1=.ok (f k) S1) (hl:(hi-lo).toNat<=16777216) :
  kZ (none::cap) src (kQ 0) t e τ S=.ok (.ref S1.length) (S1++[.lst (((kP lo hi).filter p).map f)]):=by
 rw[AA hs (λi=>.int (lo+i)) (λi=>p (lo+i)) (λi=>f (lo+i)) (λi hi'=>aK hi') rfl (λi hi'=>ht _ () (by have:i<(hi-lo).toNat:=hi';lia)) (λi hi'=>he _ () (by have:i<(hi-lo).toNat:=hi';lia)) hl];unfold kP;rw[jo,bq];rfl
@[simp]def MQ {cap:List (bp)}{τ:ae}:l9 (none::cap) τ=.unb::l9 cap τ:=rfl
@[simp]def PX {cap:List (bp)}{τ:ae}{j:Nat}:l9 (some j::cap) τ=τ.getD j .unb::l9 cap τ:=rfl
@[simp]def Dh {τ:ae}:l9 [] τ=[]:=rfl
theorem Dm{x:A}:rA (x::xs) 0=some x:=FI (k:=0) rfl rfl
def Uz{x:A}:rA (x::y::xs) 1=some y:=FI (k:=1) rfl rfl
def BX{ns:ag}{i:Int}{k:Nat}{x:Int}(h:i=k)(hx:ns[k]?=some x):rA (ns.map A.int) i=some (.int x):=FI h (by rw[aS,hx];rfl)
def wB{j:Int}(h:-4611686018427387904<=j)(h':j<4611686018427387904):bnd j:=⟨(),()⟩
def yN{i j:Int}(h1:-1000000<=i)(h2:i<=1000000)(h3:-1000000<=j)(h4:j<=1000000)(h5:j-i<=1000):yL i j:=⟨⟨(),(),(),()⟩,()⟩
theorem ints_map:∀(ns:ag),A.ints (ns.map .int)=some ns
 | []=>rfl
 | n::ns=>by show(A.ints (ns.map .int)).map (n::·)=_;rw[ints_map ns];rfl
theorem v_{n:Nat}:∀(xs ys:ag),rB (se S (n+1)) (xs.map .int) (ys.map .int)=some (decide (xs=ys))
 | [],[]=>rfl
 | [],_::_=>rfl
 | _::_,[]=>rfl
 | x::xs,y::ys=>by
  skip
  skip
  show Option.map _ (rB (se S (n+1)) (xs.map .int) (ys.map .int))=_;rw[v_ xs ys]
  skip
  by_cases h1:x=y<;>by_cases h2:xs=ys<;>simp[h1,h2]
@[simp]def T9 {S:jE}{x y:Bool}:sf false (.bl x) (.bl y) S=.ok (.bl (x == y)) S:=rfl
@[simp]def UT {S:jE}{x y:Bool}:sf true (.bl x) (.bl y) S=.ok (.bl (!(x == y))) S:=rfl
@[simp]def UD {S:jE}{x y:Int}:sf false (.int x) (.int y) S=.ok (.bl (x == y)) S:=rfl
@[simp]def TZ {S:jE}{x y:Int}:sf true (.int x) (.int y) S=.ok (.bl (!(x == y))) S:=rfl
@[simp]def IV {S:jE}:U0 false .non .non S=.ok (.bl true) S:=rfl
@[simp]def IP {S:jE}{xs:ae}:U0 false (.tup xs) .non S=.ok (.bl false) S:=rfl
@[simp]def JN {S:jE}{n:Nat}:U0 false (.ref n) .non S=.ok (.bl false) S:=rfl
@[simp]def Eo {S:jE}:U0 true .non .non S=.ok (.bl false) S:=rfl
@[simp]def DF {S:jE}{xs:ae}:U0 true (.tup xs) .non S=.ok (.bl true) S:=rfl
@[simp]def DZ {S:jE}{n:Nat}:U0 true (.ref n) .non S=.ok (.bl true) S:=rfl
@[simp]def Hh {S:jE}{x:A}{c:String}:Q9 x (.ty c) S=opt (x.kd S) λk=>opt (KZ k c) λb=>.ok (.bl b) S:=rfl
@[simp]def UI {S:jE}{b:Bool}:A.kd (.bl b) S=some .bl:=rfl
@[simp]def Ov {S:jE}{b:Int}:A.kd (.int b) S=some .int:=rfl
@[simp]def My {S:jE}{b:ae}:A.kd (.tup b) S=some .tup:=rfl
@[simp]def NH {S:jE}:A.kd .non S=some .non:=rfl
@[simp]def Nf {S:jE}{b:Str}:A.kd (.str b) S=some .str:=rfl
@[simp]def Lx {S:jE}{n:Nat}:A.kd (.ref n) S=(jC S n).map λ_=>.lst:=rfl
@[simp]def MT {S:jE}:newL [] S=.ok (.ref S.length) (S++[.lst []]):=kY (by simp)
@[simp]def Ms {S:jE}{x0:A}:newL [x0] S=.ok (.ref S.length) (S++[.lst [x0]]):=kY (by simp)
@[simp]def Np {S:jE}{x0 x1:A}:newL [x0,x1] S=.ok (.ref S.length) (S++[.lst [x0,x1]]):=kY (by simp)
@[simp]def O6 {S:jE}{x0 x1 x2:A}:newL [x0,x1,x2] S=.ok (.ref S.length) (S++[.lst [x0,x1,x2]]):=kY (by simp)
@[simp]def Ls {S:jE}{x0 x1 x2 x3:A}:newL [x0,x1,x2,x3] S=.ok (.ref S.length) (S++[.lst [x0,x1,x2,x3]]):=kY (by simp)
@[simp]def Qf {S:jE}{x0 x1 x2 x3 x4:A}:newL [x0,x1,x2,x3,x4] S=.ok (.ref S.length) (S++[.lst [x0,x1,x2,x3,x4]]):=kY (by simp)
@[simp]def OG {S:jE}{x0 x1 x2 x3 x4 x5:A}:newL [x0,x1,x2,x3,x4,x5] S=.ok (.ref S.length) (S++[.lst [x0,x1,x2,x3,x4,x5]]):=kY (by simp)
@[simp]def NT {S:jE}{x0 x1 x2 x3 x4 x5 x6:A}:newL [x0,x1,x2,x3,x4,x5,x6] S=.ok (.ref S.length) (S++[.lst [x0,x1,x2,x3,x4,x5,x6]]):=kY (by simp)
@[simp]def FD {S:jE}{x0 x1 x2 x3 x4 x5 x6 x7:A}:newL [x0,x1,x2,x3,x4,x5,x6,x7] S=.ok (.ref S.length) (S++[.lst [x0,x1,x2,x3,x4,x5,x6,x7]]):=kY (by simp)
@[simp]def Oa {S:jE}{x0 x1 x2 x3 x4 x5 x6 x7 x8:A}:newL [x0,x1,x2,x3,x4,x5,x6,x7,x8] S=.ok (.ref S.length) (S++[.lst [x0,x1,x2,x3,x4,x5,x6,x7,x8]]):=kY (by simp)
@[simp]def Jh {S:jE}{x0 x1 x2 x3 x4 x5 x6 x7 x8 x9:A}:newL [x0,x1,x2,x3,x4,x5,x6,x7,x8,x9] S=.ok (.ref S.length) (S++[.lst [x0,x1,x2,x3,x4,x5,x6,x7,x8,x9]]):=kY (by simp)
theorem uF{α:Type}{n:Nat}{r:R α}(h:n<=16777216):gd (n<=sizeLine) r=r:=mw (by rw[eF];exact h)
def zv{α:Type}{n:Nat}{r:R α}(h:n<16777216):gd (n<sizeLine) r=r:=mw (by rw[eF];exact h)
def Tw {x:A}{xs:ae}:(x::xs).getD 0 .unb=x:=rfl
def Ur {x:A}{xs:ae}{n:Nat}:(x::xs).getD (n+1) .unb=xs.getD n .unb:=rfl
def Ys {x y:A}{xs:ae}:(x::xs).set 0 y=y::xs:=rfl
def sets {x y:A}{xs:ae}{n:Nat}:(x::xs).set (n+1) y=x::xs.set n y:=rfl
def rep0 {x:A}:List.replicate 0 x=[]:=rfl
def reps {x:A}{n:Nat}:List.replicate (n+1) x=x::List.replicate n x:=rfl
def Y7 {x:A}{xs ys:ae}:(x::xs)++ys=x::(xs++ys):=rfl
def Zd {ys:ae}:[]++ys=ys:=rfl
def HS{S:jE}{n:Nat}{xs ys:ae}(h:jC S n=some xs)(h':jC S m=some ys)(hl:xs.length+ys.length<=16777216):lg (.ref n) (.ref m) S=.ok (.ref S.length) (S++[.lst (xs++ys)]):=by
 show opt (jC S n) _=_;rw[h,kJ,h',kJ];exact mw (by rw[eF];exact hl)
def kC:type_of% (anI @R.nH (anI @R.IG (anI @R.ki (anI @RS.of_ok (anI @RS.Ug (anI @kJ (anI @Js (anI @JB (anI @Jo (anI @GN (anI @HE (anI @N4 (anI @Jm (anI @HR (anI @Jg (anI @IF (anI @GO (anI @TL (anI @Hz (anI @MM (anI @Jl (anI @TM (anI @LY (anI @HN (anI @HH (anI @Pf (anI @Jj (anI @IK (anI @Hv (anI @O8 (anI @O9 (anI @HY (anI @LZ (anI @CP (anI @Jb (anI @NI (anI @JD (anI @D6 (anI @Hx (anI @HL (anI @Dg (anI @Nm (anI @NX (anI @Ub (anI @Um (anI @Ni (anI @Ec (anI @G0 (anI @DC (anI @OX (anI @Ik (anI @lst?_ref (anI @RS.Lp (anI @RS.L_ (anI @RS.MN (anI @RS.LB (anI @RS.Qp (anI @Hl (anI @Hq (anI @AD (anI @D7 (anI @DO (anI @Jw (anI @Dy (anI @P7 (anI @Ih (anI @N1 (anI @LW (anI @MW (anI @PL (anI @Pc (anI @OQ (anI @JF (anI @IJ (anI @DT (anI @RS.NV (anI @RS.LC (anI @RS.P8 (anI @Pe (anI @P_ (anI @N6 (anI @Tq (anI @UK (anI @Us (anI @TF (anI @Uu (anI @MS (anI @Pu (anI @Nu (anI @NO (anI @ML (anI @LD (anI @Il (anI @Ja (anI @GW (anI @GV (anI @A7 (anI @Uc (anI @Up (anI @UL (anI @M6 (anI @Ph (anI @JL (anI @Hu (anI @JE (anI @ED (anI @Ed (anI @Me (anI @Pa (anI @U5 (anI @zH (anI @Nl (anI @HA (anI @jQ (anI @MQ (anI @PX (anI @Dh (anI @T9 (anI @UT (anI @UD (anI @TZ (anI @IV (anI @IP (anI @JN (anI @Eo (anI @DF (anI @DZ (anI @Hh (anI @UI (anI @Ov (anI @My (anI @NH (anI @Nf (anI @Lx (anI @MT (anI @Ms (anI @Np (anI @O6 (anI @Ls (anI @Qf (anI @OG (anI @NT (anI @FD (anI @Oa (anI @Jh (anI @Tw (anI @Ur (anI @Ys (anI @sets (anI @rep0 (anI @reps (anI @Y7 (anI @Zd (anI @xO (anI @Iz (anI @Px (anI @MR (anI @UP (anI @Tu (anI @O2 (anI @Nq (anI @Ba (anI @DS (anI @ND (anI @HJ (anI @NG (anI @GR (anI @N9 (anI @UB (anI @Uk (anI @HC (anI @HB (anI @OT (anI @EH (anI @GZ (anI @M8 (anI @Pz (anI @NK (anI @Od (@Mm)))))))))))))))))))))))))))))))))))))))))))))))))))))))))))))))))))))))))))))))))))))))))))))))))))))))))))))))))))))))))))))))))))))))))))))))))))))))))))))))))))))))))))))))))))):=anI @R.nH (anI @R.IG (anI @R.ki (anI @RS.of_ok (anI @RS.Ug (anI @kJ (anI @Js (anI @JB (anI @Jo (anI @GN (anI @HE (anI @N4 (anI @Jm (anI @HR (anI @Jg (anI @IF (anI @GO (anI @TL (anI @Hz (anI @MM (anI @Jl (anI @TM (anI @LY (anI @HN (anI @HH (anI @Pf (anI @Jj (anI @IK (anI @Hv (anI @O8 (anI @O9 (anI @HY (anI @LZ (anI @CP (anI @Jb (anI @NI (anI @JD (anI @D6 (anI @Hx (anI @HL (anI @Dg (anI @Nm (anI @NX (anI @Ub (anI @Um (anI @Ni (anI @Ec (anI @G0 (anI @DC (anI @OX (anI @Ik (anI @lst?_ref (anI @RS.Lp (anI @RS.L_ (anI @RS.MN (anI @RS.LB (anI @RS.Qp (anI @Hl (anI @Hq (anI @AD (anI @D7 (anI @DO (anI @Jw (anI @Dy (anI @P7 (anI @Ih (anI @N1 (anI @LW (anI @MW (anI @PL (anI @Pc (anI @OQ (anI @JF (anI @IJ (anI @DT (anI @RS.NV (anI @RS.LC (anI @RS.P8 (anI @Pe (anI @P_ (anI @N6 (anI @Tq (anI @UK (anI @Us (anI @TF (anI @Uu (anI @MS (anI @Pu (anI @Nu (anI @NO (anI @ML (anI @LD (anI @Il (anI @Ja (anI @GW (anI @GV (anI @A7 (anI @Uc (anI @Up (anI @UL (anI @M6 (anI @Ph (anI @JL (anI @Hu (anI @JE (anI @ED (anI @Ed (anI @Me (anI @Pa (anI @U5 (anI @zH (anI @Nl (anI @HA (anI @jQ (anI @MQ (anI @PX (anI @Dh (anI @T9 (anI @UT (anI @UD (anI @TZ (anI @IV (anI @IP (anI @JN (anI @Eo (anI @DF (anI @DZ (anI @Hh (anI @UI (anI @Ov (anI @My (anI @NH (anI @Nf (anI @Lx (anI @MT (anI @Ms (anI @Np (anI @O6 (anI @Ls (anI @Qf (anI @OG (anI @NT (anI @FD (anI @Oa (anI @Jh (anI @Tw (anI @Ur (anI @Ys (anI @sets (anI @rep0 (anI @reps (anI @Y7 (anI @Zd (anI @xO (anI @Iz (anI @Px (anI @MR (anI @UP (anI @Tu (anI @O2 (anI @Nq (anI @Ba (anI @DS (anI @ND (anI @HJ (anI @NG (anI @GR (anI @N9 (anI @UB (anI @Uk (anI @HC (anI @HB (anI @OT (anI @EH (anI @GZ (anI @M8 (anI @Pz (anI @NK (anI @Od (@Mm)))))))))))))))))))))))))))))))))))))))))))))))))))))))))))))))))))))))))))))))))))))))))))))))))))))))))))))))))))))))))))))))))))))))))))))))))))))))))))))))))))))))))))))))))))
def bools:(∀b:Bool,cond false b b=b)/\(∀(α:Type) (x y:α),cond false x y=y)/\(∀(α:Type) (x y:α),cond true x y=x):=⟨λ_=>rfl,λ_ _ _=>rfl,λ_ _ _=>rfl⟩
def mG:(∀(x:Str) (xs:ar),(x::xs).length=xs.length+1)/\([]:ar).length=0/\(∀(x:A) (xs:ae),(x::xs).length=xs.length+1)/\([]:ae).length=0:=⟨λ_ _=>rfl,rfl,λ_ _=>rfl,rfl⟩
section
variable {τ:ae}{S:jE}
def IS {f:ae->jE->R A}{d:qc}:lQ f d τ S=(d τ S).bind f:=rfl
abbrev kRz (c:Str):Unit->jE->RS:=λ_ S1=>.ex c S1
def M0 {c:Str}{u:Unit}:kRz c u S=.ex c S:=rfl
def Bj {c:Str}{ps:List (Str ⊕ Ex)}:CD c ps τ S=RS.of (Oc ps τ S) (kRz c):=rfl
def Ho:Oc [] τ S=.ok Unit.unit S:=rfl
def Jd {x:Str}{ps:List (Str ⊕ Ex)}:Oc (.inl x::ps) τ S=Oc ps τ S:=rfl
abbrev kFs (ps:List (Str ⊕ Ex))(τ:ae):A->jE->R Unit:=λv S1=>match v with
 | .int i=>gd (i.natAbs.log2<64) (Oc ps τ S1)
 | _=>.no
def Iq {e:Ex}{ps:List (Str ⊕ Ex)}:Oc (.inr e::ps) τ S=(e τ S).bind (kFs ps τ):=rfl
def UR{n:Nat}(h:n<18446744073709551616):kFs ps τ (.int (n:Int)) S=Oc ps τ S:=by
 skip
 refine aaO ?_;rw[Int.natAbs_natCast];by_cases z:n=0
 ·subst z;decide
 ·exact(Nat.log2_lt z).mpr h
abbrev RS.try (i n:Nat)(cs:ar)(d:Sm):RS->RS
 | .ex x S1=>if x∈cs then Rl i (d ((List.replicate n .unb).set i (.exn x)) S1)else .no
 | r=>r
def JA {i n:Nat}{cs:ar}{c d:Sm}:C3 i n cs c d τ S=RS.try i n cs d (c τ S):=by
 unfold C3 RS.try;cases c τ S<;>rfl
def Mb {i n:Nat}{cs:ar}{d:Sm}:RS.try i n cs d (.nx τ S)=.nx τ S:=rfl
def Ny {i n:Nat}{cs:ar}{d:Sm}{a:A}:RS.try i n cs d (.rt a S)=.rt a S:=rfl
def Ng {i n:Nat}{x:Str}{cs:ar}{d:Sm}:RS.try i n (x::cs) d (.ex x S)=Rl i (d ((List.replicate n .unb).set i (.exn x)) S):=aK (.head _)
def MU {i:Nat}{a:A}:Rl i (.rt a S)=.rt a S:=rfl
theorem Na {i:Nat}:Rl i (.nx τ S)=.nx (τ.set i .unb) S:=rfl
abbrev YN (f:Str->bj):A->jE->R A:=λv S1=>match v with
 | .exn x=>opt (f x) λb=>.ok (.bl b) S1
 | _=>.no
def Jx {f:Str->bj}{c:Ex}:wX f c τ S=(c τ S).bind (YN f):=rfl
def Mz {x:Str}{b:Bool}{tb:List (Str×Bool)}:YN (Ko ((x,b)::tb)) (.exn x) S=.ok (.bl b) S:=by
 show opt (List.lookup x ((x,b)::tb)) _=_;rw[gq,bQ];rfl
abbrev R.Qj {α β:Type}(r:R α)(f:α->jE->R β):R β:=match r with
 | .ok a S=>f a S
 | _=>.no
def D5 {α β:Type}{a:α}{f:α->jE->R β}:R.Qj (.ok a S) f=f a S:=rfl
def IW {f:ae->jE->R A}{d:qc}:Yo f d τ S=R.Qj (d τ S) f:=by unfold Yo R.Qj;cases d τ S<;>rfl
abbrev RS.ofK {α:Type}(r:R α)(f:α->jE->RS):RS:=match r with
 | .ok a S=>f a S
 | _=>.no
def OZ {α:Type}{a:α}{f:α->jE->RS}:RS.ofK (.ok a S) f=f a S:=rfl
def Im {t:Te}{c d:Sm}:Zy t c d τ S=RS.ofK (t τ S) (ZR c d τ):=by
 unfold Zy RS.ofK
 cases t τ S with
 | ok b S1=>cases b<;>rfl
 | ex _ _=>rfl
 | no=>rfl
abbrev RS.Mw (i:Nat)(cs:ar)(d:Sm)(τ:ae):RS->RS
 | .ex x S1=>if x∈cs then Rl i (d (τ.set i (.exn x)) S1)else .no
 | r=>r
def EF {i:Nat}{cs:ar}{c d:Sm}:TY i cs c d τ S=RS.Mw i cs d τ (c τ S):=by
 unfold TY RS.Mw;cases c τ S<;>rfl
def HZ {i:Nat}{cs:ar}{d:Sm}{τ':ae}:RS.Mw i cs d τ (.nx τ' S)=.nx τ' S:=rfl
def Jp {i:Nat}{cs:ar}{d:Sm}{a:A}:RS.Mw i cs d τ (.rt a S)=.rt a S:=rfl
def Ij {i:Nat}{x:Str}{cs:ar}{d:Sm}:RS.Mw i (x::cs) d τ (.ex x S)=Rl i (d (τ.set i (.exn x)) S):=aK (.head _)
def DH:A.ZV []=some []:=rfl
def AJ {b:Bool}{xs:ae}:A.ZV (.bl b::xs)=(A.ZV xs).map (b::·):=rfl
end
def sd:type_of% (anI @IS (anI @Bj (anI @M0 (anI @Ho (anI @Jd (anI @Iq (anI @JA (anI @Mb (anI @Ny (anI @Ng (anI @MU (anI @Na (anI @Jx (anI @Mz (anI @DH (anI @AJ (anI @D5 (anI @IW (anI @OZ (anI @Im (anI @EF (anI @HZ (anI @Jp (anI @Ij (trivial))))))))))))))))))))))))):=anI @IS (anI @Bj (anI @M0 (anI @Ho (anI @Jd (anI @Iq (anI @JA (anI @Mb (anI @Ny (anI @Ng (anI @MU (anI @Na (anI @Jx (anI @Mz (anI @DH (anI @AJ (anI @D5 (anI @IW (anI @OZ (anI @Im (anI @EF (anI @HZ (anI @Jp (anI @Ij (trivial))))))))))))))))))))))))
end Am
namespace L2
open PySem PySem.Spec PyProof.Rows
section
variable {P:aj}{w:ah}{A:az}{E:af->aA->Prop}{s:aA}{it d:ak}{i ep:Nat}{es:Array DictEntry}{o:Obj}
def WS{Q:bd->aA->Prop}(hi:s.heap.IsKeyIter it d i es.size ep)(ho:s.heap.get? d=some o)(hd:o.data=.dict es ep)(lt:i<es.size)
  (q:∀h',h'.IsKeyIter it d (i+1) es.size ep->Heap.SameBut it s.heap h'->Q (some es[i].key) { s with heap:=h' }):wpAny (model P w) A (pyNext (.ref it)) Q E s:=by
 have ty:=hi.typeIs;obtain⟨oi,hoi,hci,hdi⟩:=id hi;have own:Builtin.Dict_items.ownsTuple "dict_keyiterator" = false:=by decide
 have nn:¬((Value.ref d == Value.none)=true):=bG;have n0:¬((i:Int)<0):=by omega
 unfold pyNext;refine aF (gB (dw (name:=Str.ofString "__next__") ty cP (cY cP ty gC ?_ (gz _))));refine aF (aP (aF (aF ?_)))
 first
  | refine aF (dQ ty (aP (aF (iY hoi hdi ?_))))
  | refine aF (fB ty (aP (aF (iY hoi hdi ?_))))
 dsimp[own,bY,bz];show wpAny (model P w) _ (if (Value.ref d == Value.none)=true then _ else _) _ _ s;rw[aI nn];refine aF (aP (aF (i9 ho hd ?_)));rw[aI (show ¬_ by simp)];refine aF (aP (aF (wpAny_dictEpoch ho hd ?_)));rw[aI (show ¬_ by simp)];refine aP ?_;dsimp[n0,bY,c_,Array.getElem?_eq_getElem lt];refine aF ?_
 first
  | refine aF (dQ ty (aP (aF (iG ty ?_))))
  | refine aF (fB ty (aP (aF (iG ty ?_))))
 show wpAny (model P w) _ (setField (.ref it) 1 (rawInt ((i:Int)+1)) >>= _) _ _ s;refine aF (gf hoi hdi (show _ by simp) ?_);have hi':(s.heap.update it (Obj.mapFields λfs=>fs.setIfInBounds 1 (rawInt ((i:Int)+1)))).IsKeyIter it d (i+1) es.size ep:=
  ⟨_,eT _ hoi (f7 (eN hdi _)),(i7 ..).trans hci,by
   rw[eN hdi];simp[rawInt]⟩
 have ty':Shared.TypeIs { s with heap:=s.heap.update it (Obj.mapFields λfs=>fs.setIfInBounds 1 (rawInt ((i:Int)+1)))} (.ref it) "dict_keyiterator" := Heap.IsKeyIter.typeIs (s:={ s with heap:=_ }) hi';refine aF (cT (aF (iG ty' ?_)))
 skip
 exact aP (aP ⟨_,rfl,aP (q _ hi' (fG ..))⟩)
def Q8{Q:bd->aA->Prop}(hh:A.handled=none)(hi:s.heap.IsKeyIter it d i es.size ep)(ho:s.heap.get? d=some o)(hd:o.data=.dict es ep)(ge:es.size<=i)
  (q:∀h',Heap.ExtBut it s.heap h'->Q none { s with heap:=h' }):wpAny (model P w) A (pyNext (.ref it)) Q E s:=by
 have ty:=hi.typeIs;obtain⟨oi,hoi,hci,hdi⟩:=id hi;have own:Builtin.Dict_items.ownsTuple "dict_keyiterator" = false:=by decide
 have nn:¬((Value.ref d == Value.none)=true):=bG;have n0:¬((i:Int)<0):=by omega
 unfold pyNext;refine aF (gB (dw (name:=Str.ofString "__next__") ty cP (cY cP ty gC ?_ (gz _))));refine aF (aP (aF (aF ?_)))
 first
  | refine aF (dQ ty (aP (aF (iY hoi hdi ?_))))
  | refine aF (fB ty (aP (aF (iY hoi hdi ?_))))
 dsimp[own,bY,bz];show wpAny (model P w) _ (if (Value.ref d == Value.none)=true then _ else _) _ _ s;rw[aI nn];refine aF (aP (aF (i9 ho hd ?_)));rw[aI (show ¬_ by simp)];refine aF (aP (aF (wpAny_dictEpoch ho hd ?_)));rw[aI (show ¬_ by simp)];refine aP ?_;dsimp[n0,bY,c_,iw ge];refine aF ?_
 first
  | refine aF (dQ ty (aP ?_))
  | refine aF (fB ty (aP ?_))
 show wpAny (model P w) _ (setField (.ref it) 0 .none >>= _) _ _ s;refine aF (gf hoi hdi (show _ by simp) ?_)
 skip
 refine aF ?_;dsimp[newExc,newTuple];refine aF (cg (aF (m:=firstArgMember _ _) (wpAny_of_eq (a:=Value.none) (by first|rfl|(dsimp[firstArgMember];rfl)) (cg ?_ (by size_fits)))) (by size_fits));dsimp[raiseNew];have hn:A.in1.handled=none:=hh;refine aF (wpAny_handled (?_));rw[hn];refine aF (aP (wpAny_throw (?_)));refine aF (wpAny_isInstance (b:=true) (T := "StopIteration") ⟨_,bB _ rfl,rfl⟩ isSubtype_stop (aP (q _ (((fG ..).extBut.push _).push _))))
def E3{Q:af->aA->Prop}(ty:s.TypeIs (.ref d) "dict")(hs:(d == sysModules)=false)(ho:s.heap.get? d=some o)(hd:o.data=.dict es ep)
  (q:Q (.ref s.heap.objs.size) { s with heap:=s.heap.push { cls:=.type "dict_keyiterator",data:=.fields #[.ref d,.int 0 0,.int es.size 0,.int ep 0]}}):wpAny (model P w) A (pyIter (.ref d)) Q E s:=by
 refine wpAny_pyIter_slot ty PySem.F.slot_dict_iter (cY PySem.F.slot_dict_iter ty PySem.F.entry_dict_iter ?_ (PySem.F.args_dict_iter_1 _));delta Builtin.«dict.__iter__»;refine aF ?_;delta Builtin.Dict.dictSlotNone;refine aF (wpAny_notOrdered_dict ty ?_)
 skip
 refine aP ?_;show wpAny (model P w) _ (Builtin.Dict.showsAll d >>= _) _ _ s;delta Builtin.Dict.showsAll;have nd:¬((d == sysModules)=true):=by rw[hs];exact bG
 rw[aI nd];refine aF (aP (aF (i9 ho hd (aF (wpAny_dictEpoch ho hd ?_)))));refine aF (cg (aP ⟨_,rfl, "dict_keyiterator",_,⟨_,bB _ rfl,rfl⟩,cP.lookup,?_⟩));simpa[rawInt]using q
end
section
variable {P:aj}{w:ah}
def JY{A:az}(hh:A.handled=none)(it d:ak)(ne:d≠it){es:Array DictEntry}{o:Obj}(hd:o.data=.dict es ep) :
  Walks P w A it [it,d] [it] es.size (λi v=>(es[i]?).map (λe=>e.key)=some v) (λi h=>h.IsKeyIter it d i es.size ep/\h.get? d=some o) where
 sub:=λb hb=>by
  rw[aV.mp hb];exact aM ..
 frame:=λ_ _ _ st hk=>⟨st.1.at λx e=>hk it (aM ..) x e,hk d (aN _ (aM ..)) o st.2⟩
 item:=λi s Q E lt st q=>WS st.1 st.2 hd lt λh' k1 k2=>q _ h' s.toks (by rw[Array.getElem?_eq_getElem lt];rfl) ⟨k1,k2.extBut d o ne st.2⟩ λb x nb e=>k2.extBut b x (λz=>nb (aV.mpr z)) e
 done:=λs Q E st q=>Q8 hh st.1 st.2 hd (aQ _) λh' k=>q h' s.toks λb x nb e=>k b x (λz=>nb (aV.mpr z)) e
 self:=λ_ _ _ _ st q=>wpAny_pyIter_keyiter st.1 q
def Q2{es:Array DictEntry}{o:Obj}(hs:(d == sysModules)=false)(hc:o.cls=.type "dict")(hd:o.data=.dict es ep) :
  PySem.W.KdlSrc P w "dict" d d es.size (λi v=>(es[i]?).map (λe=>e.key)=some v) (λh=>h.get? d=some o) where
 type:=λ_ hm=>⟨o,hm,hc⟩
 there:=λ_ hm=>⟨bf hm,bf hm⟩
 keep:=λ_ _ hm hk=>hk d (.inl rfl) o hm
 notList:=by decide
 notTuple:=by decide
 hint:=λ_ _ _ _ hm hq=>PySem.W.kdl_hint_dict ⟨o,hm,hc⟩ hq
 iter:=λ_ s hh hm=>⟨_,_,(λ_ _ hq=>E3 ⟨o,hm,hc⟩ hs hm hd hq),JY hh _ d (bE (bf hm)) hd,⟨⟨_,bB _ rfl,rfl,rfl⟩,aO _ hm⟩⟩
end
section
variable {X:Cx}
def Wr{H:Hp}{s:aA}{kvs:List (List Key×V)}(I:Inv X pins σ H s)(ed:H d=some (.dT kvs)) :
  ∃(ob:Obj) (es:Array DictEntry) (ep:Nat) (rs:bb),s.heap.get? d=some ob/\ob.cls=.type "dict" /\ ob.data=.dict es ep/\(d == sysModules)=false/\kvs.length<=sizeLine/\rs.length=kvs.length/\es.size=kvs.length /\
   (∀i:Nat,(es[i]?).map (λe:DictEntry=>e.key)=(rs[i]?).map Value.ref)/\∀(i:Nat) r p,rs[i]?=some r->kvs[i]?=some p->H r=some (.tup (p.1.map kV)):=by
 obtain⟨z,hd,xs,rel,dd⟩:=NP I.hok ed;obtain⟨ob,es,ep,g1,g2,g3,g4,g5,g6⟩:=id dd;obtain⟨kl,kt⟩:=kt_at rel;have hes:es.size=xs.length:=by have:=dz List.length g4;simpa using this
 refine⟨ob,es,ep,xs.map λy=>y.2.1,g1,g2.1,g3,hd,z,by rw[aH,kl],by rw[hes,kl],λi=>?_,λi r p e1 e2=>?_⟩
 ·rw[<- eU,g4,aS,aS,gh,gh]
  cases xs[i]?<;>rfl
 ·obtain⟨y,h1,h2,h3,h4⟩:=kt i p e2;rw[aS,h1]at e1
  cases e1
  exact h3
def CC(hc:X.calm=true):kg X (.builtin "sorted") (λxs H Q=>∃(d:ak) (kvs:List (List Key×V)) (kss:List (ag)),xs=[.ref d]/\H d=some (.dT kvs)/\kvs.map (λp=>p.1)=kss.map (λks=>ks.map Sum.inl)/\(∀ks∈kss,ks≠[]) /\
  ∀(rs:bb) l g,rs.length=kss.length->(∀(i:Nat) (r:ak) (ks:ag),rs[i]?=some r->kss[i]?=some ks->H r=some (.tup (ks.map V.int)))->H l=none->Sx.Cl g 0 kss.length->Sx.So (Sx.zU kss) g 0 kss.length ->
   Q (.ref l) (upd H l (.lst (((List.range kss.length).map λi=>rs.getD (g i) 0).map V.ref)))):=by
 k_ne;obtain⟨d,kvs,kss,rfl,ed,ek,hne,q⟩:=h;kcj_m
 cases rx
 obtain⟨ob,es,ep,rs,g1,g2,g3,g4,g5,g6,g7,g8,g9⟩:=Wr I ed;have kl:kvs.length=kss.length:=by have:=dz List.length ek;simpa using this
 have tp:∀(i:Nat) (r:ak) (ks:ag),rs[i]?=some r->kss[i]?=some ks->H r=some (.tup (ks.map V.int)):=λi r ks e1 e2=>by
  have lt:i<kvs.length:=by rw[kl];exact(aL.mp e2).1
  have h1:=g9 i r kvs[i] e1 (aG lt);have h2:(kvs.map (λp=>p.1))[i]?=(kss.map (λks=>ks.map Sum.inl))[i]?:=by rw[ek]
  rw[aS,aS,e2,aG lt]at h2;have h3:kvs[i].1=ks.map Sum.inl:=aW h2;rw[h3,bq]at h1;exact h1
 refine gv kind_sorted plain_sorted entry_sorted (args_sorted1 _) ?_;unfold Builtin.«sorted»;refine aF (m:=checkCount "sorted" 1 1 _) (aP ?_);refine aF (PySem.W.kdu_collect (Q2 g4 g2 g3) (show X.A.in1.handled=none from I.ok.hd hc) g1 (by rw[g7];exact g5) λh' tk acc hk hacc=>?_);have ea:acc.toList=rs.map Value.ref:=by
  refine dc λj=>?_;rw[eU,aS,<- g8 j]
  cases e:acc[j]? with
  | some v=>exact(hacc.2 j v e).symm
  | none=>
   have:acc.size<=j:=Array.getElem?_eq_none_iff.mp e;rw[iw (by rw[<- hacc.1];exact this)];rfl
 rw[ea];exact KD (s:=s) (I.kept (t':=tk) hk) (by rw[g6,kl]) (by rw[g6];exact g5) (λi r ks e1 e2=>⟨mO.of (tp i r ks e1 e2),hne ks (aZ e2)⟩) λl g h1 h2 h3=>q rs l g (by rw[g6,kl]) tp h1 h2 h3
end
section
variable {P:aj}{w:ah}{A:az}{E:af->aA->Prop}{s:aA}
def K8:typeLookup (.type "list") "keys" = pure none:=am_miss_of_fast (by kernel_rfl)
def J2{a:ak}{o:Obj}{k:Nat}{Q:bd->aA->Prop}(hx:s.heap.get? a=some o)(hc:o.cls=.type "list")(hdat:o.data=.seq xs k)(hd:o.dict=none)(hA:A.handled=none)
  (h:∀h' tk,(∀b ob,s.heap.get? b=some ob->h'.get? b=some ob)->Q none { s with heap:=h',toks:=tk }):wpAny (model P w) A (getAttr? (.ref a) "keys") Q E s:=by
 obtain⟨c,dct,dat,sl⟩:=o;simp only at hc hdat hd;subst hc hdat hd;obtain⟨hp,g,d,tk,os⟩:=s;have hT:∀tk',(⟨hp,g,d,tk',os⟩:aA).TypeIs (.ref a) "list" := λ_=>⟨_,hx,rfl⟩;have f1:=sub_AttributeError;have f3:=gD.lookup;have f4:=gD.bind (.ref a);have f5:=am_list_getattr_none;unfold getAttr? getAttrBy? getAttrBy
 repeat (any_goals (first|assumption|exact hT _|((with_reducible show wpAny _ _ (call (Value.builtin "list.__getattribute__") _ _) _ _ _);refine jl gD (hT _) am_entry_list_getattribute (F.args_list_getattribute_2 _ _) (meets_getattribute_miss_list a xs k sl "keys" _ K8 ⋯ (by size_fits)) ⟨hx,hA,λh' tk' e hx'=>?_⟩)|wp_step))
 obtain⟨t',u',he⟩:=hx'.there
 skip
 unfold getattributeRaised
 repeat (any_goals (first|assumption|wp_step))
 exact h _ _ hx'.keeps
def AM:entryFor table "dict.update.loop" = some Builtin.«dict.update.loop»:=entryFor_of_tree (by kernel_rfl)
def uf:plainId "dict.update.loop" = true:=by decide +kernel
abbrev PF (h:aq)(d I:ak)(its:ba)(ps:List (Int×af)):Prop:=∀(i:Nat) (v:af),its[i]?=some v->∃(b:ak) (p:Int×af) (t:Tok),v=.ref b/\b≠d/\b≠I/\ps[i]?=some p/\IsTup h b #[.int p.1 t,p.2]
def PF.mono{h h':aq}(x:PF h d I its ps)(k:∀b o,b≠d->b≠I->h.get? b=some o->h'.get? b=some o):PF h' d I its ps:=λi v hv=>by
 obtain⟨b,p,t,h1,h2,h3,h4,o,h5,h6⟩:=x i v hv;exact⟨b,p,t,h1,h2,h3,h4,o,k b o h2 h3 h5,h6⟩
abbrev WJ (ps:List (Int×af)):List (Key×af):=ps.foldl (λacc p=>stored acc (Sum.inl p.1) p.2) []
def Mr(ps:List (Int×af))(i:Nat)(p:Int×af)(h:ps[i]?=some p):WJ (ps.take (i+1))=stored (WJ (ps.take i)) (Sum.inl p.1) p.2:=by
 unfold WJ;rw[dD,h,dX];rfl
theorem Hs:∀(ps:List (Int×af)) (acc:List (Key×af)),(ps.foldl (λacc p=>stored acc (Sum.inl p.1) p.2) acc).length<=acc.length+ps.length
 | [],acc=>aQ _
 | p::ps,acc=>by
  have:=Hs ps (stored acc (Sum.inl p.1) p.2);have h:(stored acc (Sum.inl p.1) p.2).length<=acc.length+1:=by
   unfold stored;split
   ·rw[aH];lia
   ·rw[aR];exact aQ _
  rw[eX,bC]
  lia
def Mq{R:Result->aA->Prop}{I l:ak}{St:Nat->aq->Prop}{its:ba}{ps:List (Int×af)}(W:Walks P w A.in1 I [I,l] [I] its.length (λi v=>its[i]?=some v) St)(hdI:d≠I)(hdl:d≠l)(hl:ps.length=its.length)(hz:ps.length<=sizeLine) :
  ∀(k i:Nat) (s:aA),its.length-i=k->i<=its.length->St i s.heap->s.heap.DictOf (kK P w) d (WJ (ps.take i))->PF s.heap d I its ps ->
   (∀h' tk,h'.DictOf (kK P w) d (WJ ps)->(∀b o,b≠d->b≠I->s.heap.get? b=some o->h'.get? b=some o)->R (.ok (.ret .none)) { s with heap:=h',toks:=tk }) ->
   codeAny (model P w) A (.builtin "dict.update.loop" ⟨[.ref d,.ref I,rawInt i,.none],[]⟩) R s:=by
 intro k
 induction k with
 | zero=>
  intro i s hk hi hst hD hP hR;have hin:i=its.length:=()
  subst hin;refine gI AM ?_;rw[gc uf _]
  skip
  refine aF (W.done s _ _ hst λh' tk hm=>?_)
  skip
  refine aF (aP (aP (hR h' tk ?_ λb o _ h2 e=>hm b o (by simpa using h2) e)));rw[<- hl,dJ]at hD;obtain⟨o,es,ep,ho,rest⟩:=hD;exact⟨o,es,ep,hm d o (by simpa using hdI) ho,rest⟩
 | succ k ih=>
  intro i s hk hi hst hD hP hR;have hlt:i<its.length:=()
  refine gI AM ?_;rw[gc uf _]
  skip
  refine aF (W.item i s _ _ hlt hst λv h' tk hv hst' hm=>?_);have hP':PF h' d I its ps:=hP.mono λb o h1 h2 e=>hm b o (by simpa using h2) e;obtain⟨b,p,t,rfl,hbd,hbI,hp,o,ho,hc,n,hd⟩:=hP' i v hv;have hD':h'.DictOf (kK P w) d (WJ (ps.take i)):=by
   obtain⟨o,es,ep,ho,rest⟩:=hD;exact⟨o,es,ep,hm d o (by simpa using hdI) ho,rest⟩
  have hT:Shared.TypeIs { s with heap:=h',toks:=tk } (.ref b) "tuple" := ⟨o,ho,hc⟩;have hpair:∀(A:az) (E:af->aA->Prop) (Q:ba->aA->Prop),Q [.int p.1 t,p.2] { s with heap:=h',toks:=tk }->wpAny (model P w) A (Builtin.Dict.pairItems (.ref b)) Q E { s with heap:=h',toks:=tk }:=λA E Q q=>by
   unfold Builtin.Dict.pairItems;refine aF (gp hT ?_);rw[aK ⋯];refine aF (iW ho hd (aP q))
  have hlen:(WJ (ps.take i)).length<=sizeLine:=by
   refine bJ (Hs (ps.take i) []) ?_;rw[bM,cC]
   lia
  refine aF (cT (aF (wpAny_tryCatch (hpair _ _ _ ?_))))
  skip
  refine cT (wpAny_dictSet_pairs (hsz:=hlen) (knd:=kK P w) (k:=Sum.inl p.1) (s:={ s with heap:=h',toks:=tk }) (show Value.isInt p.1 (.int p.1 t)=true by simp[Value.isInt]) hD' λh2 hD2 hs=>?_);refine aP ⟨plainId_quiet uf _,?_⟩;have hsame:∀b o,b≠d->b≠I->s.heap.get? b=some o->h2.get? b=some o:=λb o h3 h4 e=>by rw[hs.2 b h3];exact hm b o (by simpa using h4) e
  refine ih (i+1) _ () hlt (W.frame _ _ _ hst' λb hb o e=>?_) (by rw[Mr ps i p hp];exact hD2) (hP.mono hsame) λh3 tk3 hD3 hs3=>hR h3 tk3 hD3 λb o h4 h5 e=>hs3 b o h4 h5 (hsame b o h4 h5 e);have hne:b≠d:=by
   intro z;subst z
   rcases bD.mp hb with z|z
   ·exact hdI z
   ·exact hdl (by simpa using z)
  skip
  rw[hs.2 b hne];exact e
theorem Bk{H:Hp}{X:Cx}(I:Inv X pins σ H s):∀(rs:bb) (ps:List (Int×V)),rs.length=ps.length->(∀(i:Nat) (r:ak) (q:Int×V),rs[i]?=some r->ps[i]?=some q->mO X.K H r [.int q.1,q.2]) ->
  ∃qs:List (Int×af),KV ps qs/\∀(i:Nat) (r:ak),rs[i]?=some r->∃q t,qs[i]?=some q/\IsTup s.heap r #[.int q.1 t,q.2]
 | [],[],_,_=>⟨[],.nil,λi r h=>by simp at h⟩
 | [],_::_,h,_=>nomatch h
 | _::_,[],h,_=>nomatch h
 | r::rs,p::ps,hl,hh=>by
  obtain⟨qs,h1,h2⟩:=Bk I rs ps (by simpa using hl) λi r q e1 e2=>hh (i+1) r q (by simpa using e1) (by simpa using e2);obtain⟨its,rv,tp,_⟩:=I.tuple (hh 0 r p rfl rfl);obtain⟨u1,u2,rfl,r1,r2⟩:=vals2 rv;obtain⟨t,rfl⟩:∃t,u1=Value.int p.1 t:=r1;refine⟨(p.1,u2)::qs,.cons ⟨rfl,r2⟩ h1,λi r' e=>?_⟩
  cases i with
  | zero=>cases e;exact⟨(p.1,u2),t,rfl,tp⟩
  | succ i=>exact h2 i r' (by simpa using e)
abbrev Z6 (ps:List (Int×V)):List (Key×V):=ps.foldl (λacc p=>putK acc (Sum.inl p.1) p.2) []
def Yb:∀{ps:List (Int×V)}{qs:List (Int×af)},KV ps qs->∀{as:List (Key×V)}{bs:List (Key×af)},KV as bs->KV (ps.foldl (λacc p=>putK acc (Sum.inl p.1) p.2) as) (qs.foldl (λacc p=>stored acc (Sum.inl p.1) p.2) bs):=by
 intro ps qs h;unfold KV at h
 induction h with
 | nil=>exact λh=>h
 | @cons p q ps qs h t ih=>
  intro as bs h2;rw[eX,eX];obtain⟨e,r⟩:=h;rw[e];exact ih (h2.put _ r)
theorem Jz:∀(ps:List (Int×V)) (acc:List (Key×V)),(ps.foldl (λacc p=>putK acc (Sum.inl p.1) p.2) acc).length<=acc.length+ps.length
 | [],acc=>aQ _
 | p::ps,acc=>by
  have:=Jz ps (putK acc (Sum.inl p.1) p.2);have:=sJ acc (Sum.inl p.1) p.2;rw[eX,bC]
  lia
end
section
variable {X:Cx}
def FA(hc:X.calm=true):kg X (.type "dict") (λxs H Q=>∃(p:ak) (rs:bb) (ps:List (Int×V)),xs=[.ref p]/\qa X.K H p (rs.map V.ref)/\rs.length=ps.length /\
  (∀(i:Nat) (r:ak) (q:Int×V),rs[i]?=some r->ps[i]?=some q->mO X.K H r [.int q.1,q.2])/\∀l,H l=none->Q (.ref l) (upd H l (.dK (Z6 ps)))):=by
 k_ne;obtain⟨p,rs,ps,rfl,hq,hlen,hT,q⟩:=h;kcj_m
 cases rx
 obtain⟨its,rv,pl,hz⟩:=I.list hq;have ei:=wR rv;subst ei;rw[aH]at hz;obtain⟨qs,kv,tp⟩:=Bk I rs ps hlen hT;have ql:ps.length=qs.length:=kv.length;obtain⟨o,n,ho,hcl,hdn,hd⟩:=pl;have lp:p<s.heap.objs.size:=bf ho;refine callType_codes (Q₁:=λobj s₁=>obj=.ref s.heap.objs.size/\s₁={ s with heap:=s.heap.push { cls:=.type "dict",data:=.dict #[]}}) F.kt_called_dict (F.kt_typeCall_dict_1 _) F.entry_dict_init (kt_code_dict_new _ ⟨rfl,rfl⟩) ?_;rintro obj s₁ ⟨rfl,rfl⟩;have hnew:(s.heap.push { cls:=.type "dict",data:=.dict #[]}).DictOf (kK X.prog X.w) s.heap.objs.size []:=Heap.DictOf.new s.heap;have ho':(s.heap.push { cls:=.type "dict",data:=.dict #[]}).get? p=some o:=aO _ ho;have hTy:Shared.TypeIs { s with heap:=s.heap.push { cls:=.type "dict",data:=.dict #[]}} (.ref p) "list" := ⟨o,ho',hcl⟩;refine⟨hnew.typeIs,F.args_dict_init_2 _ _,?_⟩;unfold Builtin.«dict.__init__»;refine aF ?_;unfold Builtin.Dict.selfAndRest;refine aF (wpAny_notOrdered_dict hnew.typeIs ?_)
 skip
 refine aP ?_;show wpAny _ _ (Builtin.Dict.updateFrom "dict.__init__" s.heap.objs.size (.ref p) [] .none) _ _ _;unfold Builtin.Dict.updateFrom;refine aF (gp hTy ?_);rw[aK ⋯];refine aF (J2 ho' hcl hd hdn (show X.A.in1.in1.handled=none from I.ok.hd hc) λh' tk hk=>?_);rw[aK (by rfl)];refine aF (fq ?_);have hl2:h'.IsList p (rs.map Value.ref).toArray:=⟨o,hk p o ho',hcl,n,hd⟩;refine aF (i6 (s:={ s with heap:=h',toks:=tk }) hl2 ?_);refine aP ⟨plainId_quiet uf _,?_⟩;have sz:s.heap.objs.size<h'.objs.size:=bf (hk _ _ (bB _ rfl));have W:Walks X.prog X.w X.A.in1.in1 h'.objs.size [h'.objs.size,p] [h'.objs.size] (rs.map Value.ref).length (λi v=>(rs.map Value.ref)[i]?=some v) (λi h=>h.IsListIter h'.objs.size p i/\h.IsList p (rs.map Value.ref).toArray):=by
  have W:=Walks.list (prog:=X.prog) (w:=X.w) (A:=X.A.in1.in1) (I.ok.hd hc) h'.objs.size p (bE (bf (hk p o ho'))) (rs.map Value.ref).toArray;rw[aY]at W;dsimp[eV]at W;exact W
 refine Mq (d:=s.heap.objs.size) (its:=rs.map Value.ref) (ps:=qs) W (bE sz) (cR (bE lp)) (by rw[aH];lia) () (rs.map Value.ref).length 0 _ () (bO _)
  ⟨⟨_,bB _ rfl,rfl,rfl⟩,hl2.push _⟩ ?_ (λi v hv=>?_) λh2 tk2 hD hs=>⟨rfl,.ref s.heap.objs.size,_,I.laid (t':=tk2) (o:=.dK (Z6 ps)) (λb ob eb=>?_) (aQ _) ?_,rfl,q _ (I.hok.fresh (aQ _))⟩
 ·obtain⟨o,es,ep,e,rest⟩:=hnew;exact⟨o,es,ep,aO _ (hk _ _ e),rest⟩
 ·rw[aS]at hv;obtain⟨r,hr,rfl⟩:=a_.mp hv;obtain⟨q,t,h1,o2,h2,h3⟩:=tp i r hr;have lr:=bf h2;exact⟨r,q,t,rfl,bE lr,bE (lt_trans lr sz),h1,o2,aO _ (hk _ _ (aO _ h2)),h3⟩
 ·have lb:=bf eb;exact hs b ob (bE lb) (bE (lt_trans lb sz)) (aO _ (hk _ _ (aO _ eb)))
 ·refine OW (bJ (Jz ps []) (by rw[cC];lia)) ?_ (Yb kv .nil) hD;exact d8.mpr (cR (bE I.big))
abbrev RC (ns:ag):Sx.Ord where
 lt i j:=decide (ns.getD i 0<ns.getD j 0)
 Ll i:=bh ()
 tr i j k h1 h2:=bg (by have:=bL h1;have:=bL h2;lia)
 neg i j k h:=by
  have:=bL h;by_cases c:ns.getD i 0<ns.getD j 0
  ·exact .inl (bg c)
  ·exact .inr (bg ())
theorem xP:∀{vs:ba}{ns:ag},IntsAre vs ns->vs.length=ns.length/\∀i,i<vs.length->∃t,vs.getD i .none=.int (ns.getD i 0) t
 | _,_,.nil=>⟨rfl,λi h=>absurd h (fX _)⟩
 | _,_,.cons n t h=>by
  obtain⟨h1,h2⟩:=xP h;refine⟨dz (·+1) h1,λi hi=>?_⟩
  cases i with
  | zero=>exact⟨t,rfl⟩
  | succ i=>exact h2 i (by simpa using hi)
theorem yW{f:Nat->Int}{h:Nat->af}:∀(l:am),(∀i∈l,∃t,h i=.int (f i) t)->Vals (l.map λi=>V.int (f i)) (l.map h)
 | [],_=>.nil
 | i::l,e=>.cons (e i (aM ..)) (yW l λj hj=>e j (aN _ hj))
def FQ{s:aA}{H:Hp}{Q:VK}{h':aq}{tk:Nat}{vs:ba}{ns:ag}(I1:Inv X pins σ H { s with heap:=h',toks:=tk })(hi:IntsAre vs ns)(hz:vs.length<=sizeLine)
  (q:∀l g,H l=none->Sx.Cl g 0 ns.length->Sx.So (RC ns) g 0 ns.length->Q (.ref l) (upd H l (.lst ((List.range ns.length).map λi=>V.int (ns.getD (g i) 0))))) :
  wpAny (model X.prog X.w) X.A.in1 (do
   let l <- newList vs
   let _ <- holding [l] (call (Value.builtin "list.sort") [l] [])
   ret l) (λfin s'=>∃v,fin=Fin.done (Flow.ret v)/\EP X pins σ Q v s') X.xe { s with heap:=h',toks:=tk }:=by
 obtain⟨hN,at_⟩:=xP hi;refine aF (jd ?_);have hoL:(h'.push (seqObj "list" vs.toArray 0)).get? h'.objs.size=some (seqObj "list" vs.toArray 0):=bB _ rfl
 skip
 refine aF (cT (cY slot_list_sort ⟨_,hoL,rfl⟩ entry_list_sort (Sx.w_ (o:=RC ns) (kd:=oneType') hoL hz (λh2 Q' q'=>?_) (λh2 i j hi' hj E' Q' q'=>?_) λg hc hs=>⟨_,rfl,?_⟩) (args_list_sort _)))
 ·obtain⟨a,b,r,rfl⟩:∃a b r,vs=a::b::r:=by
   cases vs with
   | nil=>simp at h2
   | cons a vs=>cases vs with
    | nil=>simp at h2
    | cons b r=>exact⟨a,b,r,rfl⟩
  exact wpAny_of_eq (keyKind_ints hi) q'
 ·obtain⟨t,e1⟩:=at_ i hi';obtain⟨u,e2⟩:=at_ j hj;show wpAny _ _ (keyLt' oneType' (vs.getD i .none) (vs.getD j .none)) Q' E' _;rw[e1,e2,keyLt'_oneType];exact Sx.IB true q'
 ·rw[hN]at hc hs ⊢;obtain⟨e,he⟩:=sortedHeap_at (out:=((List.range ns.length).map λi=>vs.getD (g i) .none).toArray) hoL;have old:∀b ob,h'.get? b=some ob->(sortedHeap (h'.push (seqObj "list" vs.toArray 0)) h'.objs.size vs ((List.range ns.length).map λi=>vs.getD (g i) .none).toArray).get? b=some ob:=λb ob eb=>by
   rw[sortedHeap_old (bE (bf eb)) (by rw[eK];exact dU (bf eb))];exact aO _ eb
  refine aP ⟨_,rfl,.ref h'.objs.size,_,I1.laid (t':=tk) (o:=.lst ((List.range ns.length).map λi=>V.int (ns.getD (g i) 0))) old (aQ _) ?_,rfl,q _ g (I1.hok.fresh (aQ _)) hc hs⟩;refine⟨by rw[aH,cE];omega,(List.range ns.length).map λi=>vs.getD (g i) .none,e,yW _ λi hi=>at_ _ (by have:=(hc i (bO _) (cA.mp hi)).2;omega),he⟩
def KL{P:aj}{w:ah}{vs:List (Key×af)}:∀{acc:ba}{ns:ag},vs.map (·.1)=ns.map Sum.inl->acc.length=vs.length->(∀(j:Nat) v,acc[j]?=some v->∃k x,vs[j]?=some (k,x)/\(kK P w).is k v=true)->IntsAre acc ns:=by
 intro acc ns hk hl h
 induction acc generalizing vs ns with
 | nil=>cases vs with
  | nil=>cases ns with
   | nil=>exact .nil
   | cons=>cases hk
  | cons=>cases hl
 | cons a acc ih=>cases vs with
  | nil=>cases hl
  | cons v vs=>cases ns with
   | nil=>cases hk
   | cons n ns=>
    rw[bF,bF,List.cons.injEq]at hk;obtain⟨k,x,e1,e2⟩:=h 0 a rfl
    cases e1
    obtain⟨e3,e4⟩:=hk;have e3:k=Sum.inl n:=e3;subst e3;obtain⟨t,rfl⟩:=Value.isInt_shape (k:=n) (v:=a) e2;exact .cons n t (ih e4 (by simpa using hl) λj v e=>h (j+1) v (by simpa using e))
def CJ(hc:X.calm=true):kg X (.builtin "sorted") (λxs H Q=>∃(d:ak) (kvs:List (Key×V)) (ns:ag),xs=[.ref d]/\H d=some (.dK kvs)/\kvs.map (λp=>p.1)=ns.map Sum.inl /\
  ∀l g,H l=none->Sx.Cl g 0 ns.length->Sx.So (RC ns) g 0 ns.length->Q (.ref l) (upd H l (.lst ((List.range ns.length).map λi=>V.int (ns.getD (g i) 0))))):=by
 k_ne;obtain⟨d,kvs,ns,rfl,ed,ek,q⟩:=h;kcj_m
 cases rx
 obtain⟨z,hd,vs,rel,dd⟩:=UW I.hok ed;obtain⟨ep,da⟩:=dd.dictAt;have kl:kvs.length=vs.length:=rel.length;have ke:vs.map (·.1)=kvs.map (·.1):=by
  clear ek z dd da kl ed;unfold KV at rel
  induction rel with
  | nil=>rfl
  | cons h _ ih=>rw[bF,bF,ih,h.1]
 refine gv kind_sorted plain_sorted entry_sorted (args_sorted1 _) ?_;unfold Builtin.«sorted»;refine aF (m:=checkCount "sorted" 1 1 _) (aP ?_);refine aF (PySem.W.kdu_collect (PySem.W.kdl_dict hd) (show X.A.in1.handled=none from I.ok.hd hc) da () λh' tk acc hk hacc=>?_);have al:acc.toList.length=vs.length:=by rw[dF];exact hacc.1
 exact FQ (s:=s) (I.kept (t':=tk) hk) (KL (P:=X.prog) (w:=X.w) (ke.trans ek) al λj v e=>hacc.2 j v (by rw[eU]at e;exact e)) () q
end
end L2
namespace Sx
open PySem PyProof.Rows
section
variable {prog:aj}{w:ah}{A:az}{E:af->aA->Prop}{s:aA}
def Qt{ns:ag}(h:IntsAre vs ns)(h':IntsAre vs ms):ns=ms:=by
 induction h generalizing ms with
 | nil=>cases h';rfl
 | cons n t _ ih=>cases h' with
  | cons _ _ h2=>rw[ih h2]
def Vy{a c:ak}{as cs:ba}{ns:ag}(ha:IsTup s.heap a as.toArray)(hc:IsTup s.heap c cs.toArray)(hi:IntsAre as ns)(hj:IntsAre cs ms)(hu:A.units<cLine)(hne:ns≠ms):SeqAt.EqAt A s (.ref a) (.ref c) false:=by
 have hac:a≠c:=λz=>by
  subst z;obtain⟨o,ho,_,n,hd⟩:=ha;obtain⟨o',ho',_,n',hd'⟩:=hc;rw[ho]at ho'
  cases ho'
  rw[hd]at hd'
  injection hd' with e1 e2
  have:as=cs:=by have:=dz Array.toList e1;simpa using this
  subst this;exact hne (Qt hi hj)
 have r1:=L2.tM hi;have r2:=L2.tM hj;have fl:∀l:ag,(l.map L2.V.int).all L2.yT=true:=λl=>by rw[g_,cZ];intro _ _;rfl
 have h:=SeqAt.RcAt.tuples ha hc hu (L2.OF r1 r2 (fl ns) (fl ms));have e:((List.range (min as.toArray.size cs.toArray.size)).all (L2.ZN (ns.map L2.V.int) (ms.map L2.V.int)) && as.toArray.size == cs.toArray.size)=false:=by
  have q:L2.Qw (ns.map L2.V.int) (ms.map L2.V.int)=false:=by rw[L2.C4,bh hne]
  rw[<- q,aY,aY,<- r1.length,<- r2.length];by_cases hl:(ns.map L2.V.int).length=(ms.map L2.V.int).length
  ·rw[hl,Nat.min_self,bQ,Bool.and_true];exact L2.Wf _ hl.symm rfl
  ·rw[L2.SO hl,jq hl,iV]
 rw[e]at h;exact .of_refs hac h
def FT{l k a c:ak}{x:af}{as cs:ba}{ns:ag}{Q:Bool->aA->Prop}(hl:IsTup s.heap l #[.ref a,x])(hk:IsTup s.heap k #[.ref c,y])(ha:IsTup s.heap a as.toArray)(hc:IsTup s.heap c cs.toArray)(hi:IntsAre as ns)(hj:IntsAre cs ms)(hu:A.units<cLine)(hne:ns≠ms)(h:Q (HT.lexLt ns ms) s) :
  wpAny (model prog w) A (keyLt' (tuples' false) (.ref l) (.ref k)) Q E s:=by
 rw[wU];obtain⟨o1,ho1,_,n1,hd1⟩:=hl;obtain⟨o2,ho2,_,n2,hd2⟩:=hk;refine aF (fh ho1 hd1 ?_);refine aF (fh ho2 hd2 ?_)
 skip
 rw[show([Value.ref a,x].zip [Value.ref c,y]).zipIdx=[((Value.ref a,Value.ref c),0),((x,y),1)]from rfl,gH];refine aF (aF ?_);dsimp only;refine aF (Vy ha hc hi hj hu hne prog w _ _ ?_);dsimp[dg,cI];refine aF ?_;rw[oneLt'_eq];dsimp[Bool.false_and,bz,bY];refine aF (HT.GG ha hc (by simpa using hi) (by simpa using hj) hu ?_);refine dR ?_;exact aP (aP (aP h))
def F7{l:ak}{v:af}{Q:Bool->aA->Prop}(hl:IsTup s.heap l #[u,v])(h:Q false s):wpAny (model prog w) A (keyLt' (tuples' false) (.ref l) (.ref l)) Q E s:=by
 rw[wU];obtain⟨o1,ho1,_,n1,hd1⟩:=hl;refine aF (fh ho1 hd1 ?_);refine aF (fh ho1 hd1 ?_)
 skip
 rw[show([u,v].zip [u,v]).zipIdx=[((u,u),0),((v,v),1)]from rfl,gH];refine aF (aF ?_);dsimp only;refine aF (SeqAt.EqAt.same u prog w _ _ ?_);dsimp[cU,bz,bY];refine aP ?_;dsimp only;rw[gH];refine aF ?_;dsimp only;refine aF (SeqAt.EqAt.same v prog w _ _ ?_);dsimp[cU,bz,bY];refine aP ?_;dsimp only;rw[ju];refine aP ?_;dsimp only;exact aP h
def Fq{vs:ba}(h0:vs≠[])(ht:∀v∈vs,∃(l a:ak) (xs ys:ba),v=.ref l/\IsTup s.heap l (.ref a::xs).toArray/\IsTup s.heap a ys.toArray){Q:SortKind->aA->Prop}(q:Q (tuples' false) s) :
  wpAny (model prog w) A (keyKind' vs.toArray) Q E s:=by
 have ch:∀v,∃a:ak,v∈vs->∃(l:ak) (xs ys:ba),v=.ref l/\IsTup s.heap l (.ref a::xs).toArray/\IsTup s.heap a ys.toArray:=λv=>by
  by_cases c:v∈vs
  ·obtain⟨l,a,xs,ys,e⟩:=ht v c;exact⟨a,λ_=>⟨l,xs,ys,e⟩⟩
  ·exact⟨0,λz=>absurd z c⟩
 obtain⟨F,hF⟩:=Classical.axiomOfChoice ch;rw[keyKind'_eq];refine aF (yk (λv=>some (Value.ref (F v))) vs (λv hv Q' q'=>?_) _ ?_)
 ·obtain⟨l,xs,ys,rfl,⟨o,ho,hc,n,hd⟩,_⟩:=hF v hv;rw[D4];refine aF (gp (T := "tuple") ⟨o,ho,hc⟩ ?_);rw[aI ⋯];exact aF (fh ho hd (aP q'))
 ·rw[aK (by simp)];refine aF (fq ?_);have e1:(vs.map λv=>some (Value.ref (F v))).toArray.filterMap id=(vs.map λv=>Value.ref (F v)).toArray:=by
   rw[List.filterMap_toArray,iU];congr 1;rw[show(id ∘ λv=>some (Value.ref (F v)))=λv=>some (Value.ref (F v))from rfl];exact congrFun List.filterMap_eq_map' vs
  rw[e1,oneTypeOnly'_eq];refine aF (aF (yk (λ_=>Value.type "tuple") _ (λv hv Q' q'=>?_) _ ?_))
  ·obtain⟨u,hu,rfl⟩:=bA.mp hv;obtain⟨_,_,ys,_,_,o,ho,hc,n,hd⟩:=hF u hu;exact gp (T := "tuple") ⟨o,ho,hc⟩ q'
  ·rw[bq];obtain⟨v0,vs',rfl⟩:∃v0 vs',vs=v0::vs':=by
    cases vs with
    | nil=>exact absurd rfl h0
    | cons a b=>exact⟨a,b,rfl⟩
   have ha:((List.map ((λ_=>Value.type "tuple") ∘ λv=>Value.ref (F v)) (v0::vs')).toArray.all λx=>x == Value.type "tuple")=true:=by
    dsimp[List.all_toArray,g_,cZ];intro _ _;rfl
   have hz:(List.map ((λ_=>Value.type "tuple") ∘ λv=>Value.ref (F v)) (v0::vs')).toArray[0]?=some (Value.type "tuple"):=by simp
   rw[hz];dsimp[ha,cI];exact aP (aP q)
end
end Sx
namespace L2
open PySem PySem.Spec PyProof.Rows
section
variable {X:Cx}
def EW{s:aA}{H:Hp}{Q:VK}{h':aq}{tk:Nat}{rs:bb}{kss:List (ag)}(I1:Inv X pins σ H { s with heap:=h',toks:=tk })(hlen:rs.length=kss.length)(hz:rs.length<=sizeLine)(hu:X.A.units+64<cLine)
  (hnd:∀i j (hi:i<kss.length) (hj:j<kss.length),kss[i]=kss[j]->i=j)
  (hT:∀(i:Nat) (r:ak) (ks:ag),rs[i]?=some r->kss[i]?=some ks->∃(a:ak) (v:V),mO X.K H r [.ref a,v]/\mO X.K H a (ks.map V.int))
  (q:∀l g,H l=none->Sx.Cl g 0 kss.length->Sx.So (Sx.zU kss) g 0 kss.length->Q (.ref l) (upd H l (.lst (((List.range kss.length).map λi=>rs.getD (g i) 0).map V.ref)))) :
  wpAny (model X.prog X.w) X.A.in1 (do
   let l <- newList (rs.map Value.ref)
   let _ <- holding [l] (call (Value.builtin "list.sort") [l] [])
   ret l) (λfin s'=>∃v,fin=Fin.done (Flow.ret v)/\EP X pins σ Q v s') X.xe { s with heap:=h',toks:=tk }:=by
 have hN:(rs.map Value.ref).length=kss.length:=by rw[aH,hlen]
 refine aF (jd ?_);have hoL:(h'.push (seqObj "list" (rs.map Value.ref).toArray 0)).get? h'.objs.size=some (seqObj "list" (rs.map Value.ref).toArray 0):=bB _ rfl
 skip
 have keep:∀(r:ak) (its:Array af),IsTup h' r its->IsTup (Sx.BN (h'.push (seqObj "list" (rs.map Value.ref).toArray 0)) h'.objs.size (rs.map Value.ref)) r its:=λr its ⟨o,ho,hc,n,hd⟩=>by
  refine⟨o,?_,hc,n,hd⟩;have lt:r<h'.objs.size:=bf ho;rw[Sx.GY (bE lt) (by rw[eK];exact dU lt)];exact aO _ ho
 have tup:∀(i:Nat) (r:ak) (ks:ag),rs[i]?=some r->kss[i]?=some ks->∃(a:ak) (u:af) (its:ba),IntsAre its ks/\IsTup (Sx.BN (h'.push (seqObj "list" (rs.map Value.ref).toArray 0)) h'.objs.size (rs.map Value.ref)) r #[.ref a,u]/\IsTup (Sx.BN (h'.push (seqObj "list" (rs.map Value.ref).toArray 0)) h'.objs.size (rs.map Value.ref)) a its.toArray:=λi r ks e1 e2=>by
  obtain⟨a,v,t1,t2⟩:=hT i r ks e1 e2;obtain⟨its,rv,p1,_⟩:=I1.tuple t1;obtain⟨jts,rw_,p2,_⟩:=I1.tuple t2
  cases rv with
  | cons g1 rv=>cases rv with
   | cons g2 rv=>
    cases rv
    have g1:_=Value.ref a:=g1;subst g1;exact⟨a,_,jts,intsAre_of rw_,keep _ _ p1,keep _ _ p2⟩
 refine aF (cT (cY slot_list_sort ⟨_,hoL,rfl⟩ entry_list_sort (Sx.w_ (o:=Sx.zU kss) (kd:=tuples' false) hoL (by rw[hN];lia) (λh2 Q' q'=>?_) (λh2 i j hi hj E' Q' q'=>?_) λg hc hs=>⟨_,rfl,?_⟩) (args_list_sort _)))
 ·refine Sx.Fq (λz=>by rw[z]at h2;simp at h2) (λv hv=>?_) q';obtain⟨i,hi⟩:=eZ hv;rw[aS]at hi;obtain⟨r,hr,rfl⟩:=a_.mp hi;have lt:=(aL.mp hr).1;have e2:kss[i]?=some kss[i]:=aG ();obtain⟨a,u,its,_,h3,h4⟩:=tup i r _ hr e2;exact⟨r,a,_,its,rfl,h3,h4⟩
 ·rw[hN]at hi hj;have e1:rs[i]?=some (rs[i]'()):=aG _;have e2:rs[j]?=some (rs[j]'()):=aG _;have k1:kss[i]?=some kss[i]:=aG hi;have k2:kss[j]?=some kss[j]:=aG hj;obtain⟨a1,u1,x1,y1,b1,c1⟩:=tup i _ _ e1 k1;obtain⟨a2,u2,x2,y2,b2,c2⟩:=tup j _ _ e2 k2;have v1:(rs.map Value.ref).getD i .none=.ref (rs[i]'()):=by rw[aJ,aS,e1];rfl
  have v2:(rs.map Value.ref).getD j .none=.ref (rs[j]'()):=by rw[aJ,aS,e2];rfl
  show wpAny _ _ (keyLt' (tuples' false) ((rs.map Value.ref).getD i .none) ((rs.map Value.ref).getD j .none)) Q' E' _;rw[v1,v2];have d1:kss.getD i []=kss[i]:=by rw[aJ,k1];rfl
  have d2:kss.getD j []=kss[j]:=by rw[aJ,k2];rfl
  have this:(Sx.zU kss).lt i j=HT.lexLt kss[i] kss[j]:=by show HT.lexLt _ _=_;rw[d1,d2]
  by_cases hij:i=j
  ·subst hij;rw[this,Sx.xW]at q';exact Sx.F7 b1 q'
  ·rw[this]at q';exact Sx.FT b1 b2 c1 c2 y1 y2 (by show X.A.units+1+1<cLine;lia) (λz=>hij (hnd i j hi hj z)) q'
 ·rw[hN]at hc hs ⊢;obtain⟨e,he⟩:=sortedHeap_at (out:=((List.range kss.length).map λi=>(rs.map Value.ref).getD (g i) .none).toArray) hoL;have old:∀b ob,h'.get? b=some ob->(sortedHeap (h'.push (seqObj "list" (rs.map Value.ref).toArray 0)) h'.objs.size (rs.map Value.ref) ((List.range kss.length).map λi=>(rs.map Value.ref).getD (g i) .none).toArray).get? b=some ob:=λb ob eb=>by
   rw[sortedHeap_old (bE (bf eb)) (by rw[eK];exact dU (bf eb))];exact aO _ eb
  refine aP ⟨_,rfl,.ref h'.objs.size,_,I1.laid (t':=tk) (o:=.lst (((List.range kss.length).map λi=>rs.getD (g i) 0).map V.ref)) old (aQ _) ?_,rfl,q _ g (I1.hok.fresh (aQ _)) hc hs⟩;refine⟨by rw[aH,aH,cE];lia,((List.range kss.length).map λi=>rs.getD (g i) 0).map Value.ref,e,wk _,?_⟩;rw[he];congr 2;rw[bq];congr 1;refine cK λi hi=>?_;have:=(hc i (bO _) (cA.mp hi)).2;have lt:g i<rs.length:=()
  show(rs.map Value.ref).getD (g i) .none=Value.ref (rs.getD (g i) 0);rw[aJ,aS,aG lt,aJ,aG lt];rfl
def Bx(hu:X.A.units+64<cLine):kg X (.builtin "sorted") (λxs H Q=>∃(p:ak) (rs:bb) (kss:List (ag)),xs=[.ref p]/\qa X.K H p (rs.map V.ref)/\rs.length=kss.length/\(∀i j (hi:i<kss.length) (hj:j<kss.length),kss[i]=kss[j]->i=j) /\
  (∀(i:Nat) (r:ak) (ks:ag),rs[i]?=some r->kss[i]?=some ks->∃(a:ak) (v:V),mO X.K H r [.ref a,v]/\mO X.K H a (ks.map V.int)) /\
  ∀l g,H l=none->Sx.Cl g 0 kss.length->Sx.So (Sx.zU kss) g 0 kss.length->Q (.ref l) (upd H l (.lst (((List.range kss.length).map λi=>rs.getD (g i) 0).map V.ref)))):=by
 k_ne;obtain⟨p,rs,kss,rfl,hq,hlen,hnd,hT,q⟩:=h;kcj_m
 cases rx
 obtain⟨its,rv,pl,hz⟩:=I.list hq;have ei:=wR rv;subst ei;obtain⟨o,ho,hcl,n,hd⟩:=pl.isList;rw[aH]at hz;have hN:(rs.map Value.ref).length=kss.length:=by rw[aH,hlen]
 refine gv kind_sorted plain_sorted entry_sorted (args_sorted1 _) ?_;unfold Builtin.«sorted»;refine aF (m:=checkCount "sorted" 1 1 _) (aP ?_);refine aF (wpAny_collect_seq p (.inl rfl) ho hcl hd (λh' hk=>EW (s:=s) (I.kept (t':=s.toks) hk) hlen hz hu hnd hT q) (by rw[aY,hN];lia))
end
end L2
namespace Am
open PySem PySem.Spec PyProof.Rows L2
abbrev lN (S:jE)(n:Nat):Option (List (Int×A)):=match S[n]? with
 | some (.qM xs)=>some xs
 | _=>none
def pF{n:Nat}(h:lN S n=some xs):S[n]?=some (.qM xs):=by
 unfold lN at h;split at h
 ·rename_i e;cases h;exact e
 ·cases h
def BD{S:jE}{n:Nat}(h:S[n]?=some (.qM xs)):lN S n=some xs:=by
 unfold lN;rw[h]
abbrev mX (kvs:List (Int×A))(k:Int):Option A:=(kvs.find? λkv=>decide (kv.1=k)).map (·.2)
abbrev vV (kvs:List (Int×A))(k:Int)(v:A):List (Int×A):=
 if (mX kvs k).isSome=true then kvs.map (λkv=>if kv.1=k then(kv.1,v)else kv)else kvs++[(k,v)]
section
variable {K:au}{ρ:bb}{H:Hp}
def J0{p:Int×A}{r:List (Int×A)}{k:Int}(e:p.1=k):mX (p::r) k=some p.2:=by simp[mX,cN,e]
def K_{p:Int×A}{r:List (Int×A)}{k:Int}(e:¬p.1=k):mX (p::r) k=mX r k:=by simp[mX,cN,e]
def Zq{a b:Int}(e:(Sum.inl a:Key)=Sum.inl b):a=b:=by injection e
theorem DI.look:∀{kvs:List (Int×A)}{ks:List (Key×V)}(k:Int),DI K ρ H kvs ks->(mX kvs k).isSome=(pH ks (Sum.inl k:Key)).isSome/\∀x,mX kvs k=some x->∃v,pH ks (Sum.inl k:Key)=some v/\AV K ρ H x v
 | [],[],k,_=>⟨rfl,λx h=>nomatch h⟩
 | p::r,q::r',k,⟨⟨e,a⟩,t⟩=>by
  by_cases c:p.1=k
  ·have c':q.1=(Sum.inl k:Key):=by rw[e,c]
   rw[J0 c,sq c'];exact⟨rfl,λx h=>by cases h;exact⟨_,rfl,a⟩⟩
  ·have c':¬q.1=(Sum.inl k:Key):=λz=>c (Zq (e.symm.trans z));rw[K_ c,tu c'];exact DI.look k t
theorem DI.repl{x:A}{v:V}(h:AV K ρ H x v)(k:Int):∀{kvs:List (Int×A)}{ks:List (Key×V)},DI K ρ H kvs ks->DI K ρ H (kvs.map λkv=>if kv.1=k then(kv.1,x)else kv) (ks.map λkv=>if kv.1=(Sum.inl k:Key)then(kv.1,v)else kv)
 | [],[],_=>trivial
 | p::r,q::r',⟨⟨e,a⟩,t⟩=>by
  refine⟨?_,DI.repl h k t⟩;dsimp only;by_cases c:p.1=k
  ·rw[aK c,aK (by rw[e,c])];exact⟨e,h⟩
  ·rw[aI c,aI (λz=>c (Zq (e.symm.trans z)))];exact⟨e,a⟩
theorem DI.snoc{x:A}{v:V}(h:AV K ρ H x v)(k:Int):∀{kvs:List (Int×A)}{ks:List (Key×V)},DI K ρ H kvs ks->DI K ρ H (kvs++[(k,x)]) (ks++[(Sum.inl k,v)])
 | [],[],_=>⟨⟨rfl,h⟩,trivial⟩
 | p::r,q::r',⟨a,t⟩=>⟨a,DI.snoc h k t⟩
def DI.put{x:A}{v:V}(h:AV K ρ H x v)(k:Int)(d:DI K ρ H kvs ks):DI K ρ H (vV kvs k x) (putK ks (Sum.inl k:Key) v):=by
 unfold vV putK;rw[uY,<- (d.look k).1];by_cases c:(mX kvs k).isSome=true
 ·rw[aK c,aK c];exact DI.repl h k d
 ·rw[aI c,aI c];exact DI.snoc h k d
def DI.length:∀{kvs:List (Int×A)}{ks:List (Key×V)},DI K ρ H kvs ks->kvs.length=ks.length
 | [],[],_=>rfl
 | _::_,_::_,⟨_,t⟩=>dz (·+1) t.length
theorem DI.keys:∀{kvs:List (Int×A)}{ks:List (Key×V)},DI K ρ H kvs ks->ks.map (·.1)=kvs.map λkv=>(Sum.inl kv.1:Key)
 | [],[],_=>rfl
 | _::_,_::_,⟨⟨e,_⟩,t⟩=>by rw[bF,bF,e,DI.keys t]
def Rel.qM{n:Nat}{a:ak}(R:Rel K ρ H S)(ha:ρ[n]?=some a)(hS:S[n]?=some (.qM xs)):∃vs,H a=some (.dK vs)/\DI K ρ H xs vs:=R.at n a _ ha hS
def Rel.X5{S:jE}{p:ak}(R:Rel K ρ H S)(hp:H p=none)(r:DI K ρ H xs vs):Ext ρ (ρ++[p]) H (upd H p (.dK vs))/\Rel K (ρ++[p]) (upd H p (.dK vs)) (S++[.qM xs])/\(ρ++[p])[S.length]?=some p:=by
 have ex:Ext ρ (ρ++[p]) H (upd H p (.dK vs)):=⟨⟨fV _ _,λa u _ h=>by rw[jM (jU h hp)];exact h⟩,λa u h _=>by rw[jM (jU h hp)];exact h,λa h=>by
  rcases bI.mp h with z|z
  ·exact .inl z
  ·have e:a=p:=by simpa using z
   rw[e];exact .inr hp⟩
 have np:p∉ρ:=R.Pb hp;have last:(ρ++[p])[S.length]?=some p:=by rw[<- R.len];simp
 refine⟨ex,⟨by simp[R.len],?_,?_⟩,last⟩
 ·rw[dW];refine⟨R.nd,by simp,λa ha b hb e=>?_⟩;have:b=p:=by simpa using hb
  exact np (by rw[<- this,<- e];exact ha)
 ·intro n a o h1 h2;by_cases hn:n<S.length
  ·rw[bH (by rw[R.len];exact hn)]at h1;rw[bH hn]at h2;have na:a≠p:=λz=>np (by rw[<- z];exact aZ h1);have:=R.at n a o h1 h2
   cases o with
   | lst ys=>obtain⟨ws,e,q⟩:=this;exact⟨ws,by rw[jM na];exact e,q.ext ex⟩
   | dct _|qM _=>obtain⟨ws,e,q⟩:=this;exact⟨ws,by rw[jM na];exact e,q.ext ex⟩
   | ins _ _=>obtain⟨oo,uu,e⟩:=this;exact⟨oo,uu,by rw[jM na];exact e⟩
  ·have e:n=S.length:=by
    have:=(aL.mp h2).1;simp at this
    lia
   subst e;rw[last]at h1
   cases h1
   simp at h2;subst h2;exact⟨vs,ko,r.ext ex⟩
def Rel.vV{S:jE}{n:Nat}{a:ak}(R:Rel K ρ H S)(ha:ρ[n]?=some a)(hS:S[n]?=some (.qM xs))(r:DI K ρ H ys ws):Ext ρ ρ H (upd H a (.dK ws))/\Rel K ρ (upd H a (.dK ws)) (S.set n (.qM ys)):=by
 obtain⟨vs,e,_⟩:=R.at n a _ ha hS;have ex:Ext ρ ρ H (upd H a (.dK ws)):=⟨⟨fO _,λb u i h=>by
  have:b≠a:=by
   intro z;subst z;rw[e]at h;cases h;exact i
  rw[jM this];exact h⟩,λb u h n=>by
  rw[jM (λz=>n (by rw[z];exact aZ ha))];exact h,λ_ h=>.inl h⟩
 refine⟨ex,by rw[cu];exact R.len,R.nd,λm b o h1 h2=>?_⟩;by_cases hm:m=n
 ·subst hm;rw[ha]at h1;cases h1;rw[bN (aL.mp hS).1]at h2
  cases h2
  exact⟨ws,ko,r.ext ex⟩
 ·rw[bW (cR hm)]at h2;have nb:b≠a:=λz=>by
   subst z;obtain⟨l1,e1⟩:=aL.mp ha;obtain⟨l2,e2⟩:=aL.mp h1;exact hm ((dj R.nd).mp (e2.trans e1.symm))
  have:=R.at m b o h1 h2
  cases o with
  | lst ys=>obtain⟨ws',e',q⟩:=this;exact⟨ws',by rw[jM nb];exact e',q.ext ex⟩
  | dct _|qM _=>obtain⟨ws',e',q⟩:=this;exact⟨ws',by rw[jM nb];exact e',q.ext ex⟩
  | ins _ _=>obtain⟨oo,uu,e'⟩:=this;exact⟨oo,uu,by rw[jM nb];exact e'⟩
end
section
variable {X:Cx}{pos:Pos}{a b:aC}
abbrev za (x y:A)(S:jE):R A:=match x,y with
 | .ref n,.int k=>opt (lN S n) λkvs=>opt (mX kvs k) λv=>.ok v S
 | _,_=>.no
def KR{x:A}{P:A->jE->Prop}{E:Str->jE->Prop}(h:(za x y S).post P E):∃n k kvs v,x=.ref n/\y=.int k/\lN S n=some kvs/\mX kvs k=some v/\P v S:=by
 unfold za at h;split at h
 ·obtain⟨kvs,h1,h⟩:=jO h;obtain⟨v,h2,h⟩:=jO h;exact⟨_,_,kvs,v,rfl,rfl,h1,h2,h⟩
 ·exact h.elim
def Ym(hu:X.A.units+64<cLine):Tr X (r2 X za):=λvalue slice pins s σ H x y v u Q I rx ry ⟨ρ,S,a,b,R,va,vb,h⟩ hs=>by
 obtain⟨n,k,kvs,z,ha,hb,hn,hz,hP⟩:=KR h;subst ha hb
 cases vb
 cases va with
 | @ref p _ hp=>
  obtain⟨ks,e,d⟩:=R.qM hp (pF hn);obtain⟨w,hw,aw⟩:=(d.look k).2 z hz;have g:uL H p (kV (Sum.inl k)) (pH ks (Sum.inl k)):=uL.k e;rw[hw]at g;exact IA () value slice pins s σ H _ _ v u Q I rx ry ⟨p,w,rfl,g,hP _ _ _ .refl R aw⟩ hs
def LJ(hu:X.A.units+64<cLine){ca cb:Ex}(ha:AE X a ca)(hb:AE X b cb)(hs:xQ b:=by exact λ_ _=>rfl):AE X (.Subscript a b pos) (jI za ca cb):=PE.imp (Nt (Ym hu) ha hb hs) λσ H Q h=>t8 h
abbrev AR (o i v:A)(S:jE):R Unit:=match o,i with
 | .ref n,.int k=>opt (lN S n) λkvs=>gd (kvs.length<sizeLine) (.ok Unit.unit (S.set n (.qM (vV kvs k v))))
 | _,_=>.no
def Gi{x v:A}{S:jE}{P:Unit->jE->Prop}{E:Str->jE->Prop}(h:(AR x y v S).post P E):∃n k kvs,x=.ref n/\y=.int k/\lN S n=some kvs/\kvs.length<sizeLine/\P Unit.unit (S.set n (.qM (vV kvs k v))):=by
 unfold AR at h;split at h
 ·obtain⟨kvs,h1,h⟩:=jO h;obtain⟨h2,h⟩:=j3 h;exact⟨_,_,kvs,rfl,rfl,h1,h2,h⟩
 ·exact h.elim
abbrev aav (X:Cx):KA:=λo i v H Q=>∃ρ S ao ai av,Rel X.K ρ H S/\AV X.K ρ H ao o/\AV X.K ρ H ai i/\AV X.K ρ H av v/\(AR ao ai av S).post (λ_ S'=>∀ρ' H',Ext ρ ρ' H H'->Rel X.K ρ' H' S'->Q H') (XE X ρ H)
def QS(hu:X.A.units+64<cLine):Kl X (aav X):=λpins s σ H o i v ov iv u Q I ro ri rv h9=>by
 obtain⟨ρ,S,ao,ai,av,R,h1,h2,h3,h⟩:=h9;obtain⟨n,k,kvs,ha,hb,hn,hl,hP⟩:=Gi h;subst ha hb
 cases h2
 cases h1 with
 | @ref p _ hp=>
  obtain⟨ks,e,d⟩:=R.qM hp (pF hn);obtain⟨ex,R'⟩:=R.vV hp (pF hn) (d.put h3 k);exact set_dict (by omega) pins s σ H _ _ v ov iv u Q I ro ri rv ⟨p,_,rfl,Ef.k (k:=Sum.inl k) e (by rw[<- d.length];exact hl),hP _ _ ex R'⟩
abbrev Lh (co ci:Ex):Tg:=λa τ S=>(co τ S).bind λo S1=>(ci τ S1).bind λi S2=>(AR o i a S2).bind λ_ S3=>.ok τ S3
def IC(hu:X.A.units+64<cLine){co ci:Ex}(ho:AE X o co)(hi:AE X i ci)
  (ha:∀v,assign (.Subscript o i pos) X.env v=(do
   let ov <- holding [v] (eval o X.env)
   let iv <- holding [v,ov] (eval i X.env)
   standAt pos
   holding [v,ov,iv] (setItem ov iv v)
   release [v,ov,iv] []):=by intro _;rfl):AG X (.Subscript o i pos) (Lh co ci):=PG.imp (GD ho hi (QS hu) ha) λv σ H Q h9=>by
 obtain⟨ρ,S,τ,a,R,r,va,h⟩:=h9;kd_p;kcf_m;exact h3 ρ3 H3 σ ((e1.trans e2).trans e3) R3 (r.ext ((e1.trans e2).trans e3))
abbrev Fe:Ex:=λ_ S=>.ok (.ref S.length) (S++[.qM []])
def LP:AE X (.Dict [] [] pos) Fe:=PE.imp P5 λσ H Q ⟨ρ,S,τ,R,r,h⟩ p hp=>by
 obtain⟨ex,R',hl⟩:=R.X5 (xs:=[]) (vs:=[]) hp trivial;exact h _ _ _ ex R' (.ref hl)
abbrev dk? (a:A)(S:jE):Option Unit:=match a with
 | .ref n=>(lN S n).map λ_=>Unit.unit
 | _=>none
abbrev JX (f:A->ae->jE->R A)(co:Ex)(d:qc):Ex:=λτ S=>(co τ S).bind λx S1=>opt (dk? x S1) λ_=>(d τ S1).bind λas S2=>f x as S2
def dk?_ty{K:au}{H:Hp}{x:A}{v:V}(R:Rel K ρ H S)(a:AV K ρ H x v)(e:dk? x S=some u):X3 K "dict" v H:=by
 cases a with
 | @ref p n h=>
  obtain⟨xs,hx,_⟩:=a_.mp e;obtain⟨vs,h1,_⟩:=R.qM h (pF hx);exact .inr (.inr (.inl ⟨rfl,.inl ⟨vs,h1⟩⟩))
 | _=>cases e
def LL{id:String}{apos cpos:Pos}{f:A->ae->jE->R A}{co:Ex}{d:qc}(slot:Slot "dict" name id)(hty:typeOf (.builtin id)=pure (.type "method_descriptor"))(hm:TQ X id (rM X f))(ho:AE X o co)(ha:AL X (e::es) d)
  (hbase:attributeBase o name X.env (eval o X.env)=eval o X.env:=by rfl)
  (hfew:((backTo cpos (starEach (e::es) X.env)).all (λx=>!x.1) && (backToKw cpos (keywordEach [] X.env)).all (λx=>x.1.isSome)
   && decide ((e::es).length+([]:List Keyword).length+(if ([]:List Keyword).isEmpty then 0 else 1)<30))=true:=by rfl)
  (hline:(apos.endLine == cpos.line)=true:=by rfl) (hs:starEach (e::es) X.env=(false,eval e X.env)::starEach es X.env:=by rfl) (hplain:(backTo cpos (starEach es X.env)).any (·.1)=false:=by rfl) :
  AE X (.Call (.Attribute o name apos) (e::es) [] cpos) (JX f co d):=PE.imp (M7 PySem.F.plainAttrs_dict slot hty hm ho ha hbase hfew hline hs hplain) λσ H Q h9=>by
 room;refine⟨ρ,S,τ,R,r,jG (jK h) .refl λx S1 h1 ρ1 H1 v e1 R1 v1=>?_⟩;obtain⟨xs,hx,h1⟩:=jO h1;refine⟨dk?_ty R1 v1 hx,ρ1,S1,τ,R1,r.ext e1,jG (jK h1) e1 λas S2 h2 ρ2 H2 vs e2 R2 v2=>?_⟩;exact⟨ρ2,S2,x,as,R2,v1.ext e2,v2,jG h2 (e1.trans e2) λ_ _ z=>z.ext (e1.trans e2)⟩
abbrev xh (o:A)(as:ae)(S:jE):R A:=match o,as with
 | .ref n,[.int k,y]=>opt (lN S n) λkvs=>.ok ((mX kvs k).getD y) S
 | _,_=>.no
def F3{x:A}{P:A->jE->Prop}{E:Str->jE->Prop}(h:(xh x as S).post P E):∃n k y kvs,x=.ref n/\as=[.int k,y]/\lN S n=some kvs/\P ((mX kvs k).getD y) S:=by
 unfold xh at h;split at h
 ·obtain⟨kvs,h1,h⟩:=jO h;exact⟨_,_,_,kvs,rfl,rfl,h1,h⟩
 ·exact h.elim
def NC(hu:X.A.units+64<cLine):TQ X "dict.get" (rM X xh):=λpins s σ H x vs v us Q I rx rv h9=>by
 obtain⟨ρ,S,o,as,R,vo,va,h⟩:=h9;obtain⟨n,k,y,kvs,ho,has,hn,hP⟩:=F3 h;subst ho has;obtain⟨w1,w2,rfl,hz,hy⟩:=Vb va
 cases hz
 cases vo with
 | @ref p _ hp=>
  obtain⟨ks,h1,dv⟩:=R.qM hp (pF hn)
  cases rx
  obtain⟨u1,u2,rfl,r1,r2⟩:=vals2 rv;refine Ws () I (uL.k (k:=Sum.inl k) h1) r1 r2 λw' s' I' rw'=>⟨_,H,I',rw',hP _ _ _ .refl R ?_⟩;obtain⟨l1,l2⟩:=dv.look k
  cases e1:mX kvs k with
  | none=>
   rw[e1]at l1
   cases e2:pH ks (Sum.inl k:Key)with
   | none=>exact hy
   | some _=>rw[e2]at l1;cases l1
  | some x1=>
   obtain⟨v1,e2,a1⟩:=l2 x1 e1;rw[e2];exact a1
end
section
variable {X:Cx}
abbrev Xr (n:Nat)(S:jE):R A:=opt (jY S n) λkvs=>match (kvs.map Prod.fst).all (λks=>!ks.isEmpty)with
 | true=>.ok (.ref S.length) (S++[.lst ((l_ (kvs.map Prod.fst)).map λks=>.tup (ks.map .int))])
 | false=>.no
abbrev wH (x:A)(S:jE):R A:=match x with
 | .ref n=>Xr n S
 | _=>.no
theorem JK{K:au}{H:Hp}:∀{kvs:List (ag×A)}{ks:List (List Key×V)},DV K ρ H kvs ks->ks.map (λp=>p.1)=(kvs.map Prod.fst).map (λks=>ks.map Sum.inl)
 | [],[],_=>rfl
 | a::kvs,b::ks,⟨z,t⟩=>by
  have:=JK t;show b.1::ks.map _=a.1.map Sum.inl::_;rw[this,z.1]
def Hi(hc:X.calm=true):kg X (.builtin "sorted") (rN X (f1 wH)):=kg.imp (CC hc) λvs H Q h0=>by
 gn_on;clear h0
 cases hv with
 | ref hp=>
  rename_i p n;obtain⟨kvs,hn,h⟩:=jO h;obtain⟨ks,g1,dv⟩:=R.dct hp (nR hn)
  cases hb:(kvs.map Prod.fst).all (λks=>!ks.isEmpty)with
  | false=>rw[hb]at h;exact h.elim
  | true=>
   rw[hb]at h;refine⟨p,ks,kvs.map Prod.fst,rfl,g1,JK dv,λk hk z=>?_,λrs l g hl hh hl' hc hs=>?_⟩
   ·have:=cZ.mp hb k hk;rw[z]at this
    cases this
   have av:AVs X.K ρ H ((l_ (kvs.map Prod.fst)).map λks=>.tup (ks.map .int)) (((List.range (kvs.map Prod.fst).length).map λi=>rs.getD (g i) 0).map V.ref):=by
    rw[<- M5 hc hs,bq,bq];refine BH λi hi=>?_;have lt:=(hc i (bO _) (cA.mp hi)).2;have e1:rs[g i]?=some (rs.getD (g i) 0):=by rw[aJ,aG (by rw[hl];exact lt)];rfl
    have e2:(kvs.map Prod.fst)[g i]?=some ((kvs.map Prod.fst).getD (g i) []):=by rw[aJ,aG lt];rfl
    exact .tup (hh _ _ _ e1 e2) (qU _)
   exact m8 R av .refl h l hl'
 | _=>exact h.elim
end
abbrev SQ:ae->Option (List (Int×A))
 | []=>some []
 | .tup [.int k,x]::r=>(SQ r).map λps=>(k,x)::ps
 | _=>none
abbrev SN (ps:List (Int×A)):List (Int×A):=ps.foldl (λacc p=>vV acc p.1 p.2) []
section
variable {K:au}{ρ:bb}{H:Hp}
def Q6{x:A}(r:AVs K ρ H [x,y] vs):∃v w,vs=[v,w]/\AV K ρ H x v/\AV K ρ H y w:=by
 cases r with
 | cons h t=>cases t with
  | cons h' t'=>cases t';exact⟨_,_,rfl,h,h'⟩
def LS{x:A}(e:SQ (x::xs)=some ps):∃k y ps',x=.tup [.int k,y]/\SQ xs=some ps'/\ps=(k,y)::ps':=by
 unfold SQ at e;split at e
 ·rename_i e2;cases e2
 ·rename_i k y r e2
  cases e2
  obtain⟨ps',h1,h2⟩:=a_.mp e;exact⟨_,_,_,rfl,h1,h2.symm⟩
 ·cases e
def Zm:∀{xs:ae}{vs:List V}{ps:List (Int×A)},AVs K ρ H xs vs->SQ xs=some ps ->
  ∃(rs:bb) (qs:List (Int×V)),vs=rs.map V.ref/\rs.length=qs.length/\(∀(i:Nat) (r:ak) (q:Int×V),rs[i]?=some r->qs[i]?=some q->mO K H r [.int q.1,q.2]) /\
   ∀as bs,DI K ρ H as bs->DI K ρ H (ps.foldl (λacc p=>vV acc p.1 p.2) as) (qs.foldl (λacc p=>putK acc (Sum.inl p.1) p.2) bs):=by
 intro xs
 induction xs with
 | nil=>intro vs ps r e;cases r;cases e;exact⟨[],[],rfl,rfl,λi r q h=>by simp at h,λas bs h=>h⟩
 | cons x xs ih=>
  intro vs ps r e;obtain⟨k,y,ps',rfl,e1,rfl⟩:=LS e
  cases r with
  | cons h t=>
   obtain⟨rs,qs,rfl,hl,hh,hd⟩:=ih t e1
   cases h with
   | @tup a _ us h r=>
    obtain⟨v,w,rfl,h1,h2⟩:=Q6 r
    cases h1
    refine⟨a::rs,(k,w)::qs,rfl,by rw[bC,bC,hl],λi r q e1 e2=>?_,λas bs d=>hd _ _ (d.put h2 k)⟩
    cases i with
    | zero=>cases e1;cases e2;exact mO.of h
    | succ i=>exact hh i r q (by simpa using e1) (by simpa using e2)
end
section
variable {X:Cx}
abbrev GF (x:A)(S:jE):R A:=match x with
 | .ref n=>opt (jC S n) λxs=>opt (SQ xs) λps=>.ok (.ref S.length) (S++[.qM (SN ps)])
 | _=>.no
def Sa(hc:X.calm=true):kg X (.type "dict") (rN X (f1 GF)):=kg.imp (FA hc) λvs H Q h0=>by
 gn_on;clear h0
 cases hv with
 | ref hp=>
  rename_i p n;kj_on;obtain⟨ps,hb,h⟩:=jO h;obtain⟨us,h1,r⟩:=R.lst hp (jT hn);obtain⟨rs,qs,rfl,hl,hh,hd⟩:=Zm r hb;refine⟨p,rs,qs,rfl,qa.of h1,hl,hh,λl hl'=>?_⟩;obtain⟨ex,R',hl⟩:=R.X5 (xs:=SN ps) (vs:=Z6 qs) hl' (hd [] [] trivial);exact h _ _ _ ex R' (.ref hl)
 | _=>exact h.elim
abbrev ze (x:A)(S:jE):R A:=match x with
 | .ref n=>opt (lN S n) λkvs=>.ok (.ref S.length) (S++[.lst ((sortI (kvs.map Prod.fst)).map .int)])
 | _=>.no
def To{ns:ag}{g:Nat->Nat}(c:Sx.Cl g 0 ns.length)(so:Sx.So (RC ns) g 0 ns.length):(List.range ns.length).map (λi=>ns.getD (g i) 0)=sortI ns:=by
 refine SW ?_ ?_ (yK ns)
 ·refine List.Perm.trans ?_ (sortI_perm ns).symm;have p:=rP (N:=ns.length) (g:=g) (λi hi=>(c i (bO _) hi).2) λi j hij hj z=>by
   have:=so i j (bO _) hij hj;rw[z]at this;exact this.Ll
  have:=p.map λi=>ns.getD i 0;rw[bq,range_getD]at this;exact this
 ·rw[c7];intro i j hi hj hij;rw[aH,cE]at hi hj;rw[c5,c5,eS,eS];have:=di (so i j (bO _) hij hj).ge
  lia
def Rc(hc:X.calm=true):kg X (.builtin "sorted") (rN X (f1 ze)):=kg.imp (CJ hc) λvs H Q h0=>by
 gn_on;clear h0
 cases hv with
 | ref hp=>
  rename_i p n;obtain⟨kvs,hn,h⟩:=jO h;obtain⟨ks,g1,dv⟩:=R.qM hp (pF hn);refine⟨p,ks,kvs.map Prod.fst,rfl,g1,by rw[dv.keys,bq];rfl,λl g hl' hc hs=>?_⟩;have av:AVs X.K ρ H ((sortI (kvs.map Prod.fst)).map .int) ((List.range (kvs.map Prod.fst).length).map λi=>V.int ((kvs.map Prod.fst).getD (g i) 0)):=by
   rw[<- To hc hs,bq];exact BH λi _=>.int _
  exact m8 R av .refl h l hl'
 | _=>exact h.elim
@[irreducible] noncomputable def big:Nat:=2 ^ 4096
theorem BO:big=2 ^ 4096:=by unfold big;rfl
def C7{i:Int}(h:i.natAbs<big):Builtin.Int.intBits i<=2 ^ 20:=by
 rw[BO]at h;exact bJ (intBits_le h) ⋯
abbrev Jf (a b:A)(S:jE):R A:=match a,b with
 | .int i,.int j=>gd (i.natAbs<big/\j.natAbs<big) (.ok (.int (i * j)) S)
 | _,_=>.no
def Xq:oE X (binaryOp .Mult) (r2 X Jf):=λpins s σ H x y v u Q I rx ry h9=>by
 x_go
 cases va with
 | int i=>cases vb with
  | int j=>
   obtain⟨⟨h1,h2⟩,h⟩:=j3 h;obtain⟨t,rfl⟩:∃t,v=Value.int i t:=rx;obtain⟨t',rfl⟩:∃t,u=Value.int j t:=ry;exact mul_int ⟨.int _,H,I.tok _,⟨_,rfl⟩,h _ _ _ .refl R (.int _)⟩ (IntMulOk.of_bits (C7 h1) (C7 h2))
  | _=>exact h.elim
 | _=>exact h.elim
end
def RX:bootBuiltins "dict" = some (.type "dict"):=by decide +kernel
abbrev kA (p:Int×Int):A:=.ktu [.int p.1,.int p.2]
abbrev Ly (K:au):af->Option (Int×Int)
 | .ref b=>match K.lookup b with
  | some ⟨.type "tuple",none,.seq its _,_⟩=>match its.toList with
   | [.int i _,.int j _]=>some (i,j)
   | _=>none
  | _=>none
 | _=>none
abbrev FN (K:au):ba->Option (List (Int×Int))
 | []=>some []
 | v::vs=>(Ly K v).bind λp=>(FN K vs).map λps=>p::ps
abbrev XG (K:au)(a:ak):Option (List (Int×Int)):=match K.lookup a with
 | some ⟨.type "list",none,.seq its _,_⟩=>if its.size<=sizeLine then FN K its.toList else none
 | _=>none
def OE{K:au}{v:af}{p:Int×Int}(h:Ly K v=some p):∃b,v=.ref b/\KTp K b [.int p.1,.int p.2]:=by
 unfold Ly at h;split at h
 ·rename_i b;refine⟨b,rfl,?_⟩;split at h
  ·rename_i its n sl e;split at h
   ·rename_i i t j u e2
    cases h
    refine⟨_,its,n,e,rfl,rfl,rfl,?_,?_⟩
    ·rw[<- dF,e2];show 2<=sizeLine;decide
    ·rw[e2];exact .cons ⟨t,rfl⟩ (.cons ⟨u,rfl⟩ .nil)
   ·cases h
  ·cases h
 ·cases h
def KO{K:au}{H:Hp}:∀{vs:ba}{ps:List (Int×Int)},FN K vs=some ps->∃us:List V,Vals us vs/\AVs K ρ H (ps.map kA) us:=by
 intro vs
 induction vs with
 | nil=>intro ps h;cases h;exact⟨[],.nil,.nil⟩
 | cons v vs ih=>
  intro ps h;obtain⟨p,h1,h⟩:=cO.mp h;obtain⟨qs,h2,rfl⟩:=a_.mp h;obtain⟨us,h3,h4⟩:=ih h2;obtain⟨b,rfl,h5⟩:=OE h1;exact⟨.ref b::us,.cons rfl h3,.cons (.ktu h5 (.cons (.int _) (.cons (.int _) .nil))) h4⟩
def Wa{K:au}{H:Hp}{a:ak}{ps:List (Int×Int)}(h:XG K a=some ps):AV K ρ H (.frz (ps.map kA)) (.ref a):=by
 unfold XG at h;split at h
 ·rename_i its n sl e;split at h
  ·rename_i hz;obtain⟨us,h1,h2⟩:=KO (ρ:=ρ) (H:=H) h;exact .frz (.inr ⟨_,its,n,e,rfl,rfl,rfl,hz,h1⟩) h2
  ·cases h
 ·cases h
def Nz{X:Cx}{x:Str}{a:ak}{ps:List (Int×Int)}(hm:X.mg x=some (.ref a))(hk:XG X.K a=some ps)(hg:Gl X x:=by rfl)(hd:(x == ("__debug__" : Str))=false:=by decide):AE X (.Name x pos) (eC (.frz (ps.map kA))):=
 PE.imp (IQ (v:=.ref a) hg hm rfl hd) λσ H Q h9=>by
  room;exact h ρ H _ .refl R (Wa hk)
abbrev zh {α:Type}(x:ag×α):List (ag×α)->List (ag×α)
 | []=>[x]
 | y::ys=>if HT.lexLt y.1 x.1=true then y::zh x ys else x::y::ys
abbrev mY {α:Type}:List (ag×α)->List (ag×α)
 | []=>[]
 | x::xs=>zh x (mY xs)
section
variable {α:Type}
theorem Bg(x:ag×α):∀ys:List (ag×α),(zh x ys).Perm (x::ys)
 | []=>eO _
 | y::ys=>by
  unfold zh;by_cases h:HT.lexLt y.1 x.1=true
  ·rw[aK h];exact((Bg x ys).cons y).trans (List.Perm.swap x y ys)
  ·rw[aI h]
theorem pL:∀xs:List (ag×α),(mY xs).Perm xs
 | []=>eO _
 | x::xs=>(Bg x (mY xs)).trans ((pL xs).cons x)
theorem El(x:ag×α):∀ys:List (ag×α),(zh x ys).map Prod.fst=Cv x.1 (ys.map Prod.fst)
 | []=>rfl
 | y::ys=>by
  unfold zh;rw[bF];unfold Cv;by_cases h:HT.lexLt y.1 x.1=true
  ·rw[aK h,aK h,bF,El]
  ·rw[aI h,aI h];rfl
theorem Ak:∀xs:List (ag×α),(mY xs).map Prod.fst=l_ (xs.map Prod.fst)
 | []=>rfl
 | x::xs=>by
  show(zh x (mY xs)).map Prod.fst=Cv x.1 (l_ (xs.map Prod.fst));rw[El,Ak]
theorem B6:∀{l:List (ag×α)},(l.map Prod.fst).Nodup->∀a∈l,∀b∈l,a.1=b.1->a=b
 | [],_,_,h,_,_,_=>nomatch h
 | x::l,nd,a,ha,b,hb,e=>by
  obtain⟨h1,h2⟩:=cM.mp nd
  rcases bD.mp ha with ea|ha'
  ·rcases bD.mp hb with eb|hb'
   ·rw[ea,eb]
   ·subst ea;exact absurd (e ▸ fH hb') h1
  ·rcases bD.mp hb with eb|hb'
   ·subst eb;exact absurd (e ▸ fH ha') h1
   ·exact B6 h2 a ha' b hb' e
def zf{xs ys:List (ag×α)}(nd:(ys.map Prod.fst).Nodup)(p:xs.Perm ys)(h:(xs.map Prod.fst).Pairwise Ct):xs=mY ys:=by
 refine dO (le:=λ(a b:ag×α)=>Ct a.1 b.1) (λ(a b:ag×α) ha hb h1 h2=>B6 nd a (p.mem_iff.mp ha) b ((pL ys).mem_iff.mp hb) (Sx.vf (show HT.lexLt b.1 a.1=false from h1) (show HT.lexLt a.1 b.1=false from h2)).symm) ?_ ?_ (p.trans (pL ys).symm)
 ·exact cH.mp h
 ·have:=q_ (ys.map Prod.fst);rw[<- Ak]at this;exact cH.mp this
def Sb{ps:List (ag×α)}{d:α}{g:Nat->Nat}(nd:(ps.map Prod.fst).Nodup)(c:Sx.Cl g 0 (ps.map Prod.fst).length)(so:Sx.So (Sx.zU (ps.map Prod.fst)) g 0 (ps.map Prod.fst).length):(List.range (ps.map Prod.fst).length).map (λi=>ps.getD (g i) ([],d))=mY ps:=by
 refine zf nd ?_ ?_
 ·have p:=rP (N:=(ps.map Prod.fst).length) (g:=g) (λi hi=>(c i (bO _) hi).2) λi j hij hj z=>by
   have:=so i j (bO _) hij hj;rw[z]at this;exact this.Ll
  have:=p.map λi=>ps.getD i ([],d);rw[bq,aH,range_getD]at this;rw[aH];exact this
 ·rw[bq];have e:(Prod.fst ∘ λi=>ps.getD (g i) ([],d))=λi=>(ps.map Prod.fst).getD (g i) []:=funext λi=>by
   show(ps.getD (g i) ([],d)).1=_;rw[aJ,aJ,aS]
   cases ps[g i]?<;>rfl
  rw[e,M5 c so];exact q_ _
end
abbrev XI:ae->Option (List (ag×A))
 | []=>some []
 | .tup [.tup xs,y]::r=>match A.ints xs with
  | some ks=>(XI r).map λrs=>(ks,y)::rs
  | _=>none
 | _=>none
theorem Qm{K:au}{H:Hp}:∀{xs:ae}{vs:List V}{ps:List (ag×A)},AVs K ρ H xs vs->XI xs=some ps ->
  ∃rs:bb,vs=rs.map V.ref/\rs.length=ps.length/\∀(i:Nat) (r:ak) (e:ag×A),rs[i]?=some r->ps[i]?=some e->(∃(a:ak) (v:V),mO K H r [.ref a,v]/\mO K H a (e.1.map V.int))/\AV K ρ H (.tup [.tup (e.1.map .int),e.2]) (.ref r)
 | [],_,_,.nil,e=>by cases e;exact⟨[],rfl,rfl,λi r ks h=>by simp at h⟩
 | x::xs,_,ps,.cons h t,e=>by
  unfold XI at e;split at e
  ·rename_i z;cases z
  ·rename_i ys y r' z
   cases z
   cases e1:A.ints ys with
   | none=>rw[e1]at e;cases e
   | some ks=>
    rw[e1]at e;obtain⟨ps',e2,rfl⟩:=a_.mp e;obtain⟨rs,rfl,hl,hh⟩:=Qm t e2
    cases h with
    | tup h r=>cases r with
     | cons h1 r=>cases r with
      | cons h2 r=>
       cases r
       cases h1 with
       | tup h3 r3=>
        have ev:=xM r3 e1;subst ev;rename_i p _ q;refine⟨_::rs,rfl,by rw[bC,bC,hl],λi r' e' g1 g2=>?_⟩
        cases i with
        | zero=>
         cases g1
         cases g2
         exact⟨⟨_,_,mO.of h,mO.of h3⟩,.tup h (.cons (.tup h3 (qU _)) (.cons h2 .nil))⟩
        | succ i=>exact hh i r' e' (by simpa using g1) (by simpa using g2)
  ·cases e
section
variable {X:Cx}
abbrev BR (x:A)(S:jE):R A:=match x with
 | .ref n=>opt (jC S n) λxs=>opt (XI xs) λps=>gd (ps.map Prod.fst).Nodup (.ok (.ref S.length) (S++[.lst ((mY ps).map λe=>.tup [.tup (e.1.map .int),e.2])]))
 | _=>.no
def NQ(hu:X.A.units+64<cLine):kg X (.builtin "sorted") (rN X (f1 BR)):=kg.imp (Bx hu) λvs H Q h0=>by
 gn_on;clear h0
 cases hv with
 | ref hp=>
  rename_i p n;kj_on;obtain⟨ps,hb,h⟩:=jO h;obtain⟨nd,h⟩:=j3 h;obtain⟨us,h1,r⟩:=R.lst hp (jT hn);obtain⟨rs,rfl,hl,hh⟩:=Qm r hb;have at_:∀(i:Nat) (ks:ag),(ps.map Prod.fst)[i]?=some ks->∃e,ps[i]?=some e/\e.1=ks:=λi ks h=>by
   rw[aS]at h;exact a_.mp h
  refine⟨p,rs,ps.map Prod.fst,rfl,qa.of h1,by rw[aH,hl],λi j hi hj z=>(dj nd).mp z,λi r ks e1 e2=>?_,λl g hl' hc hs=>?_⟩
  ·obtain⟨e,g1,rfl⟩:=at_ i ks e2;exact(hh i r e e1 g1).1
  have av:AVs X.K ρ H ((mY ps).map λe=>.tup [.tup (e.1.map .int),e.2]) (((List.range (ps.map Prod.fst).length).map λi=>rs.getD (g i) 0).map V.ref):=by
   rw[<- Sb (d:=.non) nd hc hs,bq,bq];refine BH λi hi=>?_;have lt:=(hc i (bO _) (cA.mp hi)).2;rw[aH]at lt;have e1:rs[g i]?=some (rs.getD (g i) 0):=by rw[aJ,aG (by omega)];rfl
   have e2:ps[g i]?=some (ps.getD (g i) ([],.non)):=by rw[aJ,aG lt];rfl
   exact(hh _ _ _ e1 e2).2
  exact m8 R av .refl h l hl'
 | _=>exact h.elim
end
abbrev Df (K:au)(x:Str)(st:aE):Prop:=∃(f:ak) (fd:FuncData),PySem.W.nsIn K mainGlobals x=some (some (.ref f))/\Fun K x x st f fd
inductive En (P:aj) (w:ah) (K:au) (mg:Str->bd) (base:aq):Prop
 | mk (h:aq) (X:K.In h) (G:h.Ns mainGlobals mg)
section
variable {P:aj}{w:ah}{K:au}{mg:Str->bd}{base:aq}{x:Str}{st:aE}{ps:ar}{k:Nat}{F:ae->jE->R A}
def En.at(E:En P w K mg base){f:ak}(h:PySem.W.nsIn K mainGlobals x=some (some (.ref f))):mg x=some (.ref f):=by
 obtain⟨_,X,G⟩:=E;exact cX X G h
def Df.of{f:ak}{kV pm ct:af}(a:PySem.W.nsIn K mainGlobals x=some (some (.ref f)))(l:K.lookup f=some ⟨oc,od,.func (PySem.W.fnOf x x (uc st) (m_ st) (jL st) .none kV doc pm an cdv ct),osl⟩)(c:PySem.W.codeIn K cdv x=true)(k:PySem.W.keepIn K (.ref f)=true):Df K x st:=⟨f,_,a,Vf l c k⟩
meta abbrev Bi (x:Str)(st:aE)(ps:ar):Prop:=∀us:ba,us.length=ps.length->∀(kV doc pm:af) (an:Option ak) (cdv ct:af),bindArgs (PySem.W.fnOf x x (uc st) (m_ st) (jL st) .none kV doc pm an cdv ct) ⟨us,[]⟩=pure (ps.zip us)
def Df.get(d:Df K x st)(E:En P w K mg base)(b:Bi x st ps):∃f fd,Fun K x x st f fd/\mg x=some (.ref f)/\PySem.W.keepIn K (.ref f)=true/\Binds K fd ps []:=by
 obtain⟨f,fd,a,F⟩:=d;exact⟨f,fd,F,E.at a,F.kp,F.binds λkV doc pm an cdv ct us hl=>b us hl kV doc pm an cdv ct⟩
def Df.kA(d:Df K x st)(E:En P w K mg base)(h:∀{f fd},Fun K x x st f fd->FnOk P w K mg base t_ k f fd ps (uz K ps.length F))(b:Bi x st ps):su P w K mg base k x ps F:=by
 obtain⟨f,fd,a,c,e,g⟩:=d.get E b;exact⟨f,fd,h a,c,e,g⟩
def Df.kX(d:Df K x st)(E:En P w K mg base)(h:∀{f fd},Fun K x x st f fd->FnOk P w K mg base (zP P w) k f fd ps (HU K ps.length F))(b:Bi x st ps):zQ P w K mg base k x ps F:=by
 obtain⟨f,fd,a,c,e,g⟩:=d.get E b;exact⟨f,fd,h a,c,e,g⟩
def Df.rX(d:Df K x st)(E:En P w K mg base)(h:∀{f fd},Fun K x x st f fd->mg x=some (.ref f)->PySem.W.keepIn K (.ref f)=true->Binds K fd ps []->FnOk P w K mg base (zP P w) k f fd ps (HU K ps.length F))(b:Bi x st ps):zQ P w K mg base k x ps F:=by
 obtain⟨f,fd,a,c,e,g⟩:=d.get E b;exact⟨f,fd,h a c e g,c,e,g⟩
def Df.kH(d:Df K x st)(E:En P w K mg base)(h:∀{f fd},Fun K x x st f fd->FnOkH P w K mg base k f fd ps (uz K ps.length F))(b:Bi x st ps):Xo P w K mg base k x ps F:=by
 obtain⟨f,fd,a,c,e,g⟩:=d.get E b;exact⟨f,fd,h a,c,e,g⟩
end
section
variable {X:Cx}{pos p:Pos}{e1 e2 e3:aC}{x p1 p2 p3:Str}{k K0:Nat}{F:ae->jE->R A}{c1 c2 c3:Ex}
def PN(G:su X.prog X.w X.K X.mg X.base k x [p1] F)(hr:Room K0 X.A)(h1:AE X e1 c1)(hk:k<=K0:=by decide)(hg:Gl X x:=by rfl)(hdb:(x == ("__debug__" : Str))=false:=by decide)(s1:starEach [e1] X.env=(false,eval e1 X.env)::starEach [] X.env:=by rfl)(hp:(backTo pos (starEach [] X.env)).any (·.1)=false:=by rfl):AE X (.Call (.Name x p) [e1] [] pos) (eFn F (jy c1 jF)):=G9 G (hr.mono hk) (jA h1 jJ s1) (kj nZ) hg hdb s1 hp
def zR(G:su X.prog X.w X.K X.mg X.base k x [p1,p2] F)(hr:Room K0 X.A)(h1:AE X e1 c1)(h2:AE X e2 c2)(hk:k<=K0:=by decide)(hg:Gl X x:=by rfl)(hdb:(x == ("__debug__" : Str))=false:=by decide)(s1:starEach [e1,e2] X.env=(false,eval e1 X.env)::starEach [e2] X.env:=by rfl)(s2:starEach [e2] X.env=(false,eval e2 X.env)::starEach [] X.env:=by rfl)(hp:(backTo pos (starEach [e2] X.env)).any (·.1)=false:=by rfl):AE X (.Call (.Name x p) [e1,e2] [] pos) (eFn F (jy c1 (jy c2 jF))):=G9 G (hr.mono hk) (jA h1 (jA h2 jJ s2) s1) (kj (kj nZ)) hg hdb s1 hp
def Ob(G:su X.prog X.w X.K X.mg X.base k x [p1,p2,p3] F)(hr:Room K0 X.A)(h1:AE X e1 c1)(h2:AE X e2 c2)(h3:AE X e3 c3)(hk:k<=K0:=by decide)(hg:Gl X x:=by rfl)(hdb:(x == ("__debug__" : Str))=false:=by decide)(s1:starEach [e1,e2,e3] X.env=(false,eval e1 X.env)::starEach [e2,e3] X.env:=by rfl)(s2:starEach [e2,e3] X.env=(false,eval e2 X.env)::starEach [e3] X.env:=by rfl)(s3:starEach [e3] X.env=(false,eval e3 X.env)::starEach [] X.env:=by rfl)(hp:(backTo pos (starEach [e2,e3] X.env)).any (·.1)=false:=by rfl):AE X (.Call (.Name x p) [e1,e2,e3] [] pos) (eFn F (jy c1 (jy c2 (jy c3 jF)))):=G9 G (hr.mono hk) (jA h1 (jA h2 (jA h3 jJ s3) s2) s1) (kj (kj (kj nZ))) hg hdb s1 hp
def uE(G:zQ X.prog X.w X.K X.mg X.base k x [p1,p2] F)(hr:Room K0 X.A)(h1:AE X e1 c1)(h2:AE X e2 c2)(hk:k<=K0:=by decide)(hg:Gl X x:=by rfl)(hdb:(x == ("__debug__" : Str))=false:=by decide)(s1:starEach [e1,e2] X.env=(false,eval e1 X.env)::starEach [e2] X.env:=by rfl)(s2:starEach [e2] X.env=(false,eval e2 X.env)::starEach [] X.env:=by rfl)(hp:(backTo pos (starEach [e2] X.env)).any (·.1)=false:=by rfl):AE X (.Call (.Name x p) [e1,e2] [] pos) (lQ F (jy c1 (jy c2 jF))):=yF G (hr.mono hk) (jA h1 (jA h2 jJ s2) s1) (kj (kj nZ)) hg hdb s1 hp
def fx3(G:zQ X.prog X.w X.K X.mg X.base k x [p1,p2,p3] F)(hr:Room K0 X.A)(h1:AE X e1 c1)(h2:AE X e2 c2)(h3:AE X e3 c3)(hk:k<=K0:=by decide)(hg:Gl X x:=by rfl)(hdb:(x == ("__debug__" : Str))=false:=by decide)(s1:starEach [e1,e2,e3] X.env=(false,eval e1 X.env)::starEach [e2,e3] X.env:=by rfl)(s2:starEach [e2,e3] X.env=(false,eval e2 X.env)::starEach [e3] X.env:=by rfl)(s3:starEach [e3] X.env=(false,eval e3 X.env)::starEach [] X.env:=by rfl)(hp:(backTo pos (starEach [e2,e3] X.env)).any (·.1)=false:=by rfl):AE X (.Call (.Name x p) [e1,e2,e3] [] pos) (lQ F (jy c1 (jy c2 (jy c3 jF)))):=yF G (hr.mono hk) (jA h1 (jA h2 (jA h3 jJ s3) s2) s1) (kj (kj (kj nZ))) hg hdb s1 hp
def vD{N P:ar}{sc:Scope}(a:sc.kind=.function)(b:sc.isCoroutine=false)(c:sc.isGenerator=false)(h:N.Nodup/\N.take P.length=P/\(∀x∈P,sc.names.lookup x=some .local\/sc.names.lookup x=some .cell)/\∀y∈sc.names,y.2≠.free):FnScope N P sc:=⟨a,b,c,h.1,h.2.1,h.2.2.1,h.2.2.2⟩
end
end Am
namespace Bl
open L2
abbrev cnt:ag->Int->Int
 | [],_=>0
 | x::l,j=>(if j<=x then 1 else 0)+cnt l j
abbrev Below (xs ys:ag):Prop:=∀(i:Nat) (j:Int),cnt (xs.take i) j<=cnt (ys.take i) j
def take_snoc{l:ag}{i:Nat}(h:i<l.length):l.take (i+1)=l.take i++[l[i]]:=by
 rw[List.take_succ,aG h];rfl
def Jy{l:ag}{p:Nat}(h:p<l.length)(v:Int)(i:Nat)(j:Int) :
  cnt ((l.set p v).take i) j=cnt (l.take i) j+(if p<i then(if j<=v then 1 else 0)-(if j<=l[p]then 1 else 0)else 0):=by
 induction l generalizing p i with
 | nil=>cases h
 | cons x l ih=>
  cases i with
  | zero=>simp[cnt]
  | succ i=>
   cases p with
   | zero=>
    show(if j<=v then 1 else 0)+cnt (l.take i) j=(if j<=x then 1 else 0)+cnt (l.take i) j+_;rw[aK (Nat.succ_pos _)];show _=(if j<=x then 1 else 0)+cnt (l.take i) j+((if j<=v then 1 else 0)-(if j<=x then 1 else 0))
    lia
   | succ p=>
    show(if j<=x then 1 else 0)+cnt ((l.set p v).take i) j=(if j<=x then 1 else 0)+cnt (l.take i) j+_;have hp:p<l.length:=iy h;rw[ih hp];by_cases z:p<i
    ·rw[aK z,aK (Nat.succ_lt_succ z)];show _=(if j<=x then 1 else 0)+cnt (l.take i) j+((if j<=v then 1 else 0)-(if j<=l[p]then 1 else 0))
     lia
    ·rw[aI z,aI (λy=>z (iy y))]
     lia
def D_{l:ag}{p q:Nat}(hp:p<l.length)(hq:q<l.length)(hpq:p<q)(h:l[p]<l[q]):Below l ((l.set p l[q]).set q l[p]):=by
 intro i j;have hq':q<(l.set p l[q]).length:=by rw[cu];exact hq
 rw[Jy hq',Jy hp];have e:(l.set p l[q])[q]=l[q]:=by rw[List.getElem_set_ne (bE hpq)]
 rw[e]
 (repeat' split)<;>lia
abbrev pP (a b:ag):Prop:=a.length=b.length/\∀(p:Nat) (h:p<a.length),b[(a[p]-1).toNat]?=some ((p:Int)+1)
end Bl
namespace Am
open PySem L2 Bl
def X6{S:jE}{n:Nat}{x:A}{k:Nat}(h:jC S n=some [x])(hk:k<=16777216):Bw (.ref n) (.int k) S=.ok (.ref S.length) (S++[.lst (List.replicate k x)]):=by
 show opt (jC S n) _=_;rw[h,kJ];have e:(List.replicate k [x]).flatten=List.replicate k x:=by
  induction k with
  | zero=>rfl
  | succ k ih=>rw[c9,dS,ih ()];rfl
 rw[mw ⟨(),(),by rw[eF,c_];simpa using hk⟩,c_,e]
def OD{xs:ag}{n:Int}(h:xs.Perm (kP 1 (n+1)))(hn:0<=n):(xs.length:Int)=n:=by
 rw[h.length_eq,pX];lia
def Ey{xs:ag}{n x:Int}(h:xs.Perm (kP 1 (n+1)))(hx:x∈xs):1<=x/\x<=n:=by
 have:=pN.mp (h.mem_iff.mp hx)
 lia
end Am
namespace Tb
abbrev fg (r:ag)(x:Int):Nat:=r.findIdx λy=>decide (x<y)
abbrev put:List (ag)->Int->List (ag)
 | [],x=>[[x]]
 | r::rs,x=>if fg r x=r.length then(r++[x])::rs else r.set (fg r x) x::put rs (r.getD (fg r x) 0)
abbrev row:List (ag)->Int->Nat
 | [],_=>0
 | r::rs,x=>if fg r x=r.length then 0 else row rs (r.getD (fg r x) 0)+1
def Sq{r:ag}{x:Int}(h:fg r x=r.length):put (r::rs) x=(r++[x])::rs:=aK h
def Ww{r:ag}{x:Int}(h:fg r x≠r.length):put (r::rs) x=r.set (fg r x) x::put rs (r.getD (fg r x) 0):=aI h
def Io{r:ag}{x:Int}(h:fg r x=r.length):row (r::rs) x=0:=aK h
def Lv{r:ag}{x:Int}(h:fg r x≠r.length):row (r::rs) x=row rs (r.getD (fg r x) 0)+1:=aI h
theorem Mj:∀(T:List (ag)) (x:Int),row T x<=T.length
 | [],_=>aQ _
 | r::rs,x=>by
  by_cases h:fg r x=r.length
  ·rw[Io h];exact bO _
  ·rw[Lv h,bC];exact Nat.succ_le_succ (Mj rs _)
abbrev bump:am->Nat->am
 | [],_=>[1]
 | n::ns,0=>(n+1)::ns
 | n::ns,i+1=>n::bump ns i
theorem AZ:∀(T:List (ag)) (x:Int),(put T x).map List.length=bump (T.map List.length) (row T x)
 | [],_=>rfl
 | r::rs,x=>by
  by_cases h:fg r x=r.length
  ·rw[Sq h,Io h,bF,bF,aR];rfl
  ·rw[Ww h,Lv h,bF,bF,cu,AZ rs];rfl
theorem Ek:∀(ns:am) (i:Nat),i<=ns.length->(bump ns i).length=if i=ns.length then ns.length+1 else ns.length
 | [],i,h=>by
  have:i=0:=by simpa using h
  subst this;rfl
 | n::ns,0,_=>by rw[aI (by simp)];rfl
 | n::ns,i+1,h=>by
  have h':i<=ns.length:=Nat.le_of_succ_le_succ h;show(bump ns i).length+1=_;rw[Ek ns i h'];by_cases e:i=ns.length
  ·rw[aK e,aK (by rw[bC,e])];rfl
  ·rw[aI e,aI (by rw[bC];lia)];rfl
def CF(T:List (ag))(x:Int):(put T x).length=if row T x=T.length then T.length+1 else T.length:=by
 have:=dz List.length (AZ T x);rw[aH,Ek _ _ (by rw[aH];exact Mj T x),aH]at this;exact this
abbrev add:List (ag)->Nat->Int->List (ag)
 | [],_,k=>[[k]]
 | q::qs,0,k=>(q++[k])::qs
 | q::qs,i+1,k=>q::add qs i k
abbrev gs (r:ag)(x:Int):am:=(List.range r.length).filter λk=>decide (x<r.getD k 0)
end Tb
namespace Am
open PySem L2
abbrev Rows (S:jE):am->List (ag)->Prop
 | [],[]=>True
 | r::rs,x::T=>jC S r=some (x.map .int)/\Rows S rs T
 | _,_=>False
structure Tab (S:jE)(n:Nat)(rs:am)(T:List (ag)):Prop where
 top:jC S n=some (rs.map .ref)
 rows:Rows S rs T
 nd:(n::rs).Nodup
theorem CV{s:Src}{g:Tg}{e:Ex}{T:ae->Prop}(P:Nat->ae->jE->Prop)
  (step:∀i acc τ S,i<s.k->T τ->P i acc S->∃x τ1 S1 y S3,s.get i S=some x/\g x τ S=.ok τ1 S1/\T τ1/\e τ1 S1=.ok y S3/\P (i+1) (acc++[y]) S3) (hfin:∀acc S,P s.k acc S->s.fin S=true) :
  ∀k i acc τ S,k+i=s.k->T τ->P i acc S->∃ys S',lJ s g qb e k i τ S=.ok ys S'/\P s.k (acc++ys) S'
 | 0,i,acc,τ,S,hk,hT,hP=>by
  have:i=s.k:=()
  subst this;exact⟨[],S,by unfold lJ;rw[aK (hfin acc S hP)],by rw[bU];exact hP⟩
 | k+1,i,acc,τ,S,hk,hT,hP=>by
  obtain⟨x,τ1,S1,y,S3,hx,hg,hT1,he,hP3⟩:=step i acc τ S () hT hP;obtain⟨ys,S',h1,h2⟩:=CV P step hfin k (i+1) (acc++[y]) τ1 S3 () hT1 hP3;refine⟨y::ys,S',?_,by rw[cD]at h2;exact h2⟩;unfold lJ;rw[hx,kJ,hg,R.ki];show(e τ1 S1).p7 _=_;rw[he,R.ki,h1];rfl
def eq_nil{a:Nat}{xs:ae}(h:jC S a=some xs)(h':jC S b=some []):se S 12 (.ref a) (.ref b)=some xs.isEmpty:=by
 show(jC S a).bind (λxs=>(jC S b).bind λys=>rB (se S 11) xs ys)=_;rw[h,dM,h',dM]
 cases xs<;>rfl
def Cz{a:A}{k:Bool}(h:se S 12 a b=some k):sf false a b S=.ok (.bl k) S:=by unfold sf;rw[h];rfl
def CL{a:A}{k:Bool}(h:se S 12 a b=some k):sf true a b S=.ok (.bl (!k)) S:=by unfold sf;rw[h];rfl
def Dk{xs:ae}{n:Nat}{src:Ic}{t:Te}{e:Ex}{S:jE}(hs:src τ S=.ok (lq n xs.length) S)(hx:jC S n=some xs)(p:A->Bool)(f:A->A)
  (ht:∀x∈xs,t (x::l9 cap τ) S=.ok (p x) S) (he:∀x∈xs,p x=true->e (x::l9 cap τ) S=.ok (f x) S) (hl:xs.length<=16777216) :
  kZ (none::cap) src (kQ 0) t e τ S=.ok (.ref S.length) (S++[.lst ((xs.filter p).map f)]):=by
 have hm:∀i,i<xs.length->xs.getD i .unb∈xs:=λi hi=>by
  rw[aJ,aG hi];exact dI hi
 rw[AA hs (λi=>xs.getD i .unb) (λi=>p (xs.getD i .unb)) (λi=>f (xs.getD i .unb)) (λi hi=>by
  have hi:i<xs.length:=hi;show(jC S n).bind _=_;rw[hx,dM,aJ,aG hi];rfl) (by
   show(match jC S n with
    | some ys=>decide (ys.length<=xs.length)
    | none=>false)=true
   rw[hx];simp) (λi hi=>ht _ (hm i hi)) (λi hi=>he _ (hm i hi)) hl]
 have:=rz xs p f .unb;show R.ok _ (S++[O.lst (((List.range xs.length).filter _).map _)])=_;rw[this]
def getD_at{r:ag}{k:Nat}(h:k<r.length):r[k]?=some (r.getD k 0):=by rw[aJ,aG h];rfl
end Am
namespace Wd
open Bl L2
abbrev ex (l:ag)(k:Nat):ag:=(l.set (k-1) (l.getD k 0)).set k (l.getD (k-1) 0)
abbrev led (l:ag)(w:am):ag:=w.foldl ex l
def mP{l:ag}{k:Nat}(h:k<l.length):l.getD k 0=l[k]:=by rw[aJ,aG h];rfl
def CZ{l:ag}{k:Nat}(h0:1<=k)(h:k<l.length):ex l k=(l.set (k-1) l[k]).set k (l[k-1]'()):=by
 unfold ex;rw[mP h,mP (show k-1<l.length by lia)]
def mW(l:ag)(k:Nat):(ex l k).length=l.length:=by unfold ex;rw[cu,cu]
theorem JI:∀(w:am) (l:ag),(led l w).length=l.length
 | [],_=>rfl
 | k::w,l=>by show(led (ex l k) w).length=_;rw[JI w,mW]
def BB{l:ag}{k:Nat}(h0:1<=k)(h:k<l.length):(ex l k).Perm l:=by
 rw[CZ h0 h];exact List.set_set_perm () h
def xX(a b:am)(l:ag):led l (a++b)=led (led l a) b:=dX
def up{l:ag}{k:Nat}(h0:1<=k)(h:k<l.length)(hr:l[k-1]'()<l[k]):Below l (ex l k):=by
 rw[CZ h0 h];exact D_ () h () hr
abbrev ku:ag->am->Prop
 | _,[]=>True
 | l,k::w=>1<=k/\k<l.length/\l.getD (k-1) 0<l.getD k 0/\ku (ex l k) w
theorem ku.snoc:∀{w:am}{l:ag}{k:Nat},ku l w->1<=k->k<l.length->(led l w).getD (k-1) 0<(led l w).getD k 0->ku l (w++[k])
 | [],l,k,_,h0,h1,h2=>⟨h0,h1,h2,trivial⟩
 | m::w,l,k,h,h0,h1,h2=>⟨h.1,h.2.1,h.2.2.1,ku.snoc h.2.2.2 h0 (by rw[mW];exact h1) h2⟩
theorem ku.valid:∀{w:am}{l:ag},ku l w->∀k∈w,1<=k/\k<l.length
 | [],_,_,k,hk=>by cases hk
 | m::w,l,h,k,hk=>by
  rcases bD.mp hk with z|z
  ·rw[z];exact⟨h.1,h.2.1⟩
  ·have:=ku.valid h.2.2.2 k z;rw[mW]at this;exact this
abbrev sw (k:Nat)(x:Int):Int:=if x=k then(k:Int)+1 else if x=(k:Int)+1 then k else x
def ex_map(f:Int->Int){l:ag}{k:Nat}(h0:1<=k)(h:k<l.length):ex (l.map f) k=(ex l k).map f:=by
 rw[CZ h0 h,CZ h0 (by rw[aH];exact h),iS,iS,c5,c5]
theorem IM(f:Int->Int):∀{w:am}{l:ag},(∀k∈w,1<=k/\k<l.length)->led (l.map f) w=(led l w).map f
 | [],_,_=>rfl
 | k::w,l,h=>by
  have hk:=h k (aM ..);show led (ex (l.map f) k) w=(led (ex l k) w).map f;rw[ex_map f hk.1 hk.2,IM f λm hm=>by rw[mW];exact h m (aN _ hm)]
def qh{n p:Nat}(h:p<n):(kP 1 ((n:Int)+1))[p]?=some ((p:Int)+1):=by
 unfold kP;rw[aS,eg ()];simp;lia
def jV(n:Nat):(kP 1 ((n:Int)+1)).length=n:=by rw[pX];lia
def oV{l:ag}{k:Nat}(h0:1<=k)(h:k<l.length)(p:Nat):(ex l k)[p]?=if p=k then l[k-1]? else if p=k-1 then l[k]? else l[p]?:=by
 rw[CZ h0 h,List.getElem?_set];by_cases h1:k=p
 ·rw[aK h1,aK h1.symm,aK (by rw[cu];lia),aG]
 ·rw[aI h1,aI (λz=>h1 z.symm),List.getElem?_set];by_cases h2:k-1=p
  ·rw[aK h2,aK h2.symm,aK (),aG]
  ·rw[aI h2,aI (λz=>h2 z.symm)]
def O5{n k:Nat}(h0:1<=k)(h:k<n):ex (kP 1 ((n:Int)+1)) k=(kP 1 ((n:Int)+1)).map (sw k):=by
 apply dc;intro p;rw[oV h0 (by rw[jV];exact h),aS];by_cases hp:p<n
 ·rw[qh hp,qh h,qh (show k-1<n by lia)];show _=some (sw k ((p:Int)+1));unfold sw;by_cases h1:p=k
  ·rw[aK h1,aI (),aK ()];congr 1;lia
  ·rw[aI h1];by_cases h2:p=k-1
   ·rw[aK h2,aK ()]
   ·rw[aI h2,aI (),aI ()]
 ·have e:(kP 1 ((n:Int)+1))[p]?=none:=cF (by rw[jV];lia);rw[aI (),aI (),e];rfl
def A4{A B:ag}{k:Nat}(h0:1<=k)(h:k<A.length)(hb:pP A B):pP (ex A k) (B.map (sw k)):=by
 refine⟨by rw[mW,aH];exact hb.1,λp hp=>?_⟩;rw[mW]at hp;have hg:(ex A k)[p]'(by rw[mW];exact hp)=if p=k then A[k-1]'()else if p=k-1 then A[k]else A[p]:=by
  have:=oV h0 h p;rw[aG (by rw[mW];exact hp)]at this;by_cases h1:p=k
  ·rw[aK h1,aG (show k-1<A.length by lia)]at this;rw[aK h1];exact aW this
  ·rw[aI h1]at this;rw[aI h1];by_cases h2:p=k-1
   ·rw[aK h2,aG h]at this;rw[aK h2];exact aW this
   ·rw[aI h2,aG hp]at this;rw[aI h2];exact aW this
 rw[hg,aS];by_cases h1:p=k
 ·rw[aK h1,hb.2 (k-1) ()];show some (sw k _)=_;unfold sw;rw[aK ()];congr 1;lia
 ·rw[aI h1];by_cases h2:p=k-1
  ·rw[aK h2,hb.2 k h];show some (sw k _)=_;unfold sw;rw[aI (),aK ()];congr 1;lia
  ·rw[aI h2,hb.2 p hp];show some (sw k _)=_;unfold sw;rw[aI (),aI ()]
theorem yI{n:Nat}:∀(w:am),(∀k∈w,1<=k/\k<n)->pP (led (kP 1 ((n:Int)+1)) w.reverse) (led (kP 1 ((n:Int)+1)) w)
 | [],_=>⟨rfl,λp hp=>by
  have hp:p<n:=by rw[show([]:am).reverse=[]from rfl]at hp;have:p<(kP 1 ((n:Int)+1)).length:=hp;rw[jV]at this;exact this
  have e:(kP 1 ((n:Int)+1))[p]'(by rw[jV];exact hp)=(p:Int)+1:=by
   have:=qh hp;rw[aG (by rw[jV];exact hp)]at this;exact aW this
  show(kP 1 ((n:Int)+1))[(((kP 1 ((n:Int)+1))[p]'(by rw[jV];exact hp))-1).toNat]?=_;rw[e,show((p:Int)+1-1).toNat=p by lia];exact qh hp⟩
 | k::w,h=>by
  have hk:=h k (aM ..);have hw:=λm hm=>h m (aN k hm);have ih:=yI w hw;rw[i8,xX];show pP (ex (led (kP 1 ((n:Int)+1)) w.reverse) k) (led (ex (kP 1 ((n:Int)+1)) k) w);rw[O5 hk.1 hk.2,IM (sw k) (λm hm=>by rw[jV];exact hw m hm)];exact A4 hk.1 (by rw[JI,jV];exact hk.2) ih
end Wd
namespace Iv
open L2 Bl
abbrev inv:ag->Nat
 | []=>0
 | x::l=>l.countP (λy=>decide (y<x))+inv l
abbrev nL (a b:ag):Nat:=(a.map λx=>b.countP λy=>decide (y<x)).sum
def uH(x:Int)(a b:ag):nL (x::a) b=b.countP (λy=>decide (y<x))+nL a b:=rfl
theorem lZ:∀(a b:ag),inv (a++b)=inv a+inv b+nL a b
 | [],b=>by show inv b=0+inv b+0;lia
 | x::a,b=>by
  show(a++b).countP _+inv (a++b)=(a.countP _+inv a)+inv b+nL (x::a) b;rw[List.countP_append,lZ a b,uH];lia
theorem uX:∀{a b:am},a.Perm b->a.sum=b.sum
 | _,_,.nil=>rfl
 | _,_,.cons x h=>by rw[gE,gE,uX h]
 | _,_,.swap x y l=>by rw[gE,gE,gE,gE];lia
 | _,_,.trans h k=>(uX h).trans (uX k)
def Qy{a:ag}(b:ag)(h:a.Perm a'):nL a b=nL a' b:=uX (h.map _)
def Rr(a:ag){b:ag}(h:b.Perm b'):nL a b=nL a b':=by
 unfold nL;congr 1;refine cK λx _=>h.countP_eq _
def B_{M:ag}{x y:Int}(h:∀m∈M,m<x\/y<m)(hxy:x<y):M.countP (λm=>decide (m<x))=M.countP (λm=>decide (m<y)):=by
 refine List.countP_congr λm hm=>?_;rw[decide_eq_true_iff,decide_eq_true_iff]
 rcases h m hm with z|z<;>omega
theorem xx:∀{M:ag}{x y:Int},(∀m∈M,m<x\/y<m)->x<y->nL M [x]=nL M [y]
 | [],_,_,_,_=>rfl
 | m::M,x,y,h,hxy=>by
  rw[uH,uH,xx (λm' hm=>h m' (aN _ hm)) hxy];congr 1;have:=h m (aM ..);dsimp[jf,List.countP_nil];by_cases c:x<m
  ·rw[bg c,bg (show y<m by omega)]
  ·rw[bh c,bh (show ¬y<m by omega)]
def mid{M:ag}{x y:Int}(h:∀m∈M,m<x\/y<m)(hxy:x<y):inv ([y]++M++[x])=inv ([x]++M++[y])+1:=by
 rw[lZ,lZ,lZ ([x]++M),lZ [x]];have e1:nL [y] M=nL [x] M:=by
  show M.countP _+0=M.countP _+0;rw[B_ h hxy]
 have e2:nL ([y]++M) [x]=1+nL M [x]:=by
  show[x].countP _+nL M [x]=_;rw[jf,bg hxy];rfl
 have e3:nL ([x]++M) [y]=nL M [y]:=by
  show[y].countP _+nL M [y]=_;rw[jf,bh (by lia:¬y<x)];simp
 rw[e1,e2,e3,xx h hxy]
 skip
 lia
def O0(M:ag)(x y:Int):([y]++M++[x]).Perm ([x]++M++[y]):=by
 refine(List.perm_append_comm (l₁:=[y]++M) (l₂:=[x])).trans ?_
 skip
 exact .cons x (List.perm_append_comm (l₁:=[y]) (l₂:=M))
def step{P M R:ag}{x y:Int}(h:∀m∈M,m<x\/y<m)(hxy:x<y):inv (P++([y]++M++[x])++R)=inv (P++([x]++M++[y])++R)+1:=by
 have p:=O0 M x y;rw[lZ,lZ P,lZ (P++([x]++M++[y])),lZ P,mid h hxy,Rr P p,Qy R (p.append_left P)]
 lia
theorem OM:∀(l:ag),inv l<=l.length * l.length
 | []=>aQ _
 | x::l=>by
  show l.countP _+inv l<=(l.length+1) * (l.length+1);have h1:=List.countP_le_length (p:=λy=>decide (y<x)) (l:=l);have h2:=OM l;rw[Nat.add_mul,Nat.mul_add]
  lia
abbrev sw (a:ag)(i j:Nat):ag:=(a.set i (a.getD j 0)).set j (a.getD i 0)
def Gz(a:ag)(i j:Nat):(sw a i j).length=a.length:=by unfold sw;rw[cu,cu]
def split{a:ag}(hij:i<j)(hj:j<a.length):∃P M R:ag,a=P++([a.getD i 0]++M++[a.getD j 0])++R/\P=a.take i/\(∀m∈M,∃k,i<k/\k<j/\a[k]?=some m)/\sw a i j=P++([a.getD j 0]++M++[a.getD i 0])++R:=by
 have gi:a.getD i 0=a[i]:=by rw[aJ,aG ()];rfl
 have gj:a.getD j 0=a[j]:=by rw[aJ,aG hj];rfl
 obtain⟨M,hM⟩:∃M,M=(a.drop (i+1)).take (j-i-1):=⟨_,rfl⟩;have lM:M.length=j-i-1:=by rw[hM,bM,dm];lia
 have ea:a=a.take i++([a.getD i 0]++M++[a.getD j 0])++a.drop (j+1):=by
  have h1:a.drop i=a[i]::a.drop (i+1):=c8 ();have h2:a.drop (i+1)=M++a.drop j:=by
   rw[hM];have:=iF (j-i-1) (a.drop (i+1));rw[List.drop_drop,show i+1+(j-i-1)=j by lia]at this;exact this.symm
  have h3:a.drop j=a[j]::a.drop (j+1):=c8 hj
  conv=>lhs;rw[<- iF i a,h1,h2,h3]
  rw[gi,gj];simp
 refine⟨a.take i,M,a.drop (j+1),ea,rfl,λm hm=>?_,?_⟩
 ·rw[hM]at hm;obtain⟨k,hk⟩:=eZ hm;have hlt:k<j-i-1:=by
   have:=(aL.mp hk).1;rw[bM]at this;lia
  rw[fm hlt,gO]at hk;exact⟨i+1+k,(),(),hk⟩
 ·have key:∀(P R:ag) (x y x' y':Int),P.length=i->((P++([x]++M++[y])++R).set i y').set j x'=P++([y']++M++[x'])++R:=λP R x y x' y' lP=>by
   rw[cD,f9 _ _ (),lP,jn];show(P++(y'::((M++[y])++R))).set j x'=_;rw[f9 _ _ (),lP,show j-i=(j-i-1)+1 by lia,List.set_cons_succ,cD,f9 _ _ (),lM,jn];simp
  have:=key (a.take i) (a.drop (j+1)) (a.getD i 0) (a.getD j 0) (a.getD i 0) (a.getD j 0) (by rw[bM];lia);rw[<- ea]at this;exact this
end Iv
namespace Fw
open PySem L2 Bl
open Wd (ex led)
meta abbrev rg (n:Nat):ag:=kP 1 ((n:Int)+1)
def xE{l:ag}{k:Nat}(h0:1<=k)(h:k<l.length):ex (ex l k) k=l:=by
 apply dc;intro p;have h':k<(ex l k).length:=by rw[Wd.mW];exact h
 rw[Wd.oV h0 h',Wd.oV h0 h,Wd.oV h0 h,Wd.oV h0 h];by_cases c3:p=k
 ·rw[aK c3,aI (),aK rfl,c3]
 ·rw[aI c3];by_cases c2:p=k-1
  ·rw[aK c2,aK rfl,c2]
  ·rw[aI c2,aI c3,aI c2]
def YR{l:ag}{k:Nat}(h0:1<=k)(h:k<l.length):(ex l k).getD k 0=l.getD (k-1) 0:=by
 rw[aJ,Wd.oV h0 h,aK rfl,aJ]
def Y0{l:ag}{k:Nat}(h0:1<=k)(h:k<l.length):(ex l k).getD (k-1) 0=l.getD k 0:=by
 rw[aJ,Wd.oV h0 h,aI (),aK rfl,aJ]
def OA{l:ag}{k:Nat}(h0:1<=k)(h:k<l.length)(hr:l.getD (k-1) 0<l.getD k 0):Iv.inv (ex l k)=Iv.inv l+1:=by
 obtain⟨P,M,R,e,_,hM,es⟩:=Iv.split (a:=l) (i:=k-1) (j:=k) () h;have:=Iv.step (P:=P) (M:=M) (R:=R) (x:=l.getD (k-1) 0) (y:=l.getD k 0) (λm hm=>by obtain⟨_,_,_,_⟩:=hM m hm;lia) hr;rw[<- es,<- e]at this;exact this
def sA{l:ag}{k:Nat}(h0:1<=k)(h:k<l.length)(hr:l.getD k 0<l.getD (k-1) 0):Iv.inv l=Iv.inv (ex l k)+1:=by
 have:=OA (l:=ex l k) h0 (by rw[Wd.mW];exact h) (by rw[YR h0 h,Y0 h0 h];exact hr);rw[xE h0 h]at this;exact this
abbrev Va (n:Nat)(w:am):Prop:=∀k∈w,1<=k/\k<n
def Va.tail{n k:Nat}{w:am}(h:Va n (k::w)):Va n w:=λj hj=>h j (aN _ hj)
def Va.head{n k:Nat}{w:am}(h:Va n (k::w)):1<=k/\k<n:=h k (aM ..)
theorem yR:∀{w:am}{l:ag},Va l.length w->led (led l w) w.reverse=l
 | [],l,_=>rfl
 | k::w,l,h=>by
  rw[i8,Wd.xX];show led (led (led (ex l k) w) w.reverse) [k]=l;rw[yR (w:=w) (l:=ex l k) (by rw[Wd.mW];exact h.tail)];exact xE h.head.1 h.head.2
theorem Fl:∀{l:ag},l.Pairwise (·<=·)->Iv.inv l=0
 | [],_=>rfl
 | x::l,h=>by
  show l.countP (λy=>decide (y<x))+Iv.inv l=0;rw[Fl (bR.mp h).2,List.countP_eq_zero.mpr λa ha z=>by have:=bL z;have:=(bR.mp h).1 a ha;lia]
def W0(n:Nat):Iv.inv (rg n)=0:=Fl (GU _ _)
abbrev Fj (l:ag)(k:Nat):Prop:=1<=k/\k<l.length/\l.getD k 0<l.getD (k-1) 0
def UO{l:ag}(h:∀k,¬Fj l k):l.Pairwise (·<=·):=by
 have key:∀d i,i+d<l.length->l.getD i 0<=l.getD (i+d) 0:=by
  intro d
  induction d with
  | zero=>intro i _;exact Int.le_refl _
  | succ d ih=>
   intro i hi;have h1:=ih i ();have h2:¬l.getD (i+d+1) 0<l.getD (i+d) 0:=λz=>h (i+d+1) ⟨(),hi,z⟩;rw[<- iK];lia
 rw[c7];intro i j hi hj hij;have:=key (j-i) i ();rw[show i+(j-i)=j by lia,Wd.mP hi,Wd.mP hj]at this;exact this
def Og{l:ag}{n:Nat}(p:l.Perm (rg n))(h:∀k,¬Fj l k):l=rg n:=
 dO (λx y _ _ h1 h2=>Int.le_antisymm h1 h2) (UO h) (GU _ _) p
def IY{l:ag}(h:0<Iv.inv l):∃k,Fj l k:=by
 refine Classical.byContradiction λz=>?_;rw[Fl (UO λk hk=>z ⟨k,hk⟩)]at h;exact absurd h (eE _)
abbrev Dn:ag->am->Prop
 | l,[]=>∀k,¬Fj l k
 | l,k::ks=>(Fj l k/\∀j,Fj l j->k<=j)/\Dn (ex l k) ks
def qe{l:ag}{n k:Nat}(p:l.Perm (rg n))(h0:1<=k)(h:k<l.length):(ex l k).Perm (rg n):=(Wd.BB h0 h).trans p
def Dn.va:∀{ks:am}{l:ag},Dn l ks->Va l.length ks
 | [],l,_=>λk hk=>absurd hk (by simp)
 | k::ks,l,h=>λj hj=>by
  rcases bD.mp hj with rfl|z
  ·exact⟨h.1.1.1,h.1.1.2.1⟩
  ·have:=h.2.va j z
   rwa [Wd.mW]at this
theorem Dn.led:∀{ks:am}{l:ag}{n:Nat},Dn l ks->l.Perm (rg n)->led l ks=rg n
 | [],l,n,h,p=>Og p h
 | k::ks,l,n,h,p=>Dn.led (ks:=ks) h.2 (qe p h.1.1.1 h.1.1.2.1)
theorem UC:∀(m:Nat) (l:ag),Iv.inv l<=m->∃ks,Dn l ks
 | 0,l,h=>⟨[],λk hk=>by have:=sA hk.1 hk.2.1 hk.2.2;lia⟩
 | m+1,l,h=>by
  by_cases c:∃k,Fj l k
  ·obtain⟨k,hk,hmin⟩:∃k,Fj l k/\∀j,Fj l j->k<=j:=by
    obtain⟨k,hk⟩:=c
    induction k using Nat.strongRecOn with
    | ind k ih=>
     by_cases z:∃j,Fj l j/\j<k
     ·obtain⟨j,hj,hlt⟩:=z;exact ih j hlt hj
     ·exact⟨k,hk,λj hj=>iI λy=>z ⟨j,hj,y⟩⟩
   have:=sA hk.1 hk.2.1 hk.2.2;obtain⟨ks,hks⟩:=UC m (ex l k) ();exact⟨k::ks,⟨hk,hmin⟩,hks⟩
  ·exact⟨[],λk hk=>c ⟨k,hk⟩⟩
def JU{a c:ag}{n:Nat}(pa:a.Perm (rg n))(h1:pP a b)(h2:pP b c):a=c:=by
 have l1:=h1.1;have l2:=h2.1;refine List.ext_getElem () λq hq hq'=>?_;have e1:=h1.2 q hq;have hm:=(pN.mp (pa.mem_iff.mp (dI hq)));obtain⟨hb,eb⟩:=aL.mp e1;have e2:=h2.2 _ hb;rw[eb,show((q:Int)+1-1).toNat=q by lia,aG hq']at e2;have:=aW e2
 lia
structure Two (n:Nat)(o u:ag):Prop where
 po:o.Perm (rg n)
 pu:u.Perm (rg n)
 ou:pP o u
def Two.lu{n:Nat}{u:ag}(t:Two n o u):u.length=n:=by rw[t.pu.length_eq,Wd.jV]
def Two.lo{n:Nat}{o:ag}(t:Two n o u):o.length=n:=by rw[t.po.length_eq,Wd.jV]
def Two.led{n:Nat}(t:Two n o u)(h:Dn u ks):Wd.led (rg n) ks=o:=by
 have v:Va n ks:=by have:=h.va;rwa [t.lu]at this
 have e:=h.led t.pu;have e2:u=Wd.led (rg n) ks.reverse:=by rw[<- e,yR (by rw[t.lu];exact v)]
 have b:=Wd.yI ks v;rw[<- show u=Wd.led (kP 1 ((n:Int)+1)) ks.reverse from e2]at b;exact(JU t.po t.ou b).symm
def Two.uo{n:Nat}(t:Two n o u):pP u o:=by
 obtain⟨ks,h⟩:=UC _ u (aQ _);have v:Va n ks:=by have:=h.va;rwa [t.lu]at this
 have e:=h.led t.pu;have e2:u=Wd.led (rg n) ks.reverse:=by rw[<- e,yR (by rw[t.lu];exact v)]
 have b:=Wd.yI ks v;rw[<- show u=Wd.led (kP 1 ((n:Int)+1)) ks.reverse from e2,show Wd.led (kP 1 ((n:Int)+1)) ks=o from t.led h]at b;exact b
def Two.flip{n:Nat}(t:Two n o u):Two n u o:=⟨t.pu,t.po,t.uo⟩
def Two.step{n k:Nat}{o:ag}(t:Two n o u)(h0:1<=k)(h:k<n):Two n (o.map (Wd.sw k)) (ex u k):=by
 have lu:=t.lu;have b:=Wd.A4 h0 () t.uo;have p1:=qe t.pu h0 ();have p2:(o.map (Wd.sw k)).Perm (rg n):=(t.po.map _).trans (by rw[<- Wd.O5 h0 h];exact Wd.BB h0 (by rw[Wd.jV];exact h));exact(Two.mk p1 p2 b).flip
end Fw
namespace Po
open Am
meta abbrev Pl:=List (Int×Int)
abbrev val (d:Pl)(k:Int):Int:=((d.find? λp=>decide (p.1=k)).map (·.2)).getD 0
abbrev has (d:Pl)(k:Int):Bool:=d.any λp=>decide (p.1=k)
abbrev put (d:Pl)(k v:Int):Pl:=if has d k=true then d.map (λp=>if p.1=k then(p.1,v)else p)else d++[(k,v)]
abbrev acc (d:Pl)(k v:Int):Pl:=put d k (val d k+v)
abbrev cf:Pl->Int->Int
 | [],_=>0
 | p::l,k=>(if p.1=k then p.2 else 0)+cf l k
def ow{p:Int×Int}{k:Int}:val (p::d) k=if p.1=k then p.2 else val d k:=by
 unfold val;rw[cN];by_cases h:p.1=k
 ·rw[bg h,aK h];rfl
 ·rw[bh h,aI h]
def yM{p:Int×Int}{k:Int}:has (p::d) k=(decide (p.1=k) || has d k):=rfl
def vH{d:Pl}{k:Int}:has d k=true ↔ k∈d.map Prod.fst:=by
 unfold has;rw[gr,bA];constructor
 ·rintro⟨p,h1,h2⟩;exact⟨p,h1,bL h2⟩
 ·rintro⟨p,h1,h2⟩;exact⟨p,h1,bg h2⟩
def MK{k:Int}(h:has d k=false):val d k=0:=by
 induction d with
 | nil=>rfl
 | cons p d ih=>
  rw[yM,iM]at h;rw[ow,aI (di h.1),ih h.2]
def R9{k v j:Int}(h:has d k=false):val (d++[(k,v)]) j=if j=k then v else val d j:=by
 induction d with
 | nil=>
  show val [(k,v)] j=_;rw[ow];by_cases c:k=j
  ·rw[aK c,aK c.symm]
  ·rw[aI c,aI (λz=>c z.symm)]
 | cons p d ih=>
  rw[yM,iM]at h;have:=di h.1;rw[List.cons_append,ow,ow,ih h.2];by_cases c:p.1=j
  ·rw[aK c,aK c,aI (λz=>this (c.trans z))]
  ·rw[aI c,aI c]
def SG{d:Pl}{k v j:Int}:val (d.map λp=>if p.1=k then(p.1,v)else p) j=if j=k/\has d k=true then v else val d j:=by
 induction d with
 | nil=>
  rw[aI (λz=>by cases z.2)];rfl
 | cons p d ih=>
  rw[bF,ow,ow,ih,yM];by_cases c:p.1=k
  ·rw[aK c,bg c,Bool.true_or];by_cases e:j=k
   ·rw[aK (show p.1=j by lia),aK ⟨e,rfl⟩]
   ·rw[aI (show ¬p.1=j by lia),aI (λz=>e z.1),aI (λz=>e z.1),aI (show ¬p.1=j by lia)]
  ·rw[aI c,bh c,fZ];by_cases e:p.1=j
   ·rw[aK e,aK e,aI (λz=>c (e.trans z.1))]
   ·rw[aI e,aI e]
def Rj{k v j:Int}:val (put d k v) j=if j=k then v else val d j:=by
 unfold put
 cases h:has d k with
 | true=>
  rw[aK rfl,SG,h];by_cases c:j=k
  ·rw[aK ⟨c,rfl⟩,aK c]
  ·rw[aI (λz=>c z.1),aI c]
 | false=>rw[aI (by simp),R9 h]
def QI{k v j:Int}:val (acc d k v) j=val d j+if k=j then v else 0:=by
 unfold acc;rw[Rj];by_cases c:j=k
 ·subst c;rw[aK rfl,aK rfl]
 ·rw[aI c,aI (λz=>c z.symm),c6]
def Nb{d:Pl}{k v:Int}:(put d k v).map Prod.fst=if has d k=true then d.map Prod.fst else d.map Prod.fst++[k]:=by
 unfold put;split
 ·rw[bq];apply cK;intro p _;show(if p.1=k then(p.1,v)else p).1=p.1;split<;>rfl
 ·rw[bX];rfl
def VE{d:Pl}{k v:Int}(h:(d.map Prod.fst).Nodup):((put d k v).map Prod.fst).Nodup:=by
 rw[Nb];split
 ·exact h
 ·rename_i c;rw[dW];refine⟨h,cj _ _,λa ha b hb z=>c ?_⟩;rw[aV]at hb;rw[vH,<- hb,<- z];exact ha
def SE{d:Pl}{k v:Int}:(put d k v).length<=d.length+1:=by
 unfold put;split
 ·rw[aH];lia
 ·rw[aR];exact aQ _
abbrev Bd (c:Nat)(d:Pl):Prop:=∀p∈d,p.2.natAbs<=c
theorem Bd.val{c:Nat}(h:Bd c d)(k:Int):(val d k).natAbs<=c:=by
 induction d with
 | nil=>exact bO _
 | cons p d ih=>
  rw[ow];split
  ·exact h p (aM ..)
  ·exact ih λq hq=>h q (aN _ hq)
abbrev p_ (d ps:Pl):Pl:=ps.foldl (λd p=>acc d p.1 p.2) d
def LG(d:Pl):p_ d []=d:=rfl
def y_(d ps qs:Pl):p_ d (ps++qs)=p_ (p_ d ps) qs:=by unfold p_;rw[dX]
def vL(ps:Pl):∀(d:Pl) (k:Int),val (p_ d ps) k=val d k+cf ps k:=by
 induction ps with
 | nil=>intro d k;rw[LG];show _=_+0;rw[c6]
 | cons p ps ih=>
  intro d k;show val (p_ (acc d p.1 p.2) ps) k=_;rw[ih,QI];show _=_+(_+_);rw[f6]
def tP(ps:Pl):∀{d:Pl},(d.map Prod.fst).Nodup->((p_ d ps).map Prod.fst).Nodup:=by
 induction ps with
 | nil=>intro d h;exact h
 | cons p ps ih=>intro d h;exact ih (VE h)
def pT(ps:Pl):∀(d:Pl),(p_ d ps).length<=d.length+ps.length:=by
 induction ps with
 | nil=>intro d;exact aQ _
 | cons p ps ih=>
  intro d;have h1:=ih (acc d p.1 p.2);have h2:(acc d p.1 p.2).length<=d.length+1:=SE;show(p_ (acc d p.1 p.2) ps).length<=_;rw[bC]
  lia
structure Ok (l:Pl):Prop where
 up:l.Pairwise λp q=>p.1<q.1
 nz:∀p∈l,p.2≠0
def Ok.tail{p:Int×Int}{l:Pl}(h:Ok (p::l)):Ok l:=⟨(bR.mp h.up).2,λq hq=>h.nz q (aN _ hq)⟩
def CQ{l:Pl}{k:Int}(h:∀p∈l,k<p.1):cf l k=0:=by
 induction l with
 | nil=>rfl
 | cons p l ih=>
  show(if p.1=k then p.2 else 0)+cf l k=0;have:=h p (aM ..);rw[aI (),ih λq hq=>h q (aN _ hq)];rfl
def Ok.head{p:Int×Int}{l:Pl}(h:Ok (p::l)):cf (p::l) p.1=p.2:=by
 show(if p.1=p.1 then p.2 else 0)+cf l p.1=p.2;rw[aK rfl,CQ (bR.mp h.up).1,c6]
def Ok.low{p:Int×Int}{l:Pl}(h:Ok (p::l)){k:Int}(hk:k<p.1):cf (p::l) k=0:=CQ λq hq=>by
 rcases bD.mp hq with rfl|z
 ·exact hk
 ·have:=(bR.mp h.up).1 q z;lia
theorem uniq:∀{l m:Pl},Ok l->Ok m->(∀k,cf l k=cf m k)->l=m
 | [],[],_,_,_=>rfl
 | [],q::m,_,h,e=>by
  have:=e q.1;rw[h.head]at this;exact absurd this.symm (h.nz q (aM ..))
 | p::l,[],h,_,e=>by
  have:=e p.1;rw[h.head]at this;exact absurd this (h.nz p (aM ..))
 | p::l,q::m,h,h',e=>by
  have n1:=h.nz p (aM ..);have n2:=h'.nz q (aM ..);have e1:p.1=q.1:=by
   rcases Int.lt_trichotomy p.1 q.1 with c|c|c
   ·have:=e p.1;rw[h.head,h'.low c]at this;exact absurd this n1
   ·exact c
   ·have:=e q.1;rw[h'.head,h.low c]at this;exact absurd this.symm n2
  have e2:p.2=q.2:=by
   have:=e p.1;rw[h.head,e1,h'.head]at this;exact this
  have e3:p=q:=Prod.ext e1 e2;subst e3;rw[uniq h.tail h'.tail λk=>by
   have:(if p.1=k then p.2 else 0)+cf l k=(if p.1=k then p.2 else 0)+cf m k:=e k
   lia]
abbrev IE (d:Pl):Pl:=((sortI (d.map Prod.fst)).filter λk=>val d k != 0).map λk=>(k,val d k)
def RM{ks:ag}(h:ks.Nodup):(sortI ks).Pairwise (· < ·):=by
 have p:=yK ks;have n:(sortI ks).Nodup:=(sortI_perm ks).nodup_iff.mpr h;have:(sortI ks).Pairwise λa b=>a<=b/\a≠b:=p.and n;exact this.imp λ⟨a,b⟩=>()
def Cj{d:Pl}(h:(d.map Prod.fst).Nodup):Ok (IE d):=by
 refine⟨?_,λp hp=>?_⟩
 ·unfold IE;rw[cH];exact(RM h).filter _
 ·obtain⟨k,hk,rfl⟩:=bA.mp hp;have:=(cQ.mp hk).2;simpa using this
theorem P4{k:Int}:∀{ks:ag},ks.Nodup->cf (ks.map λj=>(j,val d j)) k=if k∈ks then val d k else 0
 | [],_=>by rw[aI (by simp)];rfl
 | j::ks,h=>by
  obtain⟨h1,h2⟩:=cM.mp h;show(if j=k then val d j else 0)+cf (ks.map λj=>(j,val d j)) k=_;rw[P4 h2];by_cases c:j=k
  ·subst c;rw[aK rfl,aI h1,aK (aM ..),c6]
  ·rw[aI c,ck];by_cases e:k∈ks
   ·rw[aK e,aK (aN _ e)]
   ·rw[aI e,aI λz=>(bD.mp z).elim (λz=>c z.symm) e]
def CG{d:Pl}(h:(d.map Prod.fst).Nodup)(k:Int):cf (IE d) k=val d k:=by
 unfold IE;rw[P4 (((sortI_perm _).nodup_iff.mpr h).filter _)];split
 ·rfl
 ·rename_i c
  cases e:has d k with
  | false=>exact(MK e).symm
  | true=>
   by_cases z:val d k=0
   ·exact z.symm
   ·exact absurd (cQ.mpr ⟨(sortI_perm _).mem_iff.mpr (vH.mp e),by simpa using z⟩) c
def WU{d e:Pl}(h:(d.map Prod.fst).Nodup)(h':(e.map Prod.fst).Nodup)(hv:∀k,val d k=val e k):IE d=IE e:=
 uniq (Cj h) (Cj h') λk=>by rw[CG h,CG h',hv]
def Ok.nd{l:Pl}(h:Ok l):(l.map Prod.fst).Nodup:=by
 unfold List.Nodup;rw[cH];exact h.up.imp λa=>()
def Lo{l:Pl}(h:(l.map Prod.fst).Nodup)(k:Int):val l k=cf l k:=by
 induction l with
 | nil=>rfl
 | cons p l ih=>
  obtain⟨h1,h2⟩:=cM.mp h;rw[ow];show _=(if p.1=k then p.2 else 0)+cf l k;rw[<- ih h2];by_cases c:p.1=k
  ·have:has l k=false:=by
    cases e:has l k with
    | false=>rfl
    | true=>exact absurd (vH.mp e) (by rw[<- c];exact h1)
   rw[aK c,aK c,MK this,c6]
  ·rw[aI c,aI c,ck]
abbrev OB (d ps:Pl):Pl:=ps.foldl (λd p=>put d p.1 p.2) d
theorem Jc:∀(ps d:Pl),((d++ps).map Prod.fst).Nodup->OB d ps=d++ps
 | [],d,_=>by rw[bU];rfl
 | p::ps,d,h=>by
  have hn:has d p.1=false:=by
   cases e:has d p.1 with
   | false=>rfl
   | true=>
    rw[bX,dW]at h;exact absurd rfl (h.2.2 _ (vH.mp e) p.1 (fH (aM ..)))
  have e:put d p.1 p.2=d++[p]:=by unfold put;rw[hn];rfl
  show OB (put d p.1 p.2) ps=_;rw[e,Jc ps (d++[p]) (by rw[cD];exact h),cD];rfl
def Se{l:Pl}(h:Ok l):OB [] l=l:=Jc l [] h.nd
abbrev plus (a b:Pl):Pl:=IE (p_ a b)
abbrev oG (a b:Pl):Pl:=IE (p_ [] (a++b))
def Rh{a:Pl}(h:Ok a):plus a b=oG a b:=by
 refine WU (tP _ h.nd) (tP _ dB) λk=>?_;rw[vL,vL,Lo h.nd];have:∀(a b:Pl),cf (a++b) k=cf a k+cf b k:=λa b=>by
  induction a with
  | nil=>exact(ck _).symm
  | cons p a ih=>
   show _+cf (a++b) k=_+_+_;rw[ih,f6]
 rw[this];show _=0+_;rw[ck]
def D9(a b:Pl):Ok (oG a b):=Cj (tP _ dB)
abbrev Ae (a b:Pl):Pl:=a.flatMap λp=>b.map λq=>(p.1+q.1,p.2 * q.2)
abbrev times (a b:Pl):Pl:=IE (p_ [] (Ae a b))
def rq(a b:Pl):Ok (times a b):=Cj (tP _ dB)
def N8(a:Pl)(p:Int×Int)(b:Pl):Ae (a++[p]) b=Ae a b++b.map λq=>(p.1+q.1,p.2 * q.2):=by
 unfold Ae;rw[List.flatMap_append,i_,List.flatMap_nil,bU]
def xV(a b:Pl):(Ae a b).length=a.length * b.length:=by
 induction a with
 | nil=>simp[Ae]
 | cons p a ih=>
  show((b.map _)++Ae a b).length=_;rw[aR,aH,ih,bC,eY]
  lia
theorem Bd.Ae{c:Nat}{a:Pl}(h:Bd c a)(h':Bd c' b):Bd (c * c') (Ae a b):=λr hr=>by
 obtain⟨p,hp,hr⟩:=fP.mp hr;obtain⟨q,hq,rfl⟩:=bA.mp hr
 skip
 rw[Int.natAbs_mul];exact iz (h p hp) (h' q hq)
def Hj(d:Pl):(IE d).length<=d.length:=by
 unfold Po.IE;rw[aH];refine bJ (dH _ _) ?_;rw[(sortI_perm _).length_eq,aH];exact aQ _
abbrev turn (a:Pl):Pl:=a.reverse.map λp=>(-p.1,p.2)
abbrev iv (d:Pl):List (Int×A):=d.map λp=>(p.1,.int p.2)
abbrev pA (p:Int×Int):A:=.tup [.int p.1,.int p.2]
abbrev pl (l:Pl):ae:=l.map pA
def BZ(d:Pl)(k:Int):mX (iv d) k=(d.find? λp=>decide (p.1=k)).map λp=>.int p.2:=by
 unfold mX iv;rw[iA,gh];rfl
def OC(d:Pl)(k:Int):(mX (iv d) k).getD (.int 0)=.int (val d k):=by
 rw[BZ];unfold val
 cases d.find? λp=>decide (p.1=k)<;>rfl
def C6{d:Pl}{k:Int}(h:k∈d.map Prod.fst):mX (iv d) k=some (.int (val d k)):=by
 have:=vH.mpr h;unfold has at this;rw[BZ];unfold val
 cases e:d.find? λp=>decide (p.1=k)with
 | some p=>rfl
 | none=>
  obtain⟨p,hp,hd⟩:=gr.mp this;exact absurd hd (gP.mp e p hp)
def Gu(d:Pl)(k v:Int):vV (iv d) k (.int v)=iv (put d k v):=by
 have e:(mX (iv d) k).isSome=has d k:=by
  rw[BZ,h_];unfold has;rw[Bool.eq_iff_iff,ja,gr]
 unfold vV put;rw[e];unfold iv;split
 ·rw[bq,bq];apply cK;intro p _;show(if p.1=k then(p.1,A.int v)else(p.1,.int p.2))=_;show _=((if p.1=k then(p.1,v)else p).1,A.int (if p.1=k then(p.1,v)else p).2);split<;>rfl
 ·rw[bX];rfl
def Tf(d:Pl):(iv d).map Prod.fst=d.map Prod.fst:=by
 unfold iv;rw[bq];rfl
theorem T_:∀l:Pl,SQ (pl l)=some (iv l)
 | []=>rfl
 | p::l=>by
  show(SQ (pl l)).map _=_;rw[T_ l];rfl
def Rz(l:Pl):SN (iv l)=iv (OB [] l):=by
 have:∀(l d:Pl),(iv l).foldl (λacc p=>vV acc p.1 p.2) (iv d)=iv (OB d l):=by
  intro l
  induction l with
  | nil=>intro d;rfl
  | cons p l ih=>
   intro d;show(iv l).foldl _ (vV (iv d) p.1 (.int p.2))=_;rw[Gu,ih];rfl
 exact this l []
end Po
namespace Am
open PySem L2 Po
meta abbrev XH:Tg:=Aj 2 (r_ (kQ 0) (r_ (kQ 1) A0))
def EY{s:Src}{src:Ic}{e:Ex}{S1:jE}(hs:src τ S=.ok s S1)(a b f:Nat->A)(hget:∀i,i<s.k->s.get i S1=some (.tup [a i,b i]))(hfin:s.fin S1=true)
  (he:∀i,i<s.k->e (a i::b i::l9 cap τ) S1=.ok (f i) S1) (hl:s.k<=16777216) :
  kZ (none::none::cap) src XH qb e τ S=.ok (.ref S1.length) (S1++[.lst ((List.range s.k).map f)]):=by
 unfold kZ;rw[hs,R.nH];obtain⟨S',h1,h2⟩:=vm (s:=s) (g:=XH) (t:=qb) (e:=e) (P:=λS=>S=S1) (T:=λτ'=>∃y z,τ'=y::z::l9 cap τ) (λi=>.tup [a i,b i]) (λ_=>true) f (λi S hi h=>by subst h;exact hget i hi) (λS h=>by subst h;exact hfin)
  (λi τ' S hi ⟨y,z,hy⟩ h=>by
   subst h hy;exact⟨a i::b i::l9 cap τ,S,S,rfl,rfl,⟨_,_,rfl⟩,λh=>(nomatch h),λhp=>⟨S,he i hi,rfl⟩⟩) s.k 0 (l9 (none::none::cap) τ) S1 rfl ⟨_,_,rfl⟩ rfl
 subst h2;rw[h1,R.ki,gb,fJ.mpr (λ_ _=>rfl)];refine kY ?_;rw[aH,List.length_range'];exact hl
def X8{l:Pl}{i:Nat}(h:i<l.length):(pl l)[i]?=some (.tup [.int (l.getD i (0,0)).1,.int (l.getD i (0,0)).2]):=by
 unfold pl;rw[aS,aG h,aJ,aG h];rfl
def zI(l:Pl):(pl l).length=l.length:=aH ..
def Ol{l:Pl}{n:Nat}{src:Ic}{e:Ex}{S1:jE}(hs:src τ S=.ok (lq n (pl l).length) S1)(hx:jC S1 n=some (pl l))(f:Int×Int->A)
  (he:∀p:Int×Int,e (.int p.1::.int p.2::l9 cap τ) S1=.ok (f p) S1) (hl:l.length<=16777216) :
  kZ (none::none::cap) src XH qb e τ S=.ok (.ref S1.length) (S1++[.lst (l.map f)]):=by
 rw[EY hs (λi=>.int (l.getD i (0,0)).1) (λi=>.int (l.getD i (0,0)).2) (λi=>f (l.getD i (0,0))) (λi hi=>by
  have hi:i<(pl l).length:=hi;rw[zI]at hi;show(jC S1 n).bind _=_;rw[hx,dM,X8 hi]) (by
   show(match jC S1 n with
    | some ys=>decide (ys.length<=(pl l).length)
    | none=>false)=true
   rw[hx];simp) (λi _=>he _) (by show(pl l).length<=_;rw[zI];exact hl)]
 have:=range_getD l (0,0)
 skip
 rw[zI]
 conv=>rhs;rw[<- this,bq]
 rfl
def Kh{xs:ae}{n:Nat}{src:Ic}{t:Te}{e:Ex}{S1:jE}(hs:src τ S=.ok (lq n xs.length) S1)(hx:jC S1 n=some xs)(p:A->Bool)(f:A->A)
  (ht:∀x∈xs,t (x::l9 cap τ) S1=.ok (p x) S1) (he:∀x∈xs,p x=true->e (x::l9 cap τ) S1=.ok (f x) S1) (hl:xs.length<=16777216) :
  kZ (none::cap) src (kQ 0) t e τ S=.ok (.ref S1.length) (S1++[.lst ((xs.filter p).map f)]):=by
 have:=Dk (S:=S1) (src:=λ_ _=>.ok (lq n xs.length) S1) (τ:=τ) rfl hx p f ht he hl;unfold kZ at this ⊢;rw[hs];exact this
def Oo{S:jE}:lN (S++[.qM d]) S.length=some d:=BD Fc
def WH{o:O}{n:Nat}(h:lN S n=some d):lN (S++[o]) n=some d:=by
 have h':=pF h;exact BD (by rw[bH (aL.mp h').1];exact h')
def Uq{S:jE}{n:Nat}(h:lN S n=some d):n<S.length:=(aL.mp (pF h)).1
def Pw{S:jE}{n:Nat}(h:n<S.length):lN (S.set n (.qM d)) n=some d:=BD (bN h)
def Jt{n:Nat}(h:lN S n=some d)(h':jC S m=some xs):n≠m:=λz=>by
 subst z;have e1:=pF h;rw[jT h']at e1
 cases e1
def Hg{f:A->ae->jE->R A}{co:Ex}{d:qc}:JX f co d τ S=(co τ S).bind λx S1=>opt (dk? x S1) λ_=>(d τ S1).bind λas S2=>f x as S2:=rfl
def Mx{n:Nat}:dk? (.ref n) S=(lN S n).map λ_=>Unit.unit:=rfl
def DJ{n:Nat}{k:Int}:xh (.ref n) [.int k,y] S=opt (lN S n) λkvs=>.ok ((mX kvs k).getD y) S:=rfl
def JH{co ci:Ex}{a:A}:Lh co ci a τ S=(co τ S).bind λo S1=>(ci τ S1).bind λi S2=>(AR o i a S2).bind λ_ S3=>.ok τ S3:=rfl
def DK{n:Nat}{k:Int}{v:A}{S:jE}:AR (.ref n) (.int k) v S=opt (lN S n) λkvs=>gd (kvs.length<sizeLine) (.ok Unit.unit (S.set n (.qM (vV kvs k v)))):=rfl
def I0{n:Nat}{k:Int}:za (.ref n) (.int k) S=opt (lN S n) λkvs=>opt (mX kvs k) λv=>.ok v S:=rfl
def KG{S:jE}:Fe τ S=.ok (.ref S.length) (S++[.qM []]):=rfl
def J5{n:Nat}{S:jE}:ze (.ref n) S=opt (lN S n) λkvs=>.ok (.ref S.length) (S++[.lst ((sortI (kvs.map Prod.fst)).map .int)]):=rfl
def KY{n:Nat}{S:jE}:GF (.ref n) S=opt (jC S n) λxs=>opt (SQ xs) λps=>.ok (.ref S.length) (S++[.qM (SN ps)]):=rfl
def aaJ{i j:Int}(h:i.natAbs<big)(h':j.natAbs<big):Jf (.int i) (.int j) S=.ok (.int (i * j)) S:=mw ⟨h,h'⟩
def Pd(d:Pl):(iv d).length=d.length:=aH ..
meta abbrev WC:Sm:=kD (jI lg (JX xh (jB 2) (jy (jB 3) (jy (eC (.int 0)) (jF)))) (jB 4)) (Lh (jB 2) (jB 3))
def acc_step{S:jE}{D:Pl}{k v:Int}(hd:lN S d=some (iv D))(hl:D.length<16777216):WC [x0,x1,.ref d,.int k,.int v] S=.nx [x0,x1,.ref d,.int k,.int v] (S.set d (.qM (iv (acc D k v)))):=by
 unfold WC;dsimp[kC,bools,Hg,Mx,hd,dY,DJ,OC,JH,DK,zv (show(iv D).length<16777216 by rw[Pd];exact hl),Gu];rfl
meta abbrev U4:Tg:=Aj 2 (r_ (kQ 3) (r_ (kQ 4) A0))
def Tn{n:Nat}{D l:Pl}{src:Ic}(hs:src [x0,x1,.ref d,x3,x4] S=.ok (lq n (pl l).length) S1)(hn:jC S1 n=some (pl l))(hd:lN S1 d=some (iv D))(hl:D.length+l.length<16777216) :
  ∃y3 y4 S',nj src U4 WC [x0,x1,.ref d,x3,x4] S=.nx [x0,x1,.ref d,y3,y4] S'/\lN S' d=some (iv (p_ D l))/\Kp (·=d) S1 S':=by
 have nd:=Jt hd hn;refine tU (n:=n) (xs:=pl l) hs (λi τ T=>(∃y3 y4,τ=[x0,x1,.ref d,y3,y4])/\lN T d=some (iv (p_ D (l.take i)))/\Kp (·=d) S1 T)
  (λr=>∃y3 y4 S',r=.nx [x0,x1,.ref d,y3,y4] S'/\lN S' d=some (iv (p_ D l))/\Kp (·=d) S1 S') ⟨⟨_,_,rfl⟩,hd,Kp.refl⟩ (λi τ T h=>h.2.2.lst _ _ (cR nd) hn) ?_ ?_
 ·rintro i z τ T hz ⟨⟨y3,y4,rfl⟩,hD,kp⟩;unfold pl at hz;rw[aS]at hz;obtain⟨p,hp,rfl⟩:=a_.mp hz;refine⟨[x0,x1,.ref d,.int p.1,.int p.2],T,rfl,.inl ?_⟩;have hlen:=pT (l.take i) D;have hi:=(aL.mp hp).1;rw[bM]at hlen;refine⟨_,_,acc_step hD (),⟨_,_,rfl⟩,?_,kp.E1 (.inl rfl)⟩;rw[Pw (Uq hD),dD,hp,y_];rfl
 ·rintro τ T ⟨⟨y3,y4,rfl⟩,hD,kp⟩;rw[zI,dJ]at hD;exact⟨y3,y4,T,rfl,hD,kp⟩
meta abbrev Sl:Sm:=kD (jI lg (JX xh (jB 2) (jy (jI lg (jB 3) (jB 5)) (jy (eC (.int 0)) (jF)))) (jI Jf (jB 4) (jB 6))) (Lh (jB 2) (jI lg (jB 3) (jB 5)))
meta abbrev g56:Tg:=Aj 2 (r_ (kQ 5) (r_ (kQ 6) A0))
def Qo{S:jE}{D:Pl}{k v j u:Int}(hd:lN S d=some (iv D))(hl:D.length<16777216)(hv:v.natAbs<big)(hu:u.natAbs<big):Sl [x0,x1,.ref d,.int k,.int v,.int j,.int u] S=.nx [x0,x1,.ref d,.int k,.int v,.int j,.int u] (S.set d (.qM (iv (acc D (k+j) (v * u))))):=by
 unfold Sl;dsimp[kC,bools,Hg,Mx,hd,dY,DJ,OC,aaJ hv hu,JH,DK,zv (show(iv D).length<16777216 by rw[Pd];exact hl),Gu];rfl
def SA{n:Nat}{D l:Pl}{k v:Int}(hn:jC S n=some (pl l))(hd:lN S d=some (iv D))(hl:D.length+l.length<16777216)(hv:v.natAbs<big)(hu:∀p∈l,p.2.natAbs<big) :
  ∃y5 y6 S',nj (oK (jB 1)) g56 Sl [x0,.ref n,.ref d,.int k,.int v,x5,x6] S=.nx [x0,.ref n,.ref d,.int k,.int v,y5,y6] S'/\lN S' d=some (iv (p_ D (l.map λq=>(k+q.1,v * q.2))))/\Kp (·=d) S S':=by
 have nd:=Jt hd hn;refine tU (n:=n) (xs:=pl l) (S1:=S) (oX (by dsimp[kC,bools]) hn) (λi τ T=>(∃y5 y6,τ=[x0,.ref n,.ref d,.int k,.int v,y5,y6])/\lN T d=some (iv (p_ D ((l.take i).map λq=>(k+q.1,v * q.2))))/\Kp (·=d) S T)
  (λr=>∃y5 y6 S',r=.nx [x0,.ref n,.ref d,.int k,.int v,y5,y6] S'/\lN S' d=some (iv (p_ D (l.map λq=>(k+q.1,v * q.2))))/\Kp (·=d) S S') ⟨⟨_,_,rfl⟩,hd,Kp.refl⟩ (λi τ T h=>h.2.2.lst _ _ (cR nd) hn) ?_ ?_
 ·rintro i z τ T hz ⟨⟨y5,y6,rfl⟩,hD,kp⟩;unfold pl at hz;rw[aS]at hz;obtain⟨p,hp,rfl⟩:=a_.mp hz;refine⟨[x0,.ref n,.ref d,.int k,.int v,.int p.1,.int p.2],T,rfl,.inl ?_⟩;have hlen:=pT ((l.take i).map λq=>(k+q.1,v * q.2)) D;have hi:=(aL.mp hp).1;rw[aH,bM]at hlen;refine⟨_,_,Qo hD () hv (hu p (aZ hp)),⟨_,_,rfl⟩,?_,kp.E1 (.inl rfl)⟩;rw[Pw (Uq hD),dD,hp,bX,y_];rfl
 ·rintro τ T ⟨⟨y5,y6,rfl⟩,hD,kp⟩;rw[zI,dJ]at hD;exact⟨y5,y6,T,rfl,hD,kp⟩
meta abbrev Xh:Sm:=nj (oK (jB 1)) g56 Sl
def Ga(f:Int×Int->A)(hf:∀p τ S,U4 (f p) τ S=U4 (pA p) τ S){n:Nat}{a b:Pl}(hn:jC S n=some (a.map f))(hm:jC S m=some (pl b))(hd:lN S d=some [])(hl:a.length * b.length<16777216)(ha:∀p∈a,p.2.natAbs<big)(hb:∀p∈b,p.2.natAbs<big) :
  ∃y3 y4 y5 y6 S',nj (oK (jB 0)) U4 Xh [.ref n,.ref m,.ref d,x3,x4,x5,x6] S=.nx [.ref n,.ref m,.ref d,y3,y4,y5,y6] S'/\lN S' d=some (iv (p_ [] (Ae a b)))/\Kp (·=d) S S':=by
 have nd:=Jt hd hn;have md:=Jt hd hm;refine tU (n:=n) (xs:=a.map f) (S1:=S) (oX (by dsimp[kC,bools]) hn) (λi τ T=>(∃y3 y4 y5 y6,τ=[.ref n,.ref m,.ref d,y3,y4,y5,y6])/\lN T d=some (iv (p_ [] (Ae (a.take i) b)))/\Kp (·=d) S T)
  (λr=>∃y3 y4 y5 y6 S',r=.nx [.ref n,.ref m,.ref d,y3,y4,y5,y6] S'/\lN S' d=some (iv (p_ [] (Ae a b)))/\Kp (·=d) S S') ⟨⟨_,_,_,_,rfl⟩,hd,Kp.refl⟩ (λi τ T h=>h.2.2.lst _ _ (cR nd) hn) ?_ ?_
 ·rintro i z τ T hz ⟨⟨y3,y4,y5,y6,rfl⟩,hD,kp⟩;rw[aS]at hz;obtain⟨p,hp,rfl⟩:=a_.mp hz;refine⟨[.ref n,.ref m,.ref d,.int p.1,.int p.2,y5,y6],T,hf _ _ _,.inl ?_⟩;have hlen:=pT (Ae (a.take i) b) [];have hi:=(aL.mp hp).1;rw[xV,bM,iO (jj hi),cC,cW]at hlen;have hmul:i * b.length+b.length<=a.length * b.length:=by rw[<- eY];exact b_ _ hi
  obtain⟨z5,z6,T',e,hD',kp'⟩:=SA (x0:=.ref n) (x5:=y5) (x6:=y6) (k:=p.1) (v:=p.2) (kp.lst _ _ (cR md) hm) hD () (ha p (aZ hp)) hb;refine⟨_,_,e,⟨_,_,_,_,rfl⟩,?_,kp.trans kp'⟩;rw[hD',dD,hp,Option.toList_some,N8,y_]
 ·rintro τ T ⟨⟨y3,y4,y5,y6,rfl⟩,hD,kp⟩;rw[aH,dJ]at hD;exact⟨y3,y4,y5,y6,T,rfl,hD,kp⟩
meta abbrev Z7:Ex:=kZ [none,some 0] (oK (jZ (f1 ze) (jy (jB 0) (jF)))) (kQ 0) (xr (jI (sf true) (jI za (jB 1) (jB 0)) (eC (.int 0)))) (oz (jy (jB 0) (jy (jI za (jB 1) (jB 0)) (jF))))
def XF{S:jE}{D:Pl}(hd:lN S d=some (iv D))(hl:D.length<=16777216):∃S',Z7 [.ref d] S=.ok (.ref (S.length+1)) S'/\jC S' (S.length+1)=some (pl (IE D))/\lX S S':=by
 have hd1:lN (S++[.lst ((sortI (D.map Prod.fst)).map .int)]) d=some (iv D):=WH hd;have ls:(S++[O.lst ((sortI (D.map Prod.fst)).map A.int)]).length=S.length+1:=by simp
 have cc:=Kh (n:=S.length) (xs:=(sortI (D.map Prod.fst)).map A.int) (cap:=[some 0]) (src:=oK (jZ (f1 ze) (jy (jB 0) (jF)))) (t:=xr (jI (sf true) (jI za (jB 1) (jB 0)) (eC (.int 0)))) (e:=oz (jy (jB 0) (jy (jI za (jB 1) (jB 0)) (jF)))) (τ:=[.ref d]) (S:=S) (S1:=S++[.lst ((sortI (D.map Prod.fst)).map .int)])
  (oX (by dsimp[kC,bools,J5,hd,Tf]) jQ) jQ (λx=>match x with | .int k=>val D k != 0|_=>false) (λx=>match x with | .int k=>pA (k,val D k)|_=>.non) (λx hx=>by
   obtain⟨k,hk,rfl⟩:=bA.mp hx;have hk:=(sortI_perm _).mem_iff.mp hk;dsimp[kC,bools,I0,hd1,C6 hk];rfl) (λx hx _=>by
   obtain⟨k,hk,rfl⟩:=bA.mp hx;have hk:=(sortI_perm _).mem_iff.mp hk;dsimp[kC,bools,I0,hd1,C6 hk];exact uF (show 2<=16777216 by decide)) (by rw[aH,(sortI_perm _).length_eq,aH];exact hl)
 refine⟨_,cc.trans (by rw[ls]),?_,Kp.refl.lay.lay⟩;rw[<- ls,jQ];congr 1;unfold pl IE;rw[bq,jo,bq];rfl
end Am
namespace Su
open Am Po PySem L2
meta abbrev En:=ag×Nat×Pl
meta abbrev Es:=List En
abbrev ent (e:En):A:=.tup [.tup (e.1.map .int),.ref e.2.1]
abbrev kv (e:En):ag×A:=(e.1,.ref e.2.1)
abbrev At (S:jE)(es:Es):Prop:=∀e∈es,jC S e.2.1=some (pl e.2.2)
meta abbrev Ps:=List (ag×Pl)
abbrev sm (es:Es):Ps:=es.map λe=>(e.1,e.2.2)
def pV(es:Es):(sm es).length=es.length:=aH ..
def OO(a b:Es):sm (a++b)=sm a++sm b:=bX
abbrev vS (D:Ps)(o:ag):Pl:=((D.find? λe=>decide (e.1=o)).map (·.2)).getD []
abbrev hS (D:Ps)(o:ag):Bool:=D.any λe=>decide (e.1=o)
abbrev yq (D:Ps)(o:ag)(p:Pl):Ps:=if hS D o=true then D.map (λe=>if e.1=o then(e.1,p)else e)else D++[(o,p)]
abbrev zD (D:Ps)(o:ag)(p:Pl):Ps:=yq D o (oG (vS D o) p)
abbrev adds (D l:Ps):Ps:=l.foldl (λD e=>zD D e.1 e.2) D
def C9(D a b:Ps):adds D (a++b)=adds (adds D a) b:=by unfold adds;rw[dX]
abbrev toS (D:Ps):Ps:=((l_ (D.map Prod.fst)).filter λo=>!(vS D o).isEmpty).map λo=>(o,vS D o)
abbrev fE (D:Es)(o:ag):Option En:=D.find? λe=>decide (e.1=o)
abbrev nU (D:Es)(o:ag)(r:Nat)(p:Pl):Es:=if (fE D o).isSome=true then D.map (λe=>if e.1=o then(e.1,r,p)else e)else D++[(o,r,p)]
def RJ(D:Es)(o:ag):(sm D).find? (λe=>decide (e.1=o))=(fE D o).map λe=>(e.1,e.2.2):=by
 unfold sm fE;rw[iA];rfl
def Lj(D:Es)(o:ag):vS (sm D) o=((fE D o).map λe=>e.2.2).getD []:=by
 unfold vS;rw[RJ,gh];rfl
def aai(D:Es)(o:ag):hS (sm D) o=(fE D o).isSome:=by
 unfold hS sm fE;rw[List.any_map,Bool.eq_iff_iff,ja,gr];rfl
def Fb(D:Es)(o:ag)(r:Nat)(p:Pl):sm (nU D o r p)=yq (sm D) o p:=by
 unfold nU yq;rw[aai];unfold sm;split
 ·rw[bq,bq];apply cK;intro e _;show((if e.1=o then(e.1,r,p)else e).1,(if e.1=o then(e.1,r,p)else e).2.2)=if e.1=o then(e.1,p)else(e.1,e.2.2)
  split<;>rfl
 ·rw[bX];rfl
def tQ(D:Es)(o:ag):lK (D.map kv) o=(fE D o).map λe=>.ref e.2.1:=by
 unfold lK fE;rw[iA,gh];rfl
def ET(D:Es)(o:ag)(r:Nat)(p:Pl):putD (D.map kv) o (.ref r)=(nU D o r p).map kv:=by
 unfold putD nU;rw[tQ,h_];split
 ·rw[bq,bq];apply cK;intro e _;show(if e.1=o then(e.1,A.ref r)else(e.1,.ref e.2.1))=kv (if e.1=o then(e.1,r,p)else e);split<;>rfl
 ·rw[bX];rfl
def rG{D:Es}{r:Nat}{p:Pl}{e:En}(h:e∈nU D o r p):e∈D\/e=(o,r,p):=by
 unfold nU at h;split at h
 ·obtain⟨e',h1,rfl⟩:=bA.mp h;split
  ·rename_i c;exact .inr (by rw[c])
  ·exact .inl h1
 ·rcases bI.mp h with z|z
  ·exact .inl z
  ·exact .inr (aV.mp z)
def CF{D:Es}{r:Nat}{p:Pl}:(nU D o r p).length<=D.length+1:=by
 unfold nU;split
 ·rw[aH];lia
 ·rw[aR];exact aQ _
def rR{D:Es}{e:En}(h:fE D o=some e):e∈D/\e.1=o:=⟨gw h,by
 unfold fE at h;have:=iP h;simpa using this⟩
def At.put{D:Es}{r:Nat}{p:Pl}(h:At S D)(hr:jC S r=some (pl p)):At S (nU D o r p):=λe he=>by
 rcases rG he with z|z
 ·exact h e z
 ·rw[z];exact hr
def At.kp{D:Es}{b:Nat->Prop}(h:At S D)(k:Kp b S S')(hb:∀e∈D,¬b e.2.1):At S' D:=λe he=>k.lst _ _ (hb e he) (h e he)
def At.zY{D:Es}(h:At S D)(k:lX S S'):At S' D:=h.kp k λ_ _ z=>z
def At.app{a:Es}(h:At S a)(h':At S b):At S (a++b):=λe he=>(bI.mp he).elim (h e) (h' e)
def qC{n:Nat}(h:jY S n=some d)(h':jC S m=some xs):n≠m:=λz=>by
 subst z;have e1:=nR h;rw[jT h']at e1
 cases e1
def At.Ig{D:Es}(h:At S D)(k:Kp (·=d) S S')(hd:jY S d=some kvs):At S' D:=h.kp k λe he z=>qC hd (h e he) z.symm
abbrev Vl (k b:Nat)(D:Es):Prop:=∀e∈D,Ok e.2.2/\e.2.2.length<=k/\b<=e.2.1
def Vl.mono{k:Nat}{D:Es}(h:Vl k b D)(hk:k<=k'):Vl k' b D:=λe he=>⟨(h e he).1,bJ (h e he).2.1 hk,(h e he).2.2⟩
def Vl.v{k:Nat}{D:Es}(h:Vl k b D)(o:ag):Ok (vS (sm D) o)/\(vS (sm D) o).length<=k:=by
 rw[Lj]
 cases e:fE D o with
 | none=>exact⟨⟨List.Pairwise.nil,nofun⟩,bO _⟩
 | some e'=>exact⟨(h e' (rR e).1).1,(h e' (rR e).1).2.1⟩
def JW(a b:Pl):(oG a b).length<=a.length+b.length:=by
 refine bJ (Hj _) (bJ (pT _ _) ?_);rw[aR,cC];lia
def La(a b:Pl):(times a b).length<=a.length * b.length:=by
 refine bJ (Hj _) (bJ (pT _ _) ?_);rw[xV,cC];lia
def Vl.add{k r:Nat}{D:Es}{p:Pl}(h:Vl k b D)(hp:p.length<=j)(hr:b<=r):Vl (k+j) b (nU D o r (oG (vS (sm D) o) p)):=λe he=>by
 rcases rG he with z|z
 ·exact(h.mono (Nat.le_add_right _ _)) e z
 ·rw[z];refine⟨D9 _ _,?_,hr⟩;have:=JW (vS (sm D) o) p;have:=(h.v o).2;show(oG (vS (sm D) o) p).length<=_
  lia
def tX{S:jE}:jY (S++[.dct xs]) S.length=some xs:=vc Fc
def Ca{o:O}{n:Nat}(h:jY S n=some xs):jY (S++[o]) n=some xs:=by
 have h':=nR h;exact vc (by rw[bH (aL.mp h').1];exact h')
def BV{S:jE}{n:Nat}(h:jY S n=some xs):n<S.length:=(aL.mp (nR h)).1
def Bv{S:jE}{n:Nat}(h:n<S.length):jY (S.set n (.dct ys)) n=some ys:=vc (bN h)
def RU{f:A->ae->jE->R A}{co:Ex}{d:qc}:Xk f co d τ S=(co τ S).bind λx S1=>opt (dct? x S1) λ_=>(d τ S1).bind λas S2=>f x as S2:=rfl
def Tc{n:Nat}:dct? (.ref n) S=(jY S n).map λ_=>Unit.unit:=rfl
def u7{S:jE}:yO τ S=.ok (.ref S.length) (S++[.dct []]):=rfl
def yc{co ci:Ex}{a:A}:Gx co ci a τ S=(co τ S).bind λo S1=>(ci τ S1).bind λi S2=>(Eb o i a S2).bind λ_ S3=>.ok τ S3:=rfl
def SS{n:Nat}{o:ag}:VL (.ref n) [.tup (o.map .int),y] S=opt (jY S n) λkvs=>.ok ((lK kvs o).getD y) S:=by
 show opt (jY S n) (λkvs=>opt (A.ints (o.map .int)) λk=>.ok ((lK kvs k).getD y) S)=_;rw[ints_map];rfl
def yP{n:Nat}{o:ag}{v:A}{S:jE}:Eb (.ref n) (.tup (o.map .int)) v S=opt (jY S n) λkvs=>gd (kvs.length<sizeLine) (.ok Unit.unit (S.set n (.dct (putD kvs o v)))):=by
 show opt (jY S n) (λkvs=>opt (A.ints (o.map .int)) λns=>gd (kvs.length<sizeLine) (.ok Unit.unit (S.set n (.dct (putD kvs ns v)))))=_;rw[ints_map];rfl
def vG{n:Nat}{o:ag}:xG (.ref n) (.tup (o.map .int)) S=opt (jY S n) λkvs=>opt (lK kvs o) λv=>.ok v S:=by
 show opt (jY S n) (λkvs=>opt (A.ints (o.map .int)) λns=>opt (lK kvs ns) λv=>.ok v S)=_;rw[ints_map];rfl
def get_or{S:jE}{D:Es}(hd:jY S d=some (D.map kv))(hA:At S D):∃x:Nat,(lK (D.map kv) o).getD (.ref S.length)=.ref x/\jC (S++[.lst []]) x=some (pl (vS (sm D) o)):=by
 rw[tQ,Lj]
 cases e:fE D o with
 | none=>exact⟨S.length,rfl,jQ⟩
 | some e'=>exact⟨e'.2.1,rfl,kN (hA e' (rR e).1)⟩
def SX{α:Type}{xs:List α}(g:α->A){n:Nat}{src:Ic}{t:Te}{e:Ex}(hs:src τ S=.ok (lq n (xs.map g).length) S1)(hx:jC S1 n=some (xs.map g))(d:α)(p:α->Bool)(f:α->A)
  (step:∀x∈xs,∀T,lX S1 T->∃T1,t (g x::l9 cap τ) T=.ok (p x) T1/\lX S1 T1/\(p x=true->∃T2,e (g x::l9 cap τ) T1=.ok (f x) T2/\lX S1 T2)) (hl:xs.length<=16777216) :
  ∃S',kZ (none::cap) src (kQ 0) t e τ S=.ok (.ref S'.length) (S'++[.lst ((xs.filter p).map f)])/\lX S1 S':=by
 have hm:∀i,i<xs.length->xs.getD i d∈xs:=λi hi=>by
  rw[aJ,aG hi];exact dI hi
 have hk:(xs.map g).length=xs.length:=aH ..;obtain⟨S',h1,h2⟩:=vm (s:=lq n (xs.map g).length) (g:=kQ 0) (t:=t) (e:=e) (P:=λT=>lX S1 T) (T:=λτ'=>∃y,τ'=y::l9 cap τ) (λi=>g (xs.getD i d)) (λi=>p (xs.getD i d)) (λi=>f (xs.getD i d)) (λi T hi h=>by
   have hi:i<(xs.map g).length:=hi;show(jC T n).bind _=_;rw[h.lst _ _ (λz=>z) hx,dM,aS,aG (),aJ,aG ()];rfl) (λT h=>by
   show(match jC T n with
    | some ys=>decide (ys.length<=(xs.map g).length)
    | none=>false)=true
   rw[h.lst _ _ (λz=>z) hx];simp)
  (λi τ' T hi ⟨y,hy⟩ h=>by
   have hi:i<(xs.map g).length:=hi;subst hy;obtain⟨T1,e1,k1,e2⟩:=step _ (hm i ()) T h;exact⟨g (xs.getD i d)::l9 cap τ,T,T1,rfl,e1,⟨_,rfl⟩,λ_=>k1,e2⟩) (xs.map g).length 0 (l9 (none::cap) τ) S1 rfl ⟨_,rfl⟩ Kp.refl
 refine⟨S',?_,h2⟩;unfold kZ;rw[hs,R.nH];show(lJ (lq n (xs.map g).length) (kQ 0) t e (xs.map g).length 0 (l9 (none::cap) τ) S1).p7 _=_;rw[h1,R.ki,<- gb,hk,rz xs p f d];refine kY ?_;rw[aH];exact bJ (dH _ _) hl
def CW{D:Es}{o:ag}(h:o∈D.map Prod.fst):∃e,fE D o=some e:=by
 unfold fE
 cases e:D.find? λe=>decide (e.1=o)with
 | some x=>exact⟨x,rfl⟩
 | none=>
  obtain⟨x,hx,rfl⟩:=bA.mp h;exact absurd (bg rfl) (gP.mp e x hx)
abbrev zM (k:ag):A:=.tup (k.map .int)
def Ej{S:jE}{D:Es}(hd:jY S d=some (D.map kv))(hne:∀e∈D,e.1≠[]):wH (.ref d) S=.ok (.ref S.length) (S++[.lst ((l_ (D.map Prod.fst)).map zM)]):=by
 have ek:(D.map kv).map Prod.fst=D.map Prod.fst:=by rw[bq];rfl
 show opt (jY S d) _=_;rw[hd,kJ];have:((D.map kv).map Prod.fst).all (λks=>!ks.isEmpty)=true:=by
  rw[ek,g_,cZ];intro e he;have:=hne e he;show(!(e.1).isEmpty)=true
  cases h:e.1 with
  | nil=>exact absurd h this
  | cons=>rfl
 rw[ek]at this ⊢;rw[this];rfl
abbrev qd (D:Es)(p:Pl->Bool):Es:=((l_ (D.map Prod.fst)).filter λo=>p (vS (sm D) o)).map λo=>(o,((fE D o).map λe=>e.2.1).getD 0,vS (sm D) o)
def x_(D:Es):sm (qd D λp=>!p.isEmpty)=toS (sm D):=by
 unfold qd toS sm;rw[bq,bq];rfl
def vn{D:Es}{p:Pl->Bool}{e:En}(h:e∈qd D p):e∈D/\p e.2.2=true:=by
 obtain⟨o,ho,rfl⟩:=bA.mp h;obtain⟨h1,h2⟩:=cQ.mp ho;obtain⟨e,he⟩:=CW ((jX _).mem_iff.mp h1);rw[Lj,he]at h2;rw[Lj,he];obtain⟨m,rfl⟩:=rR he;exact⟨m,h2⟩
def Dj{S:jE}{D:Es}{src:Ic}{t:Te}{e:Ex}(hd:jY S d=some (D.map kv))(hA:At S D)(hs:src τ S=.ok (lq S.length ((l_ (D.map Prod.fst)).map zM).length) (S++[.lst ((l_ (D.map Prod.fst)).map zM)]))(p:Pl->Bool)
  (ht:∀(o:ag) (r:Nat) (q:Pl) (T:jE),jY T d=some (D.map kv)->lK (D.map kv) o=some (.ref r)->jC T r=some (pl q)->∃T1,t (zM o::l9 cap τ) T=.ok (p q) T1/\lX T T1)
  (he:∀(o:ag) (r:Nat) (T:jE),jY T d=some (D.map kv)->lK (D.map kv) o=some (.ref r)->e (zM o::l9 cap τ) T=.ok (.tup [zM o,.ref r]) T) (hl:D.length<=16777216) :
  ∃(n:Nat) (S':jE),kZ (none::cap) src (kQ 0) t e τ S=.ok (.ref n) S'/\jC S' n=some ((qd D p).map ent)/\At S' (qd D p)/\S.length<n/\lX S S':=by
 have kx:lX S (S++[.lst ((l_ (D.map Prod.fst)).map zM)]):=Kp.refl.lay;obtain⟨S',e1,k1⟩:=SX zM (t:=t) (e:=e) (cap:=cap) hs jQ [] (λo=>p (vS (sm D) o)) (λo=>ent (o,((fE D o).map λe=>e.2.1).getD 0,vS (sm D) o)) (λo ho T kT=>by
  obtain⟨e',he'⟩:=CW ((jX _).mem_iff.mp ho);have lk:lK (D.map kv) o=some (.ref e'.2.1):=by rw[tQ,he'];rfl
  have kST:=kx.trans kT;have dT:=kST.dct _ _ (λz=>z) hd;have lT:=kST.lst _ _ (λz=>z) (hA e' (rR he').1);obtain⟨T1,h1,h2⟩:=ht o e'.2.1 e'.2.2 T dT lk lT;rw[Lj,he'];exact⟨T1,h1,kT.trans h2,λ_=>⟨T1,he o e'.2.1 T1 (h2.dct _ _ (λz=>z) dT) lk,kT.trans h2⟩⟩) (by
  rw[(jX _).length_eq,aH];exact hl)
 have kS:=kx.trans k1;refine⟨S'.length,_,e1,?_,(?_:At S' (qd D p)).zY Kp.refl.lay,?_,kS.lay⟩
 ·rw[jQ];unfold qd;rw[bq];rfl
 ·exact λe h=>kS.lst _ _ (λz=>z) (hA e (vn h).1)
 ·have:=k1.len;rw[aR]at this;exact this
abbrev Cc (F:ae->jE->R A):Prop:=∀{S:jE}{d r:Nat}{D:Es}{o:ag}{p:Pl}{k b:Nat},jY S d=some (D.map kv)->At S D->Vl k b D->jC S r=some (pl p)->D.length<16777216->k+p.length<16777216 ->
  ∃(L:Nat) (S':jE),F [.ref d,.tup (o.map .int),.ref r] S=.ok .non S'/\jY S' d=some ((nU D o L (oG (vS (sm D) o) p)).map kv)/\At S' (nU D o L (oG (vS (sm D) o) p))/\S.length<=L/\Kp (·=d) S S'
abbrev Le (F:ae->jE->R A):Prop:=∀{S:jE}{n m:Nat}{a b:Pl},jC S n=some (pl a)->jC S m=some (pl b)->a.length * b.length<16777216->(∀p∈a,p.2.natAbs<big)->(∀p∈b,p.2.natAbs<big) ->
  ∃(L:Nat) (S':jE),F [.ref n,.ref m] S=.ok (.ref L) S'/\jC S' L=some (pl (times a b))/\S.length<=L/\lX S S'
abbrev Ap (D:Es):Prop:=D.Pairwise λe f=>e.1≠f.1/\e.2.1≠f.2.1
def Ap.put{D:Es}{r:Nat}{p:Pl}(h:Ap D)(hr:∀e∈D,e.2.1≠r):Ap (nU D o r p):=by
 unfold nU;split
 ·unfold Ap;rw[cH];refine gF (λ{e f} he hf z=>?_) h;by_cases c1:e.1=o
  ·have c2:¬f.1=o:=λz2=>z.1 (c1.trans z2.symm);rw[aK c1,aI c2];exact⟨z.1,λy=>hr f hf y.symm⟩
  ·rw[aI c1];by_cases c2:f.1=o
   ·rw[aK c2];exact⟨z.1,hr e he⟩
   ·rw[aI c2];exact z
 ·rename_i c;unfold Ap;rw[cB];refine⟨h,cj _ _,λe he f hf=>?_⟩;rw[aV.mp hf];refine⟨λz=>c ?_,hr e he⟩;unfold fE;rw[ja];exact⟨e,he,bg z⟩
theorem Ap.at{D:Es}(h:Ap D):∀e∈D,∀f∈D,e.1≠f.1->e.2.1≠f.2.1:=by
 unfold Ap at h
 induction h with
 | nil=>exact λe he=>nomatch he
 | @cons a D ha _ ih=>
  intro e he f hf z
  rcases bD.mp he with h1|h1<;>rcases bD.mp hf with h2|h2
  ·exact absurd (by rw[h1,h2]) z
  ·rw[h1];exact(ha f h2).2
  ·rw[h2];exact(ha e h1).2.symm
  ·exact ih e h1 f h2 z
def Ap.nd{D:Es}(h:Ap D):(D.map Prod.fst).Nodup:=by
 unfold List.Nodup;rw[cH];exact h.imp λz=>z.1
def Ap.out{D:Es}(h:Ap D)(p:Pl->Bool):Ap (qd D p):=by
 unfold Ap qd;rw[cH];have n:(l_ (D.map Prod.fst)).Pairwise (·≠·):=(jX _).nodup_iff.mpr h.nd;refine gF (λ{a b} ha hb z=>?_) (n.filter _);obtain⟨e,he⟩:=CW ((jX _).mem_iff.mp (cQ.mp ha).1);obtain⟨f,hf⟩:=CW ((jX _).mem_iff.mp (cQ.mp hb).1);obtain⟨m1,e1⟩:=rR he;obtain⟨m2,e2⟩:=rR hf;refine⟨z,?_⟩;rw[he,hf];exact h.at e m1 f m2 (by rw[e1,e2];exact z)
structure Fil (T:jE)(d b i j:Nat)(P:Ps)(D:Es):Prop where
 dd:jY T d=some (D.map kv)
 aa:At T D
 ss:sm D=P
 vv:Vl (i * j) b D
 kk:∀e∈D,e.1≠[]
 ll:D.length<=i
 pw:Ap D
def Fil.mono{P:Ps}{D:Es}(h:Fil T d b i j P D)(hi:i<=i'):Fil T d b i' j P D:=⟨h.dd,h.aa,h.ss,h.vv.mono (b_ _ hi),h.kk,bJ h.ll hi,h.pw⟩
def Fil.new(hd:jY S d=some []):Fil S d b 0 j [] []:=⟨hd,(nofun),rfl,(nofun),(nofun),aQ _,List.Pairwise.nil⟩
def Fil.zY{P:Ps}{D:Es}(h:Fil S d b i j P D)(k:lX S T):Fil T d b i j P D:=⟨k.dct _ _ (λz=>z) h.dd,h.aa.zY k,h.ss,h.vv,h.kk,h.ll,h.pw⟩
def Fil.add{F:ae->jE->R A}(hF:Cc F){T:jE}{r:Nat}{P:Ps}{D:Es}{o:ag}{p:Pl}(h:Fil T d b i j P D)(hr:jC T r=some (pl p))(hp:p.length<=j)(ho:o≠[])(hb:b<=T.length)(hl:i * j+j<16777216)(hi:i<16777216) :
  ∃(D':Es) (T':jE),F [.ref d,.tup (o.map .int),.ref r] T=.ok .non T'/\Fil T' d b (i+1) j (zD P o p) D'/\Kp (·=d) T T':=by
 have hl0:=h.ll;obtain⟨L,T',e,h1,h2,h3,h4⟩:=hF (o:=o) h.dd h.aa h.vv hr () ();refine⟨_,T',e,⟨h1,h2,by rw[Fb,h.ss];rfl,?_,λe he=>?_,?_,h.pw.put λe he z=>by have:=nW (h.aa e he);lia⟩,h4⟩
 ·have:=h.vv.add (o:=o) (p:=p) (j:=j) hp (show b<=L by lia);rw[eY];exact this
 ·rcases rG he with z|z
  ·exact h.kk e z
  ·rw[z];exact ho
 ·have:=CF (D:=D) (o:=o) (r:=L) (p:=oG (vS (sm D) o) p)
  lia
def QC{n w:Nat}{P:Ps}{es:Es}{src:Ic}{c:Sm}(G:En->Ps->Ps)(hs:src (x0::x1::.ref d::x3::x4::xs) S=.ok (lq n (es.map ent).length) S1)(hn:jC S1 n=some (es.map ent))(hd:Fil S1 d b i0 j P D0)
  (step:∀(i:Nat) (e:En) (T:jE) (Q:Ps) (D:Es),i<es.length->e∈es->Kp (·=d) S1 T->Fil T d b (i0+w * i) j Q D->∃(D':Es) (T':jE),c (x0::x1::.ref d::.tup (e.1.map .int)::.ref e.2.1::xs) T=.nx (x0::x1::.ref d::.tup (e.1.map .int)::.ref e.2.1::xs) T'/\Fil T' d b (i0+w * (i+1)) j (G e Q) D'/\Kp (·=d) T T') :
  ∃(y3 y4:A) (D:Es) (S':jE),nj src U4 c (x0::x1::.ref d::x3::x4::xs) S=.nx (x0::x1::.ref d::y3::y4::xs) S'/\Fil S' d b (i0+w * es.length) j (es.foldl (λQ e=>G e Q) P) D/\Kp (·=d) S1 S':=by
 have hle:(es.map ent).length=es.length:=aH ..;refine tU (n:=n) (xs:=es.map ent) (S1:=S1) hs (λi τ T=>(∃y3 y4,τ=x0::x1::.ref d::y3::y4::xs)/\(∃D,Fil T d b (i0+w * i) j ((es.take i).foldl (λQ e=>G e Q) P) D)/\Kp (·=d) S1 T)
  (λr=>∃(y3 y4:A) (D:Es) (S':jE),r=.nx (x0::x1::.ref d::y3::y4::xs) S'/\Fil S' d b (i0+w * es.length) j (es.foldl (λQ e=>G e Q) P) D/\Kp (·=d) S1 S') ⟨⟨_,_,rfl⟩,⟨D0,hd⟩,Kp.refl⟩ (λi τ T h=>h.2.2.lst _ _ (cR (qC hd.dd hn)) hn) ?_ ?_
 ·rintro i z τ T hz ⟨⟨y3,y4,rfl⟩,⟨D,f⟩,kp⟩;rw[aS]at hz;obtain⟨e,he,rfl⟩:=a_.mp hz;refine⟨x0::x1::.ref d::.tup (e.1.map .int)::.ref e.2.1::xs,T,rfl,.inl ?_⟩;obtain⟨D',T',e1,f',k'⟩:=step i e T _ D (aL.mp he).1 (aZ he) kp f;refine⟨_,T',e1,⟨_,_,rfl⟩,⟨D',?_⟩,kp.trans k'⟩;rw[dD,he,dX];exact f'
 ·rintro τ T ⟨⟨y3,y4,rfl⟩,⟨D,f⟩,kp⟩;rw[hle,dJ]at f;exact⟨y3,y4,D,T,rfl,f,kp⟩
def J8(P:Ps)(es:Es):es.foldl (λQ e=>zD Q e.1 e.2.2) P=adds P (sm es):=by
 unfold adds sm;rw[jv]
def Lg(q:Pl)(P:Ps)(es:Es):es.foldl (λQ e=>zD Q e.1 (times q e.2.2)) P=adds P ((sm es).map λe=>(e.1,times q e.2)):=by
 unfold adds sm;rw[jv,jv]
def Rw{F:ae->jE->R A}(hF:Cc F){S1:jE}{n:Nat}{P:Ps}{es:Es}{src:Ic}(hs:src (x0::x1::.ref d::x3::x4::xs) S=.ok (lq n (es.map ent).length) S1)(hn:jC S1 n=some (es.map ent))(hA:At S1 es)(hd:Fil S1 d b i0 j P D0)(hb:b<=S1.length)
  (hj:∀e∈es,e.2.2.length<=j/\e.1≠[]) (hl:(i0+es.length) * j+j<16777216) (hl':i0+es.length<16777216) :
  ∃(y3 y4:A) (D:Es) (S':jE),nj src U4 (pJ (eFn F (jy (jB 2) (jy (jB 3) (jy (jB 4) jF))))) (x0::x1::.ref d::x3::x4::xs) S=.nx (x0::x1::.ref d::y3::y4::xs) S'/\Fil S' d b (i0+es.length) j (adds P (sm es)) D/\Kp (·=d) S1 S':=by
 have:=QC (w:=1) (c:=pJ (eFn F (jy (jB 2) (jy (jB 3) (jy (jB 4) jF))))) (λe Q=>zD Q e.1 e.2.2) hs hn hd λi e T Q D hi hm kp f=>by
  have hle':=kp.len;rw[jb]at f ⊢;have hmul:(i0+i) * j<=(i0+es.length) * j:=b_ _ ();obtain⟨D',T',e1,f',k'⟩:=f.add hF (o:=e.1) ((hA.Ig kp hd.dd) e hm) (hj e hm).1 (hj e hm).2 () () ();exact⟨D',T',by dsimp[kC,bools,e1],f',k'⟩
 rw[jb,J8]at this;exact this
def Et{n w:Nat}{P:Ps}{es:Es}{src:Ic}{c:Sm}{g:Tg}(Fm:A->A->ae->ae)(Z:ae->Prop)(G:En->Ps->Ps)(hg:∀(e:En) (y z:A) (xs:ae) (T:jE),g (ent e) (Fm y z xs) T=.ok (Fm (.tup (e.1.map .int)) (.ref e.2.1) xs) T)
  {x3 x4:A} {xs0:ae} (hz:Z xs0) (hs:src (Fm x3 x4 xs0) S=.ok (lq n (es.map ent).length) S1) (hn:jC S1 n=some (es.map ent)) (hd:Fil S1 d b i0 j P D0)
  (step:∀(i:Nat) (e:En) (T:jE) (Q:Ps) (D:Es) (xs:ae),i<es.length->e∈es->Z xs->Kp (·=d) S1 T->Fil T d b (i0+w * i) j Q D->∃(D':Es) (T':jE) (xs':ae),Z xs'/\c (Fm (.tup (e.1.map .int)) (.ref e.2.1) xs) T=.nx (Fm (.tup (e.1.map .int)) (.ref e.2.1) xs') T'/\Fil T' d b (i0+w * (i+1)) j (G e Q) D'/\Kp (·=d) T T') :
  ∃(y3 y4:A) (xs:ae) (D:Es) (S':jE),Z xs/\nj src g c (Fm x3 x4 xs0) S=.nx (Fm y3 y4 xs) S'/\Fil S' d b (i0+w * es.length) j (es.foldl (λQ e=>G e Q) P) D/\Kp (·=d) S1 S':=by
 have hle:(es.map ent).length=es.length:=aH ..;refine tU (n:=n) (xs:=es.map ent) (S1:=S1) hs (λi τ T=>(∃y3 y4 xs,τ=Fm y3 y4 xs/\Z xs)/\(∃D,Fil T d b (i0+w * i) j ((es.take i).foldl (λQ e=>G e Q) P) D)/\Kp (·=d) S1 T)
  (λr=>∃(y3 y4:A) (xs:ae) (D:Es) (S':jE),Z xs/\r=.nx (Fm y3 y4 xs) S'/\Fil S' d b (i0+w * es.length) j (es.foldl (λQ e=>G e Q) P) D/\Kp (·=d) S1 S') ⟨⟨_,_,_,rfl,hz⟩,⟨D0,hd⟩,Kp.refl⟩ (λi τ T h=>h.2.2.lst _ _ (cR (qC hd.dd hn)) hn) ?_ ?_
 ·rintro i z τ T hz ⟨⟨y3,y4,xs,rfl,hx⟩,⟨D,f⟩,kp⟩;rw[aS]at hz;obtain⟨e,he,rfl⟩:=a_.mp hz;refine⟨Fm (.tup (e.1.map .int)) (.ref e.2.1) xs,T,hg _ _ _ _ _,.inl ?_⟩;obtain⟨D',T',xs',hx',e1,f',k'⟩:=step i e T _ D xs (aL.mp he).1 (aZ he) hx kp f;refine⟨_,T',e1,⟨_,_,_,rfl,hx'⟩,⟨D',?_⟩,kp.trans k'⟩;rw[dD,he,dX];exact f'
 ·rintro τ T ⟨⟨y3,y4,xs,rfl,hx⟩,⟨D,f⟩,kp⟩;rw[hle,dJ]at f;exact⟨y3,y4,xs,D,T,hx,rfl,f,kp⟩
end Su
namespace Su
open Am Po PySem L2
abbrev cS (l:Ps)(o:ag)(t:Int):Int:=match l with
 | []=>0
 | e::l=>(if e.1=o then cf e.2 t else 0)+cS l o t
def vW(a b:Ps)(o:ag)(t:Int):cS (a++b) o t=cS a o t+cS b o t:=by
 induction a with
 | nil=>exact(ck _).symm
 | cons e a ih=>
  show _+cS (a++b) o t=_+_+_;rw[ih,f6]
def yo(a b:Pl)(k:Int):cf (a++b) k=cf a k+cf b k:=by
 induction a with
 | nil=>exact(ck _).symm
 | cons p a ih=>
  show _+cf (a++b) k=_+_+_;rw[ih,f6]
def NU(a b:Pl)(k:Int):cf (oG a b) k=cf a k+cf b k:=by
 unfold oG;rw[CG (tP _ (d:=[]) dB),vL,yo];show 0+_=_;rw[ck]
def pW(a b:Pl)(k:Int):cf (times a b) k=cf (Ae a b) k:=by
 unfold times;rw[CG (tP _ (d:=[]) dB),vL];show 0+_=_;rw[ck]
theorem Ju(s:Int):∀(b:Pl) (k c:Int),cf (b.map λq=>(c+q.1,s * q.2)) k=s * cf b (k-c)
 | [],k,c=>(gu s).symm
 | q::b,k,c=>by
  show(if c+q.1=k then s * q.2 else 0)+cf (b.map λq=>(c+q.1,s * q.2)) k=s * ((if q.1=k-c then q.2 else 0)+cf b (k-c));rw[Ju s b k c,jw];by_cases h:c+q.1=k
  ·rw[aK h,aK ()]
  ·rw[aI h,aI (),gu]
meta abbrev AF:Pl:=[((-1:Int),(1:Int)),((1:Int),(-1:Int))]
def ZJ(b:Pl)(k:Int):cf (times AF b) k=cf b (k+1)-cf b (k-1):=by
 rw[pW];show cf ((b.map λq=>((-1:Int)+q.1,(1:Int) * q.2))++((b.map λq=>((1:Int)+q.1,(-1:Int) * q.2))++[])) k=_;rw[bU,yo,Ju,Ju,one_mul,show k - -1=k+1 by lia]
 lia
def XC{D:Ps}{p:Pl}:vS (yq D o p) o'=if o'=o then p else vS D o':=by
 have cons:∀(e:ag×Pl) (D:Ps) (x:ag),vS (e::D) x=if e.1=x then e.2 else vS D x:=λe D x=>by
  unfold vS;rw[cN];by_cases h:e.1=x
  ·rw[bg h,aK h];rfl
  ·rw[bh h,aI h]
 unfold yq
 cases h:hS D o with
 | true=>
  rw[aK rfl]
  induction D with
  | nil=>cases h
  | cons e D ih=>
   rw[bF,cons,cons];have hc:hS (e::D) o=(decide (e.1=o) || hS D o):=rfl;rw[hc]at h;by_cases c:e.1=o
   ·rw[aK c]
    skip
    by_cases c2:o'=o
    ·rw[aK (c.trans c2.symm),aK c2]
    ·rw[aI (λz=>c2 (z.symm.trans c)),aI c2,aI (λz=>c2 (z.symm.trans c))];clear ih h hc
     induction D with
     | nil=>rfl
     | cons f D ih2=>
      rw[bF,cons,cons,ih2];by_cases c3:f.1=o
      ·rw[aK c3]
       skip
       rw[aI (λz=>c2 (z.symm.trans c3)),aI (λz=>c2 (z.symm.trans c3))]
      ·rw[aI c3]
   ·rw[aI c];rw[bh c,fZ]at h;rw[ih h];by_cases c2:e.1=o'
    ·rw[aK c2,aI (λz=>c (c2.trans z)),aK c2]
    ·rw[aI c2,aI c2]
 | false=>
  rw[aI (by simp)]
  induction D with
  | nil=>
   show vS [(o,p)] o'=_;rw[cons];by_cases c:o=o'
   ·rw[aK c,aK c.symm]
   ·rw[aI c,aI (λz=>c z.symm)]
  | cons e D ih=>
   have hc:hS (e::D) o=(decide (e.1=o) || hS D o):=rfl;rw[hc,iM]at h;rw[List.cons_append,cons,cons,ih h.2];have:=di h.1;by_cases c:e.1=o'
   ·rw[aK c,aK c,aI (λz=>this (c.trans z))]
   ·rw[aI c,aI c]
def Gh(l:Ps):∀(D:Ps) (o:ag) (t:Int),cf (vS (adds D l) o) t=cf (vS D o) t+cS l o t:=by
 induction l with
 | nil=>intro D o t;exact(c6 _).symm
 | cons e l ih=>
  intro D o t;show cf (vS (adds (zD D e.1 e.2) l) o) t=_+((if e.1=o then cf e.2 t else 0)+cS l o t);rw[ih];unfold zD;rw[XC];by_cases h:o=e.1
  ·rw[aK h,aK h.symm,NU,h,f6]
  ·rw[aI h,aI (λz=>h z.symm),ck]
structure Gd (D:Ps):Prop where
 nd:(D.map Prod.fst).Nodup
 ok:∀e∈D,Ok e.2
def Xf{D:Ps}{o:ag}:hS D o=true ↔ o∈D.map Prod.fst:=by
 unfold hS;rw[gr,bA];constructor
 ·rintro⟨p,h1,h2⟩;exact⟨p,h1,bL h2⟩
 ·rintro⟨p,h1,h2⟩;exact⟨p,h1,bg h2⟩
def JO{D:Ps}{o:ag}{p:Pl}:(yq D o p).map Prod.fst=if hS D o=true then D.map Prod.fst else D.map Prod.fst++[o]:=by
 unfold yq;split
 ·rw[bq];apply cK;intro e _;show(if e.1=o then(e.1,p)else e).1=e.1;split<;>rfl
 ·rw[bX];rfl
def Gd.put{D:Ps}{p:Pl}(h:Gd D)(hp:Ok p):Gd (yq D o p):=by
 refine⟨?_,λe he=>?_⟩
 ·rw[JO];split
  ·exact h.nd
  ·rename_i c;rw[dW];refine⟨h.nd,cj _ _,λa ha b hb z=>c ?_⟩;rw[aV]at hb;rw[Xf,<- hb,<- z];exact ha
 ·unfold yq at he;split at he
  ·obtain⟨f,hf,rfl⟩:=bA.mp he;split
   ·exact hp
   ·exact h.ok f hf
  ·rcases bI.mp he with z|z
   ·exact h.ok e z
   ·rw[aV.mp z];exact hp
theorem Gd.adds(l:Ps):∀{D:Ps},Gd D->Gd (adds D l):=by
 induction l with
 | nil=>intro D h;exact h
 | cons e l ih=>intro D h;exact ih (h.put (D9 _ _))
def Gd.nil:Gd []:=⟨dB,nofun⟩
def uM{D:Ps}:(∃e∈D,e.1=o/\vS D o=e.2)\/(o∉D.map Prod.fst/\vS D o=[]):=by
 unfold vS
 cases h:D.find? λe=>decide (e.1=o)with
 | some e=>
  have h1:=iP h;exact .inl ⟨e,gw h,by simpa using h1,rfl⟩
 | none=>
  refine .inr ⟨λz=>?_,rfl⟩;obtain⟨e,he,ee⟩:=bA.mp z;exact gP.mp h e he (bg ee)
def Gd.v{D:Ps}(h:Gd D)(o:ag):Ok (vS D o):=by
 rcases uM (D:=D) (o:=o)with⟨e,h1,_,h2⟩|⟨_,h2⟩
 ·rw[h2];exact h.ok e h1
 ·rw[h2];exact⟨List.Pairwise.nil,nofun⟩
def Ct.anti{a:ag}(h1:Ct a b)(h2:Ct b a):a=b:=(Sx.vf h1 h2).symm
def RW{D:Ps}(h:Gd D)(h':Gd E)(hv:∀o,vS D o=vS E o):toS D=toS E:=by
 have key:∀(D:Ps),Gd D->∀o,o∈(l_ (D.map Prod.fst)).filter (λo=>!(vS D o).isEmpty) ↔ (vS D o)≠[]:=λD h o=>by
  rw[cQ,(jX _).mem_iff];constructor
  ·rintro⟨_,h2⟩ z;rw[z]at h2;cases h2
  ·intro z;refine⟨?_,by cases e:vS D o with|nil=>exact absurd e z|cons=>rfl⟩
   rcases uM (D:=D) (o:=o)with⟨e,h1,h2,_⟩|⟨_,h2⟩
   ·exact bA.mpr ⟨e,h1,h2⟩
   ·exact absurd h2 z
 have pw:∀(D:Ps),((l_ (D.map Prod.fst)).filter (λo=>!(vS D o).isEmpty)).Pairwise Ct:=λD=>(q_ _).filter _;have nd:∀(D:Ps),Gd D->((l_ (D.map Prod.fst)).filter (λo=>!(vS D o).isEmpty)).Nodup:=λD h=>((jX _).nodup_iff.mpr h.nd).filter _;have e:(l_ (D.map Prod.fst)).filter (λo=>!(vS D o).isEmpty)=(l_ (E.map Prod.fst)).filter (λo=>!(vS E o).isEmpty):=by
  refine dO (λa b _ _ h1 h2=>Ct.anti h1 h2) (pw D) (pw E) ((iX (nd D h) (nd E h')).mpr λo=>?_);rw[key D h,key E h',hv]
 unfold toS;rw[e];apply cK;intro o _;rw[hv]
def EM{D:Ps}(h:Gd D)(h':Gd E)(hc:∀o t,cf (vS D o) t=cf (vS E o) t):toS D=toS E:=RW h h' λo=>uniq (h.v o) (h'.v o) (hc o)
theorem Gp{f:ag->Pl}{o:ag}{t:Int}:∀{ks:List (ag)},ks.Nodup->cS (ks.map λk=>(k,f k)) o t=if o∈ks then cf (f o) t else 0
 | [],_=>by rw[aI (by simp)];rfl
 | j::ks,h=>by
  obtain⟨h1,h2⟩:=cM.mp h;show(if j=o then cf (f j) t else 0)+cS (ks.map λk=>(k,f k)) o t=_;rw[Gp h2];by_cases c:j=o
  ·subst c;rw[aK rfl,aI h1,aK (aM ..),c6]
  ·rw[aI c,ck];by_cases e:o∈ks
   ·rw[aK e,aK (aN _ e)]
   ·rw[aI e,aI λz=>(bD.mp z).elim (λz=>c z.symm) e]
def zy{D:Ps}(h:Gd D)(o:ag)(t:Int):cS (toS D) o t=cf (vS D o) t:=by
 unfold toS;rw[Gp (((jX _).nodup_iff.mpr h.nd).filter _)];split
 ·rfl
 ·rename_i c
  rcases uM (D:=D) (o:=o)with⟨e,h1,h2,h3⟩|⟨_,h2⟩
  ·by_cases z:vS D o=[]
   ·rw[z];rfl
   ·refine absurd (cQ.mpr ⟨(jX _).mem_iff.mpr (bA.mpr ⟨e,h1,h2⟩),?_⟩) c
    cases e:vS D o with|nil=>exact absurd e z|cons=>rfl
  ·rw[h2];rfl
abbrev nB (o:ag)(k:Nat):Bool:=decide (o.getD (k-1) 0>o.getD k 0)
abbrev QU (k:Nat)(l:Ps):Ps:=l.flatMap λe=>(Wd.ex e.1 k,e.2)::(if nB e.1 k=true then[(e.1,times AF e.2)]else[])
abbrev bx (k:Nat)(l:Ps):Ps:=toS (adds [] (QU k l))
abbrev Go (N k:Nat)(o:ag):Prop:=o.length=N/\o.getD (k-1) 0≠o.getD k 0
def LH{N k:Nat}{o:ag}(h:o.length=N)(h1:1<=k)(h2:k<N):Wd.ex (Wd.ex o k) k=o:=Fw.xE h1 ()
def Ue{k:Nat}{o:ag}(h1:1<=k)(h2:k<o.length):(Wd.ex o k).getD (k-1) 0=o.getD k 0/\(Wd.ex o k).getD k 0=o.getD (k-1) 0:=by
 constructor
 ·rw[aJ,Wd.oV h1 h2,aI (),aK rfl,aJ]
 ·rw[aJ,Wd.oV h1 h2,aK rfl,aJ]
def Go.ex{N k:Nat}(h:Go N k o)(h1:1<=k)(h2:k<N):Go N k (Wd.ex o k)/\nB (Wd.ex o k) k=!nB o k:=by
 obtain⟨hl,hn⟩:=h;obtain⟨e1,e2⟩:=Ue (o:=o) h1 ();refine⟨⟨by rw[Wd.mW];exact hl,by rw[e1,e2];exact λz=>hn z.symm⟩,?_⟩;unfold nB;rw[e1,e2];by_cases c:o.getD (k-1) 0>o.getD k 0
 ·rw[bg c,bh ()];rfl
 ·rw[bh c,bg ()];rfl
def IZ{l:Ps}{t:Int}(h:∀e∈l,e.1≠o):cS l o t=0:=by
 induction l with
 | nil=>rfl
 | cons e l ih=>
  show(if e.1=o then _ else 0)+cS l o t=0;rw[aI (h e (aM ..)),ih λf hf=>h f (aN _ hf)];rfl
theorem Tz{N k:Nat}(h1:1<=k)(h2:k<N):∀{l:Ps},(∀e∈l,Go N k e.1)->∀{o:ag}(t:Int),Go N k o->cS (QU k l) o t=cS l (Wd.ex o k) t+(if nB o k=true then cS l o (t+1)-cS l o (t-1)else 0)
 | [],_,o,t,_=>by show(0:Int)=0+if _ then(0:Int)-0 else 0;split<;>rfl
 | e::l,h,o,t,ho=>by
  have he:=h e (aM ..);have ih:=Tz h1 h2 (l:=l) (λf hf=>h f (aN _ hf)) t ho;have hx:(Wd.ex e.1 k=o) ↔ (e.1=Wd.ex o k):=⟨λz=>by rw[<- z,LH he.1 h1 h2],λz=>by rw[z,LH ho.1 h1 h2]⟩;show cS (((Wd.ex e.1 k,e.2)::(if nB e.1 k=true then[(e.1,times AF e.2)]else[]))++QU k l) o t=_;rw[vW,ih];show(if Wd.ex e.1 k=o then cf e.2 t else 0)+cS (if nB e.1 k=true then[(e.1,times AF e.2)]else[]) o t+_=((if e.1=Wd.ex o k then cf e.2 t else 0)+cS l (Wd.ex o k) t)+(if nB o k=true then((if e.1=o then cf e.2 (t+1)else 0)+cS l o (t+1))-((if e.1=o then cf e.2 (t-1)else 0)+cS l o (t-1))else 0);have h3:cS (if nB e.1 k=true then[(e.1,times AF e.2)]else[]) o t=if nB o k=true then((if e.1=o then cf e.2 (t+1)else 0)-(if e.1=o then cf e.2 (t-1)else 0))else 0:=by
   by_cases c:e.1=o
   ·rw[c,aK rfl,aK rfl]
    cases nB o k with
    | false=>rfl
    | true=>
     rw[aK rfl,aK rfl];show(if o=o then cf (times AF e.2) t else 0)+0=_;rw[aK rfl,ZJ,c6]
   ·rw[aI c,aI c];have:cS (if nB e.1 k=true then[(e.1,times AF e.2)]else[]) o t=0:=IZ λf hf=>by
     split at hf
     ·rw[aV.mp hf];exact c
     ·cases hf
    rw[this];split<;>rfl
  rw[h3];by_cases c:Wd.ex e.1 k=o
  ·rw[aK c,aK (hx.mp c)];split<;>lia
  ·rw[aI c,aI (λz=>c (hx.mpr z))];split<;>lia
def wQ{P:ag->Prop}(l:Ps):∀{D:Ps},(∀e∈D,P e.1)->(∀e∈l,P e.1)->∀e∈adds D l,P e.1:=by
 induction l with
 | nil=>intro D h _;exact h
 | cons f l ih=>
  intro D h h';refine ih (λe he=>?_) λe he=>h' e (aN _ he);have he:e∈yq D f.1 (oG (vS D f.1) f.2):=he;unfold yq at he;split at he
  ·obtain⟨g,hg,rfl⟩:=bA.mp he;split
   ·exact h g hg
   ·exact h g hg
  ·rcases bI.mp he with z|z
   ·exact h e z
   ·rw[aV.mp z];exact h' f (aM ..)
def zx{P:ag->Prop}{D:Ps}(h:∀e∈D,P e.1):∀e∈toS D,P e.1:=λe he=>by
 obtain⟨o,ho,rfl⟩:=bA.mp he;obtain⟨f,hf,e⟩:=bA.mp ((jX _).mem_iff.mp (cQ.mp ho).1)
 skip
 rw[<- e];exact h f hf
abbrev gX (k:Nat)(e:En)(Q:Ps):Ps:=if nB e.1 k=true then zD (zD Q (Wd.ex e.1 k) e.2.2) e.1 (times AF e.2.2)else zD Q (Wd.ex e.1 k) e.2.2
theorem GX(k:Nat):∀(es:Es) (P:Ps),es.foldl (λQ e=>gX k e Q) P=adds P (QU k (sm es))
 | [],P=>rfl
 | e::es,P=>by
  show es.foldl (λQ e=>gX k e Q) (gX k e P)=adds P (((Wd.ex e.1 k,e.2.2)::(if nB e.1 k=true then[(e.1,times AF e.2.2)]else[]))++QU k (sm es));rw[GX k es,C9];congr 1;unfold gX
  cases nB e.1 k<;>rfl
def YX{p:Pl}(h:Ok p)(hb:Bd C p)(t:Int):(cf p t).natAbs<=C:=by
 rw[<- Lo h.nd];exact hb.val t
def Ok.FY{l:Pl}(h:Ok l){p:Int×Int}(hp:p∈l):cf l p.1=p.2:=by
 induction l with
 | nil=>cases hp
 | cons q l ih=>
  rcases bD.mp hp with z|z
  ·rw[z];exact h.head
  ·show(if q.1=p.1 then q.2 else 0)+cf l p.1=p.2;have:=(bR.mp h.up).1 p z;rw[aI (),ih h.tail z,ck]
end Su
namespace He
open PySem L2 Am
open Fw (Two rg Fj)
open Bl (pP)
open Su (nB)
meta abbrev Fn:=ag->Int->Int
abbrev dl (g:Int->Int)(t:Int):Int:=g (t+1)-g (t-1)
abbrev X (k:Nat)(f:Fn):Fn:=λo t=>f (Wd.ex o k) t+if nB o k=true then dl (f o) t else 0
def qX{n:Nat}{v:ag}(h:Two n o u)(h':Two n o v):u=v:=by
 have l1:=h.lu;have l2:=h'.lu;have l3:=h.lo;apply dc;intro q;by_cases hq:q<n
 ·obtain⟨p,hp,ep⟩:∃p,∃hp:p<o.length,o[p]=(q:Int)+1:=by
   have:(q:Int)+1∈o:=h.po.mem_iff.mpr (pN.mpr ⟨(),()⟩);obtain⟨p,hp,ep⟩:=List.getElem_of_mem this;exact⟨p,hp,ep⟩
  have a1:=h.ou.2 p hp;have a2:=h'.ou.2 p hp;rw[ep,show((q:Int)+1-1).toNat=q by lia]at a1 a2;rw[a1,a2]
 ·rw[cF (),cF ()]
abbrev bk (o:ag):ag:=(List.range o.length).map λi:Nat=>((o.idxOf ((i:Int)+1):Nat):Int)+1
def oO{n:Nat}{o:ag}(h:o.Perm (rg n)):Two n o (bk o):=by
 have lo:o.length=n:=by rw[h.length_eq,Wd.jV]
 have nd:o.Nodup:=h.nodup_iff.mpr (pU _ _);have mem:∀i,i<n->(i:Int)+1∈o:=λi hi=>h.mem_iff.mpr (pN.mpr ⟨(),()⟩);have ix:∀i,i<n->o.idxOf ((i:Int)+1)<n:=λi hi=>by rw[<- lo];exact fC.mpr (mem i hi)
 have get:∀i (hi:i<n),o[o.idxOf ((i:Int)+1)]'(by rw[lo];exact ix i hi)=(i:Int)+1:=λi hi=>iZ _;refine⟨h,?_,?_,λp hp=>?_⟩
 ·have p:=Am.rP (N:=n) (g:=λi=>o.idxOf ((i:Int)+1)) ix λi j hij hj z=>by
   have a:=get i ();have b:=get j hj;dsimp[z]at a;rw[b]at a
   lia
  have p2:=p.map λi:Nat=>(i:Int)+1;rw[bq]at p2;unfold bk;rw[lo];refine List.Perm.trans p2 ?_;have:(List.range n).map (λi:Nat=>(i:Int)+1)=rg n:=by
   apply dc;intro q;rw[aS];by_cases c:q<n
   ·rw[eg c,Wd.qh c];rfl
   ·rw[cF (by rw[cE];lia),cF (by rw[Wd.jV];lia)];rfl
  rw[this]
 ·unfold bk;rw[aH,cE]
 ·have m:=pN.mp (h.mem_iff.mp (dI hp));have hq:(o[p]-1).toNat<o.length:=()
  unfold bk;rw[aS,eg hq];show some (((o.idxOf (((o[p]-1).toNat:Int)+1):Nat):Int)+1)=_;rw[show((o[p]-1).toNat:Int)+1=o[p]by lia,nd.idxOf_getElem]
def sR{n:Nat}{o:ag}(h:o.Perm (rg n)):bk (bk o)=o:=qX (oO (oO h).pu) (oO h).flip
def pq{n:Nat}{o:ag}(h:o.Perm (rg n)):(bk o).Perm (rg n):=(oO h).pu
def TV{n k:Nat}{o:ag}(h:o.Perm (rg n))(h0:1<=k)(h1:k<n):bk (o.map (Wd.sw k))=Wd.ex (bk o) k:=by
 have t:=(oO h).step h0 h1;exact qX (oO t.po) t
def Zp{n k:Nat}{o:ag}(h:o.Perm (rg n))(h0:1<=k)(h1:k<n):bk (Wd.ex o k)=(bk o).map (Wd.sw k):=by
 have t:=((oO h).flip.step h0 h1).flip;exact qX (oO t.po) t
def tZ{n k p:Nat}{o u:ag}(t:Two n o u)(h1:1<=k)(h2:k<=n)(hp:o.getD p 0=(k:Int))(hpn:p<n):u.getD (k-1) 0=(p:Int)+1:=by
 have lo:=t.lo;have lp:p<o.length:=()
 have:=t.ou.2 p lp;rw[Wd.mP lp]at hp;rw[hp,show((k:Int)-1).toNat=k-1 by lia]at this;rw[aJ,this];rfl
def nb{n k:Nat}{o:ag}(h:o.Perm (rg n))(h0:1<=k)(h1:k<n):o.getD (k-1) 0≠o.getD k 0:=λz=>by
 have lo:o.length=n:=by rw[h.length_eq,Wd.jV]
 have nd:o.Nodup:=h.nodup_iff.mpr (pU _ _);rw[Wd.mP (),Wd.mP ()]at z;have:=(dj nd).mp z
 lia
abbrev Pr (o:ag)(k j:Nat):Prop:=(o.getD (k-1) 0=j/\o.getD k 0=(j:Int)+1)\/(o.getD (k-1) 0=(j:Int)+1/\o.getD k 0=j)
def MX{n k:Nat}{u:ag}(h:u.Perm (rg n))(h0:1<=j)(h1:j<n):(Pr u j k->nB (u.map (Wd.sw k)) j=!nB u j)/\(¬Pr u j k->nB (u.map (Wd.sw k)) j=nB u j):=by
 have lu:u.length=n:=by rw[h.length_eq,Wd.jV]
 have ne:=nb h h0 h1;have e1:(u.map (Wd.sw k)).getD (j-1) 0=Wd.sw k (u.getD (j-1) 0):=by
  rw[Wd.mP (by rw[aH];lia),Wd.mP (),c5]
 have e2:(u.map (Wd.sw k)).getD j 0=Wd.sw k (u.getD j 0):=by
  rw[Wd.mP (by rw[aH];lia),Wd.mP (),c5]
 unfold nB Pr;rw[e1,e2];generalize u.getD (j-1) 0=a at *
 generalize u.getD j 0=b at *
 constructor
 ·rintro(⟨z1,z2⟩|⟨z1,z2⟩)
  ·subst z1;subst z2;unfold Wd.sw;rw[aK rfl,aI (),aK rfl,bg (),bh ()];rfl
  ·subst z1;subst z2;unfold Wd.sw;rw[aI (),aK rfl,aK rfl,bh (),bg ()];rfl
 ·intro z;rw[jh];unfold Wd.sw;split<;>split<;>(try split)<;>(try split)<;>lia
def xJ{n k:Nat}(t:Two n o u)(h0:1<=k)(h1:k<n)(h2:1<=j)(h3:j<n)(h:Pr o k j):Pr u j k:=by
 rcases h with⟨z1,z2⟩|⟨z1,z2⟩
 ·have a:=tZ t h2 () z1 ();have b:=tZ t (k:=j+1) () () (by rw[z2];lia) h1;rw[Nat.add_sub_cancel]at b;exact .inl ⟨by rw[a];lia,by rw[b]⟩
 ·have a:=tZ t (k:=j+1) () () (by rw[z1];lia) (show k-1<n by lia);have b:=tZ t h2 () z2 h1;rw[Nat.add_sub_cancel]at a;exact .inr ⟨by rw[b],by rw[a];lia⟩
def Wh{n k:Nat}(t:Two n o u)(h0:1<=k)(h1:k<n)(h2:1<=j)(h3:j<n)(h:Pr o k j):nB u j=nB o k:=by
 have a:∀x y:ag,∀i m:Nat,x.getD (i-1) 0=(m:Int)->x.getD i 0=(m:Int)+1->nB x i=false:=λx y i m p q=>by
  unfold nB;rw[p,q];exact bh ()
 have b:∀x y:ag,∀i m:Nat,x.getD (i-1) 0=(m:Int)+1->x.getD i 0=(m:Int)->nB x i=true:=λx y i m p q=>by
  unfold nB;rw[p,q];exact bg ()
 rcases h with⟨z1,z2⟩|⟨z1,z2⟩
 ·rw[a o [] k j z1 z2]
  rcases xJ t h0 h1 h2 h3 (.inl ⟨z1,z2⟩)with⟨y1,y2⟩|⟨y1,y2⟩
  ·exact a u [] j k y1 y2
  ·have:=tZ t h2 () z1 ();lia
 ·rw[b o [] k j z1 z2]
  rcases xJ t h0 h1 h2 h3 (.inr ⟨z1,z2⟩)with⟨y1,y2⟩|⟨y1,y2⟩
  ·have:=tZ t h2 () z2 h1;lia
  ·exact b u [] j k y1 y2
abbrev L (j:Nat)(f:Fn):Fn:=λo t=>f (o.map (Wd.sw j)) t+if nB (bk o) j=true then dl (f o) t else 0
def Sw{n k:Nat}{o:ag}(h:o.Perm (rg n))(h0:1<=k)(h1:k<n)(hp:Pr o k j):o.map (Wd.sw j)=Wd.ex o k:=by
 have lo:o.length=n:=by rw[h.length_eq,Wd.jV]
 have nd:o.Nodup:=h.nodup_iff.mpr (pU _ _);apply dc;intro p;rw[Wd.oV h0 (),aS];unfold Pr at hp;rw[Wd.mP (),Wd.mP ()]at hp;by_cases c1:p=k
 ·subst c1;rw[aK rfl,aG (),aG (),dY];congr 1;unfold Wd.sw
  rcases hp with⟨z1,z2⟩|⟨z1,z2⟩
  ·rw[z1,z2,aI (),aK rfl]
  ·rw[z1,z2,aK rfl]
 ·rw[aI c1];by_cases c2:p=k-1
  ·subst c2;rw[aK rfl,aG (),aG (),dY];congr 1;unfold Wd.sw
   rcases hp with⟨z1,z2⟩|⟨z1,z2⟩
   ·rw[z1,z2,aK rfl]
   ·rw[z1,z2,aI (),aK rfl]
  ·rw[aI c2];by_cases c3:p<o.length
   ·rw[aG c3,dY];congr 1;have n1:o[p]≠o[k]:=λz=>c1 ((dj nd).mp z);have n2:o[p]≠o[k-1]:=λz=>c2 ((dj nd).mp z);unfold Wd.sw
    rcases hp with⟨z1,z2⟩|⟨z1,z2⟩
    ·rw[aI (by rw[<- z1];exact n2),aI (by rw[<- z2];exact n1)]
    ·rw[aI (by rw[<- z2];exact n1),aI (by rw[<- z1];exact n2)]
   ·rw[cF ()];rfl
def UQ(j:Nat)(o:ag):(o.map (Wd.sw j)).map (Wd.sw j)=o:=by
 rw[bq];have:(Wd.sw j ∘ Wd.sw j)=id:=funext λx=>by
  show Wd.sw j (Wd.sw j x)=x;unfold Wd.sw;split<;>(try split)<;>(try split)<;>lia
 rw[this,jx]
def comm{n k:Nat}(f:Fn){o:ag}(h:o.Perm (rg n))(h0:1<=k)(h1:k<n)(h2:1<=j)(h3:j<n)(t:Int):X k (L j f) o t=L j (X k f) o t:=by
 have lo:o.length=n:=by rw[h.length_eq,Wd.jV]
 have tw:=oO h;have e1:(Wd.ex o k).map (Wd.sw j)=Wd.ex (o.map (Wd.sw j)) k:=(Wd.ex_map _ h0 ()).symm;have e2:=Zp h h0 h1;have f1:=MX (k:=j) h h0 h1;have f2:=MX (k:=k) tw.pu h2 h3;unfold X L dl;dsimp only;rw[e1,e2];by_cases c:Pr o k j
 ·have c':=xJ tw h0 h1 h2 h3 c;have e3:=Sw h h0 h1 c;rw[f1.1 c,f2.1 c',Wh tw h0 h1 h2 h3 c,<- e3]
 ·have c':¬Pr (bk o) j k:=λz=>c (xJ tw.flip h2 h3 h0 h1 z);rw[f1.2 c,f2.2 c']
  cases nB o k<;>cases nB (bk o) j
  ·dsimp[bz,bY]
  ·dsimp[bz,cI,bY];lia
  ·dsimp[bz,cI,bY];lia
  ·dsimp[cI];lia
abbrev mz (n:Nat)(f g:Fn):Prop:=∀o:ag,o.Perm (rg n)->∀t,f o t=g o t
def mz.refl{n:Nat}{f:Fn}:mz n f f:=λ_ _ _=>rfl
def mz.symm{n:Nat}{f g:Fn}(h:mz n f g):mz n g f:=λo p t=>(h o p t).symm
def mz.trans{n:Nat}{f g e:Fn}(h:mz n f g)(h':mz n g e):mz n f e:=λo p t=>(h o p t).trans (h' o p t)
def qe{n k:Nat}{o:ag}(h:o.Perm (rg n))(h0:1<=k)(h1:k<n):(Wd.ex o k).Perm (rg n):=(Wd.BB h0 (by rw[h.length_eq,Wd.jV];exact h1)).trans h
def Uo{n k:Nat}{o:ag}(h:o.Perm (rg n))(h0:1<=k)(h1:k<n):(o.map (Wd.sw k)).Perm (rg n):=((oO h).step h0 h1).po
def J9{n k:Nat}{f g:Fn}(h:mz n f g)(h0:1<=k)(h1:k<n):mz n (X k f) (X k g):=λo p t=>by
 unfold X dl;rw[h _ (qe p h0 h1),h o p,h o p]
def aat{n k:Nat}{f g:Fn}(h:mz n f g)(h0:1<=k)(h1:k<n):mz n (L k f) (L k g):=λo p t=>by
 unfold L dl;rw[h _ (Uo p h0 h1),h o p,h o p]
abbrev Va (n:Nat)(w:am):Prop:=∀k∈w,1<=k/\k<n
abbrev Xw (w:am)(f:Fn):Fn:=w.foldl (λf k=>X k f) f
abbrev Lw (w:am)(f:Fn):Fn:=w.foldl (λf k=>L k f) f
theorem xj{n:Nat}:∀{w:am}{f g:Fn},Va n w->mz n f g->mz n (Xw w f) (Xw w g)
 | [],_,_,_,h=>h
 | k::w,_,_,v,h=>xj (w:=w) (λj hj=>v j (aN _ hj)) (J9 h (v k (aM ..)).1 (v k (aM ..)).2)
theorem zB{n:Nat}:∀{w:am}{f g:Fn},Va n w->mz n f g->mz n (Lw w f) (Lw w g)
 | [],_,_,_,h=>h
 | k::w,_,_,v,h=>zB (w:=w) (λj hj=>v j (aN _ hj)) (aat h (v k (aM ..)).1 (v k (aM ..)).2)
theorem Yu{n:Nat}(h2:1<=j)(h3:j<n):∀{w:am}{f:Fn},Va n w->mz n (Xw w (L j f)) (L j (Xw w f))
 | [],_,_=>.refl
 | k::w,f,v=>by
  have v1:=v k (aM ..);have v2:Va n w:=λj hj=>v j (aN _ hj)
  skip
  exact(xj v2 (λo p t=>comm f p v1.1 v1.2 h2 h3 t)).trans (Yu h2 h3 v2)
theorem NW{n:Nat}{w:am}(v:Va n w):∀{u:am}{f:Fn},Va n u->mz n (Xw w (Lw u f)) (Lw u (Xw w f))
 | [],_,_=>.refl
 | j::u,f,vu=>by
  have v1:=vu j (aM ..);have v2:Va n u:=λi hi=>vu i (aN _ hi)
  skip
  exact(NW v v2).trans (zB v2 (Yu v1.1 v1.2 v))
abbrev D (u:ag)(g:Int->Int):Fn:=λo t=>if o=u then g t else 0
def X_D{n k:Nat}{u:ag}(g:Int->Int)(hu:u.Perm (rg n))(h0:1<=k)(h1:k<n):mz n (X k (D u g)) λo t=>D (Wd.ex u k) g o t+if nB u k=true then D u (dl g) o t else 0:=λo p t=>by
 have lo:o.length=n:=by rw[p.length_eq,Wd.jV]
 have lu:u.length=n:=by rw[hu.length_eq,Wd.jV]
 have iff:Wd.ex o k=u ↔ o=Wd.ex u k:=⟨λz=>by rw[<- z,Fw.xE h0 ()],λz=>by rw[z,Fw.xE h0 ()]⟩;unfold X D dl;dsimp only;by_cases c:o=u
 ·subst c;rw[aK rfl,aK rfl,aK rfl];congr 1;by_cases c2:Wd.ex o k=o
  ·rw[aK c2,aK c2.symm]
  ·rw[aI c2,aI (λz=>c2 z.symm)]
 ·rw[aI c,aI c,aI c];congr 1
  ·by_cases c2:Wd.ex o k=u
   ·rw[aK c2,aK (iff.mp c2)]
   ·rw[aI c2,aI (λz=>c2 (iff.mpr z))]
  ·split<;>split<;>rfl
def L_D{n k:Nat}{u:ag}(g:Int->Int)(hu:u.Perm (rg n))(h0:1<=k)(h1:k<n):mz n (L k (D u g)) λo t=>D (u.map (Wd.sw k)) g o t+if nB (bk u) k=true then D u (dl g) o t else 0:=λo p t=>by
 have iff:o.map (Wd.sw k)=u ↔ o=u.map (Wd.sw k):=⟨λz=>by rw[<- z,UQ],λz=>by rw[z,UQ]⟩;unfold L D dl;dsimp only;by_cases c:o=u
 ·subst c;rw[aK rfl,aK rfl,aK rfl];congr 1;by_cases c2:o.map (Wd.sw k)=o
  ·rw[aK c2,aK c2.symm]
  ·rw[aI c2,aI (λz=>c2 z.symm)]
 ·rw[aI c,aI c,aI c];congr 1
  ·by_cases c2:o.map (Wd.sw k)=u
   ·rw[aK c2,aK (iff.mp c2)]
   ·rw[aI c2,aI (λz=>c2 (iff.mpr z))]
  ·split<;>split<;>rfl
def CS{l:ag}{k:Nat}(h:l.getD (k-1) 0<l.getD k 0):nB l k=false:=bh ()
theorem SK{n:Nat}{g:Int->Int}:∀{w:am}{u:ag},u.Perm (rg n)->Wd.ku u w->mz n (Xw w (D u g)) (D (Wd.led u w) g)
 | [],_,_,_=>.refl
 | k::w,u,hu,h=>by
  obtain⟨h1,h2,h3,h4⟩:=h;have lu:u.length=n:=by rw[hu.length_eq,Wd.jV]
  have pu:=qe hu h1 ();have e:mz n (X k (D u g)) (D (Wd.ex u k) g):=(X_D g hu h1 ()).trans λo p t=>by
   dsimp only;rw[CS h3,aI (by simp),c6]
  have v:Va n w:=λj hj=>by
   have:=Wd.ku.valid h4 j hj;rw[Wd.mW,lu]at this;exact this
  skip
  exact(xj v e).trans (SK pu h4)
theorem VW{n:Nat}{g:Int->Int}:∀{w:am}{u:ag},u.Perm (rg n)->Wd.ku (bk u) w->∃v:ag,v.Perm (rg n)/\bk v=Wd.led (bk u) w/\mz n (Lw w (D u g)) (D v g)
 | [],u,hu,_=>⟨u,hu,rfl,.refl⟩
 | k::w,u,hu,h=>by
  obtain⟨h1,h2,h3,h4⟩:=h;have lb:(bk u).length=n:=by rw[(pq hu).length_eq,Wd.jV]
  have pu:=Uo hu h1 ();have eb:bk (u.map (Wd.sw k))=Wd.ex (bk u) k:=TV hu h1 ();have e:mz n (L k (D u g)) (D (u.map (Wd.sw k)) g):=(L_D g hu h1 ()).trans λo p t=>by
   dsimp only;rw[CS h3,aI (by simp),c6]
  have v:Va n w:=λj hj=>by
   have:=Wd.ku.valid h4 j hj;rw[Wd.mW,lb]at this;exact this
  rw[<- eb]at h4;obtain⟨x,x1,x2,x3⟩:=VW (g:=g) pu h4;refine⟨x,x1,?_,(zB v e).trans x3⟩;rw[x2,eb];rfl
def vt(n:Nat):(rg n).Perm (rg n):=.refl _
theorem tY{n:Nat}:∀(m:Nat) {u:ag},u.Perm (rg n)->Iv.inv u=m->∃w,Wd.ku (rg n) w/\Wd.led (rg n) w=u
 | 0,u,hu,hm=>by
  refine⟨[],trivial,(Fw.Og hu λk hk=>?_).symm⟩;have:=Fw.sA hk.1 hk.2.1 hk.2.2
  lia
 | m+1,u,hu,hm=>by
  obtain⟨k,hk⟩:=Fw.IY (l:=u) ();have lu:u.length=n:=by rw[hu.length_eq,Wd.jV]
  have hd:=Fw.sA hk.1 hk.2.1 hk.2.2;obtain⟨w,h1,h2⟩:=tY m (qe hu hk.1 (by rw[<- lu];exact hk.2.1)) ();obtain⟨e1,e2⟩:=Su.Ue (o:=u) hk.1 hk.2.1;refine⟨w++[k],Wd.ku.snoc h1 hk.1 (by rw[Wd.jV,<- lu];exact hk.2.1) (by rw[h2,e1,e2];exact hk.2.2),?_⟩;rw[Wd.xX,h2];exact Fw.xE hk.1 hk.2.1
def Ir(n:Nat):bk (rg n)=rg n:=by
 refine qX (oO (vt n)) ⟨vt n,vt n,rfl,λp hp=>?_⟩;have hp':p<n:=by rw[Wd.jV]at hp;exact hp
 have e:=Wd.qh hp';rw[aG hp]at e;have e:=aW e;rw[show((rg n)[p]-1).toNat=p by rw[e];lia];exact Wd.qh hp'
def QM{n:Nat}{u:ag}(hu:u.Perm (rg n)):∃v,Va n v/\∀g,mz n (Lw v (D (rg n) g)) (D u g):=by
 obtain⟨w,h1,h2⟩:=tY _ (pq hu) rfl;have v:Va n w:=λk hk=>by have:=Wd.ku.valid h1 k hk;rwa [Wd.jV]at this
 refine⟨w,v,λg=>?_⟩;have h1':Wd.ku (bk (rg n)) w:=by rw[Ir];exact h1
 obtain⟨x,x1,x2,x3⟩:=VW (g:=g) (vt n) h1';rw[Ir,h2]at x2;have:x=u:=by rw[<- sR x1,x2,sR hu]
 rw[<- this];exact x3
def Wc{n:Nat}{w:am}(h:Wd.ku (rg n) w)(h':Wd.ku (rg n) w')(e:Wd.led (rg n) w=Wd.led (rg n) w'){u:ag}(hu:u.Perm (rg n))(g:Int->Int):mz n (Xw w (D u g)) (Xw w' (D u g)):=by
 obtain⟨v,v1,v2⟩:=QM hu;have a:∀{w:am},Wd.ku (rg n) w->mz n (Xw w (D u g)) (Lw v (D (Wd.led (rg n) w) g)):=λ{w} h=>by
  have vw:Va n w:=λk hk=>by have:=Wd.ku.valid h k hk;rwa [Wd.jV]at this
  exact(xj vw (v2 g).symm).trans ((NW vw v1).trans (zB v1 (SK (vt n) h)))
 refine(a h).trans ?_;rw[e];exact(a h').symm
abbrev add (f g:Fn):Fn:=λo t=>f o t+g o t
def Ui(k:Nat)(f g:Fn):X k (add f g)=add (X k f) (X k g):=by
 funext o t
 unfold X add dl;dsimp only;split<;>lia
theorem BI:∀(w:am) (f g:Fn),Xw w (add f g)=add (Xw w f) (Xw w g)
 | [],_,_=>rfl
 | k::w,f,g=>by
  show Xw w (X k (add f g))=_;rw[Ui,BI w];rfl
def MB(k:Nat):X k (λ_ _=>0)=λ_ _=>0:=by
 funext o t
 unfold X dl;split<;>rfl
theorem xR:∀w:am,Xw w (λ_ _=>0)=λ_ _=>0
 | []=>rfl
 | k::w=>by
  show Xw w (X k _)=_;rw[MB,xR w]
def vJ(e:ag×Po.Pl)(l:Su.Ps):Su.cS (e::l)=add (D e.1 (Po.cf e.2)) (Su.cS l):=by
 funext o t
 show(if e.1=o then _ else _)+_=(if o=e.1 then _ else _)+_;by_cases c:e.1=o
 ·rw[aK c,aK c.symm]
 ·rw[aI c,aI (λz=>c z.symm)]
theorem wJ{n:Nat}{w:am}(h:Wd.ku (rg n) w)(h':Wd.ku (rg n) w')(e:Wd.led (rg n) w=Wd.led (rg n) w'):∀{l:Su.Ps},(∀x∈l,x.1.Perm (rg n))->mz n (Xw w (Su.cS l)) (Xw w' (Su.cS l))
 | [],_=>by
  have z:Su.cS []=λ_ _=>0:=rfl;rw[z,xR,xR];exact .refl
 | x::l,hx=>by
  rw[vJ,BI,BI];intro o p t;unfold add;rw[Wc h h' e (hx x (aM ..)) _ o p t,wJ h h' e (λy hy=>hx y (aN _ hy)) o p t]
def Th{n k:Nat}{l:Su.Ps}(h:∀x∈l,x.1.Perm (rg n))(h0:1<=k)(h1:k<n):mz n (Su.cS (Su.bx k l)) (X k (Su.cS l)):=λo p t=>by
 have go:∀{x:ag},x.Perm (rg n)->Su.Go n k x:=λ{x} hx=>⟨by rw[hx.length_eq,Wd.jV],nb hx h0 h1⟩;unfold Su.bx;rw[Su.zy (Su.Gd.nil.adds _),Su.Gh];show 0+_=_;rw[ck,Su.Tz h0 h1 (λe he=>go (h e he)) t (go p)];rfl
end He
namespace He
open PySem L2 Am Po
open Fw (Two rg Fj)
open Su (nB Ps cS)
abbrev cv:Pl->(Int->Int)->Int->Int
 | [],_,_=>0
 | q::p,g,t=>q.2 * g (t-q.1)+cv p g t
def Cb(a b:Pl)(g:Int->Int)(t:Int):cv (a++b) g t=cv a g t+cv b g t:=by
 induction a with
 | nil=>exact(ck _).symm
 | cons q a ih=>
  show _+cv (a++b) g t=_+_+_;rw[ih,f6]
def sX(p:Pl)(g h:Int->Int)(t:Int):cv p (λt=>g t+h t) t=cv p g t+cv p h t:=by
 induction p with
 | nil=>rfl
 | cons q p ih=>
  show q.2 * (g (t-q.1)+h (t-q.1))+cv p _ t=(q.2 * g (t-q.1)+cv p g t)+(q.2 * h (t-q.1)+cv p h t);rw[ih,jw];lia
def pC(p:Pl)(t:Int):cv p (λ_=>0) t=0:=by
 induction p with
 | nil=>rfl
 | cons q p ih=>
  show q.2 * 0+cv p _ t=0;rw[ih,gu];rfl
def U6(p:Pl)(g:Int->Int)(t:Int):cv p (dl g) t=dl (cv p g) t:=by
 induction p with
 | nil=>rfl
 | cons q p ih=>
  show q.2 * (g (t-q.1+1)-g (t-q.1-1))+cv p (dl g) t=(q.2 * g (t+1-q.1)+cv p g (t+1))-(q.2 * g (t-1-q.1)+cv p g (t-1));rw[ih,Int.mul_sub,show t-q.1+1=t+1-q.1 by lia,show t-q.1-1=t-1-q.1 by lia];show _+(cv p g (t+1)-cv p g (t-1))=_
  lia
def YS(p q:Pl)(t:Int):cf (times p q) t=cv p (cf q) t:=by
 rw[Su.pW]
 induction p with
 | nil=>rfl
 | cons a p ih=>
  show cf ((q.map λb=>(a.1+b.1,a.2 * b.2))++Ae p q) t=_;rw[Su.yo,Su.Ju,ih];rfl
def PJ(p:Pl)(g:Int->Int)(t a:Int):cv p g t=cf p a * g (t-a)+cv (p.filter λq=>decide (q.1≠a)) g t:=by
 induction p with
 | nil=>show(0:Int)=0 * _+0;rw[zero_mul];rfl
 | cons q p ih=>
  show q.2 * g (t-q.1)+cv p g t=((if q.1=a then q.2 else 0)+cf p a) * g (t-a)+_;rw[cV,Int.add_mul];by_cases c:q.1=a
  ·rw[aK c,bh (by simpa using c),aI (by simp),ih,c];lia
  ·rw[aI c,bg c,aK rfl,ih,zero_mul];show _=0+_+(q.2 * g (t-q.1)+cv _ g t)
   lia
def J1(p:Pl)(a b:Int):cf (p.filter λq=>decide (q.1≠a)) b=if b=a then 0 else cf p b:=by
 induction p with
 | nil=>show(0:Int)=_;split<;>rfl
 | cons q p ih=>
  rw[cV];show _=if b=a then 0 else(if q.1=b then q.2 else 0)+cf p b
  by_cases c:q.1=a
  ·rw[bh (by simpa using c),aI (by simp),ih];by_cases e:b=a
   ·rw[aK e,aK e]
   ·rw[aI e,aI e,aI (),ck]
  ·rw[bg c,aK rfl];show(if q.1=b then q.2 else 0)+cf _ b=_;rw[ih];by_cases e:b=a
   ·rw[aK e,aK e,aI ()];rfl
   ·rw[aI e,aI e]
def Av:∀(m:Nat) {p:Pl},p.length=m->(∀k,cf p k=0)->∀(g:Int->Int) (t:Int),cv p g t=0:=by
 intro m
 induction m using Nat.strongRecOn with
 | _ m ih=>
  intro p hm h g t
  cases p with
  | nil=>rfl
  | cons q p=>
   rw[PJ _ g t q.1,h,zero_mul,ck];refine ih _ ?_ rfl (λk=>?_) g t
   ·rw[cV,bh (by simp),aI (by simp),<- hm];exact Nat.lt_succ_of_le (dH _ _)
   ·rw[J1];split
    ·rfl
    ·exact h k
def Nc(p:Pl)(g:Int->Int)(t:Int):cv (p.map λq=>(q.1,-q.2)) g t=- cv p g t:=by
 induction p with
 | nil=>rfl
 | cons q p ih=>
  show -q.2 * g (t-q.1)+cv (p.map _) g t=-(q.2 * g (t-q.1)+cv p g t);rw[ih,neg_mul];lia
def LU(p:Pl)(k:Int):cf (p.map λq=>(q.1,-q.2)) k=- cf p k:=by
 induction p with
 | nil=>rfl
 | cons q p ih=>
  show(if q.1=k then -q.2 else 0)+cf (p.map _) k=-((if q.1=k then q.2 else 0)+cf p k);rw[ih];split<;>lia
def Fg{p q:Pl}(h:∀k,cf p k=cf q k)(g:Int->Int)(t:Int):cv p g t=cv q g t:=by
 have:=Av _ (p:=p++q.map λq=>(q.1,-q.2)) rfl (λk=>by rw[Su.yo,LU,h];lia) g t;rw[Cb,Nc]at this
 lia
def XW(p q:Pl)(g:Int->Int)(t:Int):cv p (cv q g) t=cv q (cv p g) t:=by
 induction p generalizing t with
 | nil=>exact(pC q t).symm
 | cons a p ih=>
  show a.2 * cv q g (t-a.1)+cv p (cv q g) t=cv q (λt=>a.2 * g (t-a.1)+cv p g t) t;rw[ih,sX];congr 1;clear ih
  induction q with
  | nil=>show a.2 * 0=0;rw[gu]
  | cons b q ih2=>
   show a.2 * (b.2 * g (t-a.1-b.1)+cv q g (t-a.1))=b.2 * (a.2 * g (t-b.1-a.1))+cv q _ t;rw[<- ih2,jw,show t-a.1-b.1=t-b.1-a.1 by lia,<- Int.mul_assoc,<- Int.mul_assoc,Int.mul_comm a.2 b.2]
abbrev mJ (p:Pl)(f:Fn):Fn:=λo t=>cv p (f o) t
def LR(k:Nat)(p:Pl)(f:Fn):X k (mJ p f)=mJ p (X k f):=by
 funext o t
 show cv p (f (Wd.ex o k)) t+(if nB o k=true then dl (cv p (f o)) t else 0)=cv p (λt=>f (Wd.ex o k) t+if nB o k=true then dl (f o) t else 0) t;rw[sX]
 cases nB o k with
 | true=>dsimp[cI];rw[<- U6]
 | false=>dsimp[bz,bY];rw[pC]
theorem HM(p:Pl):∀(w:am) (f:Fn),Xw w (mJ p f)=mJ p (Xw w f)
 | [],_=>rfl
 | k::w,f=>by
  show Xw w (X k (mJ p f))=_;rw[LR,HM p w];rfl
abbrev sw (n:Nat)(o:ag):am:=by
 classical
 exact if h:o.Perm (rg n)then(tY _ h rfl).choose else[]
def ur{n:Nat}{o:ag}(h:o.Perm (rg n)):Wd.ku (rg n) (sw n o)/\Wd.led (rg n) (sw n o)=o:=by
 unfold sw;rw[dif_pos h];exact(tY _ h rfl).choose_spec
def u9{n:Nat}{o:ag}(h:o.Perm (rg n)):Va n (sw n o):=λk hk=>by have:=Wd.ku.valid (ur h).1 k hk;rwa [Wd.jV]at this
abbrev RG (G:ag->Fn):Ps->Fn
 | []=>λ_ _=>0
 | e::m=>add (mJ e.2 (G e.1)) (RG G m)
abbrev R (n:Nat)(m:Ps)(f:Fn):Fn:=RG (λo=>Xw (sw n o) f) m
def OS(G:ag->Fn)(a b:Ps):RG G (a++b)=add (RG G a) (RG G b):=by
 induction a with
 | nil=>funext o t;exact(ck _).symm
 | cons e a ih=>
  show add _ (RG G (a++b))=_;rw[ih]
  funext o t
  exact(f6 _ _ _).symm
theorem TH(G:ag->Fn)(o:ag)(t:Int)(w:ag):∀m:Ps,RG G m o t=cv ((m.filter λe=>decide (e.1=w)).flatMap λe=>e.2) (G w o) t+RG G (m.filter λe=>decide (e.1≠w)) o t
 | []=>rfl
 | e::m=>by
  show cv e.2 (G e.1 o) t+RG G m o t=_;rw[TH G o t w m,cV,cV];by_cases c:e.1=w
  ·rw[bg c,aK rfl,bh (by simpa using c),aI (by simp),i_,Cb,c];lia
  ·rw[bh c,aI (by simp),bg c,aK rfl];show _=_+(cv e.2 (G e.1 o) t+RG G _ o t)
   lia
theorem CN(w:ag)(t:Int):∀m:Ps,cf ((m.filter λe=>decide (e.1=w)).flatMap λe=>e.2) t=cS m w t
 | []=>rfl
 | e::m=>by
  rw[cV];show _=(if e.1=w then cf e.2 t else 0)+cS m w t;by_cases c:e.1=w
  ·rw[bg c,aK rfl,aK c,i_,Su.yo,CN w t m]
  ·rw[bh c,aI (by simp),aI c,CN w t m,ck]
theorem vX(w o:ag)(t:Int):∀m:Ps,cS (m.filter λe=>decide (e.1≠w)) o t=if o=w then 0 else cS m o t
 | []=>by show(0:Int)=_;split<;>rfl
 | e::m=>by
  rw[cV];show _=if o=w then 0 else(if e.1=o then cf e.2 t else 0)+cS m o t
  by_cases c:e.1=w
  ·rw[bh (by simpa using c),aI (by simp),vX w o t m];by_cases e':o=w
   ·rw[aK e',aK e']
   ·rw[aI e',aI e',aI (λz=>e' (z.symm.trans c)),ck]
  ·rw[bg c,aK rfl];show(if e.1=o then cf e.2 t else 0)+cS _ o t=_;rw[vX w o t m];by_cases e':o=w
   ·rw[aK e',aK e',aI (λz=>c (z.trans e'))];rfl
   ·rw[aI e',aI e']
def K5(G:ag->Fn)(o:ag)(t:Int):∀(k:Nat) {m:Ps},m.length=k->(∀w s,cS m w s=0)->RG G m o t=0:=by
 intro k
 induction k using Nat.strongRecOn with
 | _ k ih=>
  intro m hk h
  cases m with
  | nil=>rfl
  | cons e m=>
   rw[TH G o t e.1];have z:cv (((e::m).filter λx=>decide (x.1=e.1)).flatMap λe=>e.2) (G e.1 o) t=0:=Av _ rfl (λs=>by rw[CN];exact h _ _) _ _;rw[z,ck];refine ih _ ?_ rfl λw s=>?_
   ·rw[cV,bh (by simp),aI (by simp),<- hk];exact Nat.lt_succ_of_le (dH _ _)
   ·rw[vX];split
    ·rfl
    ·exact h w s
def Vz(G:ag->Fn)(h:∀w s,cS m w s=cS m' w s):RG G m=RG G m':=by
 funext o t
 have neg:∀m:Ps,RG G (m.map λe=>(e.1,e.2.map λq=>(q.1,-q.2))) o t=- RG G m o t:=λm=>by
  induction m with
  | nil=>rfl
  | cons e m ih=>
   show cv (e.2.map λq=>(q.1,-q.2)) (G e.1 o) t+RG G (m.map _) o t=-(cv e.2 (G e.1 o) t+RG G m o t);rw[ih,Nc];lia
 have cneg:∀(m:Ps) (w:ag) (s:Int),cS (m.map λe=>(e.1,e.2.map λq=>(q.1,-q.2))) w s=- cS m w s:=λm w s=>by
  induction m with
  | nil=>rfl
  | cons e m ih=>
   show(if e.1=w then cf (e.2.map λq=>(q.1,-q.2)) s else 0)+cS (m.map _) w s=-((if e.1=w then cf e.2 s else 0)+cS m w s);rw[ih,LU];split<;>lia
 have:=K5 G o t _ (m:=m++m'.map λe=>(e.1,e.2.map λq=>(q.1,-q.2))) rfl λw s=>by rw[Su.vW,cneg,h];lia
 rw[OS]at this;have this:RG G m o t+RG G (m'.map λe=>(e.1,e.2.map λq=>(q.1,-q.2))) o t=0:=this;rw[neg]at this
 lia
def N5(n:Nat)(a b:Ps)(f:Fn):R n (a++b) f=add (R n a f) (R n b f):=OS _ a b
def HQ(n:Nat)(h:∀w s,cS m w s=cS m' w s)(f:Fn):R n m f=R n m' f:=Vz _ h
def X_X{n k:Nat}(h0:1<=k)(h1:k<n)(f:Fn):mz n (X k (X k f)) λo t=>f o t+dl (X k f o) t:=λo p t=>by
 have lo:o.length=n:=by rw[p.length_eq,Wd.jV]
 have go:Su.Go n k o:=⟨lo,nb p h0 h1⟩;obtain⟨_,hf⟩:=go.ex h0 h1;unfold X dl;dsimp only;rw[Fw.xE h0 (),hf]
 cases nB o k with
 | true=>dsimp[cU,bz,bY,cI];lia
 | false=>dsimp[dg,bz,bY,cI];lia
def Ut{n k:Nat}{w:ag}{l:Ps}(hw:w.Perm (rg n))(h0:1<=k)(h1:k<n)(hf:nB w k=false)(hl:∀x∈l,x.1.Perm (rg n)):mz n (Xw (sw n (Wd.ex w k)) (cS l)) (X k (Xw (sw n w) (cS l))):=by
 obtain⟨a1,a2⟩:=ur hw;obtain⟨b1,b2⟩:=ur (qe hw h0 h1);have ne:=nb hw h0 h1;have hr:(Wd.led (rg n) (sw n w)).getD (k-1) 0<(Wd.led (rg n) (sw n w)).getD k 0:=by
  rw[a2];have:=di hf
  lia
 have c1:Wd.ku (rg n) (sw n w++[k]):=Wd.ku.snoc a1 h0 (by rw[Wd.jV];exact h1) hr;have c2:Wd.led (rg n) (sw n w++[k])=Wd.ex w k:=by rw[Wd.xX,a2];rfl
 have:=wJ b1 c1 (b2.trans c2.symm) hl;refine this.trans ?_;unfold Xw;rw[dX];exact .refl
def Uv{n k:Nat}{w:ag}{l:Ps}(hw:w.Perm (rg n))(h0:1<=k)(h1:k<n)(hf:nB w k=true)(hl:∀x∈l,x.1.Perm (rg n)):mz n (Xw (sw n w) (cS l)) (X k (Xw (sw n (Wd.ex w k)) (cS l))):=by
 have lw:w.length=n:=by rw[hw.length_eq,Wd.jV]
 have go:Su.Go n k w:=⟨lw,nb hw h0 h1⟩;have:=Ut (qe hw h0 h1) h0 h1 (by rw[(go.ex h0 h1).2,hf];rfl) hl;rw[Fw.xE h0 ()]at this;exact this
def n5{n:Nat}{f g:Fn}(p:Pl)(h:mz n f g):mz n (mJ p f) (mJ p g):=λo po t=>by
 show cv p (f o) t=cv p (g o) t;rw[show f o=g o from funext λt=>h o po t]
def YY(p:Pl)(g:Int->Int)(t:Int):cv (times Su.AF p) g t=cv p (dl g) t:=by
 have:cv (times Su.AF p) g t=cv (Ae Su.AF p) g t:=Fg (λk=>Su.pW _ _ _) g t;rw[this];show cv ((p.map λq=>((-1:Int)+q.1,(1:Int) * q.2))++((p.map λq=>((1:Int)+q.1,(-1:Int) * q.2))++[])) g t=_;rw[bU,Cb]
 induction p with
 | nil=>rfl
 | cons q p ih=>
  show(1 * q.2 * g (t-(-1+q.1))+cv (p.map _) g t)+(-1 * q.2 * g (t-(1+q.1))+cv (p.map _) g t)=q.2 * (g (t-q.1+1)-g (t-q.1-1))+cv p (dl g) t;have ih:=ih (Fg (λk=>Su.pW _ _ _) g t);rw[<- ih,Int.mul_sub,one_mul,show t-(-1+q.1)=t-q.1+1 by lia,show t-(1+q.1)=t-q.1-1 by lia,neg_mul,one_mul,neg_mul]
  lia
theorem R_X{n k:Nat}{l:Ps}(h0:1<=k)(h1:k<n)(hl:∀x∈l,x.1.Perm (rg n)):∀{m:Ps},(∀x∈m,x.1.Perm (rg n))->mz n (R n (Su.QU k m) (cS l)) (X k (R n m (cS l)))
 | [],_=>by
  show mz n (λ_ _=>0) (X k λ_ _=>0);rw[MB];exact .refl
 | e::m,hm=>by
  have he:=hm e (aM ..);have ih:=R_X h0 h1 hl (m:=m) λx hx=>hm x (aN _ hx);show mz n (R n (((Wd.ex e.1 k,e.2)::(if nB e.1 k=true then[(e.1,times Su.AF e.2)]else[]))++Su.QU k m) (cS l)) (X k (add (mJ e.2 (Xw (sw n e.1) (cS l))) (R n m (cS l))));rw[N5,Ui,LR];intro o p t;show R n ((Wd.ex e.1 k,e.2)::_) (cS l) o t+R n (Su.QU k m) (cS l) o t=mJ e.2 (X k (Xw (sw n e.1) (cS l))) o t+X k (R n m (cS l)) o t;rw[ih o p t];congr 1
  cases hf:nB e.1 k with
  | false=>
   show mJ e.2 (Xw (sw n (Wd.ex e.1 k)) (cS l)) o t+0=_;rw[c6];exact n5 e.2 (Ut he h0 h1 hf hl) o p t
  | true=>
   show mJ e.2 (Xw (sw n (Wd.ex e.1 k)) (cS l)) o t+(cv (times Su.AF e.2) (Xw (sw n e.1) (cS l) o) t+0)=_;rw[c6,YY];have d:=Uv he h0 h1 hf hl;have x2:mz n (X k (Xw (sw n e.1) (cS l))) λo t=>Xw (sw n (Wd.ex e.1 k)) (cS l) o t+dl (Xw (sw n e.1) (cS l) o) t:=((J9 d h0 h1).trans (X_X h0 h1 _)).trans λo p t=>by
    dsimp only;rw[show X k (Xw (sw n (Wd.ex e.1 k)) (cS l)) o=Xw (sw n e.1) (cS l) o from funext λt=>(d o p t).symm]
   rw[n5 e.2 x2 o p t];show _=cv e.2 (λt=>Xw (sw n (Wd.ex e.1 k)) (cS l) o t+dl (Xw (sw n e.1) (cS l) o) t) t;rw[sX];rfl
def Zi{n k:Nat}{l m:Ps}(h0:1<=k)(h1:k<n)(hl:∀x∈l,x.1.Perm (rg n))(hm:∀x∈m,x.1.Perm (rg n)):mz n (R n (Su.bx k m) (cS l)) (X k (R n m (cS l))):=by
 have:R n (Su.bx k m) (cS l)=R n (Su.QU k m) (cS l):=HQ n (λw s=>by
  unfold Su.bx;rw[Su.zy (Su.Gd.nil.adds _),Su.Gh];show 0+_=_;rw[ck]) _
 rw[this];exact R_X h0 h1 hl hm
def vC{n k:Nat}{m:Ps}(h0:1<=k)(h1:k<n)(hm:∀x∈m,x.1.Perm (rg n)):∀x∈Su.bx k m,x.1.Perm (rg n):=Su.zx (P:=λo=>o.Perm (rg n)) (Su.wQ (P:=λo=>o.Perm (rg n)) _ (nofun) λx hx=>by
 obtain⟨f,hf,hx⟩:=fP.mp hx
 rcases bD.mp hx with z|z
 ·rw[z];exact qe (hm f hf) h0 h1
 ·split at z
  ·rw[aV.mp z];exact hm f hf
  ·cases z)
abbrev VA (w:am)(m:Ps):Ps:=w.foldl (λm k=>Su.bx k m) m
theorem OY{n:Nat}:∀{w:am}{m:Ps},Va n w->(∀x∈m,x.1.Perm (rg n))->∀x∈VA w m,x.1.Perm (rg n)
 | [],_,_,h=>h
 | k::w,m,v,h=>OY (w:=w) (λj hj=>v j (aN _ hj)) (vC (v k (aM ..)).1 (v k (aM ..)).2 h)
theorem UU{n:Nat}{l:Ps}(hl:∀x∈l,x.1.Perm (rg n)):∀{w:am}{m:Ps},Va n w->(∀x∈m,x.1.Perm (rg n))->mz n (R n (VA w m) (cS l)) (Xw w (R n m (cS l)))
 | [],_,_,_=>.refl
 | k::w,m,v,h=>by
  have v1:=v k (aM ..);have v2:Va n w:=λj hj=>v j (aN _ hj)
  skip
  exact(UU hl v2 (vC v1.1 v1.2 h)).trans (xj v2 (Zi v1.1 v1.2 hl h))
theorem OV{n:Nat}:∀{w:am}{m:Ps},Va n w->(∀x∈m,x.1.Perm (rg n))->mz n (cS (VA w m)) (Xw w (cS m))
 | [],_,_,_=>.refl
 | k::w,m,v,h=>by
  have v1:=v k (aM ..);have v2:Va n w:=λj hj=>v j (aN _ hj)
  skip
  exact(OV v2 (vC v1.1 v1.2 h)).trans (xj v2 (Th h v1.1 v1.2))
def M_(p q:Pl)(g:Int->Int)(t:Int):cv (times p q) g t=cv p (cv q g) t:=by
 have:cv (times p q) g t=cv (Ae p q) g t:=Fg (λk=>Su.pW _ _ _) g t;rw[this];clear this
 induction p with
 | nil=>rfl
 | cons a p ih=>
  show cv ((q.map λb=>(a.1+b.1,a.2 * b.2))++Ae p q) g t=a.2 * cv q g (t-a.1)+cv p (cv q g) t;rw[Cb,ih];congr 1;clear ih
  induction q with
  | nil=>show(0:Int)=a.2 * 0;rw[gu]
  | cons b q ih2=>
   show a.2 * b.2 * g (t-(a.1+b.1))+cv (q.map _) g t=a.2 * (b.2 * g (t-a.1-b.1)+cv q g (t-a.1));rw[ih2,jw,Int.mul_assoc,show t-(a.1+b.1)=t-a.1-b.1 by lia]
abbrev Lk (p:Pl)(l:Ps):Ps:=l.map λx=>(x.1,times p x.2)
def PZ(p:Pl)(l:Ps):cS (Lk p l)=mJ p (cS l):=by
 funext o t
 induction l with
 | nil=>exact(pC p t).symm
 | cons e l ih=>
  show(if e.1=o then cf (times p e.2) t else 0)+cS (Lk p l) o t=cv p (λt=>(if e.1=o then cf e.2 t else 0)+cS l o t) t;rw[sX,ih];congr 1;by_cases c:e.1=o
  ·rw[aK c,YS,show(λt=>if e.1=o then cf e.2 t else 0)=cf e.2 from funext λt=>aK c]
  ·rw[aI c,show(λt=>if e.1=o then cf e.2 t else(0:Int))=λ_=>0 from funext λt=>aI c,pC]
def Yh(n:Nat)(p:Pl)(l:Ps)(f:Fn):R n (Lk p l) f=mJ p (R n l f):=by
 funext o t
 induction l with
 | nil=>exact(pC p t).symm
 | cons e l ih=>
  show cv (times p e.2) (Xw (sw n e.1) f o) t+R n (Lk p l) f o t=cv p (λt=>cv e.2 (Xw (sw n e.1) f o) t+R n l f o t) t;rw[sX,ih,M_];rfl
abbrev XA (n:Nat)(m h:Ps):Ps:=h.flatMap λe=>Lk e.2 (VA (sw n e.1) m)
def Wm{n:Nat}{m h:Ps}(hm:∀x∈m,x.1.Perm (rg n))(hh:∀x∈h,x.1.Perm (rg n)):∀x∈XA n m h,x.1.Perm (rg n):=λx hx=>by
 obtain⟨e,he,hx⟩:=fP.mp hx;obtain⟨y,hy,rfl⟩:=bA.mp hx;exact OY (u9 (hh e he)) hm y hy
theorem MC{n:Nat}{m:Ps}(hm:∀x∈m,x.1.Perm (rg n)):∀{h:Ps},(∀x∈h,x.1.Perm (rg n))->mz n (cS (XA n m h)) (R n h (cS m))
 | [],_=>.refl
 | e::h,hh=>λo p t=>by
  show cS (Lk e.2 (VA (sw n e.1) m)++XA n m h) o t=cv e.2 (Xw (sw n e.1) (cS m) o) t+R n h (cS m) o t;rw[Su.vW,PZ,MC hm (λx hx=>hh x (aN _ hx)) o p t];congr 1;exact n5 e.2 (OV (u9 (hh e (aM ..))) hm) o p t
theorem UZ{n:Nat}{l m:Ps}(hl:∀x∈l,x.1.Perm (rg n))(hm:∀x∈m,x.1.Perm (rg n)):∀{h:Ps},(∀x∈h,x.1.Perm (rg n))->mz n (R n (XA n m h) (cS l)) (R n h (R n m (cS l)))
 | [],_=>.refl
 | e::h,hh=>λo p t=>by
  show R n (Lk e.2 (VA (sw n e.1) m)++XA n m h) (cS l) o t=cv e.2 (Xw (sw n e.1) (R n m (cS l)) o) t+R n h (R n m (cS l)) o t;rw[N5];show R n (Lk e.2 (VA (sw n e.1) m)) (cS l) o t+R n (XA n m h) (cS l) o t=_;rw[Yh,UZ hl hm (λx hx=>hh x (aN _ hx)) o p t];congr 1;exact n5 e.2 (UU hl (u9 (hh e (aM ..))) hm) o p t
theorem Y4{n:Nat}{f g:Fn}(hf:mz n f g):∀{m:Ps},(∀x∈m,x.1.Perm (rg n))->mz n (R n m f) (R n m g)
 | [],_=>.refl
 | e::m,hm=>λo p t=>by
  show cv e.2 (Xw (sw n e.1) f o) t+R n m f o t=cv e.2 (Xw (sw n e.1) g o) t+R n m g o t;rw[Y4 hf (λx hx=>hm x (aN _ hx)) o p t];congr 1;exact n5 e.2 (xj (u9 (hm e (aM ..))) hf) o p t
def off{n:Nat}{m:Ps}(hm:∀x∈m,x.1.Perm (rg n)){o:ag}(h:¬o.Perm (rg n))(t:Int):cS m o t=0:=Su.IZ λe he z=>h (by rw[<- z];exact hm e he)
def Mv{n:Nat}{m m':Ps}(hm:∀x∈m,x.1.Perm (rg n))(hm':∀x∈m',x.1.Perm (rg n))(h:mz n (cS m) (cS m')):∀o t,cS m o t=cS m' o t:=λo t=>by
 by_cases c:o.Perm (rg n)
 ·exact h o c t
 ·rw[off hm c,off hm' c]
def assoc{n:Nat}{l m h a b:Ps}(hl:∀x∈l,x.1.Perm (rg n))(hm:∀x∈m,x.1.Perm (rg n))(hh:∀x∈h,x.1.Perm (rg n))(hb:∀x∈b,x.1.Perm (rg n))(ea:mz n (cS a) (R n m (cS l)))(eb:mz n (cS b) (R n h (cS m))):mz n (R n h (cS a)) (R n b (cS l)):=by
 have e1:R n b (cS l)=R n (XA n m h) (cS l):=HQ n (Mv hb (Wm hm hh) (eb.trans (MC hm hh).symm)) _;rw[e1];exact(Y4 ea hh).trans (UZ hl hm hh).symm
abbrev LO (n:Nat)(u:ag):am:=sw n (bk u)
def Zr(k:Nat)(f g:Fn):L k (add f g)=add (L k f) (L k g):=by
 funext o t
 unfold L add dl;dsimp only;split<;>lia
theorem Nx:∀(w:am) (f g:Fn),Lw w (add f g)=add (Lw w f) (Lw w g)
 | [],_,_=>rfl
 | k::w,f,g=>by
  show Lw w (L k (add f g))=_;rw[Zr,Nx w];rfl
def VZ(k:Nat)(p:Pl)(f:Fn):L k (mJ p f)=mJ p (L k f):=by
 funext o t
 show cv p (f (o.map (Wd.sw k))) t+(if nB (bk o) k=true then dl (cv p (f o)) t else 0)=cv p (λt=>f (o.map (Wd.sw k)) t+if nB (bk o) k=true then dl (f o) t else 0) t;rw[sX]
 cases nB (bk o) k with
 | true=>dsimp[cI];rw[<- U6]
 | false=>dsimp[bz,bY];rw[pC]
theorem G_(p:Pl):∀(w:am) (f:Fn),Lw w (mJ p f)=mJ p (Lw w f)
 | [],_=>rfl
 | k::w,f=>by
  show Lw w (L k (mJ p f))=_;rw[VZ,G_ p w];rfl
abbrev B (f:Fn):Fn:=λo=>f (bk o)
def B_X{n k:Nat}(h0:1<=k)(h1:k<n)(f:Fn):mz n (B (X k f)) (L k (B f)):=λo p t=>by
 show f (Wd.ex (bk o) k) t+(if nB (bk o) k=true then dl (f (bk o)) t else 0)=f (bk (o.map (Wd.sw k))) t+if nB (bk o) k=true then dl (f (bk o)) t else 0
 rw[TV p h0 h1]
theorem YF{n:Nat}:∀{w:am}{f:Fn},Va n w->mz n (B (Xw w f)) (Lw w (B f))
 | [],_,_=>.refl
 | k::w,f,v=>by
  have v1:=v k (aM ..);have v2:Va n w:=λj hj=>v j (aN _ hj)
  skip
  exact(YF v2).trans (zB v2 (B_X v1.1 v1.2 f))
abbrev d0:Int->Int:=λt=>if t=0 then 1 else 0
def UH(p:Pl)(t:Int):cv p d0 t=cf p t:=by
 induction p with
 | nil=>rfl
 | cons q p ih=>
  show q.2 * (if t-q.1=0 then 1 else 0)+cv p d0 t=(if q.1=t then q.2 else 0)+cf p t;rw[ih];by_cases c:q.1=t
  ·rw[aK c,aK (),mul_one]
  ·rw[aI c,aI (),gu]
def Wy(u:ag)(p:Pl):D u (cf p)=mJ p (D u d0):=by
 funext o t
 show(if o=u then cf p t else 0)=cv p (λt=>if o=u then d0 t else 0) t;by_cases c:o=u
 ·rw[aK c,show(λt=>if o=u then d0 t else 0)=d0 from funext λt=>aK c,UH]
 ·rw[aI c,show(λt=>if o=u then d0 t else(0:Int))=λ_=>0 from funext λt=>aI c,pC]
def aaD{n:Nat}{u:ag}(hu:u.Perm (rg n))(g:Int->Int):Va n (LO n u)/\mz n (Lw (LO n u) (D (rg n) g)) (D u g):=by
 unfold LO;have pb:=pq hu;obtain⟨h1,h2⟩:=ur pb;refine⟨u9 pb,?_⟩;have h1':Wd.ku (bk (rg n)) (sw n (bk u)):=by rw[Ir];exact h1
 obtain⟨x,x1,x2,x3⟩:=VW (g:=g) (vt n) h1';rw[Ir,h2]at x2;have:x=u:=by rw[<- sR x1,x2,sR hu]
 rw[this]at x3;exact x3
def QL{n:Nat}{u w:ag}(hu:u.Perm (rg n))(hw:w.Perm (rg n))(p q:Pl):mz n (mJ p (Lw (LO n u) (D w (cf q)))) (mJ q (Xw (sw n w) (D u (cf p)))):=by
 obtain⟨v1,v2⟩:=aaD hu d0;have vw:=u9 hw;have xw:mz n (Xw (sw n w) (D (rg n) d0)) (D w d0):=by
  have:=SK (g:=d0) (vt n) (ur hw).1;rw[(ur hw).2]at this;exact this
 rw[Wy,Wy,G_,HM];have a:mz n (Lw (LO n u) (D w d0)) (Xw (sw n w) (D u d0)):=(zB v1 xw.symm).trans ((NW vw v1).symm.trans (xj vw v2));refine(n5 p (n5 q a)).trans λo _ t=>?_;exact XW p q _ t
theorem MJ(n:Nat)(f g:Fn):∀m:Ps,R n m (add f g)=add (R n m f) (R n m g)
 | []=>rfl
 | e::m=>by
  funext o t
  show mJ e.2 (Xw (sw n e.1) (add f g)) o t+R n m (add f g) o t=(mJ e.2 (Xw (sw n e.1) f) o t+R n m f o t)+(mJ e.2 (Xw (sw n e.1) g) o t+R n m g o t);rw[MJ n f g m,BI];show cv e.2 (λt=>Xw (sw n e.1) f o t+Xw (sw n e.1) g o t) t+(R n m f o t+R n m g o t)=_;rw[sX];show _=(cv e.2 (Xw (sw n e.1) f o) t+_)+(cv e.2 (Xw (sw n e.1) g o) t+_)
  lia
theorem IT:∀w:am,Lw w (λ_ _=>0)=λ_ _=>0
 | []=>rfl
 | k::w=>by
  have:L k (λ_ _=>0)=λ_ _=>0:=by
   funext o t
   unfold L dl;split<;>rfl
  show Lw w (L k _)=_;rw[this,IT w]
theorem Qe(n:Nat):∀m:Ps,R n m (λ_ _=>0)=λ_ _=>0
 | []=>rfl
 | e::m=>by
  funext o t
  show mJ e.2 (Xw (sw n e.1) λ_ _=>0) o t+R n m (λ_ _=>0) o t=0;rw[Qe n m,xR];show cv e.2 (λ_=>0) t+0=0;rw[pC];rfl
theorem G4{n:Nat}{u:ag}(hu:u.Perm (rg n))(p:Pl):∀{m:Ps},(∀x∈m,x.1.Perm (rg n))->mz n (mJ p (Lw (LO n u) (cS m))) (R n m (D u (cf p)))
 | [],_=>λo _ t=>by
  show cv p (Lw (LO n u) (λ_ _=>0) o) t=0;rw[IT];exact pC p t
 | e::m,hm=>λo po t=>by
  rw[vJ,Nx];show cv p (λt=>Lw (LO n u) (D e.1 (cf e.2)) o t+Lw (LO n u) (cS m) o t) t=mJ e.2 (Xw (sw n e.1) (D u (cf p))) o t+R n m (D u (cf p)) o t;rw[sX,<- G4 hu p (λx hx=>hm x (aN _ hx)) o po t,<- QL hu (hm e (aM ..)) p e.2 o po t];rfl
abbrev RL (n:Nat):Ps->Fn->Fn
 | [],_=>λ_ _=>0
 | e::l,f=>add (mJ e.2 (Lw (LO n e.1) f)) (RL n l f)
theorem YH{n:Nat}{m:Ps}(hm:∀x∈m,x.1.Perm (rg n)):∀{l:Ps},(∀x∈l,x.1.Perm (rg n))->mz n (RL n l (cS m)) (R n m (cS l))
 | [],_=>by
  have z:cS []=λ_ _=>0:=rfl;rw[z,Qe];exact .refl
 | e::l,hl=>λo p t=>by
  rw[vJ,MJ];show mJ e.2 (Lw (LO n e.1) (cS m)) o t+RL n l (cS m) o t=R n m (D e.1 (cf e.2)) o t+R n m (cS l) o t;rw[YH hm (λx hx=>hl x (aN _ hx)) o p t,G4 (hl e (aM ..)) e.2 hm o p t]
abbrev wb (l:Ps):Ps:=l.map λe=>(bk e.1,e.2)
theorem EB{n:Nat}{o:ag}(po:o.Perm (rg n))(t:Int):∀{l:Ps},(∀x∈l,x.1.Perm (rg n))->cS (wb l) o t=cS l (bk o) t
 | [],_=>rfl
 | e::l,hl=>by
  show(if bk e.1=o then cf e.2 t else 0)+cS (wb l) o t=(if e.1=bk o then cf e.2 t else 0)+cS l (bk o) t;rw[EB po t λx hx=>hl x (aN _ hx)];have he:=hl e (aM ..);congr 1;by_cases c:bk e.1=o
  ·rw[aK c,aK (by rw[<- c,sR he])]
  ·rw[aI c,aI (λz=>c (by rw[z,sR po]))]
def S_{n:Nat}{m:Ps}(hm:∀x∈m,x.1.Perm (rg n)){l:Ps}(hl:∀x∈l,x.1.Perm (rg n)):mz n (B (R n (wb l) (cS (wb m)))) (R n m (cS l)):=by
 have bm:mz n (B (cS (wb m))) (cS m):=λo p t=>by
  show cS (wb m) (bk o) t=_;rw[EB (pq p) t hm,sR p]
 have key:∀{l:Ps},(∀x∈l,x.1.Perm (rg n))->mz n (B (R n (wb l) (cS (wb m)))) (RL n l (cS m)):=by
  intro l
  induction l with
  | nil=>intro _;exact .refl
  | cons e l ih=>
   intro hl o p t;have he:=hl e (aM ..);show cv e.2 (Xw (sw n (bk e.1)) (cS (wb m)) (bk o)) t+R n (wb l) (cS (wb m)) (bk o) t=mJ e.2 (Lw (LO n e.1) (cS m)) o t+RL n l (cS m) o t;have i:=ih (λx hx=>hl x (aN _ hx)) o p t;have i':R n (wb l) (cS (wb m)) (bk o) t=RL n l (cS m) o t:=i;rw[i'];congr 1;have v:=u9 (pq he);exact n5 e.2 ((YF v).trans (zB v bm)) o p t
 exact(key hl).trans (YH hm hl)
end He
namespace He
open PySem L2 Am Po
open Fw (Two rg Fj)
open Su (nB Ps cS Gd vS toS adds bx)
def Om{D:Ps}(h:Gd D){e:ag×Pl}(he:e∈D):vS D e.1=e.2:=by
 rcases Su.uM (D:=D) (o:=e.1)with⟨e',h1,h2,h3⟩|⟨h1,_⟩
 ·rw[h3,B6 h.nd e' h1 e he h2]
 ·exact absurd (fH he) h1
def Ea{D:Ps}(h:Gd D):(D.map Prod.fst).map (λk=>(k,vS D k))=D:=by
 rw[bq]
 conv=>rhs;rw[<- jx D]
 exact cK λe he=>by
  show(e.1,vS D e.1)=e;rw[Om h he]
def zl{D:Ps}(h:Gd D)(o:ag)(t:Int):cS D o t=cf (vS D o) t:=by
 conv=>lhs;rw[<- Ea h]
 rw[Su.Gp h.nd];split
 ·rfl
 ·rename_i c
  rcases Su.uM (D:=D) (o:=o)with⟨e,h1,h2,_⟩|⟨_,h2⟩
  ·exact absurd (h2 ▸ fH h1) c
  ·rw[h2];rfl
def E8{D:Ps}(h:Gd D):Gd (toS D):=by
 refine⟨?_,λe he=>?_⟩
 ·unfold toS;rw[bq,show(Prod.fst ∘ λo=>(o,vS D o))=id from rfl,jx];exact((jX _).nodup_iff.mpr h.nd).filter _
 ·obtain⟨o,_,rfl⟩:=bA.mp he;exact h.v o
structure Cn (l:Ps):Prop where
 gd:Gd l
 eq:toS l=l
theorem Cn.toS{D:Ps}(h:Gd D):Cn (toS D):=⟨E8 h,Su.EM (E8 h) h λo t=>by rw[<- zl (E8 h),Su.zy h]⟩
def Cn.uniq{l:Ps}(h:Cn l)(h':Cn m)(e:∀o t,cS l o t=cS m o t):l=m:=by
 rw[<- h.eq,<- h'.eq];exact Su.EM h.gd h'.gd λo t=>by rw[<- zl h.gd,<- zl h'.gd,e]
def Cn.ne{l:Ps}(h:Cn l){e:ag×Pl}(he:e∈l):e.2≠[]:=by
 rw[<- h.eq]at he;obtain⟨o,ho,rfl⟩:=bA.mp he;have:=(cQ.mp ho).2;intro z;have z:vS l o=[]:=z;rw[z]at this
 cases this
def Ei{P:Ps}(h:Gd P)(hn:∀e∈P,e.2≠[]):mY P=toS P:=by
 symm
 have all:(l_ (P.map Prod.fst)).filter (λo=>!(vS P o).isEmpty)=l_ (P.map Prod.fst):=by
  rw[fJ];intro o ho;obtain⟨e,he,rfl⟩:=bA.mp ((jX _).mem_iff.mp ho);rw[Om h he]
  cases e':e.2 with
  | nil=>exact absurd e' (hn e he)
  | cons=>rfl
 have ts:toS P=(l_ (P.map Prod.fst)).map λo=>(o,vS P o):=by unfold toS;rw[all]
 refine zf h.nd ?_ ?_
 ·rw[ts];have:=(jX (P.map Prod.fst)).map λo=>(o,vS P o)
  rwa [Ea h]at this
 ·rw[ts,bq,show(Prod.fst ∘ λo=>(o,vS P o))=id from rfl,jx];exact q_ _
def U_(l:Ps):(wb l).map Prod.fst=(l.map Prod.fst).map bk:=by
 unfold wb;rw[bq,bq];rfl
theorem yG{n:Nat}:∀{ks:List (ag)},(∀o∈ks,o.Perm (rg n))->ks.Nodup->(ks.map bk).Nodup
 | [],_,_=>dB
 | o::ks,hp,nd=>by
  obtain⟨h1,h2⟩:=cM.mp nd;refine cM.mpr ⟨λz=>?_,yG (λo ho=>hp o (aN _ ho)) h2⟩;obtain⟨u,hu,e⟩:=bA.mp z;have:=dz bk e;rw[sR (hp u (aN _ hu)),sR (hp o (aM ..))]at this;exact h1 (this ▸ hu)
def H_{n:Nat}{l:Ps}(h:Gd l)(hl:∀x∈l,x.1.Perm (rg n)):Gd (wb l):=by
 refine⟨?_,λe he=>?_⟩
 ·rw[U_];exact yG (λo ho=>by obtain⟨e,he,rfl⟩:=bA.mp ho;exact hl e he) h.nd
 ·obtain⟨x,hx,rfl⟩:=bA.mp he;exact h.ok x hx
def YJ{n:Nat}{l:Ps}(hl:∀x∈l,x.1.Perm (rg n)):∀x∈wb l,x.1.Perm (rg n):=λx hx=>by
 obtain⟨y,hy,rfl⟩:=bA.mp hx;exact pq (hl y hy)
abbrev Ft (l:Ps):Ps:=mY (wb l)
def Qg{n:Nat}{l:Ps}(h:Cn l)(hl:∀x∈l,x.1.Perm (rg n)):Ft l=toS (wb l):=Ei (H_ h.gd hl) λe he=>by
 obtain⟨x,hx,z⟩:=bA.mp he;rw[<- z];exact h.ne (e:=x) hx
def FF{n:Nat}{l:Ps}(h:Cn l)(hl:∀x∈l,x.1.Perm (rg n)):Cn (Ft l):=by
 rw[Qg h hl];exact .toS (H_ h.gd hl)
def CM{n:Nat}{l:Ps}(hl:∀x∈l,x.1.Perm (rg n)):∀x∈Ft l,x.1.Perm (rg n):=λx hx=>YJ hl x ((pL _).mem_iff.mp hx)
def zo{n:Nat}{l:Ps}(h:Cn l)(hl:∀x∈l,x.1.Perm (rg n))(o:ag)(t:Int):cS (Ft l) o t=cS (wb l) o t:=by
 rw[Qg h hl,Su.zy (H_ h.gd hl),zl (H_ h.gd hl)]
abbrev ff (o:ag):bp:=((List.range (o.length-1)).find? λi=>nB o (i+1)).map (·+1)
def BQ{o:ag}{k:Nat}(h:ff o=some k):1<=k/\k<o.length/\nB o k=true:=by
 obtain⟨i,hi,rfl⟩:=a_.mp h;have h1:=cA.mp (gw hi);have h2:nB o (i+1)=true:=iP (p:=λi=>nB o (i+1)) hi;exact⟨(),(),h2⟩
def Rx{o:ag}(h:ff o=none):∀k,1<=k->k<o.length->nB o k=false:=λk h1 h2=>by
 have h:=Option.map_eq_none_iff.mp h;have:=gP.mp h (k-1) (cA.mpr ());rw[Nat.sub_add_cancel h1]at this;simpa using this
abbrev UX:Nat->Ps->ag->Ps
 | 0,l,_=>l
 | m+1,l,o=>match ff o with
  | none=>l
  | some k=>bx k (UX m l (Wd.ex o k))
def DA(k:Nat)(l:Ps):Cn (bx k l):=.toS (Gd.nil.adds _)
theorem Of{n:Nat}{l:Ps}(hc:Cn l)(hl:∀x∈l,x.1.Perm (rg n)):∀(m:Nat) {o:ag},o.Perm (rg n)->Iv.inv o=m->Cn (UX m l o)/\(∀x∈UX m l o,x.1.Perm (rg n))/\mz n (cS (UX m l o)) (Xw (sw n o) (cS l))
 | 0,o,po,hm=>by
  refine⟨hc,hl,?_⟩;have e:o=rg n:=Fw.Og po λk hk=>by
   have:=Fw.sA hk.1 hk.2.1 hk.2.2
   lia
  obtain⟨a1,a2⟩:=ur po;have:=wJ a1 (show Wd.ku (rg n) []from trivial) (a2.trans e) hl;exact this.symm
 | m+1,o,po,hm=>by
  have lo:o.length=n:=by rw[po.length_eq,Wd.jV]
  unfold UX
  cases hf:ff o with
  | none=>
   obtain⟨k,hk⟩:=Fw.IY (l:=o) ();have:=Rx hf k hk.1 hk.2.1;have:=di this;exact absurd hk.2.2 ()
  | some k=>
   obtain⟨h1,h2,h3⟩:=BQ hf;have hk:=bL h3;have hd:=Fw.sA h1 h2 ();rw[lo]at h2;obtain⟨_,i2,i3⟩:=Of hc hl m (qe po h1 h2) ();exact⟨DA _ _,vC h1 h2 i2,(Th i2 h1 h2).trans ((J9 i3 h1 h2).trans (Uv po h1 h2 h3 hl).symm)⟩
abbrev bo (l:Ps)(o:ag):Ps:=UX (Iv.inv o) l o
def Lu{n:Nat}{l:Ps}(hc:Cn l)(hl:∀x∈l,x.1.Perm (rg n)){o:ag}(po:o.Perm (rg n)):Cn (bo l o)/\(∀x∈bo l o,x.1.Perm (rg n))/\mz n (cS (bo l o)) (Xw (sw n o) (cS l)):=Of hc hl _ po rfl
def Dq{l:Ps}(h:ff o=none):bo l o=l:=by
 unfold bo
 cases Iv.inv o with
 | zero=>rfl
 | succ m=>unfold UX;rw[h]
def RK{l:Ps}{k:Nat}(h:ff o=some k):bo l o=bx k (bo l (Wd.ex o k)):=by
 obtain⟨h1,h2,h3⟩:=BQ h;have hk:=bL h3;have hd:=Fw.sA h1 h2 ();unfold bo;rw[show Iv.inv o=Iv.inv (Wd.ex o k)+1 from by lia]
 conv=>lhs;unfold UX
 rw[h]
abbrev zS (l m:Ps):Ps:=m.flatMap λe=>Lk e.2 (bo l e.1)
abbrev Q7 (l m:Ps):Ps:=toS (adds [] (zS l m))
def Q0{n:Nat}{l m:Ps}(hc:Cn l)(hl:∀x∈l,x.1.Perm (rg n))(hm:∀x∈m,x.1.Perm (rg n)):∀x∈zS l m,x.1.Perm (rg n):=λx hx=>by
 obtain⟨e,he,hx⟩:=fP.mp hx;obtain⟨y,hy,rfl⟩:=bA.mp hx;exact(Lu hc hl (hm e he)).2.1 y hy
theorem Mu{n:Nat}{l:Ps}(hc:Cn l)(hl:∀x∈l,x.1.Perm (rg n)):∀{m:Ps},(∀x∈m,x.1.Perm (rg n))->mz n (cS (zS l m)) (R n m (cS l))
 | [],_=>.refl
 | e::m,hm=>λo p t=>by
  show cS (Lk e.2 (bo l e.1)++zS l m) o t=cv e.2 (Xw (sw n e.1) (cS l) o) t+R n m (cS l) o t;rw[Su.vW,PZ,Mu hc hl (λx hx=>hm x (aN _ hx)) o p t];congr 1;exact n5 e.2 (Lu hc hl (hm e (aM ..))).2.2 o p t
def G7(l:Ps)(o:ag)(t:Int):cS (toS (adds [] l)) o t=cS l o t:=by
 rw[Su.zy (Gd.nil.adds _),Su.Gh];exact ck _
def E5{n:Nat}{l m:Ps}(hc:Cn l)(hl:∀x∈l,x.1.Perm (rg n))(hm:∀x∈m,x.1.Perm (rg n)):Cn (Q7 l m)/\(∀x∈Q7 l m,x.1.Perm (rg n))/\mz n (cS (Q7 l m)) (R n m (cS l)):=
 ⟨.toS (Gd.nil.adds _),Su.zx (P:=λo=>o.Perm (rg n)) (Su.wQ (P:=λo=>o.Perm (rg n)) _ (nofun) (Q0 hc hl hm)),λo p t=>by
  show cS (toS (adds [] (zS l m))) o t=_;rw[G7];exact Mu hc hl hm o p t⟩
abbrev prod (l m:Ps):Ps:=if m.length<=l.length then Q7 l m else Ft (Q7 (Ft m) (Ft l))
def lG{n:Nat}{l m:Ps}(hc:Cn l)(hd:Cn m)(hl:∀x∈l,x.1.Perm (rg n))(hm:∀x∈m,x.1.Perm (rg n)):Cn (prod l m)/\(∀x∈prod l m,x.1.Perm (rg n))/\mz n (cS (prod l m)) (R n m (cS l)):=by
 unfold prod;by_cases c:m.length<=l.length
 ·rw[aK c];exact E5 hc hl hm
 ·rw[aI c];obtain⟨h1,h2,h3⟩:=E5 (FF hd hm) (CM hm) (CM hl);refine⟨FF h1 h2,CM h2,λo p t=>?_⟩;rw[zo h1 h2,EB p t h2,h3 _ (pq p) t];rw[HQ n (λo t=>zo hc hl o t)];rw[show cS (Ft m)=cS (wb m)from funext λo=>funext λt=>zo hd hm o t];exact S_ hm hl o p t
def rH{n:Nat}{a b:Ps}(ha:Cn a)(hb:Cn b)(pa:∀x∈a,x.1.Perm (rg n))(pb:∀x∈b,x.1.Perm (rg n))(h:mz n (cS a) (cS b)):a=b:=ha.uniq hb (Mv pa pb h)
def grouped{n:Nat}{l m h:Ps}(hl:Cn l)(hm:Cn m)(hh:Cn h)(pl:∀x∈l,x.1.Perm (rg n))(pm:∀x∈m,x.1.Perm (rg n))(ph:∀x∈h,x.1.Perm (rg n)):prod (prod l m) h=prod l (prod m h):=by
 obtain⟨a1,a2,a3⟩:=lG hl hm pl pm;obtain⟨b1,b2,b3⟩:=lG hm hh pm ph;obtain⟨c1,c2,c3⟩:=lG a1 hh a2 ph;obtain⟨d1,d2,d3⟩:=lG hl b1 pl b2;exact rH c1 d1 c2 d2 (c3.trans ((assoc pl pm ph b2 a3 b3).trans d3.symm))
abbrev yY (l m:Ps):Ps:=toS (adds [] (l++m))
def ue{n:Nat}{l m:Ps}(pl:∀x∈l,x.1.Perm (rg n))(pm:∀x∈m,x.1.Perm (rg n)):Cn (yY l m)/\(∀x∈yY l m,x.1.Perm (rg n))/\cS (yY l m)=add (cS l) (cS m):=
 ⟨.toS (Gd.nil.adds _),Su.zx (P:=λo=>o.Perm (rg n)) (Su.wQ (P:=λo=>o.Perm (rg n)) _ (nofun) λx hx=>(bI.mp hx).elim (pl x) (pm x)),funext λo=>funext λt=>by
  show cS (toS (adds [] (l++m))) o t=_;rw[G7,Su.vW];rfl⟩
def Yc{n:Nat}{l m:Ps}(pl:∀x∈l,x.1.Perm (rg n))(pm:∀x∈m,x.1.Perm (rg n))(f:Fn):R n (yY l m) f=add (R n l f) (R n m f):=by
 rw[<- N5];refine HQ n (λo t=>?_) f;rw[(ue pl pm).2.2,Su.vW];rfl
def OJ{n:Nat}{l m h:Ps}(hl:Cn l)(hm:Cn m)(hh:Cn h)(pl:∀x∈l,x.1.Perm (rg n))(pm:∀x∈m,x.1.Perm (rg n))(ph:∀x∈h,x.1.Perm (rg n)):prod l (yY m h)=yY (prod l m) (prod l h):=by
 obtain⟨s1,s2,s3⟩:=ue pm ph;obtain⟨a1,a2,a3⟩:=lG hl hm pl pm;obtain⟨b1,b2,b3⟩:=lG hl hh pl ph;obtain⟨c1,c2,c3⟩:=lG hl s1 pl s2;obtain⟨d1,d2,d3⟩:=ue a2 b2;refine rH c1 d1 c2 d2 λo p t=>?_;rw[c3 o p t,d3,Yc pm ph];show _+_=_+_;rw[a3 o p t,b3 o p t]
def MO{n:Nat}{l m h:Ps}(hl:Cn l)(hm:Cn m)(hh:Cn h)(pl:∀x∈l,x.1.Perm (rg n))(pm:∀x∈m,x.1.Perm (rg n))(ph:∀x∈h,x.1.Perm (rg n)):prod (yY l m) h=yY (prod l h) (prod m h):=by
 obtain⟨s1,s2,s3⟩:=ue pl pm;obtain⟨a1,a2,a3⟩:=lG hl hh pl ph;obtain⟨b1,b2,b3⟩:=lG hm hh pm ph;obtain⟨c1,c2,c3⟩:=lG s1 hh s2 ph;obtain⟨d1,d2,d3⟩:=ue a2 b2;refine rH c1 d1 c2 d2 λo p t=>?_;rw[c3 o p t,d3,s3,MJ];show _+_=_+_;rw[a3 o p t,b3 o p t]
abbrev one (n:Nat):Ps:=[(rg n,[((0:Int),(1:Int))])]
def E4(o:ag){p:Pl}(hp:Ok p)(h0:p≠[]):Cn [(o,p)]:=by
 have g:Gd [(o,p)]:=⟨cM.mpr ⟨(λz=>nomatch z),dB⟩,λe he=>by rw[aV.mp he];exact hp⟩;exact⟨g,(Ei g λe he=>by rw[aV.mp he];exact h0).symm⟩
def GL:Ok [((0:Int),(1:Int))]:=⟨cj _ _,λp hp=>by rw[aV.mp hp];decide⟩
def qI(n:Nat):∀x∈one n,x.1.Perm (rg n):=λx hx=>by rw[aV.mp hx]
def Qn(g:Int->Int)(t:Int):cv [((0:Int),(1:Int))] g t=g t:=by
 show 1 * g (t-0)+0=_;rw[Int.sub_zero];lia
def TR{n:Nat}{l:Ps}(pl:∀x∈l,x.1.Perm (rg n)):mz n (R n (one n) (cS l)) (cS l):=λo p t=>by
 show cv [((0:Int),(1:Int))] (Xw (sw n (rg n)) (cS l) o) t+0=_;rw[Qn,c6];obtain⟨a1,a2⟩:=ur (vt n);exact wJ a1 (show Wd.ku (rg n) []from trivial) a2 pl o p t
theorem EJ{n:Nat}:∀{l:Ps},(∀x∈l,x.1.Perm (rg n))->mz n (R n l (cS (one n))) (cS l)
 | [],_=>.refl
 | e::l,pl=>λo p t=>by
  have he:=pl e (aM ..);rw[vJ];show cv e.2 (Xw (sw n e.1) (cS (one n)) o) t+R n l (cS (one n)) o t=D e.1 (cf e.2) o t+cS l o t;rw[EJ (λx hx=>pl x (aN _ hx)) o p t];congr 1;have z:cS (one n)=add (D (rg n) (cf [((0:Int),(1:Int))])) (λ_ _=>0):=vJ _ _;have z:cS (one n)=D (rg n) d0:=by
   rw[z]
   funext u s
   show D (rg n) (cf [((0:Int),(1:Int))]) u s+0=_;rw[c6];unfold D;split
   ·rw[<- UH,Qn]
   ·rfl
  obtain⟨a1,a2⟩:=ur he;rw[z,Wy];have:=SK (g:=d0) (vt n) a1;rw[a2]at this;exact n5 e.2 this o p t
def Pk{n:Nat}{l:Ps}(hl:Cn l)(pl:∀x∈l,x.1.Perm (rg n)):prod l (one n)=l:=by
 obtain⟨a1,a2,a3⟩:=lG hl (E4 _ GL ⋯) pl (qI n);exact rH a1 hl a2 pl (a3.trans (TR pl))
def LN{n:Nat}{l:Ps}(hl:Cn l)(pl:∀x∈l,x.1.Perm (rg n)):prod (one n) l=l:=by
 obtain⟨a1,a2,a3⟩:=lG (E4 _ GL ⋯) hl (qI n) pl;exact rH a1 hl a2 pl (a3.trans (EJ pl))
abbrev FP:ag->am->Bool
 | _,[]=>true
 | l,k::w=>decide (1<=k) && decide (k<l.length) && decide (l.getD (k-1) 0<l.getD k 0) && FP (Wd.ex l k) w
theorem uW:∀{w:am}{l:ag},FP l w=true->Wd.ku l w
 | [],_,_=>trivial
 | k::w,l,h=>by
  unfold FP at h;rw[bZ,bZ,bZ]at h;exact⟨bL h.1.1.1,bL h.1.1.2,bL h.1.2,uW h.2⟩
abbrev turns (n j k:Nat):Bool:=if j=k+1\/k=j+1 then FP (rg n) [j,k,j] && FP (rg n) [k,j,k] && decide (Wd.led (rg n) [j,k,j]=Wd.led (rg n) [k,j,k])else decide (j=k) || (FP (rg n) [j,k] && FP (rg n) [k,j] && decide (Wd.led (rg n) [j,k]=Wd.led (rg n) [k,j]))
def JV:((List.range 6).all λn=>(List.range n).all λj=>(List.range n).all λk=>j == 0 || k == 0 || turns n j k)=true:=by decide +kernel
def Nd{n k:Nat}(hn:n<6)(h0:1<=j)(h1:j<n)(h2:1<=k)(h3:k<n):turns n j k=true:=by
 have:=cZ.mp (cZ.mp (cZ.mp JV n (cA.mpr hn)) j (cA.mpr h1)) k (cA.mpr h3);rw[jq (),jq ()]at this;exact this
def Uw{n:Nat}(h0:1<=j)(h1:j<n){l:Ps}(pl:∀x∈l,x.1.Perm (rg n)):mz n (R n (bx j (one n)) (cS l)) (X j (cS l)):=(Zi h0 h1 pl (qI n)).trans (J9 (TR pl) h0 h1)
def aaQ{n k:Nat}(hn:n<6)(h0:1<=j)(h1:j<n)(h2:1<=k)(h3:k<n) :
  ((j=k+1\/k=j+1)->prod (prod (bx j (one n)) (bx k (one n))) (bx j (one n))=prod (prod (bx k (one n)) (bx j (one n))) (bx k (one n)))/\(¬(j=k+1\/k=j+1)->prod (bx j (one n)) (bx k (one n))=prod (bx k (one n)) (bx j (one n))):=by
 have ht:=Nd hn h0 h1 h2 h3;have e1:∀{i:Nat},1<=i->i<n->mz n (cS (bx i (one n))) (X i (cS (one n))):=λa b=>Th (qI n) a b;have e2:∀{i i':Nat},1<=i->i<n->1<=i'->i'<n->Cn (prod (bx i (one n)) (bx i' (one n)))/\(∀x∈prod (bx i (one n)) (bx i' (one n)),x.1.Perm (rg n))/\mz n (cS (prod (bx i (one n)) (bx i' (one n)))) (Xw [i,i'] (cS (one n))):=λa b c d=>by
  obtain⟨p1,p2,p3⟩:=lG (DA _ _) (DA _ _) (vC a b (qI n)) (vC c d (qI n));exact⟨p1,p2,p3.trans ((Uw c d (vC a b (qI n))).trans (J9 (e1 a b) c d))⟩
 have e3:∀{i i':Nat},1<=i->i<n->1<=i'->i'<n->Cn (prod (prod (bx i (one n)) (bx i' (one n))) (bx i (one n)))/\(∀x∈prod (prod (bx i (one n)) (bx i' (one n))) (bx i (one n)),x.1.Perm (rg n))/\mz n (cS (prod (prod (bx i (one n)) (bx i' (one n))) (bx i (one n)))) (Xw [i,i',i] (cS (one n))):=λa b c d=>by
  obtain⟨q1,q2,q3⟩:=e2 a b c d;obtain⟨p1,p2,p3⟩:=lG q1 (DA _ _) q2 (vC a b (qI n));exact⟨p1,p2,p3.trans ((Uw a b q2).trans (J9 q3 a b))⟩
 unfold turns at ht;refine⟨λc=>?_,λc=>?_⟩
 ·rw[aK c,bZ,bZ]at ht;obtain⟨p1,p2,p3⟩:=e3 h0 h1 h2 h3;obtain⟨q1,q2,q3⟩:=e3 h2 h3 h0 h1;exact rH p1 q1 p2 q2 (p3.trans ((wJ (uW ht.1.1) (uW ht.1.2) (bL ht.2) (qI n)).trans q3.symm))
 ·rw[aI c]at ht;by_cases z:j=k
  ·subst z;rfl
  ·rw[bh z,fZ,bZ,bZ]at ht;obtain⟨p1,p2,p3⟩:=e2 h0 h1 h2 h3;obtain⟨q1,q2,q3⟩:=e2 h2 h3 h0 h1;exact rH p1 q1 p2 q2 (p3.trans ((wJ (uW ht.1.1) (uW ht.1.2) (bL ht.2) (qI n)).trans q3.symm))
end He
namespace He
open PySem L2 Am Po
open Fw (Two rg Fj)
open Su (nB Ps cS Gd vS toS adds bx)
abbrev arr:Nat->ag->List (ag)
 | 0,_=>[[]]
 | m+1,l=>l.flatMap λx=>(arr m (l.erase x)).map (x::·)
theorem G5:∀{m:Nat}{l o:ag},o.Perm l->l.length=m->o∈arr m l
 | 0,l,o,p,h=>by
  have:l=[]:=fM.mp h;subst this;rw[p.eq_nil];exact aV.mpr rfl
 | m+1,l,[],p,h=>by rw[<- p.length_eq]at h;cases h
 | m+1,l,x::o,p,h=>by
  obtain⟨h1,h2⟩:=List.cons_perm_iff_perm_erase.mp p;refine fP.mpr ⟨x,h1,bA.mpr ⟨o,G5 h2 ?_,rfl⟩⟩;rw[List.length_erase_of_mem h1,h];rfl
def Ky{α:Type}[DecidableEq α]{ks L:List α}(nd:ks.Nodup)(h:∀x∈ks,x∈L):ks.length<=L.length:=by
 have:=pig L.length (ks.map λx=>L.idxOf x) ?_ λi hi=>?_
 ·rwa [aH]at this
 ·refine cH.mpr (nd.imp_of_mem λ{a b} ha hb hab z=>hab ?_);have e1:=iZ (fC.mpr (h a ha));have e2:=iZ (fC.mpr (h b hb));rw[<- e1,<- e2];congr 1
 ·obtain⟨x,hx,rfl⟩:=bA.mp hi;exact fC.mpr (h x hx)
def Rm:∀n,n<6->(arr n (rg n)).length<=120:=by decide +kernel
def many{n:Nat}(hn:n<6){ks:List (ag)}(nd:ks.Nodup)(h:∀o∈ks,o.Perm (rg n)):ks.length<=120:=
 bJ (Ky nd λo ho=>G5 (h o ho) (Wd.jV n)) (Rm n hn)
structure FB (n P C:Nat)(f:Fn):Prop where
 c:∀o,o.Perm (rg n)->∀t,(f o t).natAbs<=C
 p:∀o,o.Perm (rg n)->∀t:Int,P<t.natAbs->f o t=0
def FB.mono{n P:Nat}{f:Fn}(h:FB n P C f)(hp:P<=P')(hc:C<=C'):FB n P' C' f:=⟨λo po t=>bJ (h.c o po t) hc,λo po t ht=>h.p o po t ()⟩
def FB.eq{n P:Nat}{f g:Fn}(h:FB n P C f)(e:mz n g f):FB n P C g:=⟨λo po t=>by rw[e o po t];exact h.c o po t,λo po t ht=>by rw[e o po t];exact h.p o po t ht⟩
theorem FB.X{n P k:Nat}{f:Fn}(h:FB n P C f)(h0:1<=k)(h1:k<n):FB n (P+1) (3 * C) (X k f):=by
 refine⟨λo po t=>?_,λo po t ht=>?_⟩
 ·have a:=h.c _ (qe po h0 h1) t;have b:=h.c o po (t+1);have d:=h.c o po (t-1);unfold He.X dl;split<;>omega
 ·have a:=h.p _ (qe po h0 h1) t (by omega);have b:=h.p o po (t+1) (by omega);have d:=h.p o po (t-1) (by omega);unfold He.X dl;split<;>omega
theorem FB.Xw{n:Nat}:∀{w:am}{P C:Nat}{f:Fn},FB n P C f->Va n w->FB n (P+w.length) (3 ^ w.length * C) (Xw w f)
 | [],P,C,f,h,_=>by
  show FB n (P+0) (1 * C) f;rw[Nat.add_zero,jb];exact h
 | k::w,P,C,f,h,v=>by
  have v1:=v k (aM ..);have:=FB.Xw (h.X v1.1 v1.2) (w:=w) λj hj=>v j (aN _ hj);show FB n (P+(w.length+1)) (3 ^ (w.length+1) * C) (He.Xw w (He.X k f));rw[show P+(w.length+1)=P+1+w.length by lia,Nat.pow_succ,Nat.mul_assoc];exact this
theorem FB.add{n P:Nat}{f g:Fn}(h:FB n P C f)(h':FB n P C' g):FB n P (C+C') (add f g):=by
 refine⟨λo po t=>?_,λo po t ht=>?_⟩
 ·have a:=h.c o po t;have b:=h'.c o po t;show(f o t+g o t).natAbs<=_;omega
 ·show f o t+g o t=0;rw[h.p o po t ht,h'.p o po t ht];rfl
structure PB (Q c:Nat)(p:Pl):Prop where
 c:∀q∈p,q.2.natAbs<=c
 p:∀q∈p,q.1.natAbs<=Q
theorem W9{n P c:Nat}{f:Fn}(h:FB n P C f){o:ag}(po:o.Perm (rg n)):∀{p:Pl},PB Q c p->(∀t,(cv p (f o) t).natAbs<=p.length * (c * C))/\∀t:Int,P+Q<t.natAbs->cv p (f o) t=0
 | [],_=>⟨λ_=>bO _,λ_ _=>rfl⟩
 | q::p,b=>by
  obtain⟨i1,i2⟩:=W9 h po (p:=p) ⟨λx hx=>b.c x (aN _ hx),λx hx=>b.p x (aN _ hx)⟩;have q1:=b.c q (aM ..);have q2:=b.p q (aM ..);refine⟨λt=>?_,λt ht=>?_⟩
  ·show(q.2 * f o (t-q.1)+cv p (f o) t).natAbs<=(p.length+1) * (c * C);refine bJ (Int.natAbs_add_le _ _) ?_;rw[Int.natAbs_mul,eY,add_comm];exact Nat.add_le_add (i1 t) (iz q1 (h.c o po _))
  ·show q.2 * f o (t-q.1)+cv p (f o) t=0;rw[i2 t ht,h.p o po _ (by omega),gu];rfl
theorem FB.mJ{n P c:Nat}{f:Fn}(h:FB n P C f){p:Pl}(b:PB Q c p):FB n (P+Q) (p.length * (c * C)) (mJ p f):=⟨λo po t=>(W9 h po b).1 t,λo po t ht=>(W9 h po b).2 t ht⟩
theorem yr:∀{w:am}{l:ag},Wd.ku l w->Iv.inv (Wd.led l w)=Iv.inv l+w.length
 | [],_,_=>rfl
 | k::w,l,h=>by
  have:=yr h.2.2.2;rw[Fw.OA h.1 h.2.1 h.2.2.1]at this;show Iv.inv (Wd.led (Wd.ex l k) w)=_+(w.length+1)
  lia
def Gz{n:Nat}{o:ag}(h:o.Perm (rg n)):(sw n o).length=Iv.inv o:=by
 obtain⟨a,b⟩:=ur h;have:=yr a;rw[b,Fw.W0]at this
 lia
def FL{n:Nat}(hn:n<6){o:ag}(h:o.Perm (rg n)):Iv.inv o<=25:=by
 have:=Iv.OM o;rw[h.length_eq,Wd.jV]at this;exact bJ this (iz (show n<=5 by lia) (show n<=5 by lia))
def FB.zero(n P C:Nat):FB n P C λ_ _=>0:=⟨λ_ _ _=>bO _,λ_ _ _ _=>rfl⟩
theorem FB.R{n P c K:Nat}(hn:n<6){f:Fn}(h:FB n P C f):∀{m:Ps},(∀x∈m,x.1.Perm (rg n))->(∀x∈m,PB Q c x.2/\x.2.length<=K)->FB n (P+25+Q) (m.length * (K * (c * (3 ^ 25 * C)))) (R n m f)
 | [],_,_=>FB.zero ..
 | e::m,hm,hb=>by
  have he:=hm e (aM ..);obtain⟨b1,b2⟩:=hb e (aM ..);have i:=FB.R hn h (m:=m) (λx hx=>hm x (aN _ hx)) λx hx=>hb x (aN _ hx);have l25:(sw n e.1).length<=25:=by rw[Gz he];exact FL hn he
  have a:=(h.Xw (u9 he)).mono (P':=P+25) (C':=3 ^ 25 * C) () (b_ _ (Nat.pow_le_pow_right ⋯ l25));have b:=(a.mJ b1).mono (P':=P+25+Q) (C':=K * (c * (3 ^ 25 * C))) (aQ _) (b_ _ b2);have d:=b.add i;show FB n _ ((m.length+1) * _) (He.add _ _);rw[eY,add_comm (m.length * _)];exact d
theorem Pp:∀{l:Pl}{a b:Int},l.Pairwise (λp q=>p.1<q.1)->(∀p∈l,a<=p.1/\p.1<=b)->l.length<=(b-a+1).toNat
 | [],_,_,_,_=>bO _
 | p::l,a,b,h,hb=>by
  obtain⟨h1,h2⟩:=bR.mp h;have p1:=hb p (aM ..);have i:=Pp (l:=l) (a:=a+1) (b:=b) h2 λq hq=>by
   have:=h1 q hq;have:=hb q (aN _ hq)
   lia
  rw[bC]
  lia
def Mi{p:Pl}{P c:Nat}(h:Ok p)(b:PB P c p):p.length<=2 * P+1:=by
 have:=Pp (a:=-(P:Int)) (b:=P) h.up λq hq=>by have:=b.p q hq;omega
 omega
def FB.pb{n P:Nat}{l:Ps}(h:FB n P C (cS l))(hc:Gd l)(pl:∀x∈l,x.1.Perm (rg n)){e:ag×Pl}(he:e∈l):PB P C e.2/\e.2.length<=2 * P+1:=by
 have ok:=hc.ok e he;have at_:∀q∈e.2,cS l e.1 q.1=q.2:=λq hq=>by
  rw[zl hc,Om hc he];exact Su.Ok.FY ok hq
 have b:PB P C e.2:=⟨λq hq=>by rw[<- at_ q hq];exact h.c _ (pl e he) _,λq hq=>by
  refine iI λz=>ok.nz q hq ?_;rw[<- at_ q hq];exact h.p _ (pl e he) _ z⟩
 exact⟨b,Mi ok b⟩
structure Sz (n P C:Nat)(l:Ps):Prop where
 cn:Cn l
 pm:∀x∈l,x.1.Perm (rg n)
 fb:FB n P C (cS l)
def Sz.pb{n P:Nat}{l:Ps}(h:Sz n P C l){e:ag×Pl}(he:e∈l):PB P C e.2/\e.2.length<=2 * P+1:=h.fb.pb h.cn.gd h.pm he
def Sz.many{n P:Nat}{l:Ps}(hn:n<6)(h:Sz n P C l):l.length<=120:=by
 have:=He.many hn h.cn.gd.nd λo ho=>by obtain⟨e,he,rfl⟩:=bA.mp ho;exact h.pm e he
 rwa [aH]at this
theorem Sz.bx{n P k:Nat}{l:Ps}(h:Sz n P C l)(h0:1<=k)(h1:k<n):Sz n (P+1) (3 * C) (bx k l):=⟨DA _ _,vC h0 h1 h.pm,(h.fb.X h0 h1).eq (Th h.pm h0 h1)⟩
theorem Sz.bo{n P:Nat}(hn:n<6){l:Ps}(h:Sz n P C l){o:ag}(po:o.Perm (rg n)):Sz n (P+25) (3 ^ 25 * C) (bo l o):=by
 obtain⟨h1,h2,h3⟩:=Lu h.cn h.pm po;have l25:(sw n o).length<=25:=by rw[Gz po];exact FL hn po
 exact⟨h1,h2,((h.fb.Xw (u9 po)).mono () (b_ _ (Nat.pow_le_pow_right ⋯ l25))).eq h3⟩
theorem Sz.Ft{n P:Nat}{l:Ps}(h:Sz n P C l):Sz n P C (Ft l):=⟨FF h.cn h.pm,CM h.pm,⟨λo po t=>by rw[zo h.cn h.pm,EB po t h.pm];exact h.fb.c _ (pq po) t,λo po t ht=>by rw[zo h.cn h.pm,EB po t h.pm];exact h.fb.p _ (pq po) t ht⟩⟩
theorem Sz.R{n P c:Nat}(hn:n<6){l:Ps}(h:Sz n P C l)(h':Sz n Q c m):FB n (P+25+Q) (120 * ((2 * Q+1) * (c * (3 ^ 25 * C)))) (R n m (cS l)):=(FB.R hn h.fb h'.pm λx hx=>h'.pb hx).mono (aQ _) (b_ _ (h'.many hn))
theorem Sz.Q7{n P c:Nat}(hn:n<6){l:Ps}(h:Sz n P C l)(h':Sz n Q c m):Sz n (P+25+Q) (120 * ((2 * Q+1) * (c * (3 ^ 25 * C)))) (Q7 l m):=by
 obtain⟨a,b,d⟩:=E5 h.cn h.pm h'.pm;exact⟨a,b,(Sz.R hn h h').eq d⟩
theorem Sz.prod{n P c:Nat}(hn:n<6){l:Ps}(h:Sz n P C l)(h':Sz n Q c m):Sz n (P+25+Q) (120 * ((2 * Q+1) * (c * (3 ^ 25 * C)))) (prod l m):=by
 obtain⟨a,b,d⟩:=lG h.cn h'.cn h.pm h'.pm;exact⟨a,b,(Sz.R hn h h').eq d⟩
def Sz.sum{n P c:Nat}{l:Ps}(h:Sz n P C l)(h':Sz n P c m):Sz n P (C+c) (yY l m):=by
 obtain⟨a,b,d⟩:=ue h.pm h'.pm;exact⟨a,b,by rw[d];exact h.fb.add h'.fb⟩
end He
namespace Am
theorem Dt{α β:Type}(f:α->β)(x:ag×α):∀l:List (ag×α),zh (x.1,f x.2) (l.map λe=>(e.1,f e.2))=(zh x l).map λe=>(e.1,f e.2)
 | []=>rfl
 | y::l=>by
  rw[bF];unfold zh;by_cases h:HT.lexLt y.1 x.1=true
  ·rw[aK h,aK h,bF,Dt]
  ·rw[aI h,aI h];rfl
theorem we{α β:Type}(f:α->β):∀l:List (ag×α),mY (l.map λe=>(e.1,f e.2))=(mY l).map λe=>(e.1,f e.2)
 | []=>rfl
 | x::l=>by
  rw[bF];show zh _ (mY _)=_;rw[we f l];exact Dt f x (mY l)
end Am
namespace Su
open Am Po PySem L2
def Km{es:Es}{n:Nat}{src:Ic}{ex:Ex}(hs:src τ S=.ok (lq n (es.map ent).length) S)(hx:jC S n=some (es.map ent))(f:En->A)
  (step:∀e∈es,∀T,lX S T->∃T',ex (.tup (e.1.map .int)::.ref e.2.1::l9 cap τ) T=.ok (f e) T'/\lX T T') (hl:es.length<=16777216) :
  ∃S',kZ (none::none::cap) src XH qb ex τ S=.ok (.ref S'.length) (S'++[.lst (es.map f)])/\lX S S':=by
 have hk:(es.map ent).length=es.length:=aH ..;obtain⟨ys,S',h1,k1,rfl⟩:=CV (s:=lq n (es.map ent).length) (g:=XH) (e:=ex) (T:=λτ'=>∃y z,τ'=y::z::l9 cap τ) (λi acc T=>lX S T/\acc=(es.take i).map f)
  (λi acc τ' T hi ⟨y,z,hy⟩ hP=>by
   have hi:i<(es.map ent).length:=hi;obtain⟨kT,rfl⟩:=hP;subst hy;have he:es[i]?=some es[i]:=aG (by omega);obtain⟨T',e1,e4⟩:=step es[i] (aZ he) T kT;refine⟨ent es[i],.tup (es[i].1.map .int)::.ref es[i].2.1::l9 cap τ,T,_,T',?_,rfl,⟨_,_,rfl⟩,e1,kT.trans e4,?_⟩
   ·show(jC T n).bind _=_;rw[kT.lst _ _ (λz=>z) hx,dM,aS,he];rfl
   ·rw[dD,he,bX];rfl) (λacc T hP=>by
   show(match jC T n with
    | some ys=>decide (ys.length<=(es.map ent).length)
    | none=>false)=true
   rw[hP.1.lst _ _ (λz=>z) hx];simp) (es.map ent).length 0 [] (l9 (none::none::cap) τ) S rfl ⟨_,_,rfl⟩ ⟨Kp.refl,by rw[fN];rfl⟩
 rw[show(lq n (es.map ent).length).k=es.length from hk,dJ]at h1;refine⟨S',?_,k1⟩;unfold kZ;rw[hs,R.nH];show(lJ (lq n (es.map ent).length) XH qb ex (es.map ent).length 0 (l9 (none::none::cap) τ) S).p7 _=_;rw[h1,R.ki];exact kY (by rw[aH];exact hl)
theorem Du:∀es:Es,XI (es.map ent)=some (es.map λe=>(e.1,A.ref e.2.1))
 | []=>rfl
 | e::es=>by
  rw[bF];show(match A.ints (e.1.map .int)with
   | some ks=>(XI (es.map ent)).map λrs=>(ks,A.ref e.2.1)::rs
   | _=>none)=_
  rw[ints_map,Du es];rfl
def Ks{S:jE}{n:Nat}{es:Es}(h:jC S n=some (es.map ent))(nd:(es.map Prod.fst).Nodup):BR (.ref n) S=.ok (.ref S.length) (S++[.lst ((mY es).map ent)]):=by
 show opt (jC S n) _=_;rw[h,kJ,Du,kJ];have e1:(es.map λe=>(e.1,A.ref e.2.1)).map Prod.fst=es.map Prod.fst:=by rw[bq];rfl
 rw[e1];have e2:=we (λp:Nat×Pl=>A.ref p.1) es;rw[e2,bq];exact mw nd
def NJ(es:Es):sm (mY es)=mY (sm es):=(we (λp:Nat×Pl=>p.2) es).symm
def Bc{D:Es}{r:Nat}{p:Pl}:∃e,fE (nU D o r p) o=some e/\e.2.1=r:=by
 unfold nU;by_cases c:(fE D o).isSome=true
 ·rw[aK c];obtain⟨e,he⟩:=fj.mp c;unfold fE at he ⊢;rw[iA];have eq:((λe:En=>decide (e.1=o)) ∘ λe:En=>if e.1=o then(e.1,r,p)else e)=λe:En=>decide (e.1=o):=by
   funext x
   show decide ((if x.1=o then(x.1,r,p)else x).1=o)=_;by_cases z:x.1=o
   ·rw[aK z]
   ·rw[aI z]
  rw[eq,he];have:=iP he;have:=bL this;exact⟨_,rfl,by show(if e.1=o then(e.1,r,p)else e).2.1=r;rw[aK this]⟩
 ·rw[aI c];have c:fE D o=none:=Option.not_isSome_iff_eq_none.mp c;unfold fE at c ⊢;rw[List.find?_append,c];exact⟨(o,r,p),by rw[cN,bg rfl];rfl,rfl⟩
end Su
namespace He
open PySem L2 Am Po
open Fw (Two rg Fj)
open Su (nB Ps cS Gd vS toS adds bx)
def Sz.of{n P:Nat}{l:Ps}(h:Cn l)(pm:∀x∈l,x.1.Perm (rg n))(pb:∀e∈l,PB P C e.2):Sz n P C l:=by
 refine⟨h,pm,⟨λo po t=>?_,λo po t ht=>?_⟩⟩
 ·rw[zl h.gd]
  rcases Su.uM (D:=l) (o:=o)with⟨e,h1,_,h3⟩|⟨_,h2⟩
  ·rw[h3];exact Su.YX (h.gd.ok e h1) (λq hq=>(pb e h1).c q hq) t
  ·rw[h2];exact bO _
 ·rw[zl h.gd]
  rcases Su.uM (D:=l) (o:=o)with⟨e,h1,_,h3⟩|⟨_,h2⟩
  ·rw[h3];have:∀q∈e.2,q.1≠t:=λq hq z=>by have:=(pb e h1).p q hq;rw[z]at this;lia
   clear h3;revert this;generalize e.2=p0;intro this
   induction p0 with
   | nil=>rfl
   | cons q p ih=>
    have z:=this q (aM ..);have i:=ih λx hx=>this x (aN _ hx);show(if q.1=t then q.2 else 0)+cf p t=0;rw[aI z,i];rfl
  ·rw[h2];rfl
theorem PB.times{P c:Nat}{p q:Pl}(hp:PB P C p)(hq:PB Q c q):(times p q).length<=2 * (P+Q)+1:=by
 refine Mi (c:=p.length * q.length * (C * c)) (Po.rq p q) ⟨λx hx=>?_,λx hx=>?_⟩
 ·have a:=Su.Ok.FY (Po.rq p q) hx;rw[Su.pW]at a;rw[<- a,<- Po.xV];have:∀l:Pl,Bd (C * c) l->(cf l x.1).natAbs<=l.length * (C * c):=λl=>by
   induction l with
   | nil=>exact λ_=>bO _
   | cons y l ih=>
    intro hb;have i:=ih λz hz=>hb z (aN _ hz);have j:=hb y (aM ..);show((if y.1=x.1 then y.2 else 0)+cf l x.1).natAbs<=(l.length+1) * (C * c);rw[eY];split<;>omega
  exact this _ (Bd.Ae (λz hz=>hp.c z hz) λz hz=>hq.c z hz)
 ·refine iI λz=>(Po.rq p q).nz x hx ?_;rw[<- Su.Ok.FY (Po.rq p q) hx,Su.pW];have:∀l:Pl,(∀y∈l,y.1.natAbs<=P+Q)->cf l x.1=0:=λl=>by
   induction l with
   | nil=>exact λ_=>rfl
   | cons y l ih=>
    intro hb;have i:=ih λz hz=>hb z (aN _ hz);have j:=hb y (aM ..);show(if y.1=x.1 then y.2 else 0)+cf l x.1=0;rw[i,aI (λw=>by rw[w]at j;omega)];rfl
  refine this _ λy hy=>?_;unfold Ae at hy;obtain⟨u,hu,hy⟩:=fP.mp hy;obtain⟨v,hv,rfl⟩:=bA.mp hy;have:=hp.p u hu;have:=hq.p v hv
  skip
  omega
def SY{o:ag}:((kP 1 (o.length:Int)).filter λk=>decide (o.getD (k-1).toNat 0>o.getD k.toNat 0)).head?=(ff o).map λk:Nat=>(k:Int):=by
 rw[List.head?_filter];unfold kP ff;rw[iA,show((o.length:Int)-1).toNat=o.length-1 by lia,gh];have:((λk:Int=>decide (o.getD (k-1).toNat 0>o.getD k.toNat 0)) ∘ λk:Nat=>(1:Int)+(k:Int))=λi:Nat=>nB o (i+1):=by
  funext i
  show decide (o.getD ((1:Int)+(i:Int)-1).toNat 0>o.getD ((1:Int)+(i:Int)).toNat 0)=decide _;rw[show((1:Int)+(i:Int)-1).toNat=i+1-1 by lia,show((1:Int)+(i:Int)).toNat=i+1 by lia]
 rw[this];congr 1
 funext i
 show(1:Int)+(i:Int)=((i+1:Nat):Int)
 lia
end He
namespace K29
open PySem L2 Am
abbrev top (i:Nat):aE:=PySem.Challenge.pw_undercells_k29_products_grouped.main.body.getD i (.Pass ⟨0,0,0,0⟩)
meta abbrev uy:aE:=top 11
meta abbrev uD:ar:=["thing"]
meta abbrev uA:ar:=["thing"]
abbrev uK:Sm:=
 lE (Ka (jZ (f2 Q9) (jy (jB 0) (jy (eC (.ty "int")) jF))) (Ve (jZ (f2 Q9) (jy (jB 0) (jy (eC (.ty "bool")) jF)))))
abbrev pZ:ae->jE->R A:=lV uD uK
meta abbrev sL:aE:=top 12
meta abbrev qf:ar:=["one", "other"]
meta abbrev sQ:ar:=["one", "other"]
abbrev qo:Sm:=
 wV (xr (jI (sf true) (jZ (f1 p9) (jy (jB 0) jF)) (jZ (f1 p9) (jy (jB 1) jF))))
 (CD "NoPair" [.inl "orders of ",.inr (jZ (f1 p9) (jy (jB 0) jF)),.inl " and of ",.inr (jZ (f1 p9) (jy (jB 1) jF)),.inl " things"])
 oH
abbrev mE:ae->jE->R A:=lV qf qo
meta abbrev EZ:aE:=top 13
meta abbrev Gr:ar:=["order", "places", "at", "thing"]
meta abbrev Gq:ar:=["order"]
abbrev OL:Ic:=
 QK (jB 0)
abbrev EO:Sm:=
 kD (jI lg (jB 2) (eC (.int 1))) (VT (jB 1) (jI aSub (jB 3) (eC (.int 1))))
abbrev Gg:Sm:=
 j5 (kD (jI Bw (mZ (jy (eC (.int 0)) jF)) (jZ (f1 p9) (jy (jB 0) jF))) (kQ 1))
 (j5 (nj OL (Aj 2 (r_ (kQ 2) (r_ (kQ 3) A0)))
 EO)
 (lE (jZ (f1 nX) (jy (jB 1) jF))))
abbrev vY:ae->jE->R A:=lV Gr Gg
meta abbrev qK:aE:=top 14
meta abbrev qQ:ar:=["n", "thing"]
meta abbrev qy:ar:=["n", "thing"]
abbrev qz:Sm:=
 lE (Ka (eFn pZ (jy (jB 1) jF)) (XJ ZX Y_ (eC (.int 1)) (jB 1) (jB 0)))
abbrev m5:ae->jE->R A:=lV qQ qz
meta abbrev nu:aE:=top 15
meta abbrev ni:ar:=["order", "i", "j", "things"]
meta abbrev nq:ar:=["order", "i", "j"]
abbrev nk:Sm:=
 j5 (kD (jZ (f1 uw) (jy (jB 0) jF)) (kQ 3))
 (j5 (kD (oz (jy (jI oh (jB 3) (jI aSub (jB 2) (eC (.int 1)))) (jy (jI oh (jB 3) (jI aSub (jB 1) (eC (.int 1)))) jF))) (Aj 2 (r_ (VT (jB 3) (jI aSub (jB 1) (eC (.int 1)))) (r_ (VT (jB 3) (jI aSub (jB 2) (eC (.int 1)))) A0))))
 (lE (jZ (f1 nX) (jy (jB 3) jF))))
abbrev ly:ae->jE->R A:=lV ni nk
meta abbrev sC:aE:=top 16
meta abbrev sI:ar:=["order", "k"]
meta abbrev oF:ar:=["order", "k"]
abbrev tK:Sm:=
 j5 (wV (zG (ug (eFn m5 (jy (jZ (f1 p9) (jy (jB 0) jF)) (jy (jB 1) jF)))))
 (CD "NoWord" [.inl "no exchange of ",.inr (jZ (f1 p9) (jy (jB 0) jF)),.inl " things"])
 oH)
 (lE (eFn ly (jy (jB 0) (jy (jB 1) (jy (jI lg (jB 1) (eC (.int 1))) jF)))))
abbrev lR:ae->jE->R A:=lV sI tK
meta abbrev Cf:aE:=top 17
meta abbrev Cd:ar:=["order"]
meta abbrev vg:ar:=["order"]
abbrev BK:Sm:=
 lE (kZ [none,some 0] (yp (eC (.int 1)) (jZ (f1 p9) (jy (jB 0) jF))) (kQ 0) (xr (jI UA (jI oh (jB 1) (jI aSub (jB 0) (eC (.int 1)))) (jI oh (jB 1) (jB 0)))) (jB 0))
abbrev qp:ae->jE->R A:=lV Cd BK
meta abbrev oM:aE:=top 19
meta abbrev oZ:ar:=["numbers"]
meta abbrev m9:ar:=["numbers"]
abbrev oR:Sm:=
 lE (kZ [none,some 0] (oK (jZ (f1 ze) (jy (jB 0) jF))) (kQ 0) (xr (jI (sf true) (jI za (jB 1) (jB 0)) (eC (.int 0)))) (oz (jy (jB 0) (jy (jI za (jB 1) (jB 0)) jF))))
abbrev kR:ae->jE->R A:=lV oZ oR
meta abbrev E_:aE:=top 20
meta abbrev Gs:ar:=["one", "other", "numbers", "power", "number"]
meta abbrev Gm:ar:=["one", "other"]
abbrev vP:Ic:=
 oK (jB 1)
abbrev EA:Sm:=
 kD (jI lg (JX xh (jB 2) (jy (jB 3) (jy (eC (.int 0)) jF))) (jB 4)) (Lh (jB 2) (jB 3))
abbrev Fp:Sm:=
 j5 (kD (jZ (f1 GF) (jy (jB 0) jF)) (kQ 2))
 (j5 (nj vP (Aj 2 (r_ (kQ 3) (r_ (kQ 4) A0)))
 EA)
 (lE (eFn kR (jy (jB 2) jF))))
abbrev y9:ae->jE->R A:=lV Gs Fp
meta abbrev B7:aE:=top 21
meta abbrev Cp:ar:=["one", "other", "numbers", "power", "number", "high", "many"]
meta abbrev xK:ar:=["one", "other"]
abbrev Kx:Ic:=
 oK (jB 1)
abbrev Ld:Sm:=
 kD (jI lg (JX xh (jB 2) (jy (jI lg (jB 3) (jB 5)) (jy (eC (.int 0)) jF))) (jI Jf (jB 4) (jB 6))) (Lh (jB 2) (jI lg (jB 3) (jB 5)))
abbrev Be:Ic:=
 oK (jB 0)
abbrev Aw:Sm:=
 nj Kx (Aj 2 (r_ (kQ 5) (r_ (kQ 6) A0)))
 Ld
abbrev BG:Sm:=
 j5 (kD Fe (kQ 2))
 (j5 (nj Be (Aj 2 (r_ (kQ 3) (r_ (kQ 4) A0)))
 Aw)
 (lE (eFn kR (jy (jB 2) jF))))
abbrev pD:ae->jE->R A:=lV Cp BG
meta abbrev r8:aE:=top 24
meta abbrev rC:ar:=["found", "order", "poly"]
meta abbrev nM:ar:=["found", "order", "poly"]
abbrev rW:Sm:=
 kD (eFn y9 (jy (Xk VL (jB 0) (jy (jB 1) (jy (mZ jF) jF))) (jy (jB 2) jF))) (Gx (jB 0) (jB 1))
abbrev kI:ae->jE->R A:=lV rC rW
meta abbrev yX:aE:=top 25
meta abbrev yw:ar:=["found"]
meta abbrev sZ:ar:=["found"]
abbrev yH:Sm:=
 lE (kZ [none,some 0] (oK (jZ (f1 wH) (jy (jB 0) jF))) (kQ 0) (ug (jI xG (jB 1) (jB 0))) (oz (jy (jB 0) (jy (jI xG (jB 1) (jB 0)) jF))))
abbrev nK:ae->jE->R A:=lV yw yH
meta abbrev sP:aE:=top 26
meta abbrev qu:ar:=["one", "other"]
meta abbrev qj:ar:=["one", "other"]
abbrev qv:Sm:=
 wV (RV (ug (jB 0)) (ug (jB 1)))
 (pJ (lQ mE (jy (jI oh (jI oh (jB 0) (eC (.int 0))) (eC (.int 0))) (jy (jI oh (jI oh (jB 1) (eC (.int 0))) (eC (.int 0))) jF))))
 oH
abbrev lI:ae->jE->R A:=lV qu qv
meta abbrev CH:aE:=top 27
meta abbrev CK:ar:=["one", "other", "found", "order", "poly"]
meta abbrev Co:ar:=["one", "other"]
abbrev tN:Ic:=
 oK (jI lg (jB 0) (jB 1))
abbrev Bf:Sm:=
 pJ (eFn kI (jy (jB 2) (jy (jB 3) (jy (jB 4) jF))))
abbrev Cw:Sm:=
 j5 (pJ (lQ lI (jy (jB 0) (jy (jB 1) jF))))
 (j5 (kD yO (kQ 2))
 (j5 (nj tN (Aj 2 (r_ (kQ 3) (r_ (kQ 4) A0)))
 Bf)
 (lE (eFn nK (jy (jB 2) jF)))))
abbrev o_:ae->jE->R A:=lV CK Cw
meta abbrev qO:aE:=top 28
meta abbrev qR:ar:=["one", "k", "found", "order", "poly"]
meta abbrev m7:ar:=["one", "k"]
abbrev ng:Ic:=
 oK (jB 0)
abbrev mh:Sm:=
 j5 (pJ (eFn kI (jy (jB 2) (jy (lQ lR (jy (jB 3) (jy (jB 1) jF))) (jy (jB 4) jF)))))
 (wV (xr (jI (aIn false) (jB 1) (eFn qp (jy (jB 3) jF))))
 (pJ (eFn kI (jy (jB 2) (jy (jB 3) (jy (eFn pD (jy (jZ (f1 uw) (jy (eC (.frz ([((-1:Int),(1:Int)),((1:Int),(-1:Int))].map kA))) jF)) (jy (jB 4) jF))) jF)))))
 oH)
abbrev qB:Sm:=
 j5 (kD yO (kQ 2))
 (j5 (nj ng (Aj 2 (r_ (kQ 3) (r_ (kQ 4) A0)))
 mh)
 (lE (eFn nK (jy (jB 2) jF))))
abbrev kF:ae->jE->R A:=lV qR qB
meta abbrev rY:aE:=top 29
meta abbrev pR:ar:=["one", "order", "known", "ends", "ahead"]
meta abbrev nV:ar:=["one", "order", "known"]
abbrev p8 (Fs:ae->jE->R A):Sm:=
 j5 (wV (xr (jI (QF true) (jB 1) (jB 2)))
 (j5 (kD (eFn qp (jy (jB 1) jF)) (kQ 3))
 (wV (ug (jB 3))
 (j5 (kD (lQ Fs (jy (jB 0) (jy (lQ lR (jy (jB 1) (jy (jI oh (jB 3) (eC (.int 0))) jF))) (jy (jB 2) jF)))) (kQ 4))
 (kD (lQ kF (jy (jB 4) (jy (jI oh (jB 3) (eC (.int 0))) jF))) (Gx (jB 2) (jB 1))))
 (kD (jB 0) (Gx (jB 2) (jB 1)))))
 oH)
 (lE (jI xG (jB 2) (jB 1)))
abbrev oB:Nat->ae->jE->R A
 | 0=>λ_ _=>.no
 | k+1=>lV pR (p8 (oB k))
abbrev ux:ae->jE->R A:=oB 26
meta abbrev sF:aE:=top 30
meta abbrev tB:ar:=["one", "other", "found", "known", "order", "poly", "at", "many"]
meta abbrev s_:ar:=["one", "other"]
abbrev qN:Ic:=
 oK (lQ ux (jy (jB 0) (jy (jB 4) (jy (jB 3) jF))))
abbrev qF:Sm:=
 pJ (eFn kI (jy (jB 2) (jy (jB 6) (jy (eFn pD (jy (jB 5) (jy (jB 7) jF))) jF))))
abbrev oq:Ic:=
 oK (jB 1)
abbrev nY:Sm:=
 nj qN (Aj 2 (r_ (kQ 6) (r_ (kQ 7) A0)))
 qF
abbrev tH:Sm:=
 j5 (kD yO (kQ 2))
 (j5 (kD yO (kQ 3))
 (j5 (nj oq (Aj 2 (r_ (kQ 4) (r_ (kQ 5) A0)))
 nY)
 (lE (eFn nK (jy (jB 2) jF)))))
abbrev ny:ae->jE->R A:=lV tB tH
meta abbrev rV:aE:=top 31
meta abbrev rT:ar:=["one"]
meta abbrev rD:ar:=["one"]
abbrev rL:Sm:=
 lE (jZ (f1 BR) (jy (kZ [none,none] (oK (jB 0)) (Aj 2 (r_ (kQ 0) (r_ (kQ 1) A0))) qb (oz (jy (eFn vY (jy (jB 0) jF)) (jy (jB 1) jF)))) jF))
abbrev lW:ae->jE->R A:=lV rT rL
meta abbrev wN:aE:=top 32
meta abbrev qW:ar:=["one", "other"]
meta abbrev pG:ar:=["one", "other"]
abbrev rf:Sm:=
 j5 (pJ (lQ lI (jy (jB 0) (jy (jB 1) jF))))
 (j5 (wV (xr (jI XY (jZ (f1 p9) (jy (jB 0) jF)) (jZ (f1 p9) (jy (jB 1) jF))))
 (lE (lQ ny (jy (jB 0) (jy (jB 1) jF))))
 oH)
 (lE (eFn lW (jy (lQ ny (jy (eFn lW (jy (jB 1) jF)) (jy (eFn lW (jy (jB 0) jF)) jF))) jF))))
abbrev jS:ae->jE->R A:=lV qW rf
meta abbrev wO:aE:=top 34
meta abbrev wg:ar:=["_law_script", "_law_at", "_law_cell", "_law_great"]
meta abbrev wK:ar:=["_law_script", "_law_at"]
abbrev wu:Sm:=
 j5 (kD (eC (.int 0)) (kQ 2))
 (j5 (wV (xr (jI Y_ (jB 1) (jZ (f1 p9) (jy (jB 0) jF))))
 (kD (jI oh (jB 0) (jB 1)) (kQ 2))
 oH)
 (j5 (kD (eC (.int 0)) (kQ 3))
 (j5 (wV (xr (jI XY (jB 2) (jI GJ (eC (.int 10)) (eC (.int 18)))))
 (kD (jB 2) (kQ 3))
 oH)
 (lE (mZ (jy (jB 3) (jy (jI ym (jI lg (jI lg (jB 2) (jI Bw (eC (.int 7919)) (jB 1))) (eC (.int 13))) (eC (.int 2147483647))) jF)))))))
abbrev qV:ae->jE->R A:=lV wg wu
meta abbrev tD:aE:=top 35
meta abbrev qi:ar:=["_law_bag_here", "_law_many", "_law_found"]
meta abbrev nA:ar:=["_law_bag_here", "_law_many"]
abbrev qq:Sm:=
 j5 (wV (xr (jI UA (jI oh (jB 0) (eC (.int 0))) (eC (.int 0))))
 (j5 (kD (jI ym (jI oh (jB 0) (eC (.int 0))) (jB 1)) (kQ 2))
 (j5 (kD (jI G8 (jI oh (jB 0) (eC (.int 0))) (jB 1)) (VT (jB 0) (eC (.int 0))))
 (lE (jB 2))))
 oH)
 (j5 (kD (jI ym (jI lg (jI Bw (jI oh (jB 0) (eC (.int 1))) (eC (.int 48271))) (eC (.int 11))) (eC (.int 2147483647))) (VT (jB 0) (eC (.int 1))))
 (lE (jI ym (jI ym (jI Bw (jI G8 (jI oh (jB 0) (eC (.int 1))) (eC (.int 8))) (eC (.int 69621))) (eC (.int 2147483629))) (jB 1))))
abbrev jP:ae->jE->R A:=lV qi qq
meta abbrev sY:aE:=top 36
meta abbrev sO:ar:=["_law_bag_here", "_law_n", "_law_left", "_law_made"]
meta abbrev tF:ar:=["_law_bag_here", "_law_n"]
abbrev qT:Te:=
 xr (jI UA (jZ (f1 p9) (jy (jB 2) jF)) (eC (.int 0)))
abbrev qH:Sm:=
 pJ (XM vQ (jB 3) (jy (XM Gb (jB 2) (jy (eFn jP (jy (jB 0) (jy (jZ (f1 p9) (jy (jB 2) jF)) jF))) jF)) jF))
abbrev sG:Sm:=
 j5 (kD (jZ (f1 uw) (jy (jZ (f2 rE) (jy (eC (.int 1)) (jy (jI lg (jB 1) (eC (.int 1))) jF))) jF)) (kQ 2))
 (j5 (kD (mZ jF) (kQ 3))
 (j5 (nG qT
 qH 1000000)
 (lE (jZ (f1 nX) (jy (jB 3) jF)))))
abbrev oA:ae->jE->R A:=lV sO sG
meta abbrev oW:aE:=top 37
meta abbrev oY:ar:=["_law_bag_here", "_law_n", "_law_most", "_law_held", "_law_k", "_law_one", "_law_power", "_law_own", "_law_shift"]
meta abbrev oN:ar:=["_law_bag_here", "_law_n", "_law_most"]
abbrev qg:Ic:=
 uv (jI lg (eC (.int 1)) (eFn jP (jy (jB 0) (jy (jB 2) jF))))
abbrev qm:Sm:=
 j5 (kD (eFn oA (jy (jB 0) (jy (jB 1) jF))) (kQ 5))
 (j5 (kD (jI aSub (eFn jP (jy (jB 0) (jy (eC (.int 5)) jF))) (eC (.int 2))) (kQ 6))
 (j5 (kD (mZ (jy (oz (jy (jB 6) (jy (jI lg (eC (.int 1)) (eFn jP (jy (jB 0) (jy (eC (.int 3)) jF)))) jF))) jF)) (kQ 7))
 (j5 (wV (xr (jI (sf false) (eFn jP (jy (jB 0) (jy (eC (.int 2)) jF))) (eC (.int 1))))
 (pJ (XM vQ (jB 7) (jy (oz (jy (jI lg (jI lg (jB 6) (eC (.int 1))) (eFn jP (jy (jB 0) (jy (eC (.int 3)) jF)))) (jy (jI oh (mZ (jy (QD Ce (eC (.int 2))) (jy (QD Ce (eC (.int 1))) (jy (eC (.int 1)) (jy (jI GJ (eC (.int 10)) (eC (.int 20))) jF))))) (eFn jP (jy (jB 0) (jy (eC (.int 4)) jF)))) jF))) jF)))
 oH)
 (j5 (kD (jI oh (mZ (jy (eC (.int 0)) (jy (eC (.int 0)) (jy (eC (.int 55)) (jy (QD Ce (eC (.int 55))) jF))))) (eFn jP (jy (jB 0) (jy (eC (.int 4)) jF)))) (kQ 8))
 (kD (kZ [none,none,some 8] (oK (jB 7)) (Aj 2 (r_ (kQ 0) (r_ (kQ 1) A0))) qb (oz (jy (jI lg (jB 0) (jB 2)) (jy (jB 1) jF)))) (Gx (jB 3) (jB 5)))))))
abbrev oS:Sm:=
 j5 (kD yO (kQ 3))
 (j5 (nj qg (kQ 4)
 qm)
 (lE (kZ [none,some 3] (oK (jZ (f1 wH) (jy (jB 3) jF))) (kQ 0) qb (oz (jy (jB 0) (jy (jI xG (jB 1) (jB 0)) jF))))))
abbrev jW:ae->jE->R A:=lV oY oS
meta abbrev zb:aE:=top 38
meta abbrev yv:ar:=["_law_e", "_law_due", "_law_found", "_law_names"]
meta abbrev zw:ar:=["_law_e", "_law_due"]
abbrev yl:Sm:=
 j5 (kD (mZ (jy (wX (Ko [("NoPair",false),("NoWord",true)]) (jB 0)) (jy (wX (Ko [("NoPair",false),("NoWord",false)]) (jB 0)) (jy (wX (Ko [("NoPair",true),("NoWord",false)]) (jB 0)) (jy (wX (Ko [("NoPair",false),("NoWord",false)]) (jB 0)) jF))))) (kQ 2))
 (j5 (kD (jI lg (jB 2) (mZ (jy (wX (Ko [("NoPair",false),("NoWord",false)]) (jB 0)) (jy (wX (Ko [("NoPair",false),("NoWord",false)]) (jB 0)) (jy (wX (Ko [("NoPair",false),("NoWord",false)]) (jB 0)) (jy (wX (Ko [("NoPair",false),("NoWord",false)]) (jB 0)) jF)))))) (kQ 2))
 (j5 (kD (mZ (jy (eC (.str (PySem.Str.ofString "word"))) (jy (eC (.str (PySem.Str.ofString "number"))) (jy (eC (.str (PySem.Str.ofString "pair"))) (jy (eC (.str (PySem.Str.ofString "many"))) (jy (eC (.str (PySem.Str.ofString "tables"))) (jy (eC (.str (PySem.Str.ofString "text"))) (jy (eC (.str (PySem.Str.ofString "row"))) (jy (eC (.str (PySem.Str.ofString "name"))) jF))))))))) (kQ 3))
 (lE (Ka (wX (Ko [("NoPair",true),("NoWord",true)]) (jB 0)) (jI (sf false) (jB 2) (kZ [none,some 1] (AX (jB 3)) (kQ 0) qb (jI (sf false) (jB 0) (jB 1))))))))
abbrev sH:ae->jE->R A:=lV yv yl
meta abbrev uC:aE:=top 39
meta abbrev uP:ar:=["_law_bag_here", "_law_n", "_law_made", "_law_k", "_law_at"]
meta abbrev uJ:ar:=["_law_bag_here", "_law_n"]
abbrev vj:Ic:=
 uv (eFn jP (jy (jB 0) (jy (eC (.int 3)) jF)))
abbrev vF:Sm:=
 j5 (kD (jI lg (eC (.int 1)) (eFn jP (jy (jB 0) (jy (jI aSub (jB 1) (eC (.int 1))) jF)))) (kQ 4))
 (kD (jI lg (jI lg (XR (jB 2) Ay (Ao (jI aSub (jB 4) (eC (.int 1))))) (mZ (jy (jI oh (jB 2) (jB 4)) (jy (jI oh (jB 2) (jI aSub (jB 4) (eC (.int 1)))) jF)))) (XR (jB 2) (Ao (jI lg (jB 4) (eC (.int 1)))) Ay)) (kQ 2))
abbrev uN:Sm:=
 j5 (kD (jZ (f1 uw) (jy (jZ (f2 rE) (jy (eC (.int 1)) (jy (jI lg (jB 1) (eC (.int 1))) jF))) jF)) (kQ 2))
 (j5 (nj vj (kQ 3)
 vF)
 (lE (jZ (f1 nX) (jy (jB 2) jF))))
abbrev pM:ae->jE->R A:=lV uP uN
meta abbrev mS:aE:=top 40
meta abbrev mV:ar:=["_law_one", "_law_other", "_law_third"]
meta abbrev mT:ar:=["_law_one", "_law_other", "_law_third"]
abbrev mR:Sm:=
 j5 (wV (xr (jI (sf true) (lQ jS (jy (lQ jS (jy (jB 0) (jy (jB 1) jF))) (jy (jB 2) jF))) (lQ jS (jy (jB 0) (jy (lQ jS (jy (jB 1) (jy (jB 2) jF))) jF)))))
 (lE (eC (.bl false)))
 oH)
 (j5 (wV (xr (jI (sf true) (lQ jS (jy (jB 0) (jy (lQ o_ (jy (jB 1) (jy (jB 2) jF))) jF))) (lQ o_ (jy (lQ jS (jy (jB 0) (jy (jB 1) jF))) (jy (lQ jS (jy (jB 0) (jy (jB 2) jF))) jF)))))
 (lE (eC (.bl false)))
 oH)
 (lE (jI (sf false) (lQ jS (jy (lQ o_ (jy (jB 0) (jy (jB 1) jF))) (jy (jB 2) jF))) (lQ o_ (jy (lQ jS (jy (jB 0) (jy (jB 2) jF))) (jy (lQ jS (jy (jB 1) (jy (jB 2) jF))) jF))))))
abbrev kL:ae->jE->R A:=lV mV mR
meta abbrev mq:aE:=top 41
meta abbrev lA:ar:=["_law_n", "_law_j", "_law_k", "_law_plain", "_law_some", "_law_one", "_law_other"]
meta abbrev mj:ar:=["_law_n", "_law_j", "_law_k"]
abbrev lz:Sm:=
 j5 (kD (jZ (f1 nX) (jy (jZ (f2 rE) (jy (eC (.int 1)) (jy (jI lg (jB 0) (eC (.int 1))) jF))) jF)) (kQ 3))
 (j5 (kD (mZ (jy (oz (jy (jB 3) (jy (mZ (jy (oz (jy (eC (.int 0)) (jy (eC (.int 1)) jF))) jF)) jF))) jF)) (kQ 4))
 (j5 (kD (lQ kF (jy (jB 4) (jy (jB 1) jF))) (kQ 5))
 (j5 (kD (lQ kF (jy (jB 4) (jy (jB 2) jF))) (kQ 6))
 (j5 (wV (xr (jI (sf false) (jZ (f1 Vj) (jy (jI aSub (jB 1) (jB 2)) jF)) (eC (.int 1))))
 (lE (jI (sf false) (lQ jS (jy (lQ jS (jy (jB 5) (jy (jB 6) jF))) (jy (jB 5) jF))) (lQ jS (jy (lQ jS (jy (jB 6) (jy (jB 5) jF))) (jy (jB 6) jF)))))
 oH)
 (lE (jI (sf false) (lQ jS (jy (jB 5) (jy (jB 6) jF))) (lQ jS (jy (jB 6) (jy (jB 5) jF)))))))))
abbrev j6:ae->jE->R A:=lV lA lz
meta abbrev qJ:aE:=top 42
meta abbrev qP:ar:=["_law_one", "_law_other", "_law_e"]
meta abbrev qS:ar:=["_law_one", "_law_other"]
abbrev qE:Sm:=
 j5 (C3 2 3 ["NoPair", "NoWord"] (pJ (lQ jS (jy (jB 0) (jy (jB 1) jF))))
 (lE (eFn sH (jy (jB 2) (jy (eC (.str (PySem.Str.ofString "pair"))) jF)))))
 (lE (eC (.bl false)))
abbrev kO:ae->jE->R A:=lV qP qE
meta abbrev P1:aE:=top 43
meta abbrev OP:ar:=["_law_script", "_law_k", "_law_bag_here", "_law_n", "_law_some", "_law_plain", "_law_unlike"]
meta abbrev TX:ar:=["_law_script"]
abbrev GP:Ic:=
 uv (jZ (f2 MP) (jy (eC (.int 1)) (jy (jZ (f2 PD) (jy (jZ (f1 p9) (jy (jB 0) jF)) (jy (eC (.int 2)) jF))) jF)))
abbrev Jk:Sm:=
 j5 (kD (eFn qV (jy (jB 0) (jy (jB 1) jF))) (kQ 2))
 (j5 (kD (jI oh (jI oh (mZ (jy (mZ (jy (eC (.int 2)) (jy (eC (.int 3)) (jy (eC (.int 3)) (jy (eC (.int 4)) (jy (eC (.int 4)) (jy (eC (.int 4)) (jy (eC (.int 4)) (jy (eC (.int 5)) jF))))))))) (jy (mZ (jy (eC (.int 2)) (jy (eC (.int 3)) (jy (eC (.int 3)) (jy (eC (.int 3)) (jy (eC (.int 2)) (jy (eC (.int 3)) (jy (eC (.int 3)) (jy (eC (.int 3)) jF))))))))) jF))) (jZ (f1 JG) (jy (jI UA (jB 1) (eC (.int 0))) jF))) (eFn jP (jy (jB 2) (jy (eC (.int 8)) jF)))) (kQ 3))
 (j5 (kD (kZ [none,some 2,some 3] (uv (eC (.int 3))) (kQ 0) qb (eFn jW (jy (jB 1) (jy (jB 2) (jy (jI oh (mZ (jy (eC (.int 6)) (jy (eC (.int 6)) (jy (eC (.int 2)) (jy (eC (.int 2)) jF))))) (jI aSub (jB 2) (eC (.int 2)))) jF))))) (kQ 4))
 (j5 (wV (xr (jI UA (jB 3) (eC (.int 3))))
 (kD (mZ (jy (eFn jW (jy (jB 2) (jy (jB 3) (jy (jI aSub (eC (.int 6)) (jB 3)) jF)))) (jy (eFn jW (jy (jB 2) (jy (jB 3) (jy (eC (.int 1)) jF)))) (jy (mZ (jy (oz (jy (eFn pM (jy (jB 2) (jy (jB 3) jF))) (jy (mZ (jy (oz (jy (eC (.int 0)) (jy (eC (.int 1)) jF))) jF)) jF))) jF)) jF)))) (kQ 4))
 oH)
 (j5 (wV (zG (ug (eFn kL (jy (jI oh (jB 4) (eC (.int 0))) (jy (jI oh (jB 4) (eC (.int 1))) (jy (jI oh (jB 4) (eC (.int 2))) jF))))))
 (lE (eC (.bl false)))
 oH)
 (j5 (kD (mZ (jy (oz (jy (jZ (f1 nX) (jy (jZ (f2 rE) (jy (eC (.int 1)) (jy (jI lg (jB 3) (eC (.int 1))) jF))) jF)) (jy (mZ (jy (oz (jy (eC (.int 0)) (jy (eC (.int 1)) jF))) jF)) jF))) jF)) (kQ 5))
 (j5 (wV (WE (xr (jI (sf true) (lQ jS (jy (jI oh (jB 4) (eC (.int 0))) (jy (jB 5) jF))) (jI oh (jB 4) (eC (.int 0))))) (xr (jI (sf true) (lQ jS (jy (jB 5) (jy (jI oh (jB 4) (eC (.int 0))) jF))) (jI oh (jB 4) (eC (.int 0))))))
 (lE (eC (.bl false)))
 oH)
 (j5 (wV (zG (ug (eFn j6 (jy (jB 3) (jy (jI lg (eC (.int 1)) (eFn jP (jy (jB 2) (jy (jI aSub (jB 3) (eC (.int 1))) jF)))) (jy (jI lg (eC (.int 1)) (eFn jP (jy (jB 2) (jy (jI aSub (jB 3) (eC (.int 1))) jF)))) jF))))))
 (lE (eC (.bl false)))
 oH)
 (j5 (kD (eFn jW (jy (jB 2) (jy (jI lg (eC (.int 2)) (jI ym (jI aSub (jB 3) (eC (.int 1))) (eC (.int 4)))) (jy (eC (.int 2)) jF)))) (kQ 6))
 (wV (WE (zG (ug (eFn kO (jy (jI oh (jB 4) (eC (.int 0))) (jy (jB 6) jF))))) (zG (ug (eFn kO (jy (jB 6) (jy (jI oh (jB 4) (eC (.int 0))) jF))))))
 (lE (eC (.bl false)))
 oH)))))))))
abbrev Nn:Sm:=
 j5 (nj GP (kQ 1)
 Jk)
 (lE (eC (.bl true)))
abbrev Az:ae->jE->R A:=lV OP Nn
section
variable {P:aj}{w:ah}{K:au}{mg:Str->bd}{base:aq}{f:ak}{fd:FuncData}
def DL:FnScope uD uA (jL uy):=vD rfl rfl rfl ∅
def DP(F:Fun K "is_whole" "is_whole" uy f fd)(aaK:mg "isinstance" = none)(abc:mg "bool" = none)(aa4:mg "int" = none):FnOk P w K mg base t_ 1 f fd uA (uz K 1 pZ):=Bo (m:=uK) F DL λcdv B outer s H E hr=>
 jN (j_ (FJ (kc Ul aaK qG (jA (jz 0) (jA (UY aa4 Qd) jJ))) (Gn (W5 (kc Ul aaK qG (jA (jz 0) (jA (UY abc QJ) jJ)))))))
def Bp:FnScope qf sQ (jL sL):=vD rfl rfl rfl ∅
def BL(F:Fun K "need_pair" "need_pair" sL f fd)(aab:ExcK K U "NoPair" C_NoPair)(aao:mg "len" = none):FnOk P w K mg base (zP P w) 1 f fd sQ (HU K 2 mE):=fnX (m:=qo) F Bp λcdv B outer s H E hr=>
 jN (nI (mH (KW hr.units) (kc qx aao nJ (jA (jz 0) jJ)) (kc qx aao nJ (jA (jz 1) jJ)))
 (jN (A2 (ps:=[.inl "orders of ",.inr (jZ (f1 p9) (jy (jB 0) jF)),.inl " and of ",.inr (jZ (f1 p9) (jy (jB 1) jF)),.inl " things"]) aab.n aab.q hr.hd (.txt (.val (kc qx aao nJ (jA (jz 0) jJ)) (.txt (.val (kc qx aao nJ (jA (jz 1) jJ)) (.txt .nil)))))))
 lB)
def yd:FnScope Gr Gq (jL EZ):=vD rfl rfl rfl ∅
def RI(F:Fun K "back" "back" EZ f fd)(aao:mg "len" = none)(abd:mg "enumerate" = none)(aaI:mg "tuple" = none):FnOk P w K mg base t_ 1 f fd Gq (uz K 1 vY):=Bo (m:=Gg) F yd λcdv B outer s H E hr=>
 jH (j7 (i:=1) yd.nd (jR G6 (lD (jA jD jJ)) (kc qx aao nJ (jA (jz 0) jJ))))
 (jH (p6 dZ rfl (W6 abd (jz 0)) (pO rfl (kh (j9 (i:=2) yd.nd) (kh (j9 (i:=3) yd.nd) nO)))
 (jN (qD (jR lO (jz 2) jD) (zE (jz 1) (jR o8 (jz 3) jD)))))
 (jN (j_ (kW (t6 rfl) aaI rj (jA (jz 1) jJ)))))
def zg:FnScope qQ qy (jL qK):=vD rfl rfl rfl ∅
def zq(F:Fun K "is_exchange" "is_exchange" qK f fd)(abe:su P w K mg base 1 "is_whole" uA pZ):FnOk P w K mg base t_ 2 f fd qy (uz K 2 m5):=Bo (m:=qz) F zg λcdv B outer s H E hr=>
 jN (j_ (FJ (PN abe hr (jz 1)) (Gn (YC aaR (Yv hr.units) jD (jz 1) (jz 0)))))
def o4:FnScope ni nq (jL nu):=vD rfl rfl rfl ∅
def uh(F:Fun K "exchanged_places" "exchanged_places" nu f fd)(aaM:mg "list" = none)(aaI:mg "tuple" = none):FnOk P w K mg base t_ 1 f fd nq (uz K 3 ly):=Bo (m:=nk) F o4 λcdv B outer s H E hr=>
 jH (j7 (i:=3) o4.nd (kW (Ck rfl) aaM xS (jA (jz 0) jJ)))
 (jH (qD (nE (jA (k_ (jz 3) (jR o8 (jz 2) jD)) (jA (k_ (jz 3) (jR o8 (jz 1) jD)) jJ))) (pO rfl (kh (zE (jz 3) (jR o8 (jz 1) jD)) (kh (zE (jz 3) (jR o8 (jz 2) jD)) nO))))
 (jN (j_ (kW (t6 rfl) aaI rj (jA (jz 3) jJ)))))
def BU:FnScope sI oF (jL sC):=vD rfl rfl rfl ∅
def B5(F:Fun K "exchanged" "exchanged" sC f fd)(aam:ExcK K U "NoWord" C_NoWord)(aao:mg "len" = none)(abf:su P w K mg base 2 "is_exchange" qy m5)(abg:su P w K mg base 1 "exchanged_places" nq ly):FnOk P w K mg base (zP P w) 3 f fd oF (HU K 2 lR):=fnX (m:=tK) F BU λcdv B outer s H E hr=>
 jH (nI (zL (rO (zR abf hr (kc qx aao nJ (jA (jz 0) jJ)) (jz 1))))
 (jN (A2 (ps:=[.inl "no exchange of ",.inr (jZ (f1 p9) (jy (jB 0) jF)),.inl " things"]) aam.n aam.q hr.hd (.txt (.val (kc qx aao nJ (jA (jz 0) jJ)) (.txt .nil)))))
 lB)
 (jN (j_ (Ob abg hr (jz 0) (jz 1) (jR lO (jz 1) jD))))
def NY:FnScope Cd vg (jL Cf):=vD rfl rfl rfl ∅
def LQ(F:Fun K "falls" "falls" Cf f fd)(aaB:mg "range" = none)(aao:mg "len" = none):FnOk P w K mg base t_ 1 f fd vg (uz K 1 qp):=Bo (m:=BK) F NY λcdv B outer s H E hr=>
 jN (j_ (t9 (N:=["k", "order"]) (cap:=[none,some 0]) rfl (xm ["order"] rfl ∅ ∅ ∅ ∅ ∅ (bw.mpr ⟨by first|exact Or.inl rfl|exact Or.inr rfl,(nofun)⟩) ⟨rfl,by decide +kernel,trivial⟩) (KI aaB jD (kc qx aao nJ (jA (jz 0) jJ))) (λ_ _ _ _=>j9 (i:=0) (show(["k", "order"]:ar).Nodup by decide +kernel) rfl (Or.inl rfl) (.inr rfl)) (λ_ _ _ _=>Cu (mH (N7 hr.units) (k_ (jz 1) (jR o8 (jz 0) jD)) (k_ (jz 1) (jz 0)))) (λ_ _ _ _=>jz 0)))
def wo:FnScope oZ m9 (jL oM):=vD rfl rfl rfl ∅
def wG(F:Fun K "as_polynomial" "as_polynomial" oM f fd)(aaN:mg "sorted" = none):FnOk P w K mg base t_ 1 f fd m9 (uz K 1 kR):=Bo (m:=oR) F wo λcdv B outer s H E hr=>
 jN (j_ (t9 (N:=["power", "numbers"]) (cap:=[none,some 0]) rfl (xm ["numbers"] rfl ∅ ∅ ∅ ∅ ∅ (bw.mpr ⟨by first|exact Or.inl rfl|exact Or.inr rfl,(nofun)⟩) ⟨rfl,by decide +kernel,trivial⟩) (oU (kc (Rc rfl) aaN ud (jA (jz 0) jJ))) (λ_ _ _ _=>j9 (i:=0) (show(["power", "numbers"]:ar).Nodup by decide +kernel) rfl (Or.inl rfl) (.inr rfl)) (λ_ _ _ _=>Cu (mH (KW hr.units) (LJ hr.units (jz 1) (jz 0)) jD)) (λ_ _ _ _=>nE (jA (jz 0) (jA (LJ hr.units (jz 1) (jz 0)) jJ)))))
def yb:FnScope Gs Gm (jL E_):=vD rfl rfl rfl ∅
def QN(F:Fun K "plus" "plus" E_ f fd)(abh:mg "dict" = none)(aa5:su P w K mg base 1 "as_polynomial" m9 kR):FnOk P w K mg base t_ 2 f fd Gm (uz K 2 y9):=Bo (m:=Fp) F yb λcdv B outer s H E hr=>
 jH (j7 (i:=2) yb.nd (kW (Sa rfl) abh RX (jA (jz 0) jJ)))
 (jH (p6 dZ rfl (oU (jz 1)) (pO rfl (kh (j9 (i:=3) yb.nd) (kh (j9 (i:=4) yb.nd) nO)))
 (jN (qD (jR lO (LL dG iH (NC hr.units) (jz 2) (jA (jz 3) (jA jD jJ))) (jz 4)) (IC hr.units (jz 2) (jz 3)))))
 (jN (j_ (PN aa5 hr (jz 2)))))
def qY:FnScope Cp xK (jL B7):=vD rfl rfl rfl ∅
def PC(F:Fun K "times" "times" B7 f fd)(aa5:su P w K mg base 1 "as_polynomial" m9 kR):FnOk P w K mg base t_ 2 f fd xK (uz K 2 pD):=Bo (m:=BG) F qY λcdv B outer s H E hr=>
 jH (j7 (i:=2) qY.nd LP)
 (jH (p6 dZ rfl (oU (jz 0)) (pO rfl (kh (j9 (i:=3) qY.nd) (kh (j9 (i:=4) qY.nd) nO)))
 (jN (p6 dZ rfl (oU (jz 1)) (pO rfl (kh (j9 (i:=5) qY.nd) (kh (j9 (i:=6) qY.nd) nO)))
 (jN (qD (jR lO (LL dG iH (NC hr.units) (jz 2) (jA (jR lO (jz 3) (jz 5)) (jA jD jJ))) (jR Xq (jz 4) (jz 6))) (IC hr.units (jz 2) (jR lO (jz 3) (jz 5))))))))
 (jN (j_ (PN aa5 hr (jz 2)))))
def z_:FnScope rC nM (jL r8):=vD rfl rfl rfl ∅
def zT(F:Fun K "put_before" "put_before" r8 f fd)(abi:su P w K mg base 2 "plus" Gm y9):FnOk P w K mg base t_ 3 f fd nM (uz K 3 kI):=Bo (m:=rW) F z_ λcdv B outer s H E hr=>
 jN (qD (zR abi hr (WY dG iH (X0 hr.units) (jz 0) (jA (jz 1) (jA (lD jJ) jJ))) (jz 2)) (xU hr.units (jz 0) (jz 1)))
def JP:FnScope yw sZ (jL yX):=vD rfl rfl rfl ∅
theorem Li(F:Fun K "as_sum" "as_sum" yX f fd)(aaN:mg "sorted" = none):FnOk P w K mg base t_ 1 f fd sZ (uz K 1 nK):=Bo (m:=yH) F JP λcdv B outer s H E hr=>
 jN (j_ (t9 (N:=["order", "found"]) (cap:=[none,some 0]) rfl (xm ["found"] rfl ∅ ∅ ∅ ∅ ∅ (bw.mpr ⟨by first|exact Or.inl rfl|exact Or.inr rfl,(nofun)⟩) ⟨rfl,by decide +kernel,trivial⟩) (oU (kc (Hi rfl) aaN ud (jA (jz 0) jJ))) (λ_ _ _ _=>j9 (i:=0) (show(["order", "found"]:ar).Nodup by decide +kernel) rfl (Or.inl rfl) (.inr rfl)) (λ_ _ _ _=>Cu (rO (B9 hr.units (jz 1) (jz 0)))) (λ_ _ _ _=>nE (jA (jz 0) (jA (B9 hr.units (jz 1) (jz 0)) jJ)))))
def CA:FnScope qu qj (jL sP):=vD rfl rfl rfl ∅
def Bu(F:Fun K "need_like" "need_like" sP f fd)(abj:zQ P w K mg base 1 "need_pair" sQ mE):FnOk P w K mg base (zP P w) 2 f fd qj (HU K 2 lI):=fnX (m:=qv) F CA λcdv B outer s H E hr=>
 jN (nI (AW.at (Wq (rO (jz 0)) (QZ (rO (jz 1)))))
 (jN (n9 (uE abj hr (k_ (k_ (jz 0) jD) jD) (k_ (k_ (jz 1) jD) jD))))
 lB)
def ve:FnScope CK Co (jL CH):=vD rfl rfl rfl ∅
def Lq(F:Fun K "added" "added" CH f fd)(aa6:zQ P w K mg base 2 "need_like" qj lI)(aaP:su P w K mg base 3 "put_before" nM kI)(aaV:su P w K mg base 1 "as_sum" sZ nK):FnOk P w K mg base (zP P w) 4 f fd Co (HU K 2 o_):=fnX (m:=Cw) F ve λcdv B outer s H E hr=>
 jH (n9 (uE aa6 hr (jz 0) (jz 1)))
 (jH (j7 (i:=2) ve.nd uZ)
 (jH (p6 iB rfl (oU (jR lO (jz 0) (jz 1))) (pO rfl (kh (j9 (i:=3) ve.nd) (kh (j9 (i:=4) ve.nd) nO)))
 (jN (n9 (Ob aaP hr (jz 2) (jz 3) (jz 4)))))
 (jN (j_ (PN aaV hr (jz 2))))))
def nN:FnScope qR m7 (jL qO):=vD rfl rfl rfl ∅
def zN(F:Fun K "by_exchange" "by_exchange" qO f fd)(aaM:mg "list" = none)(h_AT_A_FALL:∃a,mg "AT_A_FALL" = some (.ref a)/\XG K a=some [((-1:Int),(1:Int)),((1:Int),(-1:Int))])(aaP:su P w K mg base 3 "put_before" nM kI)(aaZ:zQ P w K mg base 3 "exchanged" oF lR)(aa3:su P w K mg base 1 "falls" vg qp)(aa7:su P w K mg base 2 "times" xK pD)(aaV:su P w K mg base 1 "as_sum" sZ nK):FnOk P w K mg base (zP P w) 4 f fd m7 (HU K 2 kF):=fnX (m:=qB) F nN λcdv B outer s H E hr=>
 jH (j7 (i:=2) nN.nd uZ)
 (jH (p6 iB rfl (oU (jz 0)) (pO rfl (kh (j9 (i:=3) nN.nd) (kh (j9 (i:=4) nN.nd) nO)))
 (jH (n9 (Ob aaP hr (jz 2) (uE aaZ hr (jz 3) (jz 1)) (jz 4)))
 (jN (nI (mH (aaw hr.units) (jz 1) (PN aa3 hr (jz 3)))
 (jN (n9 (Ob aaP hr (jz 2) (jz 3) (zR aa7 hr (kW (Ck rfl) aaM xS (jA (Nz h_AT_A_FALL.choose_spec.1 h_AT_A_FALL.choose_spec.2) jJ)) (jz 4)))))
 lB))))
 (jN (j_ (PN aaV hr (jz 2)))))
def sM:FnScope pR nV (jL rY):=vD rfl rfl rfl ∅
def EK{Fs:ae->jE->R A}(F:Fun K "by_order" "by_order" rY f fd)(aa3:su P w K mg base 1 "falls" vg qp)(aaZ:zQ P w K mg base 3 "exchanged" oF lR)(aaU:zQ P w K mg base 4 "by_exchange" m7 kF)(abF:zQ P w K mg base (5+kr) "by_order" nV Fs):FnOk P w K mg base (zP P w) (5+kr+1) f fd nV (HU K 3 (lV pR (p8 Fs))):=fnX (m:=p8 Fs) F sM λcdv B outer s H E hr=>
 jH (nI (mH (O3 hr.units) (jz 1) (jz 2))
 (jH (j7 (i:=3) sM.nd (G9 aa3 (hr.mono ()) (jA (jz 1) jJ) (kj nZ)))
 (jN (nI (rO (jz 3))
 (jH (j7 (i:=4) sM.nd (yF abF (hr.mono ()) (jA (jz 0) (jA (yF aaZ (hr.mono ()) (jA (jz 1) (jA (k_ (jz 3) jD) jJ)) (kj (kj nZ))) (jA (jz 2) jJ))) (kj (kj (kj nZ)))))
 (jN (qD (yF aaU (hr.mono ()) (jA (jz 4) (jA (k_ (jz 3) jD) jJ)) (kj (kj nZ))) (xU hr.units (jz 2) (jz 1)))))
 (jN (qD (jz 0) (xU hr.units (jz 2) (jz 1)))))))
 lB)
 (jN (j_ (B9 hr.units (jz 2) (jz 1))))
theorem vq(F:Fun K "by_order" "by_order" rY f fd)(aa3:su P w K mg base 1 "falls" vg qp)(aaZ:zQ P w K mg base 3 "exchanged" oF lR)(aaU:zQ P w K mg base 4 "by_exchange" m7 kF)(hm:mg "by_order" = some (.ref f))(hk:PySem.W.keepIn K (.ref f)=true)(hb:Binds K fd nV []):∀kr,FnOk P w K mg base (zP P w) (5+kr) f fd nV (HU K 3 (oB kr))
 | 0=>VS rfl
 | kr+1=>EK F aa3 aaZ aaU ⟨f,fd,vq F aa3 aaZ aaU hm hk hb kr,hm,hk,hb⟩
def lU:FnScope tB s_ (jL sF):=vD rfl rfl rfl ∅
def B4(F:Fun K "by_orders" "by_orders" sF f fd)(abk:zQ P w K mg base 31 "by_order" nV ux)(aaP:su P w K mg base 3 "put_before" nM kI)(aa7:su P w K mg base 2 "times" xK pD)(aaV:su P w K mg base 1 "as_sum" sZ nK):FnOk P w K mg base (zP P w) 32 f fd s_ (HU K 2 ny):=fnX (m:=tH) F lU λcdv B outer s H E hr=>
 jH (j7 (i:=2) lU.nd uZ)
 (jH (j7 (i:=3) lU.nd uZ)
 (jH (p6 iB rfl (oU (jz 1)) (pO rfl (kh (j9 (i:=4) lU.nd) (kh (j9 (i:=5) lU.nd) nO)))
 (jN (p6 iB rfl (oU (fx3 abk hr (jz 0) (jz 4) (jz 3))) (pO rfl (kh (j9 (i:=6) lU.nd) (kh (j9 (i:=7) lU.nd) nO)))
 (jN (n9 (Ob aaP hr (jz 2) (jz 6) (zR aa7 hr (jz 5) (jz 7))))))))
 (jN (j_ (PN aaV hr (jz 2))))))
def Ac:FnScope rT rD (jL rV):=vD rfl rfl rfl ∅
def Ag(F:Fun K "with_backs" "with_backs" rV f fd)(aaN:mg "sorted" = none)(abl:su P w K mg base 1 "back" Gq vY):FnOk P w K mg base t_ 2 f fd rD (uz K 1 lW):=Bo (m:=rL) F Ac λcdv B outer s H E hr=>
 jN (j_ (kc (NQ hr.units) aaN ud (jA (t9 (N:=["order", "poly"]) (cap:=[none,none]) rfl (xm [] rfl ∅ ∅ ∅ ∅ ∅ (nofun) trivial) (oU (jz 0)) (λ_ _ _ _=>pO rfl (kh (j9 (i:=0) (show(["order", "poly"]:ar).Nodup by decide +kernel) rfl (Or.inl rfl) (.inr rfl)) (kh (j9 (i:=1) (show(["order", "poly"]:ar).Nodup by decide +kernel) rfl (Or.inl rfl) (.inr rfl)) nO))) (λ_ _ _ _=>uQ) (λ_ _ _ _=>nE (jA (PN abl hr (jz 0)) (jA (jz 1) jJ)))) jJ)))
def Fd:FnScope qW pG (jL wN):=vD rfl rfl rfl ∅
def FW(F:Fun K "product" "product" wN f fd)(aao:mg "len" = none)(aa6:zQ P w K mg base 2 "need_like" qj lI)(aba:zQ P w K mg base 32 "by_orders" s_ ny)(aa_:su P w K mg base 2 "with_backs" rD lW):FnOk P w K mg base (zP P w) 33 f fd pG (HU K 2 jS):=fnX (m:=rf) F Fd λcdv B outer s H E hr=>
 jH (n9 (uE aa6 hr (jz 0) (jz 1)))
 (jH (nI (mH YU (kc qx aao nJ (jA (jz 0) jJ)) (kc qx aao nJ (jA (jz 1) jJ)))
 (jN (j_ (uE aba hr (jz 0) (jz 1))))
 lB)
 (jN (j_ (PN aa_ hr (uE aba hr (PN aa_ hr (jz 1)) (PN aa_ hr (jz 0)))))))
def pQ:FnScope wg wK (jL wO):=vD rfl rfl rfl ∅
def Gv(F:Fun K "_law_bag" "_law_bag" wO f fd)(aao:mg "len" = none):FnOk P w K mg base t_ 1 f fd wK (uz K 2 qV):=Bo (m:=wu) F pQ λcdv B outer s H E hr=>
 jH (j7 (i:=2) pQ.nd jD)
 (jH (nI (mH (Yv hr.units) (jz 1) (kc qx aao nJ (jA (jz 0) jJ)))
 (jN (j7 (i:=2) pQ.nd (k_ (jz 0) (jz 1))))
 lB)
 (jH (j7 (i:=3) pQ.nd jD)
 (jH (nI (mH YU (jz 2) (jR Ua jD jD))
 (jN (j7 (i:=3) pQ.nd (jz 2)))
 lB)
 (jN (j_ (lD (jA (jz 3) (jA (jR AH (jR lO (jR lO (jz 2) (jR G6 jD (jz 1))) jD) jD) jJ))))))))
def vp:FnScope qi nA (jL tD):=vD rfl rfl rfl ∅
def BA(F:Fun K "_law_digit" "_law_digit" tD f fd):FnOk P w K mg base t_ 1 f fd nA (uz K 2 jP):=Bo (m:=qq) F vp λcdv B outer s H E hr=>
 jH (nI (mH (N7 hr.units) (k_ (jz 0) jD) jD)
 (jH (j7 (i:=2) vp.nd (jR AH (k_ (jz 0) jD) (jz 1)))
 (jH (qD (jR PU (k_ (jz 0) jD) (jz 1)) (zE (jz 0) jD))
 (jN (j_ (jz 2)))))
 lB)
 (jH (qD (jR AH (jR lO (jR G6 (k_ (jz 0) jD) jD) jD) jD) (zE (jz 0) jD))
 (jN (j_ (jR AH (jR AH (jR G6 (jR PU (k_ (jz 0) jD) jD) jD) jD) (jz 1)))))
def rJ:FnScope sO tF (jL sY):=vD rfl rfl rfl ∅
def BE(F:Fun K "_law_order" "_law_order" sY f fd)(aaM:mg "list" = none)(aaB:mg "range" = none)(aao:mg "len" = none)(aaI:mg "tuple" = none)(aaC:su P w K mg base 1 "_law_digit" nA jP):FnOk P w K mg base t_ 2 f fd tF (uz K 2 oA):=Bo (m:=sG) F rJ λcdv B outer s H E hr=>
 jH (j7 (i:=2) rJ.nd (kW (Ck rfl) aaM xS (jA (kW vN aaB vM (jA jD (jA (jR lO (jz 1) jD) jJ))) jJ)))
 (jH (j7 (i:=3) rJ.nd (lD jJ))
 (jH (MV 1000000 dZ (mH (N7 hr.units) (kc qx aao nJ (jA (jz 2) jJ)) jD)
 (jN (n9 (LF PySem.F.slot_list_append PySem.F.type_list_append EG (jz 3) (jA (LF PySem.F.slot_list_pop PySem.F.type_list_pop Rg (jz 2) (jA (zR aaC hr (jz 0) (kc qx aao nJ (jA (jz 2) jJ))) jJ)) jJ)))))
 (jN (j_ (kW (t6 rfl) aaI rj (jA (jz 3) jJ))))))
def kM:FnScope oY oN (jL oW):=vD rfl rfl rfl ∅
def wM(F:Fun K "_law_small_sum" "_law_small_sum" oW f fd)(aaB:mg "range" = none)(aaN:mg "sorted" = none)(aaC:su P w K mg base 1 "_law_digit" nA jP)(abm:su P w K mg base 2 "_law_order" tF oA):FnOk P w K mg base t_ 3 f fd oN (uz K 3 jW):=Bo (m:=oS) F kM λcdv B outer s H E hr=>
 jH (j7 (i:=3) kM.nd uZ)
 (jH (p6 dZ rfl (tR aaB (jR lO jD (zR aaC hr (jz 0) (jz 2)))) (j9 (i:=4) kM.nd)
 (jH (j7 (i:=5) kM.nd (zR abm hr (jz 0) (jz 1)))
 (jH (j7 (i:=6) kM.nd (jR o8 (zR aaC hr (jz 0) jD) jD))
 (jH (j7 (i:=7) kM.nd (lD (jA (nE (jA (jz 6) (jA (jR lO jD (zR aaC hr (jz 0) jD)) jJ))) jJ)))
 (jH (nI (mH (GI hr.units) (zR aaC hr (jz 0) jD) jD)
 (jN (n9 (LF PySem.F.slot_list_append PySem.F.type_list_append EG (jz 7) (jA (nE (jA (jR lO (jR lO (jz 6) jD) (zR aaC hr (jz 0) jD)) (jA (k_ (lD (jA (Gk jD) (jA (Gk jD) (jA jD (jA (jR Ua jD jD) jJ))))) (zR aaC hr (jz 0) jD)) jJ))) jJ))))
 lB)
 (jH (j7 (i:=8) kM.nd (k_ (lD (jA jD (jA jD (jA jD (jA (Gk jD) jJ))))) (zR aaC hr (jz 0) jD)))
 (jN (qD (t9 (N:=["_law_power", "_law_number", "_law_shift"]) (cap:=[none,none,some 8]) rfl (xm ["_law_shift"] rfl ∅ ∅ ∅ ∅ ∅ (bw.mpr ⟨by first|exact Or.inl rfl|exact Or.inr rfl,(nofun)⟩) ⟨rfl,by decide +kernel,trivial⟩) (oU (jz 7)) (λ_ _ _ _=>pO rfl (kh (j9 (i:=0) (show(["_law_power", "_law_number", "_law_shift"]:ar).Nodup by decide +kernel) rfl (Or.inl rfl) (.inr rfl)) (kh (j9 (i:=1) (show(["_law_power", "_law_number", "_law_shift"]:ar).Nodup by decide +kernel) rfl (Or.inl rfl) (.inr rfl)) nO))) (λ_ _ _ _=>uQ) (λ_ _ _ _=>nE (jA (jR lO (jz 0) (jz 2)) (jA (jz 1) jJ)))) (xU hr.units (jz 3) (jz 5))))))))))
 (jN (j_ (t9 (N:=["_law_one", "_law_held"]) (cap:=[none,some 3]) rfl (xm ["_law_held"] rfl ∅ ∅ ∅ ∅ ∅ (bw.mpr ⟨by first|exact Or.inl rfl|exact Or.inr rfl,(nofun)⟩) ⟨rfl,by decide +kernel,trivial⟩) (oU (kc (Hi rfl) aaN ud (jA (jz 3) jJ))) (λ_ _ _ _=>j9 (i:=0) (show(["_law_one", "_law_held"]:ar).Nodup by decide +kernel) rfl (Or.inl rfl) (.inr rfl)) (λ_ _ _ _=>uQ) (λ_ _ _ _=>nE (jA (jz 0) (jA (B9 hr.units (jz 1) (jz 0)) jJ)))))))
def tV:FnScope yv zw (jL zb):=vD rfl rfl rfl ∅
def K7(F:Fun K "_law_is" "_law_is" zb f fd)(aam:ExcK K U "NoWord" C_NoWord)(aab:ExcK K U "NoPair" C_NoPair)(abn:mg "TooMany" = some (.ref C_TooMany))(abo:mg "NoPair" = some (.ref C_NoPair))(abp:mg "NoNumber" = some (.ref C_NoNumber))(abq:mg "NoWord" = some (.ref C_NoWord))(abr:mg "NoName" = some (.ref C_NoName))(abt:mg "NoRow" = some (.ref C_NoRow))(abu:mg "NoText" = some (.ref C_NoText))(abv:mg "NoTables" = some (.ref C_NoTables))(k_NoWord_TooMany:PySem.W.kitOne K (.ref C_NoWord) (.ref C_TooMany)=some false)(k_NoPair_TooMany:PySem.W.kitOne K (.ref C_NoPair) (.ref C_TooMany)=some false)(k_NoWord_NoPair:PySem.W.kitOne K (.ref C_NoWord) (.ref C_NoPair)=some false)(k_NoPair_NoPair:PySem.W.kitOne K (.ref C_NoPair) (.ref C_NoPair)=some true)(k_NoWord_NoNumber:PySem.W.kitOne K (.ref C_NoWord) (.ref C_NoNumber)=some false)(k_NoPair_NoNumber:PySem.W.kitOne K (.ref C_NoPair) (.ref C_NoNumber)=some false)(k_NoWord_NoWord:PySem.W.kitOne K (.ref C_NoWord) (.ref C_NoWord)=some true)(k_NoPair_NoWord:PySem.W.kitOne K (.ref C_NoPair) (.ref C_NoWord)=some false)(k_NoWord_NoName:PySem.W.kitOne K (.ref C_NoWord) (.ref C_NoName)=some false)(k_NoPair_NoName:PySem.W.kitOne K (.ref C_NoPair) (.ref C_NoName)=some false)(k_NoWord_NoRow:PySem.W.kitOne K (.ref C_NoWord) (.ref C_NoRow)=some false)(k_NoPair_NoRow:PySem.W.kitOne K (.ref C_NoPair) (.ref C_NoRow)=some false)(k_NoWord_NoText:PySem.W.kitOne K (.ref C_NoWord) (.ref C_NoText)=some false)(k_NoPair_NoText:PySem.W.kitOne K (.ref C_NoPair) (.ref C_NoText)=some false)(k_NoWord_NoTables:PySem.W.kitOne K (.ref C_NoWord) (.ref C_NoTables)=some false)(k_NoPair_NoTables:PySem.W.kitOne K (.ref C_NoPair) (.ref C_NoTables)=some false)(aaK:mg "isinstance" = none)(abw:mg "ValueError" = none):FnOkH P w K mg base 1 f fd zw (uz K 2 sH):=fnH (m:=yl) F tV λcdv B outer s H e oe C hr hh h0 xo=>
 jH (j7 (i:=2) tV.nd (lD (jA (sU abq (tb:=[("NoPair",false),("NoWord",true)]) (bw.mpr ⟨⟨_,aab.n,aab.x,aab.cl,k_NoPair_NoWord⟩,(bw.mpr ⟨⟨_,aam.n,aam.x,aam.cl,k_NoWord_NoWord⟩,(nofun)⟩)⟩) (jz 0) aaK) (jA (sU abp (tb:=[("NoPair",false),("NoWord",false)]) (bw.mpr ⟨⟨_,aab.n,aab.x,aab.cl,k_NoPair_NoNumber⟩,(bw.mpr ⟨⟨_,aam.n,aam.x,aam.cl,k_NoWord_NoNumber⟩,(nofun)⟩)⟩) (jz 0) aaK) (jA (sU abo (tb:=[("NoPair",true),("NoWord",false)]) (bw.mpr ⟨⟨_,aab.n,aab.x,aab.cl,k_NoPair_NoPair⟩,(bw.mpr ⟨⟨_,aam.n,aam.x,aam.cl,k_NoWord_NoPair⟩,(nofun)⟩)⟩) (jz 0) aaK) (jA (sU abn (tb:=[("NoPair",false),("NoWord",false)]) (bw.mpr ⟨⟨_,aab.n,aab.x,aab.cl,k_NoPair_TooMany⟩,(bw.mpr ⟨⟨_,aam.n,aam.x,aam.cl,k_NoWord_TooMany⟩,(nofun)⟩)⟩) (jz 0) aaK) jJ))))))
 (jH (j7 (i:=2) tV.nd (jR lO (jz 2) (lD (jA (sU abv (tb:=[("NoPair",false),("NoWord",false)]) (bw.mpr ⟨⟨_,aab.n,aab.x,aab.cl,k_NoPair_NoTables⟩,(bw.mpr ⟨⟨_,aam.n,aam.x,aam.cl,k_NoWord_NoTables⟩,(nofun)⟩)⟩) (jz 0) aaK) (jA (sU abu (tb:=[("NoPair",false),("NoWord",false)]) (bw.mpr ⟨⟨_,aab.n,aab.x,aab.cl,k_NoPair_NoText⟩,(bw.mpr ⟨⟨_,aam.n,aam.x,aam.cl,k_NoWord_NoText⟩,(nofun)⟩)⟩) (jz 0) aaK) (jA (sU abt (tb:=[("NoPair",false),("NoWord",false)]) (bw.mpr ⟨⟨_,aab.n,aab.x,aab.cl,k_NoPair_NoRow⟩,(bw.mpr ⟨⟨_,aam.n,aam.x,aam.cl,k_NoWord_NoRow⟩,(nofun)⟩)⟩) (jz 0) aaK) (jA (sU abr (tb:=[("NoPair",false),("NoWord",false)]) (bw.mpr ⟨⟨_,aab.n,aab.x,aab.cl,k_NoPair_NoName⟩,(bw.mpr ⟨⟨_,aam.n,aam.x,aam.cl,k_NoWord_NoName⟩,(nofun)⟩)⟩) (jz 0) aaK) jJ)))))))
 (jH (j7 (i:=3) tV.nd (lD (jA r6 (jA r6 (jA r6 (jA r6 (jA r6 (jA r6 (jA r6 (jA r6 jJ))))))))))
 (jN (j_ (FJ (WN abw (tb:=[("NoPair",true),("NoWord",true)]) (bw.mpr ⟨⟨_,aab.n,aab.x,aab.cl,aab.v⟩,(bw.mpr ⟨⟨_,aam.n,aam.x,aam.cl,aam.v⟩,(nofun)⟩)⟩) (jz 0) aaK) (Gn (wY (GI hr.units) (jz 2) (Nj (N:=["_law_name", "_law_due"]) (cap:=[none,some 1]) hh h0 xo (xm ["_law_due"] rfl ∅ ∅ ∅ ∅ ∅ (bw.mpr ⟨by first|exact Or.inl rfl|exact Or.inr rfl,(nofun)⟩) ⟨rfl,by decide +kernel,trivial⟩) (jz 3) (λ_ _ _ _=>j9 (i:=0) (show(["_law_name", "_law_due"]:ar).Nodup by decide +kernel) rfl (Or.inl rfl) (.inr rfl)) (λ_ _ _ _=>uQ) (λ_ _ _ _=>wY (GI hr.units) (jz 0) (jz 1))))))))))
def oJ:FnScope uP uJ (jL uC):=vD rfl rfl rfl ∅
def C8(F:Fun K "_law_near" "_law_near" uC f fd)(aaM:mg "list" = none)(aaB:mg "range" = none)(aaI:mg "tuple" = none)(aaC:su P w K mg base 1 "_law_digit" nA jP):FnOk P w K mg base t_ 2 f fd uJ (uz K 2 pM):=Bo (m:=uN) F oJ λcdv B outer s H E hr=>
 jH (j7 (i:=2) oJ.nd (kW (Ck rfl) aaM xS (jA (kW vN aaB vM (jA jD (jA (jR lO (jz 1) jD) jJ))) jJ)))
 (jH (p6 dZ rfl (tR aaB (zR aaC hr (jz 0) jD)) (j9 (i:=3) oJ.nd)
 (jH (j7 (i:=4) oJ.nd (jR lO jD (zR aaC hr (jz 0) (jR o8 (jz 1) jD))))
 (jN (j7 (i:=2) oJ.nd (jR lO (jR lO (US (jz 2) G1 (HP (jR o8 (jz 4) jD))) (lD (jA (k_ (jz 2) (jz 4)) (jA (k_ (jz 2) (jR o8 (jz 4) jD)) jJ)))) (US (jz 2) (HP (jR lO (jz 4) jD)) G1))))))
 (jN (j_ (kW (t6 rfl) aaI rj (jA (jz 2) jJ)))))
def sj:FnScope mV mT (jL mS):=vD rfl rfl rfl ∅
def sD(F:Fun K "_law_grouped_right" "_law_grouped_right" mS f fd)(aax:zQ P w K mg base 33 "product" pG jS)(aa8:zQ P w K mg base 4 "added" Co o_):FnOk P w K mg base t_ 34 f fd mT (uz K 3 kL):=Bo (m:=mR) F sj λcdv B outer s H E hr=>
 jH (nI (mH (KW hr.units) (uE aax hr (uE aax hr (jz 0) (jz 1)) (jz 2)) (uE aax hr (jz 0) (uE aax hr (jz 1) (jz 2))))
 (jN (j_ xg))
 lB)
 (jH (nI (mH (KW hr.units) (uE aax hr (jz 0) (uE aa8 hr (jz 1) (jz 2))) (uE aa8 hr (uE aax hr (jz 0) (jz 1)) (uE aax hr (jz 0) (jz 2))))
 (jN (j_ xg))
 lB)
 (jN (j_ (wY (GI hr.units) (uE aax hr (uE aa8 hr (jz 0) (jz 1)) (jz 2)) (uE aa8 hr (uE aax hr (jz 0) (jz 2)) (uE aax hr (jz 1) (jz 2)))))))
def kG:FnScope lA mj (jL mq):=vD rfl rfl rfl ∅
def rK(F:Fun K "_law_exchanges_right" "_law_exchanges_right" mq f fd)(aaI:mg "tuple" = none)(aaB:mg "range" = none)(abx:mg "abs" = none)(aaU:zQ P w K mg base 4 "by_exchange" m7 kF)(aax:zQ P w K mg base 33 "product" pG jS):FnOk P w K mg base t_ 34 f fd mj (uz K 3 j6):=Bo (m:=lz) F kG λcdv B outer s H E hr=>
 jH (j7 (i:=3) kG.nd (kW (t6 rfl) aaI rj (jA (kW vN aaB vM (jA jD (jA (jR lO (jz 0) jD) jJ))) jJ)))
 (jH (j7 (i:=4) kG.nd (lD (jA (nE (jA (jz 3) (jA (lD (jA (nE (jA jD (jA jD jJ))) jJ)) jJ))) jJ)))
 (jH (j7 (i:=5) kG.nd (uE aaU hr (jz 4) (jz 1)))
 (jH (j7 (i:=6) kG.nd (uE aaU hr (jz 4) (jz 2)))
 (jH (nI (mH (GI hr.units) (kc YA abx XD (jA (jR o8 (jz 1) (jz 2)) jJ)) jD)
 (jN (j_ (wY (GI hr.units) (uE aax hr (uE aax hr (jz 5) (jz 6)) (jz 5)) (uE aax hr (uE aax hr (jz 6) (jz 5)) (jz 6)))))
 lB)
 (jN (j_ (wY (GI hr.units) (uE aax hr (jz 5) (jz 6)) (uE aax hr (jz 6) (jz 5)))))))))
def sE:FnScope qP qS (jL qJ):=vD rfl rfl rfl ∅
def yS(F:Fun K "_law_refused" "_law_refused" qJ f fd)(hU:FU K "UnderError" U)(mU:L2.mroIn K U=some V3)(aam:ExcK K U "NoWord" C_NoWord)(aab:ExcK K U "NoPair" C_NoPair)(aax:zQ P w K mg base 33 "product" pG jS)(aby:Xo P w K mg base 1 "_law_is" zw sH):FnOk P w K mg base t_ 34 f fd qS (uz K 2 kO):=Bo (m:=qE) F sE λcdv B outer s H E hr=>
 jH (by(refine Xv (i:=2) (cs:=["NoPair", "NoWord"]) ?hb ?hh sE.nd hU mU (bw.mpr ⟨⟨_,aab.n,aab.r⟩,(bw.mpr ⟨⟨_,aam.n,aam.r⟩,(nofun)⟩)⟩);(case hb=>exact(λ_ _=>jN (n9 (uE aax hr (jz 0) (jz 1)))));(case hh=>exact(λ_ _ _ _ xo=>jN (j_ (Wv aby (KN hr ⋯) rfl ko xo (jA (jz 2) (jA r6 jJ)) (kj (kj nZ))))))))
 (jN (j_ xg))
def sN:FnScope OP TX (jL P1):=vD rfl rfl rfl ∅
set_option smartUnfolding false in
theorem Xg(F:Fun K "law" "law" P1 f fd)(aaB:mg "range" = none)(abz:mg "max" = none)(abA:mg "min" = none)(aao:mg "len" = none)(aa4:mg "int" = none)(aaI:mg "tuple" = none)(abB:su P w K mg base 1 "_law_bag" wK qV)(aaC:su P w K mg base 1 "_law_digit" nA jP)(aa9:su P w K mg base 3 "_law_small_sum" oN jW)(abC:su P w K mg base 2 "_law_near" uJ pM)(abD:su P w K mg base 34 "_law_grouped_right" mT kL)(aax:zQ P w K mg base 33 "product" pG jS)(abE:su P w K mg base 34 "_law_exchanges_right" mj j6)(abb:su P w K mg base 34 "_law_refused" qS kO):FnOk P w K mg base t_ 35 f fd TX (uz K 1 Az):=Bo (m:=Nn) F sN λcdv B outer s H E hr=>
 jH (p6 dZ rfl (tR aaB (kc (Wi rfl) abz Wn (jA jD (jA (kc (V5 rfl) abA W3 (jA (kc qx aao nJ (jA (jz 0) jJ)) (jA jD jJ))) jJ)))) (j9 (i:=1) sN.nd)
 (jH (j7 (i:=2) sN.nd (zR abB hr (jz 0) (jz 1)))
 (jH (j7 (i:=3) sN.nd (k_ (k_ (lD (jA (lD (jA jD (jA jD (jA jD (jA jD (jA jD (jA jD (jA jD (jA jD jJ))))))))) (jA (lD (jA jD (jA jD (jA jD (jA jD (jA jD (jA jD (jA jD (jA jD jJ))))))))) jJ))) (kW Xc aa4 Qd (jA (wY (N7 hr.units) (jz 1) jD) jJ))) (zR aaC hr (jz 2) jD)))
 (jH (QA (i:=4) (N:=["_law_j", "_law_bag_here", "_law_n"]) (cap:=[none,some 2,some 3]) sN.nd rfl (xm ["_law_bag_here", "_law_n"] rfl ∅ ∅ ∅ ∅ ∅ (bw.mpr ⟨by first|exact Or.inl rfl|exact Or.inr rfl,(bw.mpr ⟨by first|exact Or.inl rfl|exact Or.inr rfl,(nofun)⟩)⟩) ⟨rfl,by decide +kernel,⟨rfl,by decide +kernel,trivial⟩⟩) (tR aaB jD) (λ_ _ _ _=>j9 (i:=0) (show(["_law_j", "_law_bag_here", "_law_n"]:ar).Nodup by decide +kernel) rfl (Or.inl rfl) (.inr rfl)) (λ_ _ _ _=>uQ) (λ_ _ _ _=>Ob aa9 hr (jz 1) (jz 2) (k_ (lD (jA jD (jA jD (jA jD (jA jD jJ))))) (jR o8 (jz 2) jD))))
 (jH (nI (mH (N7 hr.units) (jz 3) jD)
 (jN (j7 (i:=4) sN.nd (lD (jA (Ob aa9 hr (jz 2) (jz 3) (jR o8 jD (jz 3))) (jA (Ob aa9 hr (jz 2) (jz 3) jD) (jA (lD (jA (nE (jA (zR abC hr (jz 2) (jz 3)) (jA (lD (jA (nE (jA jD (jA jD jJ))) jJ)) jJ))) jJ)) jJ))))))
 lB)
 (jH (nI (zL (rO (Ob abD hr (k_ (jz 4) jD) (k_ (jz 4) jD) (k_ (jz 4) jD))))
 (jN (j_ xg))
 lB)
 (jH (j7 (i:=5) sN.nd (lD (jA (nE (jA (kW (t6 rfl) aaI rj (jA (kW vN aaB vM (jA jD (jA (jR lO (jz 3) jD) jJ))) jJ)) (jA (lD (jA (nE (jA jD (jA jD jJ))) jJ)) jJ))) jJ)))
 (jH (nI (AW.at (Tv (mH (KW hr.units) (uE aax hr (k_ (jz 4) jD) (jz 5)) (k_ (jz 4) jD)) (OI (mH (KW hr.units) (uE aax hr (jz 5) (k_ (jz 4) jD)) (k_ (jz 4) jD)))))
 (jN (j_ xg))
 lB)
 (jH (nI (zL (rO (Ob abE hr (jz 3) (jR lO jD (zR aaC hr (jz 2) (jR o8 (jz 3) jD))) (jR lO jD (zR aaC hr (jz 2) (jR o8 (jz 3) jD))))))
 (jN (j_ xg))
 lB)
 (jH (j7 (i:=6) sN.nd (Ob aa9 hr (jz 2) (jR lO jD (jR AH (jR o8 (jz 3) jD) jD)) jD))
 (jN (nI (AW.at (Tv (zL (rO (zR abb hr (k_ (jz 4) jD) (jz 6)))) (OI (zL (rO (zR abb hr (jz 6) (k_ (jz 4) jD)))))))
 (jN (j_ xg))
 lB))))))))))))
 (jN (j_ xg))
end
end K29
namespace K29
open PySem L2 Am
abbrev uI (S:jE)(b:Nat):Prop:=∃g st:Int,jC S b=some [.int g,.int st]/\0<=g/\0<=st/\st<4294967296
def uI.kp{c:Nat->Prop}(h:uI S b)(k:Kp c S S')(hb:¬c b):uI S' b:=by
 obtain⟨g,st,e,q⟩:=h;exact⟨g,st,k.lst b _ hb e,q⟩
def uI.lt{S:jE}(h:uI S b):b<S.length:=by obtain⟨_,_,e,_⟩:=h;exact nW e
def Sf{S:jE}{ns:ag}{k:Int}(h0:0<=k)(h1:k<=100):∃S',qV [.frz (ns.map .int),.int k] S=.ok (.ref S.length) S'/\uI S' S.length/\lX S S':=by
 have e3:GJ (.int 10) (.int 18)=λS=>R.ok (.int 1000000000000000000) S:=by
  funext S;exact mw ⟨by decide,by decide,by decide⟩
 have m1:∀x:Int,ym (.int x) (.int 2147483647)=λS=>R.ok (.int (x % 2147483647)) S:=λx=>by funext S;exact A5 ⋯
 have m3:∀x:Int,Bw (.int 7919) (.int x)=λS=>R.ok (.int (7919 * x)) S:=λx=>by funext S;exact Mt ⋯ ⋯
 have s0:∀x:Int,0<=x % 2147483647:=λx=>iQ _ ⋯;have s1:∀x:Int,x % 2147483647<4294967296:=λx=>by have:=gQ x (show(0:Int)<2147483647 by decide);lia
 have go:∀cell:Int,∃S',((RS.seq (.nx [A.frz (ns.map .int),.int k,.int cell,.unb] S) (j5 (kD (eC (.int 0)) (kQ 3))
  (j5 (wV (xr (jI XY (jB 2) (jI GJ (eC (.int 10)) (eC (.int 18))))) (kD (jB 2) (kQ 3)) (oH))
  (lE (mZ (jy (jB 3) (jy (jI ym (jI lg (jI lg (jB 2) (jI Bw (eC (.int 7919)) (jB 1))) (eC (.int 13))) (eC (.int 2147483647))) (jF)))))))).end=.ok (.ref S.length) S')/\uI S' S.length/\lX S S':=by
  intro cell;by_cases hc:1000000000000000000<=cell
  ·dsimp[kC,bools,e3,m1,m3,bg hc];exact⟨_,rfl,⟨_,_,jQ,(),s0 _,s1 _⟩,Kp.refl.lay⟩
  ·dsimp[kC,bools,e3,m1,m3,bh hc];exact⟨_,rfl,⟨_,_,jQ,Int.le_refl 0,s0 _,s1 _⟩,Kp.refl.lay⟩
 unfold qV wu wg;dsimp[kC,bools,mG,Nat.reduceAdd,Nat.reduceSub,aH];by_cases hk:k<(ns.length:Int)
 ·have hn:k.toNat<ns.length:=()
  have ha:rA (ns.map A.int) k=some (.int ns[k.toNat]):=BX (k:=k.toNat) () (aG hn);rw[bg hk];dsimp[kC,bools,ha];have:=go ns[k.toNat];simpa only [kC,bools]using this
 ·rw[bh hk];dsimp[kC,bools];have:=go 0;simpa only [kC,bools]using this
def digit{m:Int}(h:uI S b)(h1:1<=m)(h2:m<1073741824):∃d S',jP [.ref b,.int m] S=.ok (.int d) S'/\0<=d/\d<m/\uI S' b/\Kp (·=b) S S':=by
 obtain⟨g,st,hl,hg,hs,hs2⟩:=h;have hb:=nW hl;have i0:Er 2 0=some 0:=yQ rfl ⋯;have i1:Er 2 1=some 1:=yQ rfl ⋯;have fin:∀d g' st':Int,0<=d->d<m->0<=g'->0<=st'->st'<4294967296->jP [.ref b,.int m] S=.ok (.int d) (S.set b (.lst [.int g',.int st']))->∃d S',jP [.ref b,.int m] S=.ok (.int d) S'/\0<=d/\d<m/\uI S' b/\Kp (·=b) S S':=
  λd g' st' a1 a2 a3 a4 a5 e=>⟨d,_,e,a1,a2,⟨g',st',o9 hb,a3,a4,a5⟩,Kp.refl.set (.inl rfl)⟩
 by_cases hg0:0<g
 ·refine fin (g % m) (g / m) st (iQ _ ()) (gQ _ ()) (Int.ediv_nonneg hg ()) hs hs2 ?_;unfold jP qq qi;rw[xO];simp[hl,Dm,Uz,hg0,A5 (show 0<m by lia),Mp (show 0<m by lia) h2,i0]
 ·have e1:0<=(st * 48271+11) % 2147483647:=iQ _ ⋯;have e2:(st * 48271+11) % 2147483647<2147483647:=gQ _ ⋯;have e3:0<=(st * 48271+11) % 2147483647 / 8:=()
  refine fin ((st * 48271+11) % 2147483647 / 8 * 69621 % 2147483629 % m) g ((st * 48271+11) % 2147483647) (iQ _ ()) (gQ _ ()) hg e1 () ?_;unfold jP qq qi;rw[xO];simp[hl,Dm,Uz,hg0,i1,Mt (show -18446744073709551616<st by lia) (),A5 (show(0:Int)<2147483647 by decide),o9 hb,Mp (show(0:Int)<8 by decide) ⋯,Mt (show -18446744073709551616<(st * 48271+11) % 2147483647 / 8 by lia) (),A5 (show(0:Int)<2147483629 by decide),A5 (show 0<m by lia)]
open Po (Pl Ok Bd)
def LM{S:jE}{D:Pl}(hd:lN S d=some (Po.iv D))(hl:D.length<=16777216):∃S',kR [.ref d] S=.ok (.ref (S.length+1)) S'/\jC S' (S.length+1)=some (Po.pl (Po.IE D))/\lX S S':=by
 obtain⟨S',e,h1,h2⟩:=XF hd hl;refine⟨S',?_,h1,h2⟩;unfold kR oR oZ;dsimp[kC,bools,mG,Nat.reduceAdd,Nat.reduceSub];rw[show kZ [none,some 0] _ _ _ _ _ _=_ from e];rfl
def Td{S:jE}{n:Nat}{a b:Pl}(hn:jC S n=some (Po.pl a))(hm:jC S m=some (Po.pl b))(ha:Ok a)(hl:a.length+b.length<16777216) :
  ∃(L:Nat) (S':jE),y9 [.ref n,.ref m] S=.ok (.ref L) S'/\jC S' L=some (Po.pl (Po.oG a b))/\S.length<=L/\lX S S':=by
 have hd:lN (S++[.qM (Po.iv a)]) S.length=some (Po.iv a):=Oo;obtain⟨y3,y4,T,e,hD,kp⟩:=Tn (S:=S++[.qM (Po.iv a)]) (S1:=S++[.qM (Po.iv a)]) (x0:=.ref n) (x1:=.ref m) (x3:=.unb) (x4:=.unb) (src:=vP) (l:=b) (show vP _ _=_ from oX (by dsimp[kC,bools]) (kN hm)) (kN hm) hd hl;have ln:=Po.pT b a;obtain⟨S',e2,h1,h2⟩:=LM hD ();have k1:lX S T:=(Kp.refl.lay (o:=.qM (Po.iv a))).old kp λq hq _ z=>()
 refine⟨T.length+1,S',?_,by rw[h1,<- Po.Rh ha];rfl,by have:=k1.len;lia,k1.trans h2⟩;unfold y9 Fp Gs;dsimp[kC,bools,mG,Nat.reduceAdd,Nat.reduceSub,KY,hn,Po.T_,Po.Rz,Po.Se ha];rw[show nj vP _ EA _ _=_ from e];dsimp[kC,bools,e2]
def A6(f:Int×Int->A)(hf:∀p τ S,U4 (f p) τ S=U4 (Po.pA p) τ S){S:jE}{n:Nat}{a b:Pl}(hn:jC S n=some (a.map f))(hm:jC S m=some (Po.pl b))(hl:a.length * b.length<16777216)(ha:∀p∈a,p.2.natAbs<big)(hb:∀p∈b,p.2.natAbs<big) :
  ∃(L:Nat) (S':jE),pD [.ref n,.ref m] S=.ok (.ref L) S'/\jC S' L=some (Po.pl (Po.times a b))/\S.length<=L/\lX S S':=by
 have hd:lN (S++[.qM []]) S.length=some []:=Oo;obtain⟨y3,y4,y5,y6,T,e,hD,kp⟩:=Ga f hf (S:=S++[.qM []]) (x3:=.unb) (x4:=.unb) (x5:=.unb) (x6:=.unb) (kN hn) (kN hm) hd hl ha hb;have ln:=Po.pT (Po.Ae a b) [];rw[Po.xV,cC,cW]at ln;obtain⟨S',e2,h1,h2⟩:=LM hD ();have k1:lX S T:=(Kp.refl.lay (o:=.qM [])).old kp λq hq _ z=>()
 refine⟨T.length+1,S',?_,h1,by have:=k1.len;lia,k1.trans h2⟩;unfold pD BG Cp;dsimp[kC,bools,mG,Nat.reduceAdd,Nat.reduceSub,KG];rw[show nj Be _ Aw _ _=_ from e];dsimp[kC,bools,e2]
def rq{S:jE}{n:Nat}{a b:Pl}(hn:jC S n=some (Po.pl a))(hm:jC S m=some (Po.pl b))(hl:a.length * b.length<16777216)(ha:∀p∈a,p.2.natAbs<big)(hb:∀p∈b,p.2.natAbs<big) :
  ∃(L:Nat) (S':jE),pD [.ref n,.ref m] S=.ok (.ref L) S'/\jC S' L=some (Po.pl (Po.times a b))/\S.length<=L/\lX S S':=A6 Po.pA (λ_ _ _=>rfl) hn hm hl ha hb
end K29
namespace K29
open PySem L2 Am
open Po (Pl Ok Bd)
open Su (Es At Vl)
def V0{S:jE}{r:Nat}{D:Es}{o:ag}{p:Pl}{k:Nat}(hd:jY S d=some (D.map Su.kv))(hA:At S D)(hv:Vl k b D)(hr:jC S r=some (Po.pl p))(hl:D.length<16777216)(hk:k+p.length<16777216) :
  ∃(L:Nat) (S':jE),kI [.ref d,.tup (o.map .int),.ref r] S=.ok .non S'/\jY S' d=some ((Su.nU D o L (Po.oG (Su.vS (Su.sm D) o) p)).map Su.kv)/\At S' (Su.nU D o L (Po.oG (Su.vS (Su.sm D) o) p))/\S.length<=L/\Kp (·=d) S S':=by
 obtain⟨x,ex,hx⟩:=Su.get_or (o:=o) hd hA;have vo:=hv.v o;obtain⟨L,S2,e2,h1,h2,k2⟩:=Td hx (kN (o:=.lst []) hr) vo.1 ();have kS:lX S S2:=(Kp.refl.lay).trans k2;have hd2:=kS.dct _ _ (λz=>z) hd;have hd1:jY (S++[.lst []]) d=some (D.map Su.kv):=Su.Ca hd;refine⟨L,S2.set d (.dct ((Su.nU D o L (Po.oG (Su.vS (Su.sm D) o) p)).map Su.kv)),?_,Su.Bv (Su.BV hd2),?_,by simp at h2;lia,kS.of0.E1 (.inl rfl)⟩
 ·unfold kI rW rC;have n0:newL [] S=.ok (.ref S.length) (S++[.lst []]):=kY (show 0<=16777216 by decide);dsimp[kC,bools,mG,Nat.reduceAdd,Nat.reduceSub,Su.RU,Su.Tc,hd,dY,n0,Su.SS,hd1,ex,e2,Su.yc,Su.yP,hd2,zv (show(D.map Su.kv).length<16777216 by rw[aH];exact hl),Su.ET (p:=Po.oG (Su.vS (Su.sm D) o) p)]
 ·refine(Su.At.put (hA.zY kS) h1).kp (Kp.refl.E1 (.inl rfl)) λe he z=>?_
  rcases Su.rG he with y|y
  ·exact Su.qC hd (hA e y) z
  ·rw[y]at z;exact Su.qC hd2 h1 z
def GB{S:jE}{D:Es}(hd:jY S d=some (D.map Su.kv))(hA:At S D)(hne:∀e∈D,e.1≠[])(hl:D.length<=16777216) :
  ∃(n:Nat) (S':jE),nK [.ref d] S=.ok (.ref n) S'/\jC S' n=some ((Su.qd D λp=>!p.isEmpty).map Su.ent)/\At S' (Su.qd D λp=>!p.isEmpty)/\S.length<n/\lX S S':=by
 have n0:=Su.Ej hd hne;obtain⟨n,S',e,h1,h2,h3,h4⟩:=Su.Dj (cap:=[some 0]) (τ:=[.ref d]) (src:=oK (jZ (f1 wH) (jy (jB 0) (jF)))) (t:=ug (jI xG (jB 1) (jB 0))) (e:=oz (jy (jB 0) (jy (jI xG (jB 1) (jB 0)) (jF)))) hd hA (oX (by dsimp[kC,bools,n0]) jQ) (λp=>!p.isEmpty)
  (λo r q T hT hk hr=>⟨T,by
   have tr:A.Vx (.ref r) T=some (!q.isEmpty):=by
    show(jC T r).map _=_;rw[hr]
    cases q<;>rfl
   dsimp[kC,bools,Su.zM,Su.vG,hT,hk,tr],Kp.refl⟩)
  (λo r T hT hk=>by
   dsimp[kC,bools,Su.zM,Su.vG,hT,hk];exact uF (show 2<=16777216 by decide)) hl
 refine⟨n,S',?_,h1,h2,h3,h4⟩;unfold nK yH yw;dsimp[kC,bools,mG,Nat.reduceAdd,Nat.reduceSub,e]
def vz:Su.Cc kI:=λh1 h2 h3 h4 h5 h6=>V0 h1 h2 h3 h4 h5 h6
def GC:Su.Le pD:=λh1 h2 h3 h4 h5=>rq h1 h2 h3 h4 h5
open Po (Pl Ok Bd)
open Su (Es At Vl)
structure Sm (S:jE)(n:Nat)(es:Es):Prop where
 l:jC S n=some (es.map Su.ent)
 a:At S es
def Sm.kp{n:Nat}(h:Sm S n es)(k:lX S S'):Sm S' n es:=⟨k.lst _ _ (λz=>z) h.l,h.a.zY k⟩
def Cm{a b:ag}(h:a.length=b.length):mE [.tup (a.map .int),.tup (b.map .int)] S=.ok .non S:=by
 unfold mE qo qf;have:((a.length:Int) == (b.length:Int))=true:=by rw[h];exact bQ _
 dsimp[kC,sd,bools,mG,Nat.reduceAdd,Nat.reduceSub,aH,this,cU]
def zO{n:Nat}{xs:ae}(h:jC S n=some xs):A.Vx (.ref n) S=some (!xs.isEmpty):=by
 show(jC S n).map _=_;rw[h];rfl
def uS{n N:Nat}{es fs:Es}(h:Sm S n es)(h':Sm S m fs)(h1:∀e∈es,e.1.length=N)(h2:∀e∈fs,e.1.length=N):lI [.ref n,.ref m] S=.ok .non S:=by
 unfold lI qv qu;dsimp[kC,sd,bools,mG,Nat.reduceAdd,Nat.reduceSub,zO h.l,zO h'.l]
 cases es with
 | nil=>dsimp[kC,sd,bools,gY,ji,cU]
 | cons e es=>cases fs with
  | nil=>dsimp[kC,sd,bools,gY,ji,cU,bF,iC,dg,zO h'.l]
  | cons f fs=>
   have q:=Cm (S:=S) ((h1 e (aM ..)).trans (h2 f (aM ..)).symm);have hl:=h.l;have hl':=h'.l;rw[bF]at hl hl';dsimp[kC,sd,bools,bF,iC,dg,zO hl',hl,hl',Dm,Su.ent,q]
def YW{l:ag}{k:Nat}{i:Int}(h:i=k)(hk:k<l.length):rA (l.map A.int) i=some (.int (l.getD k 0)):=BX h (by rw[aJ,aG hk];rfl)
def SV{l:ag}{k:Nat}:((l.map A.int).set (k-1) (.int (l.getD k 0))).set k (.int (l.getD (k-1) 0))=(Wd.ex l k).map A.int:=by
 unfold Wd.ex;rw[iS,iS]
def aak{f g:A->A->jE->R A}{ca cb cc:Ex}{a c:A}(h1:ca τ S=.ok a S)(h2:cb τ S=.ok b S)(h3:f a b S=.ok (.bl true) S)(h4:cc τ S=.ok c S):XJ f g ca cb cc τ S=g b c S:=by
 unfold XJ;rw[h1,R.nH,h2,R.nH,h3,R.nH];unfold kCh;show(cc τ S).bind _=_;rw[h4];rfl
def VM{i:Int}:pZ [.int i] S=.ok (.bl true) S:=by
 unfold pZ uK uD;dsimp[kC,bools,mG,Nat.reduceAdd,Nat.reduceSub,show KZ .int "int" = some true from rfl,show KZ .int "bool" = some false from rfl,dg]
def aah{n k:Int}(h1:1<=k)(h2:k<n):m5 [.int n,.int k] S=.ok (.bl true) S:=by
 unfold m5 qz qQ;have c:XJ ZX Y_ (eC (.int 1)) (jB 1) (jB 0) [.int n,.int k] S=.ok (.bl true) S:=by
  rw[aak (a:=.int 1) (b:=.int k) (c:=.int n) rfl rfl (by dsimp[kC,bg h1]) rfl];dsimp[kC,bg h2]
 dsimp[kC,bools,mG,Nat.reduceAdd,Nat.reduceSub,VM,c]
def Hy{xs:ag}{k:Nat}(h1:1<=k)(h2:k<xs.length)(hl:xs.length<=1000):∃S',lR [.tup (xs.map .int),.int k] S=.ok (.tup ((Wd.ex xs k).map .int)) S'/\lX S S':=by
 have e1:=aah (S:=S) (n:=(xs.length:Int)) (k:=(k:Int)) (by omega) (by omega);have a1:rA (xs.map A.int) (k:Int)=some (.int (xs.getD k 0)):=YW rfl (by omega);have a2:rA (xs.map A.int) ((k:Int)-1)=some (.int (xs.getD (k-1) 0)):=YW (k:=k-1) (by omega) (by omega);have x1:Er xs.length ((k:Int)-1)=some (k-1):=yQ (by omega) (by omega);have x2:Er xs.length (k:Int)=some k:=yQ rfl (by omega);have hL:jC (S++[O.lst (xs.map .int)]) S.length=some (xs.map .int):=jQ;have lS:∀ys,jC ((S++[O.lst (xs.map .int)]).set S.length (.lst ys)) S.length=some ys:=λys=>o9 (by simp);have e2:ly [.tup (xs.map .int),.int k,.int ((k:Int)+1)] S=.ok (.tup ((Wd.ex xs k).map .int)) (((S++[O.lst (xs.map .int)]).set S.length (.lst ((xs.map A.int).set (k-1) (.int (xs.getD k 0))))).set S.length (.lst ((Wd.ex xs k).map .int))):=by
  unfold ly nk ni;dsimp[kC,bools,mG,Nat.reduceAdd,Nat.reduceSub,hL,show(k:Int)+1-1=k by omega,a1,a2,mw (show 2<=sizeLine by decide),mw (show 2=2 from rfl),aH,x1,lS,cu,x2,SV];rw[o9 (by simp)];dsimp[kC,bools]
 unfold lR tK sI;dsimp[kC,sd,bools,mG,Nat.reduceAdd,Nat.reduceSub,aH,e1,cU,e2];exact⟨_,rfl,((Kp.refl.lay).set (.inr (aQ _))).set (.inr (aQ _))⟩
def ixG{xs:ag}{i:Int}(h1:0<=i)(h2:i<xs.length):rA (xs.map A.int) i=some (.int (xs.getD i.toNat 0)):=YW (k:=i.toNat) () ()
abbrev fl (xs:ag)(n:Nat):ag:=(kP 1 (n:Int)).filter λk=>decide (xs.getD (k-1).toNat 0>xs.getD k.toNat 0)
def Ew{S:jE}{n:Nat}{xs:ag}(hlen:xs.length=n)(h2:n<=20):qp [.tup (xs.map .int)] S=.ok (.ref S.length) (S++[.lst ((fl xs n).map .int)]):=by
 have ec:=Pj (lo:=1) (hi:=(n:Int)) (cap:=[some 0]) (src:=yp (eC (.int 1)) (jZ (f1 p9) (jy (jB 0) (jF)))) (t:=xr (jI UA (jI oh (jB 1) (jI aSub (jB 0) (eC (.int 1)))) (jI oh (jB 1) (jB 0)))) (e:=jB 0) (τ:=[.tup (xs.map .int)]) (S:=S) (S1:=S)
  (Oz (S1:=S) (by dsimp[kC,bools]) (by dsimp[kC,bools,aH,hlen]) (wB () ()) (wB () ()))
  (λk=>decide (xs.getD (k-1).toNat 0>xs.getD k.toNat 0)) (λk=>.int k) (λk h1 h2=>by
   have x1:rA (xs.map A.int) (k-1)=some (.int (xs.getD (k-1).toNat 0)):=ixG () ();have x2:rA (xs.map A.int) k=some (.int (xs.getD k.toNat 0)):=ixG () ();dsimp[kC,bools,x1,x2]) (λk _ _ _=>by dsimp[kC,bools]) ()
 unfold qp BK Cd;dsimp[kC,bools,mG,Nat.reduceAdd,Nat.reduceSub,ec];rfl
theorem Jv{t:Int}:∀(p:ag),X_ S (.int t) (p.map .int)=some (decide (t∈p))
 | []=>rfl
 | x::p=>by
  show(se S 12 (.int x) (.int t)).bind (λa=>(X_ S (.int t) (p.map .int)).map λb=>a || b)=_;rw[Jv p];show some ((x == t) || decide (t∈p))=_;by_cases c:x=t
  ·subst c;rw[bQ,bg (show x∈x::p from aM ..)];rfl
  ·rw[d8.mpr c];congr 1;rw[fZ,jh];constructor
   ·exact λz=>aN _ z
   ·intro z
    rcases bD.mp z with z|z
    ·exact absurd z.symm c
    ·exact z
open Po (Pl Ok Bd)
open Su (Es At Vl AF)
def SI{o:ag}{N k:Nat}(hl:o.length=N)(h1:1<=k)(h2:k<N):decide ((k:Int)∈fl o N)=Su.nB o k:=by
 unfold fl Su.nB;rw[jh,cQ,pN,decide_eq_true_eq,show((k:Int)-1).toNat=k-1 by lia,c_];constructor
 ·exact λh=>h.2
 ·exact λh=>⟨⟨(),()⟩,h⟩
def HW{S:jE}{n N k:Nat}{es:Es}(h:Sm S n es)(h1:∀e∈es,e.1.length=N/\2 * e.2.2.length<=j/\∀p∈e.2.2,p.2.natAbs<big)(k1:1<=k)(k2:k<N)(hN:N<=20)(hl:(2 * es.length+2) * j<16777216)(hl':es.length<=100000) :
  ∃(L:Nat) (S':jE) (rs:Es),kF [.ref n,.int k] S=.ok (.ref L) S'/\Sm S' L rs/\Su.sm rs=Su.bx k (Su.sm es)/\(∀e∈rs,Ok e.2.2/\e.2.2≠[]/\e.2.2.length<=2 * es.length * j/\S.length<=e.2.1/\e.2.1<L)/\Su.Ap rs/\rs.length<=2 * es.length/\S.length<=L/\lX S S':=by
 have k0:lX S (S++[.dct []]):=Kp.refl.lay;obtain⟨y3,y4,xs,D,T,hz,e1,f,kp⟩:=Su.Et (w:=2) (j:=j) (b:=S.length) (i0:=0) (S:=S++[.dct []]) (S1:=S++[.dct []]) (d:=S.length) (n:=n) (es:=es) (src:=ng) (c:=mh) (g:=Aj 2 (r_ (kQ 3) (r_ (kQ 4) (A0)))) (λy z _=>[.ref n,.int k,.ref S.length,y,z]) (λ_=>True) (Su.gX k) (λ_ _ _ _ _=>rfl) (x3:=.unb) (x4:=.unb) (xs0:=[]) trivial
  (show ng _ _=_ from oX (by dsimp[kC,bools]) (kN h.l)) (kN h.l) (Su.Fil.new Su.tX) λi e T Q D xs hi he _ kT f=>by
   obtain⟨b1,b2,b3⟩:=h1 e he;have tl:=kT.len;have hm:2 * i+2<=2 * es.length:=()
   have hm2:(2 * i+2) * j<=(2 * es.length) * j:=b_ _ hm;have hm3:(2 * es.length+2) * j=2 * es.length * j+2 * j:=by rw[Nat.add_mul]
   have hm4:(2 * i+2) * j=(2 * i+1) * j+j:=eY _ _;have hm5:(2 * i+1) * j=2 * i * j+j:=eY _ _;rw[aR]at tl;obtain⟨T0,e0,kq⟩:=Hy (S:=T) (xs:=e.1) (k:=k) k1 () ();have aT:=((h.a.zY k0).Ig kT Su.tX).zY kq;have f0:=f.zY kq;have qtl:=kq.len;rw[cW]at f0;have ne1:Wd.ex e.1 k≠[]:=λz=>by have:=Wd.mW e.1 k;rw[z]at this;simp at this;lia
   obtain⟨D1,T1,e1,f1,k1'⟩:=f0.add vz (o:=Wd.ex e.1 k) (aT e he) () ne1 () () ();have k1l:=k1'.len;have fo:=Ew (S:=T1) (xs:=e.1) (n:=N) b1 hN;have in1:aIn false (.int k) (.ref T1.length) (T1++[.lst ((fl e.1 N).map .int)])=.ok (.bl (Su.nB e.1 k)) (T1++[.lst ((fl e.1 N).map .int)]):=by
    show opt (jC _ _) _=_;rw[jQ,kJ,Jv,SI b1 k1 k2];rfl
   have kE:lX T1 (T1++[.lst ((fl e.1 N).map .int)]):=Kp.refl.lay;obtain⟨U,hU⟩:∃U,U=T1++[O.lst ((fl e.1 N).map .int)]:=⟨_,rfl⟩;rw[<- hU]at in1 kE fo;have fU:=f1.zY kE;have kTU:Kp (·=S.length) T U:=(kq.of0.trans k1').trans kE.of0
   cases hf:Su.nB e.1 k with
   | false=>
    refine⟨D1,U,[],trivial,?_,?_,kTU⟩
    ·rw[hf]at in1;unfold mh;dsimp[kC,sd,bools,e0,e1,fo,in1]
    ·rw[cW];unfold Su.gX;rw[hf,aI (by simp)];exact fU.mono ()
   | true=>
    have aU:=(aT.Ig k1' f0.dd).zY kE;have n0:jC (U++[.lst (AF.map kA)]) U.length=some (AF.map kA):=jQ;obtain⟨L,T2,e2,l1,l2,k2'⟩:=A6 kA (λ_ _ _=>rfl) n0 (kN (o:=.lst (AF.map kA)) (aU e he)) (show 2 * e.2.2.length<16777216 by lia) (λp hp=>by
     rw[BO]
     rcases bD.mp hp with z|z
     ·rw[z];exact show 1<2 ^ 4096 by decide +kernel
     ·rw[aV.mp z];exact show 1<2 ^ 4096 by decide +kernel) b3
    have kU2:lX U T2:=(Kp.refl.lay).trans k2';have tl2:=kU2.len;have tle:=kE.len;obtain⟨D2,T3,e3,f3,k3'⟩:=(fU.zY kU2).add vz (o:=e.1) l1 (bJ (Su.La _ _) (show 2 * e.2.2.length<=j from b2)) (λz=>by rw[z]at b1;simp at b1;lia) () () ();refine⟨D2,T3,[],trivial,?_,?_,(kTU.trans kU2.of0).trans k3'⟩
    ·rw[hf]at in1;unfold mh;dsimp[kC,sd,bools,e0,e1,fo,in1];rw[show[((-1:Int),(1:Int)),((1:Int),(-1:Int))].map kA=AF.map kA from rfl];dsimp[kC,sd,bools,e2,e3]
    ·rw[cW];unfold Su.gX;rw[hf,aK rfl];exact f3
 have kT:lX S T:=k0.old kp λq hq _ z=>()
 have fl:=f.ll;rw[cW]at fl;obtain⟨L,S',e2,r1,r2,r3,r4⟩:=GB f.dd f.aa f.kk ();have tl:=kT.len;have fs:=f.ss;rw[Su.GX]at fs;refine⟨L,S',_,?_,⟨r1,r2⟩,by rw[Su.x_,fs];rfl,λe he=>?_,f.pw.out _,?_,(),kT.trans r4⟩
 ·unfold kF qB qR;dsimp[kC,sd,bools,mG,Nat.reduceAdd,Nat.reduceSub,Su.u7];rw[show nj ng _ mh _ _=_ from e1];dsimp[kC,sd,bools,e2]
 ·obtain⟨m1,m2⟩:=Su.vn he;obtain⟨v1,v2,v3⟩:=f.vv e m1;have lt:=nW (f.aa e m1);rw[cW]at v2;exact⟨v1,λz=>(by rw[z]at m2;cases m2),v2,v3,()⟩
 ·unfold Su.qd;rw[aH];refine bJ (dH _ _) ?_;rw[(jX _).length_eq,aH];exact fl
end K29
namespace K29
open PySem L2 Am
open Po (Pl Ok Bd)
open Su (Es At Vl AF)
open He (Sz)
open Fw (rg)
def Sm.Ig{n:Nat}(h:Sm S n es)(k:Kp (·=d) S S')(hd:jY S d=some kvs):Sm S' n es:=⟨k.lst _ _ (λz=>Su.qC hd h.l z.symm) h.l,h.a.Ig k hd⟩
def nP{N:Nat}{o:ag}(h:o.Perm (rg N)):o.length=N:=by rw[h.length_eq,Wd.jV]
def lY{es:Es}{l:Su.Ps}(h:Su.sm es=l){e:Su.En}(he:e∈es):(e.1,e.2.2)∈l:=by rw[<- h];exact bA.mpr ⟨e,he,rfl⟩
structure Kn (N:Nat)(Φ:ag->Su.Ps)(T:jE)(d:Nat)(K:Es):Prop where
 dd:jY T d=some (K.map Su.kv)
 gd:Su.Gd (Su.sm K)
 pm:∀e∈K,e.1.Perm (rg N)
 at_:∀e∈K,∃es:Es,Sm T e.2.1 es/\Su.sm es=Φ e.1
def Kn.zY{N:Nat}{Φ:ag->Su.Ps}{K:Es}(h:Kn N Φ T d K)(k:lX T T'):Kn N Φ T' d K:=⟨k.dct _ _ (λz=>z) h.dd,h.gd,h.pm,λe he=>by obtain⟨es,a,b⟩:=h.at_ e he;exact⟨es,a.kp k,b⟩⟩
def Kn.Ig{N f:Nat}{Φ:ag->Su.Ps}{K:Es}(h:Kn N Φ T d K)(k:Kp (·=f) T T')(hf:jY T f=some kvs)(ne:d≠f):Kn N Φ T' d K:=⟨k.dct _ _ ne h.dd,h.gd,h.pm,λe he=>by obtain⟨es,a,b⟩:=h.at_ e he;exact⟨es,a.Ig k hf,b⟩⟩
def Kn.many{N:Nat}{Φ:ag->Su.Ps}{K:Es}(hN:N<6)(h:Kn N Φ T d K):K.length<=120:=by
 have:=He.many hN h.gd.nd λo ho=>by
  obtain⟨e,he,rfl⟩:=bA.mp ho;obtain⟨f,hf,rfl⟩:=bA.mp he;exact h.pm f hf
 rwa [aH,Su.pV]at this
def Wt:Ok []:=⟨List.Pairwise.nil,nofun⟩
def Kn.put{N r:Nat}{Φ:ag->Su.Ps}{K:Es}{o:ag}(hN:N<6)(h:Kn N Φ T d K)(po:o.Perm (rg N))(hr:Sm T r es)(he:Su.sm es=Φ o) :
  ∃T' K',Eb (.ref d) (.tup (o.map .int)) (.ref r) T=.ok Unit.unit T'/\Kn N Φ T' d K'/\xG (.ref d) (.tup (o.map .int)) T'=.ok (.ref r) T'/\Sm T' r es/\Kp (·=d) T T':=by
 have k:Kp (·=d) T (T.set d (.dct ((Su.nU K o r []).map Su.kv))):=Kp.refl.E1 (.inl rfl);have dd:jY (T.set d (.dct ((Su.nU K o r []).map Su.kv))) d=some ((Su.nU K o r []).map Su.kv):=Su.Bv (Su.BV h.dd);obtain⟨e,e1,e2⟩:=Su.Bc (D:=K) (o:=o) (r:=r) (p:=[]);have hm:=h.many hN;refine⟨_,Su.nU K o r [],?_,⟨dd,?_,λe he=>?_,λe he'=>?_⟩,?_,hr.Ig k h.dd,k⟩
 ·rw[Su.yP,h.dd,kJ,Su.ET (p:=[])];exact zv (show(K.map Su.kv).length<16777216 by rw[aH];lia)
 ·rw[Su.Fb];exact h.gd.put Wt
 ·rcases Su.rG he with z|z
  ·exact h.pm e z
  ·rw[z];exact po
 ·rcases Su.rG he' with z|z
  ·obtain⟨fs,a,b⟩:=h.at_ e z;exact⟨fs,a.Ig k h.dd,b⟩
  ·rw[z];exact⟨es,hr.Ig k h.dd,he⟩
 ·rw[Su.vG,dd,kJ,Su.tQ,e1,dY,kJ,e2]
def Vi{o:ag}:QF true (.tup (o.map .int)) (.ref d) S=opt (jY S d) λkvs=>.ok (.bl (!(lK kvs o).isSome)) S:=by
 show opt (jY S d) (λkvs=>opt (A.ints (o.map .int)) λns=>_)=_;rw[ints_map];rfl
theorem DN{N P n:Nat}{l:Su.Ps}(hN:N<6)(hz:Sz N P C l)(hP:P<=1000)(hC:3 ^ 25 * C<big)(hs:Su.sm es=l):∀(f:Nat) {S:jE}{K:Es}{o:ag},Iv.inv o<f->o.Perm (rg N)->Sm S n es->Kn N (He.bo l) S d K ->
  ∃(r:Nat) (S':jE) (K' rs:Es),oB f [.ref n,.tup (o.map .int),.ref d] S=.ok (.ref r) S'/\Kn N (He.bo l) S' d K'/\Sm S' r rs/\Su.sm rs=He.bo l o/\Kp (·=d) S S'
 | 0,S,K,o,hf,_,_,_=>absurd hf (fX _)
 | f+1,S,K,o,hf,po,h,hK=>by
  have lo:=nP po;show ∃(r:Nat) (S':jE) (K' rs:Es),lV pR (p8 (oB f)) [.ref n,.tup (o.map .int),.ref d] S=.ok (.ref r) S'/\_;have i1:QF true (.tup (o.map .int)) (.ref d) S=.ok (.bl (!(lK (K.map Su.kv) o).isSome)) S:=by rw[Vi,hK.dd,kJ]
  unfold p8 pR
  cases hL:Su.fE K o with
  | some e=>
   obtain⟨m1,rfl⟩:=Su.rR hL;obtain⟨rs,r1,r2⟩:=hK.at_ e m1;have lk:lK (K.map Su.kv) e.1=some (.ref e.2.1):=by rw[Su.tQ,hL];rfl
   have x1:xG (.ref d) (.tup (e.1.map .int)) S=.ok (.ref e.2.1) S:=by rw[Su.vG,hK.dd,kJ,lk,kJ]
   rw[lk]at i1;refine⟨e.2.1,S,K,rs,?_,hK,r1,r2,Kp.refl⟩;dsimp[kC,sd,bools,mG,Nat.reduceAdd,Nat.reduceSub,i1,isSome_some,cU,x1]
  | none=>
   have lk:lK (K.map Su.kv) o=none:=by rw[Su.tQ,hL];rfl
   rw[lk]at i1;have fo:=Ew (S:=S) (xs:=o) (n:=N) lo (by omega);have hh:(fl o N).head?=(He.ff o).map λk:Nat=>(k:Int):=by
    have:=He.SY (o:=o);rw[lo]at this;exact this
   obtain⟨S1,hS1⟩:∃S1,S1=S++[O.lst ((fl o N).map .int)]:=⟨_,rfl⟩;have k1:lX S S1:=by rw[hS1];exact Kp.refl.lay
   have l1:jC S1 S.length=some ((fl o N).map .int):=by rw[hS1];exact jQ
   rw[<- hS1]at fo;have tr:=zO l1
   cases hf1:He.ff o with
   | none=>
    have fe:fl o N=[]:=by
     rw[hf1]at hh;exact List.head?_eq_none_iff.mp hh
    obtain⟨T',K',e1,n1,x1,s1,kp⟩:=(hK.zY k1).put hN po (h.kp k1) (by rw[hs];exact(He.Dq hf1).symm);refine⟨n,T',K',es,?_,n1,s1,by rw[hs];exact(He.Dq hf1).symm,k1.of0.trans kp⟩;rw[fe]at tr;dsimp[kC,sd,bools,mG,Nat.reduceAdd,Nat.reduceSub,i1,isSome_none,dg,fo,tr,gY,ji,cU,Su.yc,e1,x1]
   | some k=>
    obtain⟨f1,f2,f3⟩:=He.BQ hf1;obtain⟨t,ft⟩:∃t,fl o N=(k:Int)::t:=by
     rw[hf1]at hh;exact List.head?_eq_some_iff.mp hh
    rw[ft]at tr l1;have hd:=Fw.sA f1 f2 (by have:=bL f3;omega);obtain⟨S2,x2,k2⟩:=Hy (S:=S1) (xs:=o) (k:=k) f1 f2 (by omega);have k12:=k1.trans k2;have pe:=He.qe po f1 (by omega);obtain⟨r3,S3,K3,rs3,x3,n3,s3,q3,k3⟩:=DN hN hz hP hC hs f (by omega) pe (h.kp k12) (hK.zY k12);have z3:Sz N (P+25) (3 ^ 25 * C) (Su.sm rs3):=by rw[q3];exact hz.bo hN pe
    have m3:=z3.many hN;rw[Su.pV]at m3;obtain⟨L,S4,rs4,x4,s4,q4,_,_,_,_,k4⟩:=HW (j:=2 * (2 * (P+25)+1)) s3 (k:=k) (N:=N) (λe he=>by
     have b:=z3.pb (lY rfl he);exact⟨nP (z3.pm _ (lY rfl he)),by have:=b.2;show 2 * e.2.2.length<=_;exact Nat.mul_le_mul_left _ this,λp hp=>fW (b.1.c p hp) hC⟩) f1 (by omega) (by omega) (by
      have:(2 * rs3.length+2) * (2 * (2 * (P+25)+1))<=242 * (2 * (2 * (P+25)+1)):=b_ _ (by omega);omega) (by omega)
    have q4':Su.sm rs4=He.bo l o:=by rw[q4,q3];exact(He.RK hf1).symm
    obtain⟨T',K',e1,n1,x1,s1,kp⟩:=(n3.zY k4).put hN po s4 q4';refine⟨L,T',K',rs4,?_,n1,s1,q4',((k12.of0.trans k3).trans k4.of0).trans kp⟩;have l3:jC S2 S.length=some (((k:Int)::t).map .int):=k2.lst _ _ (λz=>z) l1;have l4:jC S3 S.length=some (((k:Int)::t).map .int):=k3.lst _ _ (λz=>Su.qC (hK.zY k12).dd l3 z.symm) l3;dsimp[kC,sd,bools,mG,Nat.reduceAdd,Nat.reduceSub,i1,isSome_none,dg,fo,tr,bF,iC,cU];rw[bF]at l1 l3 l4;dsimp[kC,sd,bools,l1,Dm,x2,x3,l4,x4,Su.yc,e1,x1]
end K29
namespace K29
open PySem L2 Am
def DE{xs:ag}{n:Nat}(px:xs.Perm (kP 1 ((n:Int)+1))):xs.length=n:=by have:=OD px ();lia
def Fv{xs:ag}{n:Int}(px:xs.Perm (kP 1 (n+1))):xs.Nodup:=px.nodup_iff.mpr (pU _ _)
def R0{xs:ag}{n:Nat}(px:xs.Perm (kP 1 ((n:Int)+1)))(h2:n<=1000):∃(ys:ag) (S':jE),vY [.tup (xs.map .int)] S=.ok (.tup (ys.map .int)) S'/\Bl.pP xs ys/\ys.Perm (kP 1 ((n:Int)+1))/\lX S S':=by
 have lx:=DE px;unfold vY Gg Gr;dsimp[kC,bools,mG,Nat.reduceAdd,Nat.reduceSub,aH,lx];rw[X6 (k:=n) jQ ()];dsimp[kC,bools];have hlen:(S++[O.lst [.int 0]]).length=S.length+1:=by simp
 rw[hlen];refine WV (xs:=xs.map .int) (S1:=S++[O.lst [.int 0]]++[O.lst (List.replicate n (.int 0))]) (VI (by dsimp[kC,bools]))
  (λt τ S'=>∃(a2 a3:A) (ps:ag),τ=[.tup (xs.map .int),.ref (S.length+1),a2,a3]/\jC S' (S.length+1)=some (ps.map .int)/\ps.length=n/\(∀(p:Nat) (h:p<xs.length),p<t->ps[(xs[p]-1).toNat]?=some ((p:Int)+1))/\lX S S')
  (λr=>∃(ys:ag) (S':jE),RS.end (RS.seq r _)=.ok (.tup (ys.map .int)) S'/\Bl.pP xs ys/\ys.Perm (kP 1 ((n:Int)+1))/\lX S S') ⟨.unb,.unb,List.replicate n 0,rfl,?_,by simp,λ_ _ h=>absurd h (fX _),Kp.refl.lay.lay⟩ ?_ ?_
 ·rw[List.map_replicate,<- hlen];exact jQ
 ·rintro t x τ S' hx ⟨a2,a3,ps,rfl,hL,hl,hps,hk⟩;rw[aS]at hx;obtain⟨v,hv,rfl⟩:=a_.mp hx;obtain⟨ht,ev⟩:=aL.mp hv;have mv:=Ey px (aZ hv);refine⟨_,_,by dsimp[kC,bools,mw (show([_,_]:ae).length=2 from rfl)];rfl,.inl ?_⟩;have hi:Er ps.length (v-1)=some (v-1).toNat:=yQ () ();have lL:=nW hL;unfold EO;dsimp[kC,bools,hL,aH,hi];refine⟨_,_,rfl,_,_,ps.set (v-1).toNat ((t:Int)+1),rfl,?_,by rw[cu];exact hl,λp hp hpt=>?_,hk.set (.inr ())⟩
  ·rw[o9 lL,iS]
  ·by_cases e:p=t
   ·subst e;rw[ev,bN ()]
   ·have ne:(xs[p]-1).toNat≠(v-1).toNat:=λz=>by
     have mp:=Ey px (dI hp);have:xs[p]=xs[t]:=by rw[ev];lia
     exact e ((dj (Fv px)).mp this)
    rw[bW (cR ne)];exact hps p hp ()
 ·rintro τ S' ⟨a2,a3,ps,rfl,hL,hl,hps,hk⟩;rw[aH]at hps;refine⟨ps,S',by dsimp[kC,bools,hL],⟨(),λp h=>hps p h h⟩,?_,hk⟩;refine(xC (pU _ _) (λv hv=>?_) (by rw[pX];lia)).symm;have:=pN.mp hv;have hp:(v-1).toNat<xs.length:=()
  have:=aZ (hps (v-1).toNat hp hp)
  rwa [show(((v-1).toNat:Nat):Int)+1=v by lia]at this
open Po (Pl Ok Bd)
open Su (Es At Vl AF)
open He (Sz)
open Fw (rg)
structure Nw (b L:Nat)(rs:Es):Prop where
 ap:Su.Ap rs
 nw:∀e∈rs,b<=e.2.1/\e.2.1<L
def Bb{S:jE}{N P c n:Nat}{fs:Es}(hN:N<6)(h0:1<=N)(h:Sm S n es)(h':Sm S m fs)(hz:Sz N P C (Su.sm es))(hz':Sz N Q c (Su.sm fs))(hP:P+Q<=500)(hC:3 ^ 25 * C<big)(hc:c<big) :
  ∃(L:Nat) (S':jE) (rs:Es),ny [.ref n,.ref m] S=.ok (.ref L) S'/\Sm S' L rs/\Su.sm rs=He.Q7 (Su.sm es) (Su.sm fs)/\Nw S.length L rs/\S.length<=L/\lX S S':=by
 obtain⟨S1,hS1⟩:∃S1,S1=S++[O.dct []]++[O.dct []]:=⟨_,rfl⟩;have k0:lX S S1:=by rw[hS1];exact Kp.refl.lay.lay
 have d0:jY S1 S.length=some []:=by rw[hS1];exact Su.Ca Su.tX
 have d1:jY S1 (S.length+1)=some []:=by
  have:=Su.tX (S:=S++[O.dct []]) (xs:=[]);rw[aR,bV]at this;rw[hS1];exact this
 have len1:S1.length=S.length+2:=by rw[hS1];simp
 obtain⟨j,hj⟩:∃j,j=2 * (P+25+Q)+1:=⟨_,rfl⟩;have lf:=hz'.many hN;rw[Su.pV]at lf;have hle:(fs.map Su.ent).length=fs.length:=aH ..;have key:∃(y4 y5 y6 y7:A) (D K:Es) (T:jE) (i:Nat),nj oq (Aj 2 (r_ (kQ 4) (r_ (kQ 5) (A0)))) nY [.ref n,.ref m,.ref S.length,.ref (S.length+1),.unb,.unb,.unb,.unb] S1=.nx [.ref n,.ref m,.ref S.length,.ref (S.length+1),y4,y5,y6,y7] T/\i<=120 * fs.length/\Su.Fil T S.length S.length i j (Su.adds [] (He.zS (Su.sm es) (Su.sm fs))) D/\lX S T:=by
  refine tU (n:=m) (xs:=fs.map Su.ent) (S1:=S1) (show oq _ _=_ from oX (by dsimp[kC,bools]) (k0.lst _ _ (λz=>z) h'.l))
   (λt τ T=>(∃y4 y5 y6 y7:A,τ=[.ref n,.ref m,.ref S.length,.ref (S.length+1),y4,y5,y6,y7])/\(∃(i:Nat) (D:Es),i<=120 * t/\Su.Fil T S.length S.length i j (Su.adds [] (He.zS (Su.sm es) (Su.sm (fs.take t)))) D)/\(∃K,Kn N (He.bo (Su.sm es)) T (S.length+1) K)/\lX S T)
   (λr=>∃(y4 y5 y6 y7:A) (D K:Es) (T:jE) (i:Nat),r=.nx [.ref n,.ref m,.ref S.length,.ref (S.length+1),y4,y5,y6,y7] T/\i<=120 * fs.length/\Su.Fil T S.length S.length i j (Su.adds [] (He.zS (Su.sm es) (Su.sm fs))) D/\lX S T)
   ⟨⟨_,_,_,_,rfl⟩,⟨0,[],aQ _,Su.Fil.new d0⟩,⟨[],d1,Su.Gd.nil,(nofun),nofun⟩,k0⟩ (λt τ T hh=>hh.2.2.2.lst _ _ (λz=>z) h'.l) ?_ ?_
  ·rintro t z τ T hz1 ⟨⟨y4,y5,y6,y7,rfl⟩,⟨i,D,hi,fT⟩,⟨K,hK⟩,kT⟩;rw[aS]at hz1;obtain⟨e,he,rfl⟩:=a_.mp hz1;have htl:=(aL.mp he).1;have me:=aZ he;have pe:=hz'.pm _ (lY rfl me);have be:=hz'.pb (lY rfl me);refine⟨[.ref n,.ref m,.ref S.length,.ref (S.length+1),.tup (e.1.map .int),.ref e.2.1,y6,y7],T,rfl,.inl ?_⟩;obtain⟨r,T1,K1,rs,x1,n1,s1,q1,k1⟩:=DN hN hz () hC rfl 26 (by have:=He.FL hN pe;lia) pe (h.kp kT) hK;have z1:Sz N (P+25) (3 ^ 25 * C) (Su.sm rs):=by rw[q1];exact hz.bo hN pe
   have m1:=z1.many hN;rw[Su.pV]at m1;have f1:Su.Fil T1 S.length S.length i j (Su.adds [] (He.zS (Su.sm es) (Su.sm (fs.take t)))) D:=⟨k1.dct _ _ () fT.dd,fT.aa.Ig k1 hK.dd,fT.ss,fT.vv,fT.kk,fT.ll,fT.pw⟩;have p1:jC T1 e.2.1=some (Po.pl e.2.2):=k1.lst _ _ (λz=>Su.qC hK.dd ((h'.kp kT).a e me) z.symm) ((h'.kp kT).a e me);have tl:=kT.len;have tl1:=k1.len;have len2:S.length+2<=T.length:=by have:=Su.BV hK.dd;lia
   obtain⟨z6,z7,_,D2,T2,_,x2,f2,k2⟩:=Su.Et (w:=1) (j:=j) (b:=S.length) (i0:=i) (S:=T) (S1:=T1) (d:=S.length) (n:=r) (es:=rs) (src:=qN) (c:=qF) (g:=Aj 2 (r_ (kQ 6) (r_ (kQ 7) (A0)))) (λy z _=>[.ref n,.ref m,.ref S.length,.ref (S.length+1),.tup (e.1.map .int),.ref e.2.1,y,z]) (λ_=>True) (λx Q=>Su.zD Q x.1 (Po.times e.2.2 x.2.2)) (λ_ _ _ _ _=>rfl) (x3:=y6) (x4:=y7) (xs0:=[]) trivial
    (show qN _ _=_ from oX (by
     have x1':ux [.ref n,.tup (e.1.map .int),.ref (S.length+1)] T=.ok (.ref r) T1:=x1;dsimp[kC,sd,bools,x1']) s1.l) s1.l f1 λa x U Q1 D' xs ha hx _ kU f=>by
     have ul:=kU.len;have b1:=z1.pb (lY rfl hx);rw[jb]at f;rw[jb];have ai:i+a<14400:=()
     have hm1:(i+a) * j<=14400 * j:=b_ _ ();obtain⟨L,U1,e1,l1,l2,k1'⟩:=GC (kU.lst _ _ (λz=>Su.qC f1.dd p1 z.symm) p1) ((s1.a.Ig kU f1.dd) x hx) (by
      have a1:=be.2;have a2:=b1.2;have a3:(2 * Q+1) * (2 * (P+25)+1)<=1001 * 1051:=iz () ();exact fW (bJ (iz a1 a2) a3) ⋯) (λp hp=>fW (be.1.c p hp) hc) λp hp=>fW (b1.1.c p hp) hC
     have k1l:=k1'.len;have tl':(Po.times e.2.2 x.2.2).length<=j:=by
      have:=He.PB.times be.1 b1.1;rw[hj];refine bJ this ?_
      lia
     obtain⟨D3,U2,e2,f',k'⟩:=(f.zY k1').add vz (o:=x.1) l1 tl' (λz=>by
      have:=nP (z1.pm _ (lY rfl hx));rw[show((x.1,x.2.2):ag×Pl).1=x.1 from rfl,z]at this;simp at this;lia) () () ()
     exact⟨D3,U2,[],trivial,by unfold qF;dsimp[kC,sd,bools,e1,e2],f',k1'.of0.trans k'⟩
   have kT2:lX S T2:=(kT.old k1 λq hq _ z=>()).old k2 λq hq _ z=>()
   refine⟨[.ref n,.ref m,.ref S.length,.ref (S.length+1),.tup (e.1.map .int),.ref e.2.1,z6,z7],T2,?_,⟨_,_,_,_,rfl⟩,⟨i+1 * rs.length,D2,(),?_⟩,⟨K1,n1.Ig k2 f1.dd ()⟩,kT2⟩
   ·unfold nY;exact x2
   ·rw[Su.Lg]at f2;rw[dD,he,Su.OO];unfold He.zS at f2 ⊢;rw[List.flatMap_append,Su.C9];have:List.flatMap (λe=>He.Lk e.2 (He.bo (Su.sm es) e.1)) (Su.sm (some e).toList)=(Su.sm rs).map λx=>(x.1,Po.times e.2.2 x.2):=by
     show He.Lk e.2.2 (He.bo (Su.sm es) e.1)++[]=_;rw[bU,q1];rfl
    rw[this];exact f2
  ·rintro τ T ⟨⟨y4,y5,y6,y7,rfl⟩,⟨i,D,hi,fT⟩,⟨K,hK⟩,kT⟩;rw[hle]at hi;rw[hle,dJ]at fT;exact⟨y4,y5,y6,y7,D,K,T,i,rfl,hi,fT,kT⟩
 obtain⟨y4,y5,y6,y7,D,K,T,i,e1,hi,f,kT⟩:=key;have fl:=f.ll;obtain⟨L,S',e2,r1,r2,r3,r4⟩:=GB f.dd f.aa f.kk ();have tl:=kT.len;refine⟨L,S',_,?_,⟨r1,r2⟩,by rw[Su.x_,f.ss];rfl,⟨f.pw.out _,λe he=>?_⟩,(),kT.trans r4⟩
 ·unfold ny tH tB;dsimp[kC,sd,bools,mG,Nat.reduceAdd,Nat.reduceSub,Su.u7,aR,bV];rw[<- hS1,show nj oq _ nY _ _=_ from e1];dsimp[kC,sd,bools,e2]
 ·obtain⟨m1,m2⟩:=Su.vn he;obtain⟨v1,v2,v3⟩:=f.vv e m1;have lt:=nW (f.aa e m1);exact⟨v3,()⟩
def Nr{S:jE}{N P n:Nat}(hN:N<6)(h:Sm S n es)(hz:Sz N P C (Su.sm es)) :
  ∃(L:Nat) (S':jE) (rs:Es),lW [.ref n] S=.ok (.ref L) S'/\Sm S' L rs/\Su.sm rs=He.Ft (Su.sm es)/\(∀b,Nw b n es->Nw b L rs)/\S.length<=L/\lX S S':=by
 have lf:=hz.many hN;rw[Su.pV]at lf;have pm:∀e∈es,e.1.Perm (rg N):=λe he=>hz.pm _ (lY rfl he);have g2:∀x y:A,gd (([x,y]:ae).length<=sizeLine)=λr:Am.R A=>r:=λx y=>by funext r;exact uF (show 2<=16777216 by decide)
 obtain⟨S1,e1,k1⟩:=Su.Km (es:=es) (n:=n) (cap:=[]) (src:=oK (jB 0)) (ex:=oz (jy (eFn vY (jy (jB 0) (jF))) (jy (jB 1) (jF)))) (τ:=[.ref n]) (S:=S) (oX (by dsimp[kC,bools]) h.l) h.l (λe=>Su.ent (He.bk e.1,e.2)) (λe he T kT=>by
  obtain⟨ys,T',b1,b2,b3,b4⟩:=R0 (S:=T) (pm e he) (by omega);have:ys=He.bk e.1:=He.qX ⟨pm e he,b3,b2⟩ (He.oO (pm e he));subst this;exact⟨T',by dsimp[kC,bools,b1,g2];rfl,b4⟩) (by omega)
 obtain⟨es',he'⟩:∃es',es'=es.map λe:Su.En=>(He.bk e.1,e.2):=⟨_,rfl⟩;have l1:jC (S1++[.lst (es.map λe=>Su.ent (He.bk e.1,e.2))]) S1.length=some (es'.map Su.ent):=by rw[jQ,he',bq];rfl
 have nd:(es'.map Prod.fst).Nodup:=by
  have:=He.yG (n:=N) (ks:=es.map Prod.fst) (λo ho=>by obtain⟨e,he,rfl⟩:=bA.mp ho;exact pm e he) (by
   have:=hz.cn.gd.nd;unfold Su.sm at this
   rwa [bq]at this)
  rw[he',bq];rw[bq]at this;exact this
 have x1:=Su.Ks l1 nd;have k2:lX S (S1++[O.lst (es.map λe=>Su.ent (He.bk e.1,e.2))]++[O.lst ((Am.mY es').map Su.ent)]):=k1.lay.lay;have perm:=Am.pL es';have hm:∀e∈Am.mY es',∃f∈es,e=(He.bk f.1,f.2):=λe he=>by
  have:=perm.mem_iff.mp he;rw[he']at this;obtain⟨f,hf,rfl⟩:=bA.mp this;exact⟨f,hf,rfl⟩
 refine⟨_,_,Am.mY es',?_,⟨jQ,λe he=>?_⟩,?_,λb hb=>⟨?_,λe he=>?_⟩,?_,k2⟩
 ·unfold lW rL rT;dsimp[kC,bools,mG,Nat.reduceAdd,Nat.reduceSub,e1,x1]
 ·obtain⟨f,hf,rfl⟩:=hm e he;exact(h.a.zY k2) f hf
 ·rw[Su.NJ,he']
  skip
  congr 1;unfold Su.sm He.wb;rw[bq,bq];rfl
 ·have a1:Su.Ap es':=by
   rw[he'];unfold Su.Ap;rw[cH];refine gF (λ{e f} he hf z=>⟨λw=>z.1 ?_,z.2⟩) hb.ap;have:=dz He.bk w
   rwa [He.sR (pm e he),He.sR (pm f hf)]at this
  exact(perm.pairwise_iff (λ{a b} z=>⟨z.1.symm,z.2.symm⟩)).mpr a1
 ·obtain⟨f,hf,rfl⟩:=hm e he;have:=hb.nw f hf;have ll:=nW (h.a f hf);have kl:=k1.len;refine⟨this.1,?_⟩;rw[aR];show f.2.1<_;omega
 ·have kl:=k1.len;rw[aR];omega
def lG{S:jE}{N P c n:Nat}{fs:Es}(hN:N<6)(h0:1<=N)(h:Sm S n es)(h':Sm S m fs)(hz:Sz N P C (Su.sm es))(hz':Sz N Q c (Su.sm fs))(hP:P+Q<=500)(hC:3 ^ 25 * C<big)(hc:3 ^ 25 * c<big) :
  ∃(L:Nat) (S':jE) (rs:Es),jS [.ref n,.ref m] S=.ok (.ref L) S'/\Sm S' L rs/\Su.sm rs=He.prod (Su.sm es) (Su.sm fs)/\Nw S.length L rs/\S.length<=L/\lX S S':=by
 have nl:=uS h h' (λe he=>nP (hz.pm _ (lY rfl he))) (λe he=>nP (hz'.pm _ (lY rfl he)));by_cases c1:(Su.sm fs).length<=(Su.sm es).length
 ·obtain⟨L,S',rs,e1,s1,q1,w1,l1,k1⟩:=Bb hN h0 h h' hz hz' hP hC ();refine⟨L,S',rs,?_,s1,by rw[q1];unfold He.prod;rw[aK c1],w1,l1,k1⟩;rw[Su.pV,Su.pV]at c1;unfold jS rf qW;dsimp[kC,sd,bools,mG,Nat.reduceAdd,Nat.reduceSub,nl,h.l,h'.l,aH,bg (show(fs.length:Int)<=(es.length:Int)by lia),e1]
 ·obtain⟨L1,S1,r1,e1,s1,q1,_,l1,k1⟩:=Nr hN h' hz';obtain⟨L2,S2,r2,e2,s2,q2,_,l2,k2⟩:=Nr hN (h.kp k1) hz;obtain⟨L3,S3,r3,e3,s3,q3,w3,l3,k3⟩:=Bb hN h0 (s1.kp k2) s2 (by rw[q1];exact hz'.Ft) (by rw[q2];exact hz.Ft) () hc ();have z3:Sz N (Q+25+P) (120 * ((2 * P+1) * (C * (3 ^ 25 * c)))) (Su.sm r3):=by
   rw[q3,q1,q2];exact Sz.Q7 hN hz'.Ft hz.Ft
  obtain⟨L4,S4,r4,e4,s4,q4,w4,l4,k4⟩:=Nr hN s3 z3;refine⟨L4,S4,r4,?_,s4,by rw[q4,q3,q1,q2];unfold He.prod;rw[aI c1],?_,?_,((k1.trans k2).trans k3).trans k4⟩
  ·rw[Su.pV,Su.pV]at c1;unfold jS rf qW;dsimp[kC,sd,bools,mG,Nat.reduceAdd,Nat.reduceSub,nl,h.l,h'.l,aH,bh (show ¬(fs.length:Int)<=(es.length:Int)by lia),e1,e2,e3,e4]
  ·have:=w4 _ w3;have:=k1.len;have:=k2.len;exact⟨(w4 _ w3).ap,λe he=>⟨by have:=((w4 _ w3).nw e he).1;lia,((w4 _ w3).nw e he).2⟩⟩
  ·have:=k1.len;have:=k2.len;have:=k3.len
   lia
end K29
namespace K29
open PySem L2 Am
theorem yZ:∀(l:ag) (j:Nat) (h:j<l.length),(l[j]::l.eraseIdx j).Perm l
 | x::l,0,_=>eO _
 | x::l,j+1,h=>(List.Perm.swap x _ _).trans (List.Perm.cons x (yZ l j (iy h)))
def KP{ls fs:ag}{j:Nat}(h:j<ls.length):((fs++[ls[j]])++ls.eraseIdx j).Perm (fs++ls):=by
 rw[cD];refine List.Perm.append_left fs ?_
 skip
 exact yZ ls j h
def ME{d:Int}{n:Nat}(h0:0<=d)(h:d.toNat<n):seqIndex? d n=some d.toNat:=by
 unfold seqIndex?;simp
 lia
theorem wj{α β:Type}(f:α->β):∀(l:List α) (k:Nat),(l.map f).eraseIdx k=(l.eraseIdx k).map f
 | [],_=>rfl
 | _::_,0=>rfl
 | x::l,k+1=>dz (f x::·) (wj f l k)
def Pg{n:Int}(h:uI S b)(h1:1<=n)(h2:n<=20):∃(xs:ag) (S':jE),oA [.ref b,.int n] S=.ok (.tup (xs.map .int)) S'/\xs.Perm (kP 1 (n+1))/\uI S' b/\Kp (·=b) S S':=by
 have hbS:b<S.length:=by obtain⟨_,_,e,_⟩:=h;exact nW e
 unfold oA sG sO;dsimp[kC,bools,mG,Nat.reduceAdd,Nat.reduceSub,Ar (yN (show(-1000000:Int)<=1 by decide) ⋯ (show -1000000<=n+1 by lia) () ()),aR];have key:=yJ (t:=qT) (c:=qH)
  (λτ S1=>∃(ls fs:ag),τ=[.ref b,.int n,.ref S.length,.ref (S.length+1)]/\jC S1 S.length=some (ls.map .int)/\jC S1 (S.length+1)=some (fs.map .int)/\(fs++ls).Perm (kP 1 (n+1))/\uI S1 b/\Kp (·=b) S S1)
  (λτ S1=>((jC S1 S.length).getD []).length)
  (λr=>∃(xs:ag) (S':jE),RS.end (RS.seq r (lE (jZ (f1 nX) (jy (jB 3) jF))))=.ok (.tup (xs.map .int)) S'/\xs.Perm (kP 1 (n+1))/\uI S' b/\Kp (·=b) S S') ?_ 1000000
 ·refine key _ _ ⟨kP 1 (n+1),[],rfl,kN jQ,?_,eO _,h.kp (c:=λ_=>False) (Kp.refl.lay.lay) (λz=>z),Kp.refl.lay.lay⟩ ?_
  ·have:jC (S++[.lst ((kP 1 (n+1)).map .int)]++[.lst []]) (S++[O.lst ((kP 1 (n+1)).map .int)]).length=some []:=jQ;simpa using this
  ·rw[kN jQ,fK,aH,pX]
   lia
 ·rintro τ S1 ⟨ls,fs,rfl,hL,hF,hp,hb,hk⟩;have hlen:fs.length+ls.length<=20:=by
   have:=hp.length_eq;rw[aR,pX]at this
   lia
  unfold qT qH;dsimp[kC,bools,hL,aH];by_cases h0:ls=[]
  ·subst h0;left;exact⟨S1,rfl,fs,S1,by dsimp[kC,bools,hF],by simpa using hp,hb,hk⟩
  ·right;have hpos:0<ls.length:=List.length_pos_iff.mpr h0;refine⟨S1,by rw[bg (show(0:Int)<(ls.length:Int)by lia)],.inl ?_⟩;obtain⟨d,S2,e2,d0,d1,hb2,hk2⟩:=digit (m:=(ls.length:Int)) hb () ();have hL2:=hk2.lst S.length _ () hL;have hF2:=hk2.lst (S.length+1) _ () hF;have hd:d.toNat<ls.length:=()
   have lF:=nW hF2;have lL:=nW hL2;have hsq:seqIndex? d ls.length=some d.toNat:=ME d0 hd;have hF3:jC (S2.set S.length (.lst ((ls.map A.int).eraseIdx d.toNat))) (S.length+1)=some (fs.map .int):=by rw[pI ()];exact hF2
   dsimp[kC,bools,hL,hF,aH,e2,hL2,Gb,mw (show -(2 ^ 63:Int)<=d/\d<2 ^ 63 by lia),hsq,aS,aG hd,dY,hF3,zv (show fs.length<16777216 by lia)];refine⟨_,_,rfl,⟨ls.eraseIdx d.toNat,fs++[ls[d.toNat]],rfl,?_,?_,(KP hd).trans hp,?_,?_⟩,?_⟩
   ·rw[pI (),o9 lL,wj]
   ·rw[o9 (by rw[cu];exact lF),bX];rfl
   ·obtain⟨g,st,e,q⟩:=hb2;exact⟨g,st,by rw[pI (),pI ()];exact e,q⟩
   ·exact((hk.trans hk2).set (.inr (aQ _))).set (.inr ())
   ·rw[pI (),o9 lL,fK,fK,wj,aH,aH,List.length_eraseIdx_of_lt hd];lia
open Po (Pl Ok Bd)
open Su (Es At Vl)
open He (Sz PB)
open Fw (rg)
def Ye:GJ (.int 10) (.int 20)=λS=>R.ok (.int 100000000000000000000) S:=by funext S;exact mw ⟨by decide,by decide,by decide⟩
def Z5{x0 x1 x2 x3 d:Int}(h0:0<=d)(h1:d<4):∃v:Int,rA ([.int x0,.int x1,.int x2,.int x3]:ae) d=some (.int v)/\(v=x0\/v=x1\/v=x2\/v=x3):=by
 have:d=0\/d=1\/d=2\/d=3:=()
 rcases this with rfl|rfl|rfl|rfl
 ·exact⟨x0,rfl,.inl rfl⟩
 ·exact⟨x1,rfl,.inr (.inl rfl)⟩
 ·exact⟨x2,rfl,.inr (.inr (.inl rfl))⟩
 ·exact⟨x3,rfl,.inr (.inr (.inr rfl))⟩
abbrev Ff (s:Int)(l:Pl):Pl:=l.map λp=>(p.1+s,p.2)
abbrev Qq:Am.Sm:=
 j5 (kD (jI oh (mZ (jy (eC (.int 0)) (jy (eC (.int 0)) (jy (eC (.int 55)) (jy (QD Ce (eC (.int 55))) (jF)))))) (eFn jP (jy (jB 0) (jy (eC (.int 4)) (jF))))) (kQ 8))
  (kD (kZ [none,none,some 8] (oK (jB 7)) (Aj 2 (r_ (kQ 0) (r_ (kQ 1) (A0)))) (qb) (oz (jy (jI lg (jB 0) (jB 2)) (jy (jB 1) (jF))))) (Gx (jB 3) (jB 5)))
def MA{T:jE}{w:Nat}{D:Es}{o:ag}{l:Pl}(h:uI T b)(hw:jC T w=some (Po.pl l))(hwb:w≠b)(hd:jY T d=some (D.map Su.kv))(hA:At T D)(hb:∀e∈D,e.2.1≠b)(hl:l.length<=2)(hD:D.length<=1000) :
  ∃(s:Int) (L:Nat) (T':jE),Qq [.ref b,x1,x2,.ref d,x4,.tup (o.map .int),x6,.ref w,x8] T=.nx [.ref b,x1,x2,.ref d,x4,.tup (o.map .int),x6,.ref w,.int s] T'/\-55<=s/\s<=55/\jY T' d=some ((Su.nU D o L (Ff s l)).map Su.kv)/\At T' (Su.nU D o L (Ff s l))/\T.length<=L/\uI T' b/\Kp (λq=>q=b\/q=d) T T':=by
 obtain⟨T0,h0⟩:∃T0,T0=T++[O.lst [.int 0,.int 0,.int 55,.int (-55)]]:=⟨_,rfl⟩;have k0:lX T T0:=by rw[h0];exact Kp.refl.lay
 have l0:jC T0 T.length=some [.int 0,.int 0,.int 55,.int (-55)]:=by rw[h0];exact jQ
 have hbT:=h.lt;obtain⟨c,T1,e1,c0,c1,b1,k1⟩:=digit (S:=T0) (m:=4) (h.kp k0 λz=>z) ⋯ ⋯;obtain⟨s,hs,hv⟩:=Z5 (x0:=0) (x1:=0) (x2:=55) (x3:=-55) c0 c1;have l1:jC T1 T.length=some [.int 0,.int 0,.int 55,.int (-55)]:=k1.lst _ _ () l0;have w1:jC T1 w=some (Po.pl l):=k1.lst _ _ hwb (k0.lst _ _ (λz=>z) hw);have g2:∀x y:A,gd (([x,y]:ae).length<=sizeLine)=λr:Am.R A=>r:=λx y=>by funext r;exact uF (show 2<=16777216 by decide)
 have ec:=Ol (cap:=[some 8]) (src:=oK (jB 7)) (e:=oz (jy (jI lg (jB 0) (jB 2)) (jy (jB 1) (jF)))) (τ:=[.ref b,x1,x2,.ref d,x4,.tup (o.map .int),x6,.ref w,.int s]) (S:=T1) (oX (by dsimp[kC,bools]) w1) w1 (λp=>Po.pA (p.1+s,p.2)) (λp=>by dsimp[kC,bools,g2];rfl) ();have el:(l.map λp=>Po.pA (p.1+s,p.2))=Po.pl (Ff s l):=by unfold Po.pl Ff;rw[bq];rfl
 rw[el]at ec;obtain⟨T2,h2⟩:∃T2,T2=T1++[O.lst (Po.pl (Ff s l))]:=⟨_,rfl⟩;rw[<- h2]at ec;have k2:lX T1 T2:=by rw[h2];exact Kp.refl.lay
 have k02:Kp (·=b) T T2:=(k0.of0.trans k1).trans k2.of0;have dnb:d≠b:=λz=>by
  subst z;obtain⟨_,_,e,_⟩:=h;exact Su.qC hd e rfl
 have d2:jY T2 d=some (D.map Su.kv):=k02.dct _ _ dnb hd;have a2:At T2 D:=hA.kp k02 hb;have lL:jC T2 T1.length=some (Po.pl (Ff s l)):=by rw[h2];exact jQ
 have k3:Kp (·=d) T2 (T2.set d (.dct ((Su.nU D o T1.length (Ff s l)).map Su.kv))):=Kp.refl.E1 (.inl rfl);have kl:=(k0.of0.trans k1).len;refine⟨s,T1.length,T2.set d (.dct ((Su.nU D o T1.length (Ff s l)).map Su.kv)),?_,(),(),Su.Bv (Su.BV d2),(a2.put lL).Ig k3 d2,kl,?_,?_⟩
 ·unfold Qq;dsimp[kC,bools];rw[<- h0];dsimp[kC,bools,e1,l1,hs];rw[show kZ [none,none,some 8] _ _ _ _ _ _=_ from ec];dsimp[kC,bools,Su.yc,Su.yP,d2,zv (show(D.map Su.kv).length<16777216 by rw[aH];lia),Su.ET (p:=Ff s l)]
 ·exact(b1.kp k2 λz=>z).kp k3 (cR dnb)
 ·exact(k02.mono λ_ _ z=>.inl z).trans (k3.mono λ_ _ z=>.inr z)
def ON{l:Pl}(s:Int)(h:Ok l):Ok (Ff s l):=by
 refine⟨?_,λp hp=>?_⟩
 ·unfold Ff;rw[cH];exact h.up.imp λz=>by show _+s<_+s;lia
 ·obtain⟨q,hq,rfl⟩:=bA.mp hp;exact h.nz q hq
structure Sp (p:Pl):Prop where
 ok:Ok p
 ne:p≠[]
 pb:PB 60 100000000000000000000 p
 ll:p.length<=2
def Kf{S:jE}{N:Nat}{most:Int}(h:uI S b)(hN:1<=N)(hN':N<=20)(h0:1<=most)(h1:most<=100) :
  ∃(n:Nat) (S':jE) (es:Es),jW [.ref b,.int N,.int most] S=.ok (.ref n) S'/\Sm S' n es/\Sz N 60 100000000000000000000 (Su.sm es)/\es≠[]/\(∀e∈es,Sp e.2.2)/\(∀e∈es,S.length<=e.2.1)/\(es.length:Int)<=most/\S.length<=n/\uI S' b/\Kp (·=b) S S':=by
 have hbS:=h.lt;have k0:lX S (S++[.dct []]):=Kp.refl.lay;obtain⟨c,S1,e1,c0,c1,b1,k1⟩:=digit (S:=S++[.dct []]) (m:=most) (h.kp k0 λz=>z) () ();have d1:jY S1 S.length=some []:=k1.dct _ _ () Su.tX;unfold jW oS oY;dsimp[kC,bools,mG,Nat.reduceAdd,Nat.reduceSub,Su.u7];refine CO (lo:=0) (hi:=1+c) (S1:=S1) (show qg _ _=_ from vA (by dsimp[kC,bools,e1]) (wB () ()))
  (λi τ T=>∃(D:Es) (a4 a5 a6 a7 a8:A),τ=[.ref b,.int N,.int most,.ref S.length,a4,a5,a6,a7,a8]/\jY T S.length=some (D.map Su.kv)/\At T D/\(∀e∈D,e.1.Perm (rg N)/\Sp e.2.2/\S.length<=e.2.1)/\Su.Gd (Su.sm D)/\D.length<=i/\(1<=i->D≠[])/\uI T b/\Kp (·=b) S T)
  (λr=>∃(n:Nat) (S':jE) (es:Es),RS.end (RS.seq r _)=.ok (.ref n) S'/\Sm S' n es/\Sz N 60 100000000000000000000 (Su.sm es)/\es≠[]/\(∀e∈es,Sp e.2.2)/\(∀e∈es,S.length<=e.2.1)/\(es.length:Int)<=most/\S.length<=n/\uI S' b/\Kp (·=b) S S')
  ⟨[],_,_,_,_,_,rfl,d1,(nofun),(nofun),Su.Gd.nil,aQ _,(λz=>absurd z ⋯),b1,k0.of0.trans k1⟩ ?_ ?_
 ·rintro i τ T hi ⟨D,a4,a5,a6,a7,a8,rfl,hd,hA,hP,hG,hl,hne,bT,kT⟩;left;obtain⟨o,T1,e2,po,b2,k2⟩:=Pg (n:=(N:Int)) bT () ();obtain⟨p,T2,e3,p0,p1,b3,k3⟩:=digit (S:=T1) (m:=5) b2 ⋯ ⋯;obtain⟨f,T3,e4,f0,f1,b4,k4⟩:=digit (S:=T2) (m:=3) b3 ⋯ ⋯;obtain⟨T4,h4⟩:∃T4,T4=T3++[O.lst (Po.pl [(p-2,1+f)])]:=⟨_,rfl⟩;have k5:lX T3 T4:=by rw[h4];exact Kp.refl.lay
  have l4:jC T4 T3.length=some (Po.pl [(p-2,1+f)]):=by rw[h4];exact jQ
  have bl3:=b4.lt;obtain⟨g,T5,e5,g0,g1,b5,k6⟩:=digit (S:=T4) (m:=2) (b4.kp k5 λz=>z) ⋯ ⋯;have l5:jC T5 T3.length=some (Po.pl [(p-2,1+f)]):=k6.lst _ _ () l4;have g2:∀x y:A,gd (([x,y]:ae).length<=sizeLine)=λr:Am.R A=>r:=λx y=>by funext r;exact uF (show 2<=16777216 by decide)
  have kA:Kp (·=b) T T5:=(((k2.trans k3).trans k4).trans k5.of0).trans k6;have tl:=kT.len;have tl3:=((k2.trans k3).trans k4).len;have tl45:=k6.len;have br:∃(l:Pl) (T6:jE),(wV (xr (jI (sf false) (eFn jP (jy (jB 0) (jy (eC (.int 2)) (jF)))) (eC (.int 1))))
    (pJ (XM vQ (jB 7) (jy (oz (jy (jI lg (jI lg (jB 6) (eC (.int 1))) (eFn jP (jy (jB 0) (jy (eC (.int 3)) (jF))))) (jy (jI oh (mZ (jy (QD Ce (eC (.int 2))) (jy (QD Ce (eC (.int 1))) (jy (eC (.int 1)) (jy (jI GJ (eC (.int 10)) (eC (.int 20))) (jF)))))) (eFn jP (jy (jB 0) (jy (eC (.int 4)) (jF))))) (jF)))) (jF))))
    (oH)) [.ref b,.int N,.int most,.ref S.length,.int (0+(i:Int)),.tup (o.map .int),.int (p-2),.ref T3.length,a8] T4=.nx [.ref b,.int N,.int most,.ref S.length,.int (0+(i:Int)),.tup (o.map .int),.int (p-2),.ref T3.length,a8] T6/\jC T6 T3.length=some (Po.pl l)/\Ok l/\l≠[]/\PB 5 100000000000000000000 l/\l.length<=2/\uI T6 b/\Kp (λq=>q=b\/q=T3.length) T5 T6:=by
   by_cases c1:g=1
   ·obtain⟨q,T6,e6,q0,q1,b6,k7⟩:=digit (S:=T5) (m:=3) b5 ⋯ ⋯;obtain⟨T7,h7⟩:∃T7,T7=T6++[O.lst [.int (-2),.int (-1),.int 1,.int 100000000000000000000]]:=⟨_,rfl⟩;have k8:lX T6 T7:=by rw[h7];exact Kp.refl.lay
    obtain⟨u,T8,e8,u0,u1,b8,k9⟩:=digit (S:=T7) (m:=4) (b6.kp k8 λz=>z) ⋯ ⋯;obtain⟨v,hv,hv'⟩:=Z5 (x0:=-2) (x1:=-1) (x2:=1) (x3:=100000000000000000000) u0 u1;have bl6:=b6.lt;have l7:jC T8 T6.length=some [.int (-2),.int (-1),.int 1,.int 100000000000000000000]:=k9.lst _ _ () (by rw[h7];exact jQ);have k59:Kp (·=b) T5 T8:=(k7.trans k8.of0).trans k9;have l8:jC T8 T3.length=some (Po.pl [(p-2,1+f)]):=k59.lst _ _ () l5;have l6:jC T6 T3.length=some (Po.pl [(p-2,1+f)]):=k7.lst _ _ () l5;refine⟨[(p-2,1+f),(p-2+1+q,v)],T8.set T3.length (.lst (Po.pl [(p-2,1+f)]++[.tup [.int (p-2+1+q),.int v]])),?_,o9 (nW l8),?_,by simp,?_,aQ _,?_,?_⟩
    ·dsimp[kC,bools,e5,show(g == 1)=true by rw[c1];rfl,l5,e6,Ye];rw[<- h7];dsimp[kC,bools,e8,l7,hv,g2,l8,zv (show(Po.pl [(p-2,1+f)]).length<16777216 from(by decide:1<16777216))]
    ·refine⟨bR.mpr ⟨λz hz=>?_,cj _ _⟩,λz hz=>?_⟩
     ·rw[aV.mp hz];show p-2<p-2+1+q;lia
     ·rcases bD.mp hz with z1|z1
      ·rw[z1];show 1+f≠0;lia
      ·rw[aV.mp z1];show v≠0;lia
    ·refine⟨λz hz=>?_,λz hz=>?_⟩
     ·rcases bD.mp hz with z1|z1
      ·rw[z1];show(1+f).natAbs<=_;lia
      ·rw[aV.mp z1];show v.natAbs<=_;lia
     ·rcases bD.mp hz with z1|z1
      ·rw[z1];show(p-2).natAbs<=_;lia
      ·rw[aV.mp z1];show(p-2+1+q).natAbs<=_;lia
    ·exact b8.kp (c:=(·=T3.length)) (Kp.refl.set (.inl rfl)) ()
    ·exact(k59.mono λ_ _ z=>.inl z).set (.inl (.inr rfl))
   ·refine⟨[(p-2,1+f)],T5,?_,l5,⟨cj _ _,λz hz=>?_⟩,by simp,⟨λz hz=>?_,λz hz=>?_⟩,(by decide:1<=2),b5,Kp.refl⟩
    ·dsimp[kC,bools,e5,show(g == 1)=false by simp;exact c1]
    ·rw[aV.mp hz];show 1+f≠0;lia
    ·rw[aV.mp hz];show(1+f).natAbs<=_;lia
    ·rw[aV.mp hz];show(p-2).natAbs<=_;lia
  obtain⟨l,T6,x6,l6,ok6,ne6,pb6,ll6,b6,k7⟩:=br;have bl5:=b5.lt;have kB:Kp (·=b) T T6:=kA.old k7 λq hq z w=>()
  obtain⟨s,L,T7,x7,s0,s1,d7,a7',lL,b7,k8⟩:=MA (x1:=.int N) (x2:=.int most) (x4:=.int (0+(i:Int))) (x6:=.int (p-2)) (x8:=a8) (o:=o) (d:=S.length) (D:=D) b6 l6 () (kB.dct _ _ () hd) (hA.kp kB λe he z=>by have:=(hP e he).2.2;lia) (λe he z=>by have:=(hP e he).2.2;lia) ll6 ();have tl6:=kB.len;refine⟨[.ref b,.int N,.int most,.ref S.length,.int (0+(i:Int)),.tup (o.map .int),.int (p-2),.ref T3.length,.int s],T7,?_,Su.nU D o L (Ff s l),_,_,_,_,_,rfl,d7,a7',λe he=>?_,?_,?_,λ_ z=>?_,b7,?_⟩
  ·unfold qm;dsimp[kC,bools,e2,e3,e4,g2];rw[show T3++[O.lst [A.tup [.int (p-2),.int (1+f)]]]=T4 from h4.symm];have x6':=x6;dsimp[kC,bools]at x6';rw[x6'];dsimp[kC];have x7':=x7;unfold Qq at x7';dsimp[kC,bools]at x7';exact x7'
  ·rcases Su.rG he with z|z
   ·exact hP e z
   ·rw[z];refine⟨po,⟨ON s ok6,λw=>ne6 (List.map_eq_nil_iff.mp w),⟨λq hq=>?_,λq hq=>?_⟩,?_⟩,by show S.length<=L;lia⟩
    ·obtain⟨q',hq',rfl⟩:=bA.mp hq;exact pb6.c q' hq'
    ·obtain⟨q',hq',rfl⟩:=bA.mp hq;have:=pb6.p q' hq'
     skip
     lia
    ·skip
     unfold Ff;rw[aH];exact ll6
  ·rw[Su.Fb];exact hG.put (ON s ok6)
  ·have:=Su.CF (D:=D) (o:=o) (r:=L) (p:=Ff s l)
   lia
  ·obtain⟨e,z1,_⟩:=Su.Bc (D:=D) (o:=o) (r:=L) (p:=Ff s l);rw[z]at z1
   cases z1
  ·exact(kT.trans kB).old k8 λq hq z w=>()
 ·rintro τ T ⟨D,a4,a5,a6,a7,a8,rfl,hd,hA,hP,hG,hl,hne,bT,kT⟩;have n0:=Su.Ej hd λe he z=>by have:=nP (hP e he).1;rw[z]at this;simp at this;lia
  obtain⟨n,S',x1,l1,a1,ln,k2⟩:=Su.Dj (cap:=[some 3]) (τ:=[.ref b,.int N,.int most,.ref S.length,a4,a5,a6,a7,a8]) (src:=oK (jZ (f1 wH) (jy (jB 3) (jF)))) (t:=qb) (e:=oz (jy (jB 0) (jy (jI xG (jB 1) (jB 0)) (jF)))) hd hA (oX (by dsimp[kC,bools,n0]) jQ) (λ_=>true)
   (λo r q T hT hk hr=>⟨T,rfl,Kp.refl⟩)
   (λo r T hT hk=>by
    dsimp[kC,bools,Su.zM,Su.vG,hT,hk];exact uF (show 2<=16777216 by decide)) ()
  have tl:=kT.len;have eo:Su.qd D (λ_=>true)=Su.qd D λp=>!p.isEmpty:=by
   unfold Su.qd;congr 1;refine List.filter_congr λo ho=>?_;obtain⟨e,he⟩:=Su.CW ((jX _).mem_iff.mp ho);rw[Su.Lj,he];have:=(hP e (Su.rR he).1).2.1.ne;show true=!(e.2.2).isEmpty
   cases z:e.2.2 with
   | nil=>exact absurd z this
   | cons=>rfl
  have hm:∀e∈Su.qd D (λ_=>true),e∈D:=λe he=>(Su.vn he).1;refine⟨n,S',Su.qd D λ_=>true,by dsimp[kC,bools,x1],⟨l1,a1⟩,?_,λz=>?_,λe he=>(hP e (hm e he)).2.1,λe he=>(hP e (hm e he)).2.2,?_,(),bT.kp k2 λz=>z,kT.trans k2.of0⟩
  ·refine He.Sz.of ?_ (λx hx=>?_) λx hx=>?_
   ·rw[eo,Su.x_];exact He.Cn.toS hG
   ·obtain⟨e,he,rfl⟩:=bA.mp hx;exact(hP e (hm e he)).1
   ·obtain⟨e,he,rfl⟩:=bA.mp hx;exact(hP e (hm e he)).2.1.pb
  ·have z1:=hne ();have z2:=dz List.length z;unfold Su.qd at z2;rw[aH,fJ.mpr (λ_ _=>rfl),(jX _).length_eq,aH]at z2;exact z1 (fM.mp z2)
  ·unfold Su.qd;rw[aH,fJ.mpr (λ_ _=>rfl),(jX _).length_eq,aH]
   lia
end K29
namespace K29
open PySem L2 Am
open Po (Pl Ok Bd)
theorem HK{k:Nat}:∀l:Pl,rB (se S (k+2)) (Po.pl l) (Po.pl l)=some true
 | []=>rfl
 | p::l=>by
  have e:se S (k+2) (Po.pA p) (Po.pA p)=some true:=by
   show rB (se S (k+1)) (([p.1,p.2]:ag).map .int) (([p.1,p.2]:ag).map .int)=_;rw[v_,bg rfl]
  show(se S (k+2) (Po.pA p) (Po.pA p)).bind _=_;rw[e];show Option.map _ (rB (se S (k+2)) (Po.pl l) (Po.pl l))=_;rw[HK l];rfl
open Po (Pl Ok Bd)
open Su (Es At Vl)
theorem Eh{k:Nat}:∀{es fs:Es},At S es->At S fs->Su.sm es=Su.sm fs->rB (se S (k+4)) (es.map Su.ent) (fs.map Su.ent)=some true
 | [],[],_,_,_=>rfl
 | [],f::fs,_,_,h=>nomatch h
 | e::es,[],_,_,h=>nomatch h
 | e::es,f::fs,h1,h2,h3=>by
  obtain⟨h4,h5⟩:=List.cons.inj h3;have h4:(e.1,e.2.2)=(f.1,f.2.2):=h4;obtain⟨e1,e2⟩:=Prod.mk.inj h4;have a1:=h1 e (aM ..);have a2:=h2 f (aM ..);rw[<- e2]at a2;have q1:se S (k+3) (.tup (e.1.map .int)) (.tup (f.1.map .int))=some true:=by
   rw[<- e1];show rB (se S (k+2)) _ _=_;rw[v_,bg rfl]
  have q2:se S (k+3) (.ref e.2.1) (.ref f.2.1)=some true:=by
   show(jC S e.2.1).bind (λxs=>(jC S f.2.1).bind λys=>rB (se S (k+2)) xs ys)=_;rw[a1,a2];exact HK (k:=k) _
  have q:se S (k+4) (Su.ent e) (Su.ent f)=some true:=by
   skip
   show(se S (k+3) _ _).bind (λp=>((se S (k+3) _ _).bind λq=>(rB (se S (k+3)) [] []).map λr=>q && r).map λq=>p && q)=_;rw[q1,q2];rfl
  show(se S (k+4) (Su.ent e) (Su.ent f)).bind _=_;rw[q]
  skip
  rw[Eh (λx hx=>h1 x (aN _ hx)) (λx hx=>h2 x (aN _ hx)) h5];rfl
def WA{n:Nat}{fs:Es}(h:Sm S n es)(h':Sm S m fs)(e:Su.sm es=Su.sm fs):se S 12 (.ref n) (.ref m)=some true:=by
 show(jC S n).bind (λxs=>(jC S m).bind λys=>rB (se S 11) xs ys)=_;rw[h.l,h'.l];exact Eh (k:=7) h.a h'.a e
open Po (Pl Ok Bd)
open Su (Es At Vl)
open He (Sz)
def VC{S:jE}{n N P c:Nat}{fs:Es}(hN:N<6)(h0:1<=N)(h:Sm S n es)(h':Sm S m fs)(hz:Sz N P C (Su.sm es))(hz':Sz N P c (Su.sm fs))(hP:P<=10000) :
  ∃(L:Nat) (S':jE) (rs:Es),o_ [.ref n,.ref m] S=.ok (.ref L) S'/\Sm S' L rs/\Su.sm rs=He.yY (Su.sm es) (Su.sm fs)/\Nw S.length L rs/\S.length<=L/\lX S S':=by
 have nl:=uS h h' (λe he=>nP (hz.pm _ (lY rfl he))) (λe he=>nP (hz'.pm _ (lY rfl he)));have m1:=hz.many hN;have m2:=hz'.many hN;rw[Su.pV]at m1 m2;have hle:(es++fs).length=es.length+fs.length:=aR ..;have n1:jC (S++[.dct []]) n=some (es.map Su.ent):=kN h.l;have n2:jC (S++[.dct []]) m=some (fs.map Su.ent):=kN h'.l;have ad:=HS n1 n2 (by rw[aH,aH];lia);rw[<- bX]at ad;have k0:lX S (S++[.dct []]++[.lst ((es++fs).map Su.ent)]):=Kp.refl.lay.lay;have hj:∀e∈es++fs,e.2.2.length<=2 * P+1/\e.1≠[]:=λe he=>by
  have:e.1.length=N/\e.2.2.length<=2 * P+1:=(bI.mp he).elim (λz=>⟨nP (hz.pm _ (lY rfl z)),(hz.pb (lY rfl z)).2⟩) λz=>⟨nP (hz'.pm _ (lY rfl z)),(hz'.pb (lY rfl z)).2⟩;exact⟨this.2,λz=>by rw[z]at this;have:=this.1;simp at this;lia⟩
 obtain⟨j,hj'⟩:∃j,j=2 * P+1:=⟨_,rfl⟩;rw[<- hj']at hj;have hb:(0+(es++fs).length) * j+j<16777216:=by
  have:(0+(es++fs).length) * j<=240 * j:=b_ _ ()
  lia
 obtain⟨y3,y4,D,T,e1,f,kp⟩:=Su.Rw vz (j:=j) (b:=S.length) (i0:=0) (S:=S++[.dct []]) (S1:=S++[.dct []]++[.lst ((es++fs).map Su.ent)]) (d:=S.length) (x0:=.ref n) (x1:=.ref m) (x3:=.unb) (x4:=.unb) (xs:=[]) (src:=tN) (es:=es++fs)
  (show tN _ _=_ from oX (by dsimp[kC,bools,ad]) jQ) jQ ((h.a.app h'.a).zY k0) (Su.Fil.new (Su.Ca Su.tX)) k0.len hj hb ()
 have kT:lX S T:=k0.old kp λq hq _ z=>()
 have fl:=f.ll;obtain⟨L,S',e2,r1,r2,r3,r4⟩:=GB f.dd f.aa f.kk ();have tl:=kT.len;refine⟨L,S',_,?_,⟨r1,r2⟩,by rw[Su.x_,f.ss,Su.OO];rfl,⟨f.pw.out _,λe he=>?_⟩,(),kT.trans r4⟩
 ·unfold o_ Cw CK;dsimp[kC,sd,bools,mG,Nat.reduceAdd,Nat.reduceSub,nl,Su.u7];rw[show nj tN _ Bf _ _=_ from e1];dsimp[kC,sd,bools,e2]
 ·obtain⟨m1,m2⟩:=Su.vn he;obtain⟨v1,v2,v3⟩:=f.vv e m1;have lt:=nW (f.aa e m1);exact⟨v3,()⟩
abbrev Sn (N P C:Nat)(S:jE)(n:Nat)(l:Su.Ps):Prop:=Sz N P C l/\∃es,Sm S n es/\Su.sm es=l
def Sn.kp{N P n:Nat}{l:Su.Ps}(h:Sn N P C S n l)(k:lX S S'):Sn N P C S' n l:=by
 obtain⟨a,es,b,c⟩:=h;exact⟨a,es,b.kp k,c⟩
def Sn.eq{N P n:Nat}{l k:Su.Ps}(h:Sn N P C S n l)(h':Sn N P' C' S m k)(e:l=k):se S 12 (.ref n) (.ref m)=some true:=by
 obtain⟨_,es,b,c⟩:=h;obtain⟨_,fs,b',c'⟩:=h';exact WA b b' (by rw[c,c',e])
def Sn.prod{N P c n:Nat}{l k:Su.Ps}(h:Sn N P C S n l)(h':Sn N Q c S m k)(hN:N<6)(h0:1<=N)(hP:P+Q<=500)(hC:3 ^ 25 * C<big)(hc:3 ^ 25 * c<big) :
  ∃(L:Nat) (S':jE),jS [.ref n,.ref m] S=.ok (.ref L) S'/\Sn N (P+25+Q) (120 * ((2 * Q+1) * (c * (3 ^ 25 * C)))) S' L (He.prod l k)/\lX S S':=by
 obtain⟨a,es,b,rfl⟩:=h;obtain⟨a',fs,b',rfl⟩:=h';obtain⟨L,S',rs,e1,s1,q1,_,_,k1⟩:=lG hN h0 b b' a a' hP hC hc;exact⟨L,S',e1,⟨a.prod hN a',rs,s1,q1⟩,k1⟩
def Sn.add{N P c n:Nat}{l k:Su.Ps}(h:Sn N P C S n l)(h':Sn N P c S m k)(hN:N<6)(h0:1<=N)(hP:P<=10000) :
  ∃(L:Nat) (S':jE),o_ [.ref n,.ref m] S=.ok (.ref L) S'/\Sn N P (C+c) S' L (He.yY l k)/\lX S S':=by
 obtain⟨a,es,b,rfl⟩:=h;obtain⟨a',fs,b',rfl⟩:=h';obtain⟨L,S',rs,e1,s1,q1,_,_,k1⟩:=VC hN h0 b b' a a' hP;exact⟨L,S',e1,⟨a.sum a',rs,s1,q1⟩,k1⟩
def uB(h:C<2 ^ 4096):C<big:=by rw[BO];exact h
def GH{N n t:Nat}{l k:Su.Ps}(hN:N<6)(h0:1<=N)(a:Sn N 60 (10 ^ 20) S n l)(b:Sn N 60 (10 ^ 20) S m k)(c:Sn N 60 (10 ^ 20) S t h) :
  ∃S',kL [.ref n,.ref m,.ref t] S=.ok (.bl true) S'/\lX S S':=by
 have B0:3 ^ 25 * 10 ^ 20<big:=uB ∅;have B1:3 ^ 25 * (10 ^ 20+10 ^ 20)<big:=uB ∅;have B2:3 ^ 25 * (120 * ((2 * 60+1) * (10 ^ 20 * (3 ^ 25 * 10 ^ 20))))<big:=uB ∅;have pl:=a.1.pm;have pk:=b.1.pm;have ph:=c.1.pm;obtain⟨L1,S1,e1,s1,k1⟩:=a.prod b hN h0 ⋯ B0 B0;obtain⟨L2,S2,e2,s2,k2⟩:=s1.prod (c.kp k1) hN h0 ⋯ B2 B0;have k02:=k1.trans k2;obtain⟨L3,S3,e3,s3,k3⟩:=(b.kp k02).prod (c.kp k02) hN h0 ⋯ B0 B0;have k03:=k02.trans k3;obtain⟨L4,S4,e4,s4,k4⟩:=(a.kp k03).prod s3 hN h0 ⋯ B0 B2;have k04:=k03.trans k4;have q1:sf true (.ref L2) (.ref L4) S4=.ok (.bl false) S4:=CL ((s2.kp (k3.trans k4)).eq s4 (He.grouped a.1.cn b.1.cn c.1.cn pl pk ph));obtain⟨L5,S5,e5,s5,k5⟩:=(b.kp k04).add (c.kp k04) hN h0 ⋯;have k05:=k04.trans k5;obtain⟨L6,S6,e6,s6,k6⟩:=(a.kp k05).prod s5 hN h0 ⋯ B0 B1;have k06:=k05.trans k6;obtain⟨L7,S7,e7,s7,k7⟩:=(a.kp k06).prod (b.kp k06) hN h0 ⋯ B0 B0;have k07:=k06.trans k7;obtain⟨L8,S8,e8,s8,k8⟩:=(a.kp k07).prod (c.kp k07) hN h0 ⋯ B0 B0;have k08:=k07.trans k8;obtain⟨L9,S9,e9,s9,k9⟩:=(s7.kp k8).add s8 hN h0 ⋯;have k09:=k08.trans k9;have q2:sf true (.ref L6) (.ref L9) S9=.ok (.bl false) S9:=CL ((s6.kp ((k7.trans k8).trans k9)).eq s9 (He.OJ a.1.cn b.1.cn c.1.cn pl pk ph));obtain⟨L10,S10,e10,s10,k10⟩:=(a.kp k09).add (b.kp k09) hN h0 ⋯;have k010:=k09.trans k10;obtain⟨L11,S11,e11,s11,k11⟩:=s10.prod (c.kp k010) hN h0 ⋯ B1 B0;have k011:=k010.trans k11;obtain⟨L12,S12,e12,s12,k12⟩:=(a.kp k011).prod (c.kp k011) hN h0 ⋯ B0 B0;have k012:=k011.trans k12;obtain⟨L13,S13,e13,s13,k13⟩:=(b.kp k012).prod (c.kp k012) hN h0 ⋯ B0 B0;have k013:=k012.trans k13;obtain⟨L14,S14,e14,s14,k14⟩:=(s12.kp k13).add s13 hN h0 ⋯;have q3:sf false (.ref L11) (.ref L14) S14=.ok (.bl true) S14:=Cz ((s11.kp ((k12.trans k13).trans k14)).eq s14 (He.MO a.1.cn b.1.cn c.1.cn pl pk ph));refine⟨S14,?_,k013.trans k14⟩;unfold kL mR mV;dsimp[kC,sd,bools,mG,Nat.reduceAdd,Nat.reduceSub,e1,e2,e3,e4,q1,e5,e6,e7,e8,e9,q2,e10,e11,e12,e13,e14,q3]
end K29
namespace K29
open PySem L2 Am
def aal(xs:ae)(j:Nat)(h:j<=xs.length):xF xs none (some (j:Int))=xs.take j:=by
 unfold xF;rw[HT.Hw,HT.Dp,List.drop_zero,iO (),Nat.sub_zero]
def V9{xs:ag}{k:Nat}(h0:1<=k)(h:k<xs.length):xs.take (k-1)++[xs.getD k 0,xs.getD (k-1) 0]++xs.drop (k+1)=Wd.ex xs k:=by
 apply dc;intro p;rw[Wd.oV h0 h,cD];have e1:xs[k]?=some (xs.getD k 0):=by rw[aJ,aG h];rfl
 have e2:xs[k-1]?=some (xs.getD (k-1) 0):=by rw[aJ,aG ()];rfl
 by_cases c1:p<k-1
 ·rw[bH (by rw[bM];lia),fm c1,aI (),aI ()]
 ·rw[f_ (by rw[bM];lia),bM,iO ()];by_cases c2:p=k-1
  ·rw[aI (),aK c2,e1,show p-(k-1)=0 by lia];rfl
  ·by_cases c3:p=k
   ·rw[aK c3,e2,show p-(k-1)=1 by lia];rfl
   ·rw[aI c3,aI c2,show p-(k-1)=(p-(k+1))+2 by lia];show(xs.drop (k+1))[p-(k+1)]?=_;rw[gO,show k+1+(p-(k+1))=p by lia]
open Po (Pl Ok Bd)
open Su (Es At Vl)
open He (Sz PB)
open Fw (rg)
def Vh{N:Nat}(hN:N<=1000)(T:jE):nX (.rng 1 ((N:Int)+1)) T=.ok (.tup ((rg N).map .int)) T:=Gj (yN (show(-1000000:Int)<=1 by decide) ⋯ (show -1000000<=(N:Int)+1 by lia) () ())
def aaT{N:Nat}(hN:N<=1000)(T:jE):uw (.rng 1 ((N:Int)+1)) T=.ok (.ref T.length) (T++[.lst ((rg N).map .int)]):=Ar (yN (show(-1000000:Int)<=1 by decide) ⋯ (show -1000000<=(N:Int)+1 by lia) () ())
def M3{N P n:Nat}{o:ag}{p:Pl}{r:Nat}(po:o.Perm (rg N))(hp:Ok p)(h0:p≠[])(pb:PB P C p)(hn:jC S n=some [.tup [.tup (o.map .int),.ref r]])(hr:jC S r=some (Po.pl p)):Sn N P C S n [(o,p)]:=
 ⟨He.Sz.of (He.E4 o hp h0) (λx hx=>by rw[aV.mp hx];exact po) (λx hx=>by rw[aV.mp hx];exact pb),[(o,r,p)],⟨hn,λe he=>by rw[aV.mp he];exact hr⟩,rfl⟩
def WW:PB 60 (10 ^ 20) [((0:Int),(1:Int))]:=⟨λq hq=>by rw[aV.mp hq];decide,λq hq=>by rw[aV.mp hq];decide⟩
def Cs{N:Nat}{S:jE}{o:ag}(po:o.Perm (rg N)):Sn N 60 (10 ^ 20) (S++[O.lst [.tup [.int 0,.int 1]]]++[O.lst [.tup [.tup (o.map .int),.ref S.length]]]) (S.length+1) [(o,[((0:Int),(1:Int))])]:=by
 have:=jQ (S:=S++[O.lst [.tup [.int 0,.int 1]]]) (xs:=[.tup [.tup (o.map .int),.ref S.length]]);rw[aR,bV]at this;exact M3 po He.GL (by simp) WW this (kN jQ)
def cutD(xs:ae)(j:Nat)(h:j<=xs.length):xF xs (some (j:Int)) none=xs.drop j:=by
 unfold xF;rw[HT.Hw,HT.Dp,iO (),List.take_of_length_le (by simp)]
def Kw{S:jE}{n k:Nat}{xs:ag}(h0:1<=k)(h1:k<xs.length)(hl:xs.length<=1000)(h:jC S n=some (xs.map .int)) :
  ∃(L:Nat) (S':jE),(jI lg (jI lg (XR (jB 2) Ay (Ao (jI aSub (jB 4) (eC (.int 1))))) (mZ (jy (jI oh (jB 2) (jB 4)) (jy (jI oh (jB 2) (jI aSub (jB 4) (eC (.int 1)))) (jF))))) (XR (jB 2) (Ao (jI lg (jB 4) (eC (.int 1)))) Ay)) [x0,x1,.ref n,x3,.int k] S=.ok (.ref L) S'/\jC S' L=some ((Wd.ex xs k).map .int)/\lX S S'/\S.length<=L:=by
 have a1:rA (xs.map A.int) (k:Int)=some (.int (xs.getD k 0)):=YW rfl (by omega);have a2:rA (xs.map A.int) ((k:Int)-1)=some (.int (xs.getD (k-1) 0)):=YW (k:=k-1) (by omega) (by omega);have c1:xF (xs.map A.int) none (some ((k:Int)-1))=(xs.take (k-1)).map .int:=by
  have:=aal (xs.map A.int) (k-1) (by rw[aH];omega);rw[show((k-1:Nat):Int)=(k:Int)-1 by omega]at this;rw[this,map_take]
 have c2:xF (xs.map A.int) (some ((k:Int)+1)) none=(xs.drop (k+1)).map .int:=by
  have:=cutD (xs.map A.int) (k+1) (by rw[aH];omega);rw[show((k+1:Nat):Int)=(k:Int)+1 by omega]at this;rw[this,map_drop]
 obtain⟨S1,h1'⟩:∃S1,S1=S++[O.lst ((xs.take (k-1)).map .int)]:=⟨_,rfl⟩;obtain⟨S2,h2⟩:∃S2,S2=S1++[O.lst (([xs.getD k 0,xs.getD (k-1) 0]:ag).map .int)]:=⟨_,rfl⟩;have k1:lX S S1:=by rw[h1'];exact Kp.refl.lay
 have k2:lX S1 S2:=by rw[h2];exact Kp.refl.lay
 have l1:jC S2 S.length=some ((xs.take (k-1)).map .int):=k2.lst _ _ (λz=>z) (by rw[h1'];exact jQ);have l2:jC S2 S1.length=some (([xs.getD k 0,xs.getD (k-1) 0]:ag).map .int):=by rw[h2];exact jQ
 have ca:=HS l1 l2 (by rw[aH,aH,bM];show _+2<=_;omega);rw[<- bX]at ca;obtain⟨S3,h3⟩:∃S3,S3=S2++[O.lst ((xs.take (k-1)++[xs.getD k 0,xs.getD (k-1) 0]).map .int)]:=⟨_,rfl⟩;rw[<- h3]at ca;have k3:lX S2 S3:=by rw[h3];exact Kp.refl.lay
 have hS1:jC S1 n=some (xs.map .int):=k1.lst _ _ (λz=>z) h;have hS3:jC S3 n=some (xs.map .int):=k3.lst _ _ (λz=>z) (k2.lst _ _ (λz=>z) hS1);obtain⟨S4,h4⟩:∃S4,S4=S3++[O.lst ((xs.drop (k+1)).map .int)]:=⟨_,rfl⟩;have k4:lX S3 S4:=by rw[h4];exact Kp.refl.lay
 have l3:jC S4 S2.length=some ((xs.take (k-1)++[xs.getD k 0,xs.getD (k-1) 0]).map .int):=k4.lst _ _ (λz=>z) (by rw[h3];exact jQ);have l4:jC S4 S3.length=some ((xs.drop (k+1)).map .int):=by rw[h4];exact jQ
 have cb:=HS l3 l4 (by rw[aH,aH,aR,bM,dm];show _+2+_<=_;omega);rw[<- bX,V9 h0 h1]at cb;have kk:=((k1.trans k2).trans k3).trans k4;refine⟨S4.length,_,?_,jQ,kk.lay,kk.len⟩;have n2:newL [.int (xs.getD k 0),.int (xs.getD (k-1) 0)] S1=.ok (.ref S1.length) S2:=by rw[h2];exact kY (show 2<=16777216 by decide)
 dsimp[kC,bools,h,c1,<- h1',hS1,a1,a2];rw[show S1++[O.lst [A.int (xs.getD k 0),A.int (xs.getD (k-1) 0)]]=S2 from h2.symm];dsimp[kC,bools,ca,hS3,c2,<- h4,cb]
def QG{N:Nat}(h:uI S b)(hN:2<=N)(hN':N<=20):∃(xs:ag) (S':jE),pM [.ref b,.int N] S=.ok (.tup (xs.map .int)) S'/\xs.Perm (rg N)/\uI S' b/\Kp (·=b) S S':=by
 have hbS:=h.lt;have k0:lX S (S++[O.lst ((rg N).map .int)]):=Kp.refl.lay;obtain⟨c,S1,e1,c0,c1,b1,k1⟩:=digit (S:=S++[O.lst ((rg N).map .int)]) (m:=3) (h.kp k0 λz=>z) ⋯ ⋯;unfold pM uN uP;dsimp[kC,bools,mG,Nat.reduceAdd,Nat.reduceSub,aaT (show N<=1000 by lia)];refine CO (lo:=0) (hi:=c) (S1:=S1) (show vj _ _=_ from vA (by dsimp[kC,bools,e1]) (wB () ()))
  (λi τ T=>∃(n:Nat) (xs:ag) (a3 a4:A),τ=[.ref b,.int N,.ref n,a3,a4]/\jC T n=some (xs.map .int)/\S.length<=n/\xs.Perm (rg N)/\uI T b/\Kp (·=b) S T)
  (λr=>∃(xs:ag) (S':jE),RS.end (RS.seq r _)=.ok (.tup (xs.map .int)) S'/\xs.Perm (rg N)/\uI S' b/\Kp (·=b) S S')
  ⟨S.length,rg N,_,_,rfl,k1.lst _ _ () jQ,aQ _,.refl _,b1,k0.of0.trans k1⟩ ?_ ?_
 ·rintro i τ T hi ⟨n,xs,a3,a4,rfl,hn,ln,px,bT,kT⟩;left;obtain⟨d,T1,e2,d0,d1,b2,k2⟩:=digit (S:=T) (m:=(N:Int)-1) bT () ();obtain⟨k,hk⟩:∃k:Nat,(k:Int)=1+d:=⟨(1+d).toNat,()⟩;have lx:=nP px;obtain⟨L,T2,e3,l3,k3,lL⟩:=Kw (x0:=.ref b) (x1:=.int N) (x3:=.int (0+(i:Int))) (k:=k) () () () (k2.lst _ _ () hn);have tl:=kT.len;have tl2:=k2.len;unfold vF;dsimp[kC,bools,e2,<- hk];dsimp[kC,bools]at e3;rw[e3];dsimp[kC];exact⟨_,_,rfl,L,Wd.ex xs k,_,_,rfl,l3,(),He.qe px () (),b2.kp k3 λz=>z,(kT.trans k2).trans k3.of0⟩
 ·rintro τ T ⟨n,xs,a3,a4,rfl,hn,ln,px,bT,kT⟩;exact⟨xs,T,by dsimp[kC,bools,hn],px,bT,kT⟩
def Sn.bx{N P n k:Nat}{l:Su.Ps}(h:Sn N P C S n l)(hN:N<6)(k1:1<=k)(k2:k<N)(hP:P<=1000)(hC:C<big) :
  ∃(L:Nat) (S':jE),kF [.ref n,.int k] S=.ok (.ref L) S'/\Sn N (P+1) (3 * C) S' L (Su.bx k l)/\lX S S':=by
 obtain⟨z,es,s,rfl⟩:=h;have m3:=z.many hN;rw[Su.pV]at m3;obtain⟨L,S4,rs4,x4,s4,q4,_,_,_,_,k4⟩:=HW (j:=2 * (2 * P+1)) s (k:=k) (N:=N) (λe he=>by
  have b:=z.pb (lY rfl he);exact⟨nP (z.pm _ (lY rfl he)),by have:=b.2;show 2 * e.2.2.length<=_;exact Nat.mul_le_mul_left _ this,λp hp=>fW (b.1.c p hp) hC⟩) k1 k2 () (by
   have:(2 * es.length+2) * (2 * (2 * P+1))<=242 * (2 * (2 * P+1)):=b_ _ ()
   lia) ()
 exact⟨L,S4,x4,⟨z.bx k1 k2,rs4,s4,q4⟩,k4⟩
def BY{N k:Nat}(hN:N<6)(j1:1<=j)(j2:j<N)(k1:1<=k)(k2:k<N):∃S',j6 [.int N,.int j,.int k] S=.ok (.bl true) S'/\lX S S':=by
 obtain⟨S0,h0⟩:∃S0,S0=S++[O.lst [.tup [.int 0,.int 1]]]++[O.lst [.tup [.tup ((rg N).map .int),.ref S.length]]]:=⟨_,rfl⟩;have zY:lX S S0:=by rw[h0];exact Kp.refl.lay.lay
 have s0:Sn N 60 (10 ^ 20) S0 (S.length+1) (He.one N):=by rw[h0];exact Cs (.refl _)
 have B0:10 ^ 20<big:=uB ∅;have B1:3 ^ 25 * (3 * 10 ^ 20)<big:=uB ∅;have B2:3 ^ 25 * (120 * ((2 * 61+1) * (3 * 10 ^ 20 * (3 ^ 25 * (3 * 10 ^ 20)))))<big:=uB ∅;have h0':1<=N:=()
 obtain⟨L1,S1,e1,s1,q1⟩:=s0.bx hN j1 j2 ⋯ B0;obtain⟨L2,S2,e2,s2,q2⟩:=(s0.kp q1).bx hN k1 k2 ⋯ B0;have s1':=s1.kp q2;have q02:=(zY.trans q1).trans q2;have g2:∀x y:A,gd (([x,y]:ae).length<=sizeLine)=λr:Am.R A=>r:=λx y=>by funext r;exact uF (show 2<=16777216 by decide)
 obtain⟨x1,x2⟩:=He.aaQ hN j1 j2 k1 k2;by_cases c:j=k+1\/k=j+1
 ·obtain⟨L3,S3,e3,s3,q3⟩:=s1'.prod s2 hN h0' ⋯ B1 B1;obtain⟨L4,S4,e4,s4,q4⟩:=s3.prod (s1'.kp q3) hN h0' ⋯ B2 B1;have q34:=q3.trans q4;obtain⟨L5,S5,e5,s5,q5⟩:=(s2.kp q34).prod (s1'.kp q34) hN h0' ⋯ B1 B1;obtain⟨L6,S6,e6,s6,q6⟩:=s5.prod (s2.kp (q34.trans q5)) hN h0' ⋯ B2 B1;have y1:sf false (.ref L4) (.ref L6) S6=.ok (.bl true) S6:=Cz ((s4.kp (q5.trans q6)).eq s6 (x1 c));refine⟨S6,?_,((q02.trans q34).trans q5).trans q6⟩;have ca:((if (j:Int)-(k:Int)<0 then -((j:Int)-(k:Int))else(j:Int)-(k:Int)) == 1)=true:=by rw[jm];split<;>lia
  unfold j6 lz lA;dsimp[kC,sd,bools,mG,Nat.reduceAdd,Nat.reduceSub,Vh (show N<=1000 by lia),mw (show 2<=sizeLine by decide),aR,bV];rw[<- h0];dsimp[kC,sd,bools,e1,e2,ca,e3,e4,e5,e6,y1]
 ·obtain⟨L3,S3,e3,s3,q3⟩:=s1'.prod s2 hN h0' ⋯ B1 B1;obtain⟨L4,S4,e4,s4,q4⟩:=(s2.kp q3).prod (s1'.kp q3) hN h0' ⋯ B1 B1;have y1:sf false (.ref L3) (.ref L4) S4=.ok (.bl true) S4:=Cz ((s3.kp q4).eq s4 (x2 c));refine⟨S4,?_,(q02.trans q3).trans q4⟩;have ca:((if (j:Int)-(k:Int)<0 then -((j:Int)-(k:Int))else(j:Int)-(k:Int)) == 1)=false:=by rw[d8];split<;>lia
  unfold j6 lz lA;dsimp[kC,sd,bools,mG,Nat.reduceAdd,Nat.reduceSub,Vh (show N<=1000 by lia),mw (show 2<=sizeLine by decide),aR,bV];rw[<- h0];dsimp[kC,sd,bools,e1,e2,ca,e3,e4,y1]
end K29
namespace K29
open PySem L2 Am
def Ro{c:Ex}{n:Nat}{xs:ae}(h:c τ S=.ok (.ref n) S1)(hl:jC S1 n=some xs):AX c τ S=.ok (lq n xs.length) S1:=by
 unfold AX;rw[h,R.nH];show opt (jC S1 n) _=_;rw[hl,kJ]
def KQ(S:jE):∃S',sH [.exn (PySem.Str.ofString "NoPair"),.str (PySem.Str.ofString "pair")] S=.ok (.bl true) S'/\lX S S':=by
 obtain⟨S1,h1⟩:∃S1,S1=S++[O.lst [.bl false,.bl false,.bl true,.bl false]]:=⟨_,rfl⟩;obtain⟨S2,h2⟩:∃S2,S2=S1++[O.lst [.bl false,.bl false,.bl false,.bl false]]:=⟨_,rfl⟩;obtain⟨S3,h3⟩:∃S3,S3=S2++[O.lst [.bl false,.bl false,.bl true,.bl false,.bl false,.bl false,.bl false,.bl false]]:=⟨_,rfl⟩;obtain⟨ns,hns⟩:∃ns:ar,ns=[PySem.Str.ofString "word",PySem.Str.ofString "number",PySem.Str.ofString "pair",PySem.Str.ofString "many",PySem.Str.ofString "tables",PySem.Str.ofString "text",PySem.Str.ofString "row",PySem.Str.ofString "name"]:=⟨_,rfl⟩;obtain⟨S4,h4⟩:∃S4,S4=S3++[O.lst (ns.map A.str)]:=⟨_,rfl⟩;have a1:jC S2 S.length=some [.bl false,.bl false,.bl true,.bl false]:=by rw[h2,h1];exact kN jQ
 have a2:jC S2 S1.length=some [.bl false,.bl false,.bl false,.bl false]:=by rw[h2];exact jQ
 have ec:=HS a1 a2 ⋯;have a3:jC S4 S2.length=some [.bl false,.bl false,.bl true,.bl false,.bl false,.bl false,.bl false,.bl false]:=by rw[h4,h3];exact kN jQ
 have a4:jC S4 S3.length=some (ns.map A.str):=by rw[h4];exact jQ
 have hc:=Dk (cap:=[some 1]) (src:=AX (jB 3)) (t:=qb) (e:=jI (sf false) (jB 0) (jB 1)) (τ:=[.exn (PySem.Str.ofString "NoPair"),.str (PySem.Str.ofString "pair"),.ref S2.length,.ref S3.length]) (Ro (by dsimp[kC,bools]) a4) a4 (λ_=>true)
  (λx=>match x with | .str s=>.bl (s == PySem.Str.ofString "pair")|_=>.non) (λx _=>rfl) (λx hx _=>by
   obtain⟨s,_,rfl⟩:=bA.mp hx;dsimp[kC,bools];rfl) (by rw[hns];decide)
 have en:((ns.map A.str).filter λ_=>true).map (λx=>match x with | .str s=>A.bl (s == PySem.Str.ofString "pair")|_=>.non)=[.bl false,.bl false,.bl true,.bl false,.bl false,.bl false,.bl false,.bl false]:=by
  rw[fJ.mpr λ_ _=>rfl,bq,hns];show[A.bl (PySem.Str.ofString "word" == PySem.Str.ofString "pair"),A.bl (PySem.Str.ofString "number" == PySem.Str.ofString "pair"),A.bl (PySem.Str.ofString "pair" == PySem.Str.ofString "pair"),A.bl (PySem.Str.ofString "many" == PySem.Str.ofString "pair"),A.bl (PySem.Str.ofString "tables" == PySem.Str.ofString "pair"),A.bl (PySem.Str.ofString "text" == PySem.Str.ofString "pair"),A.bl (PySem.Str.ofString "row" == PySem.Str.ofString "pair"),A.bl (PySem.Str.ofString "name" == PySem.Str.ofString "pair")]=_;rw[show(PySem.Str.ofString "word" == PySem.Str.ofString "pair")=false by decide +kernel,show(PySem.Str.ofString "number" == PySem.Str.ofString "pair")=false by decide +kernel,show(PySem.Str.ofString "pair" == PySem.Str.ofString "pair")=true by decide +kernel,show(PySem.Str.ofString "many" == PySem.Str.ofString "pair")=false by decide +kernel,show(PySem.Str.ofString "tables" == PySem.Str.ofString "pair")=false by decide +kernel,show(PySem.Str.ofString "text" == PySem.Str.ofString "pair")=false by decide +kernel,show(PySem.Str.ofString "row" == PySem.Str.ofString "pair")=false by decide +kernel,show(PySem.Str.ofString "name" == PySem.Str.ofString "pair")=false by decide +kernel]
 rw[en]at hc;have ee:=Cz (S:=S4++[O.lst [.bl false,.bl false,.bl true,.bl false,.bl false,.bl false,.bl false,.bl false]]) (a:=.ref S2.length) (b:=.ref S4.length) (k:=true) (by
  show(jC _ _).bind _=_;rw[kN a3,dM,jQ,dM];rfl)
 have ec:lg (.ref S.length) (.ref S1.length) S2=.ok (.ref S2.length) S3:=by rw[ec,h3];rfl
 have e4:newL [A.str (PySem.Str.ofString "word"),.str (PySem.Str.ofString "number"),.str (PySem.Str.ofString "pair"),.str (PySem.Str.ofString "many"),.str (PySem.Str.ofString "tables"),.str (PySem.Str.ofString "text"),.str (PySem.Str.ofString "row"),.str (PySem.Str.ofString "name")] S3=.ok (.ref S3.length) S4:=by
  rw[FD,h4,hns];rfl
 refine⟨S4++[O.lst [.bl false,.bl false,.bl true,.bl false,.bl false,.bl false,.bl false,.bl false]],?_,?_⟩
 ·unfold sH yl yv;dsimp[kC,sd,bools,mG,Nat.reduceAdd,Nat.reduceSub,<- h1,<- h2,ec,e4,hc,ee]
 ·rw[h4,h3,h2,h1];exact Kp.refl.lay.lay.lay.lay.lay
open Po (Pl Ok Bd)
open Su (Es At Vl)
open He (Sz PB)
open Fw (rg)
def Ge{n N:Nat}{es fs:Es}(h:Sm S n es)(h':Sm S m fs)(h1:∀e∈es,e.1.length=N)(h2:∀e∈fs,e.1.length=M)(hNM:N≠M)(hN:N<=1000)(hM:M<=1000)(e0:es≠[])(f0:fs≠[]):∃S',kO [.ref n,.ref m] S=.ok (.bl true) S'/\lX S S':=by
 have ex:jS [.ref n,.ref m] S=.ex "NoPair" S:=by
  cases es with
  | nil=>exact absurd rfl e0
  | cons e es=>cases fs with
   | nil=>exact absurd rfl f0
   | cons f fs=>
    have l1:=h1 e (aM ..);have l2:=h2 f (aM ..);have q:mE [.tup (e.1.map .int),.tup (f.1.map .int)] S=.ex "NoPair" S:=by
     unfold mE qo qf;have:((e.1.length:Int) == (f.1.length:Int))=false:=by simp;lia
     dsimp[kC,sd,bools,mG,Nat.reduceAdd,Nat.reduceSub,aH,this,dg,UR (show e.1.length<18446744073709551616 by lia),UR (show f.1.length<18446744073709551616 by lia)]
    have hl:=h.l;have hl':=h'.l;rw[bF]at hl hl';have nl:lI [.ref n,.ref m] S=.ex "NoPair" S:=by
     unfold lI qv qu;dsimp[kC,sd,bools,mG,Nat.reduceAdd,Nat.reduceSub,zO hl,zO hl',iC,dg,hl,hl',Dm,Su.ent,q]
    unfold jS rf qW;dsimp[kC,sd,bools,mG,Nat.reduceAdd,Nat.reduceSub,nl]
 obtain⟨S',e1,k1⟩:=KQ S;refine⟨S',?_,k1⟩;unfold kO qE qP;dsimp[kC,sd,bools,mG,Nat.reduceAdd,Nat.reduceSub,ex,e1]
structure Dr (N n:Nat)(S:jE)(l:Su.Ps):Prop where
 sn:Sn N 60 (10 ^ 20) S n l
 ne:l≠[]
def Dr.kp{N n:Nat}{l:Su.Ps}(h:Dr N n S l)(k:lX S S'):Dr N n S' l:=⟨h.sn.kp k,h.ne⟩
abbrev Dw (N n b0:Nat)(S:jE)(l:Su.Ps):Prop:=l≠[]/\Sz N 60 (10 ^ 20) l/\b0<=n/\∃es,Sm S n es/\Su.sm es=l/\∀e∈es,b0<=e.2.1
def Dw.kp{N n:Nat}{l:Su.Ps}(h:Dw N n b0 S l)(k:Kp (·=b) S S')(hb:b<b0):Dw N n b0 S' l:=by
 obtain⟨h1,h2,h3,es,h4,h5,h6⟩:=h;exact⟨h1,h2,h3,es,⟨k.lst _ _ () h4.l,h4.a.kp k λe he z=>by have:=h6 e he;lia⟩,h5,h6⟩
def Dw.dr{N n:Nat}{l:Su.Ps}(h:Dw N n b0 S l):Dr N n S l:=by
 obtain⟨h1,h2,h3,es,h4,h5,h6⟩:=h;exact⟨⟨h2,es,h4,h5⟩,h1⟩
def draw{S:jE}{N:Nat}{most:Int}(h:uI S b)(hN:1<=N)(hN':N<=20)(h0:1<=most)(h1:most<=100)(hb:b0<=S.length):∃(n:Nat) (S':jE) (l:Su.Ps),jW [.ref b,.int N,.int most] S=.ok (.ref n) S'/\Dw N n b0 S' l/\S.length<=n/\uI S' b/\Kp (·=b) S S':=by
 obtain⟨n,S',es,e1,s1,z1,ne,_,r1,_,ln,b1,k1⟩:=Kf h hN hN' h0 h1;exact⟨n,S',Su.sm es,e1,⟨λz=>ne (List.map_eq_nil_iff.mp z),z1,(),es,s1,rfl,λe he=>by have:=r1 e he;lia⟩,ln,b1,k1⟩
def DW{n N:Nat}{l k:Su.Ps}(h:Dr N n S l)(h':Dr M m S k)(hNM:N≠M)(hN:N<=1000)(hM:M<=1000):∃S',kO [.ref n,.ref m] S=.ok (.bl true) S'/\lX S S':=by
 obtain⟨⟨z,es,s,rfl⟩,ne⟩:=h;obtain⟨⟨z',fs,s',rfl⟩,ne'⟩:=h';exact Ge s s' (λe he=>nP (z.pm _ (lY rfl he))) (λe he=>nP (z'.pm _ (lY rfl he))) hNM hN hM (λw=>ne (by rw[w];rfl)) (λw=>ne' (by rw[w];rfl))
def uU{N w:Nat}(bS:uI S b)(h2:2<=N)(h5:N<6)(d0:Dw N n0 b0 S l0)(d1:Dw N n1 b0 S l1)(d2:Dw N n2 b0 S l2)(hw:jC S w=some [.ref n0,.ref n1,.ref n2])(wb:b0<=w)(hb:b<b0) :
  ∃y5 y6 S',(j5 (wV (zG (ug (eFn kL (jy (jI oh (jB 4) (eC (.int 0))) (jy (jI oh (jB 4) (eC (.int 1))) (jy (jI oh (jB 4) (eC (.int 2))) (jF)))))))
 (lE (eC (.bl false)))
 (oH))
 (j5 (kD (mZ (jy (oz (jy (jZ (f1 nX) (jy (jZ (f2 rE) (jy (eC (.int 1)) (jy (jI lg (jB 3) (eC (.int 1))) (jF)))) (jF))) (jy (mZ (jy (oz (jy (eC (.int 0)) (jy (eC (.int 1)) (jF)))) (jF))) (jF)))) (jF))) (kQ 5))
 (j5 (wV (WE (xr (jI (sf true) (lQ jS (jy (jI oh (jB 4) (eC (.int 0))) (jy (jB 5) (jF)))) (jI oh (jB 4) (eC (.int 0))))) (xr (jI (sf true) (lQ jS (jy (jB 5) (jy (jI oh (jB 4) (eC (.int 0))) (jF)))) (jI oh (jB 4) (eC (.int 0))))))
 (lE (eC (.bl false)))
 (oH))
 (j5 (wV (zG (ug (eFn j6 (jy (jB 3) (jy (jI lg (eC (.int 1)) (eFn jP (jy (jB 2) (jy (jI aSub (jB 3) (eC (.int 1))) (jF))))) (jy (jI lg (eC (.int 1)) (eFn jP (jy (jB 2) (jy (jI aSub (jB 3) (eC (.int 1))) (jF))))) (jF)))))))
 (lE (eC (.bl false)))
 (oH))
 (j5 (kD (eFn jW (jy (jB 2) (jy (jI lg (eC (.int 2)) (jI ym (jI aSub (jB 3) (eC (.int 1))) (eC (.int 4)))) (jy (eC (.int 2)) (jF))))) (kQ 6))
 (wV (WE (zG (ug (eFn kO (jy (jI oh (jB 4) (eC (.int 0))) (jy (jB 6) (jF)))))) (zG (ug (eFn kO (jy (jB 6) (jy (jI oh (jB 4) (eC (.int 0))) (jF)))))))
 (lE (eC (.bl false)))
 (oH))))))) [x0,x1,.ref b,.int N,.ref w,x5,x6] S=.nx [x0,x1,.ref b,.int N,.ref w,y5,y6] S':=by
 have B0:3 ^ 25 * 10 ^ 20<big:=uB ∅;have i0:rA ([.ref n0,.ref n1,.ref n2]:ae) 0=some (.ref n0):=rfl;have i1:rA ([.ref n0,.ref n1,.ref n2]:ae) 1=some (.ref n1):=rfl;have i2:rA ([.ref n0,.ref n1,.ref n2]:ae) 2=some (.ref n2):=rfl;obtain⟨S1,e1,k1⟩:=GH h5 () d0.dr.sn d1.dr.sn d2.dr.sn;obtain⟨S2,hS2⟩:∃S2,S2=S1++[O.lst [.tup [.int 0,.int 1]]]++[O.lst [.tup [.tup ((rg N).map .int),.ref S1.length]]]:=⟨_,rfl⟩;have k2:lX S1 S2:=by rw[hS2];exact Kp.refl.lay.lay
 have p2:Sn N 60 (10 ^ 20) S2 (S1.length+1) (He.one N):=by rw[hS2];exact Cs (.refl _)
 have k02:=k1.trans k2;have D0:=d0.kp (b:=b) k02.of0 hb;have w0:jC S1 w=some [.ref n0,.ref n1,.ref n2]:=k1.lst _ _ (λz=>z) hw;have w2:jC S2 w=some [.ref n0,.ref n1,.ref n2]:=k2.lst _ _ (λz=>z) w0;obtain⟨L3,S3,e3,s3,k3⟩:=D0.dr.sn.prod p2 h5 () ⋯ B0 B0;have q3:sf true (.ref L3) (.ref n0) S3=.ok (.bl false) S3:=CL (s3.eq (D0.dr.sn.kp k3) (He.Pk d0.dr.sn.1.cn d0.dr.sn.1.pm));have w3:=k3.lst _ _ (λz=>z) w2;obtain⟨L4,S4,e4,s4,k4⟩:=(p2.kp k3).prod (D0.dr.sn.kp k3) h5 () ⋯ B0 B0;have q4:sf true (.ref L4) (.ref n0) S4=.ok (.bl false) S4:=CL (s4.eq (D0.dr.sn.kp (k3.trans k4)) (He.LN d0.dr.sn.1.cn d0.dr.sn.1.pm));have w4:=k4.lst _ _ (λz=>z) w3;have k04:=k02.trans (k3.trans k4);obtain⟨j,S5,e5,j0,j1,b5,k5⟩:=digit (S:=S4) (m:=(N:Int)-1) (bS.kp k04 λz=>z) () ();obtain⟨k,S6,e6,g0,g1,b6,k6⟩:=digit (S:=S5) (m:=(N:Int)-1) b5 () ();obtain⟨j',hj⟩:∃j':Nat,(j':Int)=1+j:=⟨(1+j).toNat,()⟩;obtain⟨k',hk⟩:∃k':Nat,(k':Int)=1+k:=⟨(1+k).toNat,()⟩;obtain⟨S7,e7,k7⟩:=BY (N:=N) (j:=j') (k:=k') (S:=S6) h5 () () () ();obtain⟨M,hM⟩:∃M:Nat,(M:Int)=2+((N:Int)-1) % 4:=⟨(2+((N:Int)-1) % 4).toNat,()⟩;have k47:Kp (·=b) S4 S7:=(k5.trans k6).trans k7.of0;have k07:Kp (·=b) S S7:=k04.of0.trans k47;have sl:=k07.len;have wl:=nW hw;obtain⟨n8,S8,l8,e8,D8,ln8,b8,k8⟩:=draw (S:=S7) (b:=b) (N:=M) (b0:=b0) (most:=2) (b6.kp k7 λz=>z) () () ⋯ ⋯ ();have k08:=k07.trans k8;have D0':=d0.kp k08 hb;have w8:jC S8 w=some [.ref n0,.ref n1,.ref n2]:=k08.lst _ _ () hw;obtain⟨S9,e9,k9⟩:=DW D0'.dr D8.dr (show N≠M by lia) () ();obtain⟨S10,e10,k10⟩:=DW (D8.dr.kp k9) (D0'.dr.kp k9) (show M≠N by lia) () ();have w9:=k9.lst _ _ (λz=>z) w8;refine⟨.ref (S1.length+1),.ref n8,S10,?_⟩;dsimp[kC,sd,bools,hw,i0,i1,i2,e1,cU,Vh (show N<=1000 by lia),mw (show 2<=sizeLine by decide),aR,bV,bC,cC,Nat.reduceAdd];rw[<- hS2];dsimp[kC,sd,bools,w2,i0,e3,w3,q3,e4,w4,q4,e5,e6,<- hj,<- hk,e7,cU,A5 (show(0:Int)<4 by decide),<- hM,e8,w8,e9,w9,e10]
def Bt{s:Src}{g:Tg}{e:Ex}{k:Nat}{x:A}(h:s.get i S=some x)(hg:g x τ S=.ok τ1 S)(he:e τ1 S=.ok y S3):lJ s g qb e (k+1) i τ S=(lJ s g qb e k (i+1) τ1 S3).p7 λys S4=>.ok (y::ys) S4:=by
 conv=>lhs;unfold lJ
 rw[h,kJ,hg,R.ki];show(R.p7 (.ok true S) _)=_;rw[R.ki];show(e τ1 S).p7 _=_;rw[he,R.ki]
def Wl{s:Src}{g:Tg}{e:Ex}(h:s.fin S=true):lJ s g qb e 0 i τ S=.ok [] S:=by
 unfold lJ;rw[aK h]
def at8{y d:Int}{xs:ag}(h0:0<=d)(h1:d<8)(hx:xs.length=8)(hm:∀x∈xs,2<=x/\x<=5):∃v:Int,rA (xs.map A.int) d=some (.int v)/\2<=v/\v<=5:=by
 have hd:d.toNat<xs.length:=()
 exact⟨xs[d.toNat],BX (k:=d.toNat) () (aG hd),hm _ (dI hd)⟩
def WR(ns:ag)(hl:ns.length<=63):∃S',Az [.frz (ns.map .int)] []=.ok (.bl true) S':=by
 unfold Az Nn OP;dsimp[kC,bools,mG,Nat.reduceAdd,Nat.reduceSub];refine CO (lo:=0) (hi:=if (if 2<(ns.length:Int)then 2 else(ns.length:Int))>1 then(if 2<(ns.length:Int)then 2 else(ns.length:Int))else 1) (S1:=[]) (show GP _ _=_ from vA (by dsimp[kC,bools,aH]) (wB (by split<;>split<;>lia) (by split<;>split<;>lia)))
  (λ_ τ _=>∃a1 a2 a3 a4 a5 a6:A,τ=[.frz (ns.map .int),a1,a2,a3,a4,a5,a6]) (λr=>∃S',RS.end (RS.seq r _)=.ok (.bl true) S') ⟨_,_,_,_,_,_,rfl⟩ ?_ ?_
 ·rintro i τ S hi ⟨a1,a2,a3,a4,a5,a6,rfl⟩;left;have hi2:(i:Int)<2:=by split at hi<;>split at hi<;>lia
  obtain⟨S1,e1,b1,kp1⟩:=Sf (S:=S) (ns:=ns) (k:=0+(i:Int)) () ();obtain⟨S2,hS2⟩:∃S2,S2=S1++[O.lst (([2,3,3,4,4,4,4,5]:ag).map .int)]++[O.lst (([2,3,3,3,2,3,3,3]:ag).map .int)]++[O.lst [.ref S1.length,.ref (S1.length+1)]]:=⟨_,rfl⟩;have k2:lX S1 S2:=by rw[hS2];exact Kp.refl.lay.lay.lay
  have la:jC S2 S1.length=some (([2,3,3,4,4,4,4,5]:ag).map .int):=by rw[hS2];exact kN (kN jQ)
  have lb:jC S2 (S1.length+1)=some (([2,3,3,3,2,3,3,3]:ag).map .int):=by
   have:=jQ (S:=S1++[O.lst (([2,3,3,4,4,4,4,5]:ag).map .int)]) (xs:=([2,3,3,3,2,3,3,3]:ag).map .int);rw[aR,bV]at this;rw[hS2];exact kN this
  have lc:jC S2 (S1.length+2)=some [.ref S1.length,.ref (S1.length+1)]:=by
   have:=jQ (S:=S1++[O.lst (([2,3,3,4,4,4,4,5]:ag).map .int)]++[O.lst (([2,3,3,3,2,3,3,3]:ag).map .int)]) (xs:=[.ref S1.length,.ref (S1.length+1)]);rw[aR,aR,bV,bV]at this;rw[hS2];exact this
  obtain⟨r,xs,hr1,hr2,hr3,hr4,hr5⟩:∃(r:Nat) (xs:ag),rA ([.ref S1.length,.ref (S1.length+1)]:ae) (if decide ((0:Int)<0+(i:Int))=true then 1 else 0)=some (.ref r)/\jC S2 r=some (xs.map .int)/\xs.length=8/\(∀x∈xs,2<=x/\x<=5)/\S1.length<=r:=by
   by_cases c:(0:Int)<0+(i:Int)
   ·rw[bg c];exact⟨S1.length+1,_,rfl,lb,rfl,by decide,()⟩
   ·rw[bh c];exact⟨S1.length,_,rfl,la,rfl,by decide,()⟩
  have bl:=b1.lt;obtain⟨d,S3,e3,d0,d1,b3,k3⟩:=digit (S:=S2) (m:=8) (b1.kp k2 λz=>z) ⋯ ⋯;have lr:jC S3 r=some (xs.map .int):=k3.lst _ _ () hr2;obtain⟨v,hv,v2,v5⟩:=at8 (y:=0) d0 d1 hr3 hr4;obtain⟨N,hN⟩:∃N:Nat,(N:Int)=v:=⟨v.toNat,()⟩;have hm4:∀T:jE,newL [.int 6,.int 6,.int 2,.int 2] T=.ok (.ref T.length) (T++[.lst [.int 6,.int 6,.int 2,.int 2]]):=λT=>kY (show 4<=16777216 by decide);obtain⟨mo,hmo,hmo'⟩:=Z5 (x0:=6) (x1:=6) (x2:=2) (x3:=2) (d:=(N:Int)-2) () ();have sl3:=(k2.of0.trans k3).len;have comp:∃(S':jE) (n0 n1 n2:Nat) (l0 l1 l2:Su.Ps),kZ [none,some 2,some 3] (uv (eC (.int 3))) (kQ 0) (qb) (eFn jW (jy (jB 1) (jy (jB 2) (jy (jI oh (mZ (jy (eC (.int 6)) (jy (eC (.int 6)) (jy (eC (.int 2)) (jy (eC (.int 2)) (jF)))))) (jI aSub (jB 2) (eC (.int 2)))) (jF))))) [.frz (ns.map .int),.int (0+(i:Int)),.ref S.length,.int N,a4,a5,a6] S3=.ok (.ref S'.length) (S'++[.lst [.ref n0,.ref n1,.ref n2]])/\Dw N n0 S1.length S' l0/\Dw N n1 S1.length S' l1/\Dw N n2 S1.length S' l2/\S1.length<=S'.length/\uI S' S.length:=by
   have st:∀(T:jE) (y:A),uI T S.length->S1.length<=T.length->∃(n:Nat) (T':jE) (l:Su.Ps),eFn jW (jy (jB 1) (jy (jB 2) (jy (jI oh (mZ (jy (eC (.int 6)) (jy (eC (.int 6)) (jy (eC (.int 2)) (jy (eC (.int 2)) (jF)))))) (jI aSub (jB 2) (eC (.int 2)))) (jF)))) [y,.ref S.length,.int N] T=.ok (.ref n) T'/\Dw N n S1.length T' l/\uI T' S.length/\Kp (·=S.length) T T':=λT y bT lT=>by
    have k0:lX T (T++[.lst [.int 6,.int 6,.int 2,.int 2]]):=Kp.refl.lay;obtain⟨n,T',l,e,D,ln,bT',kT'⟩:=draw (S:=T++[.lst [.int 6,.int 6,.int 2,.int 2]]) (b:=S.length) (N:=N) (b0:=S1.length) (most:=mo) (bT.kp k0 λz=>z) () () () () (by rw[aR];lia);exact⟨n,T',l,by dsimp[kC,bools,hmo,e],D,bT',k0.of0.trans kT'⟩
   obtain⟨n0,T0,l0,x0,D0,B0,K0⟩:=st S3 (.int 0) b3 sl3;obtain⟨n1,T1,l1,x1,D1,B1,K1⟩:=st T0 (.int 1) B0 (bJ sl3 K0.len);obtain⟨n2,T2,l2,x2,D2,B2,K2⟩:=st T1 (.int 2) B1 (bJ (bJ sl3 K0.len) K1.len);refine⟨T2,n0,n1,n2,l0,l1,l2,?_,(D0.kp K1 bl).kp K2 bl,D1.kp K2 bl,D2,by have:=K0.len;have:=K1.len;have:=K2.len;lia,B2⟩;unfold kZ;rw[vA (j:=3) (S1:=S3) rfl (wB ⋯ ⋯),R.nH];show(lJ (qL 0 3) (kQ 0) qb _ 3 0 [.unb,.ref S.length,.int N] S3).p7 _=_;have g:∀(t:Nat) (h:t<3) (T:jE),(qL 0 3).get t T=some (.int (0+(t:Int))):=λt h T=>aK h;have gn:∀(y z:A) (T:jE),kQ 0 y [z,.ref S.length,.int N] T=.ok [y,.ref S.length,.int N] T:=λ_ _ _=>rfl;have by1:∀(τ:ae) (T:jE),qb τ T=.ok true T:=λ_ _=>rfl;rw[Bt (g 0 ⋯ S3) (gn _ _ S3) (by rw[show(0:Int)+((0:Nat):Int)=0 from rfl];exact x0),Bt (g (0+1) ⋯ T0) (gn _ _ T0) (by rw[show(0:Int)+((0+1:Nat):Int)=1 from rfl];exact x1),Bt (g (0+1+1) ⋯ T1) (gn _ _ T1) (by rw[show(0:Int)+((0+1+1:Nat):Int)=2 from rfl];exact x2),Wl rfl,R.ki,R.ki,R.ki,R.ki];exact kY (show 3<=16777216 by decide)
  obtain⟨S4,n0,n1,n2,l0,l1,l2,e4,D0,D1,D2,ln4,b4⟩:=comp;have k5:lX S4 (S4++[.lst [.ref n0,.ref n1,.ref n2]]):=Kp.refl.lay;unfold Jk;dsimp[kC,bools,e1,aR,bV,Nat.reduceAdd];rw[show S1++[O.lst [A.int 2,.int 3,.int 3,.int 4,.int 4,.int 4,.int 4,.int 5]]++[O.lst [A.int 2,.int 3,.int 3,.int 3,.int 2,.int 3,.int 3,.int 3]]++[O.lst [A.ref S1.length,.ref (S1.length+1)]]=S2 from hS2.symm];dsimp[kC,bools,lc,hr1,e3,lr,hv,<- hN,e4];by_cases c:(3:Int)<(N:Int)
  ·have k50:=k5.of0 (b:=(·=S.length));obtain⟨m0,S5,f0,x5,F0,q5,b5,k6⟩:=draw (S:=S4++[.lst [.ref n0,.ref n1,.ref n2]]) (b:=S.length) (N:=N) (b0:=S1.length) (most:=6-(N:Int)) (b4.kp k5 λz=>z) () () () () (by rw[aR];lia);have l5:=k6.len;rw[aR]at l5;obtain⟨m1,S6,f1,x6,F1,q6,b6,k7⟩:=draw (S:=S5) (b:=S.length) (N:=N) (b0:=S1.length) (most:=1) b5 () () () () ();obtain⟨o,S7,x7,po,b7,k8⟩:=QG (N:=N) b6 () ();have l7:=(k7.trans k8).len;obtain⟨S8,hS8⟩:∃S8,S8=S7++[O.lst [.tup [.int 0,.int 1]]]++[O.lst [.tup [.tup (o.map .int),.ref S7.length]]]:=⟨_,rfl⟩;have k9:lX S7 S8:=by rw[hS8];exact Kp.refl.lay.lay
   have F2:Dw N (S7.length+1) S1.length S8 [(o,[((0:Int),(1:Int))])]:=by
    have z:Sn N 60 (10 ^ 20) S8 (S7.length+1) [(o,[((0:Int),(1:Int))])]:=by rw[hS8];exact Cs po
    have:=jQ (S:=S7++[O.lst [.tup [.int 0,.int 1]]]) (xs:=[.tup [.tup (o.map .int),.ref S7.length]]);rw[aR,bV]at this;refine⟨by simp,z.1,(),[(o,S7.length,[((0:Int),(1:Int))])],⟨by rw[hS8];exact this,λe he=>?_⟩,rfl,λe he=>?_⟩
    ·rw[aV.mp he,hS8];exact kN jQ
    ·rw[aV.mp he];show S1.length<=S7.length;lia
   have k10:lX S8 (S8++[O.lst [.ref m0,.ref m1,.ref (S7.length+1)]]):=Kp.refl.lay;have l8:=k9.len;obtain⟨y5,y6,S9,x9⟩:=uU (x0:=.frz (ns.map .int)) (x1:=.int (0+(i:Int))) (x5:=a5) (x6:=a6) (w:=S8.length) (b7.kp (k9.trans k10) λz=>z) () () ((((F0.kp k7 bl).kp k8 bl).kp (k9.of0 (b:=(·=S.length))) bl).kp (k10.of0 (b:=(·=S.length))) bl) (((F1.kp k8 bl).kp (k9.of0 (b:=(·=S.length))) bl).kp (k10.of0 (b:=(·=S.length))) bl) (F2.kp (k10.of0 (b:=(·=S.length))) bl) jQ () bl;dsimp[kC,bools,bg c,x5,x6,x7,mw (show 2<=sizeLine by decide),aR,bV,bC,cC,Nat.reduceAdd];rw[<- hS8,show S7.length+1+1=S8.length by rw[hS8];simp];dsimp[kC,sd,bools];dsimp[kC,sd,bools]at x9;rw[x9];exact⟨_,_,rfl,_,_,_,_,_,_,rfl⟩
  ·obtain⟨y5,y6,S9,x9⟩:=uU (x0:=.frz (ns.map .int)) (x1:=.int (0+(i:Int))) (x5:=a5) (x6:=a6) (w:=S4.length) (b4.kp k5 λz=>z) () () (D0.kp (k5.of0 (b:=(·=S.length))) bl) (D1.kp (k5.of0 (b:=(·=S.length))) bl) (D2.kp (k5.of0 (b:=(·=S.length))) bl) jQ ln4 bl;dsimp[kC,bools,bh c];dsimp[kC,sd,bools]at x9;rw[x9];exact⟨_,_,rfl,_,_,_,_,_,_,rfl⟩
 ·rintro τ S ⟨a1,a2,a3,a4,a5,a6,rfl⟩;dsimp[kC,bools];exact⟨_,rfl⟩
end K29
namespace K29
open PySem L2 Am
def all_mk{l:PySem.W.OpenLaw}{w:ah}{K:au}{h:aq}{mg:Str->bd}{fa:ak}(X:K.In h)(G:h.Ns mainGlobals mg)(hfa:mg "law" = some (.ref fa))
  (a1:Df K "is_whole" uy)
  (a2:Df K "need_pair" sL)
  (a3:Df K "back" EZ)
  (a4:Df K "is_exchange" qK)
  (a5:Df K "exchanged_places" nu)
  (a6:Df K "exchanged" sC)
  (a7:Df K "falls" Cf)
  (a8:Df K "as_polynomial" oM)
  (a9:Df K "plus" E_)
  (a10:Df K "times" B7)
  (a11:Df K "put_before" r8)
  (a12:Df K "as_sum" yX)
  (a13:Df K "need_like" sP)
  (a14:Df K "added" CH)
  (a15:Df K "by_exchange" qO)
  (a16:Df K "by_order" rY)
  (a17:Df K "by_orders" sF)
  (a18:Df K "with_backs" rV)
  (a19:Df K "product" wN)
  (a20:Df K "_law_bag" wO)
  (a21:Df K "_law_digit" tD)
  (a22:Df K "_law_order" sY)
  (a23:Df K "_law_small_sum" oW)
  (a24:Df K "_law_is" zb)
  (a25:Df K "_law_near" uC)
  (a26:Df K "_law_grouped_right" mS)
  (a27:Df K "_law_exchanges_right" mq)
  (a28:Df K "_law_refused" qJ)
  (a29:Df K "law" P1)
  (abG:PySem.W.nsIn K mainGlobals "isinstance" = some none)
  (abH:PySem.W.nsIn K mainGlobals "bool" = some none)
  (abI:PySem.W.nsIn K mainGlobals "int" = some none)
  (abJ:PySem.W.nsIn K mainGlobals "len" = some none)
  (abK:PySem.W.nsIn K mainGlobals "enumerate" = some none)
  (abL:PySem.W.nsIn K mainGlobals "tuple" = some none)
  (abM:PySem.W.nsIn K mainGlobals "list" = some none)
  (abN:PySem.W.nsIn K mainGlobals "range" = some none)
  (abO:PySem.W.nsIn K mainGlobals "sorted" = some none)
  (abP:PySem.W.nsIn K mainGlobals "dict" = some none)
  (abQ:PySem.W.nsIn K mainGlobals "ValueError" = some none)
  (abR:PySem.W.nsIn K mainGlobals "abs" = some none)
  (abS:PySem.W.nsIn K mainGlobals "max" = some none)
  (abT:PySem.W.nsIn K mainGlobals "min" = some none)
  {a_AT_A_FALL:ak} (abU:PySem.W.nsIn K mainGlobals "AT_A_FALL" = some (some (.ref a_AT_A_FALL))) (kp_AT_A_FALL:XG K a_AT_A_FALL=some [((-1:Int),(1:Int)),((1:Int),(-1:Int))])
  {U C_NoPair C_NoWord C_TooMany C_NoNumber C_NoName C_NoRow C_NoText C_NoTables:ak} (u0:PySem.W.nsIn K mainGlobals "UnderError" = some (some (.ref U))) (u1:L2.mroIn K U=some V3)
  (aab:ExcK K U "NoPair" C_NoPair)
  (aam:ExcK K U "NoWord" C_NoWord)
  (n_TooMany:PySem.W.nsIn K mainGlobals "TooMany" = some (some (.ref C_TooMany)))
  (n_NoNumber:PySem.W.nsIn K mainGlobals "NoNumber" = some (some (.ref C_NoNumber)))
  (n_NoName:PySem.W.nsIn K mainGlobals "NoName" = some (some (.ref C_NoName)))
  (n_NoRow:PySem.W.nsIn K mainGlobals "NoRow" = some (some (.ref C_NoRow)))
  (n_NoText:PySem.W.nsIn K mainGlobals "NoText" = some (some (.ref C_NoText)))
  (n_NoTables:PySem.W.nsIn K mainGlobals "NoTables" = some (some (.ref C_NoTables)))
  (k_NoWord_TooMany:PySem.W.kitOne K (.ref C_NoWord) (.ref C_TooMany)=some false)
  (k_NoPair_TooMany:PySem.W.kitOne K (.ref C_NoPair) (.ref C_TooMany)=some false)
  (k_NoWord_NoPair:PySem.W.kitOne K (.ref C_NoWord) (.ref C_NoPair)=some false)
  (k_NoPair_NoPair:PySem.W.kitOne K (.ref C_NoPair) (.ref C_NoPair)=some true)
  (k_NoWord_NoNumber:PySem.W.kitOne K (.ref C_NoWord) (.ref C_NoNumber)=some false)
  (k_NoPair_NoNumber:PySem.W.kitOne K (.ref C_NoPair) (.ref C_NoNumber)=some false)
  (k_NoWord_NoWord:PySem.W.kitOne K (.ref C_NoWord) (.ref C_NoWord)=some true)
  (k_NoPair_NoWord:PySem.W.kitOne K (.ref C_NoPair) (.ref C_NoWord)=some false)
  (k_NoWord_NoName:PySem.W.kitOne K (.ref C_NoWord) (.ref C_NoName)=some false)
  (k_NoPair_NoName:PySem.W.kitOne K (.ref C_NoPair) (.ref C_NoName)=some false)
  (k_NoWord_NoRow:PySem.W.kitOne K (.ref C_NoWord) (.ref C_NoRow)=some false)
  (k_NoPair_NoRow:PySem.W.kitOne K (.ref C_NoPair) (.ref C_NoRow)=some false)
  (k_NoWord_NoText:PySem.W.kitOne K (.ref C_NoWord) (.ref C_NoText)=some false)
  (k_NoPair_NoText:PySem.W.kitOne K (.ref C_NoPair) (.ref C_NoText)=some false)
  (k_NoWord_NoTables:PySem.W.kitOne K (.ref C_NoWord) (.ref C_NoTables)=some false)
  (k_NoPair_NoTables:PySem.W.kitOne K (.ref C_NoPair) (.ref C_NoTables)=some false)
  : ∃fd:FuncData,(∀(s:aA) (v:af),BindsTo s fd ⟨[v],[]⟩ [("_law_script",v)])/\∀base:aq,K.In base->base.Ns mainGlobals mg->FnOk l.prog w K mg base t_ 35 fa fd ["_law_script"] (uz K 1 Az):=by
 obtain⟨f,fd,a,F⟩:=a29;have e:=hfa.symm.trans (cX X G a)
 cases e
 have abn:=cX X G n_TooMany;have abo:=cX X G aab.n;have abp:=cX X G n_NoNumber;have abq:=cX X G aam.n;have abr:=cX X G n_NoName;have abt:=cX X G n_NoRow;have abu:=cX X G n_NoText;have abv:=cX X G n_NoTables;have aaK:=b9 X G abG;have abc:=b9 X G abH;have aa4:=b9 X G abI;have aao:=b9 X G abJ;have abd:=b9 X G abK;have aaI:=b9 X G abL;have aaM:=b9 X G abM;have aaB:=b9 X G abN;have aaN:=b9 X G abO;have abh:=b9 X G abP;have abw:=b9 X G abQ;have abx:=b9 X G abR;have abz:=b9 X G abS;have abA:=b9 X G abT;have h_AT_A_FALL:∃a,mg "AT_A_FALL" = some (.ref a)/\XG K a=some [((-1:Int),(1:Int)),((1:Int),(-1:Int))]:=⟨a_AT_A_FALL,cX X G abU,kp_AT_A_FALL⟩;refine⟨fd,λs v=>(by obtain⟨_,_,_,_,_,_,_,_,_,rfl,_,_⟩:=F.ex;exact .of_eq rfl),λbase _ _=>?_⟩;have E:En l.prog w K mg base:=⟨h,X,G⟩;have abe:=a1.kA E (λF=>DP F aaK abc aa4) (Xj λ_ _ _ _ _ _ _=>rfl);have abj:=a2.kX E (λF=>BL F aab aao) (Dl λ_ _ _ _ _ _ _ _=>rfl);have abl:=a3.kA E (λF=>RI F aao abd aaI) (Xj λ_ _ _ _ _ _ _=>rfl);have abf:=a4.kA E (λF=>zq F abe) (Dl λ_ _ _ _ _ _ _ _=>rfl);have abg:=a5.kA E (λF=>uh F aaM aaI) (XT λ_ _ _ _ _ _ _ _ _=>rfl);have aaZ:=a6.kX E (λF=>B5 F aam aao abf abg) (Dl λ_ _ _ _ _ _ _ _=>rfl);have aa3:=a7.kA E (λF=>LQ F aaB aao) (Xj λ_ _ _ _ _ _ _=>rfl);have aa5:=a8.kA E (λF=>wG F aaN) (Xj λ_ _ _ _ _ _ _=>rfl);have abi:=a9.kA E (λF=>QN F abh aa5) (Dl λ_ _ _ _ _ _ _ _=>rfl);have aa7:=a10.kA E (λF=>PC F aa5) (Dl λ_ _ _ _ _ _ _ _=>rfl);have aaP:=a11.kA E (λF=>zT F abi) (XT λ_ _ _ _ _ _ _ _ _=>rfl);have aaV:=a12.kA E (λF=>Li F aaN) (Xj λ_ _ _ _ _ _ _=>rfl);have aa6:=a13.kX E (λF=>Bu F abj) (Dl λ_ _ _ _ _ _ _ _=>rfl);have aa8:=a14.kX E (λF=>Lq F aa6 aaP aaV) (Dl λ_ _ _ _ _ _ _ _=>rfl);have aaU:=a15.kX E (λF=>zN F aaM h_AT_A_FALL aaP aaZ aa3 aa7 aaV) (Dl λ_ _ _ _ _ _ _ _=>rfl);have abk:=a16.rX E (λF hm hk hb=>vq F aa3 aaZ aaU hm hk hb 26) (XT λ_ _ _ _ _ _ _ _ _=>rfl);have aba:=a17.kX E (λF=>B4 F abk aaP aa7 aaV) (Dl λ_ _ _ _ _ _ _ _=>rfl);have aa_:=a18.kA E (λF=>Ag F aaN abl) (Xj λ_ _ _ _ _ _ _=>rfl);have aax:=a19.kX E (λF=>FW F aao aa6 aba aa_) (Dl λ_ _ _ _ _ _ _ _=>rfl);have abB:=a20.kA E (λF=>Gv F aao) (Dl λ_ _ _ _ _ _ _ _=>rfl);have aaC:=a21.kA E (λF=>BA F) (Dl λ_ _ _ _ _ _ _ _=>rfl);have abm:=a22.kA E (λF=>BE F aaM aaB aao aaI aaC) (Dl λ_ _ _ _ _ _ _ _=>rfl);have aa9:=a23.kA E (λF=>wM F aaB aaN aaC abm) (XT λ_ _ _ _ _ _ _ _ _=>rfl);have aby:=a24.kH E (λF=>K7 F aam aab abn abo abp abq abr abt abu abv k_NoWord_TooMany k_NoPair_TooMany k_NoWord_NoPair k_NoPair_NoPair k_NoWord_NoNumber k_NoPair_NoNumber k_NoWord_NoWord k_NoPair_NoWord k_NoWord_NoName k_NoPair_NoName k_NoWord_NoRow k_NoPair_NoRow k_NoWord_NoText k_NoPair_NoText k_NoWord_NoTables k_NoPair_NoTables aaK abw) (Dl λ_ _ _ _ _ _ _ _=>rfl);have abC:=a25.kA E (λF=>C8 F aaM aaB aaI aaC) (Dl λ_ _ _ _ _ _ _ _=>rfl);have abD:=a26.kA E (λF=>sD F aax aa8) (XT λ_ _ _ _ _ _ _ _ _=>rfl);have abE:=a27.kA E (λF=>rK F aaI aaB abx aaU aax) (XT λ_ _ _ _ _ _ _ _ _=>rfl);have abb:=a28.kA E (λF=>yS F u0 u1 aam aab aax aby) (Dl λ_ _ _ _ _ _ _ _=>rfl);exact Xg F aaB abz abA aao aa4 aaI abB aaC aa9 abC abD aax abE abb
def walk{l:PySem.W.OpenLaw}{q:aj}{XP:(Str->bd)->aq->Prop}{YP:ah->aq->Prop}{d:DefRec}{K:Params->au}(hn:l.most=some 63)(hdf:d.params.defaults=[])
  (hY:∀(w:ah) (h:aq),YP w h->(K w.params).In h)
  (F:∀(w:ah) (mg:Str->bd) (fa:ak) (h:aq),(K w.params).In h->h.Ns mainGlobals mg->mg d.name=some (.ref fa) ->
   ∃fd:FuncData,(∀(s:aA) (u:af),BindsTo s fd ⟨[u],[]⟩ [("_law_script",u)])/\∀base:aq,(K w.params).In base->base.Ns mainGlobals mg->FnOk l.prog w (K w.params) mg base t_ 35 fa fd ["_law_script"] (uz (K w.params) 1 Az)) :
  PySem.W.WalkO q loose XP YP l.row.toRowW d [] (λf vs=>PySem.call f vs):=
 L2.RB (n:=63) (k:=35) (x := "_law_script") (CX:=λ_=>t_) (sp:=λw=>uz (K w.params) 1 Az) hn ⋯ hdf ⟨rfl,by decide,by decide⟩ hY F (λ_ H a ns hl hO hS=>KS hO hS (WR ns hl)) λ_ _ _ _ _ z=>z
end K29
open PySem PySem.W PyProof.Rows
namespace PySem.W.Fast
def tw17371059550492637325:=Nat
def tw12805558129615773583:=Nat
def tw8234713531632821455:=Nat
def tw14241098205783590259:=Nat
def tw11538953217587043044:=Nat
def tw14220937943028847166:=Nat
def tw15830728400337941902:=Nat
def tw1869480106047061662:=Nat
def tw15045377550266624342:=Nat
def tw6307785692341296841:=Nat
def tw4195972175877151548:=Nat
def tw16201502406891977237:=Nat
def tw10805008165551612005:=Nat
def tw6517531320268461977:=Nat
def tw7061558288555502388:=Nat
def tw17962730701711171319:=Nat
def tw5010646680851750772:=Nat
def tw10013825418040963248:=Nat
def tw15491162774583401195:=Nat
def tw17057513923707058327:=Nat
def tw8406335762677014240:=Nat
def tw13560462759985888482:=Nat
def tw17708551713589227311:=Nat
def tw10216553078744999287:=Nat
def tw3384830836589443248:=Nat
def tw4173877573248637584:=Nat
def tw8044686364070432499:=Nat
def tw9814735233622061130:=Nat
def tw6151684303636841004:=Nat
def tw10435314237936911946:=Nat
def tw9581148729509019502:=Nat
def tw8872704779258543754:=Nat
def tw13183260010127166678:=Nat
def tw46611777093345933:=Nat
def tw10236090361942416848:=Nat
def tw17491855499500168683:=Nat
def tw6026250428606686756:=Nat
def tw16626482347691504892:=Nat
def tw2773575272964840625:=Nat
def tw2291466546011498257:=Nat
def tw9810350541091545077:=Nat
def tw15808058858854902270:=Nat
def tw206123874092608740:=Nat
def tw757614192496548719:=Nat
def tw6637351008348345335:=Nat
def tw7685438036619734488:=Nat
def tw11765677043718919358:=Nat
def tw4466957302483479024:=Nat
def tw3364681926235005356:=Nat
def tw9923249431497767225:=Nat
def tw8499363143264061764:=Nat
def tw17929016290175889158:=Nat
def tw8690406538766873671:=Nat
def tw12110431628180630015:=Nat
def tw16251390009578762537:=Nat
def tw13531027673905621104:=Nat
def tw13148779418370172372:=Nat
def tw10760510317200808420:=Nat
def tw15754895159314888578:=Nat
def tw12801590001897775852:=Nat
def tw13728667902379907312:=Nat
def tw7874674016725626204:=Nat
def tw6976346693130360991:=Nat
def tw11167180725425412678:=Nat
def tw3617293652072978676:=Nat
def tw8612481339020636120:=Nat
def tw1128257401610032078:=Nat
def tw233393090847418095:=Nat
def tw12950790735424684330:=Nat
def tw6567532205857263851:=Nat
def tw5317603831279105263:=Nat
def tw1707275919310295799:=Nat
def tw15238066588616693872:=Nat
def tw12375957685584193673:=Nat
def tw14124033731139119463:=Nat
def tw4295557798544669914:=Nat
def tw5874751389137212671:=Nat
def tw1786418304354548131:=Nat
def tw14884409982194263742:=Nat
def tw4645520637542281309:=Nat
def tw17535032251667422884:=Nat
def tw9341880166614955409:=Nat
def tw6425449123659997364:=Nat
def tw9224828456958297177:=Nat
def tw3650217162624894061:=Nat
def tw14429579748581856178:=Nat
def tw14752576478141744463:=Nat
def tw15949030724102610081:=Nat
def tw11004163181684555559:=Nat
def tw16478824412032480979:=Nat
def tw5477117594321283790:=Nat
def tw13979422590390915155:=Nat
def tw2783027455954235790:=Nat
def tw6553645144224280033:=Nat
def tw13041438078912604143:=Nat
def tw10699445969511158207:=Nat
def tw2709436579192435198:=Nat
def tw15799119964106281790:=Nat
def tw14095022084724805127:=Nat
def tw11947890336769151450:=Nat
def tw10590913442856254206:=Nat
def tw208377649805974851:=Nat
def tw601264257661501533:=Nat
def tw6279171146248390741:=Nat
def tw5476861608768103853:=Nat
def tw7917011184279102435:=Nat
def tw16949313575581383631:=Nat
def tw1868273128149172059:=Nat
def tw5353105502799172550:=Nat
def tw15735656643681677985:=Nat
def tw8873017013702825013:=Nat
def tw10252468469566824566:=Nat
def tw16569108289913406276:=Nat
def tw8308512276901902540:=Nat
def tw10115066696732671903:=Nat
def tw12042592779528939132:=Nat
def tw4895024940201890005:=Nat
def tw14041328228190684462:=Nat
def tw15456516309972063200:=Nat
def tw9436490809981334850:=Nat
def tw5826446237076849924:=Nat
def tw11472810891151003680:=Nat
def tw11672565521372270329:=Nat
def tw10241731192504935024:=Nat
def tw13403931743432791862:=Nat
def tw7222129043829828272:=Nat
def tw9413670180779310128:=Nat
def tw17925535845792280867:=Nat
def tw12405774873750925319:=Nat
def tw6945535968851726192:=Nat
def tw3828311604087745505:=Nat
def tw12716902973466541895:=Nat
def tw3943351470751768751:=Nat
def tw13055798575854797605:=Nat
def tw16104198727284040590:=Nat
def tw3047849600208759851:=Nat
def tw4252739159810070656:=Nat
def tw3724342819531079722:=Nat
def tw8630758699904471644:=Nat
def tw7773442399186239669:=Nat
end PySem.W.Fast
set_option maxRecDepth 100000 in
set_option maxHeartbeats 0 in
theorem PySem.Challenge.cw_undercells_k29_products_grouped_holds : PySem.Challenge.rw_undercells_k29_products_grouped.Holds := by
 w_on;o_law;k_head;(case hw=>w_witness2)
 k_fill
 refine K29.walk (l:=PySem.Challenge.rw_undercells_k29_products_grouped) rfl rfl (fun w h Y=>PySem.W.kIn_of Y) ?F
 case F=>
  intro w mg fa h KX G hmg;refine' K29.all_mk KX G hmg (.of ?_ ?_ ?_ ?_) (.of ?_ ?_ ?_ ?_) (.of ?_ ?_ ?_ ?_) (.of ?_ ?_ ?_ ?_) (.of ?_ ?_ ?_ ?_) (.of ?_ ?_ ?_ ?_) (.of ?_ ?_ ?_ ?_) (.of ?_ ?_ ?_ ?_) (.of ?_ ?_ ?_ ?_) (.of ?_ ?_ ?_ ?_) (.of ?_ ?_ ?_ ?_) (.of ?_ ?_ ?_ ?_) (.of ?_ ?_ ?_ ?_) (.of ?_ ?_ ?_ ?_) (.of ?_ ?_ ?_ ?_) (.of ?_ ?_ ?_ ?_) (.of ?_ ?_ ?_ ?_) (.of ?_ ?_ ?_ ?_) (.of ?_ ?_ ?_ ?_) (.of ?_ ?_ ?_ ?_) (.of ?_ ?_ ?_ ?_) (.of ?_ ?_ ?_ ?_) (.of ?_ ?_ ?_ ?_) (.of ?_ ?_ ?_ ?_) (.of ?_ ?_ ?_ ?_) (.of ?_ ?_ ?_ ?_) (.of ?_ ?_ ?_ ?_) (.of ?_ ?_ ?_ ?_) (.of ?_ ?_ ?_ ?_) ?_ ?_ ?_ ?_ ?_ ?_ ?_ ?_ ?_ ?_ ?_ ?_ ?_ ?_ ?_ ?_ ?_ ?_ ⟨(show nsIn _ _ _=_ from ?_),?_,?_,⟨?_,?_,?_,?_,?_⟩,?_,?_⟩ ⟨(show nsIn _ _ _=_ from ?_),?_,?_,⟨?_,?_,?_,?_,?_⟩,?_,?_⟩ ?_ ?_ ?_ ?_ ?_ ?_ ?_ ?_ ?_ ?_ ?_ ?_ ?_ ?_ ?_ ?_ ?_ ?_ ?_ ?_ ?_ ?_
  any_goals first|k_is|kernel_rfl
