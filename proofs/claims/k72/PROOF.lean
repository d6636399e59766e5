import PyProof.Rows.All
import Wide.All
import OpenK.AllK
import Wide.FinOn
import Lean
import PyProof.EqAt
import PyProof.EqKinds
import PyProof.TupleCall
import PySem.Challenge.RW_undercells_k72_hearths_refused
set_option autoImplicit true
set_option relaxedAutoImplicit true
set_option Elab.async false
set_option linter.all false
set_option maxRecDepth 100000
set_option compiler.extract_closed false
set_option maxHeartbeats 4000000
local macro_rules|`($a<|>$b)=>`(autoParam $a $b)
local macro_rules|`(command|abbrev $n:declId $s:optDeclSig $v:declVal)=>`(command|noncomputable def $n:declId $s:optDeclSig $v:declVal)|`(command|meta abbrev $n:declId $s:optDeclSig $v:declVal)=>`(command|@[reducible]noncomputable def $n:declId $s:optDeclSig $v:declVal)
local macro_rules|`(∅)=>`(by decide +kernel)
local macro_rules|`(⋯)=>`(by decide)
local macro_rules|`(tactic|dsimp[$l,*])=>`(tactic|simp only[$l,*])|`(tactic|dsimp[$l,*]$o:location)=>`(tactic|simp only[$l,*]$o:location)
local macro_rules(kind:=Lean.Parser.Term.structInst)|`({})=>`({cls:=.type "list",data:=.seq ([]:List PySem.Value).toArray})
set_option hygiene false
local macro_rules|`(tactic|z_go)=>`(tactic|obtain⟨ρ,S,τ,R,r,h⟩:=h9)
local macro_rules|`(tactic|x_go)=>`(tactic|intro X hP hw hK hc i pins s σ H E I hf st hg)
local macro_rules|`(tactic|w_up)=>`(tactic|obtain⟨ρ,S,a,b,R,va,vb,h⟩:=h9)
local macro_rules|`(tactic|fin2)=>`(tactic|intro pins s σ H xs us Q I r h)
local macro_rules|`(tactic|k_ne)=>`(tactic|refine⟨ρ,S,τ,R,r,jJ (jO h) .refl λo S1 h1 ρ1 H1 x e1 R1 v1=>⟨ρ1,S1,τ,R1,r.ext e1,jJ (jO h1) e1 λi S2 h2 ρ2 H2 y e2 R2 v2=>?_⟩⟩)
local macro_rules|`(tactic|kt_k)=>`(tactic|obtain⟨f0,f1,f2,f3,f4,f5⟩:=hf it (by simp))
local macro_rules|`(tactic|kd_p)=>`(tactic|obtain⟨w,rfl,ρ,S,x,R,hv,h⟩:=Mi h0)
local macro_rules|`(tactic|gn_on)=>`(tactic|intro pins s σ H Q I h)
local macro_rules|`(tactic|gp_on)=>`(tactic|refine⟨ρ2,S2,o,i,a,R2,v1.ext e2,v2,va.ext (e1.trans e2),jJ (jO h2) (e1.trans e2) λ_ S3 h3 ρ3 H3 e3 R3=>?_⟩)
local macro_rules|`(tactic|kj_on)=>`(tactic|exact Kp.refl.lay)
local macro_rules|`(tactic|kcf_m)=>`(tactic|obtain⟨xs,hn,h⟩:=jK h)
local macro_rules|`(tactic|kcj_m)=>`(tactic|obtain⟨u,rfl,rx⟩:=vals1 r)
local macro_rules|`(tactic|kpc_g)=>`(tactic|intro pins s σ H x y v u Q I rx ry h)
local macro_rules|`(tactic|kpf_c)=>`(tactic|exact h3 ρ3 H3 σ ((e1.trans e2).trans e3) R3 (r.ext ((e1.trans e2).trans e3)))
local macro_rules|`(tactic|ksr_p)=>`(tactic|intro pins s σ H D I h)
local macro_rules|`(tactic|kst_p)=>`(tactic|have hfree:∀y∈scope.names,y.2=.free->∃c,X.env.cells.lookup y.1=some c:=λy hy e=>I.ok.has _ (S.fr y hy e))
local macro_rules|`(tactic|kln_w)=>`(tactic|obtain⟨kvs,hn,h⟩:=jK h)
local macro_rules|`(tactic|kl_no)=>`(tactic|obtain⟨ρ,S,τ,R,r,h⟩:=h)
local macro_rules|`(tactic|mg_lt)=>`(tactic|refine⟨ρ,S,τ,R,r,jJ (jO h) .refl λx S1 h1 ρ1 H1 v e1 R1 v1=>?_⟩)
local macro_rules|`(tactic|cb_eq)=>`(tactic|refine⟨R.nd,by simp,λa ha b hb e=>?_⟩)
set_option hygiene true
local macro_rules|`(())=>`(by lia)
@[reducible]def ag:=List Int
@[reducible]def am:=List Nat
@[reducible]def ar:=List PySem.Str
@[reducible]def ba:=List PySem.Value
@[reducible]def bb:=List PySem.Addr
@[reducible]def bd:=Option PySem.Value
@[reducible]def bi:=Option Bool
@[reducible]def bj:=Option Nat
@[reducible]def bo:=List<|PySem.Addr×PySem.Obj
def aG:=@PySem.wpAny_bind
def aH:=@List.length_map
def aI:=@List.getElem?_eq_getElem
def aJ:=@List.getElem?_eq_some_iff
def aK:=@List.getD_eq_getElem?_getD
def aL:=@Nat.le_refl
def aM:=@PySem.Heap.get?_push_of_some
def aN:=@PySem.wpAny_pure
def aO:=@List.forall_mem_cons
def aP:=@List.getElem?_map
def aQ:=@if_neg
def aR:=@List.mem_singleton
def aS:=@if_pos
def aV:=@List.mem_cons_self
def aW:=@Option.map_eq_some_iff
def aX:=@List.mem_cons_of_mem
def aY:=@List.size_toArray
def aZ:=@Option.some.inj
def a_:=@PySem.Heap.lt_size
def bf:=@List.mem_map
def bg:=@decide_eq_true
def bh:=@List.map_map
def bq:=@List.length_append
def br:=@List.getElem?_set_self
def bu:=@PySem.Heap.get?_push_size
def bw:=@List.mem_of_getElem?
def bz:=@List.getElem?_append_left
def bA:=@decide_eq_false
def bB:=@List.length_cons
def bC:=@Nat.ne_of_lt
def bD:=@List.map_append
def bE:=@List.mem_cons
def bF:=@Bool.false_ne_true
def bG:=@List.getElem?_set_ne
def bH:=@List.map_cons
def bI:=@List.mem_append_right
def bJ:=@List.mem_append
def bK:=@Bool.false_eq_true
def bL:=@Nat.zero_le
def bM:=@Nat.le_trans
def bN:=@Nat.lt_of_lt_of_le
def bO:=@List.append_nil
def bP:=@List.mem_iff_getElem
def bQ:=@List.length_range
def bR:=@List.take_add_one
def bS:=@PySem.W.mg_none_of
def bT:=@List.length_set
def bU:=@of_decide_eq_true
def bV:=@List.pairwise_cons
def bW:=@List.map_congr_left
def bX:=@List.take_length
def bY:=@Bool.not_true
def bZ:=@List.pairwise_iff_getElem
def b7:=@List.getElem_inj
def b8:=@List.length_take
def b9:=@List.find?_cons
def b_:=@Option.bind_eq_some_iff
def cg:=@List.mem_range
def cj:=@Nat.zero_add
def cu:=@beq_self_eq_true
def cz:=@PyProof.Rows.wpS_bind
def cA:=@Ne.symm
def cB:=@List.pairwise_map
def cC:=@PySem.wpAny_holding
def cD:=@PySem.mem_of_lookup
def cE:=@List.mem_filter
def cF:=@PySem.W.kia_one
def cG:=@PySem.Heap.size_push
def cH:=@List.pairwise_singleton
def cI:=@List.getElem_map
def cJ:=@List.append_assoc
def cK:=@PySem.wpAny_newObj_type
def cL:=@List.nodup_append
def cM:=@List.mem_append_left
def cN:=@PySem.F.slot_dict_keyiterator_next
def cO:=@Int.zero_add
def cP:=@List.nodup_cons
def cQ:=@List.nodup_nil
def cR:=@PySem.PassesOwn.never
def cT:=@List.lookup_cons
def cU:=@Bool.and_eq_true
def cV:=@PySem.wpAny_call_entry
def cW:=@PySem.W.mg_of
def cX:=@List.mem_map_of_mem
def cY:=@PySem.wpAny_mono
def cZ:=@Array.getElem?_toList
def c5:=@PySem.wpAny_truthy_bool
def c6:=@if_false
def c7:=@Bool.not_false
def c8:=@PySem.wpAny_loadPart'
def c9:=@congrArg
def c_:=@List.mem_of_find?_eq_some
def dc:=@beq_eq_false_iff_ne
def dg:=@List.replicate_succ
def dh:=@List.flatten_cons
def di:=@Int.toNat_natCast
def dj:=@PySem.F.slot_dict_get
def dm:=@List.getElem?_eq_none
def dw:=@List.getElem_range
def dz:=@Nat.lt_succ_self
def dB:=@PyProof.Rows.wpS_pure
def dD:=@List.getElem_mem
def dF:=@PyProof.Rows.callWith_type1
def dG:=@Nat.lt_succ_of_lt
def dH:=@PySem.PassesOwn.leaving
def dI:=@List.getElem?_range
def dJ:=@List.length_nil
def dM:=@PySem.Calls.call_function_entry
def dN:=@List.length_filter_le
def dO:=@List.prefix_refl
def dP:=@List.prefix_append
def dQ:=@List.filter_cons
def dR:=@Option.isSome_iff_exists
def dS:=@PySem.AutoSeq1.wpAny_loadPart'
def dU:=@List.Perm.eq_of_pairwise
def dW:=@PySem.Around.under_plainId
def dX:=@PySem.wpAny_typeNameOfWhole_keyiter
def dY:=@PySem.wpAny_callSpecial?_slot
def dZ:=@Option.isSome_map
def d7:=@List.ext_getElem?
def d8:=@Nat.not_lt_zero
def d9:=@PySem.W.hideAll_get
def d_:=@Array.length_toList
def eg:=@Nat.le_of_lt
def ez:=@PySem.W.cellsFrom_some
def eB:=@PySem.sizeLine_eq
def eE:=@Option.getD_some
def eF:=@PySem.F.slot_tuple_iterator_next
def eG:=@PySem.Obj.data_mapFields
def eK:=@PySem.tupleKind_room_in1
def eL:=@of_decide_eq_false
def eN:=@List.Perm.refl
def eO:=@Option.map_map
def eT:=@Nat.lt_of_le_of_lt
def eU:=@PySem.Heap.get?_update_self
def eV:=@Array.getElem?_eq_getElem
def eW:=@PySem.wpAny_passesOwn
def eX:=@List.foldl_cons
def eY:=@PySem.codeAny_builtin
def eZ:=@if_true
def e_:=@List.foldl_append
def fh:=@Nat.lt_irrefl
def fj:=@PySem.wpAny_standAt
def fq:=@PySem.wpAny_typeNameOf_keyiter
def fu:=@List.idxOf_lt_length_iff
def fy:=@List.filterMap_cons
def fB:=@List.take_zero
def fC:=@PySem.wpAny_field
def fF:=@PySem.W.of_hideAll
def fG:=@PySem.Heap.get?_update_other
def fH:=@PySem.wpAny_rule
def fJ:=@Array.getElem?_eq_none
def fK:=@Int.add_zero
def fL:=@List.find?_eq_none
def fM:=@Option.map_some
def fN:=@List.find?_some
def fO:=@List.any_cons
def fP:=@PySem.Obj.isFreed_of_fields
def fQ:=@List.getElem?_toArray
def fR:=@PySem.F.type_dict_get
def fS:=@PySem.call_meets
def fV:=@List.range_eq_range'
def fW:=@PySem.F.slot_list_lt
def fX:=@PySem.wpAny_forIn_list
def fY:=@List.map_nil
def fZ:=@PySem.wpAny_isInstance
def f6:=@List.all_eq_true
def f7:=@List.any_eq_true
def f9:=@decide_eq_decide
def f_:=@PySem.Heap.SameBut.update
def gb:=@PySem.F.args_dict_keyiterator_next_1
def gc:=@List.filter_eq_self
def gf:=@PySem.F.args_tuple_add_2
def gh:=@Bool.false_or
def gp:=@PySem.wpAny_attempt
def gq:=@PySem.F.entry_dict_keyiterator_next
def gr:=@PySem.F.slot_list_getattribute
def gu:=@PySem.F.slot_list_append
def gv:=@PySem.F.type_list_append
def gw:=@List.sum_cons
def gz:=@PySem.wpAny_execs_nil
def gA:=@PySem.wpAny_specialOf
def gB:=@List.filter_map
def gC:=@PySem.wpAny_pyIter_tuple
def gD:=@List.mem_filterMap
def gE:=@PySem.wpAny_Call_Name_kw
def gF:=@Int.emod_lt_of_pos
def gG:=@List.getElem?_replicate
def gH:=@PySem.F.entry_tuple_add
def gI:=@List.length_eq_zero_iff
def gJ:=@PySem.F.args_dict_get_3
def gK:=@Nat.one_mul
def gM:=@PySem.F.slot_tuple_add
def gO:=@PySem.wpAny_typeOf
def gP:=@List.pairwise_lt_range
def gQ:=@PySem.wpAny_seqItems
def gR:=@PySem.wpAny_setField
def gS:=@PySem.F.entry_dict_get
def gU:=@PySem.F.slot_tuple_hash
def gW:=@Array.toList_push
def gY:=@PyProof.Rows.wpS_forRange
def gZ:=@PySem.Heap.get?_push_ne
def g_:=@decide_eq_true_eq
def h_:=@PySem.F.slot_range_iterator_next
def ie:=@List.find?_map
def ig:=@List.getElem_take
def ir:=@List.eraseIdxIfInBounds_toArray
def iu:=@List.eraseIdx_eq_take_drop_succ
def iy:=@PySem.isSubtype_tuple_tuple
def iz:=@PySem.wpAny_isOneOf_keyiter
def iA:=@List.take_append_drop
def iB:=@List.set_append_right
def iC:=@PySem.Heap.size_update
def iD:=@Option.bind_some
def iE:=@List.mem_flatMap
def iF:=@PySem.Paired.length
def iG:=@PySem.plainId_quiet
def iH:=@Int.add_assoc
def iI:=@PySem.Sem.wp_pure
def iJ:=@List.getElem?_of_mem
def iK:=@Bool.or_eq_false_iff
def iL:=@List.of_mem_zip
def iM:=@PySem.F.slot_tuple_eq
def iN:=@Int.emod_nonneg
def iO:=@PySem.W.kdu_collect
def iP:=@List.flatMap_append
def iQ:=@List.flatten_append
def iR:=@PySem.codeAny_mono
def iS:=@Nat.succ_mul
def iT:=@PyProof.Rows.plain_sorted
def iU:=@PyProof.Rows.entry_sorted
def iV:=@PyProof.Rows.args_sorted1
def iW:=@List.getElem?_append_right
def iX:=@List.zip_cons_cons
def iY:=@Option.isSome_some
def iZ:=@List.forIn_nil
def i9:=@PySem.wpAny_tupleItemsOf
def i_:=@Array.forIn_toList
def ja:=@beq_iff_eq
def jb:=@List.perm_ext_iff_of_nodup
def jc:=@PySem.wpAny_fieldsOf
def jd:=@Array.getElem?_eq_none_iff
def je:=@List.getElem_idxOf
def jf:=@PySem.wpAny_pyIter_list
def jh:=@PySem.Obj.cls_mapFields
def ji:=@PySem.wpAny_dictEntries
def jj:=@List.find?_isSome
def jk:=@List.map_id
def jl:=@List.isEmpty_cons
def jm:=@PySem.wpAny_newList
def jn:=@List.cons_append
def jo:=@List.countP_cons
def jq:=@List.isEmpty_nil
def jt:=@Nat.ne_of_gt
def ju:=@PySem.wpAny_call
def jv:=@Nat.lt_trans
def jw:=@Int.mul_zero
def jx:=@List.forIn_cons
def jy:=@Bool.and_false
def jz:=@Array.size_zip
def jA:=@List.foldl_map
def jB:=@Nat.mul_le_mul
@[reducible]def af:=PySem.Value
@[reducible]def ah:=PySem.World
@[reducible]def aj:=PySem.Program
@[reducible]def ak:=PySem.Addr
@[reducible]def aq:=PySem.Heap
@[reducible]def au:=PySem.W.Frag
@[reducible]def aA:=PySem.Around
@[reducible]def aC:=PySem.Shared
@[reducible]def aE:=PySem.Expr
@[reducible]def aF:=PySem.Stmt
def anI{a b:Prop}(h:a)(k:b):a/\b:=⟨h,k⟩
open Array (size_map)
open Int (mul_one)
open List (all_map any_map map_id' map_set)
open Nat (mul_comm not_lt)
open Option (isSome_none)
namespace L2
open PySem PySem.Spec PyProof.Rows
meta abbrev Key:=Sum Int Str
abbrev BS:Key->af->Bool
 | .inl k,v=>Value.isInt k v
 | .inr x,v=>Value.isStrOf x v
abbrev acB (w:ah):Key->Int
 | .inl k=>hashInt k
 | .inr x=>hashStr w x
def l0:∀{k:Key}{v:af},BS k v=true->(∃i t,k=Sum.inl i/\v=Value.int i t)\/(∃x t,k=Sum.inr x/\v=Value.str x t)
 | .inl i,v,h=>by
  obtain⟨t,e⟩:=Value.isInt_shape (k:=i) (v:=v) h;exact .inl ⟨i,t,rfl,e⟩
 | .inr x,v,h=>by
  obtain⟨t,e⟩:=Value.isStrOf_shape (x:=x) (v:=v) h;exact .inr ⟨x,t,rfl,e⟩
def K8(i:Int)(t:Tok):BS (.inl i) (.int i t)=true:=by simp[BS,Value.isInt]
def KP(x:Str)(t:Tok):BS (.inr x) (.str x t)=true:=by simp[BS,Value.isStrOf]
def VY(a b:Int):decide ((Sum.inl a:Key)=Sum.inl b)=(a == b):=by
 by_cases e:a=b
 ·subst e;simp
 ·have h:¬(Sum.inl a:Key)=Sum.inl b:=λq=>e<|Sum.inl.inj q;rw[bA h];exact(dc.mpr e).symm
def Wn(a b:Str):decide ((Sum.inr a:Key)=Sum.inr b)=decide (a=b):=by
 by_cases e:a=b
 ·subst e;simp
 ·have h:¬(Sum.inr a:Key)=Sum.inr b:=λq=>e<|Sum.inr.inj q;rw[bA h,bA e]
def WN(a:Int)(b:Str):decide ((Sum.inl a:Key)=Sum.inr b)=false:=bA λq=>nomatch q
def Xd(a:Str)(b:Int):decide ((Sum.inr a:Key)=Sum.inl b)=false:=bA λq=>nomatch q
abbrev kL (prog:aj)(w:ah):PySem.KeyKind prog w Key where
 is:=BS
 hash:=acB w
 inj:=λv a b ha hb=>by
  rcases l0 ha with⟨i,t,rfl,rfl⟩|⟨x,t,rfl,rfl⟩
  ·rcases l0 hb with⟨j,u,rfl,e⟩|⟨y,u,rfl,e⟩
   ·injection e with e1 _;rw[e1]
   ·exact nomatch e
  ·rcases l0 hb with⟨j,u,rfl,e⟩|⟨y,u,rfl,e⟩
   ·exact nomatch e
   ·injection e with e1 _;rw[e1]
 byValue:=λk v h=>by
  rcases l0 h with⟨i,t,rfl,rfl⟩|⟨x,t,rfl,rfl⟩<;>rfl
 pyHash:=λhv h=>by
  rcases l0 hv with⟨i,t,rfl,rfl⟩|⟨x,t,rfl,rfl⟩
  ·exact wpAny_pyHash_int h
  ·exact wpAny_pyHash_str h
 eqBool:=λd hv h=>by
  rcases l0 d with⟨i,t,rfl,rfl⟩|⟨x,t,rfl,rfl⟩
  ·rcases l0 hv with⟨j,u,rfl,rfl⟩|⟨y,u,rfl,rfl⟩
   ·rw[VY]at h;exact wpAny_eqBool_int h
   ·rw[WN]at h;exact SeqAt.EqAt.int_str i t y u _ _ _ _ h
  ·rcases l0 hv with⟨j,u,rfl,rfl⟩|⟨y,u,rfl,rfl⟩
   ·rw[Xd]at h;exact SeqAt.EqAt.str_int x t j u _ _ _ _ h
   ·rw[Wn]at h;exact wpAny_eqBool_str h
 «strs»:=λk x t v h=>by
  rcases l0 h with⟨i,u,rfl,e⟩|⟨y,u,rfl,e⟩
  ·exact nomatch e
  ·injection e with e1 _
   subst e1
   cases v<;>rfl
def Er(prog:aj)(w:ah)(i:Int)(t:Tok):(kL prog w).is (.inl i) (.int i t)=true:=K8 i t
def Ec(prog:aj)(w:ah)(x:Str)(t:Tok):(kL prog w).is (.inr x) (.str x t)=true:=KP x t
inductive V where
 | non|bl (b:Bool)|int (i:Int)|str (x:Str)|byt (b:Array UInt8)|flt (b:UInt64)|ref (a:ak)|ty (n:String)
 deriving DecidableEq
abbrev RelV:V->af->Prop
 | .non,u=>u=Value.none
 | .bl b,u=>u=Value.bool b
 | .int i,u=>∃t,u=Value.int i t
 | .str x,u=>∃t,u=Value.str x t
 | .byt b,u=>∃t,u=Value.bytes b t
 | .flt b,u=>∃t,u=Value.float b t
 | .ref a,u=>u=Value.ref a
 | .ty n,u=>u=Value.type n
meta abbrev Vals:List V->ba->Prop:=Paired RelV
def Vals.length{xs:List V}{us:ba}(r:Vals xs us):xs.length=us.length:=iF r
theorem Vals.get:∀{xs:List V}{us:ba}{i:Nat}{x:V},Vals xs us->xs[i]?=some x->∃u,us[i]?=some u/\RelV x u
 | _,_,_,_,.nil,e=>by simp at e
 | _,_,0,_,.cons r _,e=>by simp at e;subst e;exact⟨_,rfl,r⟩
 | _,_,i+1,x,.cons _ t,e=>by
  obtain⟨u,h1,h2⟩:=Vals.get (i:=i) (x:=x) t (by simpa using e);exact⟨u,by simpa using h1,h2⟩
theorem Vals.set{x:V}(r:RelV x u):∀{xs:List V}{us:ba}(i:Nat),Vals xs us->Vals (xs.set i x) (us.set i u)
 | _,_,_,.nil=>.nil
 | _,_,0,.cons _ t=>.cons r t
 | _,_,i+1,.cons q t=>.cons q<|Vals.set r i t
theorem Vals.append:∀{xs ys:List V}{us ws:ba},Vals xs us->Vals ys ws->Vals (xs++ys) (us++ws)
 | _,_,_,_,.nil,s=>s
 | _,_,_,_,.cons r t,s=>.cons r<|Vals.append t s
abbrev xY:Option V->bd->Prop
 | some v,some u=>RelV v u
 | none,none=>True
 | _,_=>False
abbrev KV {κ:Type}:List (κ×V)->List (κ×af)->Prop:=Paired λ(p:κ×V) (q:κ×af)=>p.1=q.1/\RelV p.2 q.2
abbrev kV:Key->V
 | .inl i=>.int i
 | .inr x=>.str x
inductive HO where
 | lst (xs:List V)
 | tup (xs:List V)
 | dK (kvs:List<|Key×V)|dT (kvs:List<|List Key×V)
 | set (S:Int->Bool) (n:Nat)
 | ins (C dx:ak) (fs:List<|Str×V)
 | own (x:ak)
 | xd (fs:List<|Str×V)
 | met (f x:ak)
 | rng (lo hi:Int)
 | frz (o:Obj) (u:HO)
 | tbl (ps:Array af)
 | ext (φ:aq->Prop)
meta abbrev Hp:=ak->Option HO
abbrev upd (H:Hp)(a:ak)(o:HO):Hp:=λb=>if b=a then some o else H b
def j3{H:Hp}{a:ak}:upd H a o a=some o:=by unfold upd;rw[aS rfl]
def jI{H:Hp}{a:ak}(h:b≠a):upd H a o b=H b:=by unfold upd;rw[aQ h]
def HR{H:Hp}{a:ak}(h:H a=some o)(h':H b=some u)(d:o≠u):a≠b:=by
 intro e;subst e;rw[h]at h';exact d<|aZ h'
def jX{H:Hp}{a:ak}(h:H a=some o)(h':H b=none):a≠b:=by
 intro e;subst e;rw[h]at h';cases h'
abbrev qD (h:aq)(a:ak)(items:Array af):Prop:=∃o,h.get? a=some o/\o.cls=.type "tuple" /\ o.dict=none/\∃n,o.data=.seq items n
def qD.tup{a:ak}:qD h a items->IsTup h a items:=λ⟨o,e,c,_,n,d⟩=>⟨o,e,c,n,d⟩
def qD.new(h:aq)(items:Array af):qD (h.push { cls:=.type "tuple",data:=.seq items }) h.objs.size items:=⟨_,bu _ rfl,rfl,rfl,_,rfl⟩
def qD.lt{h:aq}{a:ak}(x:qD h a items):a<h.objs.size:=let⟨_,ho,_⟩:=x;a_ ho
section
variable (P:aj) (w:ah)
abbrev kG (H:Hp)(h:aq)(a:ak):HO->Prop
 | .lst xs=>xs.length<=sizeLine/\∃(d:ba) (n:Nat),Vals xs d/\h.get? a=some { cls:=.type "list",data:=.seq d.toArray n }
 | .tup xs=>xs.length<=sizeLine/\∃d:ba,Vals xs d/\qD h a d.toArray
 | .dK kvs=>kvs.length<=sizeLine/\(a == sysModules)=false/\∃vs,KV kvs vs/\h.DictOf (kL P w) a vs
 | .dT kvs=>kvs.length<=sizeLine/\(a == sysModules)=false/\∃xs:List<|List Key×ak×af,
   Paired (λ(p:List Key×V) (q:List Key×ak×af)=>p.1=q.1/\H q.2.1=some (.tup<|p.1.map kV)/\RelV p.2 q.2.2) kvs xs /\
   ∃o es ep,h.get? a=some o/\o.ExactDict/\o.data=.dict es ep/\es.toList=xs.map (entryOfKey<|tupleKind<|kL P w)/\(xs.map (·.1)).Nodup
 | .set S n=>h.SetOf (intKind P w) a S n
 | .ins C dx fs=>H dx=some (.own a)/\fs.length<=1000/\dx≠a/\h.get? a=some (PySem.W.instObj C dx) /\
   ∃g,h.Ns1 dx g/\(∀f,xY (fs.lookup f)<|g f)/\PySem.Within g (fs.map (·.1))
 | .own _=>∃o,h.get? a=some o
 | .xd fs=>∃g,h.Ns1 a g/\∀f,xY (fs.lookup f) (g f)
 | .rng lo k=>∃t u v,h.get? a=some { cls:=.type "range",data:=.fields #[.int lo t,.int k u,.int 1 v]}
 | .frz o u=>h.get? a=some o/\kG H h a u
 | .tbl ps=>h.get? a=some { cls:=.none,data:=.fields ps }
 | .met f x=>h.get? a=some (PySem.W.methodObj (.ref f)<|.ref x)
 | .ext j=>j h/\(∃o,h.get? a=some o)/\∀h1 h2:aq,j h1->(∀o,h1.get? a=some o->h2.get? a=some o)->j h2
abbrev vO (H:Hp)(h:aq):Prop:=∀a o,H a=some o->kG P w H h a o
end
section
variable {P:aj}{w:ah}{H H':Hp}{h h':aq}{a:ak}{o:HO}
def kG.lt(x:kG P w H h a o):a<h.objs.size:=by
 cases o with
 | lst xs=>obtain⟨_,_,_,_,e⟩:=x;exact a_ e
 | tup xs=>obtain⟨_,_,_,p⟩:=x;exact qD.lt p
 | dK kvs=>obtain⟨_,_,_,_,o,_,_,e,_⟩:=x;exact a_ e
 | dT kvs=>obtain⟨_,_,_,_,o,_,_,e,_⟩:=x;exact a_ e
 | set S n=>obtain⟨o,_,_,_,e,_⟩:=x;exact a_ e
 | ins C dx fs=>obtain⟨_,_,_,e,_⟩:=x;exact a_ e
 | own y=>obtain⟨_,e⟩:=x;exact a_ e
 | xd fs=>obtain⟨_,⟨_,_,_,e,_⟩,_⟩:=x;exact a_ e
 | rng lo d=>obtain⟨_,_,_,e⟩:=x;exact a_ e
 | frz ob u=>obtain⟨e,_⟩:=x;exact a_ e
 | tbl ps=>exact a_ (show h.get? a=some _ from x)
 | met f y=>exact a_ (show h.get? a=some _ from x)
 | ext g=>obtain⟨_,⟨_,e⟩,_⟩:=x;exact a_ e
theorem Paired.YD{α β:Type}{F G:α->β->Prop}:∀{l₁:List α}{l₂:List β},Paired F l₁ l₂->(∀a b,F a b->G a b)->Paired G l₁ l₂
 | _,_,.nil,_=>.nil
 | _,_,.cons r t,f=>.cons (f _ _ r)<|Paired.YD t f
def kG.stay(x:kG P w H h a o)(k:∀b u,(b=a\/H b=some (.own a))->h.get? b=some u->h'.get? b=some u)
  (ho:∀b,H b=some (.own a)->H' b=some (.own a)) (ht:∀b xs,H b=some (.tup xs)->H' b=some (.tup xs)):kG P w H' h' a o:=by
 induction o with
 | lst xs=>obtain⟨z,g,n,r,e⟩:=x;exact⟨z,g,n,r,k _ _ (.inl rfl) e⟩
 | tup xs=>obtain⟨z,g,r,ob,e,c⟩:=x;exact⟨z,g,r,ob,k _ _ (.inl rfl) e,c⟩
 | dK kvs=>obtain⟨z,y,vs,r,ob,es,ep,e,c⟩:=x;exact⟨z,y,vs,r,ob,es,ep,k _ _ (.inl rfl) e,c⟩
 | dT kvs=>
  obtain⟨z,y,xs,r,ob,es,ep,e,c⟩:=x;exact⟨z,y,xs,Paired.YD r λp q z=>⟨z.1,ht _ _ z.2.1,z.2.2⟩,ob,es,ep,k _ _ (.inl rfl) e,c⟩
 | set S n=>obtain⟨ob,es,ep,t,e,c⟩:=x;exact⟨ob,es,ep,t,k _ _ (.inl rfl) e,c⟩
 | ins C dx fs=>
  obtain⟨d,z,ne,e,m,⟨j,es,ep,e2,c⟩,r⟩:=x;exact⟨ho _ d,z,ne,k _ _ (.inl rfl) e,m,⟨j,es,ep,k _ _ (.inr d) e2,c⟩,r⟩
 | own y=>obtain⟨ob,e⟩:=x;exact⟨ob,k _ _ (.inl rfl) e⟩
 | xd fs=>obtain⟨m,⟨j,es,ep,e,c⟩,r⟩:=x;exact⟨m,⟨j,es,ep,k _ _ (.inl rfl) e,c⟩,r⟩
 | rng lo G=>obtain⟨t,u,v,e⟩:=x;exact⟨t,u,v,k _ _ (.inl rfl) e⟩
 | frz ob u B=>obtain⟨e,q⟩:=x;exact⟨k _ _ (.inl rfl) e,B q⟩
 | tbl ps=>
  have e:h.get? a=some { cls:=.none,data:=.fields ps }:=x
  skip
  exact k a _ (.inl rfl) e
 | met f y=>
  have e:h.get? a=some (PySem.W.methodObj (.ref f)<|.ref y):=x
  skip
  exact k a _ (.inl rfl) e
 | ext F=>obtain⟨p,⟨o,e⟩,st⟩:=x;exact⟨st _ _ p λo q=>k _ _ (.inl rfl) q,⟨o,k _ _ (.inl rfl) e⟩,st⟩
def vO.lt(x:vO P w H h)(e:H a=some o):a<h.objs.size:=(x a o e).lt
def vO.fresh(x:vO P w H h)(e:h.objs.size<=a):H a=none:=by
 cases q:H a with
 | none=>rfl
 | some u=>exact absurd (bN (x.lt q) e)<|fh _
def vO.kept(x:vO P w H h)(k:∀b u,h.get? b=some u->h'.get? b=some u):vO P w H h':=λa o e=>
 (x a o e).stay (λb u _ q=>k b u q) (λ_ q=>q) λ_ _ q=>q
def vO.laid(x:vO P w H h)(k:∀b u,h.get? b=some u->h'.get? b=some u)(hp:h.objs.size<=a)(new:kG P w (upd H a o) h' a o):vO P w (upd H a o) h':=λb u e=>by
 have hn:=x.fresh hp;by_cases hb:b=a
 ·subst hb;rw[j3]at e;cases e;exact new
 ·rw[jI hb]at e;exact(x b u e).stay (λc v _ q=>k c v q) (λc q=>by rw[jI<|jX q hn];exact q) λc xs q=>by rw[jI<|jX q hn];exact q
end
abbrev Rd (H:Hp)(a:ak)(u:HO):Prop:=H a=some u\/∃o,H a=some (.frz o u)
def Rd.ok{P:aj}{w:ah}{H:Hp}{a:ak}(r:Rd H a u)(x:vO P w H h):kG P w H h a u:=by
 rcases r with r|⟨o,r⟩
 ·exact x a u r
 ·obtain⟨_,q⟩:=x a _ r;exact q
abbrev Mut:Option HO->Prop
 | some (.lst _)=>True
 | some (.dK _)=>True
 | some (.dT _)=>True
 | some (.set _ _)=>True
 | some (.ins _ _ _)=>True
 | some (.ext _)=>True
 | _=>False
section
variable {P:aj}{w:ah}{H:Hp}{h h':aq}{x e:ak}{o':HO}
def vO.write(ok:vO P w H h)(mu:Mut<|H x)(he:e=x\/H e=some (.own x))(k:∀b u,b≠e->h.get? b=some u->h'.get? b=some u)(heo:∃u,h'.get? e=some u)
  (new:kG P w (upd H x o') h' x o'):vO P w (upd H x o') h':=λb u q=>by
 have f:∀c y,H c=some (.own y)->c≠x:=λc y r z=>by subst z;rw[r]at mu;exact mu
 have g:∀c xs,H c=some (.tup xs)->c≠x:=λc xs r z=>by subst z;rw[r]at mu;exact mu
 by_cases hb:b=x
 ·subst hb;rw[j3]at q;cases q;exact new
 ·rw[jI hb]at q;by_cases d:b=e
  ·have q':H b=some (.own x):=by
    rcases he with z|z
    ·exact absurd (d.trans z) hb
    ·rw[d];exact z
   rw[q]at q';cases q';obtain⟨v,hv⟩:=heo;exact⟨v,by rw[d];exact hv⟩
  ·refine(ok b u q).stay (λc v hc r=>k c v ?_ r) (λc r=>by rw[jI<|f c b r];exact r) λc xs r=>by rw[jI<|g c xs r];exact r
   rcases hc with rfl|hc
   ·exact d
   ·rintro rfl
    rcases he with z|z
    ·exact f c b hc z
    ·rw[hc]at z;cases z;exact hb rfl
end
structure Un (fs ex:bb)(H H':Hp)(h h':aq):Prop where
 keep:∀b o,h.get? b=some o->H b=none->b∉fs->b∉ex->h'.get? b=some o
 slot:∀b o,h.get? b=some o->H b=none->b∈fs->b∉ex->∃sl,h'.get? b=some { o with slots:=sl }
 free:∀b o,h.get? b=some o->H b=none->b∉ex->H' b=none
 there:∀b o,h.get? b=some o->b∉ex->∃o',h'.get? b=some o'
 tups:∀b xs,H b=some (.tup xs)->H' b=some (.tup xs)
 frzs:∀b o u,H b=some (.frz o u)->H' b=some (.frz o u)
 tbls:∀b ps,H b=some (.tbl ps)->∃more,H' b=some (.tbl<|ps++more)
section
variable {fs ex:bb}{H H1:Hp}{h h1 h':aq}{a x e:ak}{o:HO}
def Un.any(u:Un fs ex H H1 h h1){ob:Obj}(q:h.get? b=some ob)(n:H b=none)(hx:b∉ex):∃sl,h1.get? b=some { ob with slots:=sl }:=by
 by_cases hb:b∈fs
 ·exact u.slot b ob q n hb hx
 ·exact⟨ob.slots,u.keep b ob q n hb hx⟩
def Un.kept(k:∀b u,h.get? b=some u->h'.get? b=some u):Un fs ex H H h h':=
 ⟨λb ob q _ _ _=>k b ob q,λb ob q _ _ _=>⟨ob.slots,k b ob q⟩,λ_ _ _ n _=>n,λb ob q _=>⟨ob,k b ob q⟩,λ_ _ q=>q,λ_ _ _ q=>q,λ_ ps q=>⟨#[],by rw[q];simp⟩⟩
def Un.refl:Un fs ex H H h h:=Un.kept λ_ _ q=>q
def Un.laid(k:∀b u,h.get? b=some u->h'.get? b=some u)(hp:h.objs.size<=a)(hn:H a=none):Un fs ex H (upd H a o) h h' where
 keep:=λb u q _ _ _=>k b u q
 slot:=λb u q _ _ _=>⟨u.slots,k b u q⟩
 free:=λb u q n _=>by rw[jI<|bC<|bN (a_ q) hp];exact n
 there:=λb u q _=>⟨u,k b u q⟩
 tups:=λb xs q=>by rw[jI<|jX q hn];exact q
 frzs:=λb u xs q=>by rw[jI<|jX q hn];exact q
 tbls:=λb ps q=>⟨#[],by rw[jI<|jX q hn,q];simp⟩
def Un.write(mu:Mut<|H x)(he:e=x\/H e=some (.own x))(k:∀b u,b≠e->h.get? b=some u->h'.get? b=some u)(heo:∃u,h'.get? e=some u):Un fs ex H (upd H x o) h h':=by
 have g:∀b,H b=none->b≠x:=λb n z=>by subst z;rw[n]at mu;exact mu
 have hb:∀b,H b=none->b≠e:=λb n z=>by
  subst z
  rcases he with r|r
  ·exact g b n r
  ·rw[n]at r;cases r
 have f:∀b u,H b=some u->¬Mut (some u)->b≠x:=λb u q nm z=>by subst z;rw[q]at mu;exact nm mu
 refine⟨λb u q n _ _=>k b u (hb b n) q,λb u q n _ _=>⟨u.slots,k b u (hb b n) q⟩,λb u q n _=>by rw[jI<|g b n];exact n,λb u q _=>?_,
  λb xs q=>by rw[jI<|f b _ q λz=>z];exact q,λb u xs q=>by rw[jI<|f b _ q λz=>z];exact q,λb ps q=>⟨#[],by rw[jI<|f b _ q λz=>z,q];simp⟩⟩
 by_cases d:b=e
 ·subst d;exact heo
 ·exact⟨u,k b u d q⟩
end
abbrev trk (h:aq)(H:Hp):bb:=(List.range h.objs.size).filter λa=>(H a).isSome
abbrev DK (h:aq)(H:Hp):aq:=PySem.W.hideAll h<|trk h H
def LG(h:aq)(H:Hp):(DK h H).objs.size=h.objs.size:=PySem.W.hideAll_size _ _
def O9{h:aq}{H:Hp}(e:h.get? b=some o)(n:H b=none):(DK h H).get? b=some o:=
 d9 _ e λd=>by
  have q:(H b).isSome=true:=(cE.mp d).2;rw[n]at q;simp at q
def SG{h:aq}{H:Hp}(e:(DK h H).get? b=some o):h.get? b=some o/\H b=none:=by
 have d:h.get? b=some o:=fF (trk h H) e;refine⟨d,?_⟩
 cases q:H b with
 | none=>rfl
 | some x=>
  have f:b∈trk h H:=cE.mpr ⟨cg.mpr<|a_ d,by simp[q]⟩;have z:(DK h H).get? b=none:=PySem.W.hideAll_none (trk h H) f;rw[z]at e;cases e
abbrev Td (g h:aq)(L:ak):bo:=(List.range h.objs.size).filterMap λa=>if a=L\/(g.get? a).isSome=true then none else(h.get? a).map λo=>(a,o)
abbrev rest (g h:aq)(L d:ak):bo:=(Td g h L).filter λp=>decide<|p.1≠d
structure Mod (K:au)(mg:Str->bd)(base:aq):Prop where
 kin:K.In base
 glob:base.Ns mainGlobals mg
 blt:∃mb,base.Ns builtinsNs mb/\∀x:Str,x ≠ "__name__" -> mb x=bootBuiltins x
 nolimit:base.NoLimit
structure Cx where
 prog:aj
 w:ah
 K:au
 mg:Str->bd
 base:aq
 A:aA
 N:ar
 s₀:aC
 H₀:Hp
 env:Env
 outer:List Env
 stack:List Env
 ex:bb
 fn:Str->Bool
 calm:Bool
 pn:bo
 xe:af->aC->Prop
abbrev frs (l:List Env):bb:=l.filterMap (·.frame)
meta abbrev Cx.fs (X:Cx):bb:=frs X.outer
abbrev Vis (sc:Scope)(x:Str):Prop:=sc.names.lookup x=some .local\/sc.names.lookup x=some .cell\/sc.names.lookup x=some .free
abbrev Loc (sc:Scope)(x:Str):Prop:=sc.names.lookup x=some .local\/sc.names.lookup x=some .cell
abbrev Look (env:Env)(h:aq)(m:Str->bd)(x:Str)(u:af):Prop:=
 (env.kindOf x=some .local/\m x=some u)\/((env.kindOf x=some .cell\/env.kindOf x=some .free)/\∃c,env.cells.lookup x=some c/\h.IsCell c (some u))
structure Cx.Ok (X:Cx):Prop where
 mod:Mod X.K X.mg X.base
 kind:X.env.scope.kind=.function
 glob:X.env.globals=mainGlobals
 blt:X.env.builtins=builtinsNs
 above:X.s₀.heap.objs.size<=X.env.locals
 inj:∀x y c,X.env.cells.lookup x=some c->X.env.cells.lookup y=some c->x=y
 has:∀x,(X.env.kindOf x=some .cell\/X.env.kindOf x=some .free)->∃c,X.env.cells.lookup x=some c
 cab:∀x c,X.fn x=true->X.env.cells.lookup x=some c->X.s₀.heap.objs.size<=c
 hd:X.calm=true->X.A.handled=none
 frames:X.A.frames=some X.stack
 stk:X.stack=X.outer\/(X.stack=X.env::X.outer/\X.env.frame=some X.env.locals)
 exf:∀b∈X.ex,b≠X.env.locals/\∀x c,X.env.cells.lookup x=some c->c≠b
 bs:∀b o,X.base.get? b=some o->X.s₀.heap.get? b=some o/\X.H₀ b=none
 bsz:X.base.objs.size<=X.s₀.heap.objs.size
 noex:∀b o,X.base.get? b=some o->b∉X.ex
 exfs:∀b∈X.ex,b∉X.fs
 tZ:X.s₀.heap.FunFrames X.base X.outer
 frf:∀b∈X.fs,X.H₀ b=none
structure Inv (X:Cx)(pins:bo)(σ:List (Option V))(H:Hp)(s:aC):Prop where
 ok:X.Ok
 os:s.os=X.s₀.os
 bare:AllBare s.gens
 base:Un X.fs X.ex X.H₀ H X.s₀.heap s.heap
 loc:∃m,s.heap.Ns X.env.locals m/\∀(i:Nat) (x:Str) (v:V),X.N[i]?=some x->σ[i]?=some (some v)->Vis X.env.scope x->∃u,RelV v u/\Look X.env s.heap m x u
 cell:∀x c,X.env.cells.lookup x=some c->∃v,s.heap.IsCell c v
 free:H X.env.locals=none
 freeC:∀x c,X.env.cells.lookup x=some c->H c=none
 pin:∀p∈X.pn++pins,s.heap.get? p.1=some p.2/\H p.1=none/\p.1≠X.env.locals/\p.1∉X.fs/\∀v,p.2.data≠.cell v
 hok:vO X.prog X.w H s.heap
 len:σ.length=X.N.length
section
variable {X:Cx}{pins:bo}{σ:List (Option V)}{H H':Hp}{s:aC}{h':aq}
def Cx.Ok.abO(ok:X.Ok)(e:X.base.get? b=some o):b∉X.fs:=λhb=>by
 have:=(ok.tZ.mem hb).1;rw[e]at this;cases this
def Inv.bs(I:Inv X pins σ H s):∀b o,X.base.get? b=some o->s.heap.get? b=some o/\H b=none:=λb o e=>
 ⟨I.base.keep b o (I.ok.bs b o e).1 (I.ok.bs b o e).2 (I.ok.abO e)<|I.ok.noex b o e,I.base.free b o (I.ok.bs b o e).1 (I.ok.bs b o e).2<|I.ok.noex b o e⟩
def Inv.bk(I:Inv X pins σ H s):∀b o,X.base.get? b=some o->s.heap.get? b=some o:=λb o e=>(I.bs b o e).1
def Inv.mod(I:Inv X pins σ H s):Mod X.K X.mg X.base:=I.ok.mod
def Inv.Aw(I:Inv X pins σ H s):X.K.In s.heap:=I.ok.mod.kin.keeps I.bk
def Inv.lt(I:Inv X pins σ H s):X.env.locals<s.heap.objs.size:=let⟨_,hn,_⟩:=I.loc;hn.lt
def Inv.sz(I:Inv X pins σ H s):X.s₀.heap.objs.size<=s.heap.objs.size:=bM I.ok.above<|eg I.lt
def Inv.abH(I:Inv X pins σ H s){a:ak}(h:s.heap.objs.size<=a):a∉X.fs:=λhb=>by
 obtain⟨_,o,d,_⟩:=I.ok.tZ.mem hb;exact absurd (bN (a_ d)<|bM I.sz h)<|fh _
def Inv.US(I:Inv X pins σ H s):∀x c,X.env.cells.lookup x=some c->c≠X.env.locals:=λx c e z=>by
 obtain⟨v,o,j,g⟩:=I.cell x c e;obtain⟨m,⟨o',es,ep,d,f,_⟩,_⟩:=I.loc;rw[z,d]at j;cases j;rw[f]at g;cases g
def Inv.tZ(I:Inv X pins σ H s):s.heap.FunFrames X.base X.outer:=by
 have all:∀(l:List Env),(∀b∈frs l,b∈X.fs)->X.s₀.heap.FunFrames X.base l->s.heap.FunFrames X.base l:=by
  intro l
  induction l with
  | nil=>intro _ _;trivial
  | cons env r m=>
   intro hs g;obtain⟨f,⟨L,o,hf,hn,k,j⟩,p⟩:=g;have d:L∈X.fs:=hs L (by unfold frs;rw[fy,hf];exact aV);obtain⟨q,e⟩:=I.base.slot L o k (I.ok.frf L d) d λz=>I.ok.exfs L z d;exact⟨f,⟨L,_,hf,hn,e,j⟩,m (λb hb=>hs b<|by unfold frs;rw[fy,hf];exact aX _ hb) p⟩
 exact all X.outer (λ_ hb=>hb) I.ok.tZ
def Inv.stack(I:Inv X pins σ H s):s.heap.FunFrames X.base X.stack:=by
 rcases I.ok.stk with e|⟨e,hf⟩
 ·rw[e];exact I.tZ
 ·rw[e];obtain⟨m,hn,_⟩:=I.loc;refine .cons (by rw[I.ok.kind];decide) hf hn ?_ I.tZ;exact Heap.get?_none_of_le<|bM I.ok.bsz I.ok.above
def Inv.zG(I:Inv X pins σ H s):∀b∈frs X.stack,b∈X.env.locals::X.fs:=λb hb=>by
 rcases I.ok.stk with e|⟨e,hf⟩
 ·rw[e]at hb;exact aX _ hb
 ·rw[e]at hb;unfold frs at hb;rw[fy,hf]at hb;exact hb
def Inv.yT(I:Inv X pins σ H s):∀b∈frs X.stack,H b=none:=λb hb=>by
 rcases bE.mp (I.zG b hb)with e|hb
 ·rw[e];exact I.free
 ·obtain⟨_,o,d,_⟩:=I.ok.tZ.mem hb;exact I.base.free b o d (I.ok.frf b hb) λz=>I.ok.exfs b z hb
def Inv.step{g':Array GenState}{t':Nat}{d':Drawn}{ch:bb}(I:Inv X pins σ H s)
  (hch:∀b∈ch,(b∈X.ex\/X.s₀.heap.objs.size<=b)/\b≠X.env.locals/\(∀x c,X.env.cells.lookup x=some c->c≠b)/\∀p∈X.pn++pins,p.1≠b)
  (keep:∀b o,b≠X.env.locals->b∉X.fs->b∉ch->s.heap.get? b=some o->H b=none->h'.get? b=some o)
  (slot:∀b o,b≠X.env.locals->b∈X.fs->b∉ch->s.heap.get? b=some o->H b=none->∃sl,h'.get? b=some { o with slots:=sl }) (free:∀b o,b∉ch->s.heap.get? b=some o->H b=none->H' b=none)
  (there:∀b o,b∉ch->s.heap.get? b=some o->∃o',h'.get? b=some o')
  (tups:∀b xs,H b=some (.tup xs)->H' b=some (.tup xs)) (frzs:∀b o u,H b=some (.frz o u)->H' b=some (.frz o u)) (tbls:∀b ps,H b=some (.tbl ps)->∃more,H' b=some (.tbl<|ps++more))
  (ns:∀m,s.heap.Ns X.env.locals m->h'.Ns X.env.locals m) (hok:vO X.prog X.w H' h') (hg:AllBare g') :
  Inv X pins σ H' { s with heap:=h',gens:=g',drawn:=d',toks:=t' }:=by
 have C:∀b o,X.s₀.heap.get? b=some o->b≠X.env.locals:=λb o e=>bC<|bN (a_ e) I.ok.above;have t:∀b o,X.s₀.heap.get? b=some o->b∉X.ex->b∉ch:=λb o e f hb=>by
  rcases(hch b hb).1 with z|z
  ·exact f z
  ·exact absurd (bN (a_ e) z)<|fh _
 have j:∀x c,X.env.cells.lookup x=some c->∀v,s.heap.IsCell c v->h'.IsCell c v:=λx c e v ⟨o,B,F⟩=>by
  have g:c∉ch:=λz=>(hch c z).2.2.1 x c e rfl;by_cases hc:c∈X.fs
  ·obtain⟨sl,q⟩:=slot c o (I.US x c e) hc g B<|I.freeC x c e;exact⟨_,q,F⟩
  ·exact⟨o,keep c o (I.US x c e) hc g B<|I.freeC x c e,F⟩
 refine⟨I.ok,I.os,hg,⟨λb o e n hb f=>?_,λb o e n hb f=>?_,λb o e n f=>?_,λb o e f=>?_,λb xs e=>tups b xs<|I.base.tups b xs e,λb o xs e=>frzs b o xs<|I.base.frzs b o xs e,λb ps e=>?_⟩,?_,λx c e=>?_,?_,λx c e=>?_,λp hp=>?_,hok,I.len⟩
 ·exact keep b o (C b o e) hb (t b o e f) (I.base.keep b o e n hb f) (I.base.free b o e n f)
 ·obtain⟨sl,e1⟩:=I.base.slot b o e n hb f;obtain⟨G,e2⟩:=slot b _ (C b o e) hb (t b o e f) e1<|I.base.free b o e n f;exact⟨G,e2⟩
 ·obtain⟨o',e1⟩:=I.base.there b o e f;exact free b o' (t b o e f) e1 (I.base.free b o e n f)
 ·obtain⟨o',e1⟩:=I.base.there b o e f;exact there b o' (t b o e f) e1
 ·obtain⟨L,e1⟩:=I.base.tbls b ps e;obtain⟨K,e2⟩:=tbls b _ e1;exact⟨L++K,by rw[e2,Array.append_assoc]⟩
 ·obtain⟨m,hn,M⟩:=I.loc;refine⟨m,ns m hn,λi x v e1 e2 e3=>?_⟩;obtain⟨u,r,l⟩:=M i x v e1 e2 e3;refine⟨u,r,?_⟩
  rcases l with l|⟨k,c,e,z⟩
  ·exact .inl l
  ·exact .inr ⟨k,c,e,j x c e _ z⟩
 ·obtain⟨v,z⟩:=I.cell x c e;exact⟨v,j x c e v z⟩
 ·obtain⟨m,⟨o,_,_,B,_⟩,_⟩:=I.loc;exact free _ o (λz=>(hch _ z).2.1 rfl) B I.free
 ·obtain⟨v,o,B,F⟩:=I.cell x c e;exact free c o (λz=>(hch c z).2.2.1 x c e rfl) B (I.freeC x c e)
 ·obtain⟨e,n,ne,J,d⟩:=I.pin p hp;have g:p.1∉ch:=λz=>(hch p.1 z).2.2.2 p hp rfl;exact⟨keep p.1 p.2 ne J g e n,free p.1 p.2 g e n,ne,J,d⟩
def Inv.un{t':Nat}(I:Inv X pins σ H s)(u:Un X.fs [] H H' s.heap h')(hok:vO X.prog X.w H' h'):Inv X pins σ H' { s with heap:=h',toks:=t' }:=by
 obtain⟨m,⟨o,es,ep,j,r⟩,_⟩:=id I.loc;obtain⟨z,q⟩:=u.any j I.free (by simp);exact I.step (g':=s.gens) (d':=s.drawn) (ch:=[]) (nofun) (λb o _ hb _ e n=>u.keep b o e n hb<|by simp) (λb o _ hb _ e n=>u.slot b o e n hb<|by simp) (λb o _ e n=>u.free b o e n<|by simp) (λb o _ e=>u.there b o e<|by simp) u.tups u.frzs u.tbls (λt p=>by
  obtain⟨o',f,g,d,k⟩:=p;rw[j]at d;cases d;exact⟨_,f,g,q,k⟩) hok I.bare
def Inv.call{g':Array GenState}{t':Nat}{d':Drawn}{ch:bb}(I:Inv X pins σ H s)(u:Un (frs X.stack) ch H H' s.heap h')(hok:vO X.prog X.w H' h')(hg:AllBare g')
  (hch:∀b∈ch,(b∈X.ex\/X.s₀.heap.objs.size<=b)/\b≠X.env.locals/\(∀x c,X.env.cells.lookup x=some c->c≠b)/\∀p∈X.pn++pins,p.1≠b) :
  Inv X pins σ H' { s with heap:=h',gens:=g',drawn:=d',toks:=t' }:=by
 obtain⟨m,⟨o,es,ep,k,r⟩,_⟩:=id I.loc;obtain⟨C,j⟩:=u.any k I.free λz=>(hch _ z).2.1 rfl;exact I.step (ch:=ch) hch (λb o j hb hc e n=>u.keep b o e n (λz=>(bE.mp<|I.zG b z).elim j hb) hc) (λb o _ _ hc e n=>u.any e n hc) (λb o hc e n=>u.free b o e n hc) (λb o hc e=>u.there b o e hc) u.tups u.frzs u.tbls (λB t=>by
  obtain⟨o',f,g,d,q⟩:=t;rw[k]at d;cases d;exact⟨_,f,g,j,q⟩) hok hg
def Inv.turned{t':Nat}{it:ak}(I:Inv X pins σ H s)(k:∀b o,b≠it->s.heap.get? b=some o->h'.get? b=some o)(hn:H it=none)(hL:it≠X.env.locals)
  (h1:it∈X.ex\/X.s₀.heap.objs.size<=it) (h2:∀x c,X.env.cells.lookup x=some c->c≠it) (h3:∀p∈X.pn++pins,p.1≠it):Inv X pins σ H { s with heap:=h',toks:=t' }:=by
 have d:∀b u,H b=some u->b≠it:=λb u e z=>by rw[z,hn]at e;cases e
 refine I.step (g':=s.gens) (d':=s.drawn) (ch:=[it]) (λb hb=>?_) (λb o _ _ hc e _=>k b o (λz=>hc<|by simp[z]) e) (λb o _ _ hc e _=>⟨o.slots,k b o (λz=>hc<|by simp[z]) e⟩) (λ_ _ _ _ n=>n)
  (λb o hc e=>⟨o,k b o (λz=>hc<|by simp[z]) e⟩) (λ_ _ e=>e) (λ_ _ _ e=>e) (λb ps e=>⟨#[],by rw[e];simp⟩) (λm f=>?_) (λb u e=>?_) I.bare
 ·have e:b=it:=by simpa using hb
  subst e;exact⟨h1,hL,h2,h3⟩
 ·obtain⟨o,es,ep,g,r⟩:=f;exact⟨o,es,ep,k _ o (cA hL) g,r⟩
 ·refine(I.hok b u e).stay (λc v hc q=>k c v ?_ q) (λ_ q=>q) λ_ _ q=>q
  rcases hc with z|z
  ·rw[z];exact d b u e
  ·exact d c _ z
def Inv.tok(I:Inv X pins σ H s)(t:Nat):Inv X pins σ H { s with toks:=t }:=I.un (h':=s.heap) (t':=t) Un.refl I.hok
def Inv.kept{t':Nat}(I:Inv X pins σ H s)(k:∀b u,s.heap.get? b=some u->h'.get? b=some u):Inv X pins σ H { s with heap:=h',toks:=t' }:=I.un (Un.kept k)<|I.hok.kept k
def Inv.laid{a:ak}{t':Nat}(I:Inv X pins σ H s)(k:∀b u,s.heap.get? b=some u->h'.get? b=some u)(hp:s.heap.objs.size<=a)(new:kG X.prog X.w (upd H a o) h' a o) :
  Inv X pins σ (upd H a o) { s with heap:=h',toks:=t' }:=I.un (Un.laid k hp<|I.hok.fresh hp)<|I.hok.laid k hp new
def Inv.write{x e:ak}{t':Nat}(I:Inv X pins σ H s)(mu:Mut<|H x)(he:e=x\/H e=some (.own x))(k:∀b u,b≠e->s.heap.get? b=some u->h'.get? b=some u)(heo:∃u,h'.get? e=some u)
  (new:kG X.prog X.w (upd H x o) h' x o):Inv X pins σ (upd H x o) { s with heap:=h',toks:=t' }:=I.un (Un.write mu he k heo)<|I.hok.write mu he k heo new
def Inv.Jb{pins':bo}(I:Inv X pins σ H s)(h:∀p∈pins',s.heap.get? p.1=some p.2/\H p.1=none/\p.1≠X.env.locals/\p.1∉X.fs/\∀v,p.2.data≠.cell v):Inv X pins' σ H s:=
 ⟨I.ok,I.os,I.bare,I.base,I.loc,I.cell,I.free,I.freeC,λp hp=>(bJ.mp hp).elim (λz=>I.pin p<|cM _ z)<|h p,I.hok,I.len⟩
def z8{N:ar}(hN:N.Nodup){i j:Nat}{x:Str}(a:N[i]?=some x)(b:N[j]?=some x):i=j:=by
 obtain⟨h1,e1⟩:=aJ.mp a;obtain⟨h2,e2⟩:=aJ.mp b;exact(b7 hN).mp (e1.trans e2.symm)
def _root_.γ0(h:1=1:=by first|exact .inl rfl|exact .inr rfl|assumption):1=1:=h
def _root_.γ:Lean.Syntax:=γ0._auto_1
def _root_.δ0(h:1=1:=by decide):1=1:=h
def _root_.δ:Lean.Syntax:=δ0._auto_1
def _root_.ε0(h:1=1:=by rfl):1=1:=h
def _root_.ε:Lean.Syntax:=ε0._auto_1
def _root_.ζ0(h:1=1:=by intro _;rfl):1=1:=h
def _root_.ζ:Lean.Syntax:=ζ0._auto_1
def _root_.η0(h:1=1:=by with_unfolding_all rfl):1=1:=h
def _root_.η:Lean.Syntax:=η0._auto_1
def _root_.θ0(h:1=1:=by exact λ_ _=>rfl):1=1:=h
def _root_.θ:Lean.Syntax:=θ0._auto_1
def Mb{A:aA}{E:af->aC->Prop}{i:Nat}{x:Str}{v:V}{Q:Unit->aC->Prop}(I:Inv X pins σ H s)(hN:X.N.Nodup)(hi:X.N[i]?=some x)(hx:Loc X.env.scope x)(r:RelV v u)
  (h:∀s',Inv X pins (σ.set i<|some v) H s'->(∃a,Heap.SameBut a s.heap s'.heap/\(a=X.env.locals\/X.env.cells.lookup x=some a))->Q Unit.unit s') (hf:X.fn x=true\/X.env.scope.names.lookup x=some .local<|>γ):wpAny M A (storeName X.env x u) Q E s:=by
 obtain⟨m,hn,hl⟩:=id I.loc;have K:(X.env.scope.kind == .class || (X.env.scope.kind == .module && X.env.locals != X.env.globals))=false:=by rw[I.ok.kind];rfl
 have g:i<σ.length:=by rw[I.len];exact(aJ.mp hi).1
 have US:=I.US;have f:∀{a:ak} {h':aq},(∃o,s.heap.get? a=some o/\H a=none)->Heap.SameBut a s.heap h'->vO X.prog X.w H h':=λ{a h'} ha hs b ob e=>by
  obtain⟨_,_,hfree⟩:=ha;refine(I.hok b ob e).stay (λc O hc q=>(hs.2 c ?_).trans q) (λ_ q=>q) λ_ _ q=>q;rintro rfl
  rcases hc with rfl|hc
  ·rw[hfree]at e;cases e
  ·rw[hfree]at hc;cases hc
 rcases hx with t|t
 ·refine wpAny_storeName_local t hn (λh' U hs=>?_) K;obtain⟨oL,_,_,Y,_⟩:=id hn;refine h _ ⟨I.ok,I.os,I.bare,⟨λb o e n hb hx=>?_,λb o e n hb hx=>?_,I.base.free,λb o e hx=>?_,I.base.tups,I.base.frzs,I.base.tbls⟩,⟨_,U,λj y T e1 e2 e3=>?_⟩,λy c e=>?_,I.free,I.freeC,λp hp=>?_,f ⟨oL,Y,I.free⟩ hs,by simpa using I.len⟩ ⟨_,hs,.inl rfl⟩
  ·exact(hs.2 b<|bC<|bN (a_ e) I.ok.above).trans (I.base.keep b o e n hb hx)
  ·obtain⟨sl,e1⟩:=I.base.slot b o e n hb hx;exact⟨sl,(hs.2 b<|bC<|bN (a_ e) I.ok.above).trans e1⟩
  ·obtain⟨o',e1⟩:=I.base.there b o e hx;exact⟨o',(hs.2 b<|bC<|bN (a_ e) I.ok.above).trans e1⟩
  ·by_cases B:j=i
   ·subst B;rw[hi]at e1;cases e1;rw[br g]at e2
    cases e2
    exact⟨u,r,.inl ⟨t,by simp⟩⟩
   ·rw[bG<|cA B]at e2;obtain⟨u',W,q⟩:=hl j y T e1 e2 e3;refine⟨u',W,?_⟩
    rcases q with⟨k,e⟩|⟨k,c,e,z⟩
    ·refine .inl ⟨k,?_⟩;have:y≠x:=λe=>B<|z8 hN e1<|e ▸ hi;simp[this,e]
    ·exact .inr ⟨k,c,e,z.sameBut hs<|US y c e⟩
  ·obtain⟨O,z⟩:=I.cell y c e;exact⟨O,z.sameBut hs<|US y c e⟩
  ·obtain⟨e,n,ne,Z,d⟩:=I.pin p hp;exact⟨(hs.2 p.1 ne).trans e,n,ne,Z,d⟩
 ·have C:X.fn x=true:=by
   rcases hf with z|z
   ·exact z
   ·rw[z]at t;cases t
  obtain⟨c,hc⟩:=I.ok.has x<|.inl t;obtain⟨O,z⟩:=I.cell x c hc;refine wpAny_storeName_cell I.ok.kind t hc z λh' J hs=>?_;obtain⟨oc,L,F⟩:=id z;refine h { s with heap:=h' } ⟨I.ok,I.os,I.bare,⟨λb o e n hb hx=>?_,λb o e n hb hx=>?_,I.base.free,λb o e hx=>?_,I.base.tups,I.base.frzs,I.base.tbls⟩,⟨m,hn.sameBut hs<|cA<|US x c hc,λj y T e1 e2 e3=>?_⟩,λy P e=>?_,I.free,I.freeC,λp hp=>?_,f ⟨oc,L,I.freeC x c hc⟩ hs,by simpa using I.len⟩ ⟨c,hs,.inr hc⟩
  ·exact(hs.2 b<|bC<|bN (a_ e)<|I.ok.cab x c C hc).trans (I.base.keep b o e n hb hx)
  ·obtain⟨sl,e1⟩:=I.base.slot b o e n hb hx;exact⟨sl,(hs.2 b<|bC<|bN (a_ e)<|I.ok.cab x c C hc).trans e1⟩
  ·obtain⟨o',e1⟩:=I.base.there b o e hx;exact⟨o',(hs.2 b<|bC<|bN (a_ e)<|I.ok.cab x c C hc).trans e1⟩
  ·by_cases B:j=i
   ·subst B;rw[hi]at e1;cases e1;rw[br g]at e2
    cases e2
    exact⟨u,r,.inr ⟨.inl t,c,hc,J⟩⟩
   ·rw[bG<|cA B]at e2;obtain⟨u',W,q⟩:=hl j y T e1 e2 e3;refine⟨u',W,?_⟩
    rcases q with q|⟨k,P,e,z'⟩
    ·exact .inl q
    ·refine .inr ⟨k,P,e,z'.sameBut hs ?_⟩;rintro rfl;exact B<|z8 hN e1<|I.ok.inj _ _ _ e hc ▸ hi
  ·by_cases G:P=c
   ·subst G;exact⟨_,J⟩
   ·obtain⟨w2,z2⟩:=I.cell y P e;exact⟨w2,z2.sameBut hs G⟩
  ·obtain⟨e,n,ne,Z,d⟩:=I.pin p hp;refine⟨(hs.2 p.1 ?_).trans e,n,ne,Z,d⟩;intro q;rw[q,L]at e;have q':oc=p.2:=aZ e;exact d O<|by rw[<- q'];exact F
def u9{A:aA}{E:af->aC->Prop}{i:Nat}{x:Str}{v:V}{Q:Unit->aC->Prop}(I:Inv X pins σ H s)(hN:X.N.Nodup)(hi:X.N[i]?=some x)(hx:Loc X.env.scope x)(r:RelV v u)
  (h:∀s',Inv X pins (σ.set i<|some v) H s'->Q Unit.unit s') (hf:X.fn x=true\/X.env.scope.names.lookup x=some .local<|>γ):wpAny M A (storeName X.env x u) Q E s:=
 Mb I hN hi hx r (λs' d _=>h s' d) hf
def Inv.JJ{s':aC}{ch:bb}(I:Inv X pins σ H s)(ho:s'.os=s.os)(u:Un (frs X.stack) ch H H' s.heap s'.heap)(hok:vO X.prog X.w H' s'.heap)(hg:AllBare s'.gens)
  (hch:∀b∈ch,(b∈X.ex\/X.s₀.heap.objs.size<=b)/\b≠X.env.locals/\(∀x c,X.env.cells.lookup x=some c->c≠b)/\∀p∈X.pn++pins,p.1≠b):Inv X pins σ H' s':=by
 obtain⟨h',g',d',t',o'⟩:=s';have e:o'=s.os:=ho;subst e;exact I.call (g':=g') (t':=t') (d':=d') u hok hg hch
end
meta abbrev XK:=af->Option ak->Hp->Prop
meta abbrev St:=List<|Option V
meta abbrev VK:=V->Hp->Prop
meta abbrev TE:=St->Hp->VK->Prop
meta abbrev TT:=St->Hp->(Bool->Hp->Prop)->Prop
meta abbrev TA:=St->Hp->(List V->Hp->Prop)->Prop
structure Ends where
 nx:St->Hp->Prop
 rt:VK
 bk:St->Hp->Prop:=λ_ _=>False
 ct:St->Hp->Prop:=λ_ _=>False
meta abbrev TS:=Ends->St->Hp->Prop
abbrev EP (X:Cx)(pins:bo)(σ:St)(Q:VK)(u:af)(s':aC):Prop:=∃v H',Inv X pins σ H' s'/\RelV v u/\Q v H'
abbrev TP (X:Cx)(pins:bo)(σ:St)(Q:Bool->Hp->Prop)(b:Bool)(s':aC):Prop:=∃H',Inv X pins σ H' s'/\Q b H'
abbrev AP (X:Cx)(pins:bo)(σ:St)(Q:List V->Hp->Prop)(us:ba)(s':aC):Prop:=∃vs H',Inv X pins σ H' s'/\Vals vs us/\Q vs H'
abbrev SP (X:Cx)(pins:bo)(D:Ends)(f:Flow)(s':aC):Prop:=
 match f with
 | .next=>∃d H',Inv X pins d H' s'/\D.nx d H'
 | .brk=>∃d H',Inv X pins d H' s'/\D.bk d H'
 | .cont=>∃d H',Inv X pins d H' s'/\D.ct d H'
 | .ret u=>∃v d H',Inv X pins d H' s'/\RelV v u/\D.rt v H'
abbrev PE (X:Cx)(e:aE)(t:TE):Prop:=
 ∀(pins:bo) (s:aC) (σ:St) (H:Hp) (Q:VK),Inv X pins σ H s->t σ H Q->wpAny (model X.prog X.w) X.A (eval e X.env) (EP X pins σ Q) X.xe s
abbrev PT (X:Cx)(e:aE)(t:TT):Prop:=
 ∀(pins:bo) (s:aC) (σ:St) (H:Hp) (Q:Bool->Hp->Prop),Inv X pins σ H s->t σ H Q->wpAny (model X.prog X.w) X.A (isTrue e X.env<|eval e X.env) (TP X pins σ Q) X.xe s
abbrev PW (X:Cx)(e:aE)(t:TT):Prop:=
 ∀(d:Sem af) (pins:bo) (s:aC) (σ:St) (H:Hp) (Q:Bool->Hp->Prop),Inv X pins σ H s->t σ H Q->wpAny (model X.prog X.w) X.A (isTrue e X.env d) (TP X pins σ Q) X.xe s
abbrev PA (X:Cx)(es:List aE)(t:TA):Prop:=
 ∀(pos:Pos) (pins:bo) (s:aC) (σ:St) (H:Hp) (Q:List V->Hp->Prop),Inv X pins σ H s->t σ H Q->wpAny (model X.prog X.w) X.A (spliced<|backTo pos<|starEach es X.env) (AP X pins σ Q) X.xe s
abbrev PS (X:Cx)(st:aF)(t:TS):Prop:=
 ∀(pins:bo) (s:aC) (σ:St) (H:Hp) (D:Ends),Inv X pins σ H s->t D σ H->wpAny (model X.prog X.w) X.A (exec st X.env) (SP X pins D) X.xe s
abbrev A4 (X:Cx)(st:List aF)(t:TS):Prop:=
 ∀(pins:bo) (s:aC) (σ:St) (H:Hp) (D:Ends),Inv X pins σ H s->t D σ H->wpAny (model X.prog X.w) X.A (execs st X.env) (SP X pins D) X.xe s
def mR{α:Type}{t:Sem α}{Q Q':α->aC->Prop}{A:aA}{E:af->aC->Prop}(h:wpAny M A t Q E s)(hQ:∀a s,Q a s->Q' a s):wpAny M A t Q' E s:=cY h hQ λ_ _ x=>x
section
variable {X:Cx}
abbrev acz (i:Nat):TE:=λσ H Q=>∃v,σ[i]?=some (some v)/\Q v H
abbrev tC (v:V):TE:=λ_ H Q=>Q v H
def YS{i:Nat}{x:Str}(hN:X.N[i]?=some x)(hv:Vis X.env.scope x)(hd:(x == ("__debug__" : Str))=false<|>δ)(hcd:(x == ("__classdict__" : Str))=false<|>δ):PE X (.Name x pos) (acz i):=by
 gn_on;obtain⟨v,e,h⟩:=h;obtain⟨m,hn,k⟩:=I.loc;obtain⟨u,r,l⟩:=k i x v hN e hv;have g:EP X pins σ Q u s:=⟨v,H,I,r,h⟩
 rcases l with⟨f,j⟩|⟨f,c,hc,d⟩
 ·exact wpAny_Name (wpAny_loadName_local I.ok.kind f hn j g) hd
 ·rcases f with f|f
  ·exact wpAny_Name (wpAny_loadName_cell I.ok.kind f hc d g) hd
  ·exact wpAny_Name (wpAny_loadName_free I.ok.kind f hc d g hcd) hd
def Y7{i j pos}:PE X (.Constant (.int i) j pos) (tC<|.int i):=λ_ _ _ H _ I h=>wpAny_Constant_int ⟨.int i,H,I.tok _,⟨_,rfl⟩,h⟩
def aaR{b j pos}:PE X (.Constant (.bool b) j pos) (tC<|.bl b):=λ_ _ _ H _ I h=>Constant_bool ⟨.bl b,H,I,rfl,h⟩
def Xu{x j pos}:PE X (.Constant (.str x) j pos) (tC<|.str x):=λ_ _ _ H _ I h=>Calls.Constant_str ⟨.str x,H,I.tok _,⟨_,rfl⟩,h⟩
abbrev Gl (X:Cx)(x:Str):Prop:=X.env.kindOf x=some .globalImplicit
def xK{E:af->aC->Prop}{H:Hp}{x:Str}{Q:af->aC->Prop}(I:Inv X pins σ H s)(hg:Gl X x)(hm:X.mg x=some u)(h:Q u s)
  (hd:(x == ("__debug__" : Str))=false<|>δ):wpAny (model X.prog X.w) X.A (eval (.Name x pos) X.env) Q E s:=
 Calls.Name_function_global I.ok.kind hg (Calls.loadGlobal_global (by rw[I.ok.glob];exact I.mod.glob.keeps I.bk) hm h) hd
def wQ{E:af->aC->Prop}{H:Hp}{x:Str}{Q:af->aC->Prop}(I:Inv X pins σ H s)(hg:Gl X x)(hm:X.mg x=none)(hv:bootBuiltins x=some u)(h:Q u s)
  (hn:x ≠ "__name__"<|>δ) (hd:(x == ("__debug__" : Str))=false<|>δ):wpAny (model X.prog X.w) X.A (eval (.Name x pos) X.env) Q E s:=by
 obtain⟨d,h1,h2⟩:=I.mod.blt;exact Calls.Name_function_global I.ok.kind hg (Calls.loadGlobal_builtin (by rw[I.ok.glob];exact I.mod.glob.keeps I.bk) hm (by rw[I.ok.blt];exact h1.keeps I.bk) ((h2 x hn).trans hv) h) hd
def CY{x:Str}{v:V}(hg:Gl X x)(hm:X.mg x=some u)(r:RelV v u)(hd:(x == ("__debug__" : Str))=false<|>δ):PE X (.Name x pos) (tC v):=
 λ_ _ _ H _ I h=>xK I hg hm ⟨v,H,I,r,h⟩ hd
def Jj{x:Str}{v:V}(hg:Gl X x)(hm:X.mg x=none)(hv:bootBuiltins x=some u)(r:RelV v u)(hn:x ≠ "__name__"<|>δ)(hd:(x == ("__debug__" : Str))=false<|>δ):PE X (.Name x pos) (tC v):=
 λ_ _ _ H _ I h=>wQ I hg hm hv ⟨v,H,I,r,h⟩ hn hd
variable {a b:aE}{ta tb:TE}{pos:Pos}
variable {tA tB':TT}{rest:List aE}
abbrev Zz (t u:TT):TT:=λσ H Q=>t σ H λc H1=>if c=true then u σ H1 Q else Q false H1
abbrev tOr (t u:TT):TT:=λσ H Q=>t σ H λc H1=>if c=true then Q true H1 else u σ H1 Q
abbrev acp (t:TT):TT:=λσ H Q=>t σ H λc H1=>Q (!c) H1
def Ug(ha:PT X a tA):PW X (.BoolOp .And [a] pos) tA:=by
 intro f pins s σ H Q I h;refine isTrue_and (mR (ha pins s σ H Q I h) λc d e=>?_)
 cases c with
 | true=>exact isTrue_and_nil e
 | false=>exact e
def Wt(ha:PT X a tA):PW X (.BoolOp .Or [a] pos) tA:=by
 intro f pins s σ H Q I h;refine isTrue_or (mR (ha pins s σ H Q I h) λc d e=>?_)
 cases c with
 | false=>exact isTrue_or_nil e
 | true=>exact e
def YW(ha:PT X a tA)(hb:PW X (.BoolOp .And (b::rest) pos) tB'):PW X (.BoolOp .And (a::b::rest) pos) (Zz tA tB'):=by
 intro j pins s σ H Q I h;refine isTrue_and (mR (ha pins s σ H _ I h) λc g ⟨H1,f,d⟩=>?_)
 cases c with
 | true=>exact hb j pins g σ H1 Q f d
 | false=>exact⟨H1,f,d⟩
def aaZ(ha:PT X a tA)(hb:PW X (.BoolOp .Or (b::rest) pos) tB'):PW X (.BoolOp .Or (a::b::rest) pos) (tOr tA tB'):=by
 intro j pins s σ H Q I h;refine isTrue_or (mR (ha pins s σ H _ I h) λc g ⟨H1,f,d⟩=>?_)
 cases c with
 | true=>exact⟨H1,f,d⟩
 | false=>exact hb j pins g σ H1 Q f d
def Xj(ha:PT X a tA):PT X (.UnaryOp .Not a pos) (acp tA):=by
 gn_on;exact isTrue_not<|ha pins s σ H (λc H1=>Q (!c) H1) I h
abbrev ZI (ta tb:TE):TE:=λσ H Q=>ta σ H λx H1=>∃c,x=.bl c/\if c=true then tb σ H1 Q else Q (.bl false) H1
abbrev Zv (ta:TE):TE:=λσ H Q=>ta σ H λx H1=>∃c,x=.bl c/\Q (.bl<|!c) H1
def XS{op}{t:TE}(h:PE X a t):PE X (.BoolOp op [a] pos) t:=λpins s σ H Q I hw=>BoolOp_one<|h pins s σ H Q I hw
def WL(ha:PE X a ta)(hb:PE X (.BoolOp .And (b::rest) pos) tb):PE X (.BoolOp .And (a::b::rest) pos) (ZI ta tb):=by
 gn_on;refine BoolOp_and<|mR (ha pins s σ H _ I h) λv g ⟨x,H1,f,r1,d⟩=>?_;obtain⟨c,rfl,d⟩:=d
 cases r1
 refine c5 ?_
 cases c with
 | true=>exact hb pins g σ H1 Q f d
 | false=>exact⟨.bl false,H1,f,rfl,d⟩
def X4(ha:PE X a ta):PE X (.UnaryOp .Not a pos) (Zv ta):=by
 gn_on;refine UnaryOp_<|mR (ha pins s σ H _ I h) λv g ⟨x,H1,f,r1,d⟩=>?_;obtain⟨c,rfl,d⟩:=d
 cases r1
 exact not_of<|c5 ⟨.bl<|!c,H1,f,rfl,d⟩
end
abbrev pO (K:au)(H:Hp)(a:ak)(xs:List V):Prop:=
 Rd H a (.lst xs) \/
  ∃(o:Obj) (d:Array af) (n:Nat),K.lookup a=some o/\o.cls=.type "list" /\ o.dict=none/\o.data=.seq d n/\d.size<=sizeLine/\Vals xs d.toList
abbrev nj (K:au)(H:Hp)(a:ak)(xs:List V):Prop:=
 Rd H a (.tup xs) \/
  ∃(o:Obj) (d:Array af) (n:Nat),K.lookup a=some o/\o.cls=.type "tuple" /\ o.dict=none/\o.data=.seq d n/\d.size<=sizeLine/\Vals xs d.toList
abbrev ab9:af->Option V
 | .none=>some .non
 | .bool b=>some (.bl b)
 | .int i _=>some (.int i)
 | .str x _=>some (.str x)
 | .bytes b _=>some (.byt b)
 | .float b _=>some (.flt b)
 | .ref a=>some (.ref a)
 | .type n=>some (.ty n)
 | _=>none
def RelV.abs{x:V}(r:RelV x u):ab9 u=some x:=by
 cases x with
 | non=>cases r;rfl
 | bl _=>cases r;rfl
 | int _=>obtain⟨t,rfl⟩:=r;rfl
 | str _=>obtain⟨t,rfl⟩:=r;rfl
 | byt _=>obtain⟨t,rfl⟩:=r;rfl
 | flt _=>obtain⟨t,rfl⟩:=r;rfl
 | ref _=>cases r;rfl
 | ty _=>cases r;rfl
def RelV.inj{x:V}(r:RelV x u)(q:RelV y u):x=y:=aZ<|r.abs.symm.trans q.abs
theorem Vals.inj:∀{xs ys:List V}{us:ba},Vals xs us->Vals ys us->xs=ys
 | _,_,_,.nil,.nil=>rfl
 | _,_,_,.cons r t,.cons f d=>by rw[r.inj f,Vals.inj t d]
section
variable {X:Cx}{pins:bo}{σ:St}{H:Hp}{s:aC}{a:ak}{xs ys:List V}
def pO.of{K:au}(h:H a=some (.lst xs)):pO K H a xs:=.inl<|.inl h
def nj.of{K:au}(h:H a=some (.tup xs)):nj K H a xs:=.inl<|.inl h
def Inv.list(I:Inv X pins σ H s)(h:pO X.K H a xs):∃its:ba,Vals xs its/\PlainL s.heap a its.toArray/\xs.length<=sizeLine:=by
 rcases h with h|⟨o,its,n,f,hc,d,hs,g,r⟩
 ·obtain⟨z,its,n,r,e⟩:=h.ok I.hok;exact⟨its,r,⟨_,n,e,rfl,rfl,rfl⟩,z⟩
 ·refine⟨its.toList,r,⟨o,n,I.Aw a o f,hc,d,by simpa using hs⟩,?_⟩;have e:=r.length;dsimp[d_]at e
  lia
def Inv.tuple(I:Inv X pins σ H s)(h:nj X.K H a xs):∃its:ba,Vals xs its/\IsTup s.heap a its.toArray/\xs.length<=sizeLine:=by
 rcases h with h|⟨o,its,n,d,hc,_,hs,f,r⟩
 ·obtain⟨z,its,r,p⟩:=h.ok I.hok;exact⟨its,r,p.tup,z⟩
 ·refine⟨its.toList,r,⟨o,I.Aw a o d,hc,n,by simpa using hs⟩,?_⟩;have e:=r.length;dsimp[d_]at e
  lia
def Inv.NR(I:Inv X pins σ H s)(h:pO X.K H a xs)(h':pO X.K H a ys):xs=ys:=by
 obtain⟨g,r,⟨o,n,e,_,_,d⟩,_⟩:=I.list h;obtain⟨f,m,⟨o',q,k,_,_,j⟩,_⟩:=I.list h';rw[e]at k;cases k;rw[d]at j
 injection j with p _
 have:g=f:=by simpa using c9 Array.toList p
 subst this;exact r.inj m
def Inv.vC(I:Inv X pins σ H s)(h:nj X.K H a xs)(h':nj X.K H a ys):xs=ys:=by
 obtain⟨g,r,⟨o,e,_,n,d⟩,_⟩:=I.tuple h;obtain⟨f,m,⟨o',k,_,q,j⟩,_⟩:=I.tuple h';rw[e]at k;cases k;rw[d]at j
 injection j with p _
 have:g=f:=by simpa using c9 Array.toList p
 subst this;exact r.inj m
end
meta abbrev Cx.A5 (X:Cx)(E:af->aC->Prop):Cx:={ X with xe:=E }
meta abbrev Cx.Zy (X:Cx):Cx:=X.A5 λ_ _=>False
def Cx.Ok.A5{X:Cx}(ok:X.Ok)(E:af->aC->Prop):(X.A5 E).Ok:=
 ⟨ok.mod,ok.kind,ok.glob,ok.blt,ok.above,ok.inj,ok.has,ok.cab,ok.hd,ok.frames,ok.stk,ok.exf,ok.bs,ok.bsz,ok.noex,ok.exfs,ok.tZ,ok.frf⟩
def Cx.Ok.uH{X:Cx}{E:af->aC->Prop}(ok:(X.A5 E).Ok):X.Ok:=
 ⟨ok.mod,ok.kind,ok.glob,ok.blt,ok.above,ok.inj,ok.has,ok.cab,ok.hd,ok.frames,ok.stk,ok.exf,ok.bs,ok.bsz,ok.noex,ok.exfs,ok.tZ,ok.frf⟩
section
variable {X:Cx}{pins:bo}{σ:St}{H:Hp}{s:aC}{E:af->aC->Prop}
def Inv.A5(I:Inv X pins σ H s)(E:af->aC->Prop):Inv (X.A5 E) pins σ H s:=⟨I.ok.A5 E,I.os,I.bare,I.base,I.loc,I.cell,I.free,I.freeC,I.pin,I.hok,I.len⟩
def Inv.uH(I:Inv (X.A5 E) pins σ H s):Inv X pins σ H s:=⟨I.ok.uH,I.os,I.bare,I.base,I.loc,I.cell,I.free,I.freeC,I.pin,I.hok,I.len⟩
def SP.uH{D:Ends}{f:Flow}(h:SP (X.A5 E) pins D f s'):SP X pins D f s':=by
 cases f with
 | next=>obtain⟨d,H',I,q⟩:=h;exact⟨d,H',I.uH,q⟩
 | brk=>obtain⟨d,H',I,q⟩:=h;exact⟨d,H',I.uH,q⟩
 | cont=>obtain⟨d,H',I,q⟩:=h;exact⟨d,H',I.uH,q⟩
 | ret u=>obtain⟨v,d,H',I,r,q⟩:=h;exact⟨v,d,H',I.uH,r,q⟩
def A4.Zy{st:List aF}{t:TS}(h:A4 X.Zy st t):A4 X st t:=λpins s σ H D I hw=>
 cY (h pins s σ H D (I.A5 _) hw) (λ_ _ q=>q.uH) λ_ _ z=>False.elim z
end
section
variable {X:Cx}{st:aF}{rest:List aF}{t u:TS}{e:aE}{te:TE}{pos:Pos}
abbrev ZP:TS:=λD σ H=>D.nx σ H
abbrev aao (t u:TS):TS:=λD σ H=>t { D with nx:=u D } σ H
def Uz:A4 X [] ZP:=λ_ _ σ H _ I h=>gz ⟨σ,H,I,h⟩
def Nc(h1:PS X st t)(h2:A4 X rest u):A4 X (st::rest) (aao t u):=by
 ksr_p;refine wpAny_execs_cons (mR (h1 pins s σ H { D with nx:=u D } I h) λf g q=>?_)
 cases f with
 | next=>
  obtain⟨d,H',j,q⟩:=q;exact h2 pins g d H' D j q
 | ret v=>exact q
 | brk=>exact q
 | cont=>exact q
def RV(h1:PS X st t):A4 X [st] t:=by
 ksr_p;refine wpAny_execs_cons (mR (h1 pins s σ H D I h) λf d q=>?_)
 cases f with
 | next=>exact gz q
 | ret v=>exact q
 | brk=>exact q
 | cont=>exact q
def Inv.quiet{H:Hp}(I:Inv X pins σ H s):interactive X.env=false:=by simp[interactive,I.ok.kind]
abbrev ZO (te:TE):TS:=λD σ H=>te σ H λ_ H1=>D.nx σ H1
def TQ(he:PE X e te)(hs:swapsWith e none pos.line X.env=pure false<|>ε):PS X (.Expr e pos) (ZO te):=by
 ksr_p;exact wpAny_Expr_any (mR (he pins s σ H _ I h) λv g ⟨x,H1,f,r1,d⟩=>⟨σ,H1,f,d⟩) I.quiet hs
abbrev abB (te:TE):TS:=λD σ H=>te σ H D.rt
def Za(he:PE X e te):PS X (.Return (some e) pos) (abB te):=by
 ksr_p;exact wpAny_Return_some<|mR (he pins s σ H _ I h) λv g ⟨x,H1,f,r1,d⟩=>⟨x,σ,H1,f,r1,d⟩
abbrev acG (c:TT)(t u:TS):TS:=λD σ H=>c σ H λb H1=>if b=true then t D σ H1 else u D σ H1
def aaJ{c:aE}{a:List aF}{tc:TT}(hc:PT X c tc)(ha:A4 X a t)(hb:A4 X b u):PS X (.If c a b pos) (acG tc t u):=by
 ksr_p;refine wpAny_If (mR (hc pins s σ H _ I h) λd g ⟨H1,j,f⟩=>?_)
 cases d with
 | true=>exact ha pins g σ H1 D j f
 | false=>exact hb pins g σ H1 D j f
end
meta abbrev TG:=V->St->Hp->(St->Hp->Prop)->Prop
meta abbrev VQ:=List V->St->Hp->(St->Hp->Prop)->Prop
abbrev PG (X:Cx)(target:aE)(t:TG):Prop:=
 ∀(pins:bo) (s:aC) (σ:St) (H:Hp) (v:V) (u:af) (Q:St->Hp->Prop),Inv X pins σ H s->RelV v u->t v σ H Q ->
  wpAny (model X.prog X.w) X.A (assign target X.env u) (λ_ s'=>∃d H',Inv X pins d H' s'/\Q d H') X.xe s
abbrev PGs (X:Cx)(ts:List aE)(t:VQ):Prop:=
 ∀(pins:bo) (s:aC) (σ:St) (H:Hp) (vs:List V) (us:ba) (Q:St->Hp->Prop),Inv X pins σ H s->Vals vs us->t vs σ H Q ->
  wpAny (model X.prog X.w) X.A (assignInOrder ((assignEach ts X.env).map (·.2)) us) (λ_ s'=>∃d H',Inv X pins d H' s'/\Q d H') X.xe s
meta abbrev G8:=V->V->V->Hp->(Hp->Prop)->Prop
abbrev FG (X:Cx)(t:G8):Prop:=
 ∀(pins:bo) (s:aC) (σ:St) (H:Hp) (o i v:V) (d iv u:af) (Q:Hp->Prop),Inv X pins σ H s->RelV o d->RelV i iv->RelV v u->t o i v H Q ->
  wpAny (model X.prog X.w) X.A (setItem d iv u) (λ_ s'=>∃H',Inv X pins σ H' s'/\Q H') X.xe s
meta abbrev TIp:=V->V->Hp->VK->Prop
abbrev PIp (X:Cx)(op:Operator)(t:TIp):Prop:=
 ∀(pins:bo) (s:aC) (σ:St) (H:Hp) (x y:V) (v u:af) (Q:VK),Inv X pins σ H s->RelV x v->RelV y u->t x y H Q ->
  wpAny (model X.prog X.w) X.A (inplaceOp op v u) (EP X pins σ Q) X.xe s
section
variable {X:Cx}{pos:Pos}
abbrev Iw (i:Nat):TG:=λv σ H Q=>Q (σ.set i<|some v) H
def Dr{i:Nat}{x:Str}(hN:X.N.Nodup)(hi:X.N[i]?=some x)(hx:Loc X.env.scope x)(hf:X.fn x=true\/X.env.scope.names.lookup x=some .local<|>γ):PG X (.Name x pos) (Iw i):=by
 intro pins s σ H v u Q I r h;exact wpAny_assign_Name<|u9 I hN hi hx r (λs' d=>⟨_,H,d,h⟩) hf
abbrev acm:VQ:=λvs σ H Q=>vs=[]/\Q σ H
abbrev ZE (t:TG)(u:VQ):VQ:=λvs σ H Q=>∃v r,vs=v::r/\t v σ H λd H'=>u r d H' Q
def TV:PGs X [] acm:=by
 intro pins s σ H vs us Q I r h;obtain⟨e,h⟩:=h;subst e
 cases r
 exact assignInOrder_nil ⟨σ,H,I,h⟩
def N9{e:aE}{t:TG}{u:VQ}(h1:PG X e t)(h2:PGs X es u)
  (hs:(assignEach (e::es) X.env).map (·.2)=assign e X.env::(assignEach es X.env).map (·.2)<|>ε):PGs X (e::es) (ZE t u):=by
 intro pins s σ H vs us Q I r h;obtain⟨v,m,e1,h⟩:=h;subst e1
 cases r with
 | cons r f=>
  rw[hs];refine assignInOrder_cons<|mR (h1 pins s σ H _ _ _ I r h) λ_ j ⟨d,H1,k,g⟩=>?_;exact h2 pins j d H1 _ _ Q k f g
abbrev acE (K:au)(n:Nat)(t:VQ):TG:=λv σ H Q=>∃a xs,v=.ref a/\nj K H a xs/\xs.length=n/\t xs σ H Q
def W5{k:Nat}{t:VQ}{n:Nat}(hc:X.calm=true)(h:PGs X es t)
  (hn:(assignEach es X.env).length=n<|>ε) (hst:(assignEach es X.env).findIdx? (·.1)=none<|>ε):PG X (.Tuple es k pos) (acE X.K n t):=by
 intro pins s σ H v u Q I r hw;obtain⟨a,xs,e1,hq,j,hw⟩:=hw;subst e1
 cases r
 obtain⟨g,d,m,q⟩:=I.tuple hq;refine assign_Tuple_tuple (I.ok.hd hc) m (by simp[hn,<- j,d.length]) hst λh' p=>?_;have f:Inv X pins σ H { s with heap:=h' }:=I.kept (t':=s.toks) λb o e=>p b o (bC<|a_ e) e;exact h pins _ σ H xs _ Q f (by simpa using d) hw
abbrev acj (to ti:TE)(t:G8):TG:=λv σ H Q=>to σ H λo H1=>ti σ H1 λi H2=>t o i v H2 λH3=>Q σ H3
def C1{to ti:TE}{t:G8}(ho:PE X o to)(hi:PE X i ti)(hs:FG X t)
  (ha:(∀v,assign (.Subscript o i pos) X.env v=(do
   let ov <- holding [v] (eval o X.env)
   let iv <- holding [v,ov] (eval i X.env)
   standAt pos
   holding [v,ov,iv] (setItem ov iv v)
   release [v,ov,iv] []))<|>ζ):PG X (.Subscript o i pos) (acj to ti t):=by
 intro pins s σ H v u Q I r h;rw[ha];refine aG<|cC<|mR (ho pins s σ H _ I h) λov g ⟨x,H1,j,r1,d⟩=>?_;refine aG<|cC<|mR (hi pins g σ H1 _ j d) λiv p ⟨y,H2,f,r2,q⟩=>?_;refine aG<|fj<|aG<|cC<|mR (hs pins p σ H2 x y v ov iv u _ f r1 r2 r q) λ_ z ⟨H3,m,k⟩=>?_;exact wpAny_release ⟨σ,H3,m,k⟩
abbrev M9 (te:TE)(g:TG):TS:=λD σ H=>te σ H λx H1=>g x σ H1 D.nx
def WE{tg e:aE}{te:TE}{g:TG}(he:PE X e te)(hg:PG X tg g)(hs:swapsWithSole [tg] e pos.line X.env=pure false<|>ε)(hw:swappedStores [tg] e X.env=pure none<|>ε)
  (h1:(assignEach [tg] X.env).map (·.2)=[assign tg X.env]<|>ε):PS X (.Assign [tg] e pos) (M9 te g):=by
 ksr_p;refine wpAny_Assign_stores (mR (he pins s σ H _ I h) λv f ⟨x,H1,j,r1,d⟩=>?_) hs hw;rw[h1];exact mR (hg pins f σ H1 x v _ j r1 d) λ_ k q=>q
def Wy{i:Nat}{x:Str}{e:aE}{te:TE}(hN:X.N.Nodup)(hi:X.N[i]?=some x)(hx:Loc X.env.scope x)(he:PE X e te)(hs:(swapsWith e (some<|.Name x pos') pos.line X.env=pure false)<|>ε)(hf:X.fn x=true\/X.env.scope.names.lookup x=some .local<|>γ) :
  PS X (.Assign [.Name x pos'] e pos) (M9 te<|Iw i):=by
 ksr_p;refine wpAny_Assign_Name (mR (he pins s σ H _ I h) λv k ⟨y,H1,g,r1,d⟩=>?_) hs;exact u9 g hN hi hx r1 (λj f=>⟨_,H1,f,d⟩) hf
abbrev aco (i:Nat)(te:TE)(ti:TIp):TS:=λD σ H=>∃x,σ[i]?=some (some x)/\te σ H λy H1=>ti x y H1 λz H2=>D.nx (σ.set i<|some z) H2
def Xf{i:Nat}{x:Str}{e:aE}{te:TE}{ti:TIp}(hN:X.N.Nodup)(hi:X.N[i]?=some x)(hx:Loc X.env.scope x)(he:PE X e te)(ho:PIp X op ti)(hf:X.fn x=true\/X.env.scope.names.lookup x=some .local<|>γ) :
  PS X (.AugAssign (.Name x pos') op e pos) (aco i te ti):=by
 ksr_p;obtain⟨v,e1,h⟩:=h;obtain⟨m,hn,K⟩:=I.loc;have p:Vis X.env.scope x:=by rcases hx with k|k;exact .inl k;exact .inr (.inl k)
 obtain⟨u,r,l⟩:=K i x v hi e1 p;refine wpAny_AugAssign_Name ?_;have q:wpAny (model X.prog X.w) X.A (eval e X.env) (λw j=>wpAny (model X.prog X.w) X.A (inplaceOp op u w) (λr g=>wpAny (model X.prog X.w) X.A (storeName X.env x r) (λ_=>SP X pins D .next) X.xe g) X.xe j) X.xe s:=by
  refine mR (he pins s σ H _ I h) λw C ⟨y,H1,F,r1,t⟩=>?_;refine mR (ho pins C σ H1 v y u w _ F r r1 t) λz O ⟨M,H2,B,r2,L⟩=>?_;exact u9 B hN hi hx r2 (λP J=>⟨_,H2,J,L⟩) hf
 rcases l with⟨d,G⟩|⟨d,c,hc,f⟩
 ·exact wpAny_loadName_local I.ok.kind d hn G q
 ·rcases d with d|d
  ·exact wpAny_loadName_cell I.ok.kind d hc f q
  ·rcases hx with k|k
   ·have:X.env.scope.names.lookup x=some .free:=d;rw[k]at this;cases this
   ·have:X.env.scope.names.lookup x=some .free:=d;rw[k]at this;cases this
end
section
variable {X:Cx}{pos:Pos}
abbrev O_ (c:TT)(tb:TS):TS:=λD σ H=>∃W:Nat->St->Hp->Prop,(∃m,W m σ H)/\∀m σ H,W m σ H ->
 c σ H λb H1=>if b=true then ∃N:St->Hp->Prop,(∀d H',N d H'->∃f,f<m/\W f d H')/\tb { D with nx:=N,ct:=N,bk:=D.nx } σ H1 else D.nx σ H1
def QM{c:aE}{tc:TT}{tb:TS}(hp:PassesOwn (model X.prog X.w) X.A X.env X.xe)(hc:PT X c tc)(hb:A4 X body tb):PS X (.While c body [] pos) (O_ tc tb):=by
 ksr_p;obtain⟨W,⟨G,M⟩,turn⟩:=h;refine wpAny_While<|codeAny_whileLoop (λn s'=>∃j H',Inv X pins j H' s'/\W n j H') ?_ G ⟨σ,H,I,M⟩;rintro n K ⟨g,H1,L,O⟩;refine eW hp (mR (hc pins K g H1 _ L<|turn n g H1 O) λb J ⟨H2,C,k⟩=>?_)
 cases b with
 | true=>
  obtain⟨N,F,k⟩:=k;rw[aS rfl];refine eW hp (mR (hb pins J g H2 _ C k) λf P m=>?_)
  cases f with
  | next=>
   obtain⟨d,H3,q,B⟩:=m;obtain⟨z,p,t⟩:=F d H3 B;exact⟨z,p,d,H3,q,t⟩
  | cont=>
   obtain⟨d,H3,q,B⟩:=m;obtain⟨z,p,t⟩:=F d H3 B;exact⟨z,p,d,H3,q,t⟩
  | brk=>exact m
  | ret v=>exact m
 | false=>
  rw[aQ bF];exact gz ⟨g,H2,C,k⟩
end
structure It where
 go:Nat->Hp->Prop
 yld:Nat->Hp->V->Hp->Prop
 stop:Nat->Hp->Prop
abbrev vL (X:Cx)(pins:bo)(H:Hp)(b:ak):Prop:=
 H b=none/\b≠X.env.locals/\b∉X.fs/\(b∈X.ex\/X.s₀.heap.objs.size<=b)/\(∀x c,X.env.cells.lookup x=some c->c≠b)/\∀p∈X.pn++pins,p.1≠b
def Inv.AX{X:Cx}{H H':Hp}{s:aC}(I:Inv X pins σ H s)(hb:s.heap.objs.size<=b)(hn:H' b=none):vL X pins H' b:=by
 refine⟨hn,jt<|bN I.lt hb,I.abH hb,.inr<|bM I.sz hb,λx c e z=>?_,λp hp z=>?_⟩
 ·obtain⟨v,q⟩:=I.cell x c e;exact absurd (bN q.lt<|by rw[z];exact hb) (fh _)
 ·exact absurd (bN (a_ (I.pin p hp).1)<|by rw[z];exact hb)<|fh _
structure Turn (P:aj)(w:ah)(K:au)(tg:aE)(J:It)(fp:bb)(it:ak)(tn:Nat->aq->Prop):Prop where
 mem:it∈fp
 obj:∀i h,tn i h->∀b∈fp,∃o,h.get? b=some o/\∀v,o.data≠.cell v
 keep:∀i h h',tn i h->(∀b∈fp,∀o,h.get? b=some o->h'.get? b=some o)->tn i h'
 item:∀(X:Cx),X.prog=P->X.w=w->X.K=K->X.calm=true->∀(i:Nat) (pins:bo) (s:aC) (σ:St) (H:Hp) (E:af->aC->Prop),Inv X pins σ H s->(∀b∈fp,vL X pins H b)->tn i s.heap->J.go i H ->
  wpAny (model P w) X.A (pyNext<|.ref it) (λr s1=>∃u,r=some u /\
   wpAny (model P w) X.A (letOwnedTupleGo tg (.ref it) u) (λ_ s2=>∃x H',Inv X pins σ H' s2/\RelV x u/\J.yld i H x H'/\tn (i+1) s2.heap/\∀b∈fp,H' b=none) E s1) E s
 done:∀(X:Cx),X.prog=P->X.w=w->X.K=K->X.calm=true->∀(i:Nat) (pins:bo) (s:aC) (σ:St) (H:Hp) (E:af->aC->Prop),Inv X pins σ H s->(∀b∈fp,vL X pins H b)->tn i s.heap->J.stop i H ->
  wpAny (model P w) X.A (pyNext<|.ref it) (λr s1=>r=none/\Inv X pins σ H s1) E s
 self:∀(A:aA) (i:Nat) (s:aC) (Q:af->aC->Prop) (E:af->aC->Prop),tn i s.heap->Q (.ref it) s->wpAny (model P w) A (pyIter<|.ref it) Q E s
meta abbrev TI:=St->Hp->(It->Hp->Prop)->Prop
abbrev PIE (X:Cx)(pins:bo)(σ:St)(tg:aE)(R:It->Hp->Prop)(itv:af)(s2:aC):Prop:=
 ∃(it:ak) (fp:bb) (d:Nat->aq->Prop) (J:It) (H':Hp),itv=.ref it/\Inv X pins σ H' s2/\Turn X.prog X.w X.K tg J fp it d/\d 0 s2.heap/\(∀b∈fp,vL X pins H' b)/\R J H'
abbrev PI (X:Cx)(tg iter:aE)(wi:TI):Prop:=
 ∀(pins:bo) (s:aC) (σ:St) (H:Hp) (R:It->Hp->Prop),Inv X pins σ H s->wi σ H R ->
  wpAny (model X.prog X.w) X.A (eval iter X.env) (λv d=>wpAny (model X.prog X.w) X.A (pyIter v) (PIE X pins σ tg R) X.xe d) X.xe s
def BJ{A:aA}{E:af->aC->Prop}{s:aC}{o:Obj}{n:String}{Q:Unit->aC->Prop}(ho:s.heap.get? it=some o)(hc:o.cls=.type n)(hd:o.data=.fields vs)
  (hn:["enumerate", "zip", "dict_itemiterator", "dict_reverseitemiterator", "odict_iterator", "itertools.zip_longest", "itertools.pairwise"].contains n=false) (hQ:Q Unit.unit s):wpAny M A (letOwnedTupleGo tg (.ref it) u) Q E s:=by
 unfold letOwnedTupleGo
 cases tg<;>first
  | exact aN hQ
  | (cases u<;>first
    | exact aN hQ
    | (refine aG (wpAny_load ho ?_)
       rw[hc,hd];show wpAny M A (if (["enumerate", "zip", "dict_itemiterator", "dict_reverseitemiterator", "odict_iterator", "itertools.zip_longest", "itertools.pairwise"].contains n && vs[0]? == some (rawInt _))=true then _ else _) Q E s;rw[aQ<|by intro h;rw[hn,Bool.false_and]at h;cases h];exact aN hQ))
abbrev Itl (K:au)(a:ak):It:=
 ⟨λi H=>∃xs x,pO K H a xs/\xs[i]?=some x,λi H x H'=>H'=H/\∀xs,pO K H a xs->xs[i]?=some x,λi H=>∃xs,pO K H a xs/\xs.length<=i⟩
abbrev Itt (K:au)(a:ak):It:=
 ⟨λi H=>∃xs x,nj K H a xs/\xs[i]?=some x,λi H x H'=>H'=H/\∀xs,nj K H a xs->xs[i]?=some x,λi H=>∃xs,nj K H a xs/\xs.length<=i⟩
abbrev Zj (lo:Int)(n:Nat):It:=⟨λi _=>i<n,λi H x H'=>H'=H/\x=.int (lo+i),λi _=>n<=i⟩
def Le{P:aj}{w:ah}{K:au}(a it:ak):Turn P w K tg (Itl K a) [it] it (λi h=>h.IsListIter it a i) where
 mem:=by simp
 obj:=λi h st b hb=>by
  have e:b=it:=by simpa using hb
  subst e;obtain⟨o,e,c,d⟩:=st;exact⟨o,e,λv z=>by rw[d]at z;cases z⟩
 keep:=λi h h' st k=>st.at λo e=>k it (by simp) o e
 item:=by
  x_go;subst hP hw hK;obtain⟨xs,x,hq,m⟩:=hg;obtain⟨j,g,p,C⟩:=I.list hq;obtain⟨u,G,t⟩:=g.get m;kt_k;refine wpAny_pyNext_list_item st p.isList (x:=u) (by simpa using G) λh' f q=>?_;have B:Inv X pins σ H { s with heap:=h' }:=I.turned (t':=s.toks) (λb o hb e=>(q.2 b hb).trans e) f0 f1 f3 f4 f5;obtain⟨o,e,c,d⟩:=id f;exact⟨u,rfl,BJ (s:={ s with heap:=h' }) e c d ⋯ ⟨x,H,B,t,⟨rfl,λys hy=>by rw[I.NR hy hq];exact m⟩,f,λb hb=>(hf b hb).1⟩⟩
 done:=by
  x_go;subst hP hw hK;obtain⟨xs,hq,m⟩:=hg;obtain⟨j,g,p,C⟩:=I.list hq;kt_k;have J:=g.length;exact wpAny_pyNext_list_end (I.ok.hd hc) st p.isList (by simp;omega) λh' F=>⟨rfl,I.turned (t':=s.toks) (λb o hb e=>F b o hb e) f0 f1 f3 f4 f5⟩
 self:=λ_ _ _ _ _ st h=>wpAny_pyIter_listiter st h
def Gm{P:aj}{w:ah}{K:au}(a it:ak):Turn P w K tg (Itt K a) [it] it (λi h=>h.IsTupleIter it a i) where
 mem:=by simp
 obj:=λi h st b hb=>by
  have e:b=it:=by simpa using hb
  subst e;obtain⟨o,e,c,d⟩:=st;exact⟨o,e,λv z=>by rw[d]at z;cases z⟩
 keep:=λi h h' st k=>st.at λo e=>k it (by simp) o e
 item:=by
  x_go;subst hP hw hK;obtain⟨xs,x,hq,m⟩:=hg;obtain⟨f,j,p,C⟩:=I.tuple hq;obtain⟨u,G,t⟩:=j.get m;kt_k;refine wpAny_pyNext_tuple_item st (show s.heap.IsTuple a f.toArray from p) (x:=u) (by simpa using G) λh' g q=>?_;have B:Inv X pins σ H { s with heap:=h' }:=I.turned (t':=s.toks) (λb o hb e=>(q.2 b hb).trans e) f0 f1 f3 f4 f5;obtain⟨o,e,c,d⟩:=id g;exact⟨u,rfl,BJ (s:={ s with heap:=h' }) e c d ⋯ ⟨x,H,B,t,⟨rfl,λys hy=>by rw[I.vC hy hq];exact m⟩,g,λb hb=>(hf b hb).1⟩⟩
 done:=by
  x_go;subst hP hw hK;obtain⟨xs,hq,m⟩:=hg;obtain⟨f,j,p,C⟩:=I.tuple hq;kt_k;have J:=j.length;exact wpAny_pyNext_tuple_end (I.ok.hd hc) st (show s.heap.IsTuple a f.toArray from p) (by simp;omega) λh' F=>⟨rfl,I.turned (t':=s.toks) (λb o hb e=>F b o hb e) f0 f1 f3 f4 f5⟩
 self:=λ_ _ _ _ _ st h=>wpAny_pyIter_tupleiter st h
def wM{P:aj}{w:ah}{K:au}(it:ak)(lo:Int)(n:Nat):Turn P w K tg (Zj lo n) [it] it (λi h=>IsRangeIter h it (lo+(i:Nat) * 1) ((n:Int)-(i:Nat)) 1) where
 mem:=by simp
 obj:=λi h st b hb=>by
  have e:b=it:=by simpa using hb
  subst e;exact⟨_,st,λv z=>by
   have j:Data.fields _=Data.cell v:=z
   cases j⟩
 keep:=λi h h' st k=>k it (by simp) _ st
 item:=by
  x_go;subst hP hw hK;kt_k;have W:=Walks.range (prog:=X.prog) (w:=X.w) (I.ok.hd hc) it lo 1 n;refine W.item i s _ _ hg st λv h' f hv d m=>?_;obtain⟨t,rfl⟩:=hv;have g:Inv X pins σ H { s with heap:=h',toks:=f }:=I.turned (λb o hb e=>m b o (by simpa using hb) e) f0 f1 f3 f4 f5;refine⟨_,rfl,BJ (s:={ s with heap:=h',toks:=f }) (n := "range_iterator") d rfl rfl ⋯ ⟨.int<|lo+i,H,g,⟨t,?_⟩,⟨rfl,rfl⟩,d,λb hb=>(hf b hb).1⟩⟩;rw[mul_one]
 done:=by
  x_go;subst hP hw hK;kt_k;exact wpAny_pyNext_range_end (I.ok.hd hc) st (by have:n<=i:=hg;lia) λh' p=>⟨rfl,I.turned (t':=s.toks) (λb o hb e=>p b o hb e) f0 f1 f3 f4 f5⟩
 self:=λ_ _ _ _ _ st h=>wpAny_pyIter_rangeiter st h
section
variable {X:Cx}{tg:aE}
abbrev Z8 (K:au)(tl:TE):TI:=λσ H R=>tl σ H λx H1=>∃a,x=.ref a/\(∃xs,pO K H1 a xs)/\R (Itl K a) H1
abbrev abF (K:au)(tl:TE):TI:=λσ H R=>tl σ H λx H1=>∃a,x=.ref a/\(∃xs,nj K H1 a xs)/\R (Itt K a) H1
def HJ{l:aE}{tl:TE}(hl:PE X l tl):PI X tg l (Z8 X.K tl):=by
 intro pins s σ H R I h;refine mR (hl pins s σ H _ I h) λv d ⟨x,H1,I1,r1,f⟩=>?_;obtain⟨a,e,⟨xs,hq⟩,q⟩:=f;subst e
 cases r1
 obtain⟨g,j,p,k⟩:=I1.list hq;refine jf p.isList ?_;refine⟨d.heap.objs.size,[d.heap.objs.size],_,_,H1,rfl,I1.kept (t':=d.toks) λb o e=>aM _ e,Le a _,⟨_,bu _ rfl,rfl,rfl⟩,λb hb=>?_,q⟩;have e:b=d.heap.objs.size:=by simpa using hb
 subst e;exact I1.AX (aL _)<|I1.hok.fresh<|aL _
def Qh{l:aE}{tl:TE}(hl:PE X l tl):PI X tg l (abF X.K tl):=by
 intro pins s σ H R I h;refine mR (hl pins s σ H _ I h) λv d ⟨x,H1,I1,r1,g⟩=>?_;obtain⟨a,e,⟨xs,hq⟩,q⟩:=g;subst e
 cases r1
 obtain⟨f,j,p,k⟩:=I1.tuple hq;refine gC (show d.heap.IsTuple a f.toArray from p) ?_;refine⟨d.heap.objs.size,[d.heap.objs.size],_,_,H1,rfl,I1.kept (t':=d.toks) λb o e=>aM _ e,Gm a _,⟨_,bu _ rfl,rfl,rfl⟩,λb hb=>?_,q⟩;have e:b=d.heap.objs.size:=by simpa using hb
 subst e;exact I1.AX (aL _)<|I1.hok.fresh<|aL _
def D_{H:Hp}{s:aC}{R:It->Hp->Prop}{E:af->aC->Prop}{lo hi:Int}{t v:Tok}{tk:Nat}(I:Inv X pins σ H s)(h1:-(2 ^ 62)<=lo)(h2:lo<2 ^ 62)(h3:-(2 ^ 62)<=hi)(h4:hi<2 ^ 62)
  (q:R (Zj lo (hi-lo).toNat) H):wpAny (model X.prog X.w) X.A (pyIter<|.ref s.heap.objs.size) (PIE X pins σ tg R) E { s with heap:=s.heap.push { cls:=.type "range",data:=.fields #[.int lo t,.int hi u,.int 1 v]},toks:=tk }:=by
 refine wpAny_pyIter_range (IsRange.new ..) (small_one h1 h2 h3 h4) ?_;have I1:Inv X pins σ H { s with heap:=s.heap.push { cls:=.type "range",data:=.fields #[.int lo t,.int hi u,.int 1 v]},toks:=tk }:=I.kept λb o e=>aM _ e;refine⟨(s.heap.push { cls:=.type "range",data:=.fields #[.int lo t,.int hi u,.int 1 v]}).objs.size,[(s.heap.push { cls:=.type "range",data:=.fields #[.int lo t,.int hi u,.int 1 v]}).objs.size],_,_,H,rfl,
  I1.kept (t':=tk) λb o e=>aM _ e,wM _ lo (hi-lo).toNat,?_,λb hb=>?_,q⟩
 ·have e1:lo+((0:Nat):Int) * 1=lo:=by simp
  have e2:(((hi-lo).toNat:Nat):Int)-((0:Nat):Int)=Builtin.Range.rangeSize lo hi 1:=by rw[rangeSize_one];split<;>lia
  skip
  rw[e1,e2];exact bu _ rfl
 ·have e:b=(s.heap.push { cls:=.type "range",data:=.fields #[.int lo t,.int hi u,.int 1 v]}).objs.size:=by simpa using hb
  subst e;exact I1.AX (aL _)<|I1.hok.fresh<|aL _
abbrev rF (ta:TA):TI:=λσ H R=>ta σ H λvs H1=>∃j:Int,vs=[.int j]/\-(2 ^ 62)<=j/\j<2 ^ 62/\R (Zj 0 j.toNat) H1
abbrev yx (ta:TA):TI:=λσ H R=>ta σ H λvs H1=>∃i j:Int,vs=[.int i,.int j]/\(-(2 ^ 62)<=i/\i<2 ^ 62/\-(2 ^ 62)<=j/\j<2 ^ 62)/\R (Zj i (j-i).toNat) H1
def KS{a:aE}{ta:TA}{p:Pos}(hg:Gl X "range")(hm:X.mg "range" = none)(ha:PA X [a] ta)(hs:starEach [a] X.env=[(false,eval a X.env)]<|>ε):PI X tg (.Call (.Name "range" p) [a] [] pos) (rF ta):=by
 intro pins s σ H R I h;refine Call_<|wQ I hg hm boot_range<|dF (mR (ha pos pins s σ H _ I h) λus m ⟨vs,H1,g,r1,d⟩=>?_) hs rfl;obtain⟨j,e,d,k,q⟩:=d;subst e
 cases r1 with
 | cons r f=>
  cases f
  obtain⟨t,rfl⟩:=r;exact call_range_1<|D_ g () () d k<|by simpa using q
def Mc{a b:aE}{ta:TA}{p:Pos}(hg:Gl X "range")(hm:X.mg "range" = none)(ha:PA X [a,b] ta)(hs:starEach [a,b] X.env=[(false,eval a X.env),(false,eval b X.env)]<|>ε)(hs2:starEach [b] X.env=[(false,eval b X.env)]<|>ε) :
  PI X tg (.Call (.Name "range" p) [a,b] [] pos) (yx ta):=by
 intro pins s σ H R I h;refine Call_ (wQ I hg hm boot_range<|dF (mR (ha pos pins s σ H _ I h) λus C ⟨vs,H1,k,r1,f⟩=>?_) (by rw[hs,hs2])<|by rw[hs2];rfl);obtain⟨i,j,e,⟨f,B,m,z⟩,q⟩:=f;subst e
 cases r1 with
 | cons r d=>
  cases d with
  | cons g d=>
   cases d
   obtain⟨t,rfl⟩:=r;obtain⟨F,rfl⟩:=g;exact call_range_2<|D_ k f B m z q
abbrev abJ (wi:TI)(g:TG)(tb:TS):TS:=λD σ H=>wi σ H λJ H1=>∃W:Nat->Nat->St->Hp->Prop,(∃m,W 0 m σ H1)/\∀i m σ H,W i m σ H ->
 (J.stop i H/\D.nx σ H)\/(J.go i H/\∃N:St->Hp->Prop,(∀d H',N d H'->∃j,j<m/\W (i+1) j d H')/\∀x H',J.yld i H x H'->g x σ H' λf H2=>tb { D with nx:=N,ct:=N,bk:=D.nx } f H2)
abbrev yj (fp:bb)(h:aq):bo:=fp.filterMap λb=>(h.get? b).map λo=>(b,o)
def ni{fp:bb}{h:aq}{b:ak}(hb:b∈fp)(e:h.get? b=some o):(b,o)∈yj fp h:=gD.mpr ⟨b,hb,by rw[e];rfl⟩
def KQ{fp:bb}{h:aq}{p:ak×Obj}(hp:p∈yj fp h):p.1∈fp/\h.get? p.1=some p.2:=by
 obtain⟨b,hb,e⟩:=gD.mp hp
 cases q:h.get? b with
 | none=>rw[q]at e;cases e
 | some o=>
  rw[q]at e;have d:(b,o)=p:=aZ e;subst d;exact⟨hb,q⟩
def Inv.pinned{H:Hp}{s:aC}{fp:bb}(I:Inv X pins σ H s)(hf:∀b∈fp,vL X pins H b)(ho:∀b∈fp,∃o,s.heap.get? b=some o/\∀v,o.data≠.cell v):Inv X (pins++yj fp s.heap) σ H s:=
 I.Jb λp hp=>(bJ.mp hp).elim (λz=>I.pin p<|bI _ z) λz=>by
  obtain⟨hb,e⟩:=KQ z;obtain⟨f0,f1,f2,_⟩:=hf p.1 hb;obtain⟨o,f,d⟩:=ho p.1 hb;rw[e]at f;cases f;exact⟨e,f0,f1,f2,d⟩
def Inv.qC{pl:bo}{H:Hp}(I:Inv X (pins++pl) σ H s):Inv X pins σ H s:=I.Jb λp hp=>I.pin p<|bI _<|cM _ hp
def WG{iter:aE}{wi:TI}{g:TG}{tb:TS}(hp:PassesOwn (model X.prog X.w) X.A X.env X.xe)(hc:X.calm=true)(hi:PI X tg iter wi)(hg:PG X tg g)(hb:A4 X body tb)
  (hs:(∀x,foldedSetIterable iter X.env x=pure x)<|>ζ):PS X (.For tg iter body [] pos) (abJ wi g tb):=by
 ksr_p;refine wpAny_For (mR (hi pins s σ H _ I h) λv s1 h1=>mR h1 λitv s2 h2=>?_) hs;obtain⟨it,fp,tn,J,H2,e,I2,T,Y,f2,W,⟨m0,w0⟩,turn⟩:=h2;subst e;have k:∀{H':Hp},(∀b∈fp,H' b=none)->∀b∈fp,vL X pins H' b:=λhn b hb=>⟨hn b hb,(f2 b hb).2⟩;refine codeAny_forLoop_any (λn s'=>∃i t H',Inv X pins t H' s'/\tn i s'.heap/\(∀b∈fp,H' b=none)/\W i n t H') ?_ m0 ⟨0,σ,H2,I2,Y,λb hb=>(f2 b hb).1,w0⟩;rintro n s3 ⟨i,z,H3,I3,K,G,w3⟩
 rcases turn i n z H3 w3 with⟨F,qn⟩|⟨go,N,hN,step⟩
 ·refine eW hp<|mR (T.done X rfl rfl rfl hc i pins s3 z H3 X.xe I3 (k G) K F) λr s4 ⟨P,I4⟩=>?_;subst P;exact gz ⟨z,H3,I4,qn⟩
 ·refine eW hp<|mR (T.item X rfl rfl rfl hc i pins s3 z H3 X.xe I3 (k G) K go) λr s4 ⟨u,P,h4⟩=>?_;subst P;refine eW hp<|mR h4 λ_ Z ⟨x,H5,I5,r5,y5,C,M⟩=>?_;have U:=I5.pinned (k M)<|T.obj _ _ C;refine eW hp<|mR (hg _ Z z H5 x u _ U r5<|step x H5 y5) λ_ s6 ⟨O,H6,I6,q6⟩=>?_;refine eW hp<|mR (hb _ s6 O H6 _ I6 q6) λf V B=>?_;have again:∀{j:St} {q:Hp},Inv X (pins++yj fp Z.heap) j q V->N j q->∃m,m<n/\∃i t H',Inv X pins t H' V/\tn i V.heap/\(∀b∈fp,H' b=none)/\W i m t H':=λ{j q} p L=>by
   obtain⟨m',hm,w7⟩:=hN j q L;refine⟨m',hm,i+1,j,q,p.qC,T.keep _ _ _ C λb hb o e=>(p.pin (b,o)<|bI _<|bI _<|ni hb e).1,λb hb=>?_,w7⟩;obtain⟨o,e,d⟩:=T.obj _ _ C b hb;exact(p.pin (b,o)<|bI _<|bI _<|ni hb e).2.1
  cases f with
  | next=>obtain⟨j,q,p,L⟩:=B;exact again p L
  | cont=>obtain⟨j,q,p,L⟩:=B;exact again p L
  | brk=>obtain⟨j,q,p,B⟩:=B;exact⟨j,q,p.qC,B⟩
  | ret v=>obtain⟨x7,j,q,p,r7,B⟩:=B;exact⟨x7,j,q,p.qC,r7,B⟩
end
def zL{c:TT}{tb:TS}{D:Ends}{H:Hp}(Pv:St->Hp->Prop)(μ:St->Hp->Nat)(h0:Pv σ H)
  (hs:∀σ H,Pv σ H->c σ H λb H1=>if b=true then tb { D with nx:=λσ' H'=>Pv σ' H'/\μ σ' H'<μ σ H,ct:=λσ' H'=>Pv σ' H'/\μ σ' H'<μ σ H,bk:=D.nx } σ H1 else D.nx σ H1)
  (mono:∀σ H Q Q',(∀b H1,Q b H1->Q' b H1)->c σ H Q->c σ H Q'):O_ c tb D σ H:=by
 refine⟨λm σ H=>m=μ σ H/\Pv σ H,⟨_,rfl,h0⟩,?_⟩;rintro m σ H ⟨rfl,p⟩;refine mono σ H _ _ (λb H1 q=>?_) (hs σ H p)
 cases b with
 | true=>exact⟨_,λσ' H' ⟨d,l⟩=>⟨_,l,rfl,d⟩,q⟩
 | false=>exact q
meta abbrev R2:=V->V->Hp->VK->Prop
abbrev oW (X:Cx)(f:af->af->Sem af)(r:R2):Prop:=
 ∀(pins:bo) (s:aC) (σ:St) (H:Hp) (x y:V) (v u:af) (Q:VK),Inv X pins σ H s->RelV x v->RelV y u->r x y H Q ->
  wpAny (model X.prog X.w) X.A (f v u) (EP X pins σ Q) X.xe s
abbrev UnR (X:Cx)(f:af->Sem af)(r:V->Hp->VK->Prop):Prop:=
 ∀(pins:bo) (s:aC) (σ:St) (H:Hp) (x:V) (v:af) (Q:VK),Inv X pins σ H s->RelV x v->r x H Q ->
  wpAny (model X.prog X.w) X.A (f v) (EP X pins σ Q) X.xe s
abbrev j7 (X:Cx)(f:af)(r:List V->Hp->VK->Prop):Prop:=
 ∀(pins:bo) (s:aC) (σ:St) (H:Hp) (xs:List V) (us:ba) (Q:VK),Inv X pins σ H s->Vals xs us->r xs H Q ->
  wpAny (model X.prog X.w) X.A (call f us) (EP X pins σ Q) X.xe s
abbrev ab_ (X:Cx)(r:V->Hp->(Bool->Hp->Prop)->Prop):Prop:=
 ∀(pins:bo) (s:aC) (σ:St) (H:Hp) (x:V) (v:af) (Q:Bool->Hp->Prop),Inv X pins σ H s->RelV x v->r x H Q ->
  wpAny (model X.prog X.w) X.A (truthy v) (TP X pins σ Q) X.xe s
abbrev Zx (r:R2)(ta tb:TE):TE:=λσ H Q=>ta σ H λx H1=>tb σ H1 λy H2=>r x y H2 Q
abbrev tUn (r:V->Hp->VK->Prop)(ta:TE):TE:=λσ H Q=>ta σ H λx H1=>r x H1 Q
abbrev rI (C:Int->Int->Prop)(g:Int->Int->V):R2:=λx y H Q=>∃i j,x=.int i/\y=.int j/\C i j/\Q (g i j) H
abbrev VB (g:Int->Int->V):R2:=λx y H Q=>∃i j,x=.int i/\y=.int j/\Q (g i j) H
abbrev rU (g:Int->V):V->Hp->VK->Prop:=λx H Q=>∃i,x=.int i/\Q (g i) H
section
variable {X:Cx}{a b:aE}{ta tb:TE}{pos:Pos}
def YF(ha:PE X a ta)(hb:PE X b tb){H:Hp}{R:V->V->Hp->Prop}(I:Inv X pins σ H s)
  (h:ta σ H λx H1=>tb σ H1 λy H2=>R x y H2) {Q:af->aC->Prop} {f:af->af->Sem af}
  (hf:∀v u s2 x y H2,Inv X pins σ H2 s2->RelV x v->RelV y u->R x y H2->wpAny (model X.prog X.w) X.A (f v u) Q X.xe s2) :
  wpAny (model X.prog X.w) X.A (eval a X.env) (λv s₁=>wpAny (model X.prog X.w) X.A (eval b X.env) (λu s₂=>wpAny (model X.prog X.w) X.A (f v u) Q X.xe s₂) X.xe s₁) X.xe s:=by
 refine mR (ha pins s σ H _ I h) λv g ⟨x,H1,j,r1,d⟩=>?_;refine mR (hb pins g σ H1 _ j d) λu s2 ⟨y,H2,k,r2,m⟩=>?_;exact hf v u s2 x y H2 k r1 r2 m
def aaH{r:R2}(ho:oW X (binaryOp op) r)(ha:PE X a ta)(hb:PE X b tb):PE X (.BinOp a op b pos) (Zx r ta tb):=by
 gn_on;exact wpAny_BinOp<|YF ha hb I h λv u d x y H2 f rx ry q=>ho pins d σ H2 x y v u Q f rx ry q
def Zn{r:V->Hp->VK->Prop}(ho:UnR X (unaryOp op) r)(ha:PE X a ta):PE X (.UnaryOp op a pos) (tUn r ta):=by
 gn_on;exact UnaryOp_<|mR (ha pins s σ H _ I h) λv f ⟨x,H1,g,r1,d⟩=>ho pins f σ H1 x v Q g r1 d
def opI{f:af->af->Sem af}{C:Int->Int->Prop}{g:Int->Int->Int}
  (rule:∀(i j:Int) (t u:Tok) (s:aC) (Q:af->aC->Prop) (E:af->aC->Prop),C i j->Q (.int (g i j) s.toks) { s with toks:=s.toks+1 }->wpAny (model X.prog X.w) X.A (f (.int i t)<|.int j u) Q E s) :
  oW X f (rI C λi j=>.int<|g i j):=by
 kpc_g;obtain⟨i,j,rfl,rfl,hc,q⟩:=h;obtain⟨t,rfl⟩:=rx;obtain⟨d,rfl⟩:=ry;exact rule i j t d s _ _ hc ⟨.int<|g i j,H,I.tok _,⟨_,rfl⟩,q⟩
def ZS{f:af->af->Sem af}{g:Int->Int->Int}
  (rule:∀(i j:Int) (t u:Tok) (s:aC) (Q:af->aC->Prop) (E:af->aC->Prop),Q (.int (g i j) s.toks) { s with toks:=s.toks+1 }->wpAny (model X.prog X.w) X.A (f (.int i t)<|.int j u) Q E s) :
  oW X f (VB λi j=>.int<|g i j):=by
 kpc_g;obtain⟨i,j,rfl,rfl,q⟩:=h;obtain⟨t,rfl⟩:=rx;obtain⟨d,rfl⟩:=ry;exact rule i j t d s _ _ ⟨.int<|g i j,H,I.tok _,⟨_,rfl⟩,q⟩
def UM{f:af->af->Sem af}{g:Int->Int->Bool}
  (rule:∀(i j:Int) (t u:Tok) (s:aC) (Q:af->aC->Prop) (E:af->aC->Prop),Q (.bool<|g i j) s->wpAny (model X.prog X.w) X.A (f (.int i t)<|.int j u) Q E s) :
  oW X f (VB λi j=>.bl<|g i j):=by
 kpc_g;obtain⟨i,j,rfl,rfl,q⟩:=h;obtain⟨t,rfl⟩:=rx;obtain⟨d,rfl⟩:=ry;exact rule i j t d s _ _ ⟨.bl<|g i j,H,I,rfl,q⟩
abbrev abx (i j:Int):Prop:=0<=j/\j<=1000000/\i.natAbs<2 ^ 64
abbrev RU (i j:Int):Prop:=(-(2 ^ 64)<i/\i<2 ^ 64)\/(-(2 ^ 64)<j/\j<2 ^ 64)
def RU.ok{i j:Int}(h:RU i j):IntMulOk i j:=by
 rcases h with⟨h1,h2⟩|⟨h1,h2⟩
 ·exact .of_left (intBits_le_64 h1 h2)
 ·exact .of_right<|intBits_le_64 h1 h2
def Xk:oW X (binaryOp .Add) (VB λi j=>.int<|i+j):=ZS λ_ _ _ _ _ _ _ q=>add_int q
def XG:oW X (binaryOp .Sub) (VB λi j=>.int<|i-j):=ZS λ_ _ _ _ _ _ _ q=>sub_int q
def X8:oW X (binaryOp .Mult) (rI RU λi j=>.int<|i * j):=opI λ_ _ _ _ _ _ _ hc q=>mul_int q hc.ok
def YZ:oW X (binaryOp .Mod) (rI (λ_ j=>0<j) λi j=>.int<|i % j):=opI λi j _ _ _ _ _ hc q=>by
 have h1:(0:Int)<j:=hc;exact mod_int' ()<|by rw[Int.fmod_eq_emod_of_nonneg i ()];exact q
def Y6:oW X (binaryOp .Pow) (rI abx λi j=>.int<|i ^ j.toNat):=opI λ_ _ _ _ _ _ _ hc q=>pow_int_small hc.1 hc.2.1 hc.2.2 q
def unI{f:af->Sem af}{g:Int->Int}
  (rule:∀(i:Int) (t:Tok) (s:aC) (Q:af->aC->Prop) (E:af->aC->Prop),Q (.int (g i) s.toks) { s with toks:=s.toks+1 }->wpAny (model X.prog X.w) X.A (f<|.int i t) Q E s) :
  UnR X f (rU λi=>.int<|g i):=by
 intro pins s σ H x v Q I rx h;obtain⟨i,rfl,q⟩:=h;obtain⟨t,rfl⟩:=rx;exact rule i t s _ _ ⟨.int<|g i,H,I.tok _,⟨_,rfl⟩,q⟩
def V4:UnR X (unaryOp .USub) (rU λi=>.int<|-i):=unI λ_ _ _ _ _ q=>neg_int q
end
abbrev Wa:V->V->Bool
 | .non,.non=>true | .non,.int _=>true | .int _,.non=>true | .non,.bl _=>true | .bl _,.non=>true | .non,.str _=>true | .str _,.non=>true
 | .int _,.int _=>true | .bl _,.bl _=>true | .str _,.str _=>true | .byt _,.byt _=>true
 | .int _,.str _=>true | .str _,.int _=>true | .bl _,.str _=>true | .str _,.bl _=>true
 | _,_=>false
section
variable {X:Cx}{a b c:aE}{ta tb tc:TE}{pos:Pos}
def Z4:oW X (compareOp .Lt) (VB λi j=>.bl<|decide<|i<j):=UM λ_ _ _ _ _ _ _ q=>lt_int q
def aad:oW X (compareOp .LtE) (VB λi j=>.bl<|decide<|i<=j):=UM λ_ _ _ _ _ _ _ q=>le_int q
def aa0:oW X (compareOp .Gt) (VB λi j=>.bl<|decide<|j<i):=UM λ_ _ _ _ _ _ _ q=>gt_int q
def Z3:oW X (compareOp .GtE) (VB λi j=>.bl<|decide<|j<=i):=UM λ_ _ _ _ _ _ _ q=>ge_int q
def M4(b:aE)(h:op≠.In<|>δ)(h2:op≠.NotIn<|>δ):behindInMarks op b=false:=by
 have e1:(op == CmpOp.In)=false:=by cases op<;>first|rfl|exact absurd rfl h
 have e2:(op == CmpOp.NotIn)=false:=by cases op<;>first|rfl|exact absurd rfl h2
 cases b<;>simp[behindInMarks,e1,e2]
def UO{op:CmpOp}{r:R2}(ho:oW X (compareOp op) r)(ha:PE X a ta)(hb:PE X b tb)(hm:behindInMarks op b=false):PE X (.Compare a [op] [b] pos) (Zx r ta tb):=by
 gn_on;exact wpAny_Compare1 (YF ha hb I h λv u d x y H2 f rx ry q=>ho pins d σ H2 x y v u Q f rx ry q) hm
abbrev Zr (t:TE):TT:=λσ H Q=>t σ H λx H'=>∃k,x=.bl k/\Q k H'
def Sy{op:CmpOp}{r:R2}(ho:oW X (compareOp op) r)(ha:PE X a ta)(hb:PE X b tb)(hm:behindInMarks op b=false):PT X (.Compare a [op] [b] pos) (Zr<|Zx r ta tb):=by
 gn_on;refine wpAny_isTrue_Compare1 (mR (ha pins s σ H _ I h) λv g ⟨x,H1,j,r1,d⟩=>mR (hb pins g σ H1 _ j d) λu t ⟨y,H2,f,r2,B⟩=>
  mR (ho pins t σ H2 x y v u _ f r1 r2 B) λc C ⟨z,H3,p,q,k,e,m⟩=>?_) hm
 subst e
 cases q
 exact c5 ⟨H3,p,m⟩
abbrev Nn (r r':R2)(ta tb tc:TE):TE:=λσ H Q=>ta σ H λx H1=>tb σ H1 λy H2=>r x y H2 λz H3=>∃k,z=.bl k /\
 (if k=true then tc σ H3 λd f=>r' y d f Q else Q (.bl false) H3)
def O1{r r':R2}(ho:oW X (compareOp op) r)(ho':oW X (compareOp op') r')(ha:PE X a ta)(hb:PE X b tb)(hc:PE X c tc)
  (hm:lastMarks [op,op'] [b,c]=false<|>η):PE X (.Compare a [op,op'] [b,c] pos) (Nn r r' ta tb tc):=by
 gn_on;refine Compare_chain (mR (ha pins s σ H _ I h) λv q ⟨x,H1,t,r1,j⟩=>chain_link (mR (hb pins q σ H1 _ t j) λu L ⟨y,H2,m,r2,N⟩=>
  mR (ho pins L σ H2 x y v u _ m r1 r2 N) λd M ⟨z,H3,g,J,k,e,f⟩=>?_)) hm
 subst e
 cases J
 refine c5 ?_
 cases k with
 | false=>exact ite_ff ⟨.bl false,H3,g,rfl,f⟩
 | true=>exact ite_tt<|chain_last<|mR (hc pins M σ H3 _ g f) λF G ⟨C,O,K,p,B⟩=>ho' pins G σ O y C u F Q K r2 p B
abbrev YY (K:au)(x:V)(H:Hp)(k:Bool):Prop:=
 match x with
 | .non=>k=false
 | .bl b=>k=b
 | .int i=>k=(i != 0)
 | .str y=>y.length<=sizeLine/\k=((y.length:Int) != 0)
 | .byt y=>y.size<=sizeLine/\k=((y.size:Int) != 0)
 | .ref p=>(∃xs,pO K H p xs/\k=!xs.isEmpty)\/(∃xs,nj K H p xs/\k=!xs.isEmpty)\/∃kvs,H p=some (.dK kvs)/\k=!kvs.isEmpty
 | _=>False
def GC{κ:Type}{kvs:List<|κ×V}{vs:List<|κ×af}(r:KV kvs vs):(!vs.isEmpty)=!kvs.isEmpty:=by
 cases r<;>rfl
def Ae{xs:List V}{its:ba}(r:Vals xs its):(!its.toArray.isEmpty)=!xs.isEmpty:=by
 cases r<;>simp
def yh:(sizeLine:Nat)<2 ^ 63:=by rw[eB];decide
def WX:ab_ X (λx H Q=>∃k,YY X.K x H k/\Q k H):=by
 intro pins s σ H x v Q I rx h;obtain⟨k,e,q⟩:=h;have B:=yh;have hs:sizeLine=16777216:=eB
 cases x with
 | non=>
  cases rx
  have d:k=false:=e;subst d;exact truthy_none ⟨H,I,q⟩
 | bl b=>
  cases rx
  have d:k=b:=e;subst d;exact c5 ⟨H,I,q⟩
 | int i=>
  obtain⟨t,rfl⟩:=rx;have d:k=(i != 0):=e;subst d;exact PySem.P.truthy_int ⟨H,I,q⟩
 | str y=>
  obtain⟨t,rfl⟩:=rx;obtain⟨hy,d⟩:y.length<=sizeLine/\k=((y.length:Int) != 0):=e;subst d;exact PySem.P.truthy_str () ⟨H,I.tok _,q⟩
 | byt y=>
  obtain⟨t,rfl⟩:=rx;obtain⟨hy,d⟩:y.size<=sizeLine/\k=((y.size:Int) != 0):=e;subst d;exact PySem.W.truthy_bytes () ⟨H,I.tok _,q⟩
 | ref p=>
  cases rx
  have d:(∃xs,pO X.K H p xs/\k=!xs.isEmpty)\/(∃xs,nj X.K H p xs/\k=!xs.isEmpty)\/∃kvs,H p=some (.dK kvs)/\k=!kvs.isEmpty:=e
  rcases d with⟨xs,g,d⟩|⟨xs,g,d⟩|⟨kvs,g,d⟩
  ·subst d;obtain⟨j,r,pl,z⟩:=I.list g;have f:=r.length;exact wpAny_truthy_list pl.isList (by dsimp[aY];lia) ⟨H,I.tok _,by rw[Ae r];exact q⟩
  ·subst d;obtain⟨j,r,pl,z⟩:=I.tuple g;have f:=r.length;exact truthy_tuple pl (by dsimp[aY];lia) ⟨H,I.tok _,by rw[Ae r];exact q⟩
  ·subst d;obtain⟨z,hS,vs,r,m⟩:kvs.length<=sizeLine/\(p == sysModules)=false/\∃vs,KV kvs vs/\s.heap.DictOf (kL X.prog X.w) p vs:=I.hok p _ g;have f:kvs.length=vs.length:=iF r;exact wpAny_truthy_dict hS m () ⟨H,I.tok _,by rw[GC r];exact q⟩
 | _=>exact(show False from e).elim
def PR(ha:PE X a ta)(he:∀whole,isTrue a X.env whole=(do let v <- whole;standAt a.pos;holding [v] (truthy v))) :
  PT X a (λσ H Q=>ta σ H λx H'=>∃k,YY X.K x H' k/\Q k H'):=by
 gn_on;exact isTrue_plain (mR (ha pins s σ H _ I h) λv f ⟨x,H1,g,r1,d⟩=>WX pins f σ H1 x v Q g r1 d)<|he _
def G1:oW X (binaryOp .Add) (λx y H Q=>∃i j,x=.str i/\y=.str j/\i.length+j.length<=sizeLine/\Q (.str<|i++j) H):=by
 kpc_g;obtain⟨i,j,rfl,rfl,d,q⟩:=h;obtain⟨t,rfl⟩:=rx;obtain⟨f,rfl⟩:=ry;exact add_str (λf g=>⟨.str<|i++j,H,I.tok _,⟨_,rfl⟩,q⟩) d
def vals1{x:V}(r:Vals [x] us):∃u,us=[u]/\RelV x u:=by
 cases r with
 | cons r1 r2=>cases r2;exact⟨_,rfl,r1⟩
def vals2{x:V}(r:Vals [x,y] us):∃u w',us=[u,w']/\RelV x u/\RelV y w':=by
 cases r with
 | cons r1 r2=>
  cases r2 with
  | cons f d=>cases d;exact⟨_,_,rfl,r1,f⟩
def MS:j7 X (.builtin "abs") (λxs H Q=>∃i,xs=[.int i]/\Q (.int<|if i<0 then -i else i) H):=by
 fin2;obtain⟨i,rfl,q⟩:=h;obtain⟨u,rfl,t,rfl⟩:=vals1 r;exact call_abs_int λu d=>⟨.int<|if i<0 then -i else i,H,I.tok _,⟨_,rfl⟩,q⟩
def KW(hc:X.calm=true):j7 X (.builtin "max") (λxs H Q=>∃i j,xs=[.int i,.int j]/\Q (.int<|if j>i then j else i) H):=by
 fin2;obtain⟨i,j,rfl,q⟩:=h;obtain⟨u,f,rfl,⟨t,rfl⟩,⟨g,rfl⟩⟩:=vals2 r;refine max_two_ints (I.ok.hd hc) λh' m k=>⟨_,H,I.kept k,?_,q⟩;by_cases d:j>i
 ·rw[aS d,aS d];exact⟨_,rfl⟩
 ·rw[aQ d,aQ d];exact⟨_,rfl⟩
def K_(hc:X.calm=true):j7 X (.builtin "min") (λxs H Q=>∃i j,xs=[.int i,.int j]/\Q (.int<|if j<i then j else i) H):=by
 fin2;obtain⟨i,j,rfl,q⟩:=h;obtain⟨u,f,rfl,⟨t,rfl⟩,⟨g,rfl⟩⟩:=vals2 r;refine min_two_ints (I.ok.hd hc) λh' m k=>⟨_,H,I.kept k,?_,q⟩;by_cases d:j<i
 ·rw[aS d,aS d];exact⟨_,rfl⟩
 ·rw[aQ d,aQ d];exact⟨_,rfl⟩
abbrev acF (K:au)(x:V)(H:Hp)(n:Nat):Prop:=
 match x with
 | .str y=>y.length<=sizeLine/\n=y.length
 | .byt y=>y.size<=sizeLine/\n=y.size
 | .ref p=>(∃xs,pO K H p xs/\n=xs.length)\/∃xs,nj K H p xs/\n=xs.length
 | _=>False
def MG:j7 X (.builtin "len") (λxs H Q=>∃x n,xs=[x]/\acF X.K x H n/\Q (.int n) H):=by
 fin2;obtain⟨x,n,rfl,e,q⟩:=h;kcj_m;have z:=yh;have hs:sizeLine=16777216:=eB
 cases x with
 | str y=>
  obtain⟨t,rfl⟩:=rx;obtain⟨hy,f⟩:y.length<=sizeLine/\n=y.length:=e;subst f;exact len_str () ⟨.int _,H,I.tok _,⟨_,rfl⟩,q⟩
 | byt y=>
  obtain⟨t,rfl⟩:=rx;obtain⟨hy,f⟩:y.size<=sizeLine/\n=y.size:=e;subst f;exact PySem.W.len_bytes () ⟨.int _,H,I.tok _,⟨_,rfl⟩,q⟩
 | ref p=>
  cases rx
  have f:(∃xs,pO X.K H p xs/\n=xs.length)\/∃xs,nj X.K H p xs/\n=xs.length:=e
  rcases f with⟨xs,k,f⟩|⟨xs,k,f⟩
  ·subst f;obtain⟨j,g,pl,m⟩:=I.list k;have d:=g.length;exact Calls.call_len_list pl.isList (by dsimp[aY];lia) ⟨.int xs.length,H,I.tok _,⟨_,by dsimp[aY];rw[d]⟩,q⟩
  ·subst f;obtain⟨j,g,pl,m⟩:=I.tuple k;have d:=g.length;exact len_tuple pl (by dsimp[aY];lia) ⟨.int xs.length,H,I.tok _,⟨_,by dsimp[aY];rw[d]⟩,q⟩
 | _=>exact(show False from e).elim
end
structure ObjM (h:aq)(x dx C:ak)(mA:Str->bd):Prop where
 obj:h.get? x=some (PySem.W.instObj C dx)
 ns:h.Ns1 dx mA
 ne:dx≠x
def LR{h:aq}{mA:Str->bd}(n:h.Ns1 dx mA):∃od,h.get? dx=some od/\∀name,PySem.W.lookIn name od=some (mA name):=by
 obtain⟨o,es,ep,m,j,k,_,f⟩:=n;refine⟨o,m,λname=>?_⟩;have e:=f name;unfold nsFind findBy at e;rw[<- Array.find?_toList]at e;unfold PySem.W.lookIn;rw[j];dsimp only;split
 ·rename_i y q;rw[q]at e;exact c9 some e
 ·rename_i q;rw[q]at e;have a:es.toList.any (·.refKey)=false:=by
   rw[List.any_eq_false];intro y hy;obtain⟨z,t,d⟩:=k y<|Array.mem_toList_iff.mp hy;simp[DictEntry.refKey,d]
  have g:¬es.toList.any (·.refKey)=true:=by rw[a];exact bF
  rw[aQ g];exact c9 some e
def ObjM.look{x:ak}{mA:Str->bd}(I:ObjM h x dx C mA):∃od,PySem.W.InstAt h x (PySem.W.instObj C dx) C (some od)/\∀name,PySem.W.lookIn name od=some (mA name):=
 let⟨od,ho,hl⟩:=LR I.ns
 ⟨od,⟨I.obj,rfl,rfl,ho⟩,hl⟩
def xY.some_of{v:V}(r:xY (some v) o):∃u,o=some u/\RelV v u:=by
 cases o with
 | none=>exact(show False from r).elim
 | some u=>exact⟨u,rfl,r⟩
section
variable {P:aj}{w:ah}{H:Hp}{h:aq}{a C dx:ak}{fs:List (Str×V)}
def Tc(hok:vO P w H h)(e:H a=some (.ins C dx fs)):∃mA,ObjM h a dx C mA/\(∀f,xY (fs.lookup f)<|mA f)/\PySem.Within mA (fs.map (·.1))/\fs.length<=1000/\H dx=some (.own a):=by
 obtain⟨d,z,ne,ob,mA,n,r,q⟩:=(show kG P w H h a (.ins C dx fs)from hok a _ e);exact⟨mA,⟨ob,n,ne⟩,r,q,z,d⟩
end
structure Cls (K:au)(C:ak):Prop where
 pg:PySem.W.plainGet K C Str.empty=true
 hd:PySem.W.hasDictIn K C=true
 po:PySem.W.plainOver K C=true
 sa:PySem.W.findIn K (.ref C) "__setattr__" = some (some<|.builtin "object.__setattr__")
def Cls.get{K:au}(c:Cls K C)(f:Str):PySem.W.plainGet K C f=true:=c.pg
structure Con (K:au)(C:ak)(f:Str)(v:V)(u:af):Prop where
 at_:PySem.W.findIn K (.ref C) f=some (some u)
 rel:RelV v u
 get:PySem.W.specialIn K u "__get__" = some none
 cp:PySem.W.copiedNames.contains f=false
structure Meth (K:au)(C:ak)(m:Str)(f:ak):Prop where
 at_:PySem.W.findIn K (.ref C) m=some (some<|.ref f)
 fn:PySem.W.isFn K (.ref f)=true
 kp:PySem.W.keepIn K (.ref f)=true
section
variable {X:Cx}{pins:bo}{σ:St}{H:Hp}{s:aC}{A:aA}{E:af->aC->Prop}{Q:af->aC->Prop}{c:af}{b:Bool}
inductive TyOf (K:au) (H:Hp):V->af->Prop where
 | non:TyOf K H .non (.type "NoneType")
 | bl (x:Bool):TyOf K H (.bl x) (.type "bool")
 | int (i:Int):TyOf K H (.int i) (.type "int")
 | str (x:Str):TyOf K H (.str x) (.type "str")
 | flt (x:UInt64):TyOf K H (.flt x) (.type "float")
 | lst {a:ak} {xs:List V} (e:H a=some (.lst xs)):TyOf K H (.ref a) (.type "list")
 | frz {a:ak} {o:Obj} {xs:List V} (e:H a=some (.frz o<|.lst xs)):TyOf K H (.ref a) (.type "list")
 | tup {a:ak} {xs:List V} (e:H a=some (.tup xs)):TyOf K H (.ref a) (.type "tuple")
 | dK {a:ak} {kvs:List<|Key×V} (e:H a=some (.dK kvs)):TyOf K H (.ref a) (.type "dict")
 | dT {a:ak} {kvs:List<|List Key×V} (e:H a=some (.dT kvs)):TyOf K H (.ref a) (.type "dict")
 | ins {a C dx:ak} {fs:List<|Str×V} (e:H a=some (.ins C dx fs)) (cl:Cls K C) (ha:PySem.W.findIn K (.ref C) "__class__" = some (some<|.builtin "object.__class__"))
   (hn:PySem.W.specialIn K (.builtin "object.__class__") "__get__" = some (some<|.builtin "getset_descriptor.__get__")) (htk:PySem.W.takesIn K (.builtin "object.__class__")=some true)
   (hm:PySem.W.mroIn K C (.type "object")=some true):TyOf K H (.ref a)<|.ref C
def KG{x:V}{t:af}(I:Inv X pins σ H s)(rx:RelV x u)(ty:TyOf X.K H x t)(e:PySem.W.kitOne X.K t c=some b)(h:∀tk,Q (.bool b) { s with toks:=tk }) :
  wpAny (model X.prog X.w) A (call (.builtin "isinstance") [u,c]) Q E s:=by
 cases ty with
 | non=>cases(show u=Value.none from rx);exact cF PySem.W.kitx_none I.Aw True.intro e (λz=>nomatch z) h
 | bl y=>cases(show u=Value.bool y from rx);exact cF PySem.W.kitx_bool I.Aw True.intro e (λz=>nomatch z) h
 | int i=>obtain⟨t,q⟩:=(show ∃t,u=Value.int i t from rx);cases q;exact cF PySem.W.kitx_int I.Aw True.intro e (λz=>nomatch z) h
 | str y=>obtain⟨t,q⟩:=(show ∃t,u=Value.str y t from rx);cases q;exact cF PySem.W.kitx_str I.Aw True.intro e (λz=>nomatch z) h
 | flt y=>obtain⟨t,q⟩:=(show ∃t,u=Value.float y t from rx);cases q;exact cF PySem.W.kitx_float I.Aw True.intro e (λz=>nomatch z) h
 | @lst a xs d=>
  cases(show u=Value.ref a from rx)
  obtain⟨_,_,n,_,h1⟩:=(show kG X.prog X.w H s.heap a (.lst xs)from I.hok a _ d);exact cF PySem.W.kitx_list I.Aw ⟨_,h1,rfl⟩ e (λz=>nomatch z) h
 | @frz a ob xs d=>
  cases(show u=Value.ref a from rx)
  obtain⟨_,_,_,n,_,h1⟩:=(show kG X.prog X.w H s.heap a (.frz ob<|.lst xs)from I.hok a _ d);exact cF PySem.W.kitx_list I.Aw ⟨_,h1,rfl⟩ e (λz=>nomatch z) h
 | @tup a xs d=>
  cases(show u=Value.ref a from rx)
  obtain⟨_,_,_,p⟩:=(show kG X.prog X.w H s.heap a (.tup xs)from I.hok a _ d);obtain⟨o,h1,h2,_⟩:=p;exact cF PySem.W.kitx_tuple I.Aw ⟨o,h1,h2⟩ e (λz=>nomatch z) h
 | @dK a kvs d=>
  cases(show u=Value.ref a from rx)
  obtain⟨_,_,vs,_,p⟩:=(show kG X.prog X.w H s.heap a (.dK kvs)from I.hok a _ d);obtain⟨o,es,ep,h1,h2,_⟩:=p;exact cF PySem.W.kitx_dict I.Aw ⟨o,h1,h2.1⟩ e (λz=>nomatch z) h
 | @dT a kvs d=>
  cases(show u=Value.ref a from rx)
  obtain⟨_,_,xs,_,o,es,ep,h1,h2,_⟩:=(show kG X.prog X.w H s.heap a (.dT kvs)from I.hok a _ d);exact cF PySem.W.kitx_dict I.Aw ⟨o,h1,h2.1⟩ e (λz=>nomatch z) h
 | @ins a C dx fs d g ha hn f j=>
  cases(show u=Value.ref a from rx)
  obtain⟨m,O,_⟩:=Tc I.hok d;obtain⟨k,J,_⟩:=O.look;exact cF (PySem.W.kitx_own (g.get _) g.hd ha hn f j) I.Aw J e (λz=>nomatch z) h
end
structure Room (k:Nat)(A:aA):Prop where
 hd:A.handled=none
 dp:A.depth+3 * k+5<recursionLimit
 un:A.units+16 * k+200<cLine
 gs:A.guards=some []
def Room.mono{k:Nat}{A:aA}(r:Room k A)(h:j<=k):Room j A:=⟨r.hd,by have:=r.dp;lia,by have:=r.un;lia,r.gs⟩
def Room.deeper{k:Nat}{A:aA}(r:Room (k+1) A)(env:Env):Room k (A.deeper env):=
 ⟨r.hd,by have:=r.dp;show A.depth+1+3 * k+5<_;lia,by have:=r.un;show A.units+3+16 * k+200<_;lia,r.gs⟩
def Room.depth{k:Nat}{A:aA}(r:Room k A):A.depth<recursionLimit:=by have:=r.dp;lia
def Room.units{k:Nat}{A:aA}(r:Room k A):A.units+64<cLine:=by have:=r.un;lia
abbrev abK:TA:=λ_ H Q=>Q [] H
abbrev aaz (ta:TE)(tr:TA):TA:=λσ H Q=>ta σ H λx H1=>tr σ H1 λxs H2=>Q (x::xs) H2
section
variable {X:Cx}{e:aE}{es:List aE}{te:TE}{t:TA}{pos:Pos}
def wK:PA X [] abK:=λ_ _ _ _ H Q I h=>Calls.spliced_nil ⟨[],H,I,.nil,h⟩
def qo(ha:PE X e te)(hr:PA X es t)(hs:starEach (e::es) X.env=(false,eval e X.env)::starEach es X.env<|>ε):PA X (e::es) (aaz te t):=by
 intro pos pins s σ H Q I h;rw[hs]
 skip
 refine Calls.spliced_cons<|mR (ha pins s σ H _ I h) λu g ⟨x,H1,j,r1,d⟩=>?_;exact mR (hr pos pins g σ H1 _ j d) λus m ⟨xs,H2,f,r2,k⟩=>⟨x::xs,H2,f,.cons r1 r2,k⟩
abbrev acg (t:TA):TE:=λσ H Q=>t σ H λxs H1=>xs.length<=sizeLine/\∀p,H1 p=none->Q (.ref p) (upd H1 p<|.tup xs)
abbrev abD (t:TA):TE:=λσ H Q=>t σ H λxs H1=>xs.length<=sizeLine/\∀p,H1 p=none->Q (.ref p) (upd H1 p<|.lst xs)
def Wi{x1}(h:PA X es t):PE X (.Tuple es x1 pos) (acg t):=by
 intro pins s σ H Q I hq;refine wpAny_Tuple_spliced (mR (h pos pins s σ H _ I hq) λus d ⟨xs,H1,f,r,z,q⟩=>⟨by rw[<- r.length];exact z,?_⟩);have hf:H1 d.heap.objs.size=none:=f.hok.fresh<|aL _;refine⟨.ref d.heap.objs.size,upd H1 d.heap.objs.size<|.tup xs,f.laid (t':=d.toks) (λb u e=>aM _ e) (aL _) ?_,rfl,q _ hf⟩;exact⟨z,us,r,⟨_,bu _ rfl,rfl,rfl,_,rfl⟩⟩
def Wk(h:PA X es t):PE X (.List es pos) (abD t):=by
 intro pins s σ H Q I hq;refine wpAny_List_spliced (mR (h pos pins s σ H _ I hq) λus d ⟨xs,H1,f,r,z,q⟩=>⟨by rw[<- r.length];exact z,?_⟩);have hf:H1 d.heap.objs.size=none:=f.hok.fresh<|aL _;refine⟨.ref d.heap.objs.size,upd H1 d.heap.objs.size<|.lst xs,f.laid (t':=d.toks) (λb u e=>aM _ e) (aL _) ?_,rfl,q _ hf⟩;exact⟨z,us,0,r,bu _ rfl⟩
end
meta abbrev Sp:=List V->Hp->VK->XK->Prop
meta abbrev MB:=List Env->Hp->aC->XK->af->aC->Prop
structure Env0 (P:aj)(w:ah)(K:au)(mg:Str->bd)(base:aq)(A:aA)(outer:List Env)(s:aC)(H:Hp):Prop where
 frames:A.frames=some outer
 mod:Mod K mg base
 bs:∀b o,base.get? b=some o->s.heap.get? b=some o/\H b=none
 bsz:base.objs.size<=s.heap.objs.size
 tZ:s.heap.FunFrames base outer
 frf:∀b∈frs outer,H b=none
 hok:vO P w H s.heap
 bare:AllBare s.gens
abbrev CE (outer:List Env)(P:aj)(w:ah)(H:Hp)(s:aC)(Q:VK)(u:af)(s':aC):Prop:=
 ∃v H',s'.os=s.os/\AllBare s'.gens/\Un (frs outer) [] H H' s.heap s'.heap/\vO P w H' s'.heap/\RelV v u/\Q v H'
abbrev CR (CX:MB)(outer:List Env)(P:aj)(w:ah)(H:Hp)(s:aC)(Q:VK)(E:XK)(r:Result)(s':aC):Prop:=
 match r with
 | .ok (.ret u)=>CE outer P w H s Q u s'
 | .ok _=>False
 | .error e=>CX outer H s E e s'
structure FnOk (P:aj)(w:ah)(K:au)(mg:Str->bd)(base:aq)(CX:MB)(k:Nat)(f:ak)(fd:FuncData)(ps:ar)(sp:Sp):Prop where
 len:∀vs H Q E,sp vs H Q E->vs.length=ps.length
 run:∀(A:aA) (outer:List Env) (s:aC) (H:Hp) (args:Args) (us:ba) (vs:List V) (Q:VK) (E:XK),Room k A->Env0 P w K mg base A outer s H->BindsTo s fd args (ps.zip us)->Vals vs us->sp vs H Q E ->
  codeAny (model P w) A (.call (.ref f) args) (CR CX outer P w H s Q E) s
section
variable {X:Cx}{pins:bo}{σ:St}{H:Hp}{s s':aC}
def Inv.Zq(I:Inv X pins σ H s):Env0 X.prog X.w X.K X.mg X.base X.A X.stack s H:=
 ⟨I.ok.frames,I.ok.mod,I.bs,bM I.ok.bsz I.sz,I.stack,I.yT,I.hok,I.bare⟩
def Inv.after{Q:VK}(I:Inv X pins σ H s)(h:CE X.stack X.prog X.w H s Q u s'):EP X pins σ Q u s':=by
 obtain⟨v,H',os,f,un,j,r,q⟩:=h;obtain⟨m,g,d,t,k⟩:=s';obtain rfl:k=s.os:=os;exact⟨v,H',I.call (h':=m) (g':=g) (d':=d) (t':=t) (ch:=[]) un j f λb z=>absurd z<|by simp,r,q⟩
end
abbrev Pu (sp:Sp)(dvs:List V)(E:XK)(t:TA):TE:=λσ H Q=>t σ H λvs H1=>sp (vs++dvs) H1 Q E
abbrev Binds (K:au)(fd:FuncData)(ps:ar)(ds:ba):Prop:=
 ∀(s:aC) (us:ba),K.In s.heap->(us++ds).length=ps.length->BindsTo s fd ⟨us,[]⟩ (ps.zip<|us++ds)
def Binds.all{K:au}{ps:ar}(h:∀us:ba,us.length=ps.length->bindArgs fd ⟨us,[]⟩=pure (ps.zip us)):Binds K fd ps []:=λs us _ d=>by
 rw[bO]at d ⊢;exact .of_eq<|h us d
abbrev Passes (CX:MB)(X:Cx)(E:XK):Prop:=∀(pins:bo) (σ:St) (H:Hp) (s:aC) (e:af) (s':aC),Inv X pins σ H s->CX X.stack H s E e s'->X.xe e s'
section
variable {X:Cx}{CX:MB}{k:Nat}{f C:ak}{fd:FuncData}{ps:ar}{sp:Sp}{dvs:List V}{ds:ba}{E:XK}{x:Str}{p pos:Pos}{e:aE}{es:List aE}{t:TA}
def YG{H:Hp}{Q:VK}(F:FnOk X.prog X.w X.K X.mg X.base CX k f fd ps sp)(hr:Room k X.A)(hb:Binds X.K fd ps ds)(hd:Vals dvs ds)(hx:Passes CX X E)
  (I:Inv X pins σ H s) (r:Vals vs us) (h:sp (vs++dvs) H Q E):wpAny (model X.prog X.w) X.A (call (.ref f) us) (EP X pins σ Q) X.xe s:=by
 have r2:Vals (vs++dvs) (us++ds):=r.append hd;have d:(us++ds).length=ps.length:=by rw[<- r2.length];exact F.len _ _ _ _ h
 refine ju (iR (F.run X.A X.stack s H ⟨us,[]⟩ (us++ds) (vs++dvs) Q E hr I.Zq (hb s us I.Aw d) r2 h) λr s' hq=>?_)
 cases r with
 | error e=>exact hx pins σ H s e s' I hq
 | ok fl=>
  cases fl with
  | ret u=>exact I.after hq
  | next=>exact False.elim hq
  | brk=>exact False.elim hq
  | cont=>exact False.elim hq
def Ju(F:FnOk X.prog X.w X.K X.mg X.base CX k f fd ps sp)(hr:Room k X.A)(hg:Gl X x)(hm:X.mg x=some (.ref f))(hk:PySem.W.keepIn X.K (.ref f)=true)(hb:Binds X.K fd ps ds)(hd:Vals dvs ds)(hx:Passes CX X E)
  (ha:PA X (e::es) t) (hdb:(x == ("__debug__" : Str))=false<|>δ) (he:starEach (e::es) X.env=(false,eval e X.env)::starEach es X.env<|>ε) (hpl:((backTo pos<|starEach es X.env).any (·.1)=false)<|>ε) :
  PE X (.Call (.Name x p) (e::es) [] pos) (Pu sp dvs E t):=by
 gn_on;refine gE<|xK I hg hm ?_ hdb;refine PySem.W.callWith_K (h₀:=X.base) I.ok.mod.kin hk (mR (ha pos pins s σ H _ I h) λus d ⟨vs,H1,I1,r,q⟩=>⟨I1.Aw,?_⟩) he hpl;exact YG F hr hb hd hx I1 r q
structure Mk (K:au)(C f:ak):Prop where
 makes:PySem.W.makesIn K C=true
 init:PySem.W.findIn K (.ref C) "__init__" = some (some<|.ref f)
 fn:PySem.W.isFn K (.ref f)=true
 kp:PySem.W.keepIn K (.ref C)=true
end
section
variable {fd:FuncData}{ps ks:ar}
structure KBinds (K:au)(fd:FuncData)(ps ks:ar)(g:ba->ba->ba)(gV:List V->List V->List V):Prop where
 to:∀(s:aC) (us ws:ba),K.In s.heap->(g us ws).length=ps.length->BindsTo s fd ⟨us,ks.zip ws⟩ (ps.zip<|g us ws)
 rel:∀{vs:List V} {us:ba} {zs:List V} {ws:ba},Vals vs us->Vals zs ws->Vals (gV vs zs) (g us ws)
end
structure FnScope (N P:ar)(sc:Scope):Prop where
 kind:sc.kind=.function
 co:sc.isCoroutine=false
 gen:sc.isGenerator=false
 nd:N.Nodup
 pre:N.take P.length=P
 par:∀x∈P,sc.names.lookup x=some .local\/sc.names.lookup x=some .cell
 nofree:∀y∈sc.names,y.2≠.free
theorem Bj{kindOf:Str->Option NameKind}{x:Str}:∀{binds:List<|Str×af}{m:Str->bd},(∀v,(x,v)∉binds)->bindL kindOf binds m x=m x
 | [],_,_=>rfl
 | (n,v)::r,m,h=>by
  unfold bindL;rw[Bj λw hw=>h w<|aX _ hw];split
  ·have:x≠n:=by rintro rfl;exact h v aV
   simp[this]
  ·rfl
theorem Bh{kindOf:Str->Option NameKind}{x:Str}:∀{binds:List<|Str×af}{m:Str->bd},(∀v,(x,v)∉binds)->bindC kindOf binds m x=m x
 | [],_,_=>rfl
 | (n,v)::r,m,h=>by
  unfold bindC;rw[Bh λw hw=>h w<|aX _ hw];split
  ·rfl
  ·have:x≠n:=by rintro rfl;exact h v aV
   simp[this]
theorem Bo{kindOf:Str->Option NameKind}{x:Str}{v:af}:∀{P:ar}{vs:ba}{i:Nat}{m:Str->bd},P.Nodup->P[i]?=some x->vs[i]?=some v->kindOf x=some .local ->
  bindL kindOf (P.zip vs) m x=some v
 | [],_,_,_,_,h,_,_=>by simp at h
 | _::_,[],_,_,_,_,h,_=>by simp at h
 | p::P,w::vs,0,m,nd,h1,h2,hk=>by
  simp at h1 h2;subst h1;subst h2;show bindL kindOf ((p,w)::P.zip vs) m p=_;unfold bindL;rw[Bj λv hv=>(cP.mp nd).1 (iL hv).1,aS hk];simp
 | p::P,w::vs,i+1,m,nd,h1,h2,hk=>by
  skip
  unfold bindL;exact Bo (i:=i) (cP.mp nd).2 (by simpa using h1) (by simpa using h2) hk
theorem Bw{kindOf:Str->Option NameKind}{x:Str}{v:af}:∀{P:ar}{vs:ba}{i:Nat}{m:Str->bd},P.Nodup->P[i]?=some x->vs[i]?=some v->kindOf x≠some .local ->
  bindC kindOf (P.zip vs) m x=some v
 | [],_,_,_,_,h,_,_=>by simp at h
 | _::_,[],_,_,_,_,h,_=>by simp at h
 | p::P,w::vs,0,m,nd,h1,h2,hk=>by
  simp at h1 h2;subst h1;subst h2;show bindC kindOf ((p,w)::P.zip vs) m p=_;unfold bindC;rw[Bh λv hv=>(cP.mp nd).1 (iL hv).1,aQ hk];simp
 | p::P,w::vs,i+1,m,nd,h1,h2,hk=>by
  skip
  unfold bindC;exact Bw (i:=i) (cP.mp nd).2 (by simpa using h1) (by simpa using h2) hk
abbrev start (N:ar)(vs:List V):St:=vs.map some++List.replicate (N.length-vs.length) none
abbrev xw (CX:MB)(P:aj)(w:ah)(K:au)(mg:Str->bd)(base:aq)(N:ar)(qual:Str)(scope:Scope)(f:ak)(cd:af)(A:aA)(outer:List Env)(s:aC)(H:Hp)(E:XK):Cx where
 prog:=P
 w:=w
 K:=K
 mg:=mg
 base:=base
 A:=A.deeper (envOfC qual scope s.heap.objs.size f cd)
 N:=N
 s₀:=s
 H₀:=H
 env:=envOfC qual scope s.heap.objs.size f cd
 outer:=outer
 stack:=envOfC qual scope s.heap.objs.size f cd::outer
 ex:=[]
 calm:=true
 fn:=λ_=>true
 pn:=[]
 xe:=λe s'=>wpAny (model P w) (A.deeper<|envOfC qual scope s.heap.objs.size f cd) (leaving (envOfC qual scope s.heap.objs.size f cd) e) (λ_ d=>CX outer H s E e d) (λg d=>CX outer H s E g d) s'
def EY{sc:Scope}{n:Nat}{x:Str}(h:sc.names.lookup x=some .cell):∃c,(cellsFrom n sc.names []).lookup x=some c:=by
 have q:=ez sc.names n []<|.inl h;exact dR.mp q
def Bs{CX:MB}{P:aj}{w:ah}{K:au}{mg:Str->bd}{base:aq}{N ps:ar}{scope:Scope}{f:ak}{A:aA}{outer:List Env}{s:aC}{H:Hp}{E:XK}{vs:List V}
  (S:FnScope N ps scope) (hd:A.handled=none) (e0:Env0 P w K mg base A outer s H) (hl:vs.length=ps.length) (r:Vals vs us)
  (x:InCallC s s.heap.objs.size (bindL (envOfC qual scope s.heap.objs.size f cd).kindOf (ps.zip us) λ_=>none) (cellsFrom (s.heap.objs.size+1) scope.names []) (bindC (envOfC qual scope s.heap.objs.size f cd).kindOf (ps.zip us) λ_=>none) s1) :
  Inv (xw CX P w K mg base N qual scope f cd A outer s H E) [] (start N vs) H s1:=by
 have C:ps.length<=N.length:=by have:=c9 List.length S.pre;rw[b8]at this;lia
 obtain⟨h1,F,rfl,m⟩:=x.done;have d:∀b:ak,b∉(xw CX P w K mg base N qual scope f cd A outer s H E).ex:=λb z=>absurd (show b∈([]:bb)from z) (by simp);refine⟨⟨e0.mod,S.kind,rfl,rfl,aL _,λy z c h1 h2=>?_,λy hy=>?_,λy c _ h=>?_,λ_=>hd,Around.frames_deeper e0.frames,.inr ⟨rfl,rfl⟩,λb z=>absurd z<|d b,e0.bs,e0.bsz,λb _ _=>d b,λb z=>absurd z<|d b,e0.tZ,e0.frf⟩,
  rfl,e0.bare,Un.kept m,⟨_,x.toInCall.ns,λi y v h1 h2 h3=>?_⟩,λy c h=>⟨_,x.cell y c h⟩,e0.hok.fresh<|aL _,λy c h=>?_,λp hp=>absurd (show p∈([]:bo)from hp)<|by simp,e0.hok.kept m,?_⟩
 ·exact name_of_addr x.apart (cD h1) (cD h2)
 ·have hy:scope.names.lookup y=some .cell\/scope.names.lookup y=some .free:=hy
  rcases hy with hy|hy
  ·exact EY hy
  ·exact absurd rfl<|S.nofree _<|cD hy
 ·exact eg (x.above y c<|cD h)
 ·have j:i<vs.length:=by
   unfold start at h2;by_cases j:i<vs.length
   ·exact j
   ·rw[iW<|by simpa using j]at h2;rw[gG]at h2;split at h2<;>cases h2
  have ha:vs[i]?=some v:=by
   unfold start at h2;rw[bz<|by simpa using j,aP]at h2
   cases e:vs[i]? with
   | none=>rw[e]at h2;cases h2
   | some a=>rw[e]at h2;cases h2;rfl
  obtain⟨u,t,B⟩:=r.get ha;have hp:ps[i]?=some y:=by
   rw[<- S.pre,List.getElem?_take_of_lt ()];exact h1
  have g:ps.Nodup:=by rw[<- S.pre];exact S.nd.sublist (List.take_sublist _ _)
  refine⟨u,B,?_⟩
  rcases S.par y (bw hp)with k|k
  ·exact .inl ⟨k,Bo g hp t k⟩
  ·obtain⟨c,e⟩:=EY (n:=s.heap.objs.size+1) k;refine .inr ⟨.inl k,c,e,?_⟩;have q:=x.cell y c e;rw[Bw g hp t<|by show scope.names.lookup y≠_;rw[k];decide]at q;exact q
 ·exact e0.hok.fresh (eg<|x.above y c<|cD h)
 ·unfold start;show _=N.length;rw[bq,aH,List.length_replicate]
  lia
def VP{CX:MB}{P:aj}{w:ah}{K:au}{mg:Str->bd}{base:aq}{k:Nat}{f:ak}{kV pm ct:af}
  {osl:Array<|bd} {N ps:ar} {sp:Sp} (lk:K.lookup f=some ⟨oc,od,.func<|PySem.W.fnOf name qual params body scope dV kV doc pm an cdv ct,osl⟩) (hcd:PySem.W.codeIn K cdv qual=true) (S:FnScope N ps scope)
  (len:∀vs H Q E,sp vs H Q E->vs.length=ps.length)
  (hbody:∀(A:aA) (outer:List Env) (s:aC) (H:Hp) (vs:List V) (Q:VK) (E:XK),Room k (A.deeper<|envOfC qual scope s.heap.objs.size f cdv)->sp vs H Q E ->
   ∃t,A4 (xw CX P w K mg base N qual scope f cdv A outer s H E) body t/\t { nx:=λ_ H'=>Q .non H',rt:=Q } (start N vs) H) :
  FnOk P w K mg base CX (k+1) f (PySem.W.fnOf name qual params body scope dV kV doc pm an cdv ct) ps sp:=by
 refine⟨len,λA outer s H G us vs Q E B e0 hb r j=>?_⟩;have L:=len _ _ _ _ j;have F:K.In s.heap:=e0.mod.kin.keeps λb o e=>(e0.bs b o e).1;have z:s.heap.NoLimit:=e0.mod.nolimit.keeps λb o e=>(e0.bs b o e).1;have g:∀y∈ps.zip us,scope.names.lookup y.1=some .local\/(scope.names.lookup y.1=some .cell/\((cellsFrom (s.heap.objs.size+1) scope.names []).lookup y.1).isSome=true):=λ⟨n,v⟩ hy=>by
  rcases S.par n (iL hy).1 with q|q
  ·exact .inl q
  ·exact .inr ⟨q,ez _ _ _<|.inl q⟩
 refine codeAny_call_function B.depth (F _ _ lk) rfl S.co S.gen rfl (PySem.W.codeRec_of F hcd)<|hb _ _ _ _ ?_;refine wpAny_newFunctionEnv_cells S.kind g λenv O C x=>?_;subst O;refine⟨z.keeps x.toInCall.keep,codeAny_func ?_⟩;obtain⟨t,M,hq⟩:=hbody A outer s H vs Q E (B.deeper _) j;have I:Inv (xw CX P w K mg base N qual scope f cdv A outer s H E) [] (start N vs) H C:=Bs S B.hd e0 L r x;refine cY (M [] C (start N vs) H _ I hq) (λfl s' hs=>?_) λe s' hs=>hs;have m:∀{d:St} {H':Hp} {v:V} {u:af},Inv (xw CX P w K mg base N qual scope f cdv A outer s H E) [] d H' s'->RelV v u->Q v H'->CE outer P w H s Q u s':=
  λ{d H' v u} J p q=>⟨v,H',J.os,J.bare,J.base,J.hok,p,q⟩
 cases fl with
 | ret u=>
  obtain⟨v,d,H',J,p,q⟩:=hs;exact m J p q
 | next=>
  obtain⟨d,H',J,q⟩:=hs;exact m (v:=V.non) (u:=Value.none) J rfl q
 | brk=>
  obtain⟨_,_,_,q⟩:=hs;exact False.elim q
 | cont=>
  obtain⟨_,_,_,q⟩:=hs;exact False.elim q
section
variable {X:Cx}{x:Str}{p pos:Pos}{e:aE}{es:List aE}{t:TA}{id T:String}{r:List V->Hp->VK->Prop}
abbrev tCB (r:List V->Hp->VK->Prop)(t:TA):TE:=λσ H Q=>t σ H λvs H1=>r vs H1 Q
def El(hc:j7 X (.builtin id) r)(hg:Gl X x)(hm:X.mg x=none)(hv:bootBuiltins x=some (.builtin id))(ha:PA X (e::es) t)(hn:x ≠ "__name__"<|>δ)(hdb:(x == ("__debug__" : Str))=false<|>δ)
  (he:starEach (e::es) X.env=(false,eval e X.env)::starEach es X.env<|>ε) (hpl:((backTo pos<|starEach es X.env).any (·.1)=false)<|>ε):PE X (.Call (.Name x p) (e::es) [] pos) (tCB r t):=by
 gn_on;refine gE<|wQ I hg hm hv ?_ hn hdb;exact PyProof.Rows.callWith_builtin1 (mR (ha pos pins s σ H _ I h) λus f ⟨vs,H1,g,r1,d⟩=>hc pins f σ H1 vs us Q g r1 d) he hpl
def LZ(hc:j7 X (.type T) r)(hg:Gl X x)(hm:X.mg x=none)(hv:bootBuiltins x=some (.type T))(ha:PA X (e::es) t)(hn:x ≠ "__name__"<|>δ)(hdb:(x == ("__debug__" : Str))=false<|>δ)
  (he:starEach (e::es) X.env=(false,eval e X.env)::starEach es X.env<|>ε) (hpl:((backTo pos<|starEach es X.env).any (·.1)=false)<|>ε):PE X (.Call (.Name x p) (e::es) [] pos) (tCB r t):=by
 gn_on;refine gE<|wQ I hg hm hv ?_ hn hdb;exact dF (mR (ha pos pins s σ H _ I h) λus f ⟨vs,H1,g,r1,d⟩=>hc pins f σ H1 vs us Q g r1 d) he hpl
end
end L2
namespace HT
open PySem PyProof.Rows
abbrev lexLt:ag->ag->Bool
 | [],[]=>false
 | [],_::_=>true
 | _::_,[]=>false
 | x::xs,y::ys=>if x=y then lexLt xs ys else decide (x<y)
def qP(x y:Int)(xs ys:ag):lexLt (x::xs) (y::ys)=if x=y then lexLt xs ys else decide (x<y):=rfl
def pP:lexLt [] []=false:=rfl
def m9(y:Int)(ys:ag):lexLt [] (y::ys)=true:=rfl
def oV(x:Int)(xs:ag):lexLt (x::xs) []=false:=rfl
def Ob(A:aA)(s:aC)(a:Int)(t:Tok)(c:Int)(u:Tok):∃e,SeqAt.EqAt A s (.int a t) (.int c u) e/\(e=true ↔ a=c):=
 ⟨(a == c),SeqAt.EqAt.int_int a t c u,by simp⟩
def Q2(A:aA)(s:aC)(a:Int)(t:Tok)(c:Int)(u:Tok)(prog:aj)(w:ah)(E:af->aC->Prop)(Q:af->aC->Prop)(h:Q (.bool<|decide<|a<c) s) :
  wpAny (model prog w) A (richCompare .Lt (.int a t)<|.int c u) Q E s:=
 (PyProof.Rows.lt_int h:wpAny (model prog w) A (compareOp .Lt (.int a t)<|.int c u) Q E s)
section
open PySem.SeqAt
open PySem.AutoSeq1 (wpAny_loadPart')
open PySem.MeetsSeq PySem.MeetsSeq2 PySem.MeetsSeq3
def AY(l b:ak)(items items2:Array af)(n n2:Nat)(dd dd2:Option ak)(sl sl2:Array<|bd)(ns ms:ag)(hi:IntsAre items.toList ns)(hj:IntsAre items2.toList ms) :
  Meets (Builtin.«tuple.__lt__» ⟨[.ref l,.ref b],[]⟩)
   (λ_ R s=>s.heap.get? l=some { cls:=.type "tuple",dict:=dd,data:=.seq items n,slots:=sl }/\s.heap.get? b=some { cls:=.type "tuple",dict:=dd2,data:=.seq items2 n2,slots:=sl2 } /\
    R (.ok<|.ret<|.bool<|lexLt ns ms) s):=
 .of_wp λprog w A R s h=>by
  obtain⟨hp,g,d,M,os⟩:=s;obtain⟨P,hb,h⟩:=h;have f2:=AutoSeq1.sub_tuple_tuple;have V:items.size=ns.length:=by rw[<- hi.length];simp
  have W:items2.size=ms.length:=by rw[<- hj.length];simp
  wp_walk using c8 P,c8 hb,fX _ (λrest b s'=>b.1=none/\s'=⟨hp,g,d,M,os⟩/\∃(vs L:ba) (j k:ag),rest=vs.zip L /\
   IntsAre vs j/\IntsAre L k/\j.length+items2.size=k.length+items.size/\R (.ok<|.ret<|.bool<|lexLt j k) ⟨hp,g,d,M,os⟩) _
  case turn=>
   rintro⟨y,x⟩ rest b s' ⟨G,rfl,vs,L,j,k,m,F,p,f,B⟩
   cases F with
   | nil=>rw[List.zip_nil_left]at m;cases m
   | cons a t K=>
    cases p with
    | nil=>rw[List.zip_nil_right]at m;cases m
    | cons c u J=>
     rw[iX]at m
     injection m with N C
     injection N with hy U
     subst hy U;rw[qP]at B;dsimp[bB]at f;obtain⟨e,T,z⟩:=Ob A.in1 ⟨hp,g,d,M,os⟩ a t c u;refine aG (T prog w _ _ ?_)
     cases e with
     | true=>
      rw[aS<|z.mp rfl]at B
      wp_walk
      exact⟨rfl,rfl,_,_,_,_,C,K,J,(),B⟩
     | false=>
      rw[aQ λq=>absurd (z.mpr q) bF]at B;have O:=Q2 A.in1 ⟨hp,g,d,M,os⟩ a t c u prog w
      wp_walk using O
      exact⟨_,rfl,by simpa using B⟩
  case fin=>
   rintro⟨Z,Y⟩ s' ⟨G,rfl,vs,L,j,k,m,F,p,f,B⟩;simp only at G;subst G;have hv:lexLt j k=decide (items.size<items2.size):=by
    cases F with
    | nil=>
     cases p with
     | nil=>
      dsimp[dJ]at f;rw[pP];exact(bA ()).symm
     | cons c u hw=>
      dsimp[dJ,bB]at f;rw[m9];exact(bg ()).symm
    | cons a t hv=>
     cases p with
     | nil=>
      dsimp[dJ,bB]at f;rw[oV];exact(bA ()).symm
     | cons c u hw=>
      rw[iX]at m
      cases m
   rw[hv]at B
   wp_walk
   exact⟨_,rfl,by simpa[Builtin.Tuple.tupleCompareSizes]using B⟩
  case h=>
   exact⟨rfl,rfl,items.toList,items2.toList,ns,ms,rfl,hi,hj,(),h⟩
end
section
variable {prog:aj}{w:ah}{A:aA}{E:af->aC->Prop}{s:aC}
def G4{l:ak}{items items2:Array af}{ns:ag}{Q:af->aC->Prop}(hl:IsTup s.heap l items)(hb:IsTup s.heap b items2)(hi:IntsAre items.toList ns)(hj:IntsAre items2.toList ms)
  (hu:A.units<cLine) (h:Q (.bool<|lexLt ns ms) s):wpAny (model prog w) A (compareOp .Lt (.ref l)<|.ref b) Q E s:=by
 obtain⟨⟨cls,dd,data,z⟩,t,hc,n,p⟩:=id hl;obtain⟨⟨q,m,j,k⟩,d,g,B,f⟩:=id hb;simp only at hc p g f;subst hc p g f;exact richCompare_meets_room (op:=.Lt) ⟨_,t,rfl⟩ ⟨_,d,rfl⟩ PySem.F.slot_tuple_lt PySem.F.entry_tuple_lt (PySem.F.args_tuple_lt_2 _ _) (AY l b items items2 n B dd m z k ns ms hi hj)
  ⟨t,d,show Value.bool (lexLt ns ms)≠Value.notImplemented/\Q (.bool<|lexLt ns ms) s from⟨(λx=>nomatch x),h⟩⟩ hu
def UI{t:ak}{vs ws:ba}{Q:af->aC->Prop}(ht:IsTup s.heap t vs.toArray)(hb:IsTup s.heap b ws.toArray)(hv:vs≠[])
  (h1:ws=[]->Q (.ref t) s) (h2:ws≠[]->Q (.ref s.heap.objs.size) { s with heap:=s.heap.push { cls:=.type "tuple",data:=.seq (vs++ws).toArray }})
  (hsz:vs.length+ws.length<=sizeLine):wpAny (model prog w) A (binaryOp .Add (.ref t)<|.ref b) Q E s:=by
 obtain⟨⟨cls,dd,data,q⟩,m,hc,n,B⟩:=id ht;obtain⟨⟨C,k,p,f⟩,d,j,z,g⟩:=id hb;simp only at hc B j g;subst hc B j g;have e:vs.toArray++ws.toArray=(vs++ws).toArray:=by simp
 by_cases hw:ws=[]
 ·exact concat_meets ⟨_,m,rfl⟩ ⟨_,d,rfl⟩ noFill_tuple_add seq_tuple_add gM gH (gf _ _)
   (tuple_addW1 t b vs.toArray ws.toArray n z dd k q f (by simpa using hv)<|by simp[hw]) ⟨m,d,h1 hw⟩
 ·refine concat_meets ⟨_,m,rfl⟩ ⟨_,d,rfl⟩ noFill_tuple_add seq_tuple_add gM gH (gf _ _)
   (tuple_addW2 t b vs.toArray ws.toArray n z dd k q f (by simpa using hv) (by simpa using hw)<|by rw[aY,aY];exact hsz) ⟨m,d,?_⟩
  rw[e];exact h2 hw
abbrev sIx (n d:Nat):Option Int->Nat
 | none=>d
 | some v=>if v<0 then(v+(n:Int)).toNat else min v.toNat n
end
end HT
namespace L2
open PySem PySem.Spec PyProof.Rows
meta abbrev TO:=St->Hp->(Option Int->Hp->Prop)->Prop
def intsAre_of{ns:ag}:∀{us:ba},Vals (ns.map V.int) us->IntsAre us ns:=by
 induction ns with
 | nil=>intro us r;rw[fY]at r;cases r;exact .nil
 | cons n ns d=>
  intro us r;rw[bH]at r
  cases r with
  | cons r1 r2=>
   obtain⟨t,e⟩:=r1;subst e;exact .cons n t<|d r2
section
variable {X:Cx}{p2:Pos}
abbrev aas (K:au):R2:=λx y H Q=>∃a b xs ys,x=.ref a/\y=.ref b/\nj K H a xs/\nj K H b ys/\xs≠[]/\xs.length+ys.length<=sizeLine /\
 (ys=[]->Q (.ref a) H)/\(ys≠[]->∀p,H p=none->Q (.ref p) (upd H p<|.tup<|xs++ys))
def Vals.DA(r:Vals xs us):us=[] ↔ xs=[]:=by
 cases r with
 | nil=>simp
 | cons _ _=>simp
def Ue:oW X (binaryOp .Add) (aas X.K):=by
 kpc_g;obtain⟨a,b,xs,ys,rfl,rfl,ha,hb,m,f,g,k⟩:=h
 cases rx
 cases ry
 obtain⟨j,r1,p1,_⟩:=I.tuple ha;obtain⟨d,r2,p2,_⟩:=I.tuple hb;refine HT.UI p1 p2 (λz=>m<|r1.DA.mp z) (λz=>⟨.ref a,H,I,rfl,g<|r2.DA.mp z⟩) (λz=>?_) (by rw[<- r1.length,<- r2.length];exact f);refine⟨.ref s.heap.objs.size,_,I.laid (t':=s.toks) (o:=.tup<|xs++ys) (λb ob q=>aM _ q) (aL _) ?_,rfl,k (λw=>z<|r2.DA.mpr w) _<|I.hok.fresh<|aL _⟩;exact⟨by rw[bq];exact f,_,r1.append r2,qD.new _ _⟩
end
abbrev ES (n:Nat)(i:Int):bj:=if 0<=i then(if i<n then some i.toNat else none)else if -(n:Int)<=i then some (i+n).toNat else none
abbrev uy {α:Type}(xs:List α)(i:Int):Option α:=(ES xs.length i).bind λj=>xs[j]?
def HZ{n:Nat}{i:Int}(h:ES n i=some j):seqIndex? i n=some j/\j<n/\-(n:Int)<=i/\i<n:=by
 unfold ES at h;by_cases h0:0<=i
 ·rw[aS h0]at h;by_cases h1:i<n
  ·rw[aS h1]at h;have e:i.toNat=j:=aZ h;exact⟨by rw[seqIndex_of h0 h1,e],(),(),h1⟩
  ·rw[aQ h1]at h;cases h
 ·rw[aQ h0]at h;by_cases h1:-(n:Int)<=i
  ·rw[aS h1]at h;have e:(i+n).toNat=j:=aZ h;exact⟨by rw[seqIndex_neg () h1,e],(),h1,()⟩
  ·rw[aQ h1]at h;cases h
def B8{α:Type}{xs:List α}{i:Int}{v:α}(h:uy xs i=some v):∃j,seqIndex? i xs.length=some j/\xs[j]?=some v/\j<xs.length/\-(xs.length:Int)<=i/\i<xs.length:=by
 unfold uy at h
 cases e:ES xs.length i with
 | none=>rw[e]at h;cases h
 | some j=>
  rw[e]at h;obtain⟨h1,h2,h3,d⟩:=HZ e;exact⟨j,h1,h,h2,h3,d⟩
def UK{α:Type}{xs:List α}{j:Nat}{v:α}(h:xs[j]?=some v):uy xs (j:Int)=some v:=by
 have d:j<xs.length:=(aJ.mp h).1;have e:ES xs.length (j:Int)=some j:=by
  unfold ES;rw[aS (),aS ()];simp
 unfold uy;rw[e];exact h
abbrev wY (b:aE):Prop:=∀o i,subscripted b false o i=operate [o,i] (getItem o i)
abbrev TH (X:Cx)(r:R2):Prop:=
 ∀(f d:aE) (pins:bo) (s:aC) (σ:St) (H:Hp) (x y:V) (v u:af) (Q:VK),Inv X pins σ H s->RelV x v->RelV y u->r x y H Q ->
  subscripted d false v u=operate [v,u] (getItem v u)->wpAny (model X.prog X.w) X.A (subscriptTail f d v u) (EP X pins σ Q) X.xe s
abbrev Mj (X:Cx)(id:String)(r:V->List V->Hp->VK->Prop):Prop:=
 ∀(pins:bo) (s:aC) (σ:St) (H:Hp) (x:V) (xs:List V) (v:af) (us:ba) (Q:VK),Inv X pins σ H s->RelV x v->Vals xs us->r x xs H Q ->
  wpAny (model X.prog X.w) X.A (call (.builtin id) (v::us)) (EP X pins σ Q) X.xe s
section
variable {X:Cx}{a b:aE}{ta tb:TE}{pos:Pos}
def HE{r:R2}(hr:TH X r)(ha:PE X a ta)(hb:PE X b tb)(hs:wY b):PE X (.Subscript a b pos) (Zx r ta tb):=by
 gn_on;exact Subscript_<|YF ha hb I h λv u d x y H2 f rx ry q=>hr a b pins d σ H2 x y v u Q f rx ry q<|hs _ _
abbrev acA (K:au):R2:=λx y H Q=>∃p xs i v,x=.ref p/\y=.int i/\pO K H p xs/\uy xs i=some v/\Q v H
abbrev ack (K:au):R2:=λx y H Q=>∃p xs i v,x=.ref p/\y=.int i/\nj K H p xs/\uy xs i=some v/\Q v H
abbrev abP:R2:=λx y H Q=>∃z i c,x=.str z/\y=.int i/\z.length<=sizeLine/\uy z.cps.toList i=some c/\Q (.str ⟨#[c]⟩) H
def JO:TH X (acA X.K):=by
 intro f k pins s σ H x y v u Q I rx ry h hs;obtain⟨p,xs,i,z,rfl,rfl,hq,J,q⟩:=h
 cases rx
 obtain⟨t,rfl⟩:=ry;obtain⟨B,r,pl,M⟩:=I.list hq;obtain⟨j,h1,h2,h3,F,L⟩:=B8 J;obtain⟨w,C,g⟩:=r.get h2;have G:=r.length;have hn:=yh;have d:EP X pins σ Q w s:=⟨z,H,I,g,q⟩;by_cases h0:0<=i
 ·have m:i.toNat=j:=by
   rw[seqIndex_of h0 L]at h1;exact aZ h1
  exact item_listR pl.isList h0 () (by rw[m];simpa using C) d hs
 ·have m:(i+(B.toArray.size:Int)).toNat=j:=by
   rw[seqIndex_neg () F]at h1;rw[aY,<- G];exact aZ h1
  exact subscriptTail_builtinR (x:=w) pl.isList.typeIs slot_list_getitem.lookup
   (wpAny_getItem_list_neg (Q:=λr s'=>r=w/\EP X pins σ Q r s') pl.isList () (by rw[aY]<;>lia) () (by rw[m];simpa using C) ⟨rfl,d⟩) hs
def XU:TH X (ack X.K):=by
 intro d g pins s σ H x y v u Q I rx ry h hs;obtain⟨p,xs,i,z,rfl,rfl,hq,F,q⟩:=h
 cases rx
 obtain⟨t,rfl⟩:=ry;obtain⟨m,r,pl,J⟩:=I.tuple hq;obtain⟨j,h1,h2,h3,G,L⟩:=B8 F;obtain⟨w,C,f⟩:=r.get h2;have B:=r.length;have hn:=yh;have k:EP X pins σ Q w s:=⟨z,H,I,f,q⟩;exact subscriptTail_builtinR (x:=w) pl.typeIs slot_tuple_getitem.lookup
  (getItem_tuple (j:=j) (Q:=λr s'=>r=w/\EP X pins σ Q r s') pl () () (by rw[aY,<- B];exact h1) (by simpa using C) ⟨rfl,k⟩) hs
def Zb:TH X abP:=by
 intro d f pins s σ H x y v u Q I rx ry h hs;obtain⟨z,i,c,rfl,rfl,C,m,q⟩:=h;obtain⟨t,rfl⟩:=rx;obtain⟨B,rfl⟩:=ry;obtain⟨j,h1,h2,h3,g,p⟩:=B8 m;have k:z.cps.toList.length=z.length:=by simp[Str.length]
 rw[k]at h1 g p;have hn:=yh;exact tail_any (typeIs_str s z t) slot_str_getitem.lookup (getItem_str (c:=c) (by
  have e1:decide (i < -(2 ^ 63:Int))=false:=bA ();have e2:decide (i>=2 ^ 63)=false:=bA ();rw[e1,e2,Bool.or_false]) (by rw[h1];simpa using h2) ⟨.str ⟨#[c]⟩,H,I.tok _,⟨_,rfl⟩,q⟩) hs
def G3(its:ba)(n j:Nat)(u:af):Obj.mapSeq (·.setIfInBounds j u) { cls:=.type "list",data:=.seq its.toArray n }={ cls:=.type "list",data:=.seq (its.set j u).toArray n }:=by
 simp[Obj.mapSeq]
def Inv.lst{H:Hp}{s:aC}{p:ak}{xs:List V}(I:Inv X pins σ H s)(h:H p=some (.lst xs)) :
  ∃(its:ba) (n:Nat),Vals xs its/\s.heap.get? p=some { cls:=.type "list",data:=.seq its.toArray n }/\xs.length<=sizeLine:=by
 obtain⟨z,its,n,r,e⟩:=I.hok p _ h;exact⟨its,n,r,e,z⟩
def Inv.Ze{H:Hp}{s:aC}{p:ak}{ys:List V}{its its':ba}{n:Nat}{f:Obj->Obj}(I:Inv X pins σ H s)(h:H p=some (.lst xs))
  (ho:s.heap.get? p=some { cls:=.type "list",data:=.seq its.toArray n }) (hf:f { cls:=.type "list",data:=.seq its.toArray n }={ cls:=.type "list",data:=.seq its'.toArray n' }) (r:Vals ys its') (hz:ys.length<=sizeLine) (t:Nat) :
  Inv X pins σ (upd H p<|.lst ys) { s with heap:=s.heap.update p f,toks:=t }:=by
 have e:(s.heap.update p f).get? p=some { cls:=.type "list",data:=.seq its'.toArray n' }:=by
  rw[eU f ho<|by rw[hf]<;>rfl,hf]
 refine I.write (x:=p) (e:=p) (by rw[h];trivial) (.inl rfl) (λb u hb q=>(fG _ _<|cA hb).trans q) ⟨_,e⟩ ?_;exact⟨hz,its',n',r,e⟩
abbrev aaP:V->V->V->Hp->(Hp->Prop)->Prop:=λo i v H Q=>∃p xs k j,o=.ref p/\i=.int k/\H p=some (.lst xs)/\ES xs.length k=some j/\Q (upd H p<|.lst<|xs.set j v)
def set_list:FG X aaP:=by
 intro pins s σ H o i v L iv u Q I K C F h;obtain⟨p,xs,k,j,rfl,rfl,hp,G,q⟩:=h
 cases K
 obtain⟨t,rfl⟩:=C;obtain⟨d,n,r,m,J⟩:=I.lst hp;obtain⟨h1,h2,h3,z⟩:=HZ G;have g:=r.length;have hn:=yh;have B:Inv X pins σ (upd H p<|.lst<|xs.set j v) { s with heap:=s.heap.update p<|Obj.mapSeq (·.setIfInBounds j u)}:=
  I.Ze hp m (G3 d n j u) (r.set F j) (by rw[bT];exact J) s.toks
 by_cases h0:0<=k
 ·have f:k.toNat=j:=by
   rw[seqIndex_of h0 z]at h1;exact aZ h1
  exact PySem.W.ki_setAt m h0 () (by rw[aY,<- g];exact z)<|by rw[f];exact⟨_,B,q⟩
 ·have f:(k+(d.toArray.size:Int)).toNat=j:=by
   rw[seqIndex_neg () h3]at h1;rw[aY,<- g];exact aZ h1
  exact PySem.W.ki_setBack m () (by rw[aY,<- g];exact h3) ()<|by rw[f];exact⟨_,B,q⟩
def tX:j7 X (.type "list") (λxs H Q=>∃p ys,xs=[.ref p]/\(pO X.K H p ys\/nj X.K H p ys)/\∀l,H l=none->Q (.ref l) (upd H l<|.lst ys)):=by
 fin2;obtain⟨p,ys,rfl,hq,q⟩:=h;kcj_m
 cases rx
 have k:∀(d:ba),Vals ys d->ys.length<=sizeLine->∀(h':aq) (g:Nat),(∀b o',s.heap.get? b=some o'->h'.get? b=some o') ->
   h'.get? s.heap.objs.size=some { cls:=.type "list",dict:=none,data:=.seq d.toArray g,slots:=#[]}->EP X pins σ Q (.ref s.heap.objs.size) { s with heap:=h' }:=λd f j h' g kp e=>
  ⟨.ref s.heap.objs.size,_,I.laid (t':=s.toks) kp (aL _)<|show kG X.prog X.w _ h' _ (.lst ys)from⟨j,d,g,f,e⟩,rfl,q _<|I.hok.fresh<|aL _⟩
 rcases hq with hq|hq
 ·obtain⟨d,f,pl,j⟩:=I.list hq;have m:=f.length;obtain⟨o,z,hc,n,t⟩:=pl.isList;exact call_list_seq p (.inl rfl) z hc t (λh' g kp e=>k d f j h' g kp e) (by dsimp[aY]<;>lia)
 ·obtain⟨d,f,pl,j⟩:=I.tuple hq;have m:=f.length;obtain⟨o,z,hc,n,t⟩:=pl;exact call_list_seq p (.inr rfl) z hc t (λh' g kp e=>k d f j h' g kp e)<|by dsimp[aY]<;>lia
def rL:j7 X (.type "tuple") (λxs H Q=>∃p ys,xs=[.ref p]/\((pO X.K H p ys/\∀l,H l=none->Q (.ref l) (upd H l<|.tup ys))\/(nj X.K H p ys/\Q (.ref p) H))):=by
 fin2;obtain⟨p,ys,rfl,h⟩:=h;kcj_m
 cases rx
 rcases h with⟨hq,q⟩|⟨hq,q⟩
 ·obtain⟨d,f,pl,j⟩:=I.list hq;have k:=f.length;refine call_tuple_list pl.isList (λh' kp=>?_) (by dsimp[aY]<;>lia);have g:Inv X pins σ H { s with heap:=h' }:=I.kept (t':=s.toks) kp;have m:Inv X pins σ (upd H h'.objs.size<|.tup ys) { s with heap:=h'.push { cls:=.type "tuple",data:=.seq d.toArray }}:=
   g.laid (t':=s.toks) (λb o e=>aM _ e) (aL _) (show kG X.prog X.w _ _ _ (.tup ys)from⟨j,d,f,qD.new _ _⟩)
  exact⟨.ref h'.objs.size,_,m,rfl,q _<|g.hok.fresh<|aL _⟩
 ·obtain⟨d,f,pl,j⟩:=I.tuple hq;exact call_tuple_same pl ⟨.ref p,H,I,rfl,q⟩
abbrev Zf (K:au)(T:String)(x:V)(H:Hp):Prop:=match x with
 | .str _=>T = "str"
 | .int _=>T = "int"
 | .ref p=>(T = "list" /\ ∃xs,pO K H p xs)\/(T = "tuple" /\ ∃o,K.lookup p=some o/\o.cls=.type "tuple" /\ o.dict=none) \/
   (T = "dict" /\ ((∃kvs,H p=some (.dK kvs))\/∃kvs,H p=some (.dT kvs)))\/(T = "set" /\ ∃S n,H p=some (.set S n))
 | _=>False
def MY{H:Hp}{s:aC}{x:V}{v:af}(I:Inv X pins σ H s)(r:RelV x v)(ty:Zf X.K T x H) :
  s.TypeIs v T/\∀a,v=.ref a->∃ob,s.heap.get? a=some ob/\ob.dict=none:=by
 cases x with
 | str z=>
  obtain⟨t,rfl⟩:=r
  cases(show T = "str" from ty)
  exact⟨typeIs_str s z t,nofun⟩
 | int i=>
  obtain⟨t,rfl⟩:=r
  cases(show T = "int" from ty)
  exact⟨typeIs_int s i t,nofun⟩
 | ref p=>
  cases r
  rcases ty with⟨rfl,xs,hq⟩|⟨rfl,o,d,hc,f⟩|⟨rfl,d⟩|⟨rfl,S,n,d⟩
  ·obtain⟨g,_,pl,_⟩:=I.list hq;refine⟨pl.isList.typeIs,λa e=>?_⟩
   cases e
   obtain⟨o,n,e,c,f,_⟩:=pl;exact⟨o,e,f⟩
  ·refine⟨⟨o,I.Aw p o d,hc⟩,λa e=>?_⟩
   cases e
   exact⟨o,I.Aw _ o d,f⟩
  ·have z:∃o,s.heap.get? p=some o/\o.ExactDict:=by
    rcases d with⟨kvs,d⟩|⟨kvs,d⟩
    ·obtain⟨_,_,_,_,o,_,_,e,ex,_⟩:=I.hok p _ d;exact⟨o,e,ex⟩
    ·obtain⟨_,_,_,_,o,_,_,e,ex,_⟩:=I.hok p _ d;exact⟨o,e,ex⟩
   obtain⟨o,e,ex⟩:=z;refine⟨⟨o,e,ex.1⟩,λa e2=>?_⟩
   cases e2
   exact⟨o,e,ex.2.1⟩
  ·obtain⟨o,_,_,_,e,ex,_⟩:=I.hok p _ d;refine⟨⟨o,e,ex.1⟩,λa e2=>?_⟩
   cases e2
   exact⟨o,e,ex.2.1⟩
 | _=>exact False.elim ty
abbrev acC (K:au)(T:String)(r:V->List V->Hp->VK->Prop)(to:TE):TE:=λσ H Q=>to σ H λx H1=>Zf K T x H1/\r x [] H1 Q
abbrev tBM (K:au)(T:String)(r:V->List V->Hp->VK->Prop)(to:TE)(t:TA):TE:=λσ H Q=>to σ H λx H1=>Zf K T x H1/\t σ H1 λxs H2=>r x xs H2 Q
variable {o e:aE}{es:List aE}{to:TE}{t:TA}{name:Str}{apos cpos:Pos}{T id:String}{r:V->List V->Hp->VK->Prop}
def W0(pa:PlainAttrs T)(slot:Slot T name id)(hty:typeOf (.builtin id)=pure (.type "method_descriptor"))(hm:Mj X id r)(ho:PE X o to)
  (hbase:attributeBase o name X.env (eval o X.env)=eval o X.env<|>ε) (hline:(apos.endLine == cpos.line)=true<|>ε):PE X (.Call (.Attribute o name apos) [] [] cpos) (acC X.K T r to):=by
 gn_on;refine wpAny_Call_method0_late hbase hline<|mR (ho pins s σ H _ I h) λv g ⟨x,H1,d,r1,ty,f⟩=>?_;obtain⟨h1,h2⟩:=MY d r1 ty;exact⟨T,id,pa,slot,hty,h1,h2,Calls.callWith_builtin rfl<|PySem.evalArgs_none<|hm pins g σ H1 x [] v [] Q d r1 .nil f⟩
def Mz(pa:PlainAttrs T)(slot:Slot T name id)(hty:typeOf (.builtin id)=pure (.type "method_descriptor"))(hm:Mj X id r)(ho:PE X o to)(ha:PA X (e::es) t)
  (hbase:attributeBase o name X.env (eval o X.env)=eval o X.env<|>ε)
  (hfew:(((backTo cpos<|starEach (e::es) X.env).all (λx=>!x.1) && (backToKw cpos<|keywordEach [] X.env).all (λx=>x.1.isSome)
   && decide ((e::es).length+([]:List Keyword).length+(if ([]:List Keyword).isEmpty then 0 else 1)<30))=true)<|>ε)
  (hline:(apos.endLine == cpos.line)=true<|>ε) (hs:starEach (e::es) X.env=(false,eval e X.env)::starEach es X.env<|>ε) (hplain:((backTo cpos<|starEach es X.env).any (·.1)=false)<|>ε) :
  PE X (.Call (.Attribute o name apos) (e::es) [] cpos) (tBM X.K T r to t):=by
 gn_on;refine wpAny_Call_method_late hbase hfew hline rfl<|mR (ho pins s σ H _ I h) λv k ⟨x,H1,d,r1,ty,g⟩=>?_;obtain⟨h1,h2⟩:=MY d r1 ty;refine⟨T,id,pa,slot,hty,h1,h2,?_⟩;have f:=ha cpos pins k σ H1 _ d g;rw[hs]at f ⊢;refine Calls.callWith_builtin (by show(false || (backTo cpos<|starEach es X.env).any (·.1))=false;rw[hplain]<;>rfl)<|Calls.evalArgs_plain ?_;exact mR f λus j ⟨vs,H2,m,r2,p⟩=>hm pins j σ H2 x vs v us Q m r1 r2 p
end
abbrev MtM (X:Cx)(id:String)(r:V->List V->Hp->VK->Prop):Prop:=
 ∀(pins:bo) (s:aC) (σ:St) (H:Hp) (x:V) (xs:List V) (v:af) (us:ba) (Q:VK),Inv X pins σ H s->RelV x v->Vals xs us->r x xs H Q ->
  wpAny (model X.prog X.w) X.A (call (.builtin id) (v::us)) (EP X pins σ Q) X.xe s
def Vals.one:∀{x:V}{us:ba},Vals [x] us->∃u,us=[u]/\RelV x u
 | _,_,.cons r .nil=>⟨_,rfl,r⟩
def Vals.zero:∀{us:ba},Vals [] us->us=[]
 | _,.nil=>rfl
def Vals.dropLast{xs:List V}{us:ba}(h:Vals xs us):Vals xs.dropLast us.dropLast:=by
 induction h with
 | nil=>exact .nil
 | cons r t d=>
  cases t with
  | nil=>exact .nil
  | cons q f=>exact .cons r d
theorem Vals.eraseIdx:∀{xs:List V}{us:ba}(i:Nat),Vals xs us->Vals (xs.eraseIdx i) (us.eraseIdx i)
 | _,_,_,.nil=>.nil
 | _,_,0,.cons _ t=>t
 | _,_,i+1,.cons r t=>.cons r<|Vals.eraseIdx i t
theorem Vals.rep(h:Vals xs us):∀k:Nat,Vals (List.replicate k xs).flatten (List.replicate k us).flatten
 | 0=>.nil
 | k+1=>by
  rw[dg,dg,dh,dh];exact Vals.append h<|Vals.rep h k
def Gr{α:Type}(l:List α):l.eraseIdx (l.length-1)=l.dropLast:=by
 induction l with
 | nil=>rfl
 | cons a r d=>
  cases r with
  | nil=>rfl
  | cons b r=>
   have e:(a::b::r).length-1=((b::r).length-1)+1:=by
    have h1:(a::b::r).length=r.length+2:=rfl;have h2:(b::r).length=r.length+1:=rfl
    lia
   rw[e,List.eraseIdx_cons_succ,d]
   all_goals rfl
theorem BD{α:Type}:∀(l:List α) (i:Nat),(l.eraseIdx i).length<=l.length
 | [],_=>aL _
 | _::_,0=>Nat.le_succ _
 | _::r,i+1=>Nat.succ_le_succ<|BD r i
theorem foldl_rep(its:ba):∀(k:Nat) (acc:ba),
  List.foldl (λx1 x2=>x1++x2) acc.toArray (List.replicate k its.toArray)=(acc++(List.replicate k its).flatten).toArray
 | 0,acc=>by simp
 | k+1,acc=>by
  have e:acc.toArray++its.toArray=(acc++its).toArray:=by simp
  have e2:(acc++its)++(List.replicate k its).flatten=acc++(List.replicate (k+1) its).flatten:=by
   rw[dg,dh,cJ]
  rw[<- e2,<- foldl_rep its k (acc++its),<- e,dg,eX]
section
variable {X:Cx}{pins:bo}{σ:St}{H:Hp}{s:aC}{l:ak}{xs ys:List V}
def Inv.S9{its its':ba}{n:Nat}{f:Array af->Array af}{t':Nat}(I:Inv X pins σ H s)(hH:H l=some (.lst xs))
  (e:s.heap.get? l=some { cls:=.type "list",data:=.seq its.toArray n }) (hf:f its.toArray=its'.toArray) (hv:Vals ys its') (hz:ys.length<=sizeLine) :
  Inv X pins σ (upd H l<|.lst ys) { s with heap:=s.heap.update l<|Obj.mapSeq f,toks:=t' }:=by
 have q:=PySem.IsL.update e f;rw[hf]at q;refine I.write (x:=l) (e:=l) (by rw[hH];exact trivial) (.inl rfl) (λg u hb d=>(fG s.heap (Obj.mapSeq f)<|cA hb).trans d) ⟨_,q⟩ ?_;exact⟨hz,its',_,hv,q⟩
def Inv.Xg{its:ba}{t':Nat}(I:Inv X pins σ H s)(hv:Vals ys its)(hz:ys.length<=sizeLine) :
  Inv X pins σ (upd H s.heap.objs.size<|.lst ys) { s with heap:=s.heap.push { cls:=.type "list",data:=.seq its.toArray },toks:=t' }:=
 I.laid (λ_ _ q=>aM _ q) (aL _) ⟨hz,its,0,hv,bu _ rfl⟩
def Inv.fresh(I:Inv X pins σ H s):H s.heap.objs.size=none:=I.hok.fresh<|aL _
def Inv.EH(I:Inv X pins σ H s)(hH:H l=some (.lst xs)):xs.length<=sizeLine/\∃(its:ba) (n:Nat),Vals xs its/\xs.length=its.length/\s.heap.get? l=some { cls:=.type "list",data:=.seq its.toArray n }:=by
 obtain⟨z,its,n,r,e⟩:=I.hok l _ hH;exact⟨z,its,n,r,r.length,e⟩
def EI{n:Nat}(h:n<=sizeLine):Builtin.List.listTooLong n=false:=by
 unfold Builtin.List.listTooLong;exact bA ()
end
section
variable {X:Cx}
abbrev Uv:V->List V->Hp->VK->Prop:=λx vs H Q=>∃l xs y,x=.ref l/\vs=[y]/\H l=some (.lst xs)/\xs.length<sizeLine/\Q .non (upd H l<|.lst<|xs++[y])
def Bf:MtM X "list.append" Uv:=by
 intro pins s σ H x vs v us Q I rx j h;obtain⟨l,xs,y,rfl,rfl,f,k,q⟩:=h
 cases rx
 obtain⟨u,rfl,g⟩:=j.one;obtain⟨z,d,n,r,m,e⟩:=I.EH f;refine fS F.slot_list_append ⟨_,e,rfl⟩ F.entry_list_append (F.args_list_append_2 _ _) (PySem.list_append l d.toArray n u<|by rw[aY];lia) ⟨e,?_⟩;refine⟨.non,_,I.S9 (its':=d++[u]) f e (by simp) (r.append<|.cons g .nil) ?_,rfl,q⟩;rw[bq,List.length_singleton]
 lia
abbrev Tp:V->List V->Hp->VK->Prop:=λx vs H Q=>∃l b xs zs,x=.ref l/\vs=[.ref b]/\H l=some (.lst xs)/\H b=some (.lst zs)/\xs.length+zs.length<=sizeLine/\Q .non (upd H l<|.lst<|xs++zs)
def LW:MtM X "list.extend" Tp:=by
 intro pins s σ H x vs v us Q I rx t h;obtain⟨l,b,xs,zs,rfl,rfl,k,B,J,q⟩:=h
 cases rx
 obtain⟨u,rfl,p⟩:=t.one
 cases p
 obtain⟨z,f,n,r,K,e⟩:=I.EH k;obtain⟨G,d,C,r2,m,e2⟩:=I.EH B;have j:f.toArray.size+d.toArray.size<=sizeLine:=by rw[aY,aY];lia
 have g:¬(!f.toArray.isEmpty && Builtin.List.listTooLong (f.toArray.size+d.toArray.size))=true:=by
  rw[EI j,jy];exact bF
 refine fS F.slot_list_extend ⟨_,e,rfl⟩ F.entry_list_extend (F.args_list_extend_2 _ _)
  (AutoSeq1.list_extend_list_list_0 l f.toArray n b d.toArray C g (by rw[aY];lia) ()) ⟨e,e2,?_⟩
 refine⟨.non,_,I.S9 (its':=f++d) k e (by simp) (r.append r2) ?_,rfl,q⟩;rw[bq]
 lia
abbrev abQ:V->List V->Hp->VK->Prop:=λx vs H Q=>∃l xs y,x=.ref l/\vs=[]/\H l=some (.lst xs)/\xs[xs.length-1]?=some y/\Q y (upd H l<|.lst xs.dropLast)
def WV:MtM X "list.pop" abQ:=by
 intro pins s σ H x vs v us Q I rx m h;obtain⟨l,xs,y,rfl,rfl,j,hy,q⟩:=h
 cases rx
 have g:=m.zero;subst g;obtain⟨z,d,n,r,p,e⟩:=I.EH j;obtain⟨u,t,k⟩:=r.get hy;have f:d.toArray[d.toArray.size-1]?=some u:=by
  show d.toArray[d.length-1]?=some u;rw[<- cZ,<- p];exact t
 refine fS F.slot_list_pop ⟨_,e,rfl⟩ F.entry_list_pop (F.args_list_pop_1 _) (MeetsSeq.list_pop_last l d.toArray n u f<|by rw[aY];lia) ⟨e,?_⟩;refine⟨y,_,I.S9 (its':=d.dropLast) j e ?_ r.dropLast ?_,k,q⟩
 ·skip
  rw[aY,ir,Gr]
 ·rw[List.length_dropLast]
  lia
abbrev Y4:V->List V->Hp->VK->Prop:=λx vs H Q=>∃l xs i k y,x=.ref l/\vs=[.int i]/\H l=some (.lst xs)/\-(2 ^ 63)<=i/\i<2 ^ 63/\seqIndex? i xs.length=some k/\xs[k]?=some y/\Q y (upd H l<|.lst<|xs.eraseIdx k)
def Pz:MtM X "list.pop" Y4:=by
 intro pins s σ H x vs v us Q I rx m h;obtain⟨l,xs,i,k,y,rfl,rfl,g,h1,h2,p,hy,q⟩:=h
 cases rx
 obtain⟨u,rfl,j⟩:=m.one;obtain⟨t,rfl⟩:=j;obtain⟨z,d,n,r,B,e⟩:=I.EH g;obtain⟨w,hw,f⟩:=r.get hy;refine fS F.slot_list_pop ⟨_,e,rfl⟩ F.entry_list_pop (F.args_list_pop_2 _ _)
  (MeetsSeq.list_pop_at l d.toArray n i t k w (fitsIndex_both h1 h2) (by rw[aY,<- B];exact p) (by rw[<- cZ];exact hw)<|by rw[aY];lia) ⟨e,?_⟩
 refine⟨y,_,I.S9 (its':=d.eraseIdx k) g e ?_ (r.eraseIdx k) ?_,f,q⟩
 ·skip
  rw[ir]
 ·have:=BD xs k
  lia
abbrev ab4:R2:=λx y H Q=>∃l b xs zs,x=.ref l/\y=.ref b/\H l=some (.lst xs)/\H b=some (.lst zs)/\xs.length+zs.length<=sizeLine/\∀p,H p=none->Q (.ref p) (upd H p<|.lst<|xs++zs)
def W_:oW X (binaryOp .Add) ab4:=by
 kpc_g;obtain⟨l,b,xs,zs,rfl,rfl,j,m,t,q⟩:=h
 cases rx
 cases ry
 obtain⟨z,f,n,r,B,e⟩:=I.EH j;obtain⟨p,d,C,r2,g,e2⟩:=I.EH m;refine PySem.P.add_list e e2 ?_ (by rw[aY,aY];lia);have k:f.toArray++d.toArray=(f++d).toArray:=by simp
 rw[k];exact⟨.ref _,_,I.Xg (t':=s.toks) (r.append r2)<|by rw[bq];lia,rfl,q _ I.fresh⟩
abbrev acu:R2:=λx y H Q=>∃l k xs,x=.ref l/\y=.int k/\H l=some (.lst xs)/\-(2 ^ 63)<=k/\k<2 ^ 63/\xs.length * k.toNat<=sizeLine /\
 ∀p,H p=none->Q (.ref p) (upd H p<|.lst (List.replicate k.toNat xs).flatten)
def len_rep{α:Type}(xs:List α)(k:Nat):(List.replicate k xs).flatten.length=k * xs.length:=by
 induction k with
 | zero=>simp
 | succ k d=>rw[dg,dh,bq,d,iS,Nat.add_comm]
def WU:oW X (binaryOp .Mult) acu:=by
 kpc_g;obtain⟨l,k,xs,rfl,rfl,K,h1,h2,J,q⟩:=h
 cases rx
 obtain⟨t,rfl⟩:=ry;obtain⟨z,d,n,r,L,e⟩:=I.EH K;have j:d.toArray.size * k.toNat<=sizeLine:=by rw[aY,<- L];exact J
 have g:¬d.toArray.size * k.toNat>(2 ^ 63-1) / 8:=by
  have:(sizeLine:Nat)<=(2 ^ 63-1) / 8:=by decide
  omega
 have B:¬(!Builtin.List.listFitsIndex k)=true:=by
  rw[fitsIndex_both h1 h2];exact bF
 have f:¬Builtin.List.listTooLong (d.toArray.size * k.toNat)=true:=by
  rw[EI j];exact bF
 have p:List.foldl (λC G=>C++G) #[] (List.replicate (if d.toArray.isEmpty=true then 0 else k.toNat) d.toArray)=(List.replicate k.toNat d).flatten.toArray:=by
  have f0:∀m:Nat,List.foldl (λC G=>C++G) #[] (List.replicate m d.toArray)=(List.replicate m d).flatten.toArray:=λm=>by
   have:=foldl_rep d m [];rw[List.nil_append]at this;exact this
  rw[f0]
  cases d with
  | nil=>simp
  | cons a M=>rw[aQ<|by simp]
 refine wpAny_binaryOp_repeat_ref (T := "list") (U := "int") ⋯ ⟨_,e,rfl⟩ (λs'=>typeIs_int s' k t) noFill_list_mul F.fills_int_mul F.slot_int_rmul repeat_list F.slot_int_index.lookup
  (fS F.slot_int_rmul (typeIs_int s k t) F.entry_int_rmul (F.args_int_rmul_2 _ _) (int___rmul___int_list k t l d.toArray n)
   ⟨e,rfl,⟨_,e,rfl⟩,fS F.slot_list_mul ⟨_,e,rfl⟩ F.entry_list_mul (F.args_list_mul_2 _ _) (AutoListH.list___mul___list_int_3 l d.toArray n k t B g f) ⟨e,?_⟩⟩)
 rw[p];exact⟨.ref _,_,I.Xg (t':=s.toks) (r.rep k.toNat)<|by rw[len_rep,mul_comm];exact J,rfl,q _ I.fresh⟩
end
end L2
namespace Att
open PySem PySem.W PySem.Calls PyProof.Rows
def yF{P:Params}:∀(ns:ag) (vs:ba),WellAll P h vs (ns.map WData.int)->IntsAre vs ns:=by
 intro ns
 induction ns with
 | nil=>
  intro vs w;rw[fY]at w
  cases w
  exact .nil
 | cons n ns d=>
  intro vs w;rw[bH]at w
  cases w with
  | cons a b=>
   cases a
   exact .cons _ _<|d _ b
def LA{l:OpenLaw}{n:Nat}(hn:l.most=some n){P:Params}{h:aq}
  (hpre:l.row.toRowW.claim.pre args=true) (hwl:WellAll P h vals args) :
  ∃a vs ns,vals=[Value.ref a]/\args=[WData.list<|ns.map WData.int]/\h.get? a=some { cls:=.type "list",data:=.seq vs.toArray }/\IntsAre vs ns/\ns.length<=n:=by
 have m:WShape.hasAll [] args [.list .int]=true:=(pre_splitW hpre).1;have hc:l.pre.holds [] { args:=args }=true:=(pre_splitW hpre).2;obtain⟨d,r,rfl,h1,h2⟩:=hasAllW_cons m;obtain rfl:=hasAllW_nil h2;obtain⟨xs,rfl,h3⟩:=hasW_list h1;obtain⟨ns,rfl⟩:=items_int h3;have f:ns.length<=n:=by
  unfold OpenLaw.pre at hc;have j:(WTm.not<|.lt (.lit<|.int (n:Int))<|.len<|.arg 0).holds [] { args:=[.list<|ns.map .int]}=true:=by
   have j:=(holds_andW hc).1;rw[hn]at j;exact j
  have k:=condW_of j<|w_not<|w_lt w_lit<|w_len_list<|w_arg rfl;rw[aH]at k;refine Nat.le_of_not_lt λq=>?_;have q':(n:Int)<((ns.length:Nat):Int):=by omega
  first
   | (rw[bg q']at k;exact absurd k ⋯)
   | (simp at k;omega)
 cases hwl with
 | cons z t=>
  cases t
  cases z with
  | list p g=>exact⟨_,_,ns,rfl,rfl,p,yF ns _ g,f⟩
def Lq(l:OpenLaw)(args:List WData):l.row.toRowW.claim.post args (.bool true) args=true:=
 postW_of (r:=l.row.toRowW) (X:=(true == true))
  (show WShape.has [] (.bool true) .bool=true by first|rfl|decide|simp[WShape.has,WShape.arms,WShape.armsAll])
  (show(WTm.eq .res<|.lit<|.bool true).value [] { args:=args,res:=some<|.bool true,after:=args }=some (.bool<|true == true)from w_eq_bool (w_res rfl) w_lit) rfl
def D8{l:OpenLaw}{n:Nat}{q:aj}{XP:(Str->bd)->aq->Prop}{YP:ah->aq->Prop}{d:DefRec}
  (hn:l.most=some n) (hdf:d.params.defaults=[])
  (call:∀(w:ah) (s₀ s₁:aC) (mg mb:Str->bd) (fa:ak) (o:Obj) (pm cd doc:af) (a:ak) (vs:ba) (ns:ag),
   Ground q loose [] XP w s₀ mg mb s₁.heap->YP w s₁.heap ->
   s₁.heap.get? fa=some o->o.data=.func (docDef d.name d.params d.body d.scope pm cd doc)->s₁.heap.CodeRec cd d.name->mg d.name=some (.ref fa) ->
   s₁.heap.get? a=some { cls:=.type "list",data:=.seq vs.toArray }->IntsAre vs ns->ns.length<=n->s₁.gens=#[] ->
   codeAny (model l.prog w) callerA (.call (.ref fa) ⟨[.ref a],[]⟩) (λr s'=>r=.ok (.ret<|.bool true)/\OldK s₁.heap s'.heap/\s'.os=s₁.os/\AllBare s'.gens) s₁) :
  WalkO q loose XP YP l.row.toRowW d [] (λf vs=>PySem.call f vs):=by
 intro w s₀ s₁ mg mb G Y fa o pm cd doc T kV P O t J p hg F C U k B N z K;obtain rfl:T=.none:=Dflts.none J hdf;obtain rfl:kV=.none:=Dflts.noKw J;obtain⟨a,vs,ns,rfl,rfl,j,g,m⟩:=LA hn k z;refine enter_call<|iR (call w s₀ s₁ mg mb fa o pm cd doc a vs ns G Y P (fd_plain O) t p j g m hg) λr s' hq=>?_;obtain⟨rfl,h2,h3,L⟩:=hq;exact⟨.inl ⟨.bool true,.bool true,[],rfl,λ_=>rfl,.bool true,Lq l _,λ_=>⟨List.Pairwise.nil,λ_ M=>(nomatch M)⟩⟩,h2,h3,L⟩
end Att
namespace L2
open PySem PySem.Spec PyProof.Rows
theorem Bt:∀{vs:ba}{ns:ag},IntsAre vs ns->Vals (ns.map V.int) vs
 | _,_,.nil=>.nil
 | _,_,.cons n t h=>.cons ⟨t,rfl⟩<|Bt h
abbrev UH (H:Hp):Prop:=∀b,H b=none\/∃o xs,H b=some (.frz o<|.lst xs)
def ME{P:aj}{w:ah}{K:au}{mg mb:Str->bd}{CX:MB}{k:Nat}{fa a:ak}{x:Str}{sp:Sp}{s₁:aC}{vs:ba}{ns:ag}
  (KX:K.In s₁.heap) (hns:s₁.heap.Ns mainGlobals mg) (hb:s₁.heap.Ns builtinsNs mb) (hbb:∀x:Str,x ≠ "__name__" -> mb x=bootBuiltins x) (hlim:s₁.heap.NoLimit) (hg:s₁.gens=#[])
  (ha:s₁.heap.get? a=some { cls:=.type "list",data:=.seq vs.toArray }) (hi:IntsAre vs ns) (hl:ns.length<=sizeLine) (hr:Room k callerA)
  (F:∀base:aq,K.In base->base.Ns mainGlobals mg->FnOk P w K mg base CX k fa fd [x] sp) (hbind:∀(s:aC) (u:af),BindsTo s fd ⟨[u],[]⟩ [(x,u)])
  (hsp:∀H:Hp,UH H->pO K H a (ns.map V.int)->sp [.ref a] H (λv _=>v=.bl true) λ_ _ _=>False)
  (hCX:∀H e s',CX [] H s₁ (λ_ _ _=>False) e s'->False) :
  codeAny (model P w) callerA (.call (.ref fa) ⟨[.ref a],[]⟩) (λr s'=>r=.ok (.ret<|.bool true)/\OldK s₁.heap s'.heap/\s'.os=s₁.os/\AllBare s'.gens) s₁:=by
 have O:=Bt hi;have J:=hi.length;have j:∀H:Hp,UH H->pO K H a (ns.map V.int)->vO P w H s₁.heap->(∀b,H b≠none->b=a)->(H a≠none->K.lookup a=none) ->
   codeAny (model P w) callerA (.call (.ref fa) ⟨[.ref a],[]⟩) (λr s'=>r=.ok (.ret<|.bool true)/\OldK s₁.heap s'.heap/\s'.os=s₁.os/\AllBare s'.gens) s₁:=by
  intro H U hS B T hK;have f:∀{b:ak} {o:Obj},s₁.heap.get? b=some o->H b=none->(DK s₁.heap H).get? b=some o:=λe n=>O9 e n;have L:∀{b:ak} {o:Obj} {es:Array DictEntry} {ep:Nat},s₁.heap.get? b=some o->o.data=.dict es ep->H b=none:=λ{b o es ep} e d=>by
   cases q:H b with
   | none=>rfl
   | some u=>
    have N:b=a:=T b (by rw[q];simp);subst N;rw[ha]at e;cases e;have d':Data.seq vs.toArray _=Data.dict es ep:=d
    cases d'
  have g:∀{b:ak} {m:Str->bd},s₁.heap.Ns b m->(DK s₁.heap H).Ns b m:=λ{b m} ⟨o,es,ep,e,d,r⟩=>⟨o,es,ep,f e<|L e d,d,r⟩;have t:K.In (DK s₁.heap H):=λb o e=>f (KX b o e) (by
   cases q:H b with
   | none=>rfl
   | some u=>
    have N:b=a:=T b (by rw[q];simp);subst N;rw[hK<|by rw[q];simp]at e;cases e)
  have W:Mod K mg (DK s₁.heap H):=⟨t,g hns,⟨mb,g hb,hbb⟩,let⟨mc,h1,h2⟩:=hlim;⟨mc,g h1,h2⟩⟩;have e0:Env0 P w K mg (DK s₁.heap H) callerA [] s₁ H:=⟨rfl,W,λb o e=>SG e,Nat.le_of_eq<|LG _ _,trivial,λb hb=>absurd (show b∈([]:bb)from hb)<|by simp,B,.of_eq hg⟩;refine iR ((F _ t<|g hns).run callerA [] s₁ H ⟨[.ref a],[]⟩ [.ref a] [.ref a] _ _ hr e0 (hbind s₁<|.ref a) (.cons rfl .nil)<|hsp H U hS) λr s' h=>?_
  cases r with
  | error e=>exact(hCX H e s' h).elim
  | ok fl=>
   cases fl with
   | next=>exact False.elim h
   | brk=>exact False.elim h
   | cont=>exact False.elim h
   | ret u=>
    obtain⟨v,H',os,G,un,p,Z,q⟩:=h;have q':v=.bl true:=q;subst q';obtain rfl:u=Value.bool true:=Z;refine⟨rfl,OldK.of_keep λb o e=>?_,os,G⟩
    cases q:H b with
    | none=>exact un.keep b o e q (by intro z;exact absurd (show b∈([]:bb)from z)<|by simp) (by simp)
    | some u=>
     rcases U b with z|⟨ob,xs,z⟩
     ·rw[q]at z;cases z
     ·have Y:=un.frzs b ob _ z;obtain⟨e1,_⟩:=B b _ z;obtain⟨e2,_⟩:=p b _ Y;rw[e]at e1;cases e1;exact e2
 cases M:K.lookup a with
 | some o=>
  have e:=KX a o M;rw[ha]at e
  cases e
  refine j (λ_=>none) (λ_=>.inl rfl) (.inr ⟨_,vs.toArray,_,M,rfl,rfl,rfl,by rw[aY,J];exact hl,by simpa using O⟩) (λb u z=>by have C:(none:Option HO)=some u:=z;cases C) (λb z=>absurd rfl z) λz=>absurd rfl z
 | none=>
  refine j (λb=>if b=a then some (.frz { cls:=.type "list",data:=.seq vs.toArray } (.lst<|ns.map V.int))else none) (λb=>?_) (.inl<|.inr ⟨{ cls:=.type "list",data:=.seq vs.toArray },aS rfl⟩) (λb u z=>?_) (λb z=>?_) λ_=>M
  ·by_cases hb:b=a
   ·exact .inr ⟨_,_,aS hb⟩
   ·exact .inl<|aQ hb
  ·by_cases hb:b=a
   ·have C:=(aS hb).symm.trans z
    cases C
    subst hb;exact⟨ha,by rw[aH];exact hl,vs,_,O,ha⟩
   ·have C:=(aQ hb).symm.trans z
    cases C
  ·by_cases hb:b=a
   ·exact hb
   ·exact absurd (aQ hb) z
def Ul{l:PySem.W.OpenLaw}{n k:Nat}{q:aj}{XP:(Str->bd)->aq->Prop}{YP:ah->aq->Prop}{d:DefRec}{K:Params->au}{CX:ah->MB}{sp:ah->Sp}{x:Str}
  (hn:l.most=some n) (hn2:n<=sizeLine) (hdf:d.params.defaults=[]) (hr:Room k callerA)
  (hY:∀(w:ah) (h:aq),YP w h->(K w.params).In h)
  (F:∀(w:ah) (mg:Str->bd) (fa:ak) (h:aq),(K w.params).In h->h.Ns mainGlobals mg->mg d.name=some (.ref fa) ->
   ∃fd:FuncData,(∀(s:aC) (u:af),BindsTo s fd ⟨[u],[]⟩ [(x,u)]) /\
    ∀base:aq,(K w.params).In base->base.Ns mainGlobals mg->FnOk l.prog w (K w.params) mg base (CX w) k fa fd [x] (sp w))
  (hsp:∀(w:ah) (H:Hp) (a:ak) (ns:ag),ns.length<=n->UH H->pO (K w.params) H a (ns.map V.int)->sp w [.ref a] H (λv _=>v=.bl true) λ_ _ _=>False)
  (hCX:∀(w:ah) (H:Hp) (s:aC) (e:af) (s':aC),CX w [] H s (λ_ _ _=>False) e s'->False) :
  PySem.W.WalkO q loose XP YP l.row.toRowW d [] (λf vs=>PySem.call f vs):=by
 refine Att.D8 hn hdf λw C t mg O fa o P cd J a vs ns G Y Z U L z p m j hg=>?_;have B:=hY w _ Y;obtain⟨fd,hb,M⟩:=F w mg fa _ B G.T.g z;exact ME B G.T.g G.T.b G.T.builtins G.T.nolimit hg p m (bM j hn2) hr M hb (λH N hS=>hsp w H a ns j N hS) λH e s'=>hCX w H t e s'
abbrev vF (s:aF):Arguments:=match s with
 | .FunctionDef _ a _ _ _ _ _ _ _ _=>a
 | _=>{ posonlyargs:=[],args:=[],vararg:=none,kwonlyargs:=[],kw_defaults:=[],kwarg:=none,defaults:=[]}
abbrev nN (s:aF):List aF:=match s with
 | .FunctionDef _ _ b _ _ _ _ _ _ _=>b
 | _=>[]
abbrev jN (s:aF):Scope:=match s with
 | .FunctionDef _ _ _ _ _ _ d _ _ _=>d
 | _=>{ kind:=.function,names:=[],isGenerator:=false,isCoroutine:=false }
meta abbrev ur:MB:=λ_ _ _ _ _ _=>False
meta abbrev E0:XK:=λ_ _ _=>False
def aa3{X:Cx}:Passes ur X E0:=λ_ _ _ _ _ _ _ h=>h.elim
structure Fun (K:au)(x qual:Str)(st:aF)(f:ak)(fd:FuncData):Prop where
 ex:∃(oc:af) (od:Option ak) (kV doc pm:af) (an:Option ak) (cdv ct:af) (osl:Array<|bd),
  fd=PySem.W.fnOf x qual (vF st) (nN st) (jN st) .none kV doc pm an cdv ct/\K.lookup f=some ⟨oc,od,.func fd,osl⟩/\PySem.W.codeIn K cdv qual=true
 kp:PySem.W.keepIn K (.ref f)=true
section
variable {P:aj}{w:ah}{K:au}{mg:Str->bd}{base:aq}
def Fun.ok{x:Str}{st:aF}{f:ak}{N ps:ar}{k:Nat}{sp:Sp}(F:Fun K x qual st f fd)(S:FnScope N ps<|jN st)(len:∀vs H Q E,sp vs H Q E->vs.length=ps.length)
  (hbody:∀(cdv:af) (A:aA) (outer:List Env) (s:aC) (H:Hp) (vs:List V) (Q:VK) (E:XK),Room k (A.deeper<|envOfC qual (jN st) s.heap.objs.size f cdv)->sp vs H Q E ->
   ∃t,A4 (xw ur P w K mg base N qual (jN st) f cdv A outer s H E).Zy (nN st) t/\t { nx:=λ_ H'=>Q .non H',rt:=Q } (start N vs) H):FnOk P w K mg base ur (k+1) f fd ps sp:=by
 obtain⟨G,C,kV,j,B,J,cdv,ct,p,rfl,m,d⟩:=F.ex;refine VP m d S len λA outer s H vs Q E z g=>?_;obtain⟨t,h,q⟩:=hbody cdv A outer s H vs Q E z g;exact⟨t,h.Zy,q⟩
def Fun.binds{x:Str}{st:aF}{f:ak}{ps:ar}(F:Fun K x qual st f fd)
  (h:∀(kV doc pm:af) (an:Option ak) (cdv ct:af) (us:ba),us.length=ps.length->bindArgs (PySem.W.fnOf x qual (vF st) (nN st) (jN st) .none kV doc pm an cdv ct) ⟨us,[]⟩=pure (ps.zip us)):Binds K fd ps []:=by
 obtain⟨m,j,kV,doc,pm,an,cdv,ct,d,rfl,k,g⟩:=F.ex;exact .all<|h kV doc pm an cdv ct
def YA{x:Str}{st:aF}{f:ak}{kV pm ct:af}(l:K.lookup f=some ⟨oc,od,.func<|PySem.W.fnOf x qual (vF st) (nN st) (jN st) .none kV doc pm an cdv ct,osl⟩)
  (c:PySem.W.codeIn K cdv qual=true) (k:PySem.W.keepIn K (.ref f)=true):Fun K x qual st f (PySem.W.fnOf x qual (vF st) (nN st) (jN st) .none kV doc pm an cdv ct):=⟨⟨oc,od,kV,doc,pm,an,cdv,ct,osl,rfl,l,c⟩,k⟩
end
set_option maxHeartbeats 4000000
abbrev Up (σ:St):bj->Option V
 | some j=>(σ[j]?).getD none
 | none=>none
abbrev vJ (env:Env):List (Str×NameKind)->List (Str×ak)->List (Str×ak)
 | [],cs=>cs
 | (n,k)::r,cs=>vJ env r (if k == .free then(n,(env.cells.lookup n).getD 0)::cs else cs)
def Ay{scope:Scope}{env:Env}(h:∀y∈scope.names,y.2=.free->∃c,env.cells.lookup y.1=some c):closureFor scope env=pure (vJ env scope.names []):=by
 have d:∀(l:List<|Str×NameKind) (cs:List<|Str×ak),(∀y∈l,y.2=.free->∃c,env.cells.lookup y.1=some c) ->
   (forIn l cs (λ(x:Str×NameKind) (r:List<|Str×ak)=>(match x with
    | (name,kind)=>if (kind == NameKind.free)=true then(do let c <- cellOf env name;pure (ForInStep.yield ((name,c)::r)))else pure (ForInStep.yield r):Sem<|ForInStep<|List<|Str×ak)))=(pure (vJ env l cs):Sem<|List<|Str×ak):=by
  intro l
  induction l with
  | nil=>intro cs _;rfl
  | cons y r m=>
   intro cs g;obtain⟨n,k⟩:=y;rw[jx];by_cases j:k=.free
   ·subst j;obtain⟨c,hc⟩:=g (n,.free) aV rfl;have e1:cellOf env n=pure c:=by
     unfold cellOf;rw[hc]
    dsimp[cu,eZ,e1,pure_bind];rw[m _ λz f=>g z<|aX _ f];dsimp[vJ,cu,eZ,hc,eE]
   ·have hb:(k == NameKind.free)=false:=by simpa using j
    dsimp[hb,bK,c6,pure_bind];rw[m _ λz f=>g z<|aX _ f];dsimp[vJ,hb,bK,c6]
 have:=d scope.names [] h;exact(c9 (λz=>z >>= λcs=>(pure cs:Sem<|List<|Str×ak)) this).trans (pure_bind _ _)
theorem Ar:∀{l:List<|Str×NameKind}{x:Str}{k:NameKind},l.lookup x=some k->(x,k)∈l
 | [],_,_,h=>nomatch h
 | (n,k')::r,x,k,h=>by
  rw[cT]at h
  cases d:x == n with
  | true=>
   rw[d]at h;have e:x=n:=by simpa using d
   subst e
   cases h
   exact aV
  | false=>rw[d]at h;exact aX _<|Ar h
theorem BU{env:Env}{x:Str}{c:ak}:∀{l:List<|Str×NameKind}{cs:List<|Str×ak},(∀y∈l,y.2=.free->∃c,env.cells.lookup y.1=some c)->(vJ env l cs).lookup x=some c->env.cells.lookup x=some c\/cs.lookup x=some c
 | [],cs,_,h=>.inr h
 | (n,k)::r,cs,hl,h=>by
  have h':=BU (l:=r) (λz g=>hl z<|aX _ g) h
  rcases h' with h'|h'
  ·exact .inl h'
  ·by_cases f:k=.free
   ·subst f;dsimp[cu,eZ]at h';obtain⟨j,hc⟩:=hl (n,.free) aV rfl;rw[hc,eE,cT]at h'
    cases d:x == n with
    | true=>
     rw[d]at h';have e:x=n:=by simpa using d
     subst e;left;rw[hc];exact h'
    | false=>rw[d]at h';exact .inr h'
   ·have hb:(k == NameKind.free)=false:=by simpa using f
    dsimp[hb,bK,c6]at h';exact .inr h'
theorem Bu{env:Env}{x:Str}:∀{l:List<|Str×NameKind}{cs:List<|Str×ak},(cs.lookup x).isSome=true->((vJ env l cs).lookup x).isSome=true
 | [],cs,h=>h
 | (n,k)::r,cs,h=>by
  skip
  refine Bu (l:=r) ?_;by_cases d:(k == NameKind.free)=true
  ·rw[aS d,cT]
   cases f:x == n with
   | true=>rfl
   | false=>exact h
  ·rw[aQ d];exact h
theorem zX{env:Env}{x:Str}:∀{l:List<|Str×NameKind}{cs:List<|Str×ak},(x,NameKind.free)∈l->((vJ env l cs).lookup x).isSome=true
 | [],_,h=>nomatch h
 | (n,k)::r,cs,h=>by
  rcases bE.mp h with e|h
  ·cases e
   skip
   refine Bu (l:=r) ?_;rw[aS<|by rfl,cT];simp
  ·exact zX (l:=r) h
theorem qY:∀(names:List<|Str×NameKind) (n:Nat) (acc:List<|Str×ak),cellsFrom n names acc=cellsFrom n names []++acc
 | [],_,_=>rfl
 | (x,k)::r,n,acc=>by
  unfold cellsFrom;split
  ·rw[qY r (n+1) ((x,n)::acc),qY r (n+1) [(x,n)],cJ];rfl
  ·exact qY r n acc
theorem zu:∀(names:List<|Str×NameKind) (n:Nat) {x:Str}{c:ak},(x,c)∈cellsFrom n names []->(x,NameKind.cell)∈names
 | [],_,_,_,h=>nomatch h
 | (y,k)::r,n,x,c,h=>by
  unfold cellsFrom at h;split at h
  ·rename_i d;rw[qY]at h
   rcases bJ.mp h with z|z
   ·exact aX _ (zu r _ z)
   ·rw[aR]at z
    cases z
    have:k=.cell:=by simpa using d
    rw[this];exact aV
  ·exact aX _<|zu r _ h
theorem wW{α:Type}{x:Str}:∀{l m:List<|Str×α},(l++m).lookup x=match l.lookup x with|some c=>some c|none=>m.lookup x
 | [],_=>rfl
 | (y,c)::l,m=>by
  rw[jn,cT,cT]
  cases x == y with
  | true=>rfl
  | false=>exact wW
def SW{n:Nat}{acc:List<|Str×ak}{x:Str}{c:ak}(h:(cellsFrom n names acc).lookup x=some c):(cellsFrom n names []).lookup x=some c\/((cellsFrom n names []).lookup x=none/\acc.lookup x=some c):=by
 rw[qY,wW]at h
 cases e:(cellsFrom n names []).lookup x with
 | some d=>rw[e]at h;exact .inl h
 | none=>rw[e]at h;exact .inr ⟨rfl,h⟩
def WY{n:Nat}{acc:List<|Str×ak}{x:Str}(h:(x,NameKind.cell)∉names):(cellsFrom n names acc).lookup x=acc.lookup x:=by
 rw[qY,wW]
 cases e:(cellsFrom n names []).lookup x with
 | some d=>exact absurd (zu names n<|cD e) h
 | none=>rfl
def J9{A:aA}{E:af->aC->Prop}{s:aC}{scope:Scope}{globals:ak}{cl:List<|Str×ak}{env:Env}{Q:Env->aC->Prop}
  (hQ:∀h':aq,h'.Ns s.heap.objs.size (λ_=>none)->(∀b o,s.heap.get? b=some o->h'.get? b=some o)->CellsOk h' (s.heap.objs.size+1) (cellsFrom (s.heap.objs.size+1) scope.names []) ->
   Q (newEnv scope s.heap.objs.size globals (cellsFrom (s.heap.objs.size+1) scope.names cl) qual none .none (some env) builtinsNs) { s with heap:=h',toks:=s.toks+([]:List<|Str×af).length }) :
  wpAny M A (newFunctionEnv scope globals cl [] qual none .none<|some env) Q E s:=by
 dsimp[newFunctionEnv,iY,eZ];refine aG<|wpAny_alloc ?_;refine aG (wpAny_layCells _ (λname kind cells=>by cases d:kind == NameKind.cell<;>simp[d]) _ _ _ _ ?_);have ok:=cellsFrom_ok scope.names (s.heap.push { cls:=.type "dict",data:=.dict #[]}) (s.heap.objs.size+1) [] ⟨λ_ _ f=>(nomatch f),List.Pairwise.nil⟩ (by rw[cG];exact aL _);rw[cG]at ok;rw[show({ s with heap:=s.heap.push { cls:=.type "dict",data:=.dict #[]}}:aC).heap.objs.size=s.heap.objs.size+1 from cG ..];rw[iZ];refine aG<|aN<|aN ?_;exact hQ _ ((Heap.Ns.new s.heap<|.type "dict").keeps<|pushCells_keeps _ _) (λb o e=>pushCells_keeps _ _ b o<|aM _ e) ok
abbrev kJ (X:Cx)(scope:Scope)(N:ar)(C:ak)(s₀:aC)(H₀:Hp)(ex:bb):Cx where
 prog:=X.prog
 w:=X.w
 K:=X.K
 mg:=X.mg
 base:=X.base
 A:=X.A
 N:=N
 s₀:=s₀
 H₀:=H₀
 env:=compEnvC scope (cellsFrom (C+1) scope.names<|vJ X.env scope.names []) C X.env
 outer:=X.stack
 stack:=X.stack
 ex:=ex
 fn:=λx=>scope.names.lookup x == some .cell
 calm:=X.calm
 pn:=[]
 xe:=λ_ _=>False
structure CpScope (X:Cx)(scope:Scope)(N:ar)(cap:List (bj)):Prop where
 kind:scope.kind=.function
 nocf:∀x,(x,NameKind.free)∈scope.names->(x,NameKind.cell)∉scope.names
 nm:∀y∈scope.names,y.2=.local->scope.names.lookup y.1=some .local
 fr:∀y∈scope.names,y.2=.free->X.env.kindOf y.1=some .cell\/X.env.kindOf y.1=some .free
 rl:∀y,((relabel scope X.env).names.lookup y=some .cell\/(relabel scope X.env).names.lookup y=some .free)->(y,NameKind.free)∈scope.names\/scope.names.lookup y=some .cell
 len:cap.length=N.length
 nolf:∀x,(x,NameKind.free)∈scope.names->scope.names.lookup x≠some .local
 cp:∀(i j:Nat) (x:Str),N[i]?=some x->cap[i]?=some (some j)->X.N[j]?=some x/\(x,NameKind.free)∈scope.names
def Q7{X:Cx}{scope:Scope}{N:ar}{cap:List<|bj}{H:Hp}{s:aC}{fp:bb}{h₁:aq}{m:Str->bd}{tk:Nat}(S:CpScope X scope N cap)(I:Inv X pins σ H s)
  (hf:∀b∈fp,vL X pins H b) (ho:∀b∈fp,∃o,s.heap.get? b=some o) (hn:h₁.Ns s.heap.objs.size m) (hC:CellsOk h₁ (s.heap.objs.size+1)<|cellsFrom (s.heap.objs.size+1) scope.names []) (hk:∀b o,s.heap.get? b=some o->h₁.get? b=some o) :
  Inv (kJ X scope N s.heap.objs.size s H fp) [] (cap.map<|Up σ) H { s with heap:=h₁,toks:=tk }:=by
 kst_p;have U:∀x c,(vJ X.env scope.names []).lookup x=some c->X.env.cells.lookup x=some c:=λx c e=>by
  rcases BU hfree e with z|z
  ·exact z
  ·cases z
 have f:∀x c,(cellsFrom (s.heap.objs.size+1) scope.names<|vJ X.env scope.names []).lookup x=some c->((x,c)∈cellsFrom (s.heap.objs.size+1) scope.names []/\h₁.IsCell c none/\s.heap.objs.size+1<=c)\/X.env.cells.lookup x=some c:=λx c e=>by
  rcases SW e with z|z
  ·exact .inl ⟨cD z,hC.empty x c<|cD z⟩
  ·exact .inr<|U x c z.2
 have old:∀x c,X.env.cells.lookup x=some c->c<s.heap.objs.size:=λx c e=>by
  obtain⟨v,z⟩:=I.cell x c e;exact z.lt
 have lt:∀b o,s.heap.get? b=some o->b≠s.heap.objs.size:=λb o e=>bC<|a_ e;refine⟨⟨I.ok.mod,?_,I.ok.glob,I.ok.blt,aL _,?_,?_,?_,I.ok.hd,I.ok.frames,.inl rfl,?_,I.bs,bM I.ok.bsz I.sz,?_,?_,I.stack,I.yT⟩,rfl,I.bare,Un.kept hk,?_,?_,I.hok.fresh<|aL _,?_,?_,I.hok.kept hk,?_⟩
 ·exact S.kind
 ·intro x y c e1 e2
  rcases f x c e1 with a|a
  ·rcases f y c e2 with b|b
   ·exact name_of_addr hC.apart a.1 b.1
   ·exact absurd (old y c b)<|not_lt.mpr<|eg a.2.2
  ·rcases f y c e2 with b|b
   ·exact absurd (old x c a) (not_lt.mpr<|eg b.2.2)
   ·exact I.ok.inj x y c a b
 ·intro x e;refine dR.mp (ez _ _ _ ?_)
  rcases S.rl x e with t|t
  ·exact .inr (zX (env:=X.env) (cs:=[]) t)
  ·exact .inl t
 ·intro x c e F;have e:scope.names.lookup x=some .cell:=by
   have e:(scope.names.lookup x == some .cell)=true:=e;simpa using e
  obtain⟨d,hd⟩:=dR.mp<|ez scope.names (s.heap.objs.size+1) []<|.inl e;have F:(cellsFrom (s.heap.objs.size+1) scope.names<|vJ X.env scope.names []).lookup x=some c:=F;rw[qY,wW,hd]at F
  cases F
  exact eg (hC.empty x c<|cD hd).2
 ·intro b hb;obtain⟨o,e⟩:=ho b hb;refine⟨lt b o e,λx c e2=>?_⟩
  rcases f x c e2 with z|z
  ·exact jt (jv (a_ e) z.2.2)
  ·exact(hf b hb).2.2.2.2.1 x c z
 ·intro b o e hb;obtain⟨_,_,_,h3,_⟩:=hf b hb
  rcases h3 with z|z
  ·exact I.ok.noex b o e z
  ·exact absurd (bN (a_ (I.ok.bs b o e).1) z)<|fh _
 ·intro b hb hz;obtain⟨_,h1,h2,_⟩:=hf b hb
  rcases bE.mp (I.zG b hz)with z|z
  ·exact h1 z
  ·exact h2 z
 ·refine⟨m,hn,λi x v e1 e2 e3=>?_⟩;rw[aP]at e2
  cases hc:cap[i]? with
  | none=>rw[hc]at e2;cases e2
  | some W=>
   rw[hc]at e2
   cases W with
   | none=>cases e2
   | some j=>
    have q:(σ[j]?).getD none=some v:=aZ e2;obtain⟨hj,t⟩:=S.cp i j x e1 hc;obtain⟨m0,Y,M⟩:=I.loc;have L:σ[j]?=some (some v):=by
     cases h:σ[j]? with
     | none=>rw[h]at q;cases q
     | some z=>rw[h,eE]at q;rw[q]
    have K:=S.fr (x,.free) t rfl;have hv:Vis X.env.scope x:=.inr K;obtain⟨u,V,lo⟩:=M j x v hj L hv;refine⟨u,V,?_⟩
    rcases lo with⟨lo,_⟩|⟨_,c,F,Z⟩
    ·rcases K with z|z<;>(rw[z]at lo;cases lo)
    ·have h2:=zX (env:=X.env) (cs:=[]) t;obtain⟨P,C⟩:=dR.mp h2;have:P=c:=aZ<|(U x P C).symm.trans F;subst this;refine .inr ⟨?_,P,(WY<|S.nocf x t).trans C,?_⟩
     ·rcases e3 with z|z|z
      ·exfalso;have:(relabel scope X.env).names.lookup x=some .local:=z;have G:scope.names.lookup x=some .local:=by
        have J:∃k,(x,k)∈(relabel scope X.env).names/\k=.local:=by
         clear C h2;have:=Ar this;exact⟨_,this,rfl⟩
        obtain⟨k,O,rfl⟩:=J;obtain⟨⟨n',k'⟩,T,g⟩:=bf.mp O;dsimp only at g;split at g
        ·cases g
        ·cases g
         exact S.nm (x,.local) T rfl
       exact False.elim<|S.nolf x t G
      ·exact .inl z
      ·exact .inr z
     ·obtain⟨o,B,hd⟩:=Z;exact⟨o,hk _ _ B,hd⟩
 ·intro x c e
  rcases f x c e with z|z
  ·exact⟨_,z.2.1⟩
  ·obtain⟨v,o,B,hd⟩:=I.cell x c z;exact⟨v,o,hk _ _ B,hd⟩
 ·intro x c e
  rcases f x c e with z|z
  ·exact I.hok.fresh (eg z.2.2)
  ·exact I.freeC x c z
 ·intro p hp
  cases hp
 ·rw[aH,S.len];rfl
abbrev Nh (X:Cx)(ifs:List aE)(t:TT):Prop:=
 ∀(pins:bo) (s:aC) (σ:St) (H:Hp) (Q:Bool->Hp->Prop),Inv X pins σ H s->t σ H Q ->
  wpAny (model X.prog X.w) X.A (forIn ifs true λc r=>if r=true then do let ok <- isTrue c X.env (eval c X.env);pure (ForInStep.yield ok)else pure (ForInStep.yield r)) (TP X pins σ Q) X.xe s
abbrev ab5:TT:=λ_ H Q=>Q true H
def TN{X:Cx}:Nh X [] ab5:=λ_ _ _ H _ I h=>wpAny_tests_nil ⟨H,I,h⟩
def Sq{X:Cx}{c:aE}{t:TT}(h:PT X c t):Nh X [c] t:=λpins s σ H Q I q=>wpAny_tests_one<|h pins s σ H Q I q
abbrev Xz (cap:List<|bj)(g:TG)(tc:TT)(te:TE)(σ:St)(Q:VK)(J:It)(H1:Hp):Prop:=∀D,H1 D=none ->
 ∃W:Nat->Nat->St->Hp->Prop,(∃m,W 0 m (cap.map<|Up σ)<|upd H1 D<|.lst [])/\∀i m j H',W i m j H' ->
  (J.stop i H'/\Q (.ref D) H')\/(J.go i H'/\∀x H2,J.yld i H' x H2->g x j H2 λd H3=>tc d H3 λb p=>
   if b=true then te d p λy k=>∃ys,k D=some (.lst ys)/\ys.length<sizeLine/\∃f,f<m/\W (i+1) f d (upd k D<|.lst<|ys++[y])
   else ∃f,f<m/\W (i+1) f d p)
abbrev Zp (cap:List<|bj)(wi:TI)(g:TG)(tc:TT)(te:TE):TE:=λσ H Q=>wi σ H<|Xz cap g tc te σ Q
def FP{α:Type}{t:Sem α}{Q Q':α->aC->Prop}{A:aA}{E:af->aC->Prop}(h:wpAny M A t Q (λ_ _=>False) s)(hQ:∀a s,Q a s->Q' a s):wpAny M A t Q' E s:=
 cY h hQ λ_ _ f=>f.elim
structure TurnG (ok:Cx->Prop)(P:aj)(w:ah)(K:au)(tg:aE)(J:It)(fp:bb)(it:ak)(tn:Nat->aq->Prop):Prop where
 obj:∀i h,tn i h->∀b∈fp,∃o,h.get? b=some o/\∀v,o.data≠.cell v
 keep:∀i h h',tn i h->(∀b∈fp,∀o,h.get? b=some o->h'.get? b=some o)->tn i h'
 item:∀(X:Cx),X.prog=P->X.w=w->X.K=K->ok X->∀(i:Nat) (pins:bo) (s:aC) (σ:St) (H:Hp) (E:af->aC->Prop),Inv X pins σ H s->(∀b∈fp,vL X pins H b)->tn i s.heap->J.go i H ->
  wpAny (model P w) X.A (pyNext<|.ref it) (λr s1=>∃u,r=some u /\
   wpAny (model P w) X.A (letOwnedTupleGo tg (.ref it) u) (λ_ s2=>∃x H',Inv X pins σ H' s2/\RelV x u/\J.yld i H x H'/\tn (i+1) s2.heap/\∀b∈fp,H' b=none) E s1) E s
 done:∀(X:Cx),X.prog=P->X.w=w->X.K=K->ok X->∀(i:Nat) (pins:bo) (s:aC) (σ:St) (H:Hp) (E:af->aC->Prop),Inv X pins σ H s->(∀b∈fp,vL X pins H b)->tn i s.heap->J.stop i H ->
  wpAny (model P w) X.A (pyNext<|.ref it) (λr s1=>r=none/\Inv X pins σ H s1) E s
 self:∀(A:aA) (i:Nat) (s:aC) (Q:af->aC->Prop) (E:af->aC->Prop),tn i s.heap->Q (.ref it) s->wpAny (model P w) A (pyIter<|.ref it) Q E s
abbrev ab8 (ok:Cx->Prop)(X:Cx)(pins:bo)(σ:St)(tg:aE)(R:It->Hp->Prop)(itv:af)(s2:aC):Prop:=
 ∃(it:ak) (fp:bb) (d:Nat->aq->Prop) (J:It) (H':Hp),itv=.ref it/\Inv X pins σ H' s2/\TurnG ok X.prog X.w X.K tg J fp it d/\d 0 s2.heap/\(∀b∈fp,vL X pins H' b)/\R J H'
abbrev Ut (ok:Cx->Prop)(X:Cx)(tg iter:aE)(wi:TI):Prop:=
 ∀(pins:bo) (s:aC) (σ:St) (H:Hp) (R:It->Hp->Prop),Inv X pins σ H s->wi σ H R ->
  wpAny (model X.prog X.w) X.A (eval iter X.env) (λv d=>wpAny (model X.prog X.w) X.A (pyIter v) (ab8 ok X pins σ tg R) X.xe d) X.xe s
def PI.g{X:Cx}{iter:aE}{wi:TI}(h:PI X tg iter wi):Ut (λY=>Y.calm=true) X tg iter wi:=λpins s σ H R I q=>
 mR (h pins s σ H R I q) λv k h1=>mR h1 λd m ⟨it,fp,j,J,H',e,f,T,a,b,c⟩=>⟨it,fp,j,J,H',e,f,⟨T.obj,T.keep,T.item,T.done,T.self⟩,a,b,c⟩
def JH{ok:Cx->Prop}{X:Cx}{use:Option<|af->Sem Unit}{Q':af->aC->Prop}{iter:aE}{N:ar}{wi:TI}{g:TG}{tc:TT}{te:TE}(S:CpScope X scope N cap)(hok:∀C s₀ H₀ ex,(∀a o u,X.H₀ a=some (.frz o u)->H₀ a=some (.frz o u))->ok (kJ X scope N C s₀ H₀ ex))(hi:Ut ok X tg iter wi)
  (hg:∀C s₀ H₀ ex,PG (kJ X scope N C s₀ H₀ ex) tg g) (ht:∀C s₀ H₀ ex,Nh (kJ X scope N C s₀ H₀ ex) ifs tc) (he:∀C s₀ H₀ ex,PE (kJ X scope N C s₀ H₀ ex) elt te)
  (hs:(∀x,foldedSetIterable iter X.env x=pure x)<|>ζ):∀(pins:bo) (s:aC) (σ:St) (H:Hp) (Q:VK),Inv X pins σ H s->Zp cap wi g tc te σ H Q ->
  (∀(s6:aC) (C D:ak) (H5:Hp) (m:Str->bd),s6.heap.Ns C m->vL X pins H5 C->(∀h',Heap.SameBut C s6.heap h'->Inv X pins σ H5 { s6 with heap:=h' })->Q (.ref D) H5->∀v,compPost (model X.prog X.w) X.A X.xe use Q' (.ref D) C (.ok v) s6) ->
  wpAny (model X.prog X.w) X.A (comprehension (.ListComp elt [⟨tg,iter,ifs,0⟩] scope pos) scope X.env (firstIterPos [⟨tg,iter,ifs,0⟩] pos) (newList []) (firstAsync [⟨tg,iter,ifs,0⟩]) (firstIter [⟨tg,iter,ifs,0⟩] X.env) use) Q' X.xe s:=by
 intro pins s σ H Q I h hfin;kst_p;refine wpAny_comprehension_free (use:=use) rfl hs (Ay hfree) S.kind S.nm<|mR (hi pins s σ H _ I h) λxv s1 h1=>mR h1 λitv f h2=>?_;obtain⟨it,fp,tn,J,H2,rfl,I2,T,st2,f2,h2⟩:=h2;refine cK<|J9 λP t old k=>?_;obtain⟨W,⟨m0,w0⟩,turn⟩:=h2 f.heap.objs.size I2.fresh;dsimp only at t old k ⊢;have I3:Inv X pins σ (upd H2 f.heap.objs.size<|.lst []) { f with heap:=f.heap.push {}}:=I2.Xg (t':=f.toks) (its:=[]) .nil<|bL _;have hfp:∀b∈fp,∃o,f.heap.get? b=some o:=λb hb=>by
  obtain⟨o,e,_⟩:=T.obj 0 _ st2 b hb;exact⟨o,e⟩
 have neD:∀b∈fp,b≠f.heap.objs.size:=λb hb=>by
  obtain⟨o,e⟩:=hfp b hb;exact bC<|a_ e
 have f3:∀b∈fp,vL X pins (upd H2 f.heap.objs.size<|.lst []) b:=λb hb=>⟨by rw[jI<|neD b hb];exact(f2 b hb).1,(f2 b hb).2⟩;have hDC:f.heap.objs.size≠(f.heap.push {}).objs.size:=by rw[cG];exact bC (dz _)
 have I4:=Q7 (tk:=f.toks+([]:List<|Str×af).length) (fp:=fp) S I3 f3 (λb hb=>by
  obtain⟨o,e⟩:=hfp b hb;exact⟨o,aM _ e⟩) t k old
 have st4:tn 0 P:=T.keep _ _ _ st2 λb hb o e=>old b o<|aM _ e;have hc:=hok (f.heap.push {}).objs.size { f with heap:=f.heap.push {}} (upd H2 f.heap.objs.size<|.lst []) fp λa o u e=>by
  have z:=I2.base.frzs a o u e;rw[jI λq=>by rw[q,I2.fresh]at z;cases z];exact z
 have G:∀{H':Hp},(∀b∈fp,H' b=none)->∀b∈fp,vL (kJ X scope N (f.heap.push {}).objs.size { f with heap:=f.heap.push {}} (upd H2 f.heap.objs.size<|.lst []) fp) [] H' b:=λhn b hb=>by
  have ok:=I4.ok;refine⟨hn b hb,(ok.exf b hb).1,ok.exfs b hb,.inl hb,λx c e=>(ok.exf b hb).2 x c e,λp hp=>nomatch hp⟩
 have O:∀s4:aC,s4={ f with heap:=P,toks:=f.toks+([]:List<|Str×af).length } ->
   codeAny (model X.prog X.w) X.A (.compLoop (.ListComp elt [⟨tg,iter,ifs,0⟩] scope pos) 0 (.ref it) (.ref f.heap.objs.size)<|compEnvC scope (cellsFrom ((f.heap.push {}).objs.size+1) scope.names<|vJ X.env scope.names []) (f.heap.push {}).objs.size X.env)
    (compPost (model X.prog X.w) X.A X.xe use Q' (.ref f.heap.objs.size) (f.heap.push {}).objs.size) s4:=by
  rintro s4 rfl;refine codeAny_loop rfl (λn s'=>∃i L H',Inv (kJ X scope N (f.heap.push {}).objs.size { f with heap:=f.heap.push {}} (upd H2 f.heap.objs.size<|.lst []) fp) [] L H' s'/\tn i s'.heap/\(∀b∈fp,H' b=none)/\W i n L H') (λn s5 hI=>?_) m0 ⟨0,_,_,I4,st4,λb hb=>(f3 b hb).1,w0⟩;obtain⟨i,M,H5,I5,st5,fr5,w5⟩:=hI;show wpAny _ X.A ((compTurn (.ListComp elt [⟨tg,iter,ifs,0⟩] scope pos) 0 (.ref it) (.ref f.heap.objs.size)<|compEnvC scope (cellsFrom ((f.heap.push {}).objs.size+1) scope.names<|vJ X.env scope.names []) (f.heap.push {}).objs.size X.env).onRaise λx=>do noteFrame x _;theTreesLotGoes x) _ _ s5;refine wpAny_noted ?_;rw[compTurn_list];refine aG (fj<|aG ?_)
  rcases turn i n M H5 w5 with⟨stop,q⟩|⟨go,step⟩
  ·refine mR (T.done (kJ X scope N (f.heap.push {}).objs.size { f with heap:=f.heap.push {}} (upd H2 f.heap.objs.size<|.lst []) fp) rfl rfl rfl hc i [] s5 M H5 _ I5 (G fr5) st5 stop) λr s6 h9=>?_;obtain⟨hr,I6⟩:=h9;subst hr;obtain⟨m6,hn6,_⟩:=I6.loc;refine aN<|hfin s6 _ _ H5 m6 hn6 (I3.AX (aL _) I6.free) (λh' sb=>?_) q _;have U:=I6.base;have nC:∀b o,(f.heap.push {}).get? b=some o->b≠(f.heap.push {}).objs.size:=λb o e=>bC<|a_ e;refine I3.JJ (ch:=fp) I6.os ⟨λb o e n hb Y=>?_,λb o e n hb Y=>?_,λb o e n Y=>?_,λb o e Y=>?_,U.tups,U.frzs,U.tbls⟩ ?_ I6.bare ?_
   ·exact sb.extBut b o (nC b o e) (U.keep b o e n hb Y)
   ·obtain⟨sl,z⟩:=U.slot b o e n hb Y;exact⟨sl,sb.extBut b _ (nC b o e) z⟩
   ·exact U.free b o e n Y
   ·obtain⟨o',z⟩:=U.there b o e Y;exact⟨o',sb.extBut b _ (nC b o e) z⟩
   ·intro b o e;have hb:∀c v,H5 c=some v->c≠(f.heap.push {}).objs.size:=λc v e z=>by
     rw[z]at e;have:=I6.free;rw[show H5 (f.heap.push {}).objs.size=none from this]at e
     cases e
    refine(I6.hok b o e).stay (λc v hc q=>sb.extBut c v ?_ q) (λ_ q=>q) λ_ _ q=>q
    rcases hc with z|z
    ·rw[z];exact hb b o e
    ·exact hb c _ z
   ·intro b hb;obtain⟨_,z1,_,z3,z4,z5⟩:=f3 b hb;exact⟨z3,z1,z4,z5⟩
  ·refine mR (T.item (kJ X scope N (f.heap.push {}).objs.size { f with heap:=f.heap.push {}} (upd H2 f.heap.objs.size<|.lst []) fp) rfl rfl rfl hc i [] s5 M H5 _ I5 (G fr5) st5 go) λr s6 h9=>?_;obtain⟨u,hr,h6⟩:=h9;subst hr;refine aG<|mR h6 λ_ s7 ⟨x,H7,I7,r7,y7,V,fr7⟩=>?_;have I7':=I7.pinned (G fr7)<|T.obj _ _ V;refine aG<|FP (hg _ _ _ fp _ s7 M H7 x u _ I7' r7<|step x H7 y7) λ_ s8 ⟨B,H8,I8,q8⟩=>?_;refine aG<|FP (ht _ _ _ fp _ s8 B H8 _ I8 q8) λok s9 ⟨H9,I9,q9⟩=>?_;have again:∀{F:aC} {j:Hp},Inv (kJ X scope N (f.heap.push {}).objs.size { f with heap:=f.heap.push {}} (upd H2 f.heap.objs.size<|.lst []) fp) ([]++yj fp s7.heap) B j F->(∃m',m'<n/\W (i+1) m' B j) ->
     ∃m,m<n/\∃i L H',Inv (kJ X scope N (f.heap.push {}).objs.size { f with heap:=f.heap.push {}} (upd H2 f.heap.objs.size<|.lst []) fp) [] L H' F/\tn i F.heap/\(∀b∈fp,H' b=none)/\W i m L H':=λ{F j} K h9=>by
    obtain⟨m',hm,Z⟩:=h9;refine⟨m',hm,i+1,B,j,K.qC,T.keep _ _ _ V λb hb o e=>(K.pin (b,o)<|bI _<|bI _<|ni hb e).1,λb hb=>?_,Z⟩;obtain⟨o,e,d⟩:=T.obj _ _ V b hb;exact(K.pin (b,o)<|bI _<|bI _<|ni hb e).2.1
   cases ok with
   | false=>
    rw[aQ bF]at q9;exact aN ⟨rfl,again I9 q9⟩
   | true=>
    rw[aS rfl]at q9;refine aG<|aG<|FP (he _ _ _ fp _ s9 B H9 _ I9 q9) λy F ⟨v10,j,K,r10,ys,hD,hz,Z⟩=>?_;refine aG<|FP (Bf _ F B j (.ref f.heap.objs.size) [v10] _ [y] (λ_ H'=>H'=upd j f.heap.objs.size (.lst<|ys++[v10])) K rfl (.cons r10 .nil) ⟨_,ys,v10,rfl,rfl,hD,hz,rfl⟩) λ_ s11 ⟨_,H11,I11,_,e11⟩=>?_;subst e11;exact aN<|aN ⟨rfl,again I11 Z⟩
 exact codeAny_compStart_list (O _ rfl)<|T.self _ 0 _ _ _ st4<|O _ rfl
def Wv{ok:Cx->Prop}{X:Cx}{iter:aE}{N:ar}{wi:TI}{g:TG}{tc:TT}{te:TE}(S:CpScope X scope N cap)(hok:∀C s₀ H₀ ex,(∀a o u,X.H₀ a=some (.frz o u)->H₀ a=some (.frz o u))->ok (kJ X scope N C s₀ H₀ ex))(hi:Ut ok X tg iter wi)
  (hg:∀C s₀ H₀ ex,PG (kJ X scope N C s₀ H₀ ex) tg g) (ht:∀C s₀ H₀ ex,Nh (kJ X scope N C s₀ H₀ ex) ifs tc) (he:∀C s₀ H₀ ex,PE (kJ X scope N C s₀ H₀ ex) elt te)
  (hs:(∀x,foldedSetIterable iter X.env x=pure x)<|>ζ):PE X (.ListComp elt [⟨tg,iter,ifs,0⟩] scope pos) (Zp cap wi g tc te):=by
 gn_on;rw[eval_ListComp];exact JH (use:=none) (Q':=EP X pins σ Q) S hok hi hg ht he hs pins s σ H Q I h λk C D f m hn j inv q v=>⟨m,hn,λh' d=>⟨.ref D,f,inv h' d,rfl,q⟩⟩
def aaS{X:Cx}{iter:aE}{N:ar}{wi:TI}{g:TG}{tc:TT}{te:TE}(hc:X.calm=true)(S:CpScope X scope N cap)(hi:PI X tg iter wi)
  (hg:∀C s₀ H₀ ex,PG (kJ X scope N C s₀ H₀ ex) tg g) (ht:∀C s₀ H₀ ex,Nh (kJ X scope N C s₀ H₀ ex) ifs tc) (he:∀C s₀ H₀ ex,PE (kJ X scope N C s₀ H₀ ex) elt te)
  (hs:(∀x,foldedSetIterable iter X.env x=pure x)<|>ζ):PE X (.ListComp elt [⟨tg,iter,ifs,0⟩] scope pos) (Zp cap wi g tc te):=
 Wv S (λ_ _ _ _ _=>hc) hi.g hg ht he hs
section
variable {X:Cx}
def QF{bs:List Bool}:∀{us:ba},Vals (bs.map V.bl) us->LSm.BoolsAre us bs:=by
 induction bs with
 | nil=>intro us r;cases r;exact .nil
 | cons b bs d=>
  intro us r
  cases r with
  | cons h t=>
   have e:_=Value.bool b:=h;subst e;exact .cons b<|d t
def LF(hc:X.calm=true):j7 X (.builtin "any") (λxs H Q=>∃(p:ak) (bs:List Bool),xs=[.ref p]/\pO X.K H p (bs.map V.bl)/\Q (.bl<|bs.any id) H):=by
 fin2;obtain⟨p,bs,rfl,hq,q⟩:=h;kcj_m
 cases rx
 obtain⟨d,k,pl,B⟩:=I.list hq;have hb:=QF k;have g:=pl.isList;have f:p<s.heap.objs.size:=by obtain⟨_,e,_⟩:=g;exact a_ e
 refine call_any_walk<|jf g ?_;refine⟨s.heap.objs.size,[s.heap.objs.size,p],[s.heap.objs.size],d.toArray.size,_,_,λi=>(bs[i]?).getD false,rfl,Walks.list (A:=X.A.in1) (I.ok.hd hc) _ p (bC f) d.toArray,
  ⟨⟨_,bu _ rfl,rfl,rfl⟩,g.push _⟩,λi v s' z t hP j=>?_,λh' C m=>?_⟩
 ·obtain⟨b,e,rfl⟩:=hb.get i v (by simpa using hP);dsimp[e,eE]at j;exact c5 j
 ·have e:((List.range d.toArray.size).any λi=>(bs[i]?).getD false)=bs.any id:=by
   rw[aY,hb.length];exact LSm.range_any bs
  rw[e];exact⟨.bl _,H,I.kept<|LSm.kept_iter m,rfl,q⟩
def CP:j7 X (.type "range") (λxs H Q=>∃i j,xs=[.int i,.int j]/\∀p,H p=none->Q (.ref p) (upd H p<|.rng i j)):=by
 fin2;obtain⟨i,j,rfl,q⟩:=h;obtain⟨u,f,rfl,⟨t,rfl⟩,⟨d,rfl⟩⟩:=vals2 r;refine call_range_2 ⟨.ref s.heap.objs.size,_,I.laid (o:=.rng i j) (λb o e=>aM _ e) (aL _) ?_,rfl,q _ I.fresh⟩;exact⟨t,d,s.toks,bu _ rfl⟩
abbrev l8 (i j:Int):ag:=(List.range (j-i).toNat).map λk:Nat=>i+(k:Int)
def sV(i j:Int):(l8 i j).length=(j-i).toNat:=by unfold l8;rw[aH,bQ]
def AA{i:Int}{n:Nat}{acc:Array af}(h:ItemsOf (λk v=>∃t,v=Value.int (i+(k:Int) * 1) t) acc n):Vals (((List.range n).map λk:Nat=>i+(k:Int)).map V.int) acc.toList:=by
 obtain⟨hs,hv⟩:=h;have d:∀(l:ba) (b:Nat),(∀j v,l[j]?=some v->∃t,v=Value.int (i+((b+j:Nat):Int)) t)->Vals (((List.range' b l.length).map λk:Nat=>i+(k:Int)).map V.int) l:=by
  intro l
  induction l with
  | nil=>intro b _;exact .nil
  | cons v l g=>
   intro b hb;rw[bB,List.range'_succ,bH,bH];refine .cons ?_ ?_
   ·obtain⟨t,e⟩:=hb 0 v rfl;exact⟨t,by rw[e];simp⟩
   ·refine g (b+1) λj w hw=>?_;obtain⟨t,e⟩:=hb (j+1) w hw;exact⟨t,by rw[e,show b+(j+1)=b+1+j by lia]⟩
 have:=d acc.toList 0 λj v f=>by
  obtain⟨t,e⟩:=hv j v (by simpa using f);exact⟨t,by rw[e,cj,mul_one]⟩
 rw[d_,hs,<- fV]at this;exact this
def N5{i j:Int}:Builtin.Range.rangeSize i j 1=(((j-i).toNat:Nat):Int):=by rw[rangeSize_one];split<;>omega
def AN(hc:X.calm=true):j7 X (.type "list") (λxs H Q=>∃p i j,xs=[.ref p]/\H p=some (.rng i j)/\(-(2 ^ 62)<=i/\i<2 ^ 62/\-(2 ^ 62)<=j/\j<2 ^ 62)/\(j-i).toNat<=1000/\∀l,H l=none->Q (.ref l) (upd H l<|.lst<|(l8 i j).map V.int)):=by
 fin2;obtain⟨p,i,j,rfl,hp,⟨m,k,g,C⟩,hn,q⟩:=h;kcj_m
 cases rx
 obtain⟨t,G,v,e⟩:=I.hok p _ hp;refine call_list_range (n:=(j-i).toNat) (I.ok.hd hc) e (small_one m k g C) N5 () λh' F f B z hS d=>?_;refine⟨.ref s.heap.objs.size,_,I.laid (o:=.lst<|(l8 i j).map V.int) z (aL _) ⟨?_,f.toList,B,AA d,by rw[hS]⟩,rfl,q _ I.fresh⟩;rw[aH,sV,eB];lia
end
section
variable {X:Cx}
def FQ{prog:aj}{w:ah}{A:aA}{E:af->aC->Prop}{s:aC}{Q:ba->aC->Prop}{r:ak}{a b c:Int}{t v:Tok}{n:Nat}(hh:A.handled=none)(hr:IsRange s.heap r a b c t u v)(hsmall:Builtin.Range.small a b c=true)
  (hn:Builtin.Range.rangeSize a b c=n) (hlen:n<=2 ^ 24)
  (hQ:∀h' tk (acc':Array af),(∀b o,s.heap.get? b=some o->h'.get? b=some o)->ItemsOf (λi v=>∃t,v=.int (a+i * c) t) acc' n->Q acc'.toList { s with heap:=h',toks:=tk }) :
  wpAny (model prog w) A (collect<|.ref r) Q E s:=by
 unfold collect;refine aG<|wpAny_runValue<|eY F.entry_proto_collect ?_;rw[dW F.plain_proto_collect _]
 skip
 refine aG<|cK ?_;refine aN ⟨iG F.plain_list_iadd _,eY F.entry_list_iadd ?_⟩;rw[dW F.plain_list_iadd _]
 skip
 have hS:(s.heap.push {}).get? s.heap.objs.size=some { cls:=.type "list",data:=.seq #[] 0 }:=bu _ rfl;have k:∀(h':aq) (tk:Nat) (acc':Array af) (j:Nat),(∀b o,b≠s.heap.objs.size->(s.heap.push {}).get? b=some o->h'.get? b=some o) ->
   h'.get? s.heap.objs.size=some { cls:=.type "list",dict:=none,data:=.seq acc' j,slots:=#[]}->ItemsOf (λi v=>∃t,v=.int (a+i * c) t) acc' n ->
   wpAny (model prog w) A (match Value.ref s.heap.objs.size with
   | Value.ref a=>do
    match (<- load a).data with
     | Data.seq xs _=>pure xs.toList
     | _=>unsupported "internal:collect"
   | _=>unsupported "internal:collect") Q E { s with heap:=h',toks:=tk }:=by
  intro h' tk acc' j m g d
  skip
  refine aG<|wpAny_load g ?_;refine aN ?_;exact hQ h' tk acc' (λb o e=>m b o (bC<|a_ e)<|aM _ e) d
 refine cY (wpAny_extend_range (A:=A) (R:=λq s'=>q=.ok (.ret<|.ref s.heap.objs.size)/\∃h' tk acc' j,s'={ s with heap:=h',toks:=tk }/\(∀b o,b≠s.heap.objs.size->(s.heap.push {}).get? b=some o->h'.get? b=some o) /\
   h'.get? s.heap.objs.size=some { cls:=.type "list",dict:=none,data:=.seq acc' j,slots:=#[]}/\ItemsOf (λi v=>∃t,v=.int (a+i * c) t) acc' n)
  (s:={ s with heap:=s.heap.push {}}) hh (aM _ hr) hsmall hn hlen s.heap.objs.size (.ref s.heap.objs.size) 0 hS
  (λh' tk acc' j m g d=>⟨rfl,h',tk,acc',j,rfl,m,g,d⟩)) (λp s' h=>?_) λe s' h=>?_
 ·cases p with
  | done f=>
   obtain⟨e,h',tk,acc',j,rfl,m,g,d⟩:=h
   cases e
   exact k h' tk acc' j m g d
  | again j=>exact⟨h.1,iR h.2 λr z hr=>by
    obtain⟨rfl,h',tk,acc',j,rfl,m,g,d⟩:=hr;exact k h' tk acc' j m g d⟩
 ·exact absurd h.1<|by simp
def vM(l:ak){a b:Int}{t v:Tok}{n:Nat}(hsmall:Builtin.Range.small a b 1=true)
  (hn:Builtin.Range.rangeSize a b 1=n) (hlen:n<=1000) :
  Meets (Builtin.«tuple.__new__» ⟨[.type "tuple",.ref l],[]⟩)
   (λA R s=>A.handled=none/\IsRange s.heap l a b 1 t u v/\∀(h':aq) (tk:Nat) (acc':Array af),(∀b o',s.heap.get? b=some o'->h'.get? b=some o')->ItemsOf (λi v=>∃t,v=.int (a+i * 1) t) acc' n->R (.ok<|.ret<|.ref h'.objs.size) { s with heap:=h'.push { cls:=.type "tuple",data:=.seq acc' },toks:=tk }):=
 .of_wp λprog w A R s h=>by
  obtain⟨hp,g,d,tk,os⟩:=s;obtain⟨F,j,h⟩:=h;have q:=sub_tuple_self;have k:=init_tuple_lookup;have C:=madeHere_tuple;have B:Shared.TypeIs ⟨hp,g,d,tk,os⟩ (.ref l) "range" := ⟨_,j,rfl⟩;have m:A.in1.handled=none:=F
  wp_walk using dS j,gO B,FQ (A:=A.in1) m j hsmall hn (by omega)
  intro h' p acc' z f;show wpAny _ _ (Builtin.Tuple.tupleExact acc'.toList.toArray >>= λv=>ret v) _ _ _;unfold Builtin.Tuple.tupleExact;have e:acc'.toList.toArray=acc':=by simp
  refine aG (cK ?_<|by show acc'.toList.toArray.size<=sizeLine;rw[e,f.1,eB];omega);refine aN ⟨_,rfl,?_⟩;rw[e];exact h h' p acc' z f
def z9(hc:X.calm=true):j7 X (.type "tuple") (λxs H Q=>∃p i j,xs=[.ref p]/\H p=some (.rng i j)/\(-(2 ^ 62)<=i/\i<2 ^ 62/\-(2 ^ 62)<=j/\j<2 ^ 62)/\(j-i).toNat<=1000/\∀l,H l=none->Q (.ref l) (upd H l<|.tup<|(l8 i j).map V.int)):=by
 fin2;obtain⟨p,i,j,rfl,hp,⟨C,B,z,J⟩,hn,q⟩:=h;kcj_m
 cases rx
 obtain⟨t,K,v,e⟩:=I.hok p _ hp;refine callType_new F.called_tuple ⋯ (F.typeCall_tuple_1 _) (F.newCall_tuple_1 _) (λg=>F.args_object_init_2 g _) F.entry_tuple_new
  (vM (n:=(j-i).toNat) p (small_one C B z J) N5 hn) ⟨I.ok.hd hc,e,λh' m d G f=>⟨⟨_,bu _ rfl,rfl⟩,?_⟩⟩
 have k:Inv X pins σ H { s with heap:=h',toks:=m }:=I.kept G;refine⟨.ref h'.objs.size,_,k.laid (t':=m) (o:=.tup<|(l8 i j).map V.int) (λb o e=>aM _ e) (aL _) ⟨?_,d.toList,AA f,?_⟩,rfl,q _<|k.hok.fresh<|aL _⟩
 ·rw[aH,sV,eB];lia
 ·have e:d.toList.toArray=d:=by simp
  rw[e];exact qD.new _ _
def EA{c:String}:j7 X (.builtin "isinstance") (λxs H Q=>∃x t b,xs=[x,.ty c]/\TyOf X.K H x t/\PySem.W.kitOne X.K t (.type c)=some b/\Q (.bl b) H):=by
 fin2;obtain⟨x,t,b,rfl,ty,e,q⟩:=h;obtain⟨u,g,rfl,rx,d⟩:=vals2 r
 cases d
 exact KG I rx ty e λf=>⟨.bl b,H,I.tok f,rfl,q⟩
abbrev Xh (K:au):R2:=λx y H Q=>∃a b ys,x=.ref a/\y=.ref b/\nj K H a []/\nj K H b ys/\Q (.ref b) H
def Rm:oW X (binaryOp .Add) (Xh X.K):=by
 kpc_g;obtain⟨a,b,ys,rfl,rfl,h1,h2,q⟩:=h
 cases rx
 cases ry
 obtain⟨us,r1,p1,_⟩:=I.tuple h1;obtain⟨F,r2,p2,_⟩:=I.tuple h2
 cases r1
 obtain⟨⟨cls,dd,data,B⟩,z,hc,n,t⟩:=id p1;obtain⟨⟨p,j,k,m⟩,d,g,C,f⟩:=id p2;simp only at hc t g f;subst hc t g f;exact concat_meets ⟨_,z,rfl⟩ ⟨_,d,rfl⟩ noFill_tuple_add seq_tuple_add gM gH (gf _ _)
   (tuple_addW0 a b _ F.toArray n C dd j B m<|by simp) ⟨z,d,⟨.ref b,H,I,rfl,q⟩⟩
end
def pC:bootBuiltins "len" = some (.builtin "len"):=by decide +kernel
def Xn:bootBuiltins "abs" = some (.builtin "abs"):=by decide +kernel
def X0:bootBuiltins "any" = some (.builtin "any"):=by decide +kernel
def XM:bootBuiltins "max" = some (.builtin "max"):=by decide +kernel
def V9:bootBuiltins "min" = some (.builtin "min"):=by decide +kernel
def qA:bootBuiltins "sorted" = some (.builtin "sorted"):=by decide +kernel
def sH:bootBuiltins "isinstance" = some (.builtin "isinstance"):=by decide +kernel
def Ym:bootBuiltins "int" = some (.type "int"):=by decide +kernel
def SJ:bootBuiltins "bool" = some (.type "bool"):=by decide +kernel
def CH:bootBuiltins "list" = some (.type "list"):=by decide +kernel
def zy:bootBuiltins "tuple" = some (.type "tuple"):=by decide +kernel
def Mt:bootBuiltins "range" = some (.type "range"):=by decide +kernel
structure Blt (mg:Str->bd):Prop where
 len:mg "len" = none
 abs:mg "abs" = none
 all:mg "all" = none
 any:mg "any" = none
 max:mg "max" = none
 min:mg "min" = none
 sorted:mg "sorted" = none
 isinstance:mg "isinstance" = none
 int:mg "int" = none
 bool:mg "bool" = none
 str:mg "str" = none
 list:mg "list" = none
 tuple:mg "tuple" = none
 range:mg "range" = none
def Ss:∀{a b:ag},a.Perm b->a.Pairwise (·<=·)->b.Pairwise (·<=·)->a=b:=λp ha hb=>
 dU (λx y _ _ h1 h2=>Int.le_antisymm h1 h2) ha hb p
def abd(i j:Int):(l8 i j).Pairwise (·<=·):=by
 unfold l8;rw[cB];exact gP.imp λh=>()
def qK(i j:Int):(l8 i j).Nodup:=by
 unfold l8;rw[List.Nodup,cB];exact gP.imp λh=>()
def sU{i j k:Int}:k∈l8 i j ↔ i<=k/\k<j:=by
 unfold l8;rw[bf];constructor
 ·rintro⟨a,ha,rfl⟩;have:=cg.mp ha;omega
 ·rintro⟨h1,h2⟩;exact⟨(k-i).toNat,cg.mpr<|by omega,by omega⟩
theorem yv:∀{l m:ag},l.Nodup->(∀x∈l,x∈m)->m.length<=l.length->l.Perm m
 | [],m,_,_,h=>by
  have:m=[]:=gI.mp<|Nat.le_zero.mp h;rw[this]
 | a::l,m,nd,hs,hl=>by
  have ha:a∈m:=hs a aV;have d:=cP.mp nd;have k:m.Perm (a::m.erase a):=List.perm_cons_erase ha;have j:=yv (l:=l) (m:=m.erase a) d.2 (λx g=>by
   have f:x≠a:=λe=>d.1<|e ▸ g;exact(List.mem_erase_of_ne f).mpr (hs x<|aX _ g)) (by
   rw[List.length_erase_of_mem ha];dsimp[bB]at hl;omega)
  exact(List.Perm.cons a j).trans k.symm
abbrev Kn (P:aj)(w:ah)(K:au)(mg:Str->bd)(base:aq)(k:Nat)(x:Str)(ps:ar)(sp:Sp):Prop:=
 ∃(f:ak) (fd:FuncData),FnOk P w K mg base ur k f fd ps sp/\mg x=some (.ref f)/\PySem.W.keepIn K (.ref f)=true/\Binds K fd ps []
def aaX{X:Cx}{k:Nat}{x:Str}{sp:Sp}{e:aE}{t:TA}{p:Pos}(G:Kn X.prog X.w X.K X.mg X.base k x ps sp)(hr:Room k X.A)(ha:PA X (e::es) t)(hg:Gl X x<|>ε)
  (hdb:(x == ("__debug__" : Str))=false<|>δ) (hs:starEach (e::es) X.env=(false,eval e X.env)::starEach es X.env<|>ε) (hplain:((backTo pos<|starEach es X.env).any (·.1)=false)<|>ε) :
  PE X (.Call (.Name x p) (e::es) [] pos) (Pu sp [] E0 t):=by
 obtain⟨f,fd,F,d,g,hb⟩:=G;exact Ju F hr hg d g hb .nil aa3 ha hdb hs hplain
abbrev zW (XN fs:ar):ar->List (bj)->Prop
 | [],[]=>True
 | _::N,none::c=>zW XN fs N c
 | x::N,some j::c=>XN[j]?=some x/\x∈fs/\zW XN fs N c
 | _,_=>False
theorem zW.len{fs:ar}:∀{N:ar}{c:List<|bj},zW XN fs N c->c.length=N.length
 | [],[],_=>rfl
 | _::N,none::c,h=>c9 (·+1) (zW.len (N:=N) (c:=c) h)
 | _::N,some j::c,h=>c9 (·+1) (zW.len (N:=N) (c:=c) h.2.2)
 | [],_::_,h=>h.elim
 | _::_,[],h=>h.elim
theorem zW.cp{fs:ar}:∀{N:ar}{c:List<|bj},zW XN fs N c->∀(i j:Nat) (x:Str),N[i]?=some x->c[i]?=some (some j)->XN[j]?=some x/\x∈fs
 | [],[],_,i,j,x,h1,_=>by simp at h1
 | y::N,none::c,h,i,j,x,h1,h2=>by
  cases i with
  | zero=>simp at h2
  | succ i=>exact zW.cp (N:=N) (c:=c) h i j x (by simpa using h1)<|by simpa using h2
 | y::N,some k::c,h,i,j,x,h1,h2=>by
  cases i with
  | zero=>
   simp at h1 h2;subst h1 h2;exact⟨h.1,h.2.1⟩
  | succ i=>exact zW.cp (N:=N) (c:=c) h.2.2 i j x (by simpa using h1)<|by simpa using h2
 | [],_::_,h,_,_,_,_,_=>h.elim
 | _::_,[],h,_,_,_,_,_=>h.elim
def rA{X:Cx}{scope:Scope}{N:ar}(fs:ar)(kind:scope.kind=.function)(nocf:∀y∈scope.names,y.2=.cell->scope.names.lookup y.1=some .cell/\(y.1,NameKind.free)∉scope.names)(nm:∀y∈scope.names,y.2=.local->scope.names.lookup y.1=some .local)
  (nolf:∀y∈scope.names,y.2=.free->scope.names.lookup y.1≠some .local) (hf:∀y∈scope.names,y.2=.free->y.1∈fs) (hfs:∀x∈fs,(x,NameKind.free)∈scope.names) (hk:∀x∈fs,X.env.kindOf x=some .cell\/X.env.kindOf x=some .free) (cp:zW X.N fs N cap):CpScope X scope N cap where
 kind:=kind
 nocf:=λx hf hc=>(nocf (x,.cell) hc rfl).2 hf
 nm:=nm
 fr:=λy hy e=>hk _ (hf y hy e)
 rl:=λy h=>by
  have g:∀k,(k=NameKind.cell\/k=NameKind.free)->(relabel scope X.env).names.lookup y=some k->(y,NameKind.free)∈scope.names\/scope.names.lookup y=some .cell:=λk hk e=>by
   obtain⟨⟨q,p⟩,f,d⟩:=bf.mp<|Ar e;dsimp only at d;split at d
   ·rename_i hc
    cases d
    have:p=.free:=by
     dsimp[cU]at hc;simpa using hc.1.1
    subst this;exact .inl f
   ·cases d
    rcases hk with rfl|rfl
    ·exact .inr (nocf _ f rfl).1
    ·exact .inl f
  rcases h with h|h
  ·exact g _ (.inl rfl) h
  ·exact g _ (.inr rfl) h
 len:=cp.len
 nolf:=λx m=>nolf (x,.free) m rfl
 cp:=λi j x h1 h2=>by
  obtain⟨a,b⟩:=cp.cp i j x h1 h2;exact⟨a,hfs x b⟩
inductive Kd where
 | non|bl|int|str|lst|tup
 deriving DecidableEq
abbrev Kd.ty:Kd->af
 | .non=>.type "NoneType" | .bl=>.type "bool" | .int=>.type "int" | .str=>.type "str" | .lst=>.type "list" | .tup=>.type "tuple"
abbrev Y3 (H:Hp)(x:V):Kd->Prop
 | .non=>x=.non
 | .bl=>∃b,x=.bl b
 | .int=>∃i,x=.int i
 | .str=>∃s,x=.str s
 | .lst=>∃a xs,x=.ref a/\H a=some (.lst xs)
 | .tup=>∃a xs,x=.ref a/\H a=some (.tup xs)
def Y3.acd{K:au}{H:Hp}{x:V}{k:Kd}(h:Y3 H x k):TyOf K H x k.ty:=by
 cases k with
 | non=>cases h;exact .non
 | bl=>obtain⟨b,rfl⟩:=h;exact .bl b
 | int=>obtain⟨b,rfl⟩:=h;exact .int b
 | str=>obtain⟨b,rfl⟩:=h;exact .str b
 | lst=>obtain⟨a,xs,rfl,e⟩:=h;exact .lst e
 | tup=>obtain⟨a,xs,rfl,e⟩:=h;exact .tup e
def TZ{K:au}(k:Kd):PySem.W.kitOne K k.ty (.type "int")=some (decide<|k=.int\/k=.bl):=by cases k<;>rfl
def O5{K:au}(k:Kd):PySem.W.kitOne K k.ty (.type "bool")=some (decide<|k=.bl):=by cases k<;>rfl
def kit_tuple{K:au}(k:Kd):PySem.W.kitOne K k.ty (.type "tuple")=some (decide<|k=.tup):=by cases k<;>rfl
def Rk{K:au}(k:Kd):PySem.W.kitOne K k.ty (.type "list")=some (decide<|k=.lst):=by cases k<;>rfl
section
variable {prog:aj}{w:ah}{A:aA}{E:af->aC->Prop}{s:aC}
def w_{t:ak}{i:Nat}{x:af}{Q:af->aC->Prop}(hit:s.heap.IsTupleIter it t i)
  (ht:s.heap.IsTuple t items) (hx:items[i]?=some x) (hQ:∀h',h'.IsTupleIter it t (i+1)->Heap.SameBut it s.heap h'->Q x { s with heap:=h' }) :
  wpAny (model prog w) A (Builtin.SmallTypes.nextOf<|.ref it) Q E s:=by
 obtain⟨o,f,hc,d⟩:=id hit;obtain⟨m,g,_,k,j⟩:=ht;unfold Builtin.SmallTypes.nextOf;refine aG (dY (name:=Str.ofString "__next__") hit.typeIs eF
  (cV eF hit.typeIs F.entry_tuple_iterator_next ?_<|F.args_tuple_iterator_next_1 _))
 show wpAny _ _ (field (.ref it) 0 >>= _) _ _ s;refine aG (fC f d (x:=.ref t) rfl ?_)
 skip
 rw[aQ<|show ¬((Value.ref t == Value.none)=true)from bF]
 skip
 refine aG (fC f d (x:=.int i 0) rfl ?_)
 skip
 refine aG<|gQ g j ?_;dsimp[di,hx];refine aG (gR f d (by simp)<|aN ⟨x,rfl,aN<|hQ _ ?_<|f_ ..⟩);exact⟨_,eU _ f<|fP<|eG d _,(jh ..).trans hc,by
  rw[eG d];simp[rawInt]⟩
def yq{t:ak}{i:Nat}{Q:af->aC->Prop}(hh:A.handled=none)
  (hit:s.heap.IsTupleIter it t i) (ht:s.heap.IsTuple t items) (hx:items[i]?=none)
  (hE:∀h' e,Heap.ExtBut it s.heap h'->(∃o,h'.get? e=some o/\o.cls=.type "StopIteration")->E (.ref e) { s with heap:=h' }) :
  wpAny (model prog w) A (Builtin.SmallTypes.nextOf<|.ref it) Q E s:=by
 obtain⟨o,j,hc,f⟩:=id hit;obtain⟨p,d,_,k,g⟩:=ht;unfold Builtin.SmallTypes.nextOf;refine aG (dY (name:=Str.ofString "__next__") hit.typeIs eF
  (cV eF hit.typeIs F.entry_tuple_iterator_next ?_<|F.args_tuple_iterator_next_1 _))
 show wpAny _ _ (field (.ref it) 0 >>= _) _ _ s;refine aG (fC j f (x:=.ref t) rfl ?_)
 skip
 rw[aQ<|show ¬((Value.ref t == Value.none)=true)from bF]
 skip
 refine aG (fC j f (x:=.int i 0) rfl ?_)
 skip
 refine aG<|gQ d g ?_;dsimp[di,hx];refine aG (fH<|aG<|gR j f (by simp) ?_)
 skip
 refine aG ?_;dsimp[newExc,newTuple];refine aG (cK ?_<|by size_fits);refine aG (m:=firstArgMember _ _) (wpAny_of_eq (a:=Value.none) (by first|rfl|(dsimp[firstArgMember];rfl)) ?_);refine cK ?_ (by size_fits);dsimp[raiseNew];refine aG (wpAny_handled ?_)
 first|rw[show A.in1.handled=none from hh]|rw[hh]
 refine aG<|aN<|wpAny_throw ?_;exact hE _ _ (((f_ ..).extBut.push _).push _) ⟨_,bu _ rfl,rfl⟩
end
def Rc{prog:aj}{w:ah}{A:aA}(hh:A.handled=none)(it l:ak)(hne:l≠it)(items:Array af) :
  Draws prog w A it [it,l] items.size (λi v=>items[i]?=some v) (λi h=>h.IsTupleIter it l i/\h.IsTuple l items) where
 live:=λ_ _ st=>let⟨o,ho,_⟩:=st.1;⟨o,ho⟩
 frame:=λ_ _ _ st g=>⟨st.1.at λo e=>g it (by simp) o e,let⟨o,ho,r⟩:=st.2;⟨o,g l (by simp) o ho,r⟩⟩
 item:=λi s Q E j st k=>by
  refine w_ st.1 st.2 (x:=items[i]) (by simp[j]) λh' f d=>?_;exact k _ h' s.toks (by simp[j]) ⟨f,let⟨o,ho,r⟩:=st.2;⟨o,d.extBut l o hne ho,r⟩⟩ d
 done:=λs Q E st m=>yq hh st.1 st.2 (by simp) m
def Fv(l:ak)(items:Array af) :
  Meets (Builtin.«enumerate.__new__» ⟨[.type "enumerate",.ref l],[]⟩) (λ_ R s=>s.heap.IsTuple l items /\
   R (.ok<|.ret<|.ref (s.heap.push { cls:=.type "tuple_iterator",data:=.fields #[.ref l,.int 0 0]}).objs.size)
    { s with heap:=(s.heap.push { cls:=.type "tuple_iterator",data:=.fields #[.ref l,.int 0 0]}).push { cls:=.type "enumerate",data:=.fields #[.none,.bool false,.ref s.heap.objs.size,rawInt 0,.none,.none]}}):=
 .of_wp λprog w A R s h=>by
  obtain⟨hp,g,d,z,os⟩:=s;obtain⟨j,h⟩:=h;have k:=sub_enumerate;obtain⟨q,f,m,t,p⟩:=id j
  wp_walk using dS f
  refine wpAny_stack_any λst=>aN ?_;split
  ·rename_i c _ _ _ _ _
   cases(c == Value.type "enumerate")
   ·wp_walk using dS f,gC j
    exact⟨_,rfl,h⟩
   ·wp_walk using dS f,gC j
    exact⟨_,rfl,h⟩
  ·wp_walk using dS f,gC j
   exact⟨_,rfl,h⟩
abbrev Ite (K:au)(a:ak):It:=
 ⟨λi H=>∃xs x,nj K H a xs/\xs[i]?=some x,λi H x H'=>∃T,H T=none/\x=.ref T/\∀xs y,nj K H a xs->xs[i]?=some y->H'=upd H T (.tup [.int i,y]),λi H=>∃xs,nj K H a xs/\xs.length=i⟩
def GN{P:aj}{w:ah}{K:au}(a e it:ak)(hei:e≠it):Turn P w K (.Tuple elts x1 tpos) (Ite K a) [e,it] e (λi h=>(∃old,IsEnum h e it i old)/\h.IsTupleIter it a i) where
 mem:=by simp
 obj:=λi h st b hb=>by
  obtain⟨⟨old,f⟩,g⟩:=st;have F:b=e\/b=it:=by simpa using hb
  rcases F with rfl|rfl
  ·exact⟨_,f,λv z=>by cases z⟩
  ·obtain⟨o,e,c,d⟩:=g;exact⟨o,e,λv z=>by rw[d]at z;cases z⟩
 keep:=λi h h' st k=>by
  obtain⟨⟨old,f⟩,g⟩:=st;exact⟨⟨old,k e (by simp) _ f⟩,g.at λo B=>k it (by simp) o B⟩
 item:=by
  x_go;subst hP hw hK;obtain⟨⟨old,f⟩,g⟩:=st;obtain⟨xs,x,hq,W⟩:=hg;obtain⟨C,rv,p,hz⟩:=I.tuple hq;obtain⟨u,hu,ru⟩:=rv.get W;have L:a≠it:=by
   obtain⟨o,B,G,_⟩:=p;obtain⟨o2,M,J,_⟩:=g;intro z;rw[z,M]at B
   cases B
   rw[G]at J;exact absurd (Value.type.inj J) ⋯
  have hea:e≠a:=by
   obtain⟨o,B,G,_⟩:=p;intro z;rw[<- z,f]at B
   cases B
   exact absurd (Value.type.inj G) ⋯
  have hlt:i<C.toArray.size:=by
   rw[aY];exact(aJ.mp hu).1
  refine wpAny_pyNext_enum_itemD (Rc (A:=X.A.in1) (I.ok.hd hc) it a L C.toArray) f ⟨g,p⟩ hlt hei (by simp[hei,hea]) λx' h' tk hP U hst hT hsz hk=>?_;have ex:x'=u:=by
   have:C.toArray[i]?=some u:=by simpa using hu
   rw[this]at hP;exact(aZ hP).symm
  subst ex;refine⟨_,rfl,wpAny_letOwnedTupleGo_enum U λh2 he2 N=>?_⟩;have T:H s.heap.objs.size=none:=I.hok.fresh<|aL _;have V:e<s.heap.objs.size:=a_ f;have hil:it<s.heap.objs.size:=by obtain⟨o,B,_⟩:=g;exact a_ B
  have k2:∀b o,b≠e->b≠it->s.heap.get? b=some o->h2.get? b=some o:=λb o h1 h3 q=>N.extBut b o h1<|hk b o h1 h3 q;have hT2:h2.get? s.heap.objs.size=some { cls:=.type "tuple",data:=.seq #[.int i tk,x']}:=N.extBut _ _ (jt V) hT;obtain⟨e0,e1,e2,e3,e4,e5⟩:=hf e (by simp);obtain⟨i0,Z,i2,i3,i4,i5⟩:=hf it (by simp);have nT:∀b o,s.heap.get? b=some o->b≠s.heap.objs.size:=λb o q=>bC<|a_ q;have j:∀c v,H c=some v->c≠e/\c≠it:=λc v q=>⟨(λz=>by rw[z,e0]at q;cases q),(λz=>by rw[z,i0]at q;cases q)⟩;have I2:Inv X pins σ (upd H s.heap.objs.size<|.tup [.int i,x]) { s with heap:=h2,toks:=tk+1 }:=by
   refine I.step (g':=s.gens) (d':=s.drawn) (ch:=[e,it]) (λb hb=>?_) (λb o _ _ t q _=>?_) (λb o _ _ t q _=>?_) (λb o t q n=>?_) (λb o t q=>?_) (λb ys q=>?_) (λb o Y q=>?_) (λb ps q=>?_) (λm hm=>?_) (λb Y q=>?_) I.bare
   ·have F:b=e\/b=it:=by simpa using hb
    rcases F with rfl|rfl
    ·exact⟨e3,e1,e4,e5⟩
    ·exact⟨i3,Z,i4,i5⟩
   ·exact k2 b o (λz=>t<|by simp[z]) (λz=>t<|by simp[z]) q
   ·exact⟨o.slots,k2 b o (λz=>t<|by simp[z]) (λz=>t<|by simp[z]) q⟩
   ·rw[jI<|nT b o q];exact n
   ·exact⟨o,k2 b o (λz=>t<|by simp[z]) (λz=>t<|by simp[z]) q⟩
   ·rw[jI<|jX q T];exact q
   ·rw[jI<|jX q T];exact q
   ·exact⟨#[],by rw[jI<|jX q T,q];simp⟩
   ·obtain⟨o,es,ep,B,r⟩:=hm;exact⟨o,es,ep,k2 _ o (cA e1) (cA Z) B,r⟩
   ·by_cases z:b=s.heap.objs.size
    ·subst z;rw[j3]at q
     cases q
     exact⟨by show 2<=sizeLine;decide,[.int i tk,x'],.cons ⟨tk,rfl⟩<|.cons ru .nil,⟨_,hT2,rfl,rfl,0,rfl⟩⟩
    ·rw[jI z]at q;refine(I.hok b Y q).stay (λc v hc q'=>k2 c v ?_ ?_ q') (λc q'=>?_) λc ys q'=>?_
     ·rcases hc with z|z
      ·rw[z];exact(j b Y q).1
      ·exact(j c _ z).1
     ·rcases hc with z|z
      ·rw[z];exact(j b Y q).2
      ·exact(j c _ z).2
     ·rw[jI<|jX q' T];exact q'
     ·rw[jI<|jX q' T];exact q'
  refine⟨.ref s.heap.objs.size,_,I2,rfl,⟨s.heap.objs.size,T,rfl,λys y hy O=>?_⟩,⟨⟨x',by simpa using he2⟩,?_⟩,λb hb=>?_⟩
  ·rw[I.vC hy hq]at O;rw[W]at O
   cases O
   rfl
  ·exact hst.1.at λo B=>N.extBut it o (cA hei) B
  ·have F:b=e\/b=it:=by simpa using hb
   rcases F with rfl|rfl
   ·rw[jI<|bC V];exact e0
   ·rw[jI<|bC hil];exact i0
 done:=by
  x_go;subst hP hw hK;obtain⟨⟨old,f⟩,g⟩:=st;obtain⟨xs,hq,W⟩:=hg;obtain⟨C,rv,p,hz⟩:=I.tuple hq;obtain⟨i0,Z,i2,i3,i4,i5⟩:=hf it (by simp);have L:a≠it:=by
   obtain⟨o,B,G,_⟩:=p;obtain⟨o2,M,J,_⟩:=g;intro z;rw[z,M]at B
   cases B
   rw[G]at J;exact absurd (Value.type.inj J) ⋯
  have hl:=rv.length;have ei:C.toArray.size=i:=by rw[aY,<- hl,W]
  exact wpAny_pyNext_enum_endD (Rc (A:=X.A.in1) (I.ok.hd hc) it a L C.toArray) f ⟨by rw[ei];exact g,p⟩ λh' eb=>⟨rfl,I.turned (t':=s.toks) (λb o hb q=>eb b o hb q) i0 Z i3 i4 i5⟩
 self:=λ_ _ _ _ _ st h=>let⟨⟨_,f⟩,_⟩:=st;wpAny_pyIter_enum f h
def Di:bootBuiltins "enumerate" = some (.type "enumerate"):=by decide +kernel
section
variable {X:Cx}
abbrev ZJ (K:au)(ta:TA):TI:=λσ H R=>ta σ H λvs H1=>∃a xs,vs=[.ref a]/\nj K H1 a xs/\R (Ite K a) H1
def MV{a:aE}{ta:TA}{p:Pos}(hg:Gl X "enumerate")(hm:X.mg "enumerate" = none)(ha:PA X [a] ta)(hs:starEach [a] X.env=[(false,eval a X.env)]<|>ε):PI X (.Tuple elts x1 tpos) (.Call (.Name "enumerate" p) [a] [] pos) (ZJ X.K ta):=by
 intro pins s σ H R I h;refine Call_<|wQ I hg hm Di<|dF (mR (ha pos pins s σ H _ I h) λus d ⟨vs,H1,I1,r1,C⟩=>?_) hs rfl;obtain⟨t,xs,e,hq,q⟩:=C;subst e;obtain⟨u,rfl,rx⟩:=vals1 r1
 cases rx
 obtain⟨g,L,G,M⟩:=I1.tuple hq;refine callType_new F.called_enumerate ⋯ (F.typeCall_enumerate_1 _) (F.newCall_enumerate_1 _) (λj=>F.args_object_init_2 j _) F.entry_enumerate_new (Fv t g.toArray) ⟨G,⟨_,bu _ rfl,rfl⟩,?_⟩;have z:Inv X pins σ H1 { d with heap:=d.heap.push { cls:=.type "tuple_iterator",data:=.fields #[.ref t,.int 0 0]}}:=I1.kept (t':=d.toks) λb o e=>aM _ e;have J:Inv X pins σ H1 { d with heap:=(d.heap.push { cls:=.type "tuple_iterator",data:=.fields #[.ref t,.int 0 0]}).push { cls:=.type "enumerate",data:=.fields #[.none,.bool false,.ref d.heap.objs.size,rawInt 0,.none,.none]}}:=z.kept (t':=d.toks) λb o e=>aM _ e;have B:IsEnum ((d.heap.push { cls:=.type "tuple_iterator",data:=.fields #[.ref t,.int 0 0]}).push { cls:=.type "enumerate",data:=.fields #[.none,.bool false,.ref d.heap.objs.size,rawInt 0,.none,.none]}) (d.heap.push { cls:=.type "tuple_iterator",data:=.fields #[.ref t,.int 0 0]}).objs.size d.heap.objs.size 0 .none:=bu _ rfl;have m:((d.heap.push { cls:=.type "tuple_iterator",data:=.fields #[.ref t,.int 0 0]}).push { cls:=.type "enumerate",data:=.fields #[.none,.bool false,.ref d.heap.objs.size,rawInt 0,.none,.none]}).IsTupleIter d.heap.objs.size t 0:=⟨_,aM _<|bu _ rfl,rfl,rfl⟩;have k:(d.heap.push { cls:=.type "tuple_iterator",data:=.fields #[.ref t,.int 0 0]}).objs.size≠d.heap.objs.size:=by rw[cG];exact jt (dz _)
 refine wpAny_pyIter_enum B ⟨_,[_,d.heap.objs.size],_,_,H1,rfl,J,GN t _ d.heap.objs.size k,⟨⟨.none,B⟩,m⟩,λb hb=>?_,q⟩;have f:b=(d.heap.push { cls:=.type "tuple_iterator",data:=.fields #[.ref t,.int 0 0]}).objs.size\/b=d.heap.objs.size:=by simpa using hb
 rcases f with rfl|rfl
 ·exact I1.AX (by rw[cG];exact Nat.le_succ _) (z.hok.fresh<|aL _)
 ·exact I1.AX (aL _)<|I1.hok.fresh<|aL _
end
end L2
namespace L2
open PySem PySem.Spec PyProof.Rows
open PySem.SeqAt
open PySem.AutoSeq1 (wpAny_loadPart')
open PySem.MeetsSeq PySem.MeetsSeq2 PySem.MeetsSeq3 PySem.SeqAt
theorem ints_get:∀{vs:ba}{ns:ag}{i:Nat},IntsAre vs ns->i<vs.length->∃a t,vs[i]?=some (.int a t)/\ns.drop i=a::ns.drop (i+1)
 | _,_,_,.nil,h=>absurd h (by simp)
 | _,_,0,.cons a t _,_=>⟨a,t,rfl,rfl⟩
 | _,_,i+1,.cons a t q,h=>by
  obtain⟨b,u,e,f⟩:=ints_get q (i:=i) (by simpa using h);exact⟨b,u,by simpa using e,by simpa using f⟩
section
variable {X:Cx}
def MF:oW X (binaryOp .FloorDiv) (rI (λ_ j=>0<j/\j<18446744073709551616) λi j=>.int<|i / j):=opI λi j _ _ _ _ _ hc q=>by
 have h1:(0:Int)<j:=hc.1;have h2:j<18446744073709551616:=hc.2;refine floordiv_int (by omega) (by rw[Int.fdiv_eq_ediv_of_nonneg i<|by omega];exact q)<|.inl<|PyProof.noPylong_of_log2 ?_;exact bN ((Nat.log2_lt<|by omega).mpr<|show j.natAbs<2 ^ 64 by omega) ⋯
end
end L2
namespace L2
open PySem PySem.Spec PyProof.Rows
abbrev Its (x:Str):It:=⟨λi _=>i<x.cps.size,λi H v H'=>H'=H/\∃c,x.cps[i]?=some c/\v=.str ⟨#[c]⟩,λi _=>i=x.cps.size⟩
def NC{P:aj}{w:ah}{K:au}(x:Str)(t:Tok)(it:ak):Turn P w K tg (Its x) [it] it (λi h=>h.IsStrIter it "str_ascii_iterator" x t i) where
 mem:=by simp
 obj:=λi h st b hb=>by
  have e:b=it:=by simpa using hb
  subst e;obtain⟨o,e,c,d⟩:=st;exact⟨o,e,λv z=>by rw[d]at z;cases z⟩
 keep:=λi h h' st k=>let⟨o,ho,r⟩:=st;⟨o,k it (by simp) o ho,r⟩
 item:=by
  x_go;subst hP hw hK;kt_k;have W:=Walks.strAscii (prog:=X.prog) (w:=X.w) (I.ok.hd hc) it x t;refine W.item i s _ _ hg st λv h' m hv f j=>?_;obtain⟨c,u,g,rfl⟩:=hv;have p:Inv X pins σ H { s with heap:=h',toks:=m }:=I.turned (λb o hb e=>j b o (by simpa using hb) e) f0 f1 f3 f4 f5;obtain⟨o,e,q,d⟩:=id f;exact⟨_,rfl,BJ (s:={ s with heap:=h',toks:=m }) e q d ⋯ ⟨.str ⟨#[c]⟩,H,p,⟨u,rfl⟩,⟨rfl,c,g,rfl⟩,f,λb hb=>(hf b hb).1⟩⟩
 done:=by
  x_go;subst hP hw hK;kt_k;have hg:i=x.cps.size:=hg;subst hg;have W:=Walks.strAscii (prog:=X.prog) (w:=X.w) (I.ok.hd hc) it x t;exact W.done s _ _ st λh' m j=>⟨rfl,I.turned (λb o hb e=>j b o (by simpa using hb) e) f0 f1 f3 f4 f5⟩
 self:=λ_ _ _ _ _ st h=>wpAny_pyIter_striter_ascii st h
section
variable {X:Cx}{tg:aE}
abbrev ab1 (tl:TE):TI:=λσ H R=>tl σ H λx H1=>∃y:Str,x=.str y/\y.cps.all (· < 128)=true/\R (Its y) H1
def X_{l:aE}{tl:TE}(hl:PE X l tl):PI X tg l (ab1 tl):=by
 intro pins s σ H R I h;refine mR (hl pins s σ H _ I h) λv d h9=>?_;obtain⟨x,H1,I1,r1,f⟩:=h9;obtain⟨y,e,ha,q⟩:=f;subst e;obtain⟨t,rfl⟩:=r1;refine wpAny_pyIter_ascii ha ?_;refine⟨d.heap.objs.size,[d.heap.objs.size],_,_,H1,rfl,I1.kept (t':=d.toks) λb o e=>aM _ e,NC y t _,⟨_,bu _ rfl,rfl,rfl⟩,λb hb=>?_,q⟩;have e:b=d.heap.objs.size:=by simpa using hb
 subst e;exact I1.AX (aL _)<|I1.hok.fresh<|aL _
end
section
variable {κ:Type}[DecidableEq κ]
abbrev qz (kvs:List<|κ×V)(k:κ):Option V:=(kvs.find? λkv=>decide<|kv.1=k).map (·.2)
abbrev putK (kvs:List<|κ×V)(k:κ)(v:V):List (κ×V):=
 if (kvs.any λkv=>decide<|kv.1=k)=true then kvs.map (λkv=>if kv.1=k then(kv.1,v)else kv)else kvs++[(k,v)]
def uS{p:κ×V}{r:List<|κ×V}{k:κ}(e:p.1=k):qz (p::r) k=some p.2:=by simp[qz,b9,e]
def uY{p:κ×V}{r:List<|κ×V}{k:κ}(e:¬p.1=k):qz (p::r) k=qz r k:=by simp[qz,b9,e]
theorem xy(k:κ):∀kvs:List<|κ×V,(kvs.any λkv=>decide<|kv.1=k)=(qz kvs k).isSome
 | []=>rfl
 | p::r=>by
  rw[fO];by_cases e:p.1=k
  ·dsimp[uS e,bg e,Bool.true_or,iY]
  ·rw[uY e,bA e,gh];exact xy k r
def pU(kvs:List<|κ×V)(k:κ)(v:V):(putK kvs k v).length<=kvs.length+1:=by
 unfold putK;split
 ·rw[aH];lia
 ·rw[bq,bB,dJ];lia
def xY.sM{o:Option V}{u:bd}(r:xY o u):o.isSome=u.isSome:=by
 cases o with
 | none=>cases u with
  | none=>rfl
  | some _=>exact(show False from r).elim
 | some _=>cases u with
  | none=>exact(show False from r).elim
  | some _=>rfl
def xY.getD{o:Option V}{u:bd}{d:V}(r:xY o u)(rd:RelV d d'):RelV (o.getD d) (u.getD d'):=by
 cases o with
 | none=>cases u with
  | none=>exact rd
  | some _=>exact(show False from r).elim
 | some _=>cases u with
  | none=>exact(show False from r).elim
  | some _=>exact r
def KV.val(r:KV kvs vs)(k:κ):xY (qz kvs k) (valueAt vs k):=by
 unfold KV at r
 induction r with
 | nil=>exact True.intro
 | @cons p q ps d h t g=>
  obtain⟨h1,h2⟩:=h;by_cases e:p.1=k
  ·have f:q.1=k:=h1.symm.trans e;have b:valueAt (q::d) k=some q.2:=by simp[valueAt,b9,f]
   rw[uS e,b];exact h2
  ·have f:¬q.1=k:=λz=>e<|h1.trans z;have b:valueAt (q::d) k=valueAt d k:=by simp[valueAt,b9,f]
   rw[uY e,b];exact g
def KV.any{kvs:List<|κ×V}{vs:List<|κ×af}(r:KV kvs vs)(k:κ):(kvs.any λkv=>decide<|kv.1=k)=vs.any λkv=>decide (kv.1=k):=by
 unfold KV at r
 induction r with
 | nil=>rfl
 | cons h t d=>rw[fO,fO,d,h.1]
def KV.repl{kvs:List<|κ×V}{vs:List<|κ×af}(r:KV kvs vs)(k:κ)(ry:RelV y u) :
  KV (kvs.map λkv=>if kv.1=k then(kv.1,y)else kv) (vs.map λkv=>if kv.1=k then(kv.1,u)else kv):=by
 unfold KV at r ⊢
 induction r with
 | nil=>exact .nil
 | @cons p q ps f h t d=>
  rw[bH,bH];refine .cons ?_ d;obtain⟨h1,h2⟩:=h;by_cases e:p.1=k
  ·rw[aS e,aS<|h1.symm.trans e];exact⟨h1,ry⟩
  ·rw[aQ e,aQ λz=>e<|h1.trans z];exact⟨h1,h2⟩
def KV.put(r:KV kvs vs)(k:κ)(ry:RelV y u):KV (putK kvs k y) (stored vs k u):=by
 unfold putK stored;rw[r.any k];by_cases e:(vs.any λkv=>decide<|kv.1=k)=true
 ·rw[aS e,aS e];exact r.repl k ry
 ·rw[aQ e,aQ e];exact Paired.snoc r ⟨rfl,ry⟩
def KV.length{kvs:List<|κ×V}{vs:List<|κ×af}(r:KV kvs vs):kvs.length=vs.length:=iF r
end
def Av{P:aj}{w:ah}{k:Key}(r:RelV (kV k) u):(kL P w).is k u=true:=by
 cases k with
 | inl i=>obtain⟨t,e⟩:=(show ∃t,u=Value.int i t from r);subst e;exact Er P w i t
 | inr x=>obtain⟨t,e⟩:=(show ∃t,u=Value.str x t from r);subst e;exact Ec P w x t
theorem B7{P:aj}{w:ah}:∀{ks:List Key}{us:ba},Vals (ks.map kV) us->ItemsAre (kL P w) ks us
 | [],_,r=>by rw[fY]at r;cases r;exact .nil
 | k::ks,_,r=>by
  rw[bH]at r
  cases r with
  | cons h t=>exact .cons (Av h)<|B7 t
meta abbrev KT (H:Hp):List (List Key×V)->List (List Key×ak×af)->Prop:=Paired λp q=>p.1=q.1/\H q.2.1=some (.tup<|p.1.map kV)/\RelV p.2 q.2.2
def KT.val{H:Hp}(r:KT H kvs xs)(k:List Key):xY (qz kvs k) ((atKey xs k).map (·.2)):=by
 induction r with
 | nil=>exact True.intro
 | @cons p q ps d h t g=>
  obtain⟨h1,_,h2⟩:=h;by_cases e:p.1=k
  ·have f:q.1=k:=h1.symm.trans e;have b:atKey (q::d) k=some q.2:=by simp[atKey,b9,f]
   rw[uS e,b];exact h2
  ·have f:¬q.1=k:=λz=>e<|h1.trans z;have b:atKey (q::d) k=atKey d k:=by simp[atKey,b9,f]
   rw[uY e,b];exact g
def KT.repl{H:Hp}{kvs:List<|List Key×V}{xs:List<|List Key×ak×af}(r:KT H kvs xs)(k:List Key)(ry:RelV y u) :
  KT H (kvs.map λkv=>if kv.1=k then(kv.1,y)else kv) (xs.map<|putAt k u):=by
 induction r with
 | nil=>exact .nil
 | @cons p q ps f h t d=>
  rw[bH,bH];refine .cons ?_ d;obtain⟨h1,h2,h3⟩:=h;unfold putAt;by_cases e:p.1=k
  ·rw[aS e,aS<|h1.symm.trans e];exact⟨h1,h2,ry⟩
  ·rw[aQ e,aQ λz=>e<|h1.trans z];exact⟨h1,h2,h3⟩
def KT.put{H:Hp}(r:KT H kvs xs)(k:List Key)(hb:H b=some (.tup<|k.map kV))(ry:RelV y u) :
  KT H (putK kvs k y) (storedH xs k b u):=by
 have e:(kvs.any λkv=>decide<|kv.1=k)=(atKey xs k).isSome:=by
  rw[xy,(r.val k).sM,dZ]
 unfold putK storedH;rw[e];by_cases q:(atKey xs k).isSome=true
 ·rw[aS q,aS q];exact r.repl k ry
 ·rw[aQ q,aQ q];exact Paired.snoc r ⟨rfl,hb,ry⟩
def KT.keeps{H H':Hp}(r:KT H kvs xs)(ht:∀b ys,H b=some (.tup ys)->H' b=some (.tup ys)):KT H' kvs xs:=
 Paired.YD r λ_ _ z=>⟨z.1,ht _ _ z.2.1,z.2.2⟩
section
variable {P:aj}{w:ah}{H:Hp}{h:aq}{a:ak}
def U6(ok:vO P w H h)(e:Rd H a u):kG P w H h a u:=e.ok ok
def BX{kvs:List<|Key×V}(ok:vO P w H h)(e:Rd H a<|.dK kvs):kvs.length<=sizeLine/\(a == sysModules)=false/\∃vs,KV kvs vs/\h.DictOf (kL P w) a vs:=
 show kG P w H h a (.dK kvs)from U6 ok e
def OP{kvs:List<|Key×V}(ok:vO P w H h)(e:H a=some (.dK kvs)):kvs.length<=sizeLine/\(a == sysModules)=false/\∃vs,KV kvs vs/\h.DictOf (kL P w) a vs:=BX ok<|.inl e
def tR{ks:List Key}(ok:vO P w H h)(e:H a=some (.tup<|ks.map kV)):(tupleKind<|kL P w).is h ks a:=by
 obtain⟨_,d,r,o,h1,h2,_,n,h3⟩:=(show kG P w H h a (.tup<|ks.map kV)from ok a _ e);exact⟨o,d.toArray,n,h1,h2,h3,by simpa using B7 r⟩
def zk{kvs:List<|List Key×V}(ok:vO P w H h)(e:Rd H a<|.dT kvs):kvs.length<=sizeLine/\(a == sysModules)=false /\
  ∃xs,KT H kvs xs/\h.DictOfH (tupleKind<|kL P w) a xs:=by
 obtain⟨z,y,xs,r,o,es,ep,h1,h2,h3,f,j⟩:=(show kG P w H h a (.dT kvs)from U6 ok e);refine⟨z,y,xs,r,o,es,ep,h1,h2,h3,f,λx d=>?_,j⟩;have all:∀{l:List<|List Key×V} {m:List<|List Key×ak×af},KT H l m->∀x∈m,(tupleKind<|kL P w).is h x.1 x.2.1:=by
  intro l m q
  induction q with
  | nil=>intro x d;exact nomatch d
  | @cons p q ps k hq t g=>
   intro x d
   rcases bE.mp d with e|d
   ·subst e;exact tR ok (by rw[<- hq.1];exact hq.2.1)
   ·exact g x d
 exact all r x d
def B0{kvs:List<|List Key×V}(ok:vO P w H h)(e:H a=some (.dT kvs)):kvs.length<=sizeLine/\(a == sysModules)=false /\
  ∃xs,KT H kvs xs/\h.DictOfH (tupleKind<|kL P w) a xs:=zk ok<|.inl e
end
abbrev uv (H:Hp)(a:ak)(y:V)(r:Option V):Prop:=
 (∃kvs k,Rd H a (.dK kvs)/\y=kV k/\r=qz kvs k)\/∃kvs k b,Rd H a (.dT kvs)/\y=.ref b/\H b=some (.tup<|k.map kV)/\r=qz kvs k
abbrev yK (H:Hp)(a:ak)(y v:V)(H':Hp):Prop:=
 (∃kvs k,H a=some (.dK kvs)/\y=kV k/\kvs.length<sizeLine/\H'=upd H a (.dK<|putK kvs k v)) \/
 ∃kvs k b,H a=some (.dT kvs)/\y=.ref b/\H b=some (.tup<|k.map kV)/\kvs.length<sizeLine/\H'=upd H a (.dT<|putK kvs k v)
theorem uv.k{H:Hp}{a:ak}{k:Key}(e:H a=some (.dK kvs)):uv H a (kV k) (qz kvs k):=.inl ⟨kvs,k,.inl e,rfl,rfl⟩
def uv.t{H:Hp}{a:ak}{k:List Key}(e:H a=some (.dT kvs))(eb:H b=some (.tup<|k.map kV)):uv H a (.ref b) (qz kvs k):=.inr ⟨kvs,k,b,.inl e,rfl,eb,rfl⟩
theorem yK.k{H:Hp}{a:ak}{kvs:List<|Key×V}{k:Key}{v:V}(e:H a=some (.dK kvs))(hl:kvs.length<sizeLine):yK H a (kV k) v (upd H a<|.dK<|putK kvs k v):=.inl ⟨kvs,k,e,rfl,hl,rfl⟩
def yK.t{H:Hp}{a:ak}{kvs:List<|List Key×V}{k:List Key}{v:V}(e:H a=some (.dT kvs))(eb:H b=some (.tup<|k.map kV))(hl:kvs.length<sizeLine) :
  yK H a (.ref b) v (upd H a<|.dT<|putK kvs k v):=.inr ⟨kvs,k,b,e,rfl,eb,hl,rfl⟩
section
variable {X:Cx}{pins:bo}{σ:St}{H:Hp}{s:aC}{a:ak}{y v:V}{u r:af}{o:Option V}{A:aA}{E:af->aC->Prop}
def Inv.big(I:Inv X pins σ H s):sysModules<s.heap.objs.size:=by
 have h:mainGlobals<s.heap.objs.size:=(I.mod.glob.keeps I.bk).lt;exact jv ⋯ h
def KY{Q:af->aC->Prop}(hu:A.units+1<cLine)(I:Inv X pins σ H s)(g:uv H a y<|some v)(ry:RelV y u)(h:∀w' s',Inv X pins σ H s'->RelV v w'->Q w' s') :
  wpAny (model X.prog X.w) A (getItem (.ref a) u) Q E s:=by
 rcases g with⟨kvs,k,e,j,l⟩|⟨kvs,k,b,e,j,t,l⟩
 ·subst j;obtain⟨z,q,vs,f,dd⟩:=BX I.hok e;obtain⟨w',hw,d⟩:=xY.some_of (v:=v) (o:=valueAt vs k) (by rw[l];exact f.val k);exact wpAny_getItem_of (Av ry) dd.mapOf hw (h w' _ (I.tok _) d)
 ·subst j
  cases(show u=Value.ref b from ry)
  obtain⟨z,q,xs,f,dd⟩:=zk I.hok e;obtain⟨w',hw,d⟩:=xY.some_of (v:=v) (o:=(atKey xs k).map (·.2)) (by rw[l];exact f.val k);obtain⟨p,hp,m⟩:=aW.mp hw;refine wpAny_getItem_heap (eK hu) (tR I.hok t) dd hp ?_;rw[m];exact h w' _ (I.tok _) d
def acH{Q:af->aC->Prop}(hu:A.units+1<cLine)(I:Inv X pins σ H s)(g:uv H a y o)(ry:RelV y u)(h:∀s',Inv X pins σ H s'->Q (.bool o.isSome) s') :
  wpAny (model X.prog X.w) A (compareOp .In u<|.ref a) Q E s:=by
 rcases g with⟨kvs,k,e,f,l⟩|⟨kvs,k,b,e,f,m,l⟩
 ·subst f;obtain⟨z,j,vs,d,dd⟩:=BX I.hok e;refine wpAny_in_of (Av ry) j dd.mapOf ?_;rw[<- (d.val k).sM,<- l];exact h _ (I.tok _)
 ·subst f
  cases(show u=Value.ref b from ry)
  obtain⟨z,j,xs,d,dd⟩:=zk I.hok e;refine wpAny_in_heap (eK hu) (tR I.hok m) j dd ?_;have q:=(d.val k).sM;rw[dZ]at q;rw[<- q,<- l];exact h _<|I.tok _
def TU{Q:af->aC->Prop}(hu:A.units+1<cLine)(I:Inv X pins σ H s)(g:uv H a y o)(ry:RelV y u)(h:∀s',Inv X pins σ H s'->Q (.bool<|!o.isSome) s') :
  wpAny (model X.prog X.w) A (compareOp .NotIn u<|.ref a) Q E s:=by
 rcases g with⟨kvs,k,e,f,l⟩|⟨kvs,k,b,e,f,m,l⟩
 ·subst f;obtain⟨z,j,vs,d,dd⟩:=BX I.hok e;refine wpAny_notIn_of (Av ry) j dd.mapOf ?_;rw[<- (d.val k).sM,<- l];exact h _ (I.tok _)
 ·subst f
  cases(show u=Value.ref b from ry)
  obtain⟨z,j,xs,d,dd⟩:=zk I.hok e;refine wpAny_notIn_heap (eK hu) (tR I.hok m) j dd ?_;have q:=(d.val k).sM;rw[dZ]at q;rw[<- q,<- l];exact h _<|I.tok _
def tD{h':aq}{t':Nat}{ob:HO}(I:Inv X pins σ H s)(mu:Mut<|H a)(hs:Heap.SameBut a s.heap h')(he:∃q,h'.get? a=some q)(new:kG X.prog X.w (upd H a ob) h' a ob) :
  Inv X pins σ (upd H a ob) { s with heap:=h',toks:=t' }:=
 I.write (x:=a) (e:=a) mu (.inl rfl) (λb q hb z=>(hs.2 b hb).trans z) he new
def GV{P:aj}{w:ah}{H':Hp}{h':aq}{kvs:List<|Key×V}(z:kvs.length<=sizeLine)(hd:(a == sysModules)=false)(rel:KV kvs vs)(dd:h'.DictOf (kL P w) a vs) :
  kG P w H' h' a (.dK kvs):=⟨z,hd,vs,rel,dd⟩
def LC{H':Hp}{Q:Unit->aC->Prop}(hu:A.units+1<cLine)(I:Inv X pins σ H s)(g:yK H a y v H')(ry:RelV y u)(rv:RelV v r)(h:∀s',Inv X pins σ H' s'->Q Unit.unit s') :
  wpAny (model X.prog X.w) A (setItem (.ref a) u r) Q E s:=by
 rcases g with⟨kvs,k,e,j,l,f⟩|⟨kvs,k,b,e,j,C,l,f⟩
 ·subst j f;obtain⟨z,t,vs,d,dd⟩:=OP I.hok e;have m:vs.length<=sizeLine:=by rw[<- d.length];exact z
  have p:(putK kvs k v).length<=sizeLine:=by have:=pU kvs k v;lia
  refine wpAny_setItem_pairs (hsz:=m) (Av ry) dd λh' dd' hs=>h _ ?_;have G:∃q,h'.get? a=some q:=let⟨q,_,_,hq,_⟩:=dd';⟨q,hq⟩
  exact tD I (by rw[e];exact True.intro) hs G<|GV p t (d.put k rv) dd'
 ·subst j f
  cases(show u=Value.ref b from ry)
  obtain⟨z,t,xs,d,dd⟩:=B0 I.hok e;have m:xs.length<=sizeLine:=by rw[<- iF d];exact z
  have p:(putK kvs k v).length<=sizeLine:=by have:=pU kvs k v;lia
  refine wpAny_setItem_heap (hsz:=m) (eK hu) (tR I.hok C) dd λh' dd' hs=>h _ ?_;obtain⟨q,es,ep,hq,h2,h3,F,_,J⟩:=dd';refine tD I (by rw[e];exact True.intro) hs ⟨q,hq⟩ ⟨p,t,_,(d.put k C rv).keeps λc ys B=>?_,q,es,ep,hq,h2,h3,F,J⟩;rw[jI<|HR B e λz=>nomatch z];exact B
end
def Eg{X:Cx}{H:Hp}{s:aC}{a:ak}(I:Inv X pins σ H s)(g:uv H a y o):s.TypeIs (.ref a) "dict" := by
 rcases g with⟨kvs,k,e,_,_⟩|⟨kvs,k,b,e,_,_,_⟩
 ·obtain⟨_,_,vs,_,dd⟩:=BX I.hok e;exact dd.typeIs
 ·obtain⟨_,_,xs,_,dd⟩:=zk I.hok e;exact dd.typeIs
def Qi{P:aj}{w:ah}{H:Hp}(h:aq)(hb:sysModules<h.objs.size):kG P w H (h.push { cls:=.type "dict",data:=.dict #[]}) h.objs.size (.dK []):=
 ⟨bL _,dc.mpr<|cA<|bC hb,[],.nil,Heap.DictOf.new h⟩
def zz{P:aj}{w:ah}{H:Hp}(h:aq)(hb:sysModules<h.objs.size):kG P w H (h.push { cls:=.type "dict",data:=.dict #[]}) h.objs.size (.dT []):=
 ⟨bL _,dc.mpr<|cA<|bC hb,[],.nil,_,#[],0,bu _ rfl,⟨rfl,rfl,rfl⟩,rfl,rfl,cQ⟩
abbrev WC:TE:=λ_ H Q=>∀p,H p=none->Q (.ref p) (upd H p<|.dK [])
abbrev Wz:TE:=λ_ H Q=>∀p,H p=none->Q (.ref p) (upd H p<|.dT [])
section
variable {X:Cx}{pos:Pos}
def Oz:PE X (.Dict [] [] pos) WC:=λpins s σ H Q I h=>
 wpAny_Dict_empty ⟨.ref s.heap.objs.size,_,I.laid (a:=s.heap.objs.size) (o:=.dK []) (t':=s.toks) (λ_ _ q=>aM _ q) (aL _)<|Qi s.heap I.big,rfl,h _<|I.hok.fresh<|aL _⟩
def N8:PE X (.Dict [] [] pos) Wz:=λpins s σ H Q I h=>
 wpAny_Dict_empty ⟨.ref s.heap.objs.size,_,I.laid (a:=s.heap.objs.size) (o:=.dT []) (t':=s.toks) (λ_ _ q=>aM _ q) (aL _)<|zz s.heap I.big,rfl,h _<|I.hok.fresh<|aL _⟩
end
structure M1 (X:Cx)(o:aE)(m:Str)(apos:Pos)(e:aE)(cpos:Pos):Prop where
 base:attributeBase o m X.env (eval o X.env)=eval o X.env
 few:((backTo cpos<|starEach [e] X.env).all (λx=>!x.1) && (backToKw cpos<|keywordEach [] X.env).all (λx=>x.1.isSome)
  && decide (([e]:List aE).length+([]:List Keyword).length+(if ([]:List Keyword).isEmpty then 0 else 1)<30))=true
 line:(apos.endLine == cpos.line)=true
 trees:backTo cpos (starEach [e] X.env)=[(false,eval e X.env)]
structure M2 (X:Cx)(o:aE)(m:Str)(apos:Pos)(e f:aE)(cpos:Pos):Prop where
 base:attributeBase o m X.env (eval o X.env)=eval o X.env
 few:((backTo cpos<|starEach [e,f] X.env).all (λx=>!x.1) && (backToKw cpos<|keywordEach [] X.env).all (λx=>x.1.isSome)
  && decide (([e,f]:List aE).length+([]:List Keyword).length+(if ([]:List Keyword).isEmpty then 0 else 1)<30))=true
 line:(apos.endLine == cpos.line)=true
 trees:backTo cpos (starEach [e,f] X.env)=[(false,eval e X.env),(false,eval f X.env)]
section
variable {X:Cx}{pins:bo}{σ:St}{H:Hp}{s:aC}{a:ak}{y d:V}{u r:af}{o:Option V}{A:aA}{E:af->aC->Prop}
def XC{Q:af->aC->Prop}(hu:A.units+1<cLine)(I:Inv X pins σ H s)(g:uv H a y o)(ry:RelV y u)(rd:RelV d r)(h:∀w' s',Inv X pins σ H s'->RelV (o.getD d) w'->Q w' s') :
  wpAny (model X.prog X.w) A (call (.builtin "dict.get") [.ref a,u,r]) Q E s:=by
 rcases g with⟨kvs,k,e,j,l⟩|⟨kvs,k,b,e,j,p,l⟩
 ·subst j;obtain⟨z,m,vs,f,dd⟩:=BX I.hok e;refine call_meetsIn dj dd.typeIs gS (gJ _ _ _) (meets_dict_get_default (kL X.prog X.w) a (Av ry) m r) ⟨_,dd.mapOf,h _ _ (I.tok _) ?_⟩;rw[l];exact(f.val k).getD rd
 ·subst j
  cases(show u=Value.ref b from ry)
  obtain⟨z,m,xs,f,dd⟩:=zk I.hok e;refine call_meetsIn dj dd.typeIs gS (gJ _ _ _) (meetsH_dict_get_default (tupleKind<|kL X.prog X.w) a b m r) ⟨eK hu,k,xs,tR I.hok p,dd,h _ _ (I.tok _) ?_⟩;rw[l];exact(f.val k).getD rd
end
meta abbrev m5:=ag×ag
abbrev sO (x:ag):Int:=reduceHash<|Builtin.Tuple.tupleHashOf<|x.map hashInt
abbrev H_ (k:m5):Int:=reduceHash<|Builtin.Tuple.tupleHashOf [sO k.1,sO k.2]
abbrev dpE (x:(m5×ak×af)):DictEntry:=⟨H_ x.1,.ref x.2.1,x.2.2⟩
abbrev wC (a:ak)(xs:List<|m5×ak×af)(h:aq):Prop:=(a == sysModules)=false/\xs.length<=sizeLine/\∃o es ep,h.get? a=some o/\o.ExactDict/\o.data=.dict es ep/\es.toList=xs.map dpE/\(xs.map (·.1)).Nodup
abbrev sN (H:Hp)(b:ak)(k:m5):Prop:=∃r1 r2,H b=some (.tup [.ref r1,.ref r2])/\H r1=some (.tup<|k.1.map V.int)/\H r2=some (.tup<|k.2.map V.int)
section
variable {P:aj}{w:ah}{A:aA}{E:af->aC->Prop}{s:aC}
meta abbrev TK (h:aq)(x:ag)(a:ak):Prop:=∃o d n,h.get? a=some o/\o.cls=.type "tuple" /\ o.data=.seq d n/\IntsAre d.toList x
theorem Ak{P:aj}{w:ah}:∀{x:ag}{vs:ba},IntsAre vs x->ItemsAre (intKind P w) x vs
 | _,_,.nil=>.nil
 | _,_,.cons n t h=>.cons (intKind_is _ _ _ _)<|Ak h
def v_{x:ag}{a:ak}:TK h x a->IsTupleKey (intKind P w) h x a:=λ⟨o,d,n,h1,h2,h3,f⟩=>⟨o,d,n,h1,h2,h3,Ak f⟩
theorem Ez:∀{x y:ag}{vs:ba},IntsAre vs x->IntsAre vs y->x=y
 | _,_,_,.nil,.nil=>rfl
 | _,_,_,.cons n t h,.cons _ _ h'=>by rw[Ez h h']
abbrev vP (h:aq)(k:m5)(a:ak):Prop:=∃o n f d,h.get? a=some o/\o.cls=.type "tuple" /\ o.data=.seq #[.ref f,.ref d] n/\TK h k.1 f/\TK h k.2 d
def vP.ty{k:m5}{a:ak}(x:vP s.heap k a):s.TypeIs (.ref a) "tuple" := let⟨o,_,_,_,ho,hc,_⟩:=x;⟨o,ho,hc⟩
def TK.inj{a:ak}{x:ag}(hx:TK h x a)(hy:TK h y a):x=y:=by
 obtain⟨o,j,n,p,_,m,q⟩:=hx;obtain⟨o',f,t,g,_,d,k⟩:=hy;obtain rfl:o=o':=aZ<|p.symm.trans g;rw[m]at d
 injection d with h1 _
 subst h1;exact Ez q k
def vP.inj{a:ak}{x:m5}(hx:vP h x a)(hy:vP h y a):x=y:=by
 obtain⟨o,n,B,p,m,_,k,h1,h2⟩:=hx;obtain⟨o',q,z,t,g,_,d,f,j⟩:=hy;obtain rfl:o=o':=aZ<|m.symm.trans g;rw[k]at d
 injection d with e _
 have e:=c9 Array.toList e
 injection e with e1 e2
 injection e2 with e2 _
 injection e1 with e1
 injection e2 with e2
 subst e1 e2;exact Prod.ext (h1.inj f)<|h2.inj j
def DX{h:aq}{x:ag}{a d:ak}{o:Obj}{es ep}(k:TK h x a)(ho:h.get? d=some o)(hd:o.data=.dict es ep)(hs:Heap.SameBut d h h'):TK h' x a:=by
 obtain⟨o',g,n,j,hc,f,p⟩:=k;have m:a≠d:=by
  rintro rfl;obtain rfl:o'=o:=aZ<|j.symm.trans ho;rw[hd]at f;exact nomatch f
 exact⟨o',g,n,(hs.2 a m).trans j,hc,f,p⟩
def vP.keeps{h:aq}{k:m5}{a d:ak}{o:Obj}{es ep}(x:vP h k a)(ho:h.get? d=some o)(hd:o.data=.dict es ep)(hs:Heap.SameBut d h h'):vP h' k a:=by
 obtain⟨o',n,m,p,g,hc,f,h1,h2⟩:=x;have j:a≠d:=by
  rintro rfl;obtain rfl:o'=o:=aZ<|g.symm.trans ho;rw[hd]at f;exact nomatch f
 exact⟨o',n,m,p,(hs.2 a j).trans g,hc,f,DX h1 ho hd hs,DX h2 ho hd hs⟩
def L_{k:m5}{a:ak}{Q:Int->aC->Prop}(hu:A.units+8<cLine)(hk:vP s.heap k a)(h:Q (H_ k) { s with toks:=s.toks+(k.1.length+1+(k.2.length+1)+1)}) :
  wpAny (model P w) A (pyHash<|.ref a) Q E s:=by
 have d:=hk.ty;obtain⟨o,n,p,g,m,_,j,h1,h2⟩:=hk;unfold pyHash
 first|unfold pyHashByItsType|skip
 first|refine aG (wpAny_cRoomFor_or (.inr<|by omega) ?_)|skip
 refine aG<|gA d gU.lookup ?_;show wpAny _ _ (if (some (Value.builtin "tuple.__hash__") == some Value.none)=true then _ else _) Q E s;rw[aQ<|by rw[beq_builtin_none];exact bF];refine aG<|gA d gU.lookup ?_;show wpAny _ _ (callSpecialIfBoundUnlessNone? (.ref a) "__hash__" _ >>= _) Q E s;refine aG<|wpAny_callSpecialIfBoundUnlessNone?_slot d gU<|cV gU d F.entry_tuple_hash ?_<|F.args_tuple_hash_1 _;show wpAny _ _ (Builtin.Tuple.tupleItemsOf (.ref a) >>= _) _ _ s;refine aG<|i9 m j ?_;refine aG ?_;rw[<- i_];refine fX _
  (λrest (b:Array Int) s'=>(rest=[.ref p,.ref g]/\b.toList=[]/\s'=s)\/(rest=[.ref g]/\b.toList=[sO k.1]/\s'={ s with toks:=s.toks+(k.1.length+1)})\/(rest=[]/\b.toList=[sO k.1,sO k.2]/\s'={ s with toks:=s.toks+(k.1.length+1)+(k.2.length+1)}))
  _ ?_ ?_ _ _ (.inl ⟨rfl,rfl,rfl⟩)
 ·rintro x rest b s' (⟨e,hb,rfl⟩|⟨e,hb,rfl⟩|⟨e,_,_⟩)
  ·cases e
   refine aG (wpAny_pyHash_tuple (knd:=intKind P w) (ks:=k.1) (by simp;omega) (v_ h1) ?_)
   first
    | exact aN (.inr<|.inl ⟨rfl,by rw[gW,hb];rfl,rfl⟩)
    | exact aG<|aN<|aN<|.inr<|.inl ⟨rfl,by rw[gW,hb];rfl,rfl⟩
  ·cases e
   refine aG (wpAny_pyHash_tuple (knd:=intKind P w) (ks:=k.2) (by simp;omega) (v_ h2) ?_)
   first
    | exact aN (.inr<|.inr ⟨rfl,by rw[gW,hb];rfl,rfl⟩)
    | exact aG<|aN<|aN<|.inr<|.inr ⟨rfl,by rw[gW,hb];rfl,rfl⟩
  ·cases e
 ·rintro b s' (⟨e,_,_⟩|⟨e,_,_⟩|⟨_,hb,rfl⟩)
  ·cases e
  ·cases e
  ·show wpAny _ _ (retInt<|Builtin.Tuple.tupleHashOf b.toList) _ _ _;rw[hb];refine wpAny_ret_mkInt ?_;show wpAny _ _ (if (decide (-(2:Int) ^ 63<=Builtin.Tuple.tupleHashOf [sO k.1,sO k.2]) && decide (Builtin.Tuple.tupleHashOf [sO k.1,sO k.2]<2 ^ 63))=true then _ else _) Q E _;unfold H_ reduceHash at h;by_cases f:(decide (-(2:Int) ^ 63<=Builtin.Tuple.tupleHashOf [sO k.1,sO k.2]) && decide (Builtin.Tuple.tupleHashOf [sO k.1,sO k.2]<2 ^ 63))=true
   ·rw[aS f];rw[aS f]at h;exact aN (by simpa[Nat.add_assoc]using h)
   ·rw[aQ f];rw[aQ f]at h;exact aG<|fH<|aN<|by simpa[Nat.add_assoc]using h
def Dv{x:m5}{a:ak}{R:Fin->aC->Prop}(hu:A.units+8<cLine)(hx:vP s.heap x a)(hy:vP s.heap y b)(h:R (.done<|.ret<|.bool<|decide<|x=y) s) :
  wpAny (model P w) A (Builtin.«tuple.__eq__» ⟨[.ref a,.ref b],[]⟩) R E s:=by
 have k:=hy.ty;obtain⟨J,na,G,B,t,_,j,h1,h2⟩:=hx;obtain⟨ob,nb,F,C,g,_,m,f,p⟩:=hy;show wpAny _ _ (isInstance (.ref b) (.type "tuple") >>= _) _ _ s;refine aG<|fZ k iy ?_;dsimp[bY,bK,c6];refine aG<|i9 t j ?_;refine aG<|i9 g m ?_;refine aG ?_;refine fX _
  (λrest r s'=>r.1=none/\s'=s/\((rest=[(.ref G,.ref F),(.ref B,.ref C)])\/(rest=[(.ref B,.ref C)]/\x.1=y.1)\/(rest=[]/\x=y)))
  _ ?_ ?_ _ _ ⟨rfl,rfl,.inl rfl⟩
 ·rintro⟨u,v⟩ rest r s' ⟨q,rfl,e|⟨e,hq⟩|⟨e,_⟩⟩
  ·cases e
   refine aG<|wpAny_eqBool_tuple (knd:=intKind P w) (x:=x.1) (y:=y.1) () (v_ h1) (v_ f) ?_;by_cases d:x.1=y.1
   ·rw[bg d];dsimp[bY,bK,c6];exact aN ⟨rfl,rfl,.inr<|.inl ⟨trivial,d⟩⟩
   ·rw[bA d];dsimp[c7,eZ];rw[bA λz=>d<|by rw[z]]at h;exact aG<|aN<|aN<|aN h
  ·cases e
   refine aG<|wpAny_eqBool_tuple (knd:=intKind P w) (x:=x.2) (y:=y.2) () (v_ h2) (v_ p) ?_;by_cases d:x.2=y.2
   ·rw[bg d];dsimp[bY,bK,c6];exact aN ⟨rfl,rfl,.inr<|.inr ⟨trivial,Prod.ext hq d⟩⟩
   ·rw[bA d];dsimp[c7,eZ];rw[bA λz=>d<|by rw[z]]at h;exact aG<|aN<|aN<|aN h
  ·cases e
 ·rintro⟨r1,r2⟩ s' ⟨q,rfl,e|⟨e,_⟩|⟨_,e⟩⟩
  ·cases e
  ·cases e
  ·simp only at q;subst q;refine aN ?_;rw[bg e]at h;exact h
def UC{x:m5}{a:ak}{Q:Bool->aC->Prop}(hu:A.units+16<cLine)(hx:vP s.heap x a)(hy:vP s.heap y b)(h:Q (decide<|x=y) s):wpAny (model P w) A (eqBool (.ref a)<|.ref b) Q E s:=by
 unfold eqBool
 try with_reducible refine cC ?_
 show wpAny _ _ (if (Value.ref a == Value.ref b)=true then _ else _) Q E s;by_cases d:(Value.ref a == Value.ref b)=true
 ·rw[aS d];have e:a=b:=by have:=eq_of_beq d;injection this
  subst e;obtain rfl:=hx.inj hy;exact aG<|fH<|aN<|by simpa using h
 ·rw[aQ d];exact aG (wpAny_richCompare_same_room (op:=.Eq) hx.ty hy.ty iM
   (cV iM hx.ty F.entry_tuple_eq (Dv (by simp;lia) hx hy ⟨_,rfl,(λe=>nomatch e),c5 h⟩)<|F.args_tuple_eq_2 _ _) ())
def Pq{n:Nat}{x:ag}{a:ak}{Q:Bool->aC->Prop}(hk:TK s.heap x a)(h:Q true s):wpAny (model P w) A (eqIsQuiet (n+1)<|.ref a) Q E s:=by
 have hk:=v_ (P:=P) (w:=w) hk;have k:=hk.typeIs;obtain⟨o,f,m,q,_,p,t⟩:=hk;unfold eqIsQuiet;refine aG<|gA k iM.lookup ?_;show wpAny _ _ (isInstance (.ref a) (.type "tuple") >>= _) _ _ s;refine aG<|fZ k iy ?_;dsimp[bY,bK,c6];refine aG<|gQ q p ?_;refine aG ?_;show wpAny _ _ (forIn f _ _) _ _ s;rw[<- i_];refine fX _ (λrest r s'=>r.1=none/\s'=s/\∀v∈rest,carriedByValue v=true) _ ?_ ?_ _ _ ⟨rfl,rfl,t.byValue⟩
 ·rintro v rest r s' ⟨j,rfl,d⟩;rw[eqIsQuiet_byValue _<|d v aV];refine aG<|aN ?_;dsimp[bY,bK,c6];exact aN ⟨rfl,rfl,λu g=>d u<|aX _ g⟩
 ·rintro⟨r1,r2⟩ s' ⟨j,rfl,_⟩;simp only at j;subst j;exact aN h
def Hg{k:m5}{a:ak}{Q:Bool->aC->Prop}(hk:vP s.heap k a)(h:Q true s):wpAny (model P w) A (eqIsQuiet 8<|.ref a) Q E s:=by
 have p:=hk.ty;obtain⟨o,m,q,j,z,_,t,h1,h2⟩:=hk;unfold eqIsQuiet;refine aG<|gA p iM.lookup ?_;show wpAny _ _ (isInstance (.ref a) (.type "tuple") >>= _) _ _ s;refine aG<|fZ p iy ?_;dsimp[bY,bK,c6];refine aG<|gQ z t ?_;refine aG ?_;show wpAny _ _ (forIn (#[Value.ref q,.ref j]:Array af) _ _) _ _ s;rw[<- i_];refine fX _ (λrest r s'=>r.1=none/\s'=s/\∀v∈rest,∃c x,v=Value.ref c/\TK s.heap x c) _ ?_ ?_ _ _ ⟨rfl,rfl,λv hv=>by
  rcases bE.mp hv with e|hv
  ·exact⟨q,k.1,e,h1⟩
  ·exact⟨j,k.2,by simpa using hv,h2⟩⟩
 ·rintro v rest r s' ⟨g,rfl,d⟩;obtain⟨c,x,rfl,B⟩:=d v aV;refine aG<|Pq B ?_;dsimp[bY,bK,c6];exact aN ⟨rfl,rfl,λu f=>d u<|aX _ f⟩
 ·rintro⟨r1,r2⟩ s' ⟨g,rfl,_⟩;simp only at g;subst g;exact aN h
end
abbrev Eo (P:aj)(w:ah):HeapKind P w m5 where
 is:=vP
 hash:=H_
 draws:=λk=>k.1.length+1+(k.2.length+1)+1
 room:=λA=>A.units+16<cLine
 inj:=λf hy=>f.inj hy
 keeps:=λx m j hs=>x.keeps m j hs
 pyHash:=λg d h=>L_ () d h
 eqBool:=λg f hy h=>UC g f hy h
 quiet:=λd h=>Hg d h
section
variable {X:Cx}
def CU(hu:X.A.units+1<cLine):TH X (λx y H Q=>∃a v,x=.ref a/\uv H a y (some v)/\Q v H):=by
 intro d f pins s σ H x y v u Q I rx ry h hs;obtain⟨a,z,rfl,g,q⟩:=h
 cases rx
 have p:=Eg I g;unfold subscriptTail;refine aG ?_;rw[getitemInPython_of_ne p.not_modules];refine aG<|gA p PySem.F.slot_dict_getitem.lookup ?_;have j:wpAny (model X.prog X.w) X.A (subscripted f false (.ref a) u) (λr k=>wpAny (model X.prog X.w) X.A (letTemporaryGo d (.ref a) r >>= λ_=>pure r) (EP X pins σ Q) X.xe k) X.xe s:=by
  rw[hs];exact wpAny_operating<|KY hu I g ry λB C t m=>aG<|wpAny_letTemporaryGo<|aN ⟨z,H,t,m,q⟩
 first
  | exact aN (aG j)
  | exact aG (aN<|aG j)
  | exact aG j
def W8(hu:X.A.units+1<cLine):oW X (compareOp .In) (λy x H Q=>∃a o,x=.ref a/\uv H a y o/\Q (.bl o.isSome) H):=by
 intro pins s σ H y x v u Q I ry rx h;obtain⟨a,o,rfl,g,q⟩:=h
 cases rx
 exact acH hu I g ry λf d=>⟨.bl o.isSome,H,d,rfl,q⟩
def LN(hu:X.A.units+1<cLine):oW X (compareOp .NotIn) (λy x H Q=>∃a o,x=.ref a/\uv H a y o/\Q (.bl<|!o.isSome) H):=by
 intro pins s σ H y x v u Q I ry rx h;obtain⟨a,o,rfl,g,q⟩:=h
 cases rx
 exact TU hu I g ry λf d=>⟨.bl<|!o.isSome,H,d,rfl,q⟩
def set_dict(hu:X.A.units+1<cLine):FG X (λo i v H Q=>∃a H',o=.ref a/\yK H a i v H'/\Q H'):=by
 intro pins s σ H o i v p iv u Q I j d f h;obtain⟨a,H',rfl,g,q⟩:=h
 cases j
 exact LC hu I g d f λm k=>⟨H',k,q⟩
abbrev Yw (tk tv:TE):TE:=λσ H Q=>∀p,H p=none->tk σ (upd H p<|.dT []) λx H1=>tv σ H1 λy H2=>H2 p=some (.dT [])/\∃b ks,x=.ref b/\H2 b=some (.tup<|ks.map kV)/\Q (.ref p) (upd H2 p<|.dT [(ks,y)])
def QD{k v:aE}{tk tv:TE}(hu:X.A.units+1<cLine)(hk:PE X k tk)(hv:PE X v tv):PE X (.Dict [some k] [v] pos) (Yw tk tv):=by
 intro pins s σ H Q I q;have hn:=I.hok.fresh<|aL s.heap.objs.size;have C:=I.laid (a:=s.heap.objs.size) (o:=.dT []) (h':=s.heap.push { cls:=.type "dict",data:=.dict #[]}) (t':=s.toks) (λ_ _ q=>aM _ q) (aL _)<|zz s.heap I.big;refine wpAny_Dict_any rfl rfl (by simp) (show 1<=15 by decide) ?_;refine pairTrees_cons_walk<|mR (hk pins _ σ _ _ C<|q _ hn) λkv B ⟨x,H1,p,rx,m⟩=>mR (hv pins B σ H1 _ p m) λvv K ⟨y,H2,d,ry,e,b,ks,ex,j,J⟩=>pairTrees_nil_walk ?_;subst ex
 cases rx
 obtain⟨z,F,xs,f,dd⟩:=B0 d.hok e
 cases f
 unfold storeAll;rw[jx];refine aG (aG<|wpAny_dictSet_heap (hsz:=by simp) (show X.A.units<cLine by lia) (tR d.hok j) dd λh' dd' hs=>aN ?_);dsimp only;rw[iZ];refine aN ⟨.ref s.heap.objs.size,_,?_,rfl,J⟩;obtain⟨q',es,ep,hq,h2,h3,t,_,G⟩:=dd';refine tD d (by rw[e];exact True.intro) hs ⟨q',hq⟩ ⟨by show 1<=sizeLine;decide,F,_,(KT.put (kvs:=[]) .nil ks j ry).keeps λc ys g=>?_,q',es,ep,hq,h2,h3,t,G⟩;rw[jI<|HR g e λz=>nomatch z];exact g
abbrev aah:V->List V->Hp->VK->Prop:=λx vs H Q=>∃a b ks kvs y,x=.ref a/\vs=[.ref b,y]/\H a=some (.dT kvs)/\H b=some (.tup<|ks.map kV)/\Q ((qz kvs ks).getD y) H
def SE(hu:X.A.units+1<cLine):MtM X "dict.get" aah:=by
 intro pins s σ H x vs v us Q I rx f h;obtain⟨a,b,ks,kvs,y,rfl,rfl,j,t,q⟩:=h
 cases rx
 cases f with
 | @cons _ C _ EL r1 f=>
  cases f with
  | @cons _ k _ Dg r2 f=>
   cases f
   cases r1
   obtain⟨z,p,xs,g,dd⟩:=B0 I.hok j;refine call_meetsIn dj dd.typeIs gS (gJ _ _ _) (meetsH_dict_get_default (tupleKind<|kL X.prog X.w) a b p k) ⟨eK hu,ks,xs,tR I.hok t,dd,?_⟩;refine⟨(qz kvs ks).getD y,H,I.tok _,?_,q⟩;have d:=g.val ks
   cases e1:qz kvs ks with
   | none=>
    rw[e1]at d
    cases e2:(atKey xs ks).map (·.2)with
    | none=>exact r2
    | some m=>rw[e2]at d;exact d.elim
   | some B=>
    rw[e1]at d
    cases e2:(atKey xs ks).map (·.2)with
    | none=>rw[e2]at d;exact d.elim
    | some m=>rw[e2]at d;exact d
end
section
theorem kt_at{H:Hp}:∀{kvs:List<|List Key×V}{xs:List<|List Key×ak×af},KT H kvs xs->kvs.length=xs.length/\∀(i:Nat) (p:List Key×V),kvs[i]?=some p->∃y:List Key×ak×af,xs[i]?=some y/\p.1=y.1/\H y.2.1=some (.tup<|p.1.map kV)/\RelV p.2 y.2.2
 | [],[],_=>⟨rfl,λi p h=>by simp at h⟩
 | [],_::_,r=>nomatch r
 | _::_,[],r=>nomatch r
 | a::kvs,b::xs,.cons z r=>by
  obtain⟨l,q⟩:=kt_at r;refine⟨by simp[l],λi p h=>?_⟩
  cases i with
  | zero=>
   have:a=p:=by simpa using h
   subst this;exact⟨b,rfl,z⟩
  | succ i=>exact q i p<|by simpa using h
end
abbrev C0 (e:ak)(h:aq):Prop:=∃o vs,h.get? e=some o/\o.data=.fields vs/\vs[2]?=some .none/\o.dict=none
abbrev j_ (e:ak){α:Type}(m:Sem α):Prop:=∀(M:Model) (d:PySem.Ctx) (Q:α->Pos->aC->Prop) (E:af->Pos->aC->Prop) (p:Pos) (s:aC),Sem.wp M d m Q E p s->C0 e s.heap->Sem.wp M d m (λa p s=>Q a p s/\C0 e s.heap) (λv p s=>E v p s/\C0 e s.heap) p s
section
variable {e:ak}{α β:Type}
def j_.bind{m:Sem α}{f:α->Sem β}(h1:j_ e m)(h2:∀a,j_ e<|f a):j_ e (m >>= f):=by
 intro M d Q E p s h c;rw[Sem.wp_bind']at h ⊢;exact Sem.wp_mono M d m (λa g s' z=>h2 a M d Q E g s' z.1 z.2) (λ_ _ _ z=>z) p s<|h1 M d _ _ p s h c
theorem j_.pure(a:α):j_ e (pure a:Sem α):=λM d Q E p s h c=>by rw[Sem.wp_pure']at h ⊢;exact⟨h,c⟩
def j_.Q4(w:String):j_ e (PySem.unsupported w:Sem α):=λM d Q E p s h c=>by
 have h:Sem.wp M d (.unsupported w:Sem α) Q E p s:=h;rw[Sem.wp_unsupported]at h;exact h.elim
def j_.load(a:ak):j_ e (PySem.load a):=λM d Q E p s h c=>by
 have h:Sem.wp M d (.load a none .pure) Q E p s:=h;show Sem.wp M d (.load a none .pure) _ _ p s;rw[Sem.wp_load]at h ⊢;obtain⟨o,f,h⟩:=h;rw[iI]at h;exact⟨o,f,by rw[iI];exact⟨h,c⟩⟩
def C0.update{h:aq}{a:ak}{f:Obj->Obj}(c:C0 e h)(hf:∀o vs,o.data=.fields vs->vs[2]?=some .none->∃ws,(f o).data=.fields ws/\ws[2]?=some .none/\(f o).dict=o.dict):C0 e (h.update a f):=by
 obtain⟨o,vs,h1,h2,h3,d⟩:=c;by_cases z:a=e
 ·subst z;obtain⟨ws,g,k,j⟩:=hf o vs h2 h3;exact⟨f o,ws,eU f h1<|fP g,g,k,j.trans d⟩
 ·exact⟨o,vs,by rw[fG _ _ z];exact h1,h2,h3,d⟩
def j_.update(a:ak)(f:Obj->Obj)(hf:∀o vs,o.data=.fields vs->vs[2]?=some .none->∃ws,(f o).data=.fields ws/\ws[2]?=some .none/\(f o).dict=o.dict):j_ e (PySem.update a f):=λM d Q E p s h c=>by
 have h:Sem.wp M d (.update a none f .pure) Q E p s:=h;show Sem.wp M d (.update a none f .pure) _ _ p s;rw[Sem.wp_update]at h ⊢;obtain⟨g,h⟩:=h;rw[iI]at h;exact⟨g,by rw[iI];exact⟨h,c.update hf⟩⟩
def j_.alloc(o:Obj):j_ e (PySem.alloc o):=λM d Q E p s h c=>by
 have h:Sem.wp M d (.alloc o .pure) Q E p s:=h;show Sem.wp M d (.alloc o .pure) _ _ p s;rw[Sem.wp_alloc,iI]at h ⊢;obtain⟨ob,vs,h1,h2,h3,f⟩:=c;exact⟨h,ob,vs,aM _ h1,h2,h3,f⟩
def j_.stack:j_ e PySem.stack:=λM d Q E p s h c=>by
 have h:Sem.wp M d (.stack .pure) Q E p s:=h;show Sem.wp M d (.stack .pure) _ _ p s;rw[Sem.wp_stack,iI]at h ⊢;exact⟨h,c⟩
def j_.ite{c:Prop}[Decidable c]{a b:Sem α}(h1:j_ e a)(h2:j_ e b):j_ e (if c then a else b):=by
 split
 ·exact h1
 ·exact h2
def j_.field(v:af)(i:Nat):j_ e (PySem.field v i):=by
 unfold PySem.field PySem.fieldsOf;refine j_.bind ?_ λvs=>?_
 ·split
  ·refine j_.bind (j_.load _) λo=>?_;split
   ·exact j_.pure _
   ·exact j_.Q4 _
  ·exact j_.Q4 _
 ·split
  ·exact j_.pure _
  ·exact j_.Q4 _
def j_.setField(v x:af)(i:Nat)(hi:i≠2):j_ e (PySem.setField v i x):=by
 unfold PySem.setField PySem.updateField;split
 ·refine j_.bind (j_.load _) λo=>?_;split
  ·refine j_.ite (j_.update _ _ λo vs h1 h2=>⟨_,eG h1 _,?_,?_⟩) (j_.Q4 _)
   ·rw[Array.getElem?_setIfInBounds_ne hi];exact h2
   ·unfold Obj.mapFields;split<;>rfl
  ·exact j_.Q4 _
 ·exact j_.Q4 _
def j_.frameEnvs:j_ e PySem.frameEnvs:=by
 unfold PySem.frameEnvs;exact j_.bind j_.stack λ_=>j_.pure _
def j_.behind(env:Env)(outer:List Env):j_ e (behindIsImport env outer):=by
 unfold behindIsImport;refine j_.ite (j_.pure _)<|j_.ite (j_.pure _)<|j_.bind (j_.field _ _) λ_=>j_.pure _
def j_.under:j_ e underTheClaimsCaller:=by
 unfold underTheClaimsCaller;exact j_.bind j_.stack λ_=>j_.pure _
def j_.kept(env:Env)(b:Bool)(l:List Env):j_ e (keptBack env b l):=by
 unfold keptBack;split
 ·refine j_.ite (j_.pure _) (j_.bind j_.under λ_=>j_.pure _)
 ·exact j_.pure _
theorem j_.ready:∀(l:List Env),j_ e (readyFrames l)
 | []=>j_.pure _
 | env::outer=>by
  unfold readyFrames;split
  ·refine j_.bind (j_.load _) λo=>?_;refine j_.ite (j_.pure _) ?_;refine j_.bind (j_.behind _ _) λ_=>j_.bind (j_.kept _ _ _) λ_=>j_.bind (j_.update _ _ λo vs h1 h2=>⟨vs,h1,h2,rfl⟩) λ_=>j_.ready outer
  ·exact j_.Q4 _
def j_.frameOf(env:Env):j_ e (PySem.frameOf env):=by
 unfold PySem.frameOf;refine j_.bind j_.frameEnvs λl=>j_.bind ?_ λ_=>?_
 ·unfold frameObject;split
  ·exact j_.pure _
  ·exact j_.bind (j_.ready _) λ_=>j_.pure _
 ·split
  ·exact j_.pure _
  ·exact j_.Q4 _
def j_.place(f:ak)(b:Bool):j_ e (entryPlaceOf f b):=by
 unfold entryPlaceOf;refine j_.bind j_.stack λ_=>?_;split
 ·exact j_.pure _
 ·exact j_.pure _
def j_.entry(a b c d f:af)(l:ba):j_ e (EntryCells.newEntry a b c d f l):=by
 unfold EntryCells.newEntry newFields newObj
 repeat (first|exact j_.pure _|exact j_.Q4 _|refine j_.bind (j_.alloc _) λ_=>?_|refine j_.bind (j_.Q4 _) λ_=>?_|refine j_.ite ?_ ?_|(refine j_.bind ?_ λ_=>?_))
def j_.flight(v:af)(f:Option ak):j_ e (setFlight v f):=by
 unfold setFlight;refine j_.bind (j_.field _ _) λ_=>j_.ite (j_.setField _ _ _ ⋯)<|j_.pure _
def j_.note(v:af)(env:Env):j_ e (noteFrame v env):=by
 unfold noteFrame;split
 ·refine j_.bind (j_.field _ _) λh=>j_.ite ?_ ?_
  ·refine j_.bind (j_.field _ _) λ_=>j_.ite (j_.pure _) ?_;refine j_.bind (j_.setField _ _ _ ⋯) λ_=>j_.bind (j_.frameOf _) λ_=>j_.bind (j_.place _ _) λ_=>j_.bind (j_.entry _ _ _ _ _ _) λ_=>j_.setField _ _ _ ⋯
  ·refine j_.bind (j_.frameOf _) λ_=>j_.bind (j_.place _ _) λ_=>j_.bind (j_.entry _ _ _ _ _ _) λ_=>j_.setField _ _ _ ⋯
 ·exact j_.Q4 _
def j_.leave(v:af)(env:Env):j_ e (leaving env v):=by
 unfold leaving;exact j_.bind (j_.note _ _) λ_=>j_.flight _ _
def j_.any{m:Sem α}{A:aA}{Q:α->aC->Prop}{E:af->aC->Prop}{s:aC}(k:j_ e m)(h:wpAny M A m Q E s)(c:C0 e s.heap):wpAny M A m (λa s'=>Q a s'/\C0 e s'.heap) (λv s'=>E v s'/\C0 e s'.heap) s:=
 λf p d=>k M f _ _ p s (h f p d) c
end
def kG.here{P:aj}{w:ah}{H:Hp}{h:aq}{a:ak}(x:kG P w H h a o):∃ob,h.get? a=some ob:=by
 cases o with
 | lst xs=>obtain⟨_,_,_,_,e⟩:=x;exact⟨_,e⟩
 | tup xs=>obtain⟨_,_,_,p⟩:=x;obtain⟨o,e,_⟩:=p;exact⟨_,e⟩
 | dK kvs=>obtain⟨_,_,_,_,o,_,_,e,_⟩:=x;exact⟨_,e⟩
 | dT kvs=>obtain⟨_,_,_,_,o,_,_,e,_⟩:=x;exact⟨_,e⟩
 | set S n=>obtain⟨o,_,_,_,e,_⟩:=x;exact⟨_,e⟩
 | ins C dx fs=>obtain⟨_,_,_,e,_⟩:=x;exact⟨_,e⟩
 | own y=>exact x
 | xd fs=>obtain⟨_,⟨_,_,_,e,_⟩,_⟩:=x;exact⟨_,e⟩
 | rng lo d=>obtain⟨_,_,_,e⟩:=x;exact⟨_,e⟩
 | frz ob u=>obtain⟨e,_⟩:=x;exact⟨_,e⟩
 | tbl ps=>exact⟨_,(show h.get? a=some _ from x)⟩
 | met f y=>exact⟨_,(show h.get? a=some _ from x)⟩
 | ext g=>obtain⟨_,⟨o,e⟩,_⟩:=x;exact⟨_,e⟩
structure Fly (l:List Env)(g:aq)(pn:bo)(H:Hp)(e:ak)(cls:af)(h:aq):Prop where
 ex:∃(B:aq) (a0:af),Heap.FlyingW B l e cls a0 h/\(∀a u,H a=some u->∃o,B.get? a=some o)/\(∀b o,g.get? b=some o->b∉frs l->∃o',B.get? b=some o')/\(∀p∈pn,∃o',B.get? p.1=some o')/\C0 e h
structure Made (X:Cx)(H:Hp)(e:ak)(cls:af)(g:aq)(h:aq):Prop where
 ex:∃(g':aq) (vs:ba),Heap.MadeExcOf g' h e cls vs/\g'.FunFrames X.base X.stack/\(∀a u,H a=some u->∃o,g'.get? a=some o)/\(∀b o,g.get? b=some o->∃o',g'.get? b=some o')/\(∀p∈X.pn,∃o',g'.get? p.1=some o')
def JQ{g:aq}{e:ak}{cls:af}(M:Heap.MadeExcOf g h e cls vs):C0 e h:=by
 obtain⟨t,d,_⟩:=M.there;exact⟨_,_,d,rfl,rfl,rfl⟩
abbrev zS (X:Cx)(H:Hp)(e:ak)(cls:af)(s':aC):Prop:=Made X H e cls X.s₀.heap s'.heap\/Fly X.stack X.s₀.heap X.pn H e cls s'.heap
section
variable {X:Cx}{pins:bo}{σ:L2.St}{H:Hp}{s':aC}{e:ak}{cls:af}
def zN(I:Inv X pins σ H s')(hex:X.ex=[]){B:aq}(k1:B.StaysIn s'.heap)(k2:B.StaysIn h')(up:s'.heap.UpToSlots h')(c1:∀a u,H a=some u->∃o,B.get? a=some o)(c2:∀b o,X.s₀.heap.get? b=some o->b∉X.fs->∃o',B.get? b=some o') :
  Un X.fs [] X.H₀ H X.s₀.heap h'/\vO X.prog X.w H h':=by
 have nx:∀b:ak,b∉X.ex:=λb z=>by rw[hex]at z;cases z
 have f:∀b o o',B.get? b=some o'->s'.heap.get? b=some o->h'.get? b=some o:=λb o o' d es=>by
  have:=k1 b o' d;rw[es]at this;cases this;exact k2 b o d
 have slot:∀b o,X.s₀.heap.get? b=some o->X.H₀ b=none->b∈X.fs->∃g,h'.get? b=some { o with slots:=g }:=λb o q n hb=>by
  obtain⟨g,e1⟩:=I.base.slot b o q n hb<|nx b;obtain⟨_,t,m,p⟩:=I.ok.tZ.mem hb;rw[q]at m;cases m;obtain⟨j,e2⟩:=up b _ e1 p;exact⟨j,e2⟩
 refine⟨⟨λb o q n hb _=>?_,λb o q n hb _=>slot b o q n hb,λb o q n _=>I.base.free b o q n<|nx b,λb o q _=>?_,I.base.tups,I.base.frzs,I.base.tbls⟩,λa u k=>?_⟩
 ·obtain⟨o',d⟩:=c2 b o q hb;exact f b o o' d (I.base.keep b o q n hb<|nx b)
 ·by_cases hb:b∈X.fs
  ·obtain⟨g,z⟩:=slot b o q (I.ok.frf b hb) hb;exact⟨_,z⟩
  ·obtain⟨o',d⟩:=c2 b o q hb;exact⟨o',k2 b o' d⟩
 ·refine(I.hok a u k).stay (λb v hb q=>?_) (λ_ q=>q) λ_ _ q=>q
  rcases hb with z|z
  ·subst z;obtain⟨o',d⟩:=c1 _ u k;exact f _ v o' d q
  ·obtain⟨o',d⟩:=c1 b _ z;exact f b v o' d q
def F8(I:Inv X pins σ H s')(hst:X.stack=X.env::X.outer)(hf:X.env.frame=some X.env.locals)(hex:X.ex=[])(R:zS X H e cls s'){Q:aC->Prop}{E:af->aC->Prop}
  (hQ:∀h',Un X.fs [] X.H₀ H X.s₀.heap h'->vO X.prog X.w H h'->Fly X.outer X.s₀.heap [] H e cls h'->Q { s' with heap:=h' }):wpAny (model X.prog X.w) X.A (leaving X.env<|.ref e) (λ_ s''=>Q s'') E s':=by
 have k:X.A.frames=some (X.env::X.outer):=by rw[<- hst];exact I.ok.frames
 have K:∀b o,X.s₀.heap.get? b=some o->b∉X.fs->b∉frs (X.env::X.outer):=λb o q hb z=>by
  unfold frs at z;rw[fy,hf]at z
  rcases bE.mp z with z|z
  ·rw[z]at q;exact absurd (bN (a_ q) I.ok.above) (fh _)
  ·exact hb z
 rcases R with⟨C,vs,M,j,N,L,_⟩|⟨B,a0,F,c1,c2,_,k0⟩
 ·
  rw[hst]at j;have G:∀env∈(X.env::X.outer),∀b,env.frame=some b->b∈frs (X.env::X.outer):=λenv O b hb=>gD.mpr ⟨env,O,hb⟩;refine cY (j_.any (e:=e) (j_.leave _ _) (wpAny_leaves_madeW (Q:=λ_ s''=>∃h' t,s''={ s' with heap:=h' }/\Heap.FlyingW (PySem.W.hideAll C<|frs (X.env::X.outer)) X.outer e cls (.ref t) h'/\s'.heap.UpToSlots h') (E:=λ_ _=>False) (base:=PySem.W.hideAll C<|frs (X.env::X.outer)) k hf (λb o q=>fF _ q) (PySem.W.funFrames_hide j G) M λh' t d T P f=>⟨h',t,rfl,d,f⟩)<|JQ M) (λ_ s'' z=>?_) λ_ _ z=>z.1.elim;obtain⟨⟨h',t,rfl,d,f⟩,k0⟩:=z;have k1:(PySem.W.hideAll C<|frs (X.env::X.outer)).StaysIn s'.heap:=λb o q=>M.keeps b o<|fF _ q;have c1:∀a u,H a=some u->∃o,(PySem.W.hideAll C<|frs (X.env::X.outer)).get? a=some o:=λa u J=>by
   obtain⟨o,q⟩:=N a u J;refine⟨o,d9 _ q λz=>?_⟩;rw[<- hst]at z;rw[I.yT a z]at J;cases J
  have c2:∀b o,X.s₀.heap.get? b=some o->b∉X.fs->∃o',(PySem.W.hideAll C<|frs (X.env::X.outer)).get? b=some o':=λb o q hb=>by
   obtain⟨o',q'⟩:=L b o q;exact⟨o',d9 _ q'<|K b o q hb⟩
  obtain⟨un,g⟩:=zN I hex k1 d.1 f c1 c2;exact hQ h' un g ⟨_,_,d,c1,λb o q hb=>c2 b o q hb,λp hp=>absurd hp<|by simp,k0⟩
 ·rw[hst]at F c2;refine cY (j_.any (e:=e) (j_.leave _ _) (wpAny_leaves_onW (Q:=λ_ s''=>∃h',s''={ s' with heap:=h' }/\Heap.FlyingW B X.outer e cls a0 h'/\s'.heap.UpToSlots h') (E:=λ_ _=>False) k hf F λh' d f=>⟨h',rfl,d,f⟩) k0) (λ_ s'' z=>?_) λ_ _ z=>z.1.elim;obtain⟨⟨h',rfl,d,f⟩,k0'⟩:=z;have m:∀b o,X.s₀.heap.get? b=some o->b∉X.fs->∃o',B.get? b=some o':=λb o q hb=>c2 b o q<|K b o q hb;obtain⟨un,g⟩:=zN I hex F.1 d.1 f c1 m;exact hQ h' un g ⟨_,_,d,c1,m,λp hp=>absurd hp<|by simp,k0'⟩
end
abbrev xN (P:aj)(w:ah):MB:=λouter H s E e d=>∃f cls H',e=.ref f/\d.os=s.os/\AllBare d.gens/\Un (frs outer) [] H H' s.heap d.heap/\vO P w H' d.heap/\Fly outer s.heap [] H' f cls d.heap/\E cls none H'
section
variable {P:aj}{w:ah}{K:au}{mg:Str->bd}{base:aq}{N:ar}{qual:Str}{scope:Scope}{f:ak}{cd:af}{A:aA}{outer:List Env}{s:aC}{H:Hp}{E:XK}
def Lb{H':Hp}{cls:af}(I:Inv (xw (xN P w) P w K mg base N qual scope f cd A outer s H E) pins σ' H' s')
  (hf:(envOfC qual scope s.heap.objs.size f cd).frame=some (envOfC qual scope s.heap.objs.size f cd).locals)
  (R:zS (xw (xN P w) P w K mg base N qual scope f cd A outer s H E) H' ea cls s') (hE:E cls none H'):(xw (xN P w) P w K mg base N qual scope f cd A outer s H E).xe (.ref ea) s':=by
 refine F8 I rfl hf rfl R (Q:=λd=>xN P w outer H s E (.ref ea) d) λh' un g fl=>?_;exact⟨ea,cls,H',rfl,I.os,I.bare,un,g,fl,hE⟩
abbrev EX (X:Cx):XK:=λcls _ H'=>X.ex=[]/\∀pins d s' e,Inv X pins d H' s'->zS X H' e cls s'->X.xe (.ref e) s'
def PF{X:Cx}(hP:X.prog=P)(hw:X.w=w):Passes (xN P w) X (EX X):=by
 intro pins σ H s e s' I ⟨C,cls,H',G,os,f,un,j,⟨B,a0,F,c1,c2,_,k0⟩,m⟩;subst G hP hw;obtain⟨K,g,d,t,k⟩:=s';obtain rfl:k=s.os:=os;refine m.2 pins σ _ C (I.call (h':=K) (g':=g) (d':=d) (t':=t) (ch:=[]) un j f λb z=>absurd z<|by simp) (.inr ⟨B,a0,F,c1,λb o q hb=>?_,λp hp=>?_,k0⟩)
 ·obtain⟨o',q'⟩:=I.base.there b o q (by rw[m.1];simp);exact c2 b o' q' hb
 ·obtain⟨q,_,L,J,_⟩:=I.pin p<|cM _ hp;exact c2 p.1 _ q λz=>(bE.mp<|I.zG _ z).elim L J
abbrev YJ (X:Cx)(C:ak)(t:TA):TS:=λ_ σ H=>t σ H λvs H'=>vs.length<=sizeLine/\EX X (.ref C) none H'
def Oa{X:Cx}{x:Str}{B:String}{e:aE}{t:TA}(O:OwnCls x C bmB newId X.mg X.base)(FB:ExcBaseFacts B newId initId bmB)(hh:X.A.handled=none)(ha:PA X (e::es) t)(hg:Gl X x<|>ε)
  (hs:starEach (e::es) X.env=(false,eval e X.env)::starEach es X.env<|>ε) (hplain:((backTo cpos<|starEach es X.env).any (·.1)=false)<|>ε) (hd:(x == ("__debug__" : Str))=false<|>δ) :
  PS X (.Raise (some<|.Call (.Name x np) (e::es) [] cpos) none pos) (YJ X C t):=by
 ksr_p;obtain⟨z,N,nm,q,bs,hdct,sn,sub,ab,col,dd,k0,k1,k2,k3,k5,mN,J,G,j,T⟩:=O.obj;refine wpAny_Raise_call_subU (C:=C) (nm:=nm) (q:=q) (N:=N) (bs:=bs) (bm:=z) (hdct:=hdct) (sn:=sn) (sub:=sub) (ab:=ab) (col:=col) (dd:=dd) (k0:=k0) (k1:=k1) (k2:=k2) (k3:=k3) (k5:=k5)
  FB FB.hasB FB (mN:=mN) (T.hasType FB.hasBase) hh (by rw[hs];show(false || (backTo cpos<|starEach es X.env).any (·.1))=false;rw[hplain];rfl) j (xK I hg O.bound ⟨rfl,?_⟩ hd)
 have m:=ha cpos pins s σ H _ I h;rw[hs]at m ⊢;refine Calls.evalArgs_plain<|mR m λus k ⟨vs,H2,d,r2,F,g,K⟩=>?_;refine⟨rfl,by rw[<- r2.length];exact F,d.bk _ _ J,G.keeps d.bk,T.keeps d.bk,λh' f M=>?_⟩;refine K pins σ { k with heap:=h' } f ?_ (.inl ⟨k.heap,us,M,d.stack,λa u f=>?_,λb o q=>?_,λp hp=>⟨_,(d.pin p<|cM _ hp).1⟩⟩)
 ·exact d.kept (t':=k.toks) M.keeps
 ·exact(d.hok a u f).here
 ·exact d.base.there b o q<|by rw[g];simp
end
abbrev zO:List (Str ⊕ TE)->St->Hp->(Hp->Prop)->Prop
 | [],_,H,k=>k H
 | .inl x::ps,σ,H,k=>x.length<=1000/\zO ps σ H k
 | .inr t::ps,σ,H,k=>t σ H λv H'=>∃i,v=.int i/\i.natAbs.log2<64/\zO ps σ H' k
inductive FParts (X:Cx):List aE->List (Str ⊕ TE)->Prop
 | nil:FParts X [] []
 | txt {x:Str} {j pos} {es:List aE} {ps:List<|Str ⊕ TE} (h:FParts X es ps):FParts X (.Constant (.str x) j pos::es) (.inl x::ps)
 | val {e:aE} {pos:Pos} {t:TE} {es:List aE} {ps:List<|Str ⊕ TE} (he:PE X e t) (h:FParts X es ps):FParts X (.FormattedValue e (-1) none pos::es) (.inr t::ps)
theorem wD{X:Cx}{Q:VK}:∀{es:List aE}{ps:List<|Str ⊕ TE},FParts X es ps->∀(H:Hp) (s:aC) (out:Str),Inv X pins σ H s->out.length+2000 * es.length<=sizeLine ->
  zO ps σ H (λH'=>∀x:Str,x.length<=sizeLine->Q (.str x) H')->wpAny (model X.prog X.w) X.A (joinParts out<|evalEach es X.env) (EP X pins σ Q) X.xe s
 | _,_,.nil,H,s,out,I,d,h=>joinParts_nilE (joinParts_nil (show EP X pins σ Q _ _ from⟨.str out,H,I.tok _,⟨_,rfl⟩,h out<|by simpa using d⟩)<|by simpa using d)
 | _,_,.txt (x:=x) hp,H,s,out,I,d,h=>by
  refine joinParts_consE<|joinParts_cons<|Calls.Constant_str ?_;rw[bB]at d;have g:=h.1;have f:(out++x).length=out.length+x.length:=strLen_append ..;exact⟨by rw[f];lia,wD hp H _ _ (I.tok _) (by rw[f];lia) h.2⟩
 | _,_,.val (e:=e) (t:=t) he hp,H,s,out,I,d,h=>by
  rw[bB]at d;refine joinParts_consE<|joinParts_cons<|FormattedValue_plain<|mR (he pins s σ H _ I h) λv q ⟨x,H1,m,r1,i,g,j,h1⟩=>?_;subst g;obtain⟨z,rfl⟩:=r1;refine formatField_int_small () ?_;have p:(Str.ofString<|toString i).length<=65:=by
   have:=int_text_length_le (a:=i) (k:=64) ⋯ j;rw[PySem.ofString_length];exact this
  have f:(out++Str.ofString (toString i)).length=out.length+(Str.ofString<|toString i).length:=strLen_append ..;exact⟨by rw[f];lia,wD hp H1 _ _ (m.tok _) (by rw[f];lia) h1⟩
abbrev tFs (ps:List<|Str ⊕ TE):TE:=λσ H Q=>zO ps σ H λH'=>∀x:Str,x.length<=sizeLine->Q (.str x) H'
def ZA{X:Cx}(h:FParts X (e1::e2::es) ps)(hl:2000 * (e1::e2::es).length<=sizeLine<|>δ):PE X (.JoinedStr (e1::e2::es) pos) (tFs ps):=
 λpins s σ H Q I q=>JoinedStr_many<|wD h H s Str.empty I (by rw[show Str.empty.length=0 from rfl,cj];exact hl) q
abbrev Cx.AU (X:Cx)(pn':bo)(xe':af->aC->Prop):Cx:={ X with xe:=xe',pn:=pn' }
abbrev xu:HO:=.ext λ_=>True
abbrev Cx.hand (X:Cx)(pn':bo)(e:ak)(oe:Obj):Cx:={ X with A:=X.A.mark<|some<|.ref e,calm:=false,xe:=λ_ _=>False,pn:=pn',H₀:=upd X.H₀ e<|.frz oe xu}
structure XO (C:ak)(o:Obj):Prop where
 cls:o.cls=.ref C
 dict:o.dict=none
 ctx:∃vs,o.data=.fields vs/\vs[2]?=some .none
structure Fr0 (X:Cx)(e:ak):Prop where
 no:∀o,X.s₀.heap.get? e≠some o
 tup:∀xs,X.H₀ e≠some (.tup xs)
 frz:∀o u,X.H₀ e≠some (.frz o u)
 tbl:∀ps,X.H₀ e≠some (.tbl ps)
section
variable {X:Cx}{pins:bo}{σ:L2.St}{H:Hp}{s':aC}{e:ak}{cls:af}
def LX(I:Inv X pins σ H s')(hst:X.stack=X.env::X.outer)(hf:X.env.frame=some X.env.locals)(R:zS X H e cls s'){Q:Unit->aC->Prop}{E:af->aC->Prop}
  (hQ:∀h' B a0,Heap.HeldW B (X.env::X.outer) e cls a0 X.env.locals h'->B.StaysIn s'.heap->s'.heap.UpToSlots h'->(∀a u,H a=some u->∃o,B.get? a=some o)->(∀b o,X.s₀.heap.get? b=some o->b∉X.fs->∃o',B.get? b=some o')->(∀p∈X.pn,∃o',B.get? p.1=some o')->C0 e h'->Q Unit.unit { s' with heap:=h' }) :
  wpAny (model X.prog X.w) X.A (noteFrame (.ref e) X.env) Q E s':=by
 have k:X.A.frames=some (X.env::X.outer):=by rw[<- hst];exact I.ok.frames
 have K:∀b o,X.s₀.heap.get? b=some o->b∉X.fs->b∉frs (X.env::X.outer):=λb o q hb z=>by
  unfold frs at z;rw[fy,hf]at z
  rcases bE.mp z with z|z
  ·rw[z]at q;exact absurd (bN (a_ q) I.ok.above) (fh _)
  ·exact hb z
 rcases R with⟨m,vs,M,j,U,O,P⟩|⟨B,a0,F,c1,c2,c3,k0⟩
 ·rw[hst]at j;have G:∀env∈(X.env::X.outer),∀b,env.frame=some b->b∈frs (X.env::X.outer):=λenv C b hb=>gD.mpr ⟨env,C,hb⟩;have V:=PySem.W.funFrames_hide j G;obtain⟨t,C,T,ht⟩:=M.there;have L:(PySem.W.hideAll m<|frs (X.env::X.outer)).get? e=none:=by
   cases hq:(PySem.W.hideAll m<|frs (X.env::X.outer)).get? e with
   | none=>rfl
   | some o'=>have:=fF _ hq;rw[M.new]at this;cases this
  have k1:(PySem.W.hideAll m<|frs (X.env::X.outer)).StaysIn s'.heap:=λb o q=>M.keeps b o<|fF _ q;have Z:wpAny (model X.prog X.w) X.A (noteFrame (.ref e) X.env) (λ_ d=>∃h',d={ s' with heap:=h' }/\Heap.HeldW (PySem.W.hideAll m<|frs (X.env::X.outer)) (X.env::X.outer) e cls (.ref t) X.env.locals h'/\s'.heap.UpToSlots h') (λ_ _=>False) s':=by
   unfold noteFrame;dsimp[hf];refine aG<|fC C rfl (x:=.none) rfl ?_;rw[aQ ⋯];refine wpAny_entryW (base:=PySem.W.hideAll m<|frs (X.env::X.outer)) (a0:=.ref t) k (V.of_keeps λb o hb _=>⟨o,M.keeps b o hb,rfl⟩) hf C k1 L rfl (by simp) rfl λh' hL=>?_;obtain⟨f,Y,N,g⟩:=hL;exact⟨h',rfl,⟨f,L,Y,N⟩,g⟩
  refine cY (j_.any (e:=e) (j_.note _ _) Z<|JQ M) (λ_ d z=>?_) λ_ _ z=>z.1.elim;obtain⟨⟨h',rfl,f,g⟩,k0⟩:=z;refine hQ h' _ _ f k1 g (λa u J=>?_) (λb o q hb=>?_) (λp hp=>?_) k0
  ·obtain⟨o,q⟩:=U a u J;refine⟨o,d9 _ q λz=>?_⟩;rw[<- hst]at z;rw[I.yT a z]at J;cases J
  ·obtain⟨o',q'⟩:=O b o q;exact⟨o',d9 _ q'<|K b o q hb⟩
  ·obtain⟨o',q'⟩:=P p hp;obtain⟨q,_,n1,n2,_⟩:=I.pin p<|cM _ hp;refine⟨o',d9 _ q' λz=>?_⟩;rw[<- hst]at z;exact(bE.mp<|I.zG _ z).elim n1 n2
 ·rw[hst]at F c2;refine cY (j_.any (e:=e) (j_.note _ _) (wpAny_looks_onW (Q:=λ_ d=>∃h',d={ s' with heap:=h' }/\Heap.HeldW B (X.env::X.outer) e cls a0 X.env.locals h'/\s'.heap.UpToSlots h') (E:=λ_ _=>False) k hf F λh' f g=>⟨h',rfl,f,g⟩) k0) (λ_ d z=>?_) λ_ _ z=>z.1.elim;obtain⟨⟨h',rfl,f,g⟩,k0'⟩:=z;exact hQ h' B a0 f F.1 g c1 (λb o q hb=>c2 b o q<|K b o q hb) c3 k0'
end
section
variable {X:Cx}{pn' pins:bo}{xe':af->aC->Prop}{σ:L2.St}{H:Hp}{s':aC}{e C:ak}{B h6:aq}{a0:af}
def Bm(I:Inv (X.AU pn' xe') pins σ H s')(hex:X.ex=[])(F:Heap.FlyingW B (X.env::X.outer) e (.ref C) a0 h6)(k1:B.StaysIn s'.heap)(up:s'.heap.UpToSlots h6)
  (c1:∀a u,H a=some u->∃o,B.get? a=some o) (c2:∀b o,X.s₀.heap.get? b=some o->b∉X.fs->∃o',B.get? b=some o') (c3:∀p∈pn',∃o',B.get? p.1=some o') (k0:C0 e h6) :
  Fr0 X e/\H e=none/\∃oe,XO C oe/\Inv (X.hand pn' e oe) [] σ (upd H e<|.frz oe xu) { s' with heap:=h6 }:=by
 obtain⟨un,V⟩:=zN I hex k1 F.1 up c1 c2;have hn:H e=none:=by
  cases q:H e with
  | none=>rfl
  | some u=>obtain⟨o,z⟩:=c1 e u q;rw[F.2.1]at z;cases z
 obtain⟨f,O,t,J,g3,g5⟩:=k0;have ns:∀o,X.s₀.heap.get? e≠some o:=λo q=>by
  by_cases hb:e∈X.fs
  ·obtain⟨_,U,g,Y⟩:=I.ok.tZ.mem hb;have g:X.s₀.heap.get? e=some U:=g;rw[q]at g;cases g;obtain⟨Z,z⟩:=un.slot e o q (I.ok.frf e hb) hb (by simp);rw[t]at z;have z:f=_:=aZ z;rw[z]at J;exact Y _ J
  ·obtain⟨o',z⟩:=c2 e o q hb;rw[F.2.1]at z;cases z
 have j:∀(b:ak) (ob:Obj),s'.heap.get? b=some ob->(∀vs,ob.data≠.fields vs)->b≠e:=λb ob q d z=>by
  obtain⟨Z,M⟩:=up b ob q d;rw[z,t]at M;have M:f=_:=aZ M;rw[M]at J;exact d _ J
 obtain⟨m,hm,hl⟩:=id I.loc;have K:s'.heap.Ns X.env.locals m:=hm;have G:∀c v,s'.heap.IsCell c v->h6.IsCell c v:=λc v h9=>by
  obtain⟨W,q,d⟩:=h9;obtain⟨Z,z⟩:=up c W q λvs y=>by rw[d]at y;cases y
  exact⟨_,z,d⟩
 have P:X.env.locals≠e:=by
  obtain⟨oL,es,ep,q,d,_⟩:=id K;exact j _ oL q λvs y=>by rw[d]at y;cases y
 have xo:XO C f:=by
  obtain⟨_,_,_,oe,vs,T,oT,ts,N,⟨hc,_⟩,hd,_⟩:=F;rw[t]at N;have N:f=oe:=aZ N;subst N;exact⟨hc,g5,O,J,g3⟩
 have no:∀u,H e≠some u:=λu q=>by rw[hn]at q;cases q
 have fr:Fr0 X e:=⟨ns,λxs q=>no _<|un.tups e xs q,λo u q=>no _<|un.frzs e o u q,λps q=>let⟨_,z⟩:=un.tbls e ps q;no _ z⟩;refine⟨fr,hn,f,xo,⟨I.ok.mod,I.ok.kind,I.ok.glob,I.ok.blt,I.ok.above,I.ok.inj,I.ok.has,I.ok.cab,λh=>(by cases h),I.ok.frames,I.ok.stk,I.ok.exf,λb o q=>⟨(I.ok.bs b o q).1,?_⟩,I.ok.bsz,I.ok.noex,I.ok.exfs,I.ok.tZ,λb hb=>?_⟩,I.os,I.bare,?_,⟨m,up.ns K,λi x v h1 h2 h3=>?_⟩,λx c h=>?_,?_,λx c h=>?_,λp hp=>?_,λb u q=>?_,I.len⟩
 ·show upd X.H₀ e _ b=none;rw[jI λz=>ns o<|by rw[<- z];exact(I.ok.bs b o q).1];exact(I.ok.bs b o q).2
 ·show upd X.H₀ e _ b=none;obtain⟨_,U,g,Y⟩:=I.ok.tZ.mem hb;rw[jI λz=>ns U<|by rw[<- z];exact g];exact I.ok.frf b hb
 ·have h0:∀b o,X.s₀.heap.get? b=some o->upd X.H₀ e (.frz f xu) b=none->X.H₀ b=none:=λb o q n=>by
   rwa [jI λz=>ns o<|by rw[<- z];exact q]at n
  refine⟨λb o q n h _=>un.keep b o q (h0 b o q n) h<|by simp,λb o q n h _=>un.slot b o q (h0 b o q n) h<|by simp,λb o q n _=>?_,λb o q _=>un.there b o q<|by simp,λb xs q=>?_,λb o u q=>?_,λb ps q=>?_⟩
  ·rw[jI λz=>ns o<|by rw[<- z];exact q];exact un.free b o q (h0 b o q n) (by simp)
  ·have q:upd X.H₀ e (.frz f xu) b=some (.tup xs):=q;by_cases hb:b=e
   ·rw[hb,j3]at q;cases q
   ·rw[jI hb]at q ⊢;exact un.tups b xs q
  ·have q:upd X.H₀ e (.frz f xu) b=some (.frz o u):=q;by_cases hb:b=e
   ·rw[hb,j3]at q ⊢;exact q
   ·rw[jI hb]at q ⊢;exact un.frzs b o u q
  ·have q:upd X.H₀ e (.frz f xu) b=some (.tbl ps):=q;by_cases hb:b=e
   ·rw[hb,j3]at q;cases q
   ·rw[jI hb]at q ⊢;exact un.tbls b ps q
 ·obtain⟨u,r,lk⟩:=hl i x v h1 h2 h3;refine⟨u,r,?_⟩
  rcases lk with⟨k,z⟩|⟨k,c,z,y⟩
  ·exact .inl ⟨k,z⟩
  ·exact .inr ⟨k,c,z,G c _ y⟩
 ·obtain⟨v,z⟩:=I.cell x c h;exact⟨v,G c v z⟩
 ·show upd H e _ X.env.locals=none;rw[jI P];exact I.free
 ·obtain⟨v,W,q,d⟩:=I.cell x c h;rw[jI<|j c W q λvs y=>by rw[d]at y;cases y];exact I.freeC x c h
 ·have hp:p∈pn':=by
   have hp:p∈pn'++[]:=hp
   rwa [bO]at hp
  obtain⟨q,n,n1,n2,d⟩:=I.pin p<|cM _ hp;obtain⟨o',z⟩:=c3 p hp;have L:=k1 _ _ z;rw[q]at L;have L:p.2=o':=aZ L;refine⟨by rw[L];exact F.1 _ _ z,?_,n1,n2,d⟩;rw[jI λy=>by rw[y,F.2.1]at z;cases z];exact n
 ·by_cases hb:b=e
  ·subst hb;rw[j3]at q;cases q;exact⟨t,trivial,⟨f,t⟩,λ_ _ _ _=>trivial⟩
  ·rw[jI hb]at q;exact(V b u q).stay (λ_ _ _ z=>z) (λc z=>by rw[jI<|jX z hn];exact z) λc xs z=>by rw[jI<|jX z hn];exact z
end
section
variable {X:Cx}{pins:bo}{σ:L2.St}{H:Hp}{s:aC}
def Lx{A:aA}{E:af->aC->Prop}{i:Nat}{n:Str}{v:V}{Q:Unit->aC->Prop}(I:Inv X pins σ H s)(hN:X.N.Nodup)(hi:X.N[i]?=some n)(hlo:X.env.scope.names.lookup n=some .local)(hv:σ[i]?=some (some v))
  (h:∀s',Inv X pins (σ.set i none) H s'->Q Unit.unit s'):wpAny M A (unbindName X.env n) Q E s:=by
 obtain⟨m,hn,J⟩:=id I.loc;obtain⟨u,r,Y⟩:=J i n v hi hv<|.inl hlo;have W:m n=some u:=by
  rcases Y with⟨_,z⟩|⟨k,_⟩
  ·exact z
  ·exfalso;have U:X.env.kindOf n=some .local:=hlo
   rcases k with k|k<;>(rw[U]at k;cases k)
 have C:(X.env.scope.kind == .class || (X.env.scope.kind == .module && X.env.locals != X.env.globals))=false:=by rw[I.ok.kind];rfl
 refine wpAny_unbindName_local hlo hn W C λh' u' B hs=>?_;have f:∀b o,X.s₀.heap.get? b=some o->h'.get? b=s.heap.get? b:=λb o q=>hs.2 b<|bC<|bN (a_ q) I.ok.above;obtain⟨oL,_,_,O,_⟩:=id hn;refine h _ ⟨I.ok,I.os,I.bare,⟨λb o q G t g=>(f b o q).trans<|I.base.keep b o q G t g,λb o q G t g=>?_,I.base.free,λb o q g=>?_,I.base.tups,I.base.frzs,I.base.tbls⟩,⟨_,B,λj y K e1 e2 e3=>?_⟩,λy c q=>?_,I.free,I.freeC,λp hp=>?_,λb ob q=>?_,by rw[bT];exact I.len⟩
 ·obtain⟨Z,z⟩:=I.base.slot b o q G t g;exact⟨Z,(f b o q).trans z⟩
 ·obtain⟨o',z⟩:=I.base.there b o q g;exact⟨o',(f b o q).trans z⟩
 ·by_cases F:j=i
  ·subst F;have:j<σ.length:=(aJ.mp hv).1;rw[br this]at e2
   cases e2
  ·rw[bG<|cA F]at e2;obtain⟨w,L,q⟩:=J j y K e1 e2 e3;refine⟨w,L,?_⟩
   rcases q with⟨k,z⟩|⟨k,c,z,y'⟩
   ·have:y≠n:=λz=>F<|z8 hN e1<|z ▸ hi;exact .inl ⟨k,by simp[this,z]⟩
   ·exact .inr ⟨k,c,z,y'.sameBut hs<|I.US y c z⟩
 ·obtain⟨w,z⟩:=I.cell y c q;exact⟨w,z.sameBut hs<|I.US y c q⟩
 ·obtain⟨z,P,ne,T,d⟩:=I.pin p hp;exact⟨(hs.2 p.1 ne).trans z,P,ne,T,d⟩
 ·refine(I.hok b ob q).stay (λc w hc z=>(hs.2 c ?_).trans z) (λ_ z=>z) λ_ _ z=>z;intro y
  rcases hc with hc|hc
  ·rw[<- hc,y,I.free]at q;cases q
  ·rw[y,I.free]at hc;cases hc
def Inv.AU(I:Inv X pins σ H s)(xe':af->aC->Prop):Inv (X.AU (X.pn++pins) xe') [] σ H s:=
 ⟨⟨I.ok.mod,I.ok.kind,I.ok.glob,I.ok.blt,I.ok.above,I.ok.inj,I.ok.has,I.ok.cab,I.ok.hd,I.ok.frames,I.ok.stk,I.ok.exf,I.ok.bs,I.ok.bsz,I.ok.noex,I.ok.exfs,I.ok.tZ,I.ok.frf⟩,I.os,I.bare,I.base,I.loc,I.cell,I.free,I.freeC,λp hp=>I.pin p (by
  have hp:p∈(X.pn++pins)++[]:=hp
  rwa [bO]at hp),I.hok,I.len⟩
def Inv.Kg{xe':af->aC->Prop}(I:Inv (X.AU (X.pn++pins) xe') pins' σ H s):Inv X pins σ H s:=
 ⟨⟨I.ok.mod,I.ok.kind,I.ok.glob,I.ok.blt,I.ok.above,I.ok.inj,I.ok.has,I.ok.cab,I.ok.hd,I.ok.frames,I.ok.stk,I.ok.exf,I.ok.bs,I.ok.bsz,I.ok.noex,I.ok.exfs,I.ok.tZ,I.ok.frf⟩,I.os,I.bare,I.base,I.loc,I.cell,I.free,I.freeC,λp hp=>I.pin p<|cM _ hp,I.hok,I.len⟩
def Inv.WQ{e:ak}(I:Inv (X.hand (X.pn++pins) e oe) pins' σ H s)(ok:X.Ok)(f0:Fr0 X e):Inv X pins σ H s:=
 have h0:∀b o,X.s₀.heap.get? b=some o->X.H₀ b=none->upd X.H₀ e (.frz oe xu) b=none:=λb o q n=>by
  rw[jI λz=>f0.no o<|by rw[<- z];exact q];exact n
 ⟨ok,I.os,I.bare,⟨λb o q n=>I.base.keep b o q<|h0 b o q n,λb o q n=>I.base.slot b o q<|h0 b o q n,λb o q n=>I.base.free b o q<|h0 b o q n,I.base.there,λb xs q=>I.base.tups b xs<|show upd X.H₀ e (.frz oe xu) b=_ by rw[jI λz=>f0.tup xs<|by rw[<- z];exact q];exact q,λb o u q=>I.base.frzs b o u<|show upd X.H₀ e (.frz oe xu) b=_ by rw[jI λz=>f0.frz o u<|by rw[<- z];exact q];exact q,λb ps q=>I.base.tbls b ps<|show upd X.H₀ e (.frz oe xu) b=_ by rw[jI λz=>f0.tbl ps<|by rw[<- z];exact q];exact q⟩,I.loc,I.cell,I.free,I.freeC,λp hp=>I.pin p<|cM _ hp,I.hok,I.len⟩
end
section
variable {M:Model}{A:aA}{E:af->aC->Prop}{h:aq}{g:Array GenState}{d:Drawn}{t:Nat}{os:OsState}{C N D N':ak}{nm q nm' q':Str}{bs bm bs' bm':ba}{hdct hdct':Bool}{sn sn':ar}{sub sub':ba}{ab ab':Bool}{col col':bi}{dd dd':Option ak}{k0 k1 k2 k3 k5 k0' k1' k2' k3' k5':bd}{newId newId':String}
theorem Ba{e:ak}{oe:Obj}{Q:Bool->aC->Prop}(hC:h.get? C=some (excClassObj nm q C N bs bm hdct sn sub ab col dd k0 k1 k2 k3 k5 newId))(hD:h.get? D=some (excClassObj nm' q' D N' bs' bm' hdct' sn' sub' ab' col' dd' k0' k1' k2' k3' k5' newId'))
  (he:h.get? e=some oe) (hcls:oe.cls=.ref C) (hbase:bm'.contains (.type "BaseException")=true) (hq:Q ((Value.ref C::bm).contains<|.ref D) ⟨h,g,d,t,os⟩):wpAny M A (excMatches (.ref e)<|.ref D) Q E ⟨h,g,d,t,os⟩:=by
 have j:(Value.ref D::bm').contains (.type "BaseException")=true:=by rw[List.contains_cons,hbase,Bool.or_true]
 have f:=tc_notTuple;unfold excMatches
 repeat (first|(with_reducible refine wpAny_loadPart_at he ?_;rw[hcls])|with_reducible refine wpAny_loadPart_at hD ?_|(with_reducible refine wpAny_isSubtype_exc hD ?_;rw[j])|with_reducible refine wpAny_isSubtype_exc hC ?_|wp_step)
 cases hb:(Value.ref C::bm).contains (.ref D)<;>(rw[hb]at hq;wp_walk;exact hq)
end
abbrev mroIn (K:au)(C:ak):Option (ba):=match K.lookup C with
 | some ⟨.type "type",_,.cls cd,sl⟩=>(match cd.mro,sl.toList with
  | .ref C'::bm,[_,_,_,_,some<|.builtin _,_]=>if C'=C/\cd.hasDel=false then some bm else none
  | _,_=>none)
 | _=>none
structure ClsAt (h:aq)(C:ak)(bm:ba):Prop where
 ex:∃nm q N bs hdct sn sub ab col dd k0 k1 k2 k3 k5 newId,h.get? C=some (excClassObj nm q C N bs bm hdct sn sub ab col dd k0 k1 k2 k3 k5 newId)
def PD{K:au}(X:K.In h)(e:mroIn K C=some bm):ClsAt h C bm:=by
 unfold mroIn at e;split at e
 ·rename_i dd cd j t;split at e
  ·rename_i z bm' k0 k1 k2 k3 n k5 g hs;split at e
   ·rename_i hc
    cases e
    obtain⟨rfl,d⟩:=hc;obtain⟨nm,bs,m,ns,q,p,sn,sub,ab,col,k⟩:=cd;dsimp only at g d;subst g d;have f:j=#[k0,k1,k2,k3,some<|.builtin n,k5]:=by
     obtain⟨l⟩:=j;simp only at hs;rw[hs]
    subst f;exact⟨nm,q,ns,bs,p,sn,sub,ab,col,dd,k0,k1,k2,k3,k5,n,X _ _ t⟩
   ·cases e
  ·cases e
 ·cases e
abbrev unD (i:Nat)(D:Ends):Ends:=⟨λσ H=>D.nx (σ.set i none) H,D.rt,λσ H=>D.bk (σ.set i none) H,λσ H=>D.ct (σ.set i none) H⟩
section
variable {X:Cx}{pins pins':bo}{xe':af->aC->Prop}{σ:L2.St}{H:Hp}{s':aC}{e C Dc:ak}{bm bmD:ba}{x n:Str}{i:Nat}{De:Ends}{b0:aF}{suite:List aF}{np hp:Pos}
def EK{f:Flow}(hN:X.N.Nodup)(hi:X.N[i]?=some n)(hlo:X.env.scope.names.lookup n=some .local)(ok:X.Ok)(f0:Fr0 X e)(h:SP (X.hand (X.pn++pins) e oe) [] (unD i De) f s2) :
  wpAny (model X.prog X.w) X.A (do bindName X.env n .none;unbindBehindTheSuite X.env n pos) (λ_ s3=>SP X pins De f s3) X.xe s2:=by
 have m:∀{d:L2.St} {H':Hp},Inv (X.hand (X.pn++pins) e oe) [] d H' s2->(∀s3,Inv X pins (d.set i none) H' s3->SP X pins De f s3)->wpAny (model X.prog X.w) X.A (do bindName X.env n .none;unbindBehindTheSuite X.env n pos) (λ_ s3=>SP X pins De f s3) X.xe s2:=λ{d H'} J k=>by
  have J:=J.WQ ok f0;have j:i<d.length:=by rw[J.len];exact(aJ.mp hi).1
  refine aG<|wpAny_bindName<|u9 (v:=.non) J hN hi (.inl hlo) rfl (λs3 g=>?_)<|.inr hlo;unfold unbindBehindTheSuite;refine wpAny_onRaise (Lx (v:=.non) g hN hi hlo (br j) λp t=>k p ?_)
  rwa [List.set_set]at t
 cases f with
 | next=>obtain⟨d,H',J,q⟩:=h;exact m J λs3 g=>⟨_,_,g,q⟩
 | brk=>obtain⟨d,H',J,q⟩:=h;exact m J λs3 g=>⟨_,_,g,q⟩
 | cont=>obtain⟨d,H',J,q⟩:=h;exact m J λs3 g=>⟨_,_,g,q⟩
 | ret u=>obtain⟨v,d,H',J,r,q⟩:=h;exact m J λs3 g=>⟨v,_,_,g,r,q⟩
def QT(hst:X.stack=X.env::X.outer)(hf:X.env.frame=some X.env.locals)(hex:X.ex=[])(hN:X.N.Nodup)(hi:X.N[i]?=some n)(hlo:X.env.scope.names.lookup n=some .local)(hg:Gl X x)(hm:X.mg x=some (.ref Dc))(mD:mroIn X.K Dc=some bmD)(hbD:bmD.contains (.type "BaseException")=true)
  (I:Inv (X.AU (X.pn++pins) xe') pins' σ H s') (R:zS (X.AU (X.pn++pins) xe') H e (.ref C) s') (mC:mroIn X.K C=some bm) (hCD:(Value.ref C::bm).contains (.ref Dc)=true)
  (k:∀oe s6,XO C oe->H e=none->Inv (X.hand (X.pn++pins) e oe) [] (σ.set i<|some<|.ref e) (upd H e<|.frz oe xu) s6->wpAny (model X.prog X.w) (X.A.mark<|some<|.ref e) (execs (b0::suite) X.env) (SP (X.hand (X.pn++pins) e oe) []<|unD i De) (λ_ _=>False) s6)
  (ok:X.Ok) (hdb:(x == ("__debug__" : Str))=false) :
  wpAny (model X.prog X.w) X.A (noteFrame (.ref e) X.env) (λ_ s2=>wpAny (model X.prog X.w) X.A (setFlight (.ref e) none) (λ_ s3=>wpAny (model X.prog X.w) X.A (handleBy (.ref e) X.env [.ExceptHandler (some<|.Name x np) (some n) (b0::suite) hp]) (SP X pins De) X.xe s3) X.xe s2) X.xe s':=by
 refine LX I hst hf R λh4 B a0 g k1 m c1 c2 c3 Z=>?_;refine cY (j_.any (e:=e) (j_.flight _ _) (wpAny_landsW (Q:=λ_ d=>∃h',d={ s' with heap:=h' }/\Heap.FlyingW B (X.env::X.outer) e (.ref C) a0 h'/\h4.UpToSlots h') (E:=λ_ _=>False) g λh' F t=>⟨h',rfl,F,t⟩) Z) (λ_ d z=>?_) λ_ _ z=>z.1.elim;obtain⟨⟨h5,rfl,G,j⟩,L⟩:=z;obtain⟨_,_,V,W,I5⟩:=Bm I hex G k1 (m.trans j) c1 c2 c3 L;refine wpAny_handleBy_cons (codeAny_handlers_test<|xK (X:=X.hand (X.pn++pins) e V) I5 hg hm ?_ hdb) (by intro q;cases q);obtain⟨O,_⟩:=I5.hok e _ j3;obtain⟨_,_,_,_,_,_,_,_,_,_,_,_,_,_,_,_,hC⟩:=(PD I5.Aw mC).ex;obtain⟨_,_,_,_,_,_,_,_,_,_,_,_,_,_,_,_,hD⟩:=(PD I5.Aw mD).ex;refine Ba hC hD O W.cls hbD ?_;rw[hCD];refine codeAny_handlers_suite_as ?_;refine cY (j_.any (e:=e) (j_.flight _ _) (lands_againW (Q:=λ_ d=>∃h',d={ s' with heap:=h' }/\Heap.FlyingW B (X.env::X.outer) e (.ref C) a0 h'/\h5.UpToSlots h') (E:=λ_ _=>False) G λh' F t=>⟨h',rfl,F,t⟩) L) (λ_ d z=>?_) λ_ _ z=>z.1.elim;obtain⟨⟨h6,rfl,M,p⟩,T⟩:=z;obtain⟨f0,n6,J,P,I6⟩:=Bm I hex M k1 ((m.trans j).trans p) c1 c2 c3 T;refine u9 (X:=X.hand (X.pn++pins) e J) (v:=.ref e) I6 hN hi (.inl hlo) rfl (λs7 Y=>?_)<|.inr hlo;exact cY (k J s7 P n6 Y) (λf s8 U=>EK hN hi hlo ok f0 U) λ_ _ z=>z.elim
end
open PySem.W in
structure XCls (K:au)(C:ak):Prop where
 ga:findIn K (.ref C) "__getattribute__" = some (some<|.builtin "BaseException.__getattribute__")
 gt:findIn K (.ref C) "__getattr__" = some none
 fc:findObj K C none "__class__" = some (.bind (.builtin "getset_descriptor.__get__")<|.builtin "object.__class__")
 ob:PySem.W.mroIn K C (.type "object")=some true
 bs:subIn K (.ref C) (.type "BaseException")=some true
section
open PySem.W
variable {K:au}{C a:ak}{ox:Obj}{prog:aj}{w:ah}{A:aA}{E:af->aC->Prop}{h:aq}{g:Array GenState}{d:Drawn}{t:Nat}{os:OsState}
def Qv{Q:Fin->aC->Prop}(x:XCls K C)(X:K.In h)(I:PySem.W.InstAt h a ox C none)(hq:Q (.done<|.ret<|.ref C) ⟨h,g,d,t,os⟩) :
  wpAny (model prog w) A (Builtin.«object.__getattribute__» ⟨[.ref a,.str "__class__" tk],[]⟩) Q E ⟨h,g,d,t,os⟩:=by
 have f:=I.type (M:=model prog w);have j:=looks_find (M:=model prog w) X I x.fc;unfold Builtin.«object.__getattribute__»
 repeat (first|with_reducible refine aG (ju ?_)|with_reducible refine ju ?_|lk)
 refine class_get X I x.ob ?_
 repeat lk
 exact hq
def QW{Q:Unit->aC->Prop}(x:XCls K C)(X:K.In h)(I:PySem.W.InstAt h a ox C none)(hq:Q Unit.unit ⟨h,g,d,t,os⟩):wpAny M A (checkBuiltinCall "BaseException.__getattribute__" ⟨[.ref a,nv],[]⟩) Q E ⟨h,g,d,t,os⟩:=by
 have p:builtinKind "BaseException.__getattribute__" = some .slot:=by decide +kernel
 have hs:splitId "BaseException.__getattribute__" = some ("BaseException", "__getattribute__"):=by decide +kernel
 have m:Looks M h (isInstance (.ref a)<|.type "BaseException") true:=(I.type (M:=M)).andThen<|looks_subIn X x.bs;have k:=F.args_bexc_ga (.ref a) nv;dsimp[checkBuiltinCall,p,hs];refine aG<|m.at ?_;show wpAny M A (match Manifest.signature? "BaseException.__getattribute__" with
  | some f=>Bind.checkArgs "BaseException.__getattribute__" f { pos:=[Value.ref a,nv]}
  | x=>pure Unit.unit) Q E _
 cases j:Manifest.signature? "BaseException.__getattribute__" with
 | none=>exact aN hq
 | some f=>
  dsimp[argsOk,j]at k;have h2:Bind.checkArgs "BaseException.__getattribute__" f ⟨[.ref a,nv],[]⟩=pure Unit.unit:=k;show wpAny M A (Bind.checkArgs "BaseException.__getattribute__" f ⟨[.ref a,nv],[]⟩) Q E _;rw[h2];exact aN hq
def RH(self:af):bindSpecial (.builtin "BaseException.__getattribute__") self=pure (.builtin "BaseException.__getattribute__",[self]):=by
 have h1:withoutEnding? "BaseException.__getattribute__" "#opaque" = none:=by decide +kernel
 have h2:withoutEnding? "BaseException.__getattribute__" "#data" = none:=by decide +kernel
 have d:builtinKind "BaseException.__getattribute__" = some .slot:=by decide +kernel
 dsimp[bindSpecial,typeOf,builtinType,h1,h2,d];rfl
def aa2{Q:af->aC->Prop}(x:XCls K C)(X:K.In h)(I:PySem.W.InstAt h a ox C none)(hq:Q (.ref C) ⟨h,g,d,t,os⟩):wpAny (model prog w) A (getAttrBy (.ref a) (.str "__class__" tk) false) Q E ⟨h,g,d,t,os⟩:=by
 have f:=I.type (M:=model prog w);have j:=looks_findIn (M:=model prog w) X x.ga;have L2:=looks_findIn (M:=model prog w) X x.gt;unfold getAttrBy;refine cC<|aG<|f.at<|aG<|j.at ?_;show wpAny _ _ (if (onTheHeap (Value.ref C) && Value.builtin "BaseException.__getattribute__" == Value.builtin "object.__getattribute__")=true then _ else getAttrByItsOwn (.ref a) (.str "__class__" tk) (.ref C) (.builtin "BaseException.__getattribute__") false false) _ _ _;have ne:(Value.builtin "BaseException.__getattribute__" == Value.builtin "object.__getattribute__")=false:=by decide +kernel
 rw[ne,jy,aQ bF];unfold getAttrByItsOwn hookBefore;rw[aS<|show onTheHeap (Value.ref C)=true from rfl];refine aG<|L2.at<|aG<|gp<|cC ?_;unfold callGetattribute boundAndCalled
 skip
 rw[RH,pure_bind];refine ju<|codeAny_call_builtin ∅ F.entry_bexc_ga (QW x X I<|Qv x X I ?_);exact aN hq
def Na{Q:bd->aC->Prop}(x:XCls K C)(X:K.In h)(I:PySem.W.InstAt h a ox C none)(hq:Q (some<|.ref C) ⟨h,g,d,t+1,os⟩):wpAny (model prog w) A (getAttr? (.ref a) "__class__") Q E ⟨h,g,d,t,os⟩:=by
 unfold getAttr? getAttrBy?;refine aG<|wpAny_mkText<|aG<|gp<|aa2 x X I ?_;exact aN hq
abbrev XIn (C a:ak):aq->Prop:=λh=>∃ox,PySem.W.InstAt h a ox C none
def Nl(x:XCls K C)(hc:(clsIn K C).isSome=true):KitX K (.ref a) (.ref C) (XIn C a) where
 ty:=λ_ _ _ ⟨_,I⟩=>I.type
 it:=λ_ _ X _=>by
  unfold clsIn at hc;split at hc
  ·rename_i f;intro m t p s' k q;unfold isType loadHead;exact aG (wpAny_loadPart (k _ _<|X _ _ f)<|aN q)
  ·cases hc
 ne:=λh g dd j n G X d=>by
  refine Bool.eq_false_iff.mpr λq=>?_;have e:C=g:=Value.ref.inj<|ja.mp q;subst e;unfold clsIn at hc;split at hc
  ·rename_i f;have z:=(X _ _ f).symm.trans d
   cases z
  ·cases hc
 ca:=λ{_ _ _ _ _ s} X ⟨_,I⟩ k=>by
  obtain⟨L,B,dd,F,J⟩:=s;exact Na x X I k
end
section
variable {X:Cx}{C:ak}{pins:bo}{σ:L2.St}{H:Hp}{s:aC}
def Hq{A:aA}{E:af->aC->Prop}{Q:af->aC->Prop}{a:ak}{c:af}(x:XCls X.K C)(hc:(PySem.W.clsIn X.K C).isSome=true)(I:Inv X pins σ H s)(ha:H a=some (.frz oe xu))(hx:XO C oe)(e:PySem.W.kitOne X.K (.ref C) c=some b)(h:∀tk,Q (.bool b) { s with toks:=tk }) :
  wpAny (model X.prog X.w) A (call (.builtin "isinstance") [.ref a,c]) Q E s:=by
 obtain⟨f,_⟩:=I.hok a _ ha;obtain⟨g,j,vs,d,k⟩:=hx;refine cF (Nl x hc) I.Aw ⟨oe,f,g,?_,?_⟩ e (λz=>nomatch z) h
 ·unfold PySem.W.notCls;rw[d]
 ·rw[j];trivial
end
end L2
namespace L2
open PySem PySem.Spec PyProof.Rows
def AM:entryFor table "proto.unchain" = some Builtin.«proto.unchain»:=entryFor_of_fast<|by kernel_rfl
section
variable {prog:aj}{w:ah}{A:aA}{E:af->aC->Prop}{s:aC}{e n:ak}{oe on:Obj}{vs ns:Array af}
def Ho{α:Type}{Q:α->aC->Prop}(hh:A.handled=some (.ref e))(he:s.heap.get? e=some oe)(hd:oe.data=.fields vs)(h2:vs[2]?=some .none)(hn:s.heap.get? n=some on)(nd:on.data=.fields ns)(n2:2<ns.size)(ne:e≠n)
  (h:E (.ref n) { s with heap:=s.heap.update n<|Obj.mapFields (·.setIfInBounds 2 (.ref e))}):wpAny (model prog w) A (raiseNew (.ref n):Sem α) Q E s:=by
 unfold raiseNew;refine aG<|wpAny_handled ?_;rw[hh];show wpAny _ _ (if (Value.ref e != Value.ref n)=true then _ else _) _ _ _;rw[aS<|by simp[ne]];refine aG<|cC<|wpAny_runValue<|eY AM ?_;unfold Builtin.«proto.unchain»;refine aG<|fC he hd h2 ?_;rw[aS<|show(Value.none == Value.none)=true from rfl];refine aN ?_
 skip
 exact aG<|gR hn nd n2<|wpAny_throw h
end
abbrev GL (A:aA):aA:={ A with handled:=none }
abbrev Bx (k:Nat)(A:aA):Prop:=Room k<|GL A
def K5{k:Nat}{A:aA}(r:Room j A)(hk:k<=j):Bx k (A.mark h):=⟨rfl,(r.mono hk).dp,(r.mono hk).un,r.gs⟩
structure Hnd (A:aA)(H:Hp)(e:ak)(oe:Obj)(C:ak):Prop where
 hh:A.handled=some (.ref e)
 h0:H e=some (.frz oe xu)
 xo:XO C oe
structure FnOkH (P:aj)(w:ah)(K:au)(mg:Str->bd)(base:aq)(k:Nat)(f:ak)(fd:FuncData)(ps:ar)(sp:Sp):Prop where
 len:∀vs H Q E,sp vs H Q E->vs.length=ps.length
 run:∀(A:aA) (outer:List Env) (s:aC) (H:Hp) (args:Args) (us:ba) (vs:List V) (Q:VK) (e:ak) (oe:Obj) (C:ak),Bx k A->Hnd A H e oe C->Env0 P w K mg base A outer s H->BindsTo s fd args (ps.zip us)->Vals vs us->sp vs H Q E0 ->
  codeAny (model P w) A (.call (.ref f) args) (CR ur outer P w H s Q E0) s
abbrev cxH (P:aj)(w:ah)(K:au)(mg:Str->bd)(base:aq)(N:ar)(qual:Str)(scope:Scope)(f:ak)(cd:af)(A:aA)(outer:List Env)(s:aC)(H:Hp):Cx:=
 { xw ur P w K mg base N qual scope f cd A outer s H E0 with calm:=false,xe:=λ_ _=>False }
def G0{P:aj}{w:ah}{K:au}{mg:Str->bd}{base:aq}{N:ar}{f:ak}{A:aA}{outer:List Env}{H H':Hp}
  (I:Inv (xw ur P w K mg base N qual scope f cd (GL A) outer s H E0) pins σ H' s1):Inv (cxH P w K mg base N qual scope f cd A outer s H) pins σ H' s1:=
 ⟨⟨I.ok.mod,I.ok.kind,I.ok.glob,I.ok.blt,I.ok.above,I.ok.inj,I.ok.has,I.ok.cab,λh=>(by cases h),I.ok.frames,I.ok.stk,I.ok.exf,I.ok.bs,I.ok.bsz,I.ok.noex,I.ok.exfs,I.ok.tZ,I.ok.frf⟩,I.os,I.bare,I.base,I.loc,I.cell,I.free,I.freeC,I.pin,I.hok,I.len⟩
def Y_{P:aj}{w:ah}{K:au}{mg:Str->bd}{base:aq}{k:Nat}{x:Str}{st:aF}{f:ak}{N ps:ar}{sp:Sp}(F:Fun K x qual st f fd)(S:FnScope N ps<|jN st)(len:∀vs H Q E,sp vs H Q E->vs.length=ps.length)
  (hb:∀(cdv:af) (A:aA) (outer:List Env) (s:aC) (H:Hp) (vs:List V) (Q:VK) (e:ak) (oe:Obj) (C:ak),Bx k (A.deeper<|envOfC qual (jN st) s.heap.objs.size f cdv)->Hnd A H e oe C->sp vs H Q E0 ->
   ∃t,A4 (cxH P w K mg base N qual (jN st) f cdv A outer s H) (nN st) t/\t { nx:=λ_ H'=>Q .non H',rt:=Q } (start N vs) H):FnOkH P w K mg base (k+1) f fd ps sp:=by
 obtain⟨oc,od,kV,Z,pm,an,cdv,ct,osl,rfl,lk,L⟩:=F.ex;refine⟨len,λA outer s H U us vs Q e oe C M hx e0 G r j=>?_⟩;have hl:=len _ _ _ _ j;have T:K.In s.heap:=e0.mod.kin.keeps λb o z=>(e0.bs b o z).1;have B:s.heap.NoLimit:=e0.mod.nolimit.keeps λb o z=>(e0.bs b o z).1;have g:∀y∈ps.zip us,(jN st).names.lookup y.1=some .local\/((jN st).names.lookup y.1=some .cell/\((cellsFrom (s.heap.objs.size+1) (jN st).names []).lookup y.1).isSome=true):=λy hy=>
  (S.par y.1 (iL hy).1).imp (λq=>q) λq=>⟨q,ez _ _ _<|.inl q⟩
 refine codeAny_call_function (show A.depth<_ from M.depth) (T _ _ lk) rfl S.co S.gen rfl (PySem.W.codeRec_of T L)<|G _ _ _ _ ?_;refine wpAny_newFunctionEnv_cells S.kind g λenv he Y O=>?_;subst he;refine⟨B.keeps O.toInCall.keep,codeAny_func ?_⟩;obtain⟨t,ht,hq⟩:=hb cdv A outer s H vs Q e oe C (Room.deeper M _) hx j;have e1:Env0 P w K mg base (GL A) outer s H:=⟨e0.frames,e0.mod,e0.bs,e0.bsz,e0.tZ,e0.frf,e0.hok,e0.bare⟩;have I:=G0<|Bs (CX:=ur) (E:=E0) (qual:=qual) (f:=f) (cd:=cdv) S M.hd e1 hl r O;refine cY (ht [] Y (start N vs) H _ I hq) (λfl s' hs=>?_) λ_ _ z=>z.elim;have m:∀{d:L2.St} {H':Hp} {v:V} {u:af},Inv (cxH P w K mg base N qual (jN st) f cdv A outer s H) [] d H' s'->RelV v u->Q v H'->CE outer P w H s Q u s':=λ{d H' v u} J p q=>⟨v,H',J.os,J.bare,J.base,J.hok,p,q⟩
 cases fl with
 | ret u=>obtain⟨v,d,H',J,p,q⟩:=hs;exact m J p q
 | next=>obtain⟨d,H',J,q⟩:=hs;exact m (v:=V.non) (u:=Value.none) J rfl q
 | brk=>obtain⟨_,_,_,q⟩:=hs;exact q.elim
 | cont=>obtain⟨_,_,_,q⟩:=hs;exact q.elim
abbrev KnH (P:aj)(w:ah)(K:au)(mg:Str->bd)(base:aq)(k:Nat)(x:Str)(ps:ar)(sp:Sp):Prop:=
 ∃(f:ak) (fd:FuncData),FnOkH P w K mg base k f fd ps sp/\mg x=some (.ref f)/\PySem.W.keepIn K (.ref f)=true/\Binds K fd ps []
def Xb{X:Cx}{k:Nat}{x:Str}{sp:Sp}{a:aE}{t:TA}{p:Pos}{e:ak}(G:KnH X.prog X.w X.K X.mg X.base k x ps sp)(hr:Bx k X.A)(hh:X.A.handled=some (.ref e))(h0:X.H₀ e=some (.frz oe xu))(xo:XO C oe)(ha:PA X (a::es) t)(hg:Gl X x<|>ε)
  (hdb:(x == ("__debug__" : Str))=false<|>δ) (hs:starEach (a::es) X.env=(false,eval a X.env)::starEach es X.env<|>ε) (hplain:((backTo pos<|starEach es X.env).any (·.1)=false)<|>ε) :
  PE X (.Call (.Name x p) (a::es) [] pos) (Pu sp [] E0 t):=by
 obtain⟨f,fd,F,g,m,hb⟩:=G;gn_on;refine gE<|xK I hg g ?_ hdb;refine PySem.W.callWith_K (h₀:=X.base) I.ok.mod.kin m (mR (ha pos pins s σ H _ I h) λus d ⟨vs,H1,I1,r,q⟩=>⟨I1.Aw,?_⟩) hs hplain;have q:sp (vs++[]) H1 Q E0:=q;rw[bO]at q;have j:us.length=ps.length:=by rw[<- r.length];exact F.len _ _ _ _ q
 refine ju (iR (F.run X.A X.stack d H1 ⟨us,[]⟩ us vs Q e oe C hr ⟨hh,I1.base.frzs e oe xu h0,xo⟩ I1.Zq (by have:=hb d us I1.Aw (by rw[bO];exact j);rwa [bO]at this) r q) λr s' hq=>?_)
 cases r with
 | error e=>exact hq.elim
 | ok fl=>
  cases fl with
  | ret u=>exact I1.after hq
  | next=>exact hq.elim
  | brk=>exact hq.elim
  | cont=>exact hq.elim
end L2
namespace L2
open PySem PySem.Spec PyProof.Rows PySem.SeqAt
def YU:bootBuiltins "sum" = some (.builtin "sum"):=by decide +kernel
section
variable {X:Cx}
def Lv(hc:X.calm=true):j7 X (.builtin "sum") (λxs H Q=>∃(p:ak) (ns:ag),xs=[.ref p]/\pO X.K H p (ns.map V.int)/\Q (.int ns.sum) H):=by
 fin2;obtain⟨p,ns,rfl,hq,q⟩:=h;kcj_m
 cases rx
 obtain⟨k,t,pl,z⟩:=I.list hq;have g:=intsAre_of t;have f:=pl.isList;obtain⟨ys,e⟩:=g.allInts.items;have d:ns=ys.toList.map (·.1):=by
  rw[<- g.numsOf,<- nums_intItems,<- e]
 rw[e]at f;refine sum_intListG (I.ok.hd hc) f λh' B m j=>?_;refine⟨.int _,H,I.kept j,⟨m,rfl⟩,?_⟩;rw[preSum_eq,List.take_of_length_le<|by simp,<- d];exact q
end
end L2
namespace Sx
open PySem PyProof.Rows
structure Ord where
 lt:Nat->Nat->Bool
 L8:∀i,lt i i=false
 tr:∀i j k,lt i j=true->lt j k=true->lt i k=true
 neg:∀i j k,lt i k=true->lt i j=true\/lt j k=true
abbrev P (o:Ord)(i j:Nat):Prop:=o.lt i j=true\/(o.lt j i=false/\i<j)
def Ord.abG(o:Ord)(h:o.lt i j=true):o.lt j i=false:=by
 cases e:o.lt j i with
 | false=>rfl
 | true=>have:=o.tr _ _ _ h e;rw[o.L8]at this;cases this
def P.L8(h:P o i i):False:=by
 rcases h with h|⟨_,h⟩
 ·rw[o.L8]at h;cases h
 ·lia
def P.trans{k:Nat}(a:P o i j)(b:P o j k):P o i k:=by
 rcases a with a|⟨a,f⟩
 ·rcases b with b|⟨b,d⟩
  ·exact .inl (o.tr _ _ _ a b)
  ·rcases o.neg i k j a with z|z
   ·exact .inl z
   ·rw[b]at z;cases z
 ·rcases b with b|⟨b,d⟩
  ·rcases o.neg j i k b with z|z
   ·rw[a]at z;cases z
   ·exact .inl z
  ·refine .inr ⟨?_,()⟩
   cases e:o.lt k i with
   | false=>rfl
   | true=>
    rcases o.neg k j i e with z|z
    ·rw[b]at z;cases z
    ·rw[a]at z;cases z
def P.of_lt{o:Ord}(h:o.lt i j=true):P o i j:=.inl h
def P.J1{o:Ord}(h:o.lt j i=false)(hij:i<j):P o i j:=.inr ⟨h,hij⟩
def P.ge{o:Ord}(h:P o i j):o.lt j i=false:=by
 rcases h with h|⟨h,_⟩
 ·exact o.abG h
 ·exact h
abbrev So (o:Ord)(g:Nat->Nat)(a b:Nat):Prop:=∀i j,a<=i->i<j->j<b->P o (g i) (g j)
abbrev Cl (g:Nat->Nat)(a b:Nat):Prop:=∀i,a<=i->i<b->a<=g i/\g i<b
abbrev rev (g:Nat->Nat)(i j:Nat):Nat->Nat:=λk=>if i<=k/\k<j then g (i+j-1-k)else g k
abbrev mv (g:Nat->Nat)(src dst:Nat):Nat->Nat:=λk=>if k=dst then g src else if dst<k/\k<=src then g (k-1)else g k
def zh{g:Nat->Nat}{k:Nat}(h:i<=k)(h2:k<j):rev g i j k=g (i+j-1-k):=aS ⟨h,h2⟩
def qp{g:Nat->Nat}{k:Nat}(h:k<i\/j<=k):rev g i j k=g k:=aQ ()
def Rj{g:Nat->Nat}{d:Nat}:mv g s d d=g s:=aS rfl
def E7{g:Nat->Nat}{d k:Nat}(h:d<k)(h2:k<=s):mv g s d k=g (k-1):=by
 unfold mv;rw[aQ (),aS ⟨h,h2⟩]
def Dk{g:Nat->Nat}{d k:Nat}(hd:d<=s)(h:k<d\/s<k):mv g s d k=g k:=by
 unfold mv;rw[aQ (),aQ ()]
section
variable {prog:aj}{w:ah}{A:aA}{E:af->aC->Prop}{s:aC}{o:Ord}{N:Nat}{f:Nat->Keyed}{kd:SortKind}{g:Nat->Nat}{p:Array (Nat×Nat×Nat)}{st:SortSt}
abbrev Rq (prog:aj)(w:ah)(A:aA)(s:aC)(o:Ord)(N:Nat)(f:Nat->Keyed)(kd:SortKind):Prop:=
 ∀i j,i<N->j<N->∀(d:af->aC->Prop) (Q:Bool->aC->Prop),Q (o.lt i j) s->wpAny (model prog w) A (keyLt' kd (f i).1 (f j).1) Q d s
structure Sg (N:Nat)(f:Nat->Keyed)(kd:SortKind)(g:Nat->Nat)(p:Array (Nat×Nat×Nat))(st:SortSt):Prop where
 size:(arrOf st).size=N
 get:∀i,i<N->(arrOf st)[i]?=some (f<|g i)
 lt:∀i,i<N->g i<N
 kind:kindOf st=kd
 failed:failedOf st=none
 pend:pendingOf st=p
def Ws(C:Rq prog w A s o N f kd)(hk:kindOf st=kd)(hi:i<N)(hj:j<N){Q:bi->SortSt->Prop}(q:Q (some<|o.lt i j) st):wpS (model prog w) A E s (lt' (f i)<|f j) Q st:=by
 rw[lt'_eq];refine cz<|wpS_get ?_;rw[hk];refine cz<|wpS_lift<|gp<|C i j hi hj _ _ ⟨rfl,?_⟩;exact dB q
def FA{xs:Array Keyed}{i:Nat}{x:Keyed}(e:xs[i]?=some x){Q:Keyed->SortSt->Prop}(q:Q x st):wpS (model prog w) A E s (elem' xs i) Q st:=by
 rw[elem'_eq,e];exact dB q
def xD(C:Rq prog w A s o N f kd)(h:Sg N f kd g p st)(hi:i<N)(hj:j<N){Q:bi->SortSt->Prop}(q:Q (some<|o.lt (g i)<|g j) st):wpS (model prog w) A E s (ltAt' i j) Q st:=by
 rw[ltAt'_eq];refine cz (wpS_get ?_)
 skip
 exact cz<|FA (h.get i hi)<|cz<|FA (h.get j hj)<|Ws C h.kind (h.lt i hi) (h.lt j hj) q
def Sg.arr(h:Sg N f kd g p st){xs:Array Keyed}{g':Nat->Nat}(hs:xs.size=N)(hg:∀i,i<N->xs[i]?=some (f<|g' i))(hl:∀i,i<N->g' i<N):Sg N f kd g' p (setArr st xs):=⟨hs,hg,hl,h.kind,h.failed,h.pend⟩
def yR(h:Sg N f kd g p st)(hj:j<=N){Q:Unit->SortSt->Prop}(q:∀st',Sg N f kd (rev g i j) p st'->Q Unit.unit st'):wpS (model prog w) A E s (reverseSlice' i j) Q st:=by
 rw[reverseSlice'_eq];refine wpS_modify (q _<|h.arr (by rw[mirror_size];exact h.size) (λk d=>?_) λk d=>?_)
 ·rw[getElem?_mirror_all<|by rw[h.size];exact hj];unfold rev;by_cases c:i<=k/\k<j
  ·rw[aS c,aS c];exact h.get _ (by omega)
  ·rw[aQ c,aQ c];exact h.get _ d
 ·unfold rev;by_cases c:i<=k/\k<j
  ·rw[aS c];exact h.lt _ (by omega)
  ·rw[aQ c];exact h.lt _ d
def XJ(h:Sg N f kd g p st){a:Nat}(ha:a<N)(hb:b<=a){Q:Unit->SortSt->Prop}(q:∀st',Sg N f kd (mv g a b) p st'->Q Unit.unit st'):wpS (model prog w) A E s (moveDown' a b) Q st:=by
 rw[moveDown'_eq];refine wpS_modify (q _<|h.arr (by rw[bubble_size];exact h.size) (λk d=>?_) λk d=>?_)
 ·rw[getElem?_bubble (by rw[h.size];exact ha) _ (),show a-(a-b)=b by lia];unfold mv;by_cases c:k=b
  ·rw[aS c,aS c];exact h.get _ ha
  ·rw[aQ c,aQ c];by_cases c2:b<k/\k<=a
   ·rw[aS c2,aS c2];exact h.get _ ()
   ·rw[aQ c2,aQ c2];exact h.get _ d
 ·unfold mv;by_cases c:k=b
  ·rw[aS c];exact h.lt _ ha
  ·rw[aQ c];by_cases c2:b<k/\k<=a
   ·rw[aS c2];exact h.lt _ ()
   ·rw[aQ c2];exact h.lt _ d
structure Rn (o:Ord)(g0 g:Nat->Nat)(a b:Nat):Prop where
 out:∀i,i<a\/b<=i->g i=g0 i
 cl:Cl g a b
 so:So o g a b
def V3{g0:Nat->Nat}{lo k l:Nat}(R:Rn o g0 g lo<|lo+k)(hk:g (lo+k)=lo+k)(hl:l<=k)(h1:∀i,i<l->P o (g<|lo+i) (lo+k))(h2:∀i,l<=i->i<k->P o (lo+k) (g<|lo+i)):Rn o g0 (mv g (lo+k)<|lo+l) lo (lo+(k+1)) where
 out i hi:=by rw[Dk () ()];exact R.out i ()
 cl i a b:=by
  by_cases c:i=lo+l
  ·subst c;rw[Rj,hk];lia
  ·by_cases c2:lo+l<i
   ·rw[E7 c2 ()];have:=R.cl (i-1) () ()
    lia
   ·rw[Dk () ()];have:=R.cl i () ()
    lia
 so i j a b d:=by
  by_cases c:i=lo+l
  ·subst c;rw[Rj,E7 b (),hk];have:=h2 (j-1-lo) () ()
   rwa [show lo+(j-1-lo)=j-1 by lia]at this
  ·by_cases c2:lo+l<i
   ·rw[E7 c2 (),E7 () ()];exact R.so _ _ () () ()
   ·rw[Dk (k:=i) () ()];by_cases c3:j=lo+l
    ·subst c3;rw[Rj,hk];have:=h1 (i-lo) ()
     rwa [show lo+(i-lo)=i by lia]at this
    ·by_cases f:lo+l<j
     ·rw[E7 f ()];exact R.so _ _ () () ()
     ·rw[Dk () ()];exact R.so _ _ () () ()
def V6(C:Rq prog w A s o N f kd){g0:Nat->Nat}{lo n ok:Nat}(h:Sg N f kd g p st)(hn:lo+n<=N)(h1:1<=ok)(hok:ok<=n)(R:Rn o g0 g lo<|lo+ok)(hid:∀i,lo+ok<=i->i<lo+n->g0 i=i)
  {Q:Bool->SortSt->Prop} (q:∀g' st',Sg N f kd g' p st'->Rn o g0 g' lo (lo+n)->Q true st'):wpS (model prog w) A E s (binarySort' lo n ok) Q st:=by
 rw[binarySort'_eq,show max ok 1=ok by lia];refine cz (wpS_mono (gY (I:=λk c st'=>c=(none,Unit.unit)/\∃g',Sg N f kd g' p st'/\Rn o g0 g' lo (lo+min k n))
  (Q:=λc st'=>c=(none,Unit.unit)/\∃g',Sg N f kd g' p st'/\Rn o g0 g' lo (lo+n)) ?step ?fin ?init) ?post)
 case post=>
  rintro c st' ⟨rfl,g',h',j⟩;exact dB<|q g' st' h' j
 case init=>exact⟨rfl,g,h,by rw[show min ok n=ok by lia];exact R⟩
 case fin=>
  rintro c st' ⟨hc,g',h',j⟩;exact⟨hc,g',h',by rwa [show min (max ok n) n=n by lia]at j⟩
 case step=>
  rintro k c st' K O ⟨rfl,g',h',j⟩;rw[show min k n=k by lia]at j;have J:g' (lo+k)=lo+k:=by rw[j.out _ ()];exact hid _ () ()
  refine cz (wpS_mono (gY (I:=λx c z=>z=st'/\∃u v,c=(none,u,v)/\u<=v/\v<=k/\v-u<=k-x /\
    (∀i,i<u->P o (g'<|lo+i) (lo+k))/\(∀i,v<=i->i<k->P o (lo+k) (g'<|lo+i)))
   (Q:=λc z=>z=st'/\∃u v,c=(none,u,v)/\u<=k /\
    (∀i,i<u->P o (g'<|lo+i) (lo+k))/\(∀i,u<=i->i<k->P o (lo+k) (g'<|lo+i))) ?istep ?ifin ?iinit) ?ipost)
  case iinit=>exact⟨rfl,0,k,rfl,(),(),(),λi W=>(),λi h1 h2=>()⟩
  case ifin=>
   rintro c z ⟨rfl,u,v,rfl,F,t,L,low,top⟩;have:u=v:=()
   subst this;exact⟨rfl,u,u,rfl,t,low,top⟩
  case istep=>
   rintro x c z _ M ⟨rfl,u,v,rfl,F,t,L,low,top⟩;dsimp only;by_cases B:u>=v
   ·rw[aS B];have:u=v:=()
    subst this;exact dB ⟨rfl,u,u,rfl,t,low,top⟩
   ·rw[aQ B];have V:(u+v) / 2<k:=()
    have U:=j.cl (lo+(u+v) / 2) () ();refine cz<|xD C h' () () ?_;rw[J]
    cases d:o.lt (lo+k) (g'<|lo+(u+v) / 2)
    case true=>
     dsimp[eZ];refine dB ⟨rfl,u,(u+v) / 2,rfl,(),(),(),low,λi h1 h2=>?_⟩;by_cases c:i=(u+v) / 2
     ·subst c;exact .inl d
     ·exact(P.of_lt d).trans (j.so _ _ () () ())
    case false=>
     dsimp[bK,c6];refine dB ⟨rfl,(u+v) / 2+1,v,rfl,(),(),(),λi h1=>?_,top⟩;have m:=P.J1 d U.2;by_cases c:i=(u+v) / 2
     ·subst c;exact m
     ·exact(j.so _ _ () () ()).trans m
  case ipost=>
   rintro c z ⟨rfl,u,v,rfl,G,low,top⟩;dsimp only;refine cz<|XJ h' () () λT h3=>?_;refine dB ⟨rfl,_,h3,?_⟩;rw[show min (k+1) n=k+1 by lia];exact V3 j J G low top
end
meta abbrev As:=Option (bj)×Nat
meta abbrev Ds:=Option (bj)×Nat×Nat
abbrev O6 (lo a nrem:Nat):StateT SortSt Sem As:=
 forIn [a:nrem] ((none,a):As) λ_ c=>do
  let x <- ltAt' (lo+c.2) (lo+c.2-1)
  match x with
  | some b=>if b=true then pure (ForInStep.done (none,c.2))else pure (ForInStep.yield (none,c.2+1))
  | _=>pure<|ForInStep.done (some none,c.2)
abbrev ED (lo n nrem:Nat):StateT SortSt Sem (bj):=do
 reverseSlice' lo (lo+n)
 let c <- O6 lo n nrem
 match c.1 with
 | some r=>pure r
 | none=>pure<|some c.2
abbrev Us (lo n nrem:Nat):StateT SortSt Sem Ds:=
 forIn [n:nrem] ((none,n,0):Ds) λ_ c=>do
  let x <- ltAt' (lo+c.2.1) (lo+c.2.1-1)
  match x with
  | some b=>
   if b=true then
    if c.2.2>0 then do
     reverseSlice' (lo+c.2.1-(c.2.2+1)) (lo+c.2.1)
     pure (ForInStep.yield (none,c.2.1+1,0))
    else pure (ForInStep.yield (none,c.2.1+1,0))
   else do
    let x <- ltAt' (lo+c.2.1-1) (lo+c.2.1)
    match x with
    | some b=>
     if b=true then pure (ForInStep.done (none,c.2.1,c.2.2))
     else pure (ForInStep.yield (none,c.2.1+1,c.2.2+1))
    | _=>pure<|ForInStep.done (some none,c.2.1,c.2.2)
  | _=>pure<|ForInStep.done (some none,c.2.1,c.2.2)
abbrev Qg (lo n nrem:Nat):StateT SortSt Sem (bj):=do
 liftM (rule "list.sort.descending-run")
 let c <- Us lo (n+1) nrem
 match c.1 with
 | some r=>pure r
 | none=>
  if c.2.2>0 then do
   reverseSlice' (lo+c.2.1-(c.2.2+1)) (lo+c.2.1)
   ED lo c.2.1 nrem
  else ED lo c.2.1 nrem
def count_eq(lo nrem:Nat):countRun' lo nrem=(do
  let c <- O6 lo 1 nrem
  match c.1 with
  | some r=>pure r
  | none=>
   if (c.2 == nrem)=true then pure (some c.2)
   else if c.2>1 then do
    let x <- ltAt' lo (lo+c.2-1)
    match x with
    | some b=>if b=true then pure (some c.2)else do
      reverseSlice' lo (lo+c.2)
      Qg lo c.2 nrem
    | _=>pure none
   else Qg lo c.2 nrem):=by
 rw[countRun'_eq];dsimp only;unfold Qg ED Us O6;congr 1
 funext c
 obtain⟨r,n⟩:=c
 cases r with
 | some r=>rfl
 | none=>
  dsimp only;split
  ·rfl
  ·split
   ·congr 1
    funext x
    cases x with
    | none=>rfl
    | some b=>
     dsimp only;split
     ·rfl
     ·congr 1
      funext _r
      congr 1
      funext _u
      congr 1;congr 1
      funext s2
      obtain⟨r2,g,j⟩:=s2
      cases r2 with
      | some r2=>rfl
      | none=>
       dsimp only;split
       ·congr 1
        funext _v
        congr 1
        funext _w
        congr 1
        funext s3
        obtain⟨d,f⟩:=s3
        cases d<;>rfl
       ·congr 1
        funext _w
        congr 1
        funext s3
        obtain⟨d,f⟩:=s3
        cases d<;>rfl
   ·congr 1
    funext _u
    congr 1;congr 1
    funext s2
    obtain⟨r2,g,j⟩:=s2
    cases r2 with
    | some r2=>rfl
    | none=>
     dsimp only;split
     ·congr 1
      funext _v
      congr 1
      funext _w
      congr 1
      funext s3
      obtain⟨d,f⟩:=s3
      cases d<;>rfl
     ·congr 1
      funext _w
      congr 1
      funext s3
      obtain⟨d,f⟩:=s3
      cases d<;>rfl
section
variable {prog:aj}{w:ah}{A:aA}{E:af->aC->Prop}{s:aC}{o:Ord}{N:Nat}{f:Nat->Keyed}{kd:SortKind}{g g0:Nat->Nat}{p:Array (Nat×Nat×Nat)}{st:SortSt}
def Rn.snoc{a:Nat}(R:Rn o g0 g a b)(hab:a<b)(hb:g b=b)(h:o.lt b (g<|b-1)=false):Rn o g0 g a (b+1) where
 out i hi:=R.out i ()
 cl i h1 h2:=by
  by_cases c:i=b
  ·subst c;lia
  ·have:=R.cl i h1 ();lia
 so i j h1 h2 h3:=by
  by_cases c:j=b
  ·subst c;rw[hb];have l:=R.cl (j-1) () ();have d:P o (g<|j-1) j:=P.J1 h l.2;by_cases c2:i=j-1
   ·subst c2;exact d
   ·exact(R.so i (j-1) h1 () ()).trans d
  ·exact R.so i j h1 h2 ()
def Ph(C:Rq prog w A s o N f kd){lo a:Nat}(h:Sg N f kd g p st)(hn:lo+nrem<=N)(h1:1<=a)(han:a<=nrem)(R:Rn o g0 g lo<|lo+a)(hid:∀i,lo+a<=i->i<lo+nrem->g0 i=i)
  {Q:As->SortSt->Prop} (q:∀n,a<=n->n<=nrem->Rn o g0 g lo (lo+n)->(n=nrem\/o.lt (lo+n) (g<|lo+n-1)=true)->Q (none,n) st):wpS (model prog w) A E s (O6 lo a nrem) Q st:=by
 unfold O6;refine gY (I:=λx c d=>d=st/\c=(none,x)/\Rn o g0 g lo (lo+x)) ?step ?fin ⟨rfl,rfl,R⟩
 case fin=>
  rintro c d ⟨rfl,rfl,j⟩;rw[show max a nrem=nrem by lia]at j ⊢;exact q nrem han (aL _) j<|.inl rfl
 case step=>
  rintro x c d k z ⟨rfl,rfl,j⟩;dsimp only;have t:g (lo+x)=lo+x:=by rw[j.out _ ()];exact hid _ () ()
  refine cz<|xD C h () () ?_;rw[t]
  cases m:o.lt (lo+x) (g<|lo+x-1)
  case true=>
   dsimp[eZ];exact dB<|q x k () j<|.inr m
  case false=>
   dsimp[bK,c6];exact dB ⟨rfl,rfl,j.snoc () t m⟩
structure Dc (o:Ord)(g0 g:Nat->Nat)(a b q:Nat):Prop where
 out:∀i,i<a\/b<=i->g i=g0 i
 cl:Cl g a b
 few:a+(q+1)<=b
 dn:∀i j,a<=i->i<j->j<b->i<b-(q+1)->P o (g j) (g i)
 id:∀i,b-(q+1)<=i->i<b->g i=i
 al:∀i j,b-(q+1)<=i->i<b->b-(q+1)<=j->j<b->o.lt i j=false
def Dc.turn{a q:Nat}(D:Dc o g0 g a b q):(∀i,i<a\/b<=i->rev g (b-(q+1)) b i=g0 i)/\Cl (rev g (b-(q+1)) b) a b/\(∀i j,a<=i->i<j->j<b->P o (rev g (b-(q+1)) b j) (rev g (b-(q+1)) b i))/\(∀i,b-(q+1)<=i->i<b->∃k,rev g (b-(q+1)) b i=k/\b-(q+1)<=k/\k<b):=by
 have few:=D.few;have d:∀i,b-(q+1)<=i->i<b->rev g (b-(q+1)) b i=b-(q+1)+b-1-i:=λi h1 h2=>by
  rw[zh h1 h2];exact D.id _ (by omega)<|by omega
 refine⟨λi f=>?_,λi h1 h2=>?_,λi j h1 h2 h3=>?_,λi h1 h2=>⟨_,d i h1 h2,by omega,by omega⟩⟩
 ·rw[qp<|by omega];exact D.out i f
 ·by_cases c:i<b-(q+1)
  ·rw[qp<|by omega];exact D.cl i h1 h2
  ·rw[d i (by omega) h2];omega
 ·by_cases c:i<b-(q+1)
  ·rw[qp (k:=i)<|by omega];by_cases c2:j<b-(q+1)
   ·rw[qp<|by omega];exact D.dn i j h1 h2 h3 c
   ·rw[d j (by omega) h3];have:=D.dn i (b-(q+1)+b-1-j) h1 (by omega) (by omega) c
    rwa [D.id _ (by omega)<|by omega]at this
  ·rw[d i (by omega)<|by omega,d j (by omega) h3];exact P.J1 (D.al _ _ (by omega) (by omega) (by omega)<|by omega)<|by omega
abbrev Fin (o:Ord)(g0 g:Nat->Nat)(a b:Nat):Prop:=(∀i,i<a\/b<=i->g i=g0 i)/\Cl g a b/\(∀i j,a<=i->i<j->j<b->P o (g j) (g i))
def Dc.aaL{a:Nat}(D:Dc o g0 g a b 0):Fin o g0 g a b:=⟨D.out,D.cl,λi j h1 h2 h3=>D.dn i j h1 h2 h3 ()⟩
def Fin.rn{a:Nat}(D:Fin o g0 g a b):Rn o g0 (rev g a b) a b where
 out i hi:=by rw[qp hi];exact D.1 i hi
 cl i h1 h2:=by
  rw[zh h1 h2];exact D.2.1 _ () ()
 so i j h1 h2 h3:=by
  rw[zh h1 (),zh () h3];exact D.2.2 _ _ () () ()
def Fin.add{a:Nat}(D:Fin o g0 g a b)(hb:g b=b)(hab:a<b)(h:∀i,a<=i->i<b->P o b (g i)):Dc o g0 g a (b+1) 0 where
 out i hi:=D.1 i ()
 cl i h1 h2:=by
  by_cases c:i=b
  ·subst c;lia
  ·have:=D.2.1 i h1 ();lia
 few:=()
 dn i j h1 h2 h3 _:=by
  by_cases c:j=b
  ·subst c;rw[hb];exact h i h1 h2
  ·exact D.2.2 i j h1 h2 ()
 id i h1 h2:=by
  have:i=b:=()
  rw[this,hb]
 al i j h1 h2 h3 h4:=by
  have:i=j:=()
  rw[this];exact o.L8 _
def Jm(C:Rq prog w A s o N f kd){lo n:Nat}(h:Sg N f kd g p st)(hn:lo+nrem<=N)(h1:1<=n)(han:n<=nrem)(D:Fin o g0 g lo<|lo+n)(hid:∀i,lo<=i->i<lo+nrem->g0 i=i)
  {Q:bj->SortSt->Prop} (q:∀m g' st',Sg N f kd g' p st'->1<=m->m<=nrem->Rn o g0 g' lo (lo+m)->Q (some m) st'):wpS (model prog w) A E s (ED lo n nrem) Q st:=by
 unfold ED;refine cz<|yR h () λj h2=>?_;exact cz<|Ph C h2 hn h1 han D.rn (λi a b=>hid i () b) λm k d R _=>dB<|q m _ _ h2 () d R
def Wr(C:Rq prog w A s o N f kd){lo n:Nat}(h:Sg N f kd g p st)(hn:lo+nrem<=N)(h1:1<=n)(han:n<=nrem)(D:Dc o g0 g lo (lo+n) 0)(hid:∀i,lo<=i->i<lo+nrem->g0 i=i)
  {Q:Ds->SortSt->Prop} (q:∀m e g' st',Sg N f kd g' p st'->1<=m->m<=nrem->Dc o g0 g' lo (lo+m) e->Q (none,m,e) st'):wpS (model prog w) A E s (Us lo n nrem) Q st:=by
 unfold Us;refine gY (I:=λx c st'=>∃e g',c=(none,x,e)/\Sg N f kd g' p st'/\Dc o g0 g' lo (lo+x) e) ?step ?fin ⟨0,g,rfl,h,D⟩
 case fin=>
  rintro c st' ⟨e,g',rfl,h',t⟩;rw[show max n nrem=nrem by lia]at t ⊢;exact q nrem e g' st' h' () (aL _) t
 case step=>
  rintro x c st' T L ⟨e,g',rfl,h',t⟩;dsimp only;have few:=t.few;have B:g' (lo+x)=lo+x:=by rw[t.out _ ()];exact hid _ () ()
  have F:g' (lo+x-1)=lo+x-1:=t.id _ () ();refine cz<|xD C h' () () ?_;rw[B,F]
  cases G:o.lt (lo+x) (lo+x-1)
  case true=>
   dsimp[eZ];by_cases K:e>0
   ·rw[aS K];obtain⟨M,V,U,O⟩:=t.turn;refine cz<|yR h' () λW h2=>dB ⟨0,_,rfl,h2,?_⟩;refine Fin.add (b:=lo+x) ⟨M,V,U⟩ (by rw[qp ()];exact B) () λi a b=>?_;by_cases c:lo+x-(e+1)<=i
    ·obtain⟨k,ek,k1,k2⟩:=O i c b;rw[ek]
     rcases o.neg _ k _ G with z|z
     ·exact .inl z
     ·rw[t.al _ _ k1 k2 () ()]at z;cases z
    ·rw[qp ()];have:=t.dn i (lo+x-1) a () () ();rw[F]at this;exact(P.of_lt G).trans this
   ·rw[aQ K];have:e=0:=()
    subst this;refine dB ⟨0,_,rfl,h',Fin.add (b:=lo+x) t.aaL B () λi a b=>?_⟩;by_cases c:i=lo+x-1
    ·subst c;rw[F];exact .inl G
    ·have:=t.dn i (lo+x-1) a () () ();rw[F]at this;exact(P.of_lt G).trans this
  case false=>
   dsimp[bK,c6];refine cz<|xD C h' () () ?_;rw[B,F]
   cases hg:o.lt (lo+x-1) (lo+x)
   case true=>
    dsimp[eZ];exact dB<|q x e g' st' h' () () t
   case false=>
    dsimp[bK,c6];refine dB ⟨e+1,g',rfl,h',?_⟩;have J:∀i,lo+x-(e+1)<=i->i<lo+x->o.lt i (lo+x)=false/\o.lt (lo+x) i=false:=λi a b=>by
     constructor
     ·cases z:o.lt i (lo+x)with
      | false=>rfl
      | true=>
       rcases o.neg _ (lo+x-1) _ z with y|y
       ·rw[t.al _ _ a b () ()]at y;cases y
       ·rw[hg]at y;cases y
     ·cases z:o.lt (lo+x) i with
      | false=>rfl
      | true=>
       rcases o.neg _ (lo+x-1) _ z with y|y
       ·rw[G]at y;cases y
       ·rw[t.al _ _ () () a b]at y;cases y
    exact {
     out:=λi Z=>t.out i ()
     cl:=λi a b=>by
      by_cases c:i=lo+x
      ·subst c;lia
      ·have:=t.cl i a ();lia
     few:=()
     dn:=λi j a b c d=>by
      by_cases z:j=lo+x
      ·subst z;rw[B];have y:=t.dn i (lo+x-1) a () () ();rw[F]at y;have Y:=t.cl i a ()
       rcases y with y|⟨_,y⟩
       ·rcases o.neg _ (lo+x) _ y with v|v
        ·rw[hg]at v;cases v
        ·exact .inl v
       ·lia
      ·exact t.dn i j a b () ()
     id:=λi a b=>by
      by_cases z:i=lo+x
      ·subst z;exact B
      ·exact t.id i () ()
     al:=λi j a b c d=>by
      by_cases z:i=lo+x
      ·subst z;by_cases y:j=lo+x
       ·subst y;exact o.L8 _
       ·exact(J j () ()).2
      ·by_cases y:j=lo+x
       ·subst y;exact(J i () ()).1
       ·exact t.al i j () () () ()}
def IY(C:Rq prog w A s o N f kd){lo n:Nat}(h:Sg N f kd g p st)(hn:lo+nrem<=N)(han:n+1<=nrem)(D:Dc o g0 g lo (lo+(n+1)) 0)(hid:∀i,lo<=i->i<lo+nrem->g0 i=i)
  {Q:bj->SortSt->Prop} (q:∀m g' st',Sg N f kd g' p st'->1<=m->m<=nrem->Rn o g0 g' lo (lo+m)->Q (some m) st'):wpS (model prog w) A E s (Qg lo n nrem) Q st:=by
 unfold Qg;refine cz<|wpS_lift<|fH ⟨rfl,?_⟩;refine cz<|Wr C h hn () han D hid λm e g' st' h' j k d=>?_;dsimp only;by_cases t:e>0
 ·rw[aS t];obtain⟨G,B,z,_⟩:=d.turn;exact cz (yR h' () λF h2=>Jm C h2 hn j k ⟨G,B,z⟩ hid q)
 ·rw[aQ t];have:e=0:=()
  subst this;exact Jm C h' hn j k d.aaL hid q
def ND(C:Rq prog w A s o N f kd){lo:Nat}(h:Sg N f kd g p st)(hn:lo+nrem<=N)(h1:1<=nrem)(hid:∀i,lo<=i->i<lo+nrem->g i=i)
  {Q:bj->SortSt->Prop} (q:∀m g' st',Sg N f kd g' p st'->1<=m->m<=nrem->Rn o g g' lo (lo+m)->Q (some m) st'):wpS (model prog w) A E s (countRun' lo nrem) Q st:=by
 rw[count_eq];refine cz (Ph C h hn (aL 1) h1 (g0:=g) ⟨λ_ _=>rfl,λi a b=>?_,λi j a b c=>()⟩ (λi a b=>hid i () b) λn L K R G=>?_)
 ·have:i=lo:=()
  subst this;rw[hid i (aL _) ()];lia
 dsimp only;by_cases B:n=nrem
 ·rw[aS<|by simpa using B];exact dB (q n g st h L K R)
 ·rw[aQ<|by simpa using B];have k:=G.resolve_left B;rw[hid (lo+n-1) () ()]at k;have O:g (lo+n)=lo+n:=hid _ () ();by_cases F:n>1
  ·rw[aS F];refine cz<|xD C h () () ?_;rw[hid lo () (),hid (lo+n-1) () ()]
   cases T:o.lt lo (lo+n-1)
   case true=>
    dsimp[eZ];exact dB<|q n g st h L K R
   case false=>
    dsimp[bK,c6];have d:∀i,lo<=i->i<lo+n->g i=i:=λi a b=>hid i a ();have M:∀i j,lo<=i->i<j->j<lo+n->o.lt i j=false/\o.lt j i=false:=λi j a b c=>by
     have r:=R.so i j a b c;rw[d i a (),d j () c]at r;refine⟨?_,r.ge⟩
     cases z:o.lt i j with
     | false=>rfl
     | true=>
      rcases o.neg _ lo _ z with y|y
      ·by_cases x:i=lo
       ·subst x;rw[o.L8]at y;cases y
       ·have r2:=R.so lo i () () ();rw[d i a (),d lo () ()]at r2;rw[r2.ge]at y;cases y
      ·rcases o.neg _ (lo+n-1) _ y with x|x
       ·rw[T]at x;cases x
       ·by_cases v:j=lo+n-1
        ·subst v;rw[o.L8]at x;cases x
        ·have r2:=R.so j (lo+n-1) () () ();rw[d j () c,d (lo+n-1) () ()]at r2;rw[r2.ge]at x;cases x
    refine cz<|yR h () λU h2=>IY C h2 hn () ?_ hid q;have t:∀i,lo<=i->i<lo+n->rev g lo (lo+n) i=lo+(lo+n)-1-i:=λi a b=>by rw[zh a b];exact d _ () ()
    refine Fin.add (b:=lo+n) ⟨λi J=>qp J,λi a b=>by rw[t i a b];lia,λi j a b c=>?_⟩ (by rw[qp ()];exact O) () λi a b=>?_
    ·rw[t i a (),t j () c];exact P.J1 (M _ _ () () ()).2 ()
    ·rw[t i a b];by_cases x:lo+(lo+n)-1-i=lo+n-1
     ·rw[x];exact .inl k
     ·rcases o.neg _ (lo+(lo+n)-1-i) _ k with z|z
      ·exact .inl z
      ·rw[(M _ _ () () ()).1]at z;cases z
  ·rw[aQ F];have:n=1:=()
   subst this;refine IY C h hn () ?_ hid q;refine Fin.add (b:=lo+1) ⟨λi J=>rfl,R.cl,λi j a b c=>()⟩ O () λi a b=>?_;have:i=lo:=()
   subst this;rw[hid i () ()];rw[show i+1-1=i by lia]at k;exact .inl k
end
abbrev UE (N:Nat):Prop:=∀{prog:aj}{w:ah}{A:aA}{E:af->aC->Prop}{s:aC}{o:Ord}{f:Nat->Keyed}{kd:SortKind}{st:SortSt}{Q:Unit->SortSt->Prop},Rq prog w A s o N f kd->Sg N f kd (λi=>i) #[] st->(∀g j d,Sg N f kd g j d->Cl g 0 N->So o g 0 N->Q Unit.unit d)->wpS (model prog w) A E s sortRuns' Q st
abbrev RO (N:Nat):Prop:=2<=N->UE N
def Sg.pen{N:Nat}{f:Nat->Keyed}{kd:SortKind}{g:Nat->Nat}{p:Array<|Nat×Nat×Nat}{st:SortSt}(h:Sg N f kd g p st)(p':Array<|Nat×Nat×Nat):Sg N f kd g p' (setPending st p'):=⟨h.size,h.get,h.lt,h.kind,h.failed,rfl⟩
def T7{N:Nat}(h64:N<64):RO N:=by
 intro h2 prog w A E s o f kd st Q C h q;rw[sortRuns'_eq];refine cz<|wpS_get ?_;dsimp only;have B:minRun' N N 0=N:=by
  obtain⟨k,O⟩:∃k,N=k+1:=⟨N-1,()⟩;have:minRun' (k+1) N 0=N:=by rw[minRun'_succ,aS h64];rfl
  rwa [<- O]at this
 rw[h.size,B];refine cz (wpS_mono (gY
  (I:=λx c j=>(x=0/\c=(none,0)/\Sg N f kd (λi=>i) #[] j)\/(1<=x/\c=(none,N)/\∃g p,Sg N f kd g p j/\Cl g 0 N/\So o g 0 N/\p.size=1))
  (Q:=λc j=>c=(none,N)/\∃g p,Sg N f kd g p j/\Cl g 0 N/\So o g 0 N/\p.size=1) ?step ?fin (.inl ⟨rfl,rfl,h⟩)) ?post)
 case fin=>
  rintro c j (⟨K,_,_⟩|⟨_,hc,G⟩)
  ·lia
  ·exact⟨hc,G⟩
 case step=>
  rintro x c j _ K (⟨rfl,rfl,W⟩|⟨V,rfl,G⟩)
  ·dsimp only;rw[aQ ()];refine cz<|ND C W () () (λi a b=>rfl) λm L T t U m2 R1=>?_;dsimp only;by_cases c2:m<N
   ·rw[aS c2];refine cz<|wpS_lift<|fH ⟨rfl,?_⟩;rw[show min (N-0) N=N by lia];refine cz<|V6 C t () U () R1 (λi a b=>rfl) λM Y J R2=>?_;rw[aQ ⋯];refine cz<|wpS_get ?_;rw[J.pend];show wpS _ _ _ _ _ _ _;refine cz (wpS_modify<|dB<|.inr ⟨(),by rw[cj],M,_,J.pen _,by have:=R2.cl;rwa [cj]at this,by have:=R2.so;rwa [cj]at this,?_⟩);rw[J.pend];rfl
   ·rw[aQ c2];have P:m=N:=()
    subst P;refine cz<|wpS_get ?_;rw[t.pend];refine cz (wpS_modify<|dB<|.inr ⟨(),by rw[cj],L,_,t.pen _,by have:=R1.cl;rwa [cj]at this,by have:=R1.so;rwa [cj]at this,?_⟩);rw[t.pend];rfl
  ·dsimp only;rw[aS<|aL _];exact dB ⟨rfl,G⟩
 case post=>
  rintro c j ⟨rfl,g,p,h1,F,h3,Z⟩;dsimp only;refine cz (wpS_mono (gY (I:=λx c d=>c=(none,Unit.unit)/\Sg N f kd g p d) (Q:=λc d=>c=(none,Unit.unit)/\Sg N f kd g p d) ?fstep (λ_ _ z=>z) ⟨rfl,h1⟩) ?fpost)
  case fstep=>
   rintro x c d _ K ⟨rfl,h1⟩;refine cz<|wpS_get ?_;rw[h1.pend,aS ()];exact dB ⟨rfl,h1⟩
  case fpost=>
   rintro c d ⟨rfl,h1⟩;dsimp only;exact dB<|q g p d h1 F h3
abbrev zf:Bool->Keyed->Array Keyed->Nat->Nat->Nat->StateT SortSt Sem (bj):=sortPriv% PySem.Builtin.gallop
abbrev UZ:Nat->StateT SortSt Sem Unit:=sortPriv% PySem.Builtin.setMinGallop
section
variable {o:Ord}{N:Nat}{f:Nat->Keyed}{A B hs:am}{ia ib:Nat}
abbrev fa (f:Nat->Keyed)(l:am):Array Keyed:=(l.map f).toArray
structure Ab (o:Ord)(N:Nat)(A B:am):Prop where
 sa:A.Pairwise (P o)
 sb:B.Pairwise (P o)
 lt:∀x∈A,∀y∈B,x<y
 nb:∀y∈B,y<N
 na:∀x∈A,x<N
structure Mg (o:Ord)(A B hs:am)(ia ib:Nat):Prop where
 la:ia<=A.length
 lb:ib<=B.length
 len:hs.length=ia+ib
 so:hs.Pairwise (P o)
 mem:∀x∈hs,x∈A\/x∈B
 ua:∀x∈hs,∀y∈A.drop ia,P o x y
 ub:∀x∈hs,∀y∈B.drop ib,P o x y
abbrev Res (o:Ord)(f:Nat->Keyed)(A B:am)(out:Array Keyed):Prop:=∃hs:am,out=fa f hs/\hs.length=A.length+B.length/\hs.Pairwise (P o)/\∀x∈hs,x∈A\/x∈B
end
structure Sm (st st':SortSt):Prop where
 a:arrOf st'=arrOf st
 k:kindOf st'=kindOf st
 p:pendingOf st'=pendingOf st
 f:failedOf st'=failedOf st
meta abbrev G:=Option (Array Keyed)×Array Keyed×Nat×Nat×Nat×Nat×Nat
abbrev T3 (a b out:Array Keyed)(ia ib mg ac bc:Nat):StateT SortSt Sem (ForInStep G):=do
 let x <- elem' a ia
 if (ia+1+1 == a.size)=true then pure (ForInStep.done (some<|out.push x++b.extract ib b.size++a.extract (ia+1) a.size,out.push x,ia+1,ib,mg,ac,bc))
 else if (decide (ac<7) && decide (bc<7))=true then pure (ForInStep.done (none,out.push x,ia+1,ib,mg,ac,bc))
 else pure (ForInStep.yield (none,out.push x,ia+1,ib,mg,ac,bc))
abbrev T2 (a b out:Array Keyed)(ia ib mg ac bc:Nat):StateT SortSt Sem (ForInStep G):=do
 let x <- elem' b ib
 if (ib+1 == b.size)=true then pure (ForInStep.done (some<|out.push x++a.extract ia a.size++b.extract (ib+1) b.size,out.push x,ia,ib+1,mg,ac,bc))
 else
  let y <- elem' a ia
  let r <- zf true y b (ib+1) (b.size-(ib+1)) 0
  match r with
  | some k=>
   if k>0 then
    if (ib+1+k == b.size)=true then pure (ForInStep.done (some<|out.push x++b.extract (ib+1) (ib+1+k)++a.extract ia a.size++b.extract (ib+1+k) b.size,out.push x++b.extract (ib+1) (ib+1+k),ia,ib+1+k,mg,ac,k))
    else T3 a b (out.push x++b.extract (ib+1) (ib+1+k)) ia (ib+1+k) mg ac k
   else T3 a b (out.push x) ia (ib+1) mg ac k
  | _=>pure<|ForInStep.done (some<|out.push x++a.extract ia a.size++b.extract (ib+1) b.size,out.push x,ia,ib+1,mg,ac,bc)
abbrev T1 (a b out:Array Keyed)(ia ib mg ac bc:Nat):StateT SortSt Sem (ForInStep G):=do
 UZ mg
 let x <- elem' b ib
 let r <- zf false x a ia (a.size-ia) 0
 match r with
 | some k=>
  if k>0 then
   if (ia+k+1 == a.size)=true then pure (ForInStep.done (some<|out++a.extract ia (ia+k)++b.extract ib b.size++a.extract (ia+k) a.size,out++a.extract ia (ia+k),ia+k,ib,mg,k,bc))
   else if (ia+k == a.size)=true then pure (ForInStep.done (some<|out++a.extract ia (ia+k)++a.extract (ia+k) a.size++b.extract ib b.size,out++a.extract ia (ia+k),ia+k,ib,mg,k,bc))
   else T2 a b (out++a.extract ia (ia+k)) (ia+k) ib mg k bc
  else T2 a b out ia ib mg k bc
 | _=>pure<|ForInStep.done (some<|out++a.extract ia a.size++b.extract ib b.size,out,ia,ib,mg,ac,bc)
section
variable {o:Ord}{A B ts:am}{na nb:Nat}
structure Mh (o:Ord)(A B ts:am)(na nb:Nat):Prop where
 la:na<=A.length
 lb:nb<=B.length
 len:ts.length+na+nb=A.length+B.length
 so:ts.Pairwise (P o)
 mem:∀x∈ts,x∈A\/x∈B
 ua:∀y∈A.take na,∀x∈ts,P o y x
 ub:∀y∈B.take nb,∀x∈ts,P o y x
end
meta abbrev H:=Option (Array Keyed)×Nat×Nat×Array Keyed×Nat×Nat×Nat
abbrev U3 (a b out:Array Keyed)(na nb mg ac bc:Nat):StateT SortSt Sem (ForInStep H):=do
 let x <- elem' a (na-1)
 if (na-1 == 0)=true then pure (ForInStep.done (some<|a.extract 0 (na-1)++b.extract 0 nb++(out.push x).reverse,na-1,nb,out.push x,mg,ac,bc))
 else if (decide (ac<7) && decide (bc<7))=true then pure (ForInStep.done (none,na-1,nb,out.push x,mg,ac,bc))
 else pure (ForInStep.yield (none,na-1,nb,out.push x,mg,ac,bc))
abbrev U2 (a b out:Array Keyed)(na nb mg ac bc:Nat):StateT SortSt Sem (ForInStep H):=do
 let x <- elem' b (nb-1)
 if (nb-1 == 1)=true then pure (ForInStep.done (some<|b.extract 0 (nb-1)++a.extract 0 na++(out.push x).reverse,na,nb-1,out.push x,mg,ac,bc))
 else
  let y <- elem' a (na-1)
  let r <- zf true y b 0 (nb-1) (nb-1-1)
  match r with
  | some t=>
   if nb-1-t>0 then
    if (t == 1)=true then pure (ForInStep.done (some<|b.extract 0 t++a.extract 0 na++(out.push x++(b.extract t<|nb-1).reverse).reverse,na,t,out.push x++(b.extract t<|nb-1).reverse,mg,ac,nb-1-t))
    else if (t == 0)=true then pure (ForInStep.done (some<|a.extract 0 na++b.extract 0 t++(out.push x++(b.extract t<|nb-1).reverse).reverse,na,t,out.push x++(b.extract t<|nb-1).reverse,mg,ac,nb-1-t))
    else U3 a b (out.push x++(b.extract t<|nb-1).reverse) na t mg ac (nb-1-t)
   else U3 a b (out.push x) na (nb-1) mg ac (nb-1-t)
  | _=>pure<|ForInStep.done (some<|a.extract 0 na++b.extract 0 (nb-1)++(out.push x).reverse,na,nb-1,out.push x,mg,ac,bc)
abbrev U1 (a b out:Array Keyed)(na nb mg ac bc:Nat):StateT SortSt Sem (ForInStep H):=do
 UZ mg
 let x <- elem' b (nb-1)
 let r <- zf false x a 0 na (na-1)
 match r with
 | some t=>
  if na-t>0 then
   if (t == 0)=true then pure (ForInStep.done (some<|a.extract 0 t++b.extract 0 nb++(out++(a.extract t na).reverse).reverse,t,nb,out++(a.extract t na).reverse,mg,na-t,bc))
   else U2 a b (out++(a.extract t na).reverse) t nb mg (na-t) bc
  else U2 a b out na nb mg (na-t) bc
 | _=>pure<|ForInStep.done (some<|a.extract 0 na++b.extract 0 nb++out.reverse,na,nb,out,mg,ac,bc)
section
variable {o:Ord}{f:Nat->Keyed}{st0:SortSt}{X Y ts:am}{na nb:Nat}
abbrev Oh (o:Ord)(X Y:am)(n:Nat)(ts:am)(na nb:Nat):Prop:=Mh o X Y ts na nb/\1<=na/\2<=nb/\na+nb+n<=X.length+Y.length
abbrev H2 (o:Ord)(f:Nat->Keyed)(X Y:am)(n:Nat)(st0:SortSt):ForInStep H->SortSt->Prop:=λr j=>Sm st0 j/\match r with
 | .done c=>(∃r z,c=(some r,z)/\Res o f X Y r)\/∃ts na nb mg g d,c=(none,na,nb,fa f ts.reverse,mg,g,d)/\Oh o X Y n ts na nb
 | .yield c=>∃ts na nb mg g d,c=(none,na,nb,fa f ts.reverse,mg,g,d)/\Oh o X Y n ts na nb
end
meta abbrev pr (x:Nat×Nat×Nat):Nat×Nat:=(x.1,x.2.1)
abbrev ZX (o:Ord)(g:Nat->Nat):List (Nat×Nat)->Nat->Nat->Prop
 | [],a,b=>a=b
 | x::l,a,b=>x.1=a/\1<=x.2/\Cl g a (a+x.2)/\So o g a (a+x.2)/\ZX o g l (a+x.2) b
abbrev PA (o:Ord)(g:Nat->Nat)(p:Array<|Nat×Nat×Nat)(b:Nat):Prop:=ZX o g (p.toList.map pr) 0 b
meta abbrev Dl (h:aq)(a:ak)(vs:ba):aq:=((h.update a<|Obj.mapSeq λ_=>#[]).push<|seqObj "tuple" vs.toArray 0).push<|seqObj "list" #[] 0
def Kf{h:aq}{a:ak}(hb:b≠a)(hlt:b<h.objs.size):(Dl h a vs).get? b=h.get? b:=by
 rw[gZ _ _ _<|by rw[size_push',iC];exact bC<|dG hlt,
  gZ _ _ _ (by rw[iC];exact bC hlt),Heap.get?_update_ne _ _ _ _ hb]
meta abbrev vv (vs:ba)(i:Nat):Keyed:=(vs.getD i .none,vs.getD i .none)
def zip_get(vs:ba){i:Nat}(h:i<vs.length):(vs.toArray.zip vs.toArray)[i]?=some (vv vs i):=by
 have e:vs[i]?=some (vs.getD i .none):=by rw[aK,aI h];rfl
 rw[Array.getElem?_zip_eq_some];exact⟨by rw[fQ];exact e,by rw[fQ];exact e⟩
section
variable {prog:aj}{w:ah}{A:aA}{E:af->aC->Prop}{s:aC}{o:Ord}{kd:SortKind}
def yk{a:ak}{vs:ba}{n:Nat}{P:PySem.Fin->aC->Prop}(hL:s.heap.get? a=some (seqObj "list" vs.toArray n))(hsz:vs.length<=sizeLine)(ro:RO vs.length)
  (hkk:2<=vs.length->∀Q:SortKind->aC->Prop,Q kd { s with heap:=Dl s.heap a vs }->wpAny (model prog w) A (keyKind' vs.toArray) Q E { s with heap:=Dl s.heap a vs })
  (C:2<=vs.length->Rq prog w A { s with heap:=Dl s.heap a vs } o vs.length (vv vs) kd)
  (h:∀g,Cl g 0 vs.length->So o g 0 vs.length->P (.done<|.ret .none) { s with heap:=sortedHeap s.heap a vs ((List.range vs.length).map λi=>vs.getD (g i) .none).toArray }) :
  wpAny (model prog w) A (Builtin.«list.sort» ⟨[.ref a],[]⟩) P E s:=by
 rw[list_sort_plain];have z:a<s.heap.objs.size:=a_ hL;refine aG<|listItems_at hL rfl ?_;refine aG (listUpdate_at hL rfl ?_ (by rw[aY];exact hsz)<|bL _);obtain⟨ep,B⟩:∃ep,(s.heap.update a<|Obj.mapSeq λ_=>#[]).get? a=some (seqObj "list" #[] ep):=⟨_,get?_update_seq hL λ_=>#[]⟩;refine aG<|seqEpoch_at B rfl ?_;refine aG<|wpAny_newTuple ?_;refine aG<|jm ?_;refine cC ?_;have m:(Dl s.heap a vs).get? a=some (seqObj "list" #[] ep):=by
  rw[gZ _ _ _<|by rw[size_push',iC];exact bC<|dG z,gZ _ _ _<|by rw[iC];exact bC z];exact B
 skip
 dsimp only;have G:vs.toArray.size=vs.length:=by simp
 have J:∀i,i<vs.length->vs[i]?=some (vs.getD i .none):=λi t=>by rw[aK,aI t];rfl
 have wG:∀(arr:Array Keyed) (g:Nat->Nat),arr.size=vs.length->(∀i,i<vs.length->arr[i]?=some (vv vs<|g i))->arr.map (·.2)=((List.range vs.length).map λi=>vs.getD (g i) .none).toArray:=λarr g h1 d=>by
  apply Array.ext_getElem?;intro i;have e0:((List.range vs.length).map λi=>vs.getD (g i) Value.none).toArray[i]?=((List.range vs.length).map λi=>vs.getD (g i) Value.none)[i]?:=fQ ..;rw[Array.getElem?_map,e0,aP];by_cases c:i<vs.length
  ·rw[d i c,dI c];rfl
  ·rw[fJ (),dm<|by rw[bQ];lia];rfl
 by_cases d:vs.toArray.size<2
 ·rw[aS d,aS d];refine aG<|aN ?_;rw[StateT.run_pure];refine aG<|aN ?_;dsimp only;refine aG<|seqEpoch_at m rfl ?_;have oe:=wG (vs.toArray.zip vs.toArray) (λi=>i) (by rw[jz,G];lia) λi t=>zip_get vs t;refine aG (listUpdate_at m rfl ?_ (by simp) (hsz2:=by rw[size_map];show(vs.toArray.zip vs.toArray).size<=_;rw[jz,G];lia));dsimp[bne_self_eq_false,bK,c6];refine aN ?_;have:=h (λi=>i) (λi a b=>⟨a,b⟩) λi j a b c=>();rw[<- oe]at this;exact this
 ·rw[aQ d,aQ d];have q:2<=vs.length:=()
  refine aG<|hkk q _ ?_;refine aG (cY (ro q (f:=vv vs) (st:=SortSt.mk' kd (vs.toArray.zip vs.toArray) #[] 7 none)
   (Q:=λ_ k=>∃g p,Sg vs.length (vv vs) kd g p k/\Cl g 0 vs.length/\So o g 0 vs.length)
   (C q) ⟨by show(vs.toArray.zip vs.toArray).size=_;rw[jz,G];lia,λi t=>zip_get vs t,λi t=>t,rfl,rfl,rfl⟩ λO L k N K M=>⟨O,L,N,K,M⟩) ?_ λ_ _ e=>e)
  rintro⟨⟨⟩,k⟩ s' ⟨rfl,g,p,hS,hc,F⟩;dsimp only;refine aG<|seqEpoch_at m rfl ?_;have oe:=wG (arrOf k) g hS.size hS.get;refine aG (listUpdate_at m rfl ?_ (by simp) (hsz2:=by have T:(arrOf k).size=vs.length:=hS.size;show((arrOf k).map (·.2)).size<=_;rw[size_map,T];lia));rw[hS.failed];dsimp[bne_self_eq_false,bK,c6];have:=h g hc F;rw[<- oe]at this;exact aN this
end
section
variable {prog:aj}{w:ah}{A:aA}{E:af->aC->Prop}{s:aC}
def K9(b:Bool)(x y:af):keyLt' (tuples' b) x y=(do
  let us <- Builtin.List.listItems x
  let vs <- Builtin.List.listItems y
  for ((u,v),k)in (us.toList.zip vs.toList).zipIdx do
   if !(<- eqBool u v)then return <- oneLt' (b && k == 0) u v
  return us.size<vs.size):=rfl
def Jx(b:Bool){x y:Int}{t:Tok}{Q:Bool->aC->Prop}(h:Q (decide<|x<y) s):wpAny (model prog w) A (oneLt' b (.int x t)<|.int y u) Q E s:=by
 cases b with
 | true=>exact oneLt_int h
 | false=>
  rw[oneLt'_eq];dsimp[bK,c6];exact aG<|PySem.P.lt_int<|c5 h
def GI(b:Bool){l k:ak}{xs ys:ba}{ns:ag}{Q:Bool->aC->Prop}(hl:IsTup s.heap l xs.toArray)(hk:IsTup s.heap k ys.toArray)(hi:IntsAre xs ns)(hj:IntsAre ys ms)(h:Q (HT.lexLt ns ms) s) :
  wpAny (model prog w) A (keyLt' (tuples' b) (.ref l)<|.ref k) Q E s:=by
 rw[K9];obtain⟨L,z,_,M,C⟩:=hl;obtain⟨J,g,_,K,j⟩:=hk;refine aG<|listItems_at z C ?_;refine aG<|listItems_at g j ?_;have m:∀(xs ys:ba) (ns ms:ag) (n:Nat),IntsAre xs ns->IntsAre ys ms->∀f:bi×Unit->aC->Prop,(∀r,(r=some (HT.lexLt ns ms)\/(r=none/\HT.lexLt ns ms=decide (xs.length<ys.length)))->f (r,Unit.unit) s) ->
   wpAny (model prog w) A (forIn ((xs.zip ys).zipIdx n) ((none,Unit.unit):bi×Unit) λx c=>match x with
      | ((p,q),i)=>do
       let e <- eqBool p q
       if (!e)=true then do
         let r <- oneLt' (b && i == 0) p q
         pure (ForInStep.done (some r,Unit.unit))
        else pure (ForInStep.yield (none,Unit.unit))) f E s:=by
  intro xs
  induction xs with
  | nil=>
   intro ys ns ms n h1 h2 f q
   cases h1
   rw[List.zip_nil_left,List.zipIdx_nil,iZ];refine aN (q none<|.inr ⟨rfl,?_⟩)
   cases h2 with
   | nil=>rw[HT.pP];rfl
   | cons a t h2=>rw[HT.m9,bg<|by simp]
  | cons v vs F=>
   intro ys ns ms n h1 h2 f q
   cases h1 with
   | cons a t h1=>
    cases h2 with
    | nil=>
     rw[List.zip_nil_right,List.zipIdx_nil,iZ];exact aN<|q none<|.inr ⟨rfl,by rw[HT.oV,bA<|by simp]⟩
    | cons c u h2=>
     rw[iX,List.zipIdx_cons,jx];rw[HT.qP]at q;dsimp only;refine aG<|aG<|wpAny_eqBool_int ?_;by_cases e:a=c
     ·rw[aS e]at q;subst e;dsimp[cu,bY,bK,c6];refine aN (F _ _ _ _ h1 h2 _ λr d=>q r ?_)
      rcases d with d|⟨d,B⟩
      ·exact .inl d
      ·exact .inr ⟨d,by rw[B];simp⟩
     ·rw[aQ e]at q;have G:(a == c)=false:=by simpa using e
      dsimp[G,c7,eZ];exact aG<|Jx _<|aN<|aN<|q _<|.inl rfl
 refine aG (m xs ys ns ms 0 hi hj _ λr d=>?_)
 rcases d with rfl|⟨rfl,B⟩
 ·exact aN h
 ·dsimp only;rw[aY,aY,<- B];exact aN h
end
theorem ze:∀a:ag,HT.lexLt a a=false
 | []=>HT.pP
 | x::a=>by rw[HT.qP,aS rfl];exact ze a
theorem CK:∀{a b c:ag},HT.lexLt a b=true->HT.lexLt b c=true->HT.lexLt a c=true
 | [],[],_,h,_=>by rw[HT.pP]at h;cases h
 | x::a,[],_,h,_=>by rw[HT.oV]at h;cases h
 | _,y::b,[],_,h=>by rw[HT.oV]at h;cases h
 | [],y::b,z::c,_,_=>HT.m9 ..
 | x::a,y::b,z::c,h1,h2=>by
  rw[HT.qP]at h1 h2 ⊢;by_cases e1:x=y
  ·rw[aS e1]at h1;by_cases e2:y=z
   ·rw[aS e2]at h2;rw[aS<|e1.trans e2];exact CK h1 h2
   ·rw[aQ e2]at h2;have:=bU h2;rw[aQ<|by omega];exact bg<|by omega
  ·rw[aQ e1]at h1;have d:=bU h1;by_cases e2:y=z
   ·rw[aQ<|by omega];exact bg (by omega)
   ·rw[aQ e2]at h2;have:=bU h2;rw[aQ<|by omega];exact bg<|by omega
theorem xx:∀{a b:ag},HT.lexLt a b=false->HT.lexLt b a=false->a=b
 | [],[],_,_=>rfl
 | [],y::b,h,_=>by rw[HT.m9]at h;cases h
 | x::a,[],_,h=>by rw[HT.m9]at h;cases h
 | x::a,y::b,h1,h2=>by
  rw[HT.qP]at h1 h2;by_cases e:x=y
  ·rw[aS e]at h1;rw[aS e.symm]at h2;rw[e,xx h1 h2]
  ·rw[aQ e]at h1;rw[aQ λz=>e z.symm]at h2;have:=eL h1;have:=eL h2;omega
def J2{a c:ag}(h:HT.lexLt a c=true):HT.lexLt a b=true\/HT.lexLt b c=true:=by
 cases e:HT.lexLt a b with
 | true=>exact .inl rfl
 | false=>
  right
  cases e2:HT.lexLt b a with
  | true=>exact CK e2 h
  | false=>rw[<- xx e e2];exact h
abbrev uw (kss:List<|ag):Ord where
 lt i j:=HT.lexLt (kss.getD i []) (kss.getD j [])
 L8 i:=ze _
 tr i j k:=CK
 neg i j k:=J2
section
variable {prog:aj}{w:ah}{A:aA}{E:af->aC->Prop}{s:aC}
theorem J8{α β:Type}{f:α->Sem β}(r:α->β):∀(l:List α),(∀a∈l,∀Q:β->aC->Prop,Q (r a) s->wpAny M A (f a) Q E s)->∀Q:List β->aC->Prop,Q (l.map r) s->wpAny M A (l.mapM f) Q E s
 | [],_,Q,q=>by rw[List.mapM_nil];exact aN q
 | a::l,h,Q,q=>by
  rw[List.mapM_cons];refine aG<|h a (aV ..) _<|aG<|J8 r l (λb hb=>h b<|aX _ hb) _<|aN q
def zg{α β:Type}{f:α->Sem β}(r:α->β)(l:List α)(h:∀a∈l,∀Q:β->aC->Prop,Q (r a) s->wpAny M A (f a) Q E s)(Q:Array β->aC->Prop)(q:Q (l.map r).toArray s):wpAny M A (l.toArray.mapM f) Q E s:=by
 rw[List.mapM_toArray,map_eq_pure_bind];exact aG<|J8 r l h _<|aN q
def EV(u:af):firstOfTuple' u=(do
  if (<- typeOf u) != .type "tuple" then return none
  return (<- Builtin.List.listItems u)[0]?):=rfl
def KH{vs:ba}(h0:vs≠[])(ht:∀v∈vs,∃(l:ak) (xs:ba) (n:Int) (t:Tok),v=.ref l/\IsTup s.heap l (.int n t::xs).toArray){Q:SortKind->aC->Prop}(q:Q (tuples' true) s) :
  wpAny (model prog w) A (keyKind' vs.toArray) Q E s:=by
 have B:∀v,∃x:Int×Tok,v∈vs->∃(l:ak) (xs:ba),v=.ref l/\IsTup s.heap l (.int x.1 x.2::xs).toArray:=λv=>by
  by_cases c:v∈vs
  ·obtain⟨l,xs,n,t,e1,e2⟩:=ht v c;exact⟨(n,t),λ_=>⟨l,xs,e1,e2⟩⟩
  ·exact⟨(0,0),λz=>absurd z c⟩
 obtain⟨F,j⟩:=Classical.axiomOfChoice B;rw[keyKind'_eq];refine aG (zg (λv=>some<|Value.int (F v).1 (F v).2) vs (λv hv p q'=>?_) _ ?_)
 ·obtain⟨l,xs,rfl,o,g,hc,n,k⟩:=j v hv;rw[EV];refine aG<|gO (T := "tuple") ⟨o,g,hc⟩ ?_;rw[aQ ⋯];exact aG (listItems_at g k<|aN q')
 ·rw[aS<|by simp];refine aG<|fH ?_;have e1:(vs.map λv=>some<|Value.int (F v).1 (F v).2).toArray.filterMap id=(vs.map λv=>Value.int (F v).1 (F v).2).toArray:=by
   rw[List.filterMap_toArray,List.filterMap_map];congr 1;rw[show(id ∘ λv=>some<|Value.int (F v).1 (F v).2)=λv=>some (Value.int (F v).1 (F v).2)from rfl];exact congrFun List.filterMap_eq_map' vs
  rw[e1,oneTypeOnly'_eq];refine aG (aG<|zg (λ_=>Value.type "int") _ (λv hv p q'=>?_) _ ?_)
  ·obtain⟨u,_,rfl⟩:=bf.mp hv;exact aN q'
  ·rw[bh];obtain⟨f,d,rfl⟩:∃f d,vs=f::d:=by
    cases vs with
    | nil=>exact absurd rfl h0
    | cons a b=>exact⟨a,b,rfl⟩
   have ha:((List.map ((λ_=>Value.type "int") ∘ λv=>Value.int (F v).1 (F v).2) (f::d)).toArray.all λx=>x == Value.type "int")=true:=by
    dsimp[List.all_toArray,all_map,f6];intro _ _;rfl
   have m:(List.map ((λ_=>Value.type "int") ∘ λv=>Value.int (F v).1 (F v).2) (f::d)).toArray[0]?=some (Value.type "int"):=by simp
   rw[m];dsimp[ha,eZ];exact aN<|aN q
end
end Sx
namespace L2
open PySem PySem.Spec PyProof.Rows
section
variable {X:Cx}
theorem vm:∀{rs:bb}{its:ba},Vals (rs.map V.ref) its->its=rs.map Value.ref
 | [],_,r=>by cases r;rfl
 | a::rs,_,r=>by
  cases r with
  | cons h t=>
   have e:_=Value.ref a:=h;rw[e,vm t];rfl
theorem xP:∀(rs:bb),Vals (rs.map V.ref) (rs.map Value.ref)
 | []=>.nil
 | a::rs=>.cons (show RelV (.ref a) (.ref a)from rfl)<|xP rs
def xR{s:aC}{H:Hp}{Q:VK}{h':aq}{tk:Nat}{rs:bb}{kss:List<|ag}(I1:Inv X pins σ H { s with heap:=h',toks:=tk })(ro:Sx.RO kss.length)(hlen:rs.length=kss.length)(hz:rs.length<=sizeLine)
  (hT:∀(i:Nat) (r:ak) (ks:ag),rs[i]?=some r->kss[i]?=some ks->nj X.K H r (ks.map V.int)/\ks≠[])
  (q:∀l g,H l=none->Sx.Cl g 0 kss.length->Sx.So (Sx.uw kss) g 0 kss.length->Q (.ref l) (upd H l<|.lst<|((List.range kss.length).map λi=>rs.getD (g i) 0).map V.ref)) :
  wpAny (model X.prog X.w) X.A.in1 (do
   let l <- newList (rs.map Value.ref)
   let _ <- holding [l] (call (Value.builtin "list.sort") [l] [])
   ret l) (λfin s'=>∃v,fin=Fin.done (Flow.ret v)/\EP X pins σ Q v s') X.xe { s with heap:=h',toks:=tk }:=by
 have p:(rs.map Value.ref).length=kss.length:=by rw[aH,hlen]
 refine aG<|jm ?_;have f:(h'.push<|seqObj "list" (rs.map Value.ref).toArray 0).get? h'.objs.size=some (seqObj "list" (rs.map Value.ref).toArray 0):=bu _ rfl
 skip
 have tup:∀(i:Nat) (r:ak) (ks:ag),rs[i]?=some r->kss[i]?=some ks->∃d:ba,IntsAre d ks/\IsTup (Sx.Dl (h'.push<|seqObj "list" (rs.map Value.ref).toArray 0) h'.objs.size<|rs.map Value.ref) r d.toArray:=λi r ks e1 e2=>by
  obtain⟨d,M,⟨o,J,hc,n,U⟩,_⟩:=I1.tuple (hT i r ks e1 e2).1;refine⟨d,intsAre_of M,o,?_,hc,n,U⟩;have lt:r<h'.objs.size:=a_ J;rw[Sx.Kf (bC lt)<|by rw[cG];exact dG lt];exact aM _ J
 refine aG (cC<|cV slot_list_sort ⟨_,f,rfl⟩ entry_list_sort (Sx.yk (o:=Sx.uw kss) (kd:=tuples' true) f (by rw[p];lia) (by rw[p];exact ro) (λh2 F q'=>?_) (λh2 i j k G P F q'=>?_) λg hc hs=>⟨_,rfl,?_⟩)<|args_list_sort _)
 ·refine Sx.KH (λz=>by rw[z]at h2;simp at h2) (λv hv=>?_) q';obtain⟨i,k⟩:=iJ hv;rw[aP]at k;obtain⟨r,B,rfl⟩:=aW.mp k;have lt:=(aJ.mp B).1;have e2:kss[i]?=some kss[i]:=aI ();obtain⟨d,h1,h3⟩:=tup i r _ B e2;have m:=(hT i r _ B e2).2;generalize kss[i]=ks at h1 m
  cases h1 with
  | nil=>exact absurd rfl m
  | cons a t h1=>exact⟨r,_,a,t,rfl,h3⟩
 ·rw[p]at k G;have e1:rs[i]?=some (rs[i]'()):=aI _;have e2:rs[j]?=some (rs[j]'()):=aI _;have k1:kss[i]?=some kss[i]:=aI k;have k2:kss[j]?=some kss[j]:=aI G;obtain⟨x1,Y,O⟩:=tup i _ _ e1 k1;obtain⟨x2,L,N⟩:=tup j _ _ e2 k2;have v1:(rs.map Value.ref).getD i .none=.ref (rs[i]'()):=by rw[aK,aP,e1];rfl
  have v2:(rs.map Value.ref).getD j .none=.ref (rs[j]'()):=by rw[aK,aP,e2];rfl
  show wpAny _ _ (keyLt' (tuples' true) ((rs.map Value.ref).getD i .none)<|(rs.map Value.ref).getD j .none) F P _;rw[v1,v2];refine Sx.GI true O N Y L ?_;have T:kss.getD i []=kss[i]:=by rw[aK,k1];rfl
  have Z:kss.getD j []=kss[j]:=by rw[aK,k2];rfl
  have:(Sx.uw kss).lt i j=HT.lexLt kss[i] kss[j]:=by show HT.lexLt _ _=_;rw[T,Z]
  rw[<- this];exact q'
 ·rw[p]at hc hs ⊢;obtain⟨e,W⟩:=sortedHeap_at (out:=((List.range kss.length).map λi=>(rs.map Value.ref).getD (g i) .none).toArray) f;have old:∀b ob,h'.get? b=some ob->(sortedHeap (h'.push<|seqObj "list" (rs.map Value.ref).toArray 0) h'.objs.size (rs.map Value.ref) ((List.range kss.length).map λi=>(rs.map Value.ref).getD (g i) .none).toArray).get? b=some ob:=λb ob C=>by
   rw[sortedHeap_old (bC<|a_ C)<|by rw[cG];exact dG<|a_ C];exact aM _ C
  refine aN ⟨_,rfl,.ref h'.objs.size,_,I1.laid (t':=tk) (o:=.lst<|((List.range kss.length).map λi=>rs.getD (g i) 0).map V.ref) old (aL _) ?_,rfl,q _ g (I1.hok.fresh<|aL _) hc hs⟩;refine⟨by rw[aH,aH,bQ];lia,((List.range kss.length).map λi=>rs.getD (g i) 0).map Value.ref,e,xP _,?_⟩;rw[W];congr 2;rw[bh];congr 1;refine bW λi k=>?_;have:=(hc i (bL _)<|cg.mp k).2;have lt:g i<rs.length:=()
  show(rs.map Value.ref).getD (g i) .none=Value.ref (rs.getD (g i) 0);rw[aK,aP,aI lt,aK,aI lt];rfl
def DF:j7 X (.builtin "sorted") (λxs H Q=>∃(p:ak) (rs:bb) (kss:List<|ag),xs=[.ref p]/\pO X.K H p (rs.map V.ref)/\Sx.RO kss.length/\rs.length=kss.length /\
  (∀(i:Nat) (r:ak) (ks:ag),rs[i]?=some r->kss[i]?=some ks->nj X.K H r (ks.map V.int)/\ks≠[]) /\
  ∀l g,H l=none->Sx.Cl g 0 kss.length->Sx.So (Sx.uw kss) g 0 kss.length->Q (.ref l) (upd H l<|.lst<|((List.range kss.length).map λi=>rs.getD (g i) 0).map V.ref)):=by
 fin2;obtain⟨p,rs,kss,rfl,hq,C,d,F,q⟩:=h;kcj_m
 cases rx
 obtain⟨B,k,pl,j⟩:=I.list hq;have z:=vm k;subst z;obtain⟨o,L,f,n,G⟩:=pl.isList;rw[aH]at j;have J:(rs.map Value.ref).length=kss.length:=by rw[aH,d]
 refine dM kind_sorted iT iU (iV _) ?_;unfold Builtin.«sorted»;refine aG (m:=checkCount "sorted" 1 1 _)<|aN ?_;refine aG<|wpAny_collect_seq p (.inl rfl) L f G (λh' t=>xR (s:=s) (I.kept (t':=s.toks) t) C d j F q)<|by rw[aY,J];lia
end
end L2
namespace Sx
open PySem PyProof.Rows
open PySem.AutoSeq1 (wpAny_loadPart')
open PySem.MeetsSeq PySem.MeetsSeq2 PySem.MeetsSeq3
section
variable {prog:aj}{w:ah}{A:aA}{E:af->aC->Prop}{s:aC}
def F_{v:af}{l:ak}(e:v=.ref l)(h:s.heap.IsList l xs){Q:bd->aC->Prop}(q:Q none s):wpAny (model prog w) A (firstOfTuple' v) Q E s:=by
 subst e;obtain⟨o,d,hc,n,f⟩:=h;rw[EV];refine aG<|gO (T := "list") ⟨o,d,hc⟩ ?_;rw[aS ⋯];exact aN q
def GZ{vs:ba}(h0:vs≠[])(ht:∀v∈vs,∃(l:ak) (xs:Array af),v=.ref l/\s.heap.IsList l xs){Q:SortKind->aC->Prop}(q:Q oneType' s) :
  wpAny (model prog w) A (keyKind' vs.toArray) Q E s:=by
 rw[keyKind'_eq];obtain⟨f,d,rfl⟩:∃f d,vs=f::d:=by
  cases vs with
  | nil=>exact absurd rfl h0
  | cons a b=>exact⟨a,b,rfl⟩
 refine aG (zg (λ_=>(none:bd)) (f::d) (λv hv k q'=>?_) _ ?_)
 ·obtain⟨l,xs,e,h⟩:=ht v hv;exact F_ e h q'
 ·rw[aQ<|by simp,aQ<|by simp,oneTypeOnly'_eq];refine aG (aG<|zg (λ_=>Value.type "list") _ (λv hv k q'=>?_) _ ?_)
  ·obtain⟨l,xs,rfl,o,j,hc,_⟩:=ht v hv;exact gO (T := "list") ⟨o,j,hc⟩ q'
  ·have ha:((List.map (λ_=>Value.type "list") (f::d)).toArray.all λx=>x == Value.type "list")=true:=by
    rw[List.all_toArray,all_map,f6];intro _ _;rfl
   have g:(List.map (λ_=>Value.type "list") (f::d)).toArray[0]?=some (Value.type "list"):=by simp
   rw[g];dsimp[ha,eZ];exact aN<|aN q
end
end Sx
namespace Am
open PySem
inductive A where
 | unb|non|bl (b:Bool)|int (i:Int)|str (x:Str)|tup (xs:List A)|frz (xs:List A)|rng (lo hi:Int)|ref (n:Nat)|exn (c:Str)|ty (n:String)|ktu (xs:List A)
@[reducible]def ae:=List A
inductive O where
 | lst (xs:ae)|dct (kvs:List<|ag×A)|qi (kvs:List<|Int×A)|vA (kvs:List<|L2.m5×A)|dcf (kvs:List<|ag×A)|ins (c:Str) (fs:List<|Str×A)
meta abbrev jH:=List O
inductive R (α:Type) where
 | ok (a:α) (S:jH)|ex (c:Str) (S:jH)|no
abbrev R.bind {α β:Type}(r:R α)(f:α->jH->R β):R β:=match r with
 | .ok a S=>f a S
 | .ex c S=>.ex c S
 | .no=>.no
abbrev R.post {α:Type}(r:R α)(P:α->jH->Prop)(E:Str->jH->Prop):Prop:=match r with
 | .ok a S=>P a S
 | .ex c S=>E c S
 | .no=>False
def jO{α β:Type}{r:R α}{f:α->jH->R β}{P:β->jH->Prop}{E:Str->jH->Prop}(h:(r.bind f).post P E):r.post (λa S=>(f a S).post P E) E:=by
 cases r<;>exact h
def xQ{α:Type}{r:R α}{P P':α->jH->Prop}{E E':Str->jH->Prop}(h:r.post P E)(hp:∀a S,P a S->P' a S)(he:∀c S,E c S->E' c S):r.post P' E':=by
 cases r with
 | ok a S=>exact hp _ _ h
 | ex c S=>exact he _ _ h
 | no=>exact h.elim
abbrev gd {α:Type}(c:Prop)[Decidable c](r:R α):R α:=if c then r else .no
abbrev opt {α β:Type}(o:Option β)(f:β->R α):R α:=match o with
 | some b=>f b
 | none=>.no
def j4{α:Type}{c:Prop}[Decidable c]{r:R α}{P:α->jH->Prop}{E:Str->jH->Prop}(h:(gd c r).post P E):c/\r.post P E:=by
 unfold gd at h;by_cases hc:c
 ·rw[aS hc]at h;exact⟨hc,h⟩
 ·rw[aQ hc]at h;exact h.elim
def jK{α β:Type}{o:Option β}{f:β->R α}{P:α->jH->Prop}{E:Str->jH->Prop}(h:(opt o f).post P E):∃b,o=some b/\(f b).post P E:=by
 cases o with
 | none=>exact h.elim
 | some b=>exact⟨b,rfl,h⟩
def E9{α:Type}{c:Prop}[Decidable c]{r:R α}(h:c):gd c r=r:=aS h
abbrev jF (S:jH)(n:Nat):Option (ae):=match S[n]? with
 | some (.lst xs)=>some xs
 | _=>none
def jU{n:Nat}(h:jF S n=some xs):S[n]?=some (.lst xs):=by
 unfold jF at h;split at h
 ·rename_i e;cases h;exact e
 ·cases h
def nH{S:jH}{n:Nat}(h:S[n]?=some (.lst xs)):jF S n=some xs:=by
 unfold jF;rw[h]
inductive RS where
 | nx (τ:ae) (S:jH)|rt (a:A) (S:jH)|bk (τ:ae) (S:jH)|ct (τ:ae) (S:jH)|ex (c:Str) (S:jH)|no
meta abbrev Ex:=ae->jH->R A
meta abbrev rj:=ae->jH->R (ae)
meta abbrev Te:=ae->jH->R Bool
meta abbrev Sm:=ae->jH->RS
meta abbrev Tg:=A->ae->jH->R (ae)
end Am
namespace Am
open PySem L2
section
variable (K:au) (ρ:bb) (H:Hp)
abbrev F4 (K:au)(c:Str)(C:ak):Prop:=PySem.W.nsIn K mainGlobals c=some (some<|.ref C)
abbrev Fz (K:au)(H:Hp)(a:ak)(vs:List V):Prop:=
 (∃o,H a=some (.frz o<|.lst vs))\/∃(o:Obj) (d:Array af) (n:Nat),K.lookup a=some o/\o.cls=.type "list" /\ o.dict=none/\o.data=.seq d n/\d.size<=sizeLine/\Vals vs d.toList
abbrev KTp (K:au)(a:ak)(vs:List V):Prop:=∃(o:Obj) (d:Array af) (n:Nat),K.lookup a=some o/\o.cls=.type "tuple" /\ o.dict=none/\o.data=.seq d n/\d.size<=sizeLine/\Vals vs d.toList
mutual
inductive AV:A->V->Prop
 | non:AV .non .non
 | bl (b:Bool):AV (.bl b) (.bl b)
 | int (i:Int):AV (.int i) (.int i)
 | str (x:Str):AV (.str x) (.str x)
 | ty (n:String):AV (.ty n) (.ty n)
 | tup {a:ak} {xs:ae} {vs:List V} (h:H a=some (.tup vs)) (r:AVs xs vs):AV (.tup xs) (.ref a)
 | frz {a:ak} {xs:ae} {vs:List V} (h:Fz K H a vs) (r:AVs xs vs):AV (.frz xs) (.ref a)
 | rng {a:ak} {lo hi:Int} (h:H a=some (.rng lo hi)):AV (.rng lo hi) (.ref a)
 | ref {a:ak} {n:Nat} (h:ρ[n]?=some a):AV (.ref n) (.ref a)
 | exn {a C:ak} {c:Str} {oe:Obj} (n:F4 K c C) (h:H a=some (.frz oe xu)) (x:XO C oe):AV (.exn c) (.ref a)
 | ktu {a:ak} {xs:ae} {vs:List V} (h:KTp K a vs) (r:AVs xs vs):AV (.ktu xs)<|.ref a
inductive AVs:ae->List V->Prop
 | nil:AVs [] []
 | cons {x:A} {v:V} {xs:ae} {vs:List V} (h:AV x v) (t:AVs xs vs):AVs (x::xs) (v::vs)
end
abbrev DV:List (ag×A)->List (List Key×V)->Prop
 | [],[]=>True
 | p::r,q::r'=>(q.1=p.1.map Sum.inl/\AV K ρ H p.2 q.2)/\DV r r'
 | _,_=>False
abbrev DI:List (Int×A)->List (Key×V)->Prop
 | [],[]=>True
 | p::r,q::r'=>(q.1=Sum.inl p.1/\AV K ρ H p.2 q.2)/\DI r r'
 | _,_=>False
abbrev DP:List (L2.m5×A)->List (L2.m5×ak×af)->Prop
 | [],[]=>True
 | p::r,q::r'=>(q.1=p.1/\L2.sN H q.2.1 q.1/\∃v,RelV v q.2.2/\AV K ρ H p.2 v)/\DP r r'
 | _,_=>False
abbrev OR (a:ak):O->Prop
 | .lst xs=>∃vs,H a=some (.lst vs)/\AVs K ρ H xs vs
 | .dct kvs=>∃ks,H a=some (.dT ks)/\DV K ρ H kvs ks
 | .qi kvs=>∃ks,H a=some (.dK ks)/\DI K ρ H kvs ks
 | .vA kvs=>∃xs,H a=some (.ext<|L2.wC a xs)/\DP K ρ H kvs xs
 | .dcf kvs=>∃o ks,H a=some (.frz o<|.dT ks)/\DV K ρ H kvs ks
 | .ins _ _=>∃o u,H a=some (.frz o u)
structure Rel (S:jH):Prop where
 len:ρ.length=S.length
 nd:ρ.Nodup
 «at»:∀(n:Nat) (a:ak) (o:O),ρ[n]?=some a->S[n]?=some o->OR K ρ H a o
end
abbrev Imm:HO->Prop
 | .tup _=>True
 | .rng _ _=>True
 | .frz _ _=>True
 | _=>False
structure Ext0 (ρ ρ':bb)(H H':Hp):Prop where
 pre:ρ <+: ρ'
 im:∀a u,Imm u->H a=some u->H' a=some u
structure Ext (ρ ρ':bb)(H H':Hp):Prop extends Ext0 ρ ρ' H H' where
 fr:∀a u,H a=some u->a∉ρ->H' a=some u
 nw:∀a,a∈ρ'->a∈ρ\/H a=none
def Ext.refl{H:Hp}:Ext ρ ρ H H:=⟨⟨dO _,λ_ _ _ h=>h⟩,λ_ _ h _=>h,λ_ h=>.inl h⟩
def Ext.trans{H H1 H2:Hp}(a:Ext ρ ρ1 H H1)(b:Ext ρ1 ρ2 H1 H2):Ext ρ ρ2 H H2:=⟨⟨a.pre.trans b.pre,λx u i h=>b.im x u i<|a.im x u i h⟩,λx u h n=>b.fr x u (a.fr x u h n) λz=>(a.nw x z).elim n λz=>by(rw[z]at h;cases h),λx h=>by
 by_cases d:x∈ρ
 ·exact .inl d
 ·right
  cases q:H x with
  | none=>rfl
  | some u=>
   rcases b.nw x h with z|z
   ·exact((a.nw x z).elim d λz=>by(rw[z]at q;cases q)).elim
   ·rw[a.fr x u q d]at z;cases z⟩
def Ext0.get{H H':Hp}(e:Ext0 ρ ρ' H H'){n:Nat}{a:ak}(h:ρ[n]?=some a):ρ'[n]?=some a:=by
 obtain⟨t,rfl⟩:=e.pre;rw[bz (aJ.mp h).1];exact h
section
variable {K:au}{ρ ρ':bb}{H H':Hp}
def Ext0.sqT(e:Ext0 ρ ρ' H H'){a:ak}(h:nj K H a vs):nj K H' a vs:=by
 rcases h with(h|⟨o,h⟩)|h
 ·exact .inl (.inl<|e.im _ _ trivial h)
 ·exact .inl (.inr ⟨o,e.im _ _ trivial h⟩)
 ·exact .inr h
def Ext0.fz(e:Ext0 ρ ρ' H H'){a:ak}(h:Fz K H a vs):Fz K H' a vs:=by
 rcases h with⟨o,h⟩|h
 ·exact .inl ⟨o,e.im _ _ trivial h⟩
 ·exact .inr h
def Fz.RZ{a:ak}(h:Fz K H a vs):pO K H a vs:=by
 rcases h with⟨o,h⟩|h
 ·exact .inl (.inr ⟨o,h⟩)
 ·exact .inr h
mutual
theorem AV.mG(e:Ext0 ρ ρ' H H'):∀{x:A}{v:V},AV K ρ H x v->AV K ρ' H' x v
 | _,_,.non=>.non
 | _,_,.bl b=>.bl b
 | _,_,.int i=>.int i
 | _,_,.str x=>.str x
 | _,_,.ty x=>.ty x
 | _,_,.tup h r=>.tup (e.im _ _ trivial h) (AVs.mG e r)
 | _,_,.frz h r=>.frz (e.fz h) (AVs.mG e r)
 | _,_,.rng h=>.rng (e.im _ _ trivial h)
 | _,_,.ref h=>.ref (e.get h)
 | _,_,.exn n h x=>.exn n (e.im _ _ trivial h) x
 | _,_,.ktu h r=>.ktu h<|AVs.mG e r
theorem AVs.mG(e:Ext0 ρ ρ' H H'):∀{xs:ae}{vs:List V},AVs K ρ H xs vs->AVs K ρ' H' xs vs
 | _,_,.nil=>.nil
 | _,_,.cons h t=>.cons (AV.mG e h)<|AVs.mG e t
end
theorem DV.mG(e:Ext0 ρ ρ' H H'):∀{xs:List<|ag×A}{vs:List<|List Key×V},DV K ρ H xs vs->DV K ρ' H' xs vs
 | [],[],_=>trivial
 | _::_,_::_,⟨⟨a,b⟩,r⟩=>⟨⟨a,AV.mG e b⟩,DV.mG e r⟩
def DV.ext{x:List<|ag×A}{v:List<|List Key×V}(h:DV K ρ H x v)(e:Ext ρ ρ' H H'):DV K ρ' H' x v:=DV.mG e.toExt0 h
theorem DI.mG(e:Ext0 ρ ρ' H H'):∀{xs:List<|Int×A}{vs:List<|Key×V},DI K ρ H xs vs->DI K ρ' H' xs vs
 | [],[],_=>trivial
 | _::_,_::_,⟨⟨a,b⟩,r⟩=>⟨⟨a,AV.mG e b⟩,DI.mG e r⟩
def DI.ext{x:List<|Int×A}{v:List<|Key×V}(h:DI K ρ H x v)(e:Ext ρ ρ' H H'):DI K ρ' H' x v:=DI.mG e.toExt0 h
def sN.mG{k:L2.m5}(e:Ext0 ρ ρ' H H'):L2.sN H b k->L2.sN H' b k:=λ⟨r1,r2,h1,h2,h3⟩=>⟨r1,r2,e.im _ _ trivial h1,e.im _ _ trivial h2,e.im _ _ trivial h3⟩
theorem DP.mG(e:Ext0 ρ ρ' H H'):∀{xs:List<|L2.m5×A}{vs:List<|L2.m5×ak×af},DP K ρ H xs vs->DP K ρ' H' xs vs
 | [],[],_=>trivial
 | _::_,_::_,⟨⟨a,k,v,c,b⟩,r⟩=>⟨⟨a,sN.mG e k,v,c,AV.mG e b⟩,DP.mG e r⟩
def DP.ext{x:List<|L2.m5×A}{v:List<|L2.m5×ak×af}(h:DP K ρ H x v)(e:Ext ρ ρ' H H'):DP K ρ' H' x v:=DP.mG e.toExt0 h
def AV.ext{x:A}{v:V}(h:AV K ρ H x v)(e:Ext ρ ρ' H H'):AV K ρ' H' x v:=AV.mG e.toExt0 h
def AVs.ext{x:ae}{v:List V}(h:AVs K ρ H x v)(e:Ext ρ ρ' H H'):AVs K ρ' H' x v:=AVs.mG e.toExt0 h
theorem AVs.length:∀{xs:ae}{vs:List V},AVs K ρ H xs vs->xs.length=vs.length
 | _,_,.nil=>rfl
 | _,_,.cons _ t=>c9 (·+1)<|AVs.length t
theorem AVs.append:∀{xs ys:ae}{vs ws:List V},AVs K ρ H xs vs->AVs K ρ H ys ws->AVs K ρ H (xs++ys) (vs++ws)
 | _,_,_,_,.nil,s=>s
 | _,_,_,_,.cons h t,s=>.cons h<|AVs.append t s
theorem AVs.take:∀{xs:ae}{vs:List V}(n:Nat),AVs K ρ H xs vs->AVs K ρ H (xs.take n) (vs.take n)
 | _,_,0,_=>.nil
 | _,_,_+1,.nil=>.nil
 | _,_,n+1,.cons h t=>.cons h<|AVs.take n t
theorem AVs.get:∀{xs:ae}{vs:List V}{i:Nat}{x:A},AVs K ρ H xs vs->xs[i]?=some x->∃v,vs[i]?=some v/\AV K ρ H x v
 | _,_,_,_,.nil,e=>by simp at e
 | _,_,0,_,.cons h _,e=>by simp at e;subst e;exact⟨_,rfl,h⟩
 | _,_,i+1,x,.cons _ t,e=>by
  obtain⟨u,h1,h2⟩:=AVs.get (i:=i) (x:=x) t (by simpa using e);exact⟨u,by simpa using h1,h2⟩
theorem AVs.set{x:A}{v:V}(h:AV K ρ H x v):∀{xs:ae}{vs:List V}(i:Nat),AVs K ρ H xs vs->AVs K ρ H (xs.set i x) (vs.set i v)
 | _,_,_,.nil=>.nil
 | _,_,0,.cons _ t=>.cons h t
 | _,_,i+1,.cons q t=>.cons q<|AVs.set h i t
def AVs.one{x:A}{v:V}(h:AV K ρ H x v):AVs K ρ H [x] [v]:=.cons h .nil
theorem AVs.eraseIdx:∀{xs:ae}{vs:List V}(i:Nat),AVs K ρ H xs vs->AVs K ρ H (xs.eraseIdx i) (vs.eraseIdx i)
 | _,_,_,.nil=>.nil
 | _,_,0,.cons _ t=>t
 | _,_,i+1,.cons q t=>.cons q<|AVs.eraseIdx i t
theorem qS:∀(ns:ag),AVs K ρ H (ns.map .int) (ns.map .int)
 | []=>.nil
 | n::ns=>.cons (.int n)<|qS ns
def Rel.lay{S:jH}{p:ak}(R:Rel K ρ H S)(hp:H p=none)(r:AVs K ρ H xs vs):Ext ρ (ρ++[p]) H (upd H p<|.lst vs)/\Rel K (ρ++[p]) (upd H p<|.lst vs) (S++[.lst xs])/\(ρ++[p])[S.length]?=some p:=by
 have ex:Ext ρ (ρ++[p]) H (upd H p<|.lst vs):=⟨⟨dP _ _,λa u _ h=>by rw[jI<|jX h hp];exact h⟩,λa u h _=>by rw[jI<|jX h hp];exact h,λa h=>by
  rcases bJ.mp h with z|z
  ·exact .inl z
  ·have e:a=p:=by simpa using z
   rw[e];exact .inr hp⟩
 have np:∀(n:Nat) (a:ak),ρ[n]?=some a->a≠p:=by
  intro n a e z;subst z;have hn:n<S.length:=by rw[<- R.len];exact(aJ.mp e).1
  have:=R.at n a S[n] e (aI hn)
  cases g:S[n]with
  | lst xs=>rw[g]at this;obtain⟨vs,h,_⟩:=this;rw[hp]at h;cases h
  | dct _|qi _|vA _=>rw[g]at this;obtain⟨vs,h,_⟩:=this;rw[hp]at h;cases h
  | dcf _=>rw[g]at this;obtain⟨_,vs,h,_⟩:=this;rw[hp]at h;cases h
  | ins _ _=>rw[g]at this;obtain⟨_,_,h⟩:=this;rw[hp]at h;cases h
 have d:(ρ++[p])[S.length]?=some p:=by rw[<- R.len];simp
 refine⟨ex,⟨by simp[R.len],?_,?_⟩,d⟩
 ·rw[cL];cb_eq;have:b=p:=by simpa using hb
  obtain⟨n,hn,m⟩:=bP.mp ha;exact np n a (by rw[aI hn,m])<|e.trans this
 ·intro n a o h1 h2;by_cases hn:n<S.length
  ·rw[bz<|by rw[R.len];exact hn]at h1;rw[bz hn]at h2;have:=R.at n a o h1 h2
   cases o with
   | lst ys=>obtain⟨f,e,q⟩:=this;exact⟨f,by rw[jI<|np n a h1];exact e,q.ext ex⟩
   | dct _|qi _|vA _=>obtain⟨f,e,q⟩:=this;exact⟨f,by rw[jI<|np n a h1];exact e,q.ext ex⟩
   | dcf _=>obtain⟨j,f,e,q⟩:=this;exact⟨j,f,by rw[jI<|np n a h1];exact e,q.ext ex⟩
   | ins _ _=>obtain⟨j,k,e⟩:=this;exact⟨j,k,by rw[jI<|np n a h1];exact e⟩
  ·have e:n=S.length:=by
    have:=(aJ.mp h2).1;simp at this
    lia
   subst e;rw[d]at h1
   cases h1
   simp at h2;subst h2;exact⟨vs,j3,r.ext ex⟩
def Rel.im{p:ak}(R:Rel K ρ H S)(hp:H p=none):Ext ρ ρ H (upd H p u)/\Rel K ρ (upd H p u) S:=by
 have ex:Ext ρ ρ H (upd H p u):=⟨⟨dO _,λa u _ h=>by rw[jI<|jX h hp];exact h⟩,λa u h _=>by rw[jI<|jX h hp];exact h,λ_ h=>.inl h⟩;refine⟨ex,R.len,R.nd,λn a o h1 h2=>?_⟩;have:=R.at n a o h1 h2
 cases o with
 | lst ys=>obtain⟨d,e,q⟩:=this;exact⟨d,by rw[jI<|jX e hp];exact e,q.ext ex⟩
 | dct _|qi _|vA _=>obtain⟨d,e,q⟩:=this;exact⟨d,by rw[jI<|jX e hp];exact e,q.ext ex⟩
 | dcf _=>obtain⟨f,d,e,q⟩:=this;exact⟨f,d,by rw[jI<|jX e hp];exact e,q.ext ex⟩
 | ins _ _=>obtain⟨f,g,e⟩:=this;exact⟨f,g,by rw[jI<|jX e hp];exact e⟩
def Rel.put{S:jH}{n:Nat}{a:ak}(R:Rel K ρ H S)(ha:ρ[n]?=some a)(hS:S[n]?=some (.lst xs))(r:AVs K ρ H ys ws):Ext ρ ρ H (upd H a<|.lst ws)/\Rel K ρ (upd H a<|.lst ws) (S.set n<|.lst ys):=by
 obtain⟨vs,e,_⟩:=R.at n a _ ha hS;have ex:Ext ρ ρ H (upd H a<|.lst ws):=⟨⟨dO _,λb u i h=>by
  have:b≠a:=by
   intro z;subst z;rw[e]at h;cases h;exact i
  rw[jI this];exact h⟩,λb u h n=>by
  rw[jI λz=>n<|by rw[z];exact bw ha];exact h,λ_ h=>.inl h⟩
 refine⟨ex,by rw[bT];exact R.len,R.nd,λm b o h1 h2=>?_⟩;by_cases g:m=n
 ·subst g;rw[ha]at h1;cases h1;rw[br (aJ.mp hS).1]at h2
  cases h2
  exact⟨ws,j3,r.ext ex⟩
 ·rw[bG<|cA g]at h2;have nb:b≠a:=λz=>by
   subst z;obtain⟨p,e1⟩:=aJ.mp ha;obtain⟨t,e2⟩:=aJ.mp h1;exact g<|(b7 R.nd).mp<|e2.trans e1.symm
  have:=R.at m b o h1 h2
  cases o with
  | lst ys=>obtain⟨d,f,q⟩:=this;exact⟨d,by rw[jI nb];exact f,q.ext ex⟩
  | dct _|qi _|vA _=>obtain⟨d,f,q⟩:=this;exact⟨d,by rw[jI nb];exact f,q.ext ex⟩
  | dcf _=>obtain⟨j,d,f,q⟩:=this;exact⟨j,d,by rw[jI nb];exact f,q.ext ex⟩
  | ins _ _=>obtain⟨j,k,f⟩:=this;exact⟨j,k,by rw[jI nb];exact f⟩
def Rel.lst{n:Nat}{a:ak}(R:Rel K ρ H S)(ha:ρ[n]?=some a)(hS:S[n]?=some (.lst xs)):∃vs,H a=some (.lst vs)/\AVs K ρ H xs vs:=R.at n a _ ha hS
structure SR (K:au)(ρ:bb)(H:Hp)(τ:ae)(σ:St):Prop where
 len:τ.length=σ.length
 «at»:∀(i:Nat) (a:A),τ[i]?=some a->a=.unb\/∃v,σ[i]?=some (some v)/\AV K ρ H a v
def SR.mG(s:SR K ρ H τ σ)(e:Ext0 ρ ρ' H H'):SR K ρ' H' τ σ:=⟨s.len,λi a h=>by
 rcases s.at i a h with z|⟨v,h1,h2⟩
 ·exact .inl z
 ·exact .inr ⟨v,h1,AV.mG e h2⟩⟩
def SR.ext(s:SR K ρ H τ σ)(e:Ext ρ ρ' H H'):SR K ρ' H' τ σ:=s.mG e.toExt0
def Rel.out{D:ak}(R:Rel K ρ H S)(hD:H D=some (.lst vs))(hn:D∉ρ):Ext0 ρ ρ H (upd H D<|.lst ws)/\Rel K ρ (upd H D<|.lst ws) S:=by
 have ex:Ext0 ρ ρ H (upd H D<|.lst ws):=⟨dO _,λb u i h=>by
  have:b≠D:=by
   intro z;subst z;rw[hD]at h;cases h;exact i
  rw[jI this];exact h⟩
 refine⟨ex,R.len,R.nd,λn a o h1 h2=>?_⟩;have na:a≠D:=λz=>hn (by rw[<- z];exact bw h1);have:=R.at n a o h1 h2
 cases o with
 | lst ys=>obtain⟨d,e,q⟩:=this;exact⟨d,by rw[jI na];exact e,AVs.mG ex q⟩
 | dct _|qi _|vA _=>obtain⟨d,e,q⟩:=this;exact⟨d,by rw[jI na];exact e,q.mG ex⟩
 | dcf _=>obtain⟨f,d,e,q⟩:=this;exact⟨f,d,by rw[jI na];exact e,q.mG ex⟩
 | ins _ _=>obtain⟨f,g,e⟩:=this;exact⟨f,g,by rw[jI na];exact e⟩
def Rel.take{S:jH}{D:ak}(R:Rel K ρ H S)(hD:H D=some (.lst vs))(hn:D∉ρ)(r:AVs K ρ H xs vs):Rel K (ρ++[D]) H (S++[.lst xs])/\(ρ++[D])[S.length]?=some D:=by
 have ex:Ext0 ρ (ρ++[D]) H H:=⟨dP _ _,λ_ _ _ h=>h⟩;have d:(ρ++[D])[S.length]?=some D:=by rw[<- R.len];simp
 refine⟨⟨by simp[R.len],?_,λn a o h1 h2=>?_⟩,d⟩
 ·rw[cL];cb_eq;have:b=D:=by simpa using hb
  exact hn<|by rw[<- this,<- e];exact ha
 ·by_cases hs:n<S.length
  ·rw[bz<|by rw[R.len];exact hs]at h1;rw[bz hs]at h2;have:=R.at n a o h1 h2
   cases o with
   | lst ys=>obtain⟨f,e,q⟩:=this;exact⟨f,e,AVs.mG ex q⟩
   | dct _|qi _|vA _=>obtain⟨f,e,q⟩:=this;exact⟨f,e,q.mG ex⟩
   | dcf _=>obtain⟨g,f,e,q⟩:=this;exact⟨g,f,e,q.mG ex⟩
   | ins _ _=>obtain⟨g,j,e⟩:=this;exact⟨g,j,e⟩
  ·have e:n=S.length:=by
    have:=(aJ.mp h2).1;simp at this
    lia
   subst e;rw[d]at h1
   cases h1
   simp at h2;subst h2;exact⟨vs,hD,AVs.mG ex r⟩
def SR.set{τ:ae}{σ:St}{a:A}{v:V}(s:SR K ρ H τ σ)(h:AV K ρ H a v):SR K ρ H (τ.set i a) (σ.set i<|some v):=by
 refine⟨by simp[s.len],λj b e=>?_⟩;by_cases d:j=i
 ·subst d;have f:j<τ.length:=by
   have:=(aJ.mp e).1;simpa using this
  rw[br f]at e
  cases e
  exact .inr ⟨v,br<|by rw[<- s.len];exact f,h⟩
 ·rw[bG<|cA d]at e;rw[bG<|cA d];exact s.at j b e
end
end Am
namespace Am
open PySem PySem.Spec PyProof.Rows L2
abbrev XE (X:Cx)(ρ:bb)(H:Hp):Str->jH->Prop:=λc d=>∀(C:ak) (ρ':bb) (H':Hp),F4 X.K c C->Ext ρ ρ' H H'->Rel X.K ρ' H' d->EX X (.ref C) none H'
def XE.ext{X:Cx}{H H':Hp}{c:Str}(h:XE X ρ H c S)(e:Ext ρ ρ' H H'):XE X ρ' H' c S:=λC ρ2 H2 n e2=>h C ρ2 H2 n<|e.trans e2
abbrev yE (X:Cx)(ρ:bb)(H:Hp)(Q:VK):A->jH->Prop:=λa d=>∀ρ' H' v,Ext ρ ρ' H H'->Rel X.K ρ' H' d->AV X.K ρ' H' a v->Q v H'
abbrev okB (X:Cx)(ρ:bb)(H:Hp)(Q:Bool->Hp->Prop):Bool->jH->Prop:=λb d=>∀ρ' H',Ext ρ ρ' H H'->Rel X.K ρ' H' d->Q b H'
abbrev okL (X:Cx)(ρ:bb)(H:Hp)(Q:List V->Hp->Prop):ae->jH->Prop:=λf d=>∀ρ' H' vs,Ext ρ ρ' H H'->Rel X.K ρ' H' d->AVs X.K ρ' H' f vs->Q vs H'
def yE.ext{X:Cx}{H H':Hp}{Q:VK}{a:A}(h:yE X ρ H Q a S)(e:Ext ρ ρ' H H'):yE X ρ' H' Q a S:=λρ2 H2 v e2=>h ρ2 H2 v<|e.trans e2
def okB.ext{X:Cx}{H H':Hp}{Q:Bool->Hp->Prop}{a:Bool}(h:okB X ρ H Q a S)(e:Ext ρ ρ' H H'):okB X ρ' H' Q a S:=λρ2 H2 e2=>h ρ2 H2<|e.trans e2
def jJ{α:Type}{X:Cx}{H H':Hp}{r:R α}{P P':α->jH->Prop}(h:r.post P<|XE X ρ H)(e:Ext ρ ρ' H H')(hp:∀a S,P a S->P' a S):r.post P' (XE X ρ' H'):=xQ h hp λ_ _ z=>z.ext e
abbrev tE (X:Cx)(c:Ex):TE:=λσ H Q=>∃ρ S τ,Rel X.K ρ H S/\SR X.K ρ H τ σ/\(c τ S).post (yE X ρ H Q) (XE X ρ H)
abbrev tT (X:Cx)(c:Te):TT:=λσ H Q=>∃ρ S τ,Rel X.K ρ H S/\SR X.K ρ H τ σ/\(c τ S).post (okB X ρ H Q) (XE X ρ H)
abbrev tL (X:Cx)(c:rj):TA:=λσ H Q=>∃ρ S τ,Rel X.K ρ H S/\SR X.K ρ H τ σ/\(c τ S).post (okL X ρ H Q) (XE X ρ H)
abbrev AE (X:Cx)(e:aE)(c:Ex):Prop:=PE X e<|tE X c
abbrev AT (X:Cx)(e:aE)(c:Te):Prop:=PT X e<|tT X c
abbrev AW (X:Cx)(e:aE)(c:Te):Prop:=PW X e<|tT X c
abbrev AL (X:Cx)(es:List aE)(c:rj):Prop:=PA X es<|tL X c
def PE.imp{X:Cx}{e:aE}{t t':TE}(h:PE X e t)(i:∀σ H Q,t' σ H Q->t σ H Q):PE X e t':=λpins s σ H Q I q=>h pins s σ H Q I<|i σ H Q q
def PT.imp{X:Cx}{e:aE}{t t':TT}(h:PT X e t)(i:∀σ H Q,t' σ H Q->t σ H Q):PT X e t':=λpins s σ H Q I q=>h pins s σ H Q I<|i σ H Q q
def PW.imp{X:Cx}{e:aE}{t t':TT}(h:PW X e t)(i:∀σ H Q,t' σ H Q->t σ H Q):PW X e t':=λw pins s σ H Q I q=>h w pins s σ H Q I<|i σ H Q q
def PA.imp{X:Cx}{e:List aE}{t t':TA}(h:PA X e t)(i:∀σ H Q,t' σ H Q->t σ H Q):PA X e t':=λp pins s σ H Q I q=>h p pins s σ H Q I<|i σ H Q q
def AW.at{X:Cx}{e:aE}{c:Te}(h:AW X e c):AT X e c:=h _
abbrev A.oX:A->Bool
 | .unb=>true
 | _=>false
abbrev jD (i:Nat):Ex:=λτ S=>if (τ.getD i .unb).oX then .no else .ok (τ.getD i .unb) S
abbrev eC (a:A):Ex:=λ_ S=>.ok a S
section
variable {X:Cx}{pos:Pos}{a b:aE}
def jC(i:Nat){x:Str}(hN:X.N[i]?=some x<|>ε)(hv:Vis X.env.scope x:=by first|exact Or.inl rfl|exact Or.inr (Or.inl rfl)|exact Or.inr<|Or.inr rfl)(hd:(x == ("__debug__" : Str))=false:=by decide)
  (hcd:(x == ("__classdict__" : Str))=false:=by decide):AE X (.Name x pos) (jD i):=PE.imp (YS hN hv hd hcd) λσ H Q h9=>by
 z_go;unfold jD at h
 cases d:τ[i]? with
 | none=>
  rw[aK,d]at h;exact h.elim
 | some x=>
  rw[aK,d]at h
  rcases r.at i x d with z|⟨v,e,q⟩
  ·subst z;exact h.elim
  ·refine⟨v,e,?_⟩
   cases x<;>first|(exact h ρ H v .refl R q)|exact h.elim
def jR{i:Int}{j pos}:AE X (.Constant (.int i) j pos) (eC<|.int i):=PE.imp Y7 λσ H Q ⟨ρ,S,τ,R,r,h⟩=>h ρ H _ .refl R<|.int i
def HF{j pos}:AE X (.Constant (.bool i) j pos) (eC<|.bl i):=PE.imp aaR λσ H Q ⟨ρ,S,τ,R,r,h⟩=>h ρ H _ .refl R<|.bl i
def se{x:Str}{j pos}:AE X (.Constant (.str x) j pos) (eC<|.str x):=PE.imp Xu λσ H Q ⟨ρ,S,τ,R,r,h⟩=>h ρ H _ .refl R<|.str x
def Np{x:Str}{i:Int}{t:Tok}(hm:X.mg x=some (.int i t))(hg:Gl X x<|>ε)(hd:(x == ("__debug__" : Str))=false<|>δ):AE X (.Name x pos) (eC<|.int i):=
 PE.imp (CY (v:=.int i) hg hm ⟨t,rfl⟩ hd) λσ H Q ⟨ρ,S,τ,R,r,h⟩=>h ρ H _ .refl R<|.int i
abbrev jT (f:A->A->jH->R A)(ca cb:Ex):Ex:=λτ S=>(ca τ S).bind λa S1=>(cb τ S1).bind λb S2=>f a b S2
abbrev r2 (X:Cx)(f:A->A->jH->R A):R2:=λx y H Q=>∃ρ S a b,Rel X.K ρ H S/\AV X.K ρ H a x/\AV X.K ρ H b y/\(f a b S).post (yE X ρ H Q) (XE X ρ H)
abbrev r1 (X:Cx)(f:A->jH->R A):V->Hp->VK->Prop:=λx H Q=>∃ρ S a,Rel X.K ρ H S/\AV X.K ρ H a x/\(f a S).post (yE X ρ H Q) (XE X ρ H)
abbrev rN (X:Cx)(f:ae->jH->R A):List V->Hp->VK->Prop:=λxs H Q=>∃ρ S d,Rel X.K ρ H S/\AVs X.K ρ H d xs/\(f d S).post (yE X ρ H Q) (XE X ρ H)
def oW.imp{f:af->af->Sem af}{r r':R2}(h:oW X f r)(i:∀x y H Q,r' x y H Q->r x y H Q):oW X f r':=λpins s σ H x y v u Q I rx ry q=>h pins s σ H x y v u Q I rx ry<|i _ _ _ _ q
def j7.imp{f:af}{r r':List V->Hp->VK->Prop}(h:j7 X f r)(i:∀x H Q,r' x H Q->r x H Q):j7 X f r':=λpins s σ H x v Q I rx q=>h pins s σ H x v Q I rx<|i _ _ _ q
def tB{f:A->A->jH->R A}{ca cb:Ex}{H:Hp}{Q:VK}(h:tE X (jT f ca cb) σ H Q):Zx (r2 X f) (tE X ca) (tE X cb) σ H Q:=by
 kl_no;refine⟨ρ,S,τ,R,r,jJ (jO h) .refl λa S1 h1 ρ1 H1 x e1 R1 v1=>⟨ρ1,S1,τ,R1,r.ext e1,jJ (jO h1) e1 λb S2 h2 ρ2 H2 y e2 R2 v2=>?_⟩⟩;exact⟨ρ2,S2,a,b,R2,v1.ext e2,v2,jJ h2 (e1.trans e2) λc S3 h3=>h3.ext<|e1.trans e2⟩
def j0{f:A->A->jH->R A}{ca cb:Ex}(ho:oW X (binaryOp op)<|r2 X f)(ha:AE X a ca)(hb:AE X b cb):AE X (.BinOp a op b pos) (jT f ca cb):=
 PE.imp (aaH ho ha hb) λσ H Q h=>tB h
def Yg{op:CmpOp}{f:A->A->jH->R A}{ca cb:Ex}(ho:oW X (compareOp op)<|r2 X f)(ha:AE X a ca)(hb:AE X b cb)(hm:behindInMarks op b=false:=by first|exact M4 _|with_unfolding_all rfl):AE X (.Compare a [op] [b] pos) (jT f ca cb):=
 PE.imp (UO ho ha hb hm) λσ H Q h=>tB h
abbrev A.VJ:A->jH->bi
 | .non,_=>some false
 | .bl b,_=>some b
 | .int i,_=>some (i != 0)
 | .str x,_=>if x.length<=sizeLine then some ((x.length:Int) != 0)else none
 | .tup xs,_=>some (!xs.isEmpty)
 | .frz xs,_=>some (!xs.isEmpty)
 | .ref n,S=>(jF S n).map λxs=>!xs.isEmpty
 | _,_=>none
abbrev r9 (c:Ex):Te:=λτ S=>(c τ S).bind λa S1=>opt (a.VJ S1) λb=>.ok b S1
abbrev ux (c:Ex):Te:=λτ S=>(c τ S).bind λa S1=>match a with
 | .bl b=>.ok b S1
 | _=>.no
def Ff{K:au}{H:Hp}{b:Bool}{v:V}(h:AV K ρ H (.bl b) v):v=.bl b:=by cases h;rfl
def lA{op:CmpOp}{f:A->A->jH->R A}{ca cb:Ex}(ho:oW X (compareOp op)<|r2 X f)(ha:AE X a ca)(hb:AE X b cb)(hm:behindInMarks op b=false:=by first|exact M4 _|with_unfolding_all rfl):AT X (.Compare a [op] [b] pos) (ux<|jT f ca cb):=
 PT.imp (Sy ho ha hb hm) λσ H Q h9=>by
  z_go;refine tB ⟨ρ,S,τ,R,r,jJ (jO h) .refl λc S1 h1 ρ1 H1 x e1 R1 v1=>?_⟩
  cases c with
  | bl k=>cases Ff v1;exact⟨k,rfl,h1 ρ1 H1 e1 R1⟩
  | _=>exact h1.elim
def Yr{K:au}{H:Hp}{x:A}{v:V}{b:Bool}(R:Rel K ρ H S)(h:AV K ρ H x v)(e:x.VJ S=some b):YY K v H b:=by
 have d:∀{xs:ae} {vs:List V},AVs K ρ H xs vs->(!xs.isEmpty)=!vs.isEmpty:=λr=>by cases r<;>rfl
 cases h with
 | non=>exact(aZ e).symm
 | bl b=>exact(aZ e).symm
 | int i=>exact(aZ e).symm
 | str x=>
  by_cases f:x.length<=sizeLine
  ·exact⟨f,by have:=(aS f).symm.trans e;exact(aZ this).symm⟩
  ·have:=(aQ f).symm.trans e;cases this
 | tup h r=>exact .inr (.inl ⟨_,nj.of h,by rw[<- d r];exact(aZ e).symm⟩)
 | frz h r=>exact .inl ⟨_,h.RZ,by rw[<- d r];exact(aZ e).symm⟩
 | rng h=>cases e
 | ty n=>cases e
 | exn n h x=>cases e
 | ktu h r=>cases e
 | @ref a n h=>
  have e:(jF S n).map (λxs=>!xs.isEmpty)=some b:=e;obtain⟨xs,hn,e⟩:=aW.mp e;obtain⟨vs,h1,h2⟩:=R.lst h<|jU hn;exact .inl ⟨vs,pO.of h1,by rw[<- d h2];exact e.symm⟩
def qQ{ca:Ex}(ha:AE X a ca)(he:(∀whole,isTrue a X.env whole=(do let v <- whole;standAt a.pos;holding [v] (truthy v)))<|>ζ):AT X a (r9 ca):=
 PT.imp (PR ha he) λσ H Q ⟨ρ,S,τ,R,r,h⟩=>⟨ρ,S,τ,R,r,jJ (jO h) .refl λc S1 h1 ρ1 H1 x e1 R1 v1=>by
  obtain⟨b,hb,h1⟩:=jK h1;exact⟨b,Yr R1 v1 hb,h1 ρ1 H1 e1 R1⟩⟩
abbrev OH (c:Te):Te:=λτ S=>(c τ S).bind λb S1=>.ok (!b) S1
abbrev zm (c d:Te):Te:=λτ S=>(c τ S).bind λb S1=>match b with|true=>d τ S1|false=>.ok false S1
abbrev Xv (c d:Te):Te:=λτ S=>(c τ S).bind λb S1=>match b with|true=>.ok true S1|false=>d τ S1
def FZ{c:Te}(h:AT X a c):AT X (.UnaryOp .Not a pos) (OH c):=PT.imp (Xj h) λσ H Q ⟨ρ,S,τ,R,r,h⟩=>⟨ρ,S,τ,R,r,jJ (jO h) .refl λb S1 h1=>h1⟩
def and_imp{c d:Te}{H:Hp}{Q:Bool->Hp->Prop}(h:tT X (zm c d) σ H Q):Zz (tT X c) (tT X d) σ H Q:=by
 kl_no;refine⟨ρ,S,τ,R,r,jJ (jO h) .refl λb S1 h1 ρ1 H1 e1 R1=>?_⟩
 cases b with
 | true=>
  rw[aS rfl];exact⟨ρ1,S1,τ,R1,r.ext e1,jJ h1 e1 λ_ _ z=>z.ext e1⟩
 | false=>
  rw[aQ bF];exact h1 ρ1 H1 e1 R1
def or_imp{c d:Te}{H:Hp}{Q:Bool->Hp->Prop}(h:tT X (Xv c d) σ H Q):tOr (tT X c) (tT X d) σ H Q:=by
 kl_no;refine⟨ρ,S,τ,R,r,jJ (jO h) .refl λb S1 h1 ρ1 H1 e1 R1=>?_⟩
 cases b with
 | false=>
  rw[aQ bF];exact⟨ρ1,S1,τ,R1,r.ext e1,jJ h1 e1 λ_ _ z=>z.ext e1⟩
 | true=>
  rw[aS rfl];exact h1 ρ1 H1 e1 R1
variable {rest:List aE}
def DN{c:Te}(h:AT X a c):AW X (.BoolOp .And [a] pos) c:=Ug h
def G_{c:Te}(h:AT X a c):AW X (.BoolOp .Or [a] pos) c:=Wt h
def GK{c d:Te}(h:AT X a c)(h2:AW X (.BoolOp .And (b::rest) pos) d):AW X (.BoolOp .And (a::b::rest) pos) (zm c d):=PW.imp (YW h h2) λ_ _ _ q=>and_imp q
def Hy{c d:Te}(h:AT X a c)(h2:AW X (.BoolOp .Or (b::rest) pos) d):AW X (.BoolOp .Or (a::b::rest) pos) (Xv c d):=PW.imp (aaZ h h2) λ_ _ _ q=>or_imp q
abbrev OL (c d:Ex):Ex:=λτ S=>(c τ S).bind λa S1=>match a with | .bl true=>d τ S1 | .bl false=>.ok (.bl false) S1|_=>.no
abbrev eOr (c d:Ex):Ex:=λτ S=>(c τ S).bind λa S1=>match a with | .bl true=>.ok (.bl true) S1 | .bl false=>d τ S1|_=>.no
abbrev Yv (c:Ex):Ex:=λτ S=>(c τ S).bind λa S1=>match a with | .bl b=>.ok (.bl !b) S1|_=>.no
def Oc{op}{c:Ex}(h:AE X a c):AE X (.BoolOp op [a] pos) c:=XS h
def Mn{c d:Ex}(h:AE X a c)(h2:AE X (.BoolOp .And (b::rest) pos) d):AE X (.BoolOp .And (a::b::rest) pos) (OL c d):=PE.imp (WL h h2) λσ H Q h9=>by
 z_go;refine⟨ρ,S,τ,R,r,jJ (jO h) .refl λb S1 h1 ρ1 H1 x e1 R1 v1=>?_⟩
 cases b with
 | bl k=>
  cases Ff v1
  refine⟨k,rfl,?_⟩
  cases k with
  | true=>
   rw[aS rfl];exact⟨ρ1,S1,τ,R1,r.ext e1,jJ h1 e1 λ_ _ z=>z.ext e1⟩
  | false=>
   rw[aQ bF];exact h1 ρ1 H1 _ e1 R1<|.bl false
 | _=>exact h1.elim
def Wq{c:Ex}(h:AE X a c):AE X (.UnaryOp .Not a pos) (Yv c):=PE.imp (X4 h) λσ H Q h9=>by
 z_go;refine⟨ρ,S,τ,R,r,jJ (jO h) .refl λb S1 h1 ρ1 H1 x e1 R1 v1=>?_⟩
 cases b with
 | bl k=>
  cases Ff v1
  exact⟨k,rfl,h1 ρ1 H1 _ e1 R1<|.bl _⟩
 | _=>exact h1.elim
abbrev eIf (t:Te)(c d:Ex):Ex:=λτ S=>(t τ S).bind λb S1=>match b with|true=>c τ S1|false=>d τ S1
abbrev jP:rj:=λ_ S=>.ok [] S
abbrev jE (c:Ex)(d:rj):rj:=λτ S=>(c τ S).bind λa S1=>(d τ S1).bind λf S2=>.ok (a::f) S2
def jQ:AL X [] jP:=PA.imp wK λσ H Q ⟨ρ,S,τ,R,r,h⟩=>h ρ H _ .refl R .nil
def jG{e:aE}{c:Ex}{d:rj}(ha:AE X e c)(hr:AL X es d)(hs:starEach (e::es) X.env=(false,eval e X.env)::starEach es X.env<|>ε):AL X (e::es) (jE c d):=
 PA.imp (qo ha hr hs) λσ H Q h9=>by
  z_go;refine⟨ρ,S,τ,R,r,jJ (jO h) .refl λa S1 h1 ρ1 H1 x e1 R1 v1=>⟨ρ1,S1,τ,R1,r.ext e1,jJ (jO h1) e1 λf S2 h2 ρ2 H2 xs e2 R2 v2=>?_⟩⟩;exact h2 ρ2 H2 _ (e1.trans e2) R2<|.cons (v1.ext e2) v2
abbrev sX (d:rj):Ex:=λτ S=>(d τ S).bind λf S1=>gd (f.length<=sizeLine)<|.ok (.tup f) S1
abbrev newL (as:ae)(S:jH):R A:=gd (as.length<=sizeLine)<|.ok (.ref S.length)<|S++[.lst as]
abbrev tM (d:rj):Ex:=λτ S=>(d τ S).bind λf S1=>newL f S1
def xH{H H0:Hp}{Q:VK}(R:Rel X.K ρ H S)(r:AVs X.K ρ H as vs)(e:Ext ρ0 ρ H0 H)(h:yE X ρ0 H0 Q (.tup as) S):∀p,H p=none->Q (.ref p) (upd H p<|.tup vs):=λp hp=>by
 obtain⟨ex,d⟩:=R.im (u:=.tup vs) hp;exact h ρ _ _ (e.trans ex) d<|.tup j3<|r.ext ex
def oM{H H0:Hp}{S:jH}{Q:VK}(R:Rel X.K ρ H S)(r:AVs X.K ρ H as vs)(e:Ext ρ0 ρ H0 H)(h:yE X ρ0 H0 Q (.ref S.length)<|S++[.lst as]):∀p,H p=none->Q (.ref p) (upd H p<|.lst vs):=λp hp=>by
 obtain⟨ex,d,g⟩:=R.lay hp r;exact h _ _ _ (e.trans ex) d<|.ref g
def TM{H H0:Hp}{vs:List V}{Q:VK}(R:Rel X.K ρ H S)(r:AVs X.K ρ H as vs)(e:Ext ρ0 ρ H0 H)(h:(newL as S).post (yE X ρ0 H0 Q)<|XE X ρ0 H0):vs.length<=sizeLine/\∀p,H p=none->Q (.ref p) (upd H p<|.lst vs):=by
 obtain⟨d,h⟩:=j4 h;exact⟨by rw[<- r.length];exact d,oM R r e h⟩
def rT{d:rj}{x1}(h:AL X es d):AE X (.Tuple es x1 pos) (sX d):=PE.imp (Wi h) λσ H Q h9=>by
 z_go;refine⟨ρ,S,τ,R,r,jJ (jO h) .refl λg S1 h1 ρ1 H1 xs e1 R1 v1=>?_⟩;obtain⟨f,h1⟩:=j4 h1;exact⟨by rw[<- v1.length];exact f,xH R1 v1 e1 h1⟩
def nZ{d:rj}(h:AL X es d):AE X (.List es pos) (tM d):=PE.imp (Wk h) λσ H Q ⟨ρ,S,τ,R,r,h⟩=>
 ⟨ρ,S,τ,R,r,jJ (jO h) .refl λf S1 h1 ρ1 H1 xs e1 R1 v1=>TM R1 v1 e1 h1⟩
end
section
variable {X:Cx}{pos:Pos}{a b:aE}
abbrev aSub (a b:A)(S:jH):R A:=match a,b with
 | .int i,.int j=>.ok (.int<|i-j) S
 | _,_=>.no
def xr:oW X (binaryOp .Sub) (r2 X aSub):=oW.imp XG λx y H Q h9=>by
 w_up
 cases va<;>first|exact h.elim|(cases vb<;>first|exact h.elim|exact⟨_,_,rfl,rfl,h _ _ _ .refl R<|.int _⟩)
abbrev wZ (i j:Int):Bool:=(decide (-(2 ^ 64)<i) && decide (i<2 ^ 64)) || (decide (-(2 ^ 64)<j) && decide (j<2 ^ 64))
def mulOk_of{i j:Int}(h:wZ i j=true):RU i j:=by
 unfold wZ at h;dsimp[Bool.or_eq_true,cU,g_]at h;exact h
abbrev ym (a b:A)(S:jH):R A:=match a,b with
 | .int i,.int j=>gd (wZ i j) (.ok (.int<|i * j) S)
 | .ref n,.int k=>opt (jF S n) λxs=>gd (-(2 ^ 63)<=k/\k<2 ^ 63/\xs.length * k.toNat<=sizeLine) (.ok (.ref S.length)<|S++[.lst (List.replicate k.toNat xs).flatten])
 | _,_=>.no
theorem AVs.rep{K:au}{H:Hp}(r:AVs K ρ H xs vs):∀k:Nat,AVs K ρ H (List.replicate k xs).flatten (List.replicate k vs).flatten
 | 0=>.nil
 | k+1=>by rw[dg,dg,dh,dh];exact r.append<|AVs.rep r k
def zU:oW X (binaryOp .Mult) (r2 X ym):=λpins s σ H x y v u Q I rx ry h9=>by
 w_up
 cases va with
 | int i=>
  cases vb with
  | int j=>
   obtain⟨d,h⟩:=j4 h;exact X8 pins s σ H _ _ v u Q I rx ry ⟨i,j,rfl,rfl,mulOk_of d,h _ _ _ .refl R<|.int _⟩
  | _=>exact h.elim
 | @ref p n hp=>
  cases vb with
  | int k=>
   kcf_m;obtain⟨hc,h⟩:=j4 h;obtain⟨vs,h1,h2⟩:=R.lst hp<|jU hn;exact WU pins s σ H _ _ v u Q I rx ry ⟨p,k,vs,rfl,rfl,h1,hc.1,hc.2.1,by rw[<- h2.length];exact hc.2.2,oM R (h2.rep _) .refl h⟩
  | _=>exact h.elim
 | _=>exact h.elim
abbrev Ad (a b:A)(S:jH):R A:=match a,b with
 | .int i,.int j=>gd (0<j/\j<18446744073709551616) (.ok (.int<|i / j) S)
 | _,_=>.no
def Dz:oW X (binaryOp .FloorDiv) (r2 X Ad):=oW.imp MF λx y H Q h9=>by
 w_up
 cases va<;>first|exact h.elim|(cases vb<;>first|exact h.elim|exact⟨_,_,rfl,rfl,(j4 h).1,(j4 h).2 _ _ _ .refl R<|.int _⟩)
abbrev Cc (a b:A)(S:jH):R A:=match a,b with
 | .int i,.int j=>gd (0<j) (.ok (.int<|i % j) S)
 | _,_=>.no
def BI:oW X (binaryOp .Mod) (r2 X Cc):=oW.imp YZ λx y H Q h9=>by
 w_up
 cases va<;>first|exact h.elim|(cases vb<;>first|exact h.elim|exact⟨_,_,rfl,rfl,(j4 h).1,(j4 h).2 _ _ _ .refl R<|.int _⟩)
abbrev Wu (a b:A)(S:jH):R A:=match a,b with
 | .int i,.int j=>gd (0<=j/\j<=1000000/\i.natAbs<2 ^ 64) (.ok (.int<|i ^ j.toNat) S)
 | _,_=>.no
def Zt:oW X (binaryOp .Pow) (r2 X Wu):=oW.imp Y6 λx y H Q h9=>by
 w_up
 cases va<;>first|exact h.elim|(cases vb<;>first|exact h.elim|exact⟨_,_,rfl,rfl,(j4 h).1,(j4 h).2 _ _ _ .refl R<|.int _⟩)
abbrev pT (a b:A)(S:jH):R A:=match a,b with
 | .int i,.int j=>.ok (.int<|i+j) S
 | .tup xs,.tup ys=>gd (xs.length+ys.length<=sizeLine) (.ok (.tup<|xs++ys) S)
 | .str x,.str y=>gd (x.length+y.length<=sizeLine) (.ok (.str<|x++y) S)
 | .ref n,.ref m=>opt (jF S n) λxs=>opt (jF S m) λys=>gd (xs.length+ys.length<=sizeLine) (.ok (.ref S.length)<|S++[.lst<|xs++ys])
 | _,_=>.no
def AVs.nil_inv{K:au}{H:Hp}(r:AVs K ρ H xs vs):xs=[] ↔ vs=[]:=by cases r<;>simp
def oZ:oW X (binaryOp .Add) (r2 X pT):=λpins s σ H x y v u Q I rx ry h9=>by
 w_up
 cases va with
 | int i=>
  cases vb with
  | int j=>exact Xk pins s σ H _ _ v u Q I rx ry ⟨i,j,rfl,rfl,h _ _ _ .refl R<|.int _⟩
  | _=>exact h.elim
 | str x=>
  cases vb with
  | str y=>
   obtain⟨hc,h⟩:=j4 h;exact G1 pins s σ H _ _ v u Q I rx ry ⟨x,y,rfl,rfl,hc,h _ _ _ .refl R<|.str _⟩
  | _=>exact h.elim
 | @tup p xs vs h1 r1=>
  cases vb with
  | @tup q ys d h2 r2=>
   obtain⟨hc,h⟩:=j4 h;by_cases hv:vs=[]
   ·have k:=r1.nil_inv.mpr hv;subst hv k;exact Rm pins s σ H _ _ v u Q I rx ry ⟨p,q,d,rfl,rfl,nj.of h1,nj.of h2,h _ _ _ .refl R<|.tup h2 r2⟩
   ·refine Ue pins s σ H _ _ v u Q I rx ry ⟨p,q,vs,d,rfl,rfl,nj.of h1,nj.of h2,hv,by rw[<- r1.length,<- r2.length];exact hc,λe=>?_,λ_=>xH R (r1.append r2) .refl h⟩;have hy:=r2.nil_inv.mpr e;subst hy;rw[bO]at h;exact h _ _ _ .refl R<|.tup h1 r1
  | _=>exact h.elim
 | @ref p n hp=>
  cases vb with
  | @ref q m hq=>
   kcf_m;obtain⟨ys,g,h⟩:=jK h;obtain⟨hc,h⟩:=j4 h;obtain⟨vs,h1,h2⟩:=R.lst hp<|jU hn;obtain⟨d,h3,f⟩:=R.lst hq<|jU g;exact W_ pins s σ H _ _ v u Q I rx ry ⟨p,q,vs,d,rfl,rfl,h1,h3,by rw[<- h2.length,<- f.length];exact hc,oM R (h2.append f) .refl h⟩
  | _=>exact h.elim
 | _=>exact h.elim
abbrev A.ints:ae->Option (ag)
 | []=>some []
 | .int i::xs=>(A.ints xs).map (i::·)
 | _=>none
def WR{x:A}{bs:ag}(e:A.ints (x::xs)=some bs):∃b cs,x=.int b/\A.ints xs=some cs/\bs=b::cs:=by
 unfold A.ints at e;split at e
 ·rename_i z;cases z
 ·rename_i i ys z
  cases z
  obtain⟨cs,h1,h2⟩:=aW.mp e;exact⟨i,cs,rfl,h1,h2.symm⟩
 ·cases e
def pQ{K:au}{H:Hp}:∀{xs:ae}{vs:List V}{bs:ag},AVs K ρ H xs vs->A.ints xs=some bs->vs=bs.map V.int:=by
 intro xs
 induction xs with
 | nil=>
  intro vs bs h e
  cases h
  cases e
  rfl
 | cons x xs d=>
  intro vs bs h e;obtain⟨b,cs,rfl,e1,rfl⟩:=WR e
  cases h with
  | cons h t=>
   cases h
   rw[d t e1];rfl
abbrev XX (a b:A)(S:jH):R A:=match a,b with
 | .int i,.int j=>.ok (.bl<|decide<|i<j) S
 | _,_=>.no
def RM(hu:X.A.units+64<cLine):oW X (compareOp .Lt) (r2 X XX):=λpins s σ H x y v u Q I rx ry h9=>by
 w_up
 cases va with
 | int i=>
  cases vb with
  | int j=>exact Z4 pins s σ H _ _ v u Q I rx ry ⟨i,j,rfl,rfl,h _ _ _ .refl R<|.bl _⟩
  | _=>exact h.elim
 | _=>exact h.elim
abbrev aLe (a b:A)(S:jH):R A:=match a,b with
 | .int i,.int j=>.ok (.bl<|decide<|i<=j) S
 | _,_=>.no
def ab7:oW X (compareOp .LtE) (r2 X aLe):=oW.imp aad λx y H Q h9=>by
 w_up
 cases va<;>first|exact h.elim|(cases vb<;>first|exact h.elim|exact⟨_,_,rfl,rfl,h _ _ _ .refl R<|.bl _⟩)
abbrev YX (a b:A)(S:jH):R A:=match a,b with
 | .int i,.int j=>.ok (.bl<|decide<|j<i) S
 | _,_=>.no
def Ux(hu:X.A.units+64<cLine):oW X (compareOp .Gt) (r2 X YX):=λpins s σ H x y v u Q I rx ry h9=>by
 w_up
 cases va with
 | int i=>
  cases vb with
  | int j=>exact aa0 pins s σ H _ _ v u Q I rx ry ⟨i,j,rfl,rfl,h _ _ _ .refl R<|.bl _⟩
  | _=>exact h.elim
 | _=>exact h.elim
abbrev aGe (a b:A)(S:jH):R A:=match a,b with
 | .int i,.int j=>.ok (.bl<|decide<|j<=i) S
 | _,_=>.no
def abL:oW X (compareOp .GtE) (r2 X aGe):=oW.imp Z3 λx y H Q h9=>by
 w_up
 cases va<;>first|exact h.elim|(cases vb<;>first|exact h.elim|exact⟨_,_,rfl,rfl,h _ _ _ .refl R<|.bl _⟩)
abbrev U9 (neg:Bool)(a b:A)(S:jH):R A:=match a,b with
 | .bl i,.bl j=>.ok (.bl<|if neg then i != j else i == j) S
 | .non,.non=>.ok (.bl<|!neg) S
 | .unb,.non=>.no
 | .exn _,.non=>.no
 | _,.non=>.ok (.bl neg) S
 | _,_=>.no
abbrev eUn (f:A->jH->R A)(c:Ex):Ex:=λτ S=>(c τ S).bind λa S1=>f a S1
abbrev M5 (a:A)(S:jH):R A:=match a with
 | .int i=>.ok (.int<|-i) S
 | _=>.no
def aaF:UnR X (unaryOp .USub) (r1 X M5):=λpins s σ H x v Q I rx h9=>by
 obtain⟨ρ,S,a,R,va,h⟩:=h9
 cases va with
 | int i=>exact V4 pins s σ H _ v Q I rx ⟨i,rfl,h _ _ _ .refl R<|.int _⟩
 | _=>exact h.elim
def WH{f:A->jH->R A}{c:Ex}{H:Hp}{Q:VK}(h:tE X (eUn f c) σ H Q):tUn (r1 X f) (tE X c) σ H Q:=by
 kl_no;exact⟨ρ,S,τ,R,r,jJ (jO h) .refl λa S1 h1 ρ1 H1 x e1 R1 v1=>⟨ρ1,S1,a,R1,v1,jJ h1 e1 λc S3 h3=>h3.ext e1⟩⟩
def V2{c:Ex}(h:AE X a c):AE X (.UnaryOp .USub a pos) (eUn M5 c):=PE.imp (Zn aaF h) λ_ _ _ q=>WH q
abbrev vX (a b:A)(S:jH):R A:=match a,b with
 | .tup xs,.int i=>opt (uy xs i) λx=>.ok x S
 | .frz xs,.int i=>opt (uy xs i) λx=>.ok x S
 | .ref n,.int i=>opt (jF S n) λxs=>opt (uy xs i) λx=>.ok x S
 | .str z,.int i=>gd (z.length<=sizeLine) (opt (uy z.cps.toList i) λc=>.ok (.str ⟨#[c]⟩) S)
 | _,_=>.no
def AVs.uy{K:au}{H:Hp}{i:Int}{x:A}(r:AVs K ρ H xs vs)(h:L2.uy xs i=some x):∃v,L2.uy vs i=some v/\AV K ρ H x v:=by
 unfold L2.uy at h ⊢;rw[<- r.length]
 cases d:ES xs.length i with
 | none=>rw[d]at h;cases h
 | some j=>
  rw[d]at h;exact r.get h
def aau:TH X (r2 X vX):=λd f pins s σ H x y v u Q I rx ry ⟨ρ,S,a,b,R,va,vb,h⟩ hs=>by
 cases va with
 | @tup p xs vs h1 r1=>
  cases vb with
  | int i=>
   obtain⟨x,g,h⟩:=jK h;obtain⟨z,e,q⟩:=r1.uy g;exact XU d f pins s σ H _ _ v u Q I rx ry ⟨p,vs,i,z,rfl,rfl,nj.of h1,e,h _ _ _ .refl R q⟩ hs
  | _=>exact h.elim
 | @frz p xs vs h1 r1=>
  cases vb with
  | int i=>
   obtain⟨x,g,h⟩:=jK h;obtain⟨z,e,q⟩:=r1.uy g;exact JO d f pins s σ H _ _ v u Q I rx ry ⟨p,vs,i,z,rfl,rfl,h1.RZ,e,h _ _ _ .refl R q⟩ hs
  | _=>exact h.elim
 | @ref p n hp=>
  cases vb with
  | int i=>
   kcf_m;obtain⟨x,g,h⟩:=jK h;obtain⟨vs,h1,r1⟩:=R.lst hp<|jU hn;obtain⟨z,e,q⟩:=r1.uy g;exact JO d f pins s σ H _ _ v u Q I rx ry ⟨p,vs,i,z,rfl,rfl,pO.of h1,e,h _ _ _ .refl R q⟩ hs
  | _=>exact h.elim
 | str z=>
  cases vb with
  | int i=>
   obtain⟨j,h⟩:=j4 h;obtain⟨c,hc,h⟩:=jK h;exact Zb d f pins s σ H _ _ v u Q I rx ry ⟨z,i,c,rfl,rfl,j,hc,h _ _ _ .refl R<|.str _⟩ hs
  | _=>exact h.elim
 | _=>exact h.elim
def n9{ca cb:Ex}(ha:AE X a ca)(hb:AE X b cb)(hs:wY b<|>θ):AE X (.Subscript a b pos) (jT vX ca cb):=PE.imp (HE aau ha hb hs) λσ H Q h=>tB h
end
abbrev yC (f:A->A->bi):ae->ae->bi
 | [],[]=>some true
 | x::xs,y::ys=>(f x y).bind λp=>(yC f xs ys).map λq=>p && q
 | _,_=>some false
inductive Sh
 | non
 | bl (b:Bool)
 | int (i:Int)
 | str (x:Str)
 | tup (xs:ae)
 | lst
abbrev YO (S:jH):A->Option Sh
 | .non=>some .non
 | .bl b=>some (.bl b)
 | .int i=>some (.int i)
 | .str x=>some (.str x)
 | .tup xs=>some (.tup xs)
 | .ref i=>(jF S i).map λ_=>.lst
 | _=>none
abbrev Sl (f:A->A->bi):Sh->Sh->bi
 | .non,.non=>some true
 | .bl x,.bl y=>some (x == y)
 | .bl x,.int y=>some ((if x then 1 else 0) == y)
 | .int x,.bl y=>some (x == (if y then 1 else 0))
 | .int x,.int y=>some (x == y)
 | .str x,.str y=>some (x == y)
 | .tup xs,.tup ys=>yC f xs ys
 | .lst,.lst=>none
 | _,_=>some false
abbrev DJ (S:jH):Nat->A->A->bi
 | 0,_,_=>none
 | n+1,a,b=>match a,b with
  | .ref i,.ref j=>(jF S i).bind λxs=>(jF S j).bind λys=>yC (DJ S n) xs ys
  | _,_=>(YO S a).bind λx=>(YO S b).bind λy=>Sl (DJ S n) x y
section
variable {X:Cx}{pins:bo}{σ:L2.St}{H:Hp}{s:aC}{ρ:bb}{S:jH}
inductive KdV (s:aC):Sh->af->Prop
 | non:KdV s .non .none
 | bl (b:Bool):KdV s (.bl b) (.bool b)
 | int (i:Int) (t:Tok):KdV s (.int i) (.int i t)
 | str (x:Str) (t:Tok):KdV s (.str x) (.str x t)
 | tup {p:ak} {us:ba} (xs:ae) (h:s.heap.IsTuple p us.toArray):KdV s (.tup xs) (.ref p)
 | lst {p:ak} {us:ba} (h:s.heap.IsList p us.toArray):KdV s .lst<|.ref p
def Jk{p:ak}(h:s.heap.IsTuple p us)(h':s.heap.IsList p ws):False:=by
 obtain⟨o,e,c,_⟩:=h;obtain⟨o',d,f,_⟩:=h';rw[e]at d
 cases d
 exact absurd (c.symm.trans f) ⋯
def Jt(I:Inv X pins σ H s)(R:Rel X.K ρ H S){a:A}{x:V}(ha:AV X.K ρ H a x)(r:RelV x u)(e:YO S a=some h):KdV s h u:=by
 cases ha with
 | non=>cases e;cases(show u=Value.none from r);exact .non
 | bl b=>cases e;cases(show u=Value.bool b from r);exact .bl b
 | int i=>cases e;obtain⟨t,rfl⟩:∃t,u=Value.int i t:=r;exact .int i t
 | str i=>cases e;obtain⟨t,rfl⟩:∃t,u=Value.str i t:=r;exact .str i t
 | tup h1 r1=>cases e;cases(show u=Value.ref _ from r);obtain⟨us,_,p,_⟩:=I.tuple<|nj.of h1;exact .tup _ p
 | ref h1=>
  obtain⟨xs,e1,rfl⟩:=aW.mp e
  cases(show u=Value.ref _ from r)
  obtain⟨vs,h3,r1⟩:=R.lst h1<|jU e1;obtain⟨us,_,p,_⟩:=I.list<|pO.of h3;exact .lst p.isList
 | _=>cases e
abbrev Al (B:aA)(s:aC)(u v:af)(k:Bool):Prop:=SeqAt.RcAt B s u v k/\SeqAt.EqAt B s u v k/\SeqAt.RcNeAt B s u v (!k)
def ZL{B:aA}(hu:B.units<cLine){f:A->A->bi}{v:af}{k:Bool}(d:KdV s h u)(d':KdV s h' v)(nt:∀xs ys,h=.tup xs->h'≠.tup ys)(e:Sl f h h'=some k):Al B s u v k:=by
 cases d with
 | non=>cases d' with
  | non=>cases e;exact⟨.none_none,.same _,.none_none⟩
  | bl b=>cases e;exact⟨.none_bool _,.none_bool _,.none_bool _⟩
  | int i t=>cases e;exact⟨.none_int _ _,.none_int _ _,.none_int _ _⟩
  | str x t=>cases e;exact⟨.none_str _ _,.none_str _ _,.none_str _ _⟩
  | tup xs p=>cases e;exact⟨.none_tuple p hu,.none_tuple p hu,.none_tuple p hu⟩
  | lst p=>cases e;exact⟨.none_list p hu,.none_list p hu,.none_list p hu⟩
 | bl c=>cases d' with
  | non=>cases e;exact⟨.bool_none _,.bool_none _,.bool_none _⟩
  | bl b=>cases e;exact⟨.bool_bool _ _,.bool_bool _ _,.bool_bool _ _⟩
  | int i t=>cases e;exact⟨.bool_int _ _ _,.bool_int _ _ _,.bool_int _ _ _⟩
  | str x t=>cases e;exact⟨.bool_str _ _ _,.bool_str _ _ _,.bool_str _ _ _⟩
  | tup xs p=>cases e;exact⟨.bool_tuple _ p hu,.bool_tuple _ p hu,.bool_tuple _ p hu⟩
  | lst p=>cases e;exact⟨.bool_list _ p hu,.bool_list _ p hu,.bool_list _ p hu⟩
 | int c j=>cases d' with
  | non=>cases e;exact⟨.int_none _ _,.int_none _ _,.int_none _ _⟩
  | bl b=>cases e;exact⟨.int_bool _ _ _,.int_bool _ _ _,.int_bool _ _ _⟩
  | int i t=>cases e;exact⟨.int_int _ _ _ _,.int_int _ _ _ _,.int_int _ _ _ _⟩
  | str x t=>cases e;exact⟨.int_str _ _ _ _,.int_str _ _ _ _,.int_str _ _ _ _⟩
  | tup xs p=>cases e;exact⟨.int_tuple _ _ p hu,.int_tuple _ _ p hu,.int_tuple _ _ p hu⟩
  | lst p=>cases e;exact⟨.int_list _ _ p hu,.int_list _ _ p hu,.int_list _ _ p hu⟩
 | str c j=>cases d' with
  | non=>cases e;exact⟨.str_none _ _,.str_none _ _,.str_none _ _⟩
  | bl b=>cases e;exact⟨.str_bool _ _ _,.str_bool _ _ _,.str_bool _ _ _⟩
  | int i t=>cases e;exact⟨.str_int _ _ _ _,.str_int _ _ _ _,.str_int _ _ _ _⟩
  | str x t=>cases e;exact⟨.str_str _ _ _ _,.str_str _ _ _ _,.str_str _ _ _ _⟩
  | tup xs p=>cases e;exact⟨.str_tuple _ _ p hu,.str_tuple _ _ p hu,.str_tuple _ _ p hu⟩
  | lst p=>cases e;exact⟨.str_list _ _ p hu,.str_list _ _ p hu,.str_list _ _ p hu⟩
 | tup zs g=>cases d' with
  | non=>cases e;exact⟨.tuple_none g hu,.tuple_none g hu,.tuple_none g hu⟩
  | bl b=>cases e;exact⟨.tuple_bool _ g hu,.tuple_bool _ g hu,.tuple_bool _ g hu⟩
  | int i t=>cases e;exact⟨.tuple_int _ _ g hu,.tuple_int _ _ g hu,.tuple_int _ _ g hu⟩
  | str x t=>cases e;exact⟨.tuple_str _ _ g hu,.tuple_str _ _ g hu,.tuple_str _ _ g hu⟩
  | tup xs p=>exact absurd rfl (nt _ _ rfl)
  | lst p=>cases e;exact⟨.tuple_list g p hu,.of_refs (λz=>by subst z;exact Jk g p)<|.tuple_list g p hu,.tuple_list g p hu⟩
 | lst g=>cases d' with
  | non=>cases e;exact⟨.list_none g hu,.list_none g hu,.list_none g hu⟩
  | bl b=>cases e;exact⟨.list_bool _ g hu,.list_bool _ g hu,.list_bool _ g hu⟩
  | int i t=>cases e;exact⟨.list_int _ _ g hu,.list_int _ _ g hu,.list_int _ _ g hu⟩
  | str x t=>cases e;exact⟨.list_str _ _ g hu,.list_str _ _ g hu,.list_str _ _ g hu⟩
  | tup xs p=>cases e;exact⟨.list_tuple g p hu,.of_refs (λz=>by subst z;exact Jk p g)<|.list_tuple g p hu,.list_tuple g p hu⟩
  | lst p=>cases e
def Cm{a:A}{x:V}(h:AV X.K ρ H a x)(e:YO S a=some (.tup xs)):a=.tup xs/\∃p vs,x=.ref p/\H p=some (.tup vs)/\AVs X.K ρ H xs vs:=by
 cases h with
 | tup h r=>cases e;exact⟨rfl,_,_,rfl,h,r⟩
 | ref h=>obtain⟨_,_,z⟩:=aW.mp e;cases z
 | _=>cases e
def CM{i:Nat}{x:V}(h:AV X.K ρ H (.ref i) x):∃p,x=.ref p/\ρ[i]?=some p:=by
 cases h with
 | ref h=>exact⟨_,rfl,h⟩
def NY{a:A}(e:YO S a=some .lst):∃i,a=.ref i:=by
 cases a with
 | ref i=>exact⟨i,rfl⟩
 | _=>cases e
def Mw{n:Nat}{a:A}{k:Bool}(e:DJ S (n+1) a b=some k):(∃i j xs ys,a=.ref i/\b=.ref j/\jF S i=some xs/\jF S j=some ys/\yC (DJ S n) xs ys=some k)\/(∃h h',YO S a=some h/\YO S b=some h'/\Sl (DJ S n) h h'=some k/\(h=.lst->h'≠.lst)):=by
 unfold DJ at e;split at e
 ·obtain⟨xs,e1,e⟩:=b_.mp e;obtain⟨ys,e2,e⟩:=b_.mp e;exact .inl ⟨_,_,xs,ys,rfl,rfl,e1,e2,e⟩
 ·rename_i d;obtain⟨h,e1,e⟩:=b_.mp e;obtain⟨h',e2,e⟩:=b_.mp e;refine .inr ⟨h,h',e1,e2,e,λf g=>?_⟩;subst f g;obtain⟨i,rfl⟩:=NY e1;obtain⟨j,rfl⟩:=NY e2;exact d i j rfl rfl
def Sd{f:A->A->bi}{k:Bool}(d:KdV s h u)(d':KdV s h' u)(nt:∀xs ys,h=.tup xs->h'≠.tup ys)(e:Sl f h h'=some k):k=true:=by
 cases d with
 | non=>cases d';exact(aZ e).symm
 | bl b=>cases d';exact(aZ e).symm.trans (cu b)
 | int b=>cases d';exact(aZ e).symm.trans (cu b)
 | str b=>cases d';exact(aZ e).symm.trans (cu b)
 | tup xs p=>cases d' with
  | tup=>exact absurd rfl (nt _ _ rfl)
  | lst q=>exact(Jk p q).elim
 | lst p=>cases d' with
  | tup _ q=>exact(Jk q p).elim
  | lst q=>cases e
def EE{f:A->A->bi}(hf:∀a b x u k,AV X.K ρ H a x->AV X.K ρ H b x->RelV x u->f a b=some k->k=true):∀{xs ys:ae}{vs:List V}{us:ba}{k:Bool},AVs X.K ρ H xs vs->AVs X.K ρ H ys vs->Vals vs us->yC f xs ys=some k->k=true:=by
 intro xs ys vs us k h1 h2 q e
 induction q generalizing xs ys k with
 | nil=>cases h1;cases h2;exact(aZ e).symm
 | cons d _ g=>
  cases h1 with
  | cons h t=>cases h2 with
   | cons h' j=>
    obtain⟨p,e1,e⟩:=b_.mp e;obtain⟨q,e2,e3⟩:=aW.mp e;rw[<- e3,hf _ _ _ _ p h h' d e1,g t j e2];rfl
def Jy(h h':Sh):(∃xs ys,h=.tup xs/\h'=.tup ys)\/(∀xs ys,h=.tup xs->h'≠.tup ys):=by
 cases h with
 | tup xs=>cases h' with
  | tup ys=>exact .inl ⟨xs,ys,rfl,rfl⟩
  | _=>exact .inr λ_ _ _ z=>nomatch z
 | _=>exact .inr λ_ _ z=>nomatch z
theorem C6(I:Inv X pins σ H s)(R:Rel X.K ρ H S):∀(n:Nat) (a b:A) (x:V) (u:af) (k:Bool),AV X.K ρ H a x->AV X.K ρ H b x->RelV x u->DJ S n a b=some k->k=true
 | 0,_,_,_,_,_,_,_,_,e=>nomatch e
 | n+1,a,b,x,u,k,ha,hb,ru,e=>by
  rcases Mw e with⟨i,j,xs,ys,rfl,rfl,e1,e2,e⟩|⟨h,h',e1,e2,e,_⟩
  ·obtain⟨p,rfl,h1⟩:=CM ha;obtain⟨q,z,h2⟩:=CM hb
   cases z
   obtain⟨vs,h3,r1⟩:=R.lst h1<|jU e1;obtain⟨g,d,r2⟩:=R.lst h2<|jU e2;rw[h3]at d
   cases d
   obtain⟨us,q,_⟩:=I.list<|pO.of h3;exact EE (λa b x u k=>C6 I R n a b x u k) r1 r2 q e
  ·rcases Jy h h' with⟨xs,ys,rfl,rfl⟩|f
   ·obtain⟨rfl,p,vs,rfl,h3,r1⟩:=Cm ha e1;obtain⟨rfl,q,g,z,d,r2⟩:=Cm hb e2
    cases z
    have:=I.vC (nj.of h3)<|nj.of d;subst this;obtain⟨us,q,_⟩:=I.tuple<|nj.of h3;exact EE (λa b x u k=>C6 I R n a b x u k) r1 r2 q e
   ·exact Sd (Jt I R ha ru e1) (Jt I R hb ru e2) f e
abbrev A6 (f:A->A->bi)(xs ys:ae)(j:Nat):Bool:=match xs[j]?,ys[j]? with
 | some x,some y=>(f x y).getD true
 | _,_=>true
theorem y9{f:A->A->bi}:∀{xs ys:ae}{k:Bool},yC f xs ys=some k->k=((List.range<|min xs.length ys.length).all (A6 f xs ys) && xs.length == ys.length)/\∀j x y,xs[j]?=some x->ys[j]?=some y->f x y=some (A6 f xs ys j)
 | [],[],k,e=>⟨(aZ e).symm,λj x y h=>by simp at h⟩
 | [],_::_,k,e=>⟨(aZ e).symm,λj x y h=>by simp at h⟩
 | _::_,[],k,e=>⟨(aZ e).symm,λj x y _ h=>by simp at h⟩
 | x::xs,y::ys,k,e=>by
  unfold yC at e
  cases e1:f x y with
  | none=>rw[e1]at e;cases e
  | some p=>
   rw[e1]at e;obtain⟨q,e2,e3⟩:=aW.mp e;obtain⟨h1,h2⟩:=y9 e2;have d:A6 f (x::xs) (y::ys) 0=p:=by simp[A6,e1]
   have ps:∀j,A6 f (x::xs) (y::ys) (j+1)=A6 f xs ys j:=λj=>by simp[A6]
   refine⟨?_,λj a b ha hb=>?_⟩
   ·rw[<- e3,h1,bB,bB,Nat.succ_min_succ,List.range_succ_eq_map,List.all_cons,all_map,d];have:(A6 f (x::xs) (y::ys) ∘ Nat.succ)=A6 f xs ys:=funext ps;rw[this,Bool.and_assoc];simp
   ·cases j with
    | zero=>
     simp at ha hb;subst ha hb;rw[d];exact e1
    | succ j=>rw[ps];exact h2 j a b (by simpa using ha)<|by simpa using hb
def yV{f:A->A->bi}{B:aA}(hf:∀a b x y u v k,AV X.K ρ H a x->AV X.K ρ H b y->RelV x u->RelV y v->f a b=some k->SeqAt.EqAt B s u v k){us ts:ba}{k:Bool}
  (r1:AVs X.K ρ H xs vs) (r2:AVs X.K ρ H ys ws) (q1:Vals vs us) (q2:Vals ws ts) (e:yC f xs ys=some k):∀j (h1:j<us.toArray.size) (h2:j<ts.toArray.size),SeqAt.EqAt B s us.toArray[j] ts.toArray[j] (A6 f xs ys j):=by
 intro j h1 h2;have J:=r1.length;have N:=r2.length;have L:=q1.length;have M:=q2.length;have G:j<xs.length:=by simp at h1;lia
 have hy:j<ys.length:=by simp at h2;lia
 have e1:xs[j]?=some xs[j]:=aI G;have e2:ys[j]?=some ys[j]:=aI hy;obtain⟨x,ex,p⟩:=r1.get e1;obtain⟨y,z,C⟩:=r2.get e2;obtain⟨u,m,g⟩:=q1.get ex;obtain⟨t,q,rt⟩:=q2.get z;have F:us.toArray[j]=u:=by
  have:us[j]?=some us.toArray[j]:=by simp at h1;simp[h1]
  rw[m]at this;exact(aZ this).symm
 have d:ts.toArray[j]=t:=by
  have:ts[j]?=some ts.toArray[j]:=by simp at h2;simp[h2]
  rw[q]at this;exact(aZ this).symm
 rw[F,d];exact hf _ _ x y u t _ p C g rt<|(y9 e).2 j _ _ e1 e2
def in1_units(B:aA):B.in1.units=B.units+1:=rfl
theorem Jq(I:Inv X pins σ H s)(R:Rel X.K ρ H S):∀(n:Nat) (B:aA) (a b:A) (x y:V) (u v:af) (k:Bool),B.units+n<cLine->AV X.K ρ H a x->AV X.K ρ H b y->RelV x u->RelV y v->DJ S n a b=some k->Al B s u v k
 | 0,_,_,_,_,_,_,_,_,_,_,_,_,_,e=>nomatch e
 | n+1,B,a,b,x,y,u,v,k,hu,ha,hb,rx,ry,e=>by
  have f:B.units<cLine:=()
  have d:∀a b x y u v k,AV X.K ρ H a x->AV X.K ρ H b y->RelV x u->RelV y v->DJ S n a b=some k->SeqAt.EqAt B.in1 s u v k:=λa b x y u v k h1 h2 h3 J T=>(Jq I R n B.in1 a b x y u v k (by rw[in1_units];lia) h1 h2 h3 J T).2.1;have same:=λ(z:y=x)=>C6 I R (n+1) a b x u k ha (z ▸ hb) rx e;have m:∀{p q:ak},x=.ref p->y=.ref q->u=.ref p->v=.ref q->SeqAt.RcAt B s u v k->SeqAt.EqAt B s u v k:=λ{p q} g C z3 z4 h=>by
   subst z3 z4;by_cases hp:p=q
   ·subst hp;rw[same<|C.trans g.symm];exact .same _
   ·exact .of_refs hp h
  rcases Mw e with⟨i,j,xs,ys,rfl,rfl,e1,e2,e⟩|⟨h,h',e1,e2,e,_⟩
  ·obtain⟨p,rfl,h1⟩:=CM ha;obtain⟨q,rfl,h2⟩:=CM hb;obtain⟨vs,h3,r1⟩:=R.lst h1<|jU e1;obtain⟨U,J,r2⟩:=R.lst h2<|jU e2;obtain⟨us,t,p1,_⟩:=I.list<|pO.of h3;obtain⟨ts,F,p2,_⟩:=I.list<|pO.of J;have L:=m rfl rfl rx ry
   cases(show u=Value.ref p from rx)
   cases(show v=Value.ref q from ry)
   have O:=r1.length;have W:=r2.length;have P:=t.length;have Y:=F.length;have ek:=(y9 e).1;by_cases M:xs.length=ys.length
   ·rw[<- M,Nat.min_self,cu,Bool.and_true]at ek;have G:us.toArray.size=ts.toArray.size:=by simp;lia
    have g:=SeqAt.RcAt.lists p1.isList p2.isList G f<|yV d r1 r2 t F e;have C:=SeqAt.RcNeAt.lists p1.isList p2.isList G f<|yV d r1 r2 t F e;rw[aY,<- P,<- O,<- ek]at g C;exact⟨g,L g,C⟩
   ·have:(xs.length == ys.length)=false:=by simpa using M
    rw[this,jy]at ek;subst ek;have G:(us.toArray.size != ts.toArray.size)=true:=by simp;lia
    have g:=SeqAt.RcAt.lists_lengths p1.isList p2.isList G f;exact⟨g,L g,SeqAt.RcNeAt.lists_lengths p1.isList p2.isList G f⟩
  ·rcases Jy h h' with⟨xs,ys,rfl,rfl⟩|N
   ·obtain⟨rfl,p,vs,rfl,h3,r1⟩:=Cm ha e1;obtain⟨rfl,q,U,rfl,J,r2⟩:=Cm hb e2;have L:=m rfl rfl rx ry
    cases(show u=Value.ref p from rx)
    cases(show v=Value.ref q from ry)
    obtain⟨us,t,p1,_⟩:=I.tuple<|nj.of h3;obtain⟨ts,F,p2,_⟩:=I.tuple<|nj.of J;have ek:=(y9 e).1;have g:=SeqAt.RcAt.tuples p1 p2 f<|yV d r1 r2 t F e;have C:=SeqAt.RcNeAt.tuples p1 p2 f<|yV d r1 r2 t F e;rw[aY,aY,<- t.length,<- F.length,<- r1.length,<- r2.length,<- ek]at g C;exact⟨g,L g,C⟩
   ·exact ZL f (Jt I R ha rx e1) (Jt I R hb ry e2) N e
end
section
variable {X:Cx}
abbrev yQ (neg:Bool)(a b:A)(S:jH):R A:=opt (DJ S 12 a b) λk=>.ok (.bl<|if neg then !k else k) S
def Y9(hu:X.A.units+64<cLine):oW X (compareOp .Eq) (r2 X<|yQ false):=λpins s σ H x y v u Q I rx ry h9=>by
 w_up;obtain⟨k,e,h⟩:=jK h;exact(Jq I R 12 X.A a b x y v u k (by omega) va vb rx ry e).1 _ _ _ _ ⟨.bl _,H,I,rfl,h _ _ _ .refl R<|.bl _⟩
def F9(hu:X.A.units+64<cLine):oW X (compareOp .NotEq) (r2 X<|yQ true):=λpins s σ H x y v u Q I rx ry h9=>by
 w_up;obtain⟨k,e,h⟩:=jK h;exact(Jq I R 12 X.A a b x y v u k (by omega) va vb rx ry e).2.2 _ _ _ _ ⟨.bl _,H,I,rfl,h _ _ _ .refl R<|.bl _⟩
end
section
variable {X:Cx}{pos:Pos}{a b:aE}
meta abbrev Pt:=ae->jH->R (Option Int)
abbrev aaq:Pt:=λ_ S=>.ok none S
abbrev aaG (c:Ex):Pt:=λτ S=>(c τ S).bind λa S1=>match a with
 | .int i=>.ok (some i) S1
 | _=>.no
abbrev Se (xs:ae)(lo hi:Option Int):ae:=(xs.drop<|HT.sIx xs.length 0 lo).take<|HT.sIx xs.length xs.length hi-HT.sIx xs.length 0 lo
abbrev aSl (a:A)(lo hi:Option Int)(S:jH):R A:=match a with
 | .ref n=>opt (jF S n) λxs=>.ok (.ref S.length) (S++[.lst<|Se xs lo hi])
 | .frz xs=>.ok (.ref S.length) (S++[.lst<|Se xs lo hi])
 | .tup xs=>gd (¬(HT.sIx xs.length 0 lo=0/\HT.sIx xs.length xs.length hi=xs.length)) (.ok (.tup<|Se xs lo hi) S)
 | _=>.no
abbrev eSl (c:Ex)(lo hi:Pt):Ex:=λτ S=>(c τ S).bind λa S1=>(lo τ S1).bind λl S2=>(hi τ S2).bind λu S3=>aSl a l u S3
abbrev aaY (a:A)(S:jH):R A:=match a with
 | .ref n=>opt (jF S n) λxs=>.ok (.ref S.length) (S++[.lst xs.reverse])
 | .tup xs=>.ok (.tup xs.reverse) S
 | _=>.no
abbrev kh (f:ae->jH->R A)(d:rj):Ex:=λτ S=>(d τ S).bind λg S1=>f g S1
def EN{f:ae->jH->R A}{d:rj}{H:Hp}{Q:VK}(h:tE X (kh f d) σ H Q):tCB (rN X f) (tL X d) σ H Q:=by
 kl_no;exact⟨ρ,S,τ,R,r,jJ (jO h) .refl λg S1 h1 ρ1 H1 vs e1 R1 v1=>⟨ρ1,S1,g,R1,v1,jJ h1 e1 λ_ _ z=>z.ext e1⟩⟩
variable {x:Str}{p:Pos}{e:aE}{es:List aE}{id T:String}{f:ae->jH->R A}{d:rj}
def j9(hc:j7 X (.builtin id)<|rN X f)(hm:X.mg x=none)(hv:bootBuiltins x=some (.builtin id))(ha:AL X (e::es) d)(hg:Gl X x<|>ε)(hn:x ≠ "__name__"<|>δ)(hdb:(x == ("__debug__" : Str))=false<|>δ)
  (he:starEach (e::es) X.env=(false,eval e X.env)::starEach es X.env<|>ε) (hpl:((backTo pos<|starEach es X.env).any (·.1)=false)<|>ε):AE X (.Call (.Name x p) (e::es) [] pos) (kh f d):=
 PE.imp (El hc hg hm hv ha hn hdb he hpl) λ_ _ _ h=>EN h
def oq(hc:j7 X (.type T)<|rN X f)(hm:X.mg x=none)(hv:bootBuiltins x=some (.type T))(ha:AL X (e::es) d)(hg:Gl X x<|>ε)(hn:x ≠ "__name__"<|>δ)(hdb:(x == ("__debug__" : Str))=false<|>δ)
  (he:starEach (e::es) X.env=(false,eval e X.env)::starEach es X.env<|>ε) (hpl:((backTo pos<|starEach es X.env).any (·.1)=false)<|>ε):AE X (.Call (.Name x p) (e::es) [] pos) (kh f d):=
 PE.imp (LZ hc hg hm hv ha hn hdb he hpl) λ_ _ _ h=>EN h
def U4(hm:X.mg x=none)(hv:bootBuiltins x=some (.type T))(hg:Gl X x<|>ε)(hn:x ≠ "__name__"<|>δ)(hdb:(x == ("__debug__" : Str))=false<|>δ):AE X (.Name x pos) (eC<|.ty T):=
 PE.imp (Jj (v:=.ty T) hg hm hv rfl hn hdb) λσ H Q ⟨ρ,S,τ,R,r,h⟩=>h ρ H _ .refl R<|.ty T
abbrev A.seq (S:jH):A->Option (ae)
 | .tup xs=>some xs
 | .frz xs=>some xs
 | .ref n=>jF S n
 | _=>none
def Pk{K:au}{H:Hp}{x:A}{v:V}(R:Rel K ρ H S)(h:AV K ρ H x v)(e:x.seq S=some xs):∃p vs,v=.ref p/\(pO K H p vs\/nj K H p vs)/\AVs K ρ H xs vs:=by
 cases h with
 | tup h r=>cases aZ e;exact⟨_,_,rfl,.inr<|nj.of h,r⟩
 | frz h r=>cases aZ e;exact⟨_,_,rfl,.inl h.RZ,r⟩
 | ref h=>
  obtain⟨vs,h1,r1⟩:=R.lst h<|jU e;exact⟨_,vs,rfl,.inl<|pO.of h1,r1⟩
 | _=>cases e
def PL{K:au}{H:Hp}{x:A}(h:AVs K ρ H [x] vs):∃v,vs=[v]/\AV K ρ H x v:=by
 cases h with
 | cons h t=>cases t;exact⟨_,rfl,h⟩
def SX{K:au}{H:Hp}{x:A}(h:AVs K ρ H [x,y] vs):∃v w,vs=[v,w]/\AV K ρ H x v/\AV K ρ H y w:=by
 cases h with
 | cons h t=>obtain⟨w,rfl,h'⟩:=PL t;exact⟨_,_,rfl,h,h'⟩
abbrev f1 (g:A->jH->R A):ae->jH->R A:=λd S=>match d with
 | [x]=>g x S
 | _=>.no
abbrev f2 (g:A->A->jH->R A):ae->jH->R A:=λd S=>match d with
 | [x,y]=>g x y S
 | _=>.no
def SK{g:A->jH->R A}{P:A->jH->Prop}{E:Str->jH->Prop}(h:(f1 g as S).post P E):∃x,as=[x]/\(g x S).post P E:=by
 match as,h with
 | [],h=>exact h.elim
 | [x],h=>exact⟨x,rfl,h⟩
 | _::_::_,h=>exact h.elim
def To{g:A->A->jH->R A}{P:A->jH->Prop}{E:Str->jH->Prop}(h:(f2 g as S).post P E):∃x y,as=[x,y]/\(g x y S).post P E:=by
 match as,h with
 | [],h=>exact h.elim
 | [_],h=>exact h.elim
 | [x,y],h=>exact⟨x,y,rfl,h⟩
 | _::_::_::_,h=>exact h.elim
def Mi{g:A->jH->R A}{H:Hp}{Q:VK}(h:rN X (f1 g) vs H Q):∃v,vs=[v]/\∃ρ S x,Rel X.K ρ H S/\AV X.K ρ H x v/\(g x S).post (yE X ρ H Q) (XE X ρ H):=by
 obtain⟨ρ,S,d,R,v,h⟩:=h;obtain⟨x,rfl,h⟩:=SK h;obtain⟨w,rfl,hv⟩:=PL v;exact⟨w,rfl,ρ,S,x,R,hv,h⟩
def rn2{g:A->A->jH->R A}{H:Hp}{Q:VK}(h:rN X (f2 g) vs H Q):∃v w,vs=[v,w]/\∃ρ S x y,Rel X.K ρ H S/\AV X.K ρ H x v/\AV X.K ρ H y w/\(g x y S).post (yE X ρ H Q) (XE X ρ H):=by
 obtain⟨ρ,S,j,R,v,h⟩:=h;obtain⟨x,y,rfl,h⟩:=To h;obtain⟨w,f,rfl,hv,d⟩:=SX v;exact⟨w,f,rfl,ρ,S,x,y,R,hv,d,h⟩
abbrev qN (x:A)(S:jH):R A:=match x with
 | .str x=>gd (x.length<=sizeLine) (.ok (.int x.length) S)
 | .tup xs=>.ok (.int xs.length) S
 | .frz xs=>.ok (.int xs.length) S
 | .ref n=>opt (jF S n) λxs=>.ok (.int xs.length) S
 | _=>.no
def sS:j7 X (.builtin "len") (rN X<|f1 qN):=j7.imp MG λvs H Q h0=>by
 kd_p;clear h0
 cases hv with
 | str z=>
  obtain⟨d,h⟩:=j4 h;exact⟨_,_,rfl,⟨d,rfl⟩,h _ _ _ .refl R<|.int _⟩
 | @tup p xs us h1 r=>exact⟨_,us.length,rfl,.inr ⟨us,(nj.of h1),rfl⟩,by rw[<- r.length];exact h _ _ _ .refl R<|.int _⟩
 | @frz p xs us h1 r=>exact⟨_,us.length,rfl,.inl ⟨us,h1.RZ,rfl⟩,by rw[<- r.length];exact h _ _ _ .refl R<|.int _⟩
 | ref hp=>
  kcf_m;obtain⟨us,h1,r⟩:=R.lst hp<|jU hn;exact⟨_,us.length,rfl,.inl ⟨us,pO.of h1,rfl⟩,by rw[<- r.length];exact h _ _ _ .refl R<|.int _⟩
 | _=>exact h.elim
abbrev Ye (x:A)(S:jH):R A:=match x with
 | .int i=>.ok (.int<|if i<0 then -i else i) S
 | _=>.no
def ZN:j7 X (.builtin "abs") (rN X<|f1 Ye):=j7.imp MS λvs H Q h0=>by
 kd_p;clear h0
 cases hv<;>first|exact h.elim|exact⟨_,rfl,h _ _ _ .refl R<|.int _⟩
abbrev Q5 (x y:A)(S:jH):R A:=match x,y with
 | .int i,.int j=>.ok (.int<|if j>i then j else i) S
 | _,_=>.no
def Xc(hc:X.calm=true):j7 X (.builtin "max") (rN X<|f2 Q5):=j7.imp (KW hc) λvs H Q h0=>by
 obtain⟨w,f,rfl,ρ,S,x,y,R,hv,d,h⟩:=rn2 h0;clear h0
 cases hv<;>first|exact h.elim|(cases d<;>first|exact h.elim|exact⟨_,_,rfl,h _ _ _ .refl R<|.int _⟩)
abbrev Qa (x y:A)(S:jH):R A:=match x,y with
 | .int i,.int j=>.ok (.int<|if j<i then j else i) S
 | _,_=>.no
def YE(hc:X.calm=true):j7 X (.builtin "min") (rN X<|f2 Qa):=j7.imp (K_ hc) λvs H Q h0=>by
 obtain⟨w,f,rfl,ρ,S,x,y,R,hv,d,h⟩:=rn2 h0;clear h0
 cases hv<;>first|exact h.elim|(cases d<;>first|exact h.elim|exact⟨_,_,rfl,h _ _ _ .refl R<|.int _⟩)
abbrev VC (x:A)(S:jH):R A:=match x with
 | .int i=>.ok (.int i) S
 | .bl k=>.ok (.int<|if k then 1 else 0) S
 | .str y=>opt (PySem.intText? y) λn=>gd (y.length<=640) (.ok (.int n) S)
 | _=>.no
abbrev C4 (x y:A)(S:jH):R A:=match x,y with
 | .int i,.int j=>.ok (.rng i j) S
 | _,_=>.no
def Q9:j7 X (.type "range") (rN X<|f2 C4):=j7.imp CP λvs H Q h0=>by
 obtain⟨w,g,rfl,ρ,S,x,y,R,hv,d,h⟩:=rn2 h0;clear h0
 cases hv with
 | int i=>
  cases d with
  | int j=>
   refine⟨i,j,rfl,λp hp=>?_⟩;obtain⟨ex,f⟩:=R.im (u:=.rng i j) hp;exact h ρ _ _ ex f<|.rng j3
  | _=>exact h.elim
 | _=>exact h.elim
abbrev BE (i j:Int):Prop:=(-(2 ^ 62)<=i/\i<2 ^ 62/\-(2 ^ 62)<=j/\j<2 ^ 62)/\(j-i).toNat<=1000
instance (i j:Int):Decidable (BE i j):=by unfold BE;infer_instance
abbrev yt (x:A)(S:jH):R A:=match x with
 | .rng i j=>gd (BE i j) (.ok (.ref S.length)<|S++[.lst<|(l8 i j).map .int])
 | .tup xs=>.ok (.ref S.length) (S++[.lst xs])
 | .frz xs=>.ok (.ref S.length) (S++[.lst xs])
 | .ref n=>opt (jF S n) λxs=>.ok (.ref S.length) (S++[.lst xs])
 | _=>.no
def G9(hc:X.calm=true):j7 X (.type "list") (rN X<|f1 yt):=λpins s σ H vs us Q I rx h0=>by
 kd_p;clear h0
 cases hv with
 | @rng p i j hp=>
  obtain⟨d,h⟩:=j4 h;exact AN hc pins s σ H _ us Q I rx ⟨p,i,j,rfl,hp,d.1,d.2,oM R (qS _) .refl h⟩
 | @tup p xs vs h1 r=>exact tX pins s σ H _ us Q I rx ⟨p,vs,rfl,.inr<|nj.of h1,oM R r .refl h⟩
 | @frz p xs vs h1 r=>exact tX pins s σ H _ us Q I rx ⟨p,vs,rfl,.inl h1.RZ,oM R r .refl h⟩
 | @ref p n hp=>
  kcf_m;obtain⟨vs,h1,r⟩:=R.lst hp<|jU hn;exact tX pins s σ H _ us Q I rx ⟨p,vs,rfl,.inl<|pO.of h1,oM R r .refl h⟩
 | _=>exact h.elim
abbrev vW (x:A)(S:jH):R A:=match x with
 | .rng i j=>gd (BE i j) (.ok (.tup<|(l8 i j).map .int) S)
 | .tup xs=>.ok (.tup xs) S
 | .frz xs=>.ok (.tup xs) S
 | .ref n=>opt (jF S n) λxs=>.ok (.tup xs) S
 | _=>.no
def Dp(hc:X.calm=true):j7 X (.type "tuple") (rN X<|f1 vW):=λpins s σ H vs us Q I rx h0=>by
 kd_p;clear h0
 cases hv with
 | @rng p i j hp=>
  obtain⟨d,h⟩:=j4 h;exact z9 hc pins s σ H _ us Q I rx ⟨p,i,j,rfl,hp,d.1,d.2,xH R (qS _) .refl h⟩
 | @tup p xs vs h1 r=>exact rL pins s σ H _ us Q I rx ⟨p,vs,rfl,.inr ⟨(nj.of h1),h _ _ _ .refl R<|.tup h1 r⟩⟩
 | @frz p xs vs h1 r=>exact rL pins s σ H _ us Q I rx ⟨p,vs,rfl,.inl ⟨h1.RZ,xH R r .refl h⟩⟩
 | @ref p n hp=>
  kcf_m;obtain⟨vs,h1,r⟩:=R.lst hp<|jU hn;exact rL pins s σ H _ us Q I rx ⟨p,vs,rfl,.inl ⟨pO.of h1,xH R r .refl h⟩⟩
 | _=>exact h.elim
abbrev A.Me:ae->Option (List Bool)
 | []=>some []
 | .bl b::xs=>(A.Me xs).map (b::·)
 | _=>none
theorem QI{K:au}{H:Hp}:∀{xs:ae}{vs:List V}{bs:List Bool},AVs K ρ H xs vs->A.Me xs=some bs->vs=bs.map V.bl
 | _,_,_,.nil,e=>by cases e;rfl
 | x::xs,_,bs,.cons h t,e=>by
  cases x with
  | bl b=>
   obtain⟨cs,e1,rfl⟩:=aW.mp (show(A.Me xs).map (b::·)=some bs from e)
   cases h
   rw[QI t e1];rfl
  | _=>cases e
abbrev WB (x:A)(S:jH):R A:=match x with
 | .ref n=>opt (jF S n) λxs=>opt (A.Me xs) λbs=>.ok (.bl<|bs.any λb=>b) S
 | _=>.no
def Z_(hc:X.calm=true):j7 X (.builtin "any") (rN X<|f1 WB):=j7.imp (LF hc) λvs H Q h0=>by
 kd_p;clear h0
 cases hv with
 | @ref p n hp=>
  kcf_m;obtain⟨bs,hb,h⟩:=jK h;obtain⟨vs,h1,r⟩:=R.lst hp<|jU hn;rw[QI r hb]at h1;exact⟨p,bs,rfl,pO.of h1,h _ _ _ .refl R<|.bl _⟩
 | _=>exact h.elim
abbrev insI (x:Int):ag->ag
 | []=>[x]
 | y::ys=>if x<=y then x::y::ys else y::insI x ys
abbrev sortI:ag->ag
 | []=>[]
 | x::xs=>insI x<|sortI xs
theorem insI_perm(x:Int):∀ys:ag,(insI x ys).Perm (x::ys)
 | []=>eN _
 | y::ys=>by
  unfold insI;by_cases h:x<=y
  ·rw[aS h]
  ·rw[aQ h];exact((insI_perm x ys).cons y).trans (List.Perm.swap x y ys)
theorem sortI_perm:∀xs:ag,(sortI xs).Perm xs
 | []=>eN _
 | x::xs=>(insI_perm x<|sortI xs).trans<|(sortI_perm xs).cons x
theorem Jh(x:Int):∀ys:ag,ys.Pairwise (·<=·)->(insI x ys).Pairwise (·<=·)
 | [],_=>cH _ _
 | y::ys,h=>by
  unfold insI;obtain⟨h1,h2⟩:=bV.mp h;by_cases f:x<=y
  ·rw[aS f];exact bV.mpr ⟨λz d=>(bE.mp d).elim (λe=>e ▸ f) λd=>Int.le_trans f<|h1 z d,h⟩
  ·rw[aQ f];refine bV.mpr ⟨λz d=>?_,Jh x ys h2⟩
   rcases bE.mp ((insI_perm x ys).mem_iff.mp d)with e|d
   ·subst e;lia
   ·exact h1 z d
theorem Ao:∀xs:ag,(sortI xs).Pairwise (·<=·)
 | []=>List.Pairwise.nil
 | x::xs=>Jh x _<|Ao xs
abbrev A.kd:A->jH->Option Kd
 | .non,_=>some .non
 | .bl _,_=>some .bl
 | .int _,_=>some .int
 | .str _,_=>some .str
 | .tup _,_=>some .tup
 | .ref n,S=>(jF S n).map λ_=>.lst
 | _,_=>none
def Sv{K:au}(k:Kd):PySem.W.kitOne K k.ty (.type "str")=some (decide<|k=.str):=by cases k<;>rfl
abbrev Lw (k:Kd)(c:String):bi:=if c = "int" then some (decide<|k=.int\/k=.bl)else if c = "bool" then some (decide<|k=.bl)else if c = "tuple" then some (decide<|k=.tup)else if c = "list" then some (decide<|k=.lst)else if c = "str" then some (decide<|k=.str)else none
def Ja{K:au}{k:Kd}{c:String}{b:Bool}(h:Lw k c=some b):PySem.W.kitOne K k.ty (.type c)=some b:=by
 unfold Lw at h;split at h
 ·rename_i e;subst e;rw[<- h];exact TZ k
 ·split at h
  ·rename_i e;subst e;rw[<- h];exact O5 k
  ·split at h
   ·rename_i e;subst e;rw[<- h];exact kit_tuple k
   ·split at h
    ·rename_i e;subst e;rw[<- h];exact Rk k
    ·split at h
     ·rename_i e;subst e;rw[<- h];exact Sv k
     ·cases h
abbrev Uo (x y:A)(S:jH):R A:=match y with
 | .ty c=>opt (x.kd S) λk=>opt (Lw k c) λb=>.ok (.bl b) S
 | _=>.no
def aaA{K:au}{H:Hp}{x:A}{v:V}{k:Kd}(R:Rel K ρ H S)(h:AV K ρ H x v)(e:x.kd S=some k):(∃p vs,v=.ref p/\nj K H p vs/\k=.tup)\/Y3 H v k:=by
 cases h with
 | non=>cases e;exact .inr rfl
 | bl b=>cases e;exact .inr ⟨b,rfl⟩
 | int i=>cases e;exact .inr ⟨i,rfl⟩
 | str i=>cases e;exact .inr ⟨i,rfl⟩
 | tup h r=>cases e;exact .inl ⟨_,_,rfl,(nj.of h),rfl⟩
 | ref h=>
  obtain⟨xs,e1,e2⟩:=aW.mp e;obtain⟨vs,h1,_⟩:=R.lst h (jU e1)
  cases e2
  exact .inr ⟨_,vs,rfl,h1⟩
 | _=>cases e
def VH:j7 X (.builtin "isinstance") (rN X<|f2 Uo):=λpins s σ H vs us Q I rx h0=>by
 obtain⟨w,B,rfl,ρ,S,x,y,R,hv,d,h⟩:=rn2 h0;clear h0
 cases d with
 | ty c=>
  obtain⟨k,f,h⟩:=jK h;obtain⟨b,hb,hq⟩:=jK h;have hq:yE X ρ H Q (.bl b) S:=hq;clear h
  rcases aaA R hv f with⟨p,vs,rfl,j,rfl⟩|m
  ·obtain⟨C,t,rfl,r1,r2⟩:=vals2 rx;obtain⟨g,q,⟨o,h1,h2,_⟩,_⟩:=I.tuple j
   cases(show _=Value.ref p from r1)
   cases(show _=Value.type c from r2)
   exact cF PySem.W.kitx_tuple I.Aw ⟨o,h1,h2⟩ (Ja hb) (λz=>nomatch z) λF=>⟨.bl b,H,I.tok _,rfl,hq _ _ _ .refl R<|.bl _⟩
  ·exact EA (c:=c) pins s σ H _ us Q I rx ⟨w,_,b,rfl,m.acd,Ja hb,hq _ _ _ .refl R<|.bl _⟩
 | _=>exact h.elim
end
abbrev Cw (x:ag):List (ag)->List (ag)
 | []=>[x]
 | y::ys=>if HT.lexLt y x=true then y::Cw x ys else x::y::ys
abbrev ku:List (ag)->List (ag)
 | []=>[]
 | x::xs=>Cw x<|ku xs
abbrev Dw (a b:ag):Prop:=HT.lexLt b a=false
def Dw.trans{a c:ag}(h1:Dw a b)(h2:Dw b c):Dw a c:=by
 unfold Dw at *
 cases e:HT.lexLt c a with
 | false=>rfl
 | true=>
  rcases Sx.J2 (b:=b) e with z|z
  ·rw[h2]at z;cases z
  ·rw[h1]at z;cases z
theorem yr(x:ag):∀ys:List<|ag,(Cw x ys).Perm (x::ys)
 | []=>eN _
 | y::ys=>by
  unfold Cw;by_cases h:HT.lexLt y x=true
  ·rw[aS h];exact((yr x ys).cons y).trans (List.Perm.swap x y ys)
  ·rw[aQ h]
theorem ki:∀xs:List<|ag,(ku xs).Perm xs
 | []=>eN _
 | x::xs=>(yr x<|ku xs).trans<|(ki xs).cons x
theorem Ko(x:ag):∀ys:List<|ag,ys.Pairwise Dw->(Cw x ys).Pairwise Dw
 | [],_=>cH _ _
 | y::ys,h=>by
  unfold Cw;obtain⟨h1,h2⟩:=bV.mp h;by_cases g:HT.lexLt y x=true
  ·rw[aS g];refine bV.mpr ⟨λz d=>?_,Ko x ys h2⟩
   rcases bE.mp ((yr x ys).mem_iff.mp d)with e|d
   ·subst e;unfold Dw
    cases e:HT.lexLt z y with
    | false=>rfl
    | true=>have:=Sx.CK g e;rw[Sx.ze]at this;cases this
   ·exact h1 z d
  ·rw[aQ g];have f:Dw x y:=by unfold Dw;simpa using g
   exact bV.mpr ⟨λz d=>(bE.mp d).elim (λe=>e ▸ f) λd=>f.trans<|h1 z d,h⟩
theorem uM:∀xs:List<|ag,(ku xs).Pairwise Dw
 | []=>List.Pairwise.nil
 | x::xs=>Ko x _<|uM xs
def GU{xs:List<|ag}(p:xs.Perm ys)(h:xs.Pairwise Dw):xs=ku ys:=
 dU (λa b _ _ h1 h2=>(Sx.xx h1 h2).symm) h (uM ys) (p.trans (ki ys).symm)
theorem pig:∀(N:Nat) (l:am),l.Nodup->(∀x∈l,x<N)->l.length<=N
 | 0,l,_,h=>by
  cases l with
  | nil=>exact aL _
  | cons a l=>exact absurd (h a<|aV ..)<|d8 _
 | N+1,l,nd,h=>by
  have h1:=pig N (l.erase N) (nd.erase N) λx d=>by
   have:=h x<|List.mem_of_mem_erase d;have:x≠N:=λz=>by
    subst z;exact(List.Nodup.not_mem_erase nd) d
   lia
  have:=List.le_length_erase (l:=l) (a:=N)
  lia
def t_{N:Nat}{g:Nat->Nat}(h:∀i,i<N->g i<N)(inj:∀i j,i<j->j<N->g i≠g j):((List.range N).map g).Perm (List.range N):=by
 have nd:((List.range N).map g).Nodup:=by
  unfold List.Nodup;rw[bZ];intro i j k m f;rw[aH,bQ]at k m;rw[cI,cI,dw,dw];exact inj i j f m
 have lt:∀x∈(List.range N).map g,x<N:=λx d=>by
  obtain⟨i,k,rfl⟩:=bf.mp d;exact h i<|cg.mp k
 refine(jb nd List.nodup_range).mpr λa=>⟨λha=>cg.mpr<|lt a ha,λha=>?_⟩;refine Classical.byContradiction λhn=>?_;have:=pig N (a::(List.range N).map g) (cP.mpr ⟨hn,nd⟩) λx d=>by
  rcases bE.mp d with rfl|d
  ·exact cg.mp ha
  ·exact lt x d
 rw[bB,aH,bQ]at this
 lia
def range_getD{α:Type}(l:List α)(d:α):(List.range l.length).map (λi=>l.getD i d)=l:=by
 apply d7;intro i;rw[aP];by_cases c:i<l.length
 ·rw[dI c];show some (l.getD i d)=_;rw[aK,aI c];rfl
 ·rw[dm<|by rw[bQ];lia,dm ()];rfl
def OM{kss:List<|ag}{g:Nat->Nat}(c:Sx.Cl g 0 kss.length)(so:Sx.So (Sx.uw kss) g 0 kss.length):(List.range kss.length).map (λi=>kss.getD (g i) [])=ku kss:=by
 refine GU ?_ ?_
 ·have p:=t_ (N:=kss.length) (g:=g) (λi k=>(c i (bL _) k).2) λi j d f z=>by
   have:=so i j (bL _) d f;rw[z]at this;exact this.L8
  have:=p.map λi=>kss.getD i [];rw[bh,range_getD]at this;exact this
 ·rw[bZ];intro i j k f d;rw[aH,bQ]at k f;rw[cI,cI,dw,dw];exact(so i j (bL _) d f).ge
abbrev YN:ae->Option (List<|ag)
 | []=>some []
 | .tup xs::r=>match A.ints xs with
  | some (k::ks)=>(YN r).map λd=>(k::ks)::d
  | _=>none
 | _=>none
theorem UY{K:au}{H:Hp}:∀{xs:ae}{vs:List V}{kss:List<|ag},AVs K ρ H xs vs->YN xs=some kss ->
  ∃rs:bb,vs=rs.map V.ref/\rs.length=kss.length/\∀(i:Nat) (r:ak) (ks:ag),rs[i]?=some r->kss[i]?=some ks->nj K H r (ks.map V.int)/\ks≠[]/\AV K ρ H (.tup<|ks.map .int) (.ref r)
 | [],_,_,.nil,e=>by cases e;exact⟨[],rfl,rfl,λi r ks h=>by simp at h⟩
 | x::xs,_,kss,.cons h t,e=>by
  cases h with
  | tup h r=>
   rename_i a ys us;unfold YN at e
   cases e1:A.ints ys with
   | none=>rw[e1]at e;cases e
   | some ks=>
    rw[e1]at e
    cases ks with
    | nil=>cases e
    | cons k ks=>
     obtain⟨f,e2,rfl⟩:=aW.mp e;obtain⟨rs,rfl,g,m⟩:=UY t e2;have ev:=pQ r e1;subst ev;refine⟨a::rs,rfl,by rw[bB,bB,g],λi j d h1 h2=>?_⟩
     cases i with
     | zero=>
      cases h1
      cases h2
      exact⟨nj.of h,(λz=>nomatch z),.tup h<|qS _⟩
     | succ i=>exact m i j d (by simpa using h1)<|by simpa using h2
  | _=>cases e
theorem zo{K:au}{H:Hp}{α:Type}{f:α->A}{h:α->V}:∀{l:List α},(∀a∈l,AV K ρ H (f a)<|h a)->AVs K ρ H (l.map f) (l.map h)
 | [],_=>.nil
 | a::l,e=>.cons (e a<|aV ..)<|zo λb hb=>e b<|aX _ hb
abbrev KI (k:Nat->ag)(i:Nat):am->am
 | []=>[i]
 | j::js=>if HT.lexLt (k j) (k i)=true then j::KI k i js else i::j::js
abbrev NK (k:Nat->ag):am->am
 | []=>[]
 | i::is=>KI k i<|NK k is
theorem yd(k:Nat->ag)(i:Nat):∀js:am,(KI k i js).Perm (i::js)
 | []=>eN _
 | j::js=>by
  unfold KI;by_cases h:HT.lexLt (k j) (k i)=true
  ·rw[aS h];exact((yd k i js).cons j).trans (List.Perm.swap i j js)
  ·rw[aQ h]
theorem vt(k:Nat->ag):∀is:am,(NK k is).Perm is
 | []=>eN _
 | i::is=>(yd k i<|NK k is).trans<|(vt k is).cons i
theorem Jo{kss:List<|ag}:∀{js:am},(∀j∈js,i<j)->js.Pairwise (Sx.P<|Sx.uw kss)->(KI (λi=>kss.getD i []) i js).Pairwise (Sx.P<|Sx.uw kss)
 | [],_,_=>cH _ _
 | j::js,hi,h=>by
  obtain⟨h1,h2⟩:=bV.mp h;unfold KI;by_cases c:HT.lexLt (kss.getD j []) (kss.getD i [])=true
  ·rw[aS c];refine bV.mpr ⟨λz d=>?_,Jo (λg f=>hi g<|aX _ f) h2⟩
   rcases bE.mp ((yd _ i js).mem_iff.mp d)with e|d
   ·subst e;exact .inl c
   ·exact h1 z d
  ·rw[aQ c];have p:Sx.P (Sx.uw kss) i j:=.inr ⟨by show HT.lexLt _ _=false;simpa using c,hi j<|aV ..⟩;exact bV.mpr ⟨λz d=>(bE.mp d).elim (λe=>e ▸ p) λd=>p.trans<|h1 z d,h⟩
theorem Kr{kss:List<|ag}:∀{is:am},is.Pairwise (· < ·)->(NK (λi=>kss.getD i []) is).Pairwise (Sx.P<|Sx.uw kss)
 | [],_=>List.Pairwise.nil
 | i::is,h=>by
  obtain⟨h1,h2⟩:=bV.mp h;exact Jo (λj d=>h1 j<|(vt _ is).mem_iff.mp d)<|Kr h2
abbrev UJ (kss:List<|ag):am:=NK (λi=>kss.getD i [])<|List.range kss.length
def aaT{kss:List<|ag}{g:Nat->Nat}(c:Sx.Cl g 0 kss.length)(so:Sx.So (Sx.uw kss) g 0 kss.length):(List.range kss.length).map g=UJ kss:=by
 refine dU (λa b _ _ h1 h2=>absurd (h1.trans h2) λz=>z.L8) ?_ (Kr<|gP) ?_
 ·rw[bZ];intro i j k f d;rw[aH,bQ]at k f;rw[cI,cI,dw,dw];exact so i j (bL _) d f
 ·exact(t_ (λi k=>(c i (bL _) k).2) λi j d f z=>by
   have:=so i j (bL _) d f;rw[z]at this;exact this.L8).trans (vt _ _).symm
abbrev RS.post (r:RS)(N:ae->jH->Prop)(T:A->jH->Prop)(B C:ae->jH->Prop)(E:Str->jH->Prop):Prop:=match r with
 | .nx τ S=>N τ S
 | .rt a S=>T a S
 | .bk τ S=>B τ S
 | .ct τ S=>C τ S
 | .ex c S=>E c S
 | .no=>False
abbrev RS.of {α:Type}(r:R α)(f:α->jH->RS):RS:=match r with
 | .ok a S=>f a S
 | .ex c S=>.ex c S
 | .no=>.no
def of_post{α:Type}{r:R α}{f:α->jH->RS}{N B C:ae->jH->Prop}{T:A->jH->Prop}{E:Str->jH->Prop}(h:(RS.of r f).post N T B C E):r.post (λa S=>(f a S).post N T B C E) E:=by
 cases r<;>exact h
def RS.mono{r:RS}{N B C N' B' C':ae->jH->Prop}{T T':A->jH->Prop}{E E':Str->jH->Prop}(h:r.post N T B C E)(hn:∀τ S,N τ S->N' τ S)(ht:∀a S,T a S->T' a S)(hb:∀τ S,B τ S->B' τ S)(hc:∀τ S,C τ S->C' τ S)(he:∀c S,E c S->E' c S):r.post N' T' B' C' E':=by
 cases r with
 | nx τ S=>exact hn _ _ h
 | rt a S=>exact ht _ _ h
 | bk τ S=>exact hb _ _ h
 | ct τ S=>exact hc _ _ h
 | ex c S=>exact he _ _ h
 | no=>exact h.elim
abbrev Iu (X:Cx)(ρ:bb)(H:Hp)(N:L2.St->Hp->Prop):ae->jH->Prop:=λf g=>∀ρ' H' d,Ext ρ ρ' H H'->Rel X.K ρ' H' g->SR X.K ρ' H' f d->N d H'
def Iu.ext{X:Cx}{H H':Hp}{N:L2.St->Hp->Prop}(h:Iu X ρ H N τ S)(e:Ext ρ ρ' H H'):Iu X ρ' H' N τ S:=λρ2 H2 d e2=>h ρ2 H2 d<|e.trans e2
abbrev zb (X:Cx)(ρ:bb)(H:Hp)(D:Ends)(r:RS):Prop:=r.post (Iu X ρ H D.nx) (yE X ρ H D.rt) (Iu X ρ H D.bk) (Iu X ρ H D.ct)<|XE X ρ H
def zb.ext{X:Cx}{H H':Hp}{D:Ends}{r:RS}(h:zb X ρ H D r)(e:Ext ρ ρ' H H'):zb X ρ' H' D r:=RS.mono h (λ_ _ z=>z.ext e) (λ_ _ z=>z.ext e) (λ_ _ z=>z.ext e) (λ_ _ z=>z.ext e) λ_ _ z=>z.ext e
abbrev tS (X:Cx)(c:Sm):TS:=λD σ H=>∃ρ S τ,Rel X.K ρ H S/\SR X.K ρ H τ σ/\zb X ρ H D (c τ S)
abbrev AS (X:Cx)(st:aF)(c:Sm):Prop:=PS X st<|tS X c
abbrev KJ (X:Cx)(sts:List aF)(c:Sm):Prop:=A4 X sts<|tS X c
abbrev tG (X:Cx)(g:Tg):TG:=λv σ H Q=>∃ρ S τ a,Rel X.K ρ H S/\SR X.K ρ H τ σ/\AV X.K ρ H a v/\(g a τ S).post (Iu X ρ H Q) (XE X ρ H)
abbrev AG (X:Cx)(e:aE)(g:Tg):Prop:=PG X e<|tG X g
meta abbrev Rt:=ae->ae->jH->R (ae)
abbrev tGs (X:Cx)(g:Rt):VQ:=λvs σ H Q=>∃ρ S τ d,Rel X.K ρ H S/\SR X.K ρ H τ σ/\AVs X.K ρ H d vs/\(g d τ S).post (Iu X ρ H Q) (XE X ρ H)
abbrev AGs (X:Cx)(es:List aE)(g:Rt):Prop:=PGs X es<|tGs X g
section
variable {X:Cx}{pos:Pos}{a b e:aE}{st:aF}{rest:List aF}{c d:Sm}
def PS.imp{t t':TS}(h:PS X st t)(i:∀D σ H,t' D σ H->t D σ H):PS X st t':=λpins s σ H D I q=>h pins s σ H D I<|i D σ H q
def A4.imp{t t':TS}(h:A4 X rest t)(i:∀D σ H,t' D σ H->t D σ H):A4 X rest t':=λpins s σ H D I q=>h pins s σ H D I<|i D σ H q
def PG.imp{t t':TG}(h:PG X e t)(i:∀v σ H Q,t' v σ H Q->t v σ H Q):PG X e t':=λpins s σ H v u Q I r q=>h pins s σ H v u Q I r<|i _ _ _ _ q
abbrev ko (i:Nat):Tg:=λa τ S=>.ok (τ.set i a) S
def jY{i:Nat}{x:Str}(hN:X.N.Nodup)(hi:X.N[i]?=some x<|>ε)(hx:Loc X.env.scope x:=by first|exact Or.inl rfl|exact Or.inr rfl)(hf:X.fn x=true\/X.env.scope.names.lookup x=some .local<|>γ):AG X (.Name x pos) (ko i):=
 PG.imp (Dr hN hi hx hf) λv σ H Q ⟨ρ,S,τ,a,R,r,va,h⟩=>h ρ H _ .refl R<|r.set va
abbrev DU:Rt:=λd τ S=>match d with
 | []=>.ok τ S
 | _=>.no
abbrev vE (g:Tg)(gs:Rt):Rt:=λf τ S=>match f with
 | a::f=>(g a τ S).bind λd S1=>gs f d S1
 | []=>.no
def pM:AGs X [] DU:=λpins s σ H vs us Q I r ⟨ρ,S,τ,f,R,d,va,h⟩=>TV pins s σ H vs us Q I r (by
 cases va with
 | nil=>exact⟨rfl,h ρ H σ .refl R d⟩
 | cons _ _=>exact h.elim)
def kC{g:Tg}{gs:Rt}(h1:AG X e g)(h2:AGs X es gs)(hs:(assignEach (e::es) X.env).map (·.2)=assign e X.env::(assignEach es X.env).map (·.2)<|>ε):AGs X (e::es) (vE g gs):=
 λpins s σ H vs us Q I r ⟨ρ,S,τ,p,R,k,va,h⟩=>N9 h1 h2 hs pins s σ H vs us Q I r (by
  cases va with
  | nil=>exact h.elim
  | cons ha m=>exact⟨_,_,rfl,ρ,S,τ,_,R,k,ha,jJ (jO h) .refl λf S1 h1 ρ1 H1 j e1 R1 d=>⟨ρ1,S1,f,_,R1,d,m.ext e1,jJ h1 e1 λ_ _ z=>z.ext e1⟩⟩)
abbrev DT (n:Nat)(gs:Rt):Tg:=λa τ S=>match a with
 | .tup xs | .ktu xs=>gd (xs.length=n) (gs xs τ S)
 | _=>.no
def r_{k n:Nat}{gs:Rt}(hc:X.calm=true)(h:AGs X es gs)(hn:(assignEach es X.env).length=n<|>ε)(hst:(assignEach es X.env).findIdx? (·.1)=none<|>ε):AG X (.Tuple es k pos) (DT n gs):=
 PG.imp (W5 hc h hn hst) λv σ H Q h9=>by
  obtain⟨ρ,S,τ,a,R,r,va,h⟩:=h9
  cases va with
  | tup h1 r1=>
   obtain⟨d,h⟩:=j4 h;exact⟨_,_,rfl,nj.of h1,by rw[<- r1.length];exact d,ρ,S,τ,_,R,r,r1,h⟩
  | ktu h1 r1=>
   obtain⟨d,h⟩:=j4 h;exact⟨_,_,rfl,.inr h1,by rw[<- r1.length];exact d,ρ,S,τ,_,R,r,r1,h⟩
  | _=>exact h.elim
abbrev Fq (o i v:A)(S:jH):R Unit:=match o,i with
 | .ref n,.int k=>opt (jF S n) λxs=>opt (ES xs.length k) λj=>.ok Unit.unit (S.set n<|.lst<|xs.set j v)
 | _,_=>.no
abbrev rSt (X:Cx):G8:=λo i v H Q=>∃ρ S ao d f,Rel X.K ρ H S/\AV X.K ρ H ao o/\AV X.K ρ H d i/\AV X.K ρ H f v/\(Fq ao d f S).post (λ_ g=>∀ρ' H',Ext ρ ρ' H H'->Rel X.K ρ' H' g->Q H') (XE X ρ H)
def Tn:FG X (rSt X):=λpins s σ H o i v q iv u Q I m d f h9=>by
 obtain⟨ρ,S,ao,z,B,R,h1,h2,h3,h⟩:=h9
 cases h1 with
 | @ref p n hp=>
  cases h2 with
  | int k=>
   kcf_m;obtain⟨j,g,h⟩:=jK h;obtain⟨vs,e,r⟩:=R.lst hp<|jU hn;obtain⟨ex,t⟩:=R.put hp (jU hn)<|r.set h3 j;exact set_list pins s σ H _ _ v q iv u Q I m d f ⟨p,vs,k,j,rfl,rfl,e,by rw[<- r.length];exact g,h _ _ ex t⟩
  | _=>exact h.elim
 | _=>exact h.elim
abbrev X3 (co ci:Ex):Tg:=λa τ S=>(co τ S).bind λo S1=>(ci τ S1).bind λi S2=>(Fq o i a S2).bind λ_ S3=>.ok τ S3
def Ac{co ci:Ex}(ho:AE X o co)(hi:AE X i ci)
  (ha:(∀v,assign (.Subscript o i pos) X.env v=(do
   let ov <- holding [v] (eval o X.env)
   let iv <- holding [v,ov] (eval i X.env)
   standAt pos
   holding [v,ov,iv] (setItem ov iv v)
   release [v,ov,iv] []))<|>ζ):AG X (.Subscript o i pos) (X3 co ci):=PG.imp (C1 ho hi Tn ha) λv σ H Q h9=>by
 obtain⟨ρ,S,τ,a,R,r,va,h⟩:=h9;k_ne;gp_on;kpf_c
abbrev rS:Sm:=λτ S=>.nx τ S
abbrev kc (c d:Sm):Sm:=λτ S=>match c τ S with
 | .nx f g=>d f g
 | r=>r
def lB:KJ X [] rS:=A4.imp Uz λD σ H ⟨ρ,S,τ,R,r,h⟩=>h ρ H σ .refl R r
def Uc{D:Ends}{H:Hp}(h:tS X (kc c d) D σ H):aao (tS X c) (tS X d) D σ H:=by
 kl_no;refine⟨ρ,S,τ,R,r,?_⟩;unfold kc at h
 cases hc:c τ S with
 | nx f S1=>
  rw[hc]at h;exact λρ1 H1 g e1 R1 r1=>⟨ρ1,S1,f,R1,r1,zb.ext h e1⟩
 | rt a S1=>rw[hc]at h;exact h
 | bk f S1=>rw[hc]at h;exact h
 | ct f S1=>rw[hc]at h;exact h
 | ex x S1=>rw[hc]at h;exact h
 | no=>rw[hc]at h;exact h
def jL(h1:AS X st c)(h2:KJ X rest d):KJ X (st::rest) (kc c d):=A4.imp (Nc h1 h2) λD σ H h=>Uc h
def jM(h1:AS X st c):KJ X [st] c:=RV h1
abbrev W6:Sm:=λτ S=>.bk τ S
abbrev aar:Sm:=λτ S=>.ct τ S
abbrev um (e:Ex):Sm:=λτ S=>.of (e τ S) λ_ S1=>.nx τ S1
def pN{f:Ex}(he:AE X e f)(hs:swapsWith e none pos.line X.env=pure false<|>ε):AS X (.Expr e pos) (um f):=PS.imp (TQ he hs) λD σ H ⟨ρ,S,τ,R,r,h⟩=>
 ⟨ρ,S,τ,R,r,jJ (of_post h) .refl λa S1 h1 ρ1 H1 x e1 R1 v1=>h1 ρ1 H1 σ e1 R1<|r.ext e1⟩
abbrev lK (e:Ex):Sm:=λτ S=>.of (e τ S) λa S1=>.rt a S1
def j5{f:Ex}(he:AE X e f):AS X (.Return (some e) pos) (lK f):=PS.imp (Za he) λD σ H ⟨ρ,S,τ,R,r,h⟩=>⟨ρ,S,τ,R,r,jJ (of_post h) .refl λa S1 h1=>h1⟩
abbrev aaK:Sm:=λτ S=>.rt .non S
abbrev AH (t:Te)(c d:Sm):Sm:=λτ S=>.of (t τ S) λb S1=>match b with|true=>c τ S1|false=>d τ S1
def n_{t:Te}(ht:AT X e t)(ha:KJ X ca c)(hb:KJ X cb d):AS X (.If e ca cb pos) (AH t c d):=PS.imp (aaJ ht ha hb) λD σ H h9=>by
 z_go;refine⟨ρ,S,τ,R,r,jJ (of_post h) .refl λb S1 h1 ρ1 H1 e1 R1=>?_⟩
 cases b with
 | true=>rw[aS rfl];exact⟨ρ1,S1,τ,R1,r.ext e1,zb.ext h1 e1⟩
 | false=>rw[aQ bF];exact⟨ρ1,S1,τ,R1,r.ext e1,zb.ext h1 e1⟩
abbrev kB (e:Ex)(g:Tg):Sm:=λτ S=>.of (e τ S) λa S1=>.of (g a τ S1) λd S2=>.nx d S2
def TF{f:Ex}{g:Tg}{D:Ends}{H:Hp}(h:tS X (kB f g) D σ H):M9 (tE X f) (tG X g) D σ H:=by
 kl_no;exact⟨ρ,S,τ,R,r,jJ (of_post h) .refl λa S1 h1 ρ1 H1 x e1 R1 v1=>⟨ρ1,S1,τ,a,R1,r.ext e1,v1,jJ (of_post h1) e1 λd S2 h2=>Iu.ext h2 e1⟩⟩
def qf{tg:aE}{f:Ex}{g:Tg}(he:AE X e f)(hg:AG X tg g)(hs:swapsWithSole [tg] e pos.line X.env=pure false<|>ε)(hw:swappedStores [tg] e X.env=pure none<|>ε)
  (h1:(assignEach [tg] X.env).map (·.2)=[assign tg X.env]<|>ε):AS X (.Assign [tg] e pos) (kB f g):=PS.imp (WE he hg hs hw h1) λD σ H h=>TF h
def j8{i:Nat}{x:Str}{f:Ex}(hN:X.N.Nodup)(he:AE X e f)(hi:X.N[i]?=some x<|>ε)(hx:Loc X.env.scope x:=by first|exact Or.inl rfl|exact Or.inr rfl)(hs:(swapsWith e (some<|.Name x pos') pos.line X.env=pure false)<|>ε)(hf:X.fn x=true\/X.env.scope.names.lookup x=some .local<|>γ) :
  AS X (.Assign [.Name x pos'] e pos) (kB f<|ko i):=PS.imp (Wy hN hi hx he hs hf) λD σ H ⟨ρ,S,τ,R,r,h⟩=>
 ⟨ρ,S,τ,R,r,jJ (of_post h) .refl λa S1 h1 ρ1 H1 x e1 R1 v1=>h1 ρ1 H1 _ e1 R1<|(r.ext e1).set v1⟩
abbrev acs (i j:Nat)(c:rj):Sm:=λτ S=>.of (c τ S) λd S1=>match d with
 | [a,b]=>.nx ((τ.set i a).set j b) S1
 | _=>.no
abbrev ip (X:Cx)(f:A->A->jH->R A):TIp:=λx y H Q=>∃ρ S a b,Rel X.K ρ H S/\AV X.K ρ H a x/\AV X.K ρ H b y/\(f a b S).post (yE X ρ H Q) (XE X ρ H)
abbrev abN (a b:A)(S:jH):R A:=match a,b with
 | .int i,.int j=>.ok (.int<|i+j) S
 | _,_=>.no
abbrev PO (i:Nat)(f:A->A->jH->R A)(e:Ex):Sm:=λτ S=>if (τ.getD i .unb).oX then .no else .of (e τ S) λb S1=>.of (f (τ.getD i .unb) b S1) λc S2=>.nx (τ.set i c) S2
def V8{i:Nat}{x:Str}{c:Ex}{f:A->A->jH->R A}(hN:X.N.Nodup)(he:AE X e c)(ho:PIp X op<|ip X f)(hi:X.N[i]?=some x<|>ε)(hx:Loc X.env.scope x:=by first|exact Or.inl rfl|exact Or.inr rfl)(hf:X.fn x=true\/X.env.scope.names.lookup x=some .local<|>γ) :
  AS X (.AugAssign (.Name x pos') op e pos) (PO i f c):=PS.imp (Xf hN hi hx he ho hf) λD σ H h9=>by
 z_go;have d:∀x,τ[i]?=some x->x.oX=false->(RS.of (c τ S) λb S1=>.of (f x b S1) λc S2=>.nx (τ.set i c) S2).post (Iu X ρ H D.nx) (yE X ρ H D.rt) (Iu X ρ H D.bk) (Iu X ρ H D.ct) (XE X ρ H) ->
   ∃x,σ[i]?=some (some x)/\tE X c σ H λy H1=>ip X f x y H1 λz H2=>D.nx (σ.set i<|some z) H2:=by
  intro x hi hx h
  rcases r.at i x hi with z|⟨v,e,q⟩
  ·subst z;cases hx
  ·refine⟨v,e,ρ,S,τ,R,r,jJ (of_post h) .refl λb S1 h1 ρ1 H1 y e1 R1 v1=>⟨ρ1,S1,x,b,R1,q.ext e1,v1,jJ (of_post h1) e1 λw S2 h2 ρ2 H2 z e2 R2 v2=>?_⟩⟩;exact h2 ρ2 H2 _ (e1.trans e2) R2<|(r.ext<|e1.trans e2).set v2
 unfold PO zb at h;rw[aK]at h
 cases hi:τ[i]? with
 | none=>rw[hi]at h;exact h.elim
 | some x=>
  rw[hi]at h
  cases hx:x.oX with
  | true=>rw[show(some x).getD .unb=x from rfl,hx]at h;exact h.elim
  | false=>rw[show(some x).getD .unb=x from rfl,hx]at h;exact d x hi hx h
abbrev Ui (a b:A)(S:jH):R A:=match a,b with
 | .ref n,.int i=>opt (jF S n) λxs=>gd (0<=i) (opt (xs[i.toNat]?) λx=>.ok x S)
 | _,_=>.no
abbrev aaI (co ci ce:Ex)(f:A->A->jH->R A):Sm:=λτ S=>.of (co τ S) λo S1=>.of (ci τ S1) λi S2=>.of (Ui o i S2) λx S3=>.of (ce τ S3) λy g=>.of (f x y g) λz d=>.of (Fq o i z d) λ_ j=>.nx τ j
abbrev mF (t:Te)(c:Sm):Nat->Sm
 | 0=>λ_ _=>.no
 | n+1=>λτ S=>.of (t τ S) λb S1=>match b with
  | false=>.nx τ S1
  | true=>match c τ S1 with
   | .nx d f=>mF t c n d f
   | .ct d f=>mF t c n d f
   | .bk d f=>.nx d f
   | r=>r
def D5(n:Nat){t:Te}(hp:PassesOwn (model X.prog X.w) X.A X.env X.xe)(ht:AT X e t)(hb:KJ X body c):AS X (.While e body [] pos) (mF t c n):=PS.imp (QM hp ht hb) λD σ H h9=>by
 z_go;refine⟨λm g H'=>∃ρ' f d,Ext ρ ρ' H H'/\Rel X.K ρ' H' f/\SR X.K ρ' H' d g/\zb X ρ' H' D (mF t c m d f),⟨n,ρ,S,τ,.refl,R,r,h⟩,?_⟩;rintro m q H1 ⟨ρ1,S1,k,e1,R1,r1,h1⟩
 cases m with
 | zero=>exact h1.elim
 | succ m=>
  refine⟨ρ1,S1,k,R1,r1,jJ (of_post h1) .refl λb S2 h2 ρ2 H2 e2 R2=>?_⟩
  cases b with
  | false=>rw[aQ bF];exact h2 ρ2 H2 q e2 R2 (r1.ext e2)
  | true=>
   rw[aS rfl];refine⟨λg H'=>∃ρ' f d,Ext ρ ρ' H H'/\Rel X.K ρ' H' f/\SR X.K ρ' H' d g/\zb X ρ' H' D (mF t c m d f),λg H' z=>⟨m,dz _,z⟩,ρ2,S2,k,R2,r1.ext e2,?_⟩;have h2:zb X ρ1 H1 D (match c k S2 with
    | .nx d f=>mF t c m d f
    | .ct d f=>mF t c m d f
    | .bk d f=>.nx d f
    | r=>r):=h2
   cases hc:c k S2 with
   | nx j S3=>rw[hc]at h2;exact λρ3 H3 p e3 R3 B=>⟨ρ3,S3,j,(e1.trans e2).trans e3,R3,B,zb.ext h2<|e2.trans e3⟩
   | ct j S3=>rw[hc]at h2;exact λρ3 H3 p e3 R3 B=>⟨ρ3,S3,j,(e1.trans e2).trans e3,R3,B,zb.ext h2<|e2.trans e3⟩
   | bk j S3=>rw[hc]at h2;exact Iu.ext h2 e2
   | rt a S3=>rw[hc]at h2;exact yE.ext h2 e2
   | ex x S3=>rw[hc]at h2;exact XE.ext h2 e2
   | no=>rw[hc]at h2;exact h2
end
structure Src where
 k:Nat
 get:Nat->jH->Option A
 fin:jH->Bool
structure JR (K:au)(s:Src)(J:It)(ρ0:bb)(H0:Hp):Prop where
 go:∀(i:Nat) (S:jH) (H:Hp) (ρ:bb) (x:A),Ext0 ρ0 ρ H0 H->Rel K ρ H S->s.get i S=some x->J.go i H/\∀v H',J.yld i H v H'->Ext ρ ρ H H'/\Rel K ρ H' S/\AV K ρ H' x v
 stop:∀(S:jH) (H:Hp) (ρ:bb),Ext0 ρ0 ρ H0 H->Rel K ρ H S->s.fin S=true->J.stop s.k H
meta abbrev Ic:=ae->jH->R Src
abbrev tI (X:Cx)(c:Ic):TI:=λσ H Q=>∃ρ S τ,Rel X.K ρ H S/\SR X.K ρ H τ σ/\(c τ S).post (λs d=>∀ρ' H' J,Ext ρ ρ' H H'->Rel X.K ρ' H' d->JR X.K s J ρ' H'->Q J H') (XE X ρ H)
abbrev AI (X:Cx)(tg iter:aE)(c:Ic):Prop:=PI X tg iter<|tI X c
abbrev p9 (xs:ae):Src:=⟨xs.length,λi _=>xs[i]?,λ_=>true⟩
abbrev kW (n k:Nat):Src:=⟨k,λi S=>(jF S n).bind (·[i]?),λS=>match jF S n with
 | some ys=>decide (ys.length<=k)
 | none=>false⟩
abbrev sE (lo hi:Int):Src:=⟨(hi-lo).toNat,λi _=>if i<(hi-lo).toNat then some (.int<|lo+i)else none,λ_=>true⟩
abbrev lV (c:Ex):Ic:=λτ S=>(c τ S).bind λa S1=>match a with
 | .tup xs=>.ok (p9 xs) S1
 | .frz xs=>.ok (p9 xs) S1
 | .ref n=>opt (jF S1 n) λxs=>.ok (kW n xs.length) S1
 | .str x=>gd (x.cps.all (· < 128)=true) (.ok (p9<|x.cps.toList.map λc=>.str ⟨#[c]⟩) S1)
 | _=>.no
section
variable {X:Cx}{pos:Pos}{tg e a b:aE}
def Wm{K:au}{H0:Hp}{p:ak}(h:nj K H0 p vs)(r:AVs K ρ0 H0 xs vs):JR K (p9 xs) (Itt K p) ρ0 H0 where
 go:=λi S H ρ x e R g=>by
  obtain⟨v,ev,d⟩:=(AVs.mG e r).get g;have hs:=e.sqT h;refine⟨⟨vs,v,hs,ev⟩,λw H' ⟨e1,y⟩=>?_⟩;subst e1;have:=y vs hs;rw[ev]at this
  cases this
  exact⟨.refl,R,d⟩
 stop:=λS H ρ e R _=>⟨vs,e.sqT h,by rw[<- r.length];exact aL _⟩
def Yn{K:au}{H0:Hp}{p:ak}(h:Fz K H0 p vs)(r:AVs K ρ0 H0 xs vs):JR K (p9 xs) (Itl K p) ρ0 H0 where
 go:=λi S H ρ x e R g=>by
  obtain⟨v,ev,d⟩:=(AVs.mG e r).get g;have hs:=(e.fz h).RZ;refine⟨⟨vs,v,hs,ev⟩,λw H' ⟨e1,y⟩=>?_⟩;subst e1;have:=y vs hs;rw[ev]at this
  cases this
  exact⟨.refl,R,d⟩
 stop:=λS H ρ e R _=>⟨vs,(e.fz h).RZ,by rw[<- r.length];exact aL _⟩
def V_{K:au}{ρ0:bb}{H0:Hp}{p:ak}{n k:Nat}(h:ρ0[n]?=some p):JR K (kW n k) (Itl K p) ρ0 H0 where
 go:=λi S H ρ x e R g=>by
  obtain⟨ys,hn,f⟩:=b_.mp<|show(jF S n).bind (·[i]?)=some x from g;obtain⟨vs,h1,r⟩:=R.lst (e.get h)<|jU hn;obtain⟨v,ev,d⟩:=r.get f;refine⟨⟨vs,v,pO.of h1,ev⟩,λw H' ⟨e1,y⟩=>?_⟩;subst e1;have:=y vs<|pO.of h1;rw[ev]at this
  cases this
  exact⟨.refl,R,d⟩
 stop:=λS H ρ e R g=>by
  have g:(match jF S n with
   | some ys=>decide (ys.length<=k)
   | none=>false)=true:=g
  cases hn:jF S n with
  | none=>rw[hn]at g;cases g
  | some ys=>
   rw[hn]at g;obtain⟨vs,h1,r⟩:=R.lst (e.get h)<|jU hn;exact⟨vs,pO.of h1,by rw[<- r.length];exact bU g⟩
def Gf{K:au}{H0:Hp}{lo hi:Int}:JR K (sE lo hi) (Zj lo (hi-lo).toNat) ρ0 H0 where
 go:=λi S H ρ x e R g=>by
  have g:(if i<(hi-lo).toNat then some (A.int<|lo+i)else none)=some x:=g;by_cases d:i<(hi-lo).toNat
  ·rw[aS d]at g
   cases g
   refine⟨d,λw H' ⟨e1,y⟩=>?_⟩;subst e1 y;exact⟨.refl,R,.int _⟩
  ·rw[aQ d]at g;cases g
 stop:=λS H ρ e R _=>aL _
def Yj{K:au}{H0:Hp}{x:Str}:JR K (p9<|x.cps.toList.map λc=>A.str ⟨#[c]⟩) (Its x) ρ0 H0 where
 go:=λi S H ρ y e R g=>by
  have g:(x.cps.toList.map λc=>A.str ⟨#[c]⟩)[i]?=some y:=g;rw[aP]at g;obtain⟨c,hc,rfl⟩:=aW.mp g;rw[cZ]at hc;refine⟨(Array.getElem?_eq_some_iff.mp hc).1,λw H' ⟨e1,j,d,f⟩=>?_⟩;rw[hc]at d
  cases d
  subst e1 f;exact⟨.refl,R,.str _⟩
 stop:=λS H ρ e R _=>by
  show(x.cps.toList.map λc=>A.str ⟨#[c]⟩).length=x.cps.size;rw[aH,d_]
def lX{c:Ex}(he:AE X e c):AI X tg e (lV c):=λpins s σ H Q I h9=>by
 z_go;have hb:=jO h
 cases hc:c τ S with
 | no=>rw[hc]at hb;exact hb.elim
 | ex x S1=>
  rw[hc]at hb;exact Qh he pins s σ H Q I ⟨ρ,S,τ,R,r,by rw[hc];exact hb⟩
 | ok a S1=>
  rw[hc]at hb
  cases a with
  | tup xs=>
   refine Qh he pins s σ H Q I ⟨ρ,S,τ,R,r,?_⟩;rw[hc];intro ρ1 H1 x e1 R1 v1
   cases v1 with
   | tup h1 r1=>exact⟨_,rfl,⟨_,(nj.of h1)⟩,hb ρ1 H1 _ e1 R1<|Wm (nj.of h1) r1⟩
  | frz xs=>
   refine HJ he pins s σ H Q I ⟨ρ,S,τ,R,r,?_⟩;rw[hc];intro ρ1 H1 x e1 R1 v1
   cases v1 with
   | frz h1 r1=>exact⟨_,rfl,⟨_,h1.RZ⟩,hb ρ1 H1 _ e1 R1<|Yn h1 r1⟩
  | ref n=>
   obtain⟨xs,hn,hb⟩:=jK hb;refine HJ he pins s σ H Q I ⟨ρ,S,τ,R,r,?_⟩;rw[hc];intro ρ1 H1 x e1 R1 v1
   cases v1 with
   | ref hp=>
    obtain⟨vs,h1,r1⟩:=R1.lst hp<|jU hn;exact⟨_,rfl,⟨_,pO.of h1⟩,hb ρ1 H1 _ e1 R1<|V_ hp⟩
  | str x=>
   obtain⟨ha,hb⟩:=j4 hb;refine X_ he pins s σ H Q I ⟨ρ,S,τ,R,r,?_⟩;rw[hc];intro ρ1 H1 v e1 R1 v1
   cases v1 with
   | str=>exact⟨x,rfl,ha,hb ρ1 H1 _ e1 R1 Yj⟩
  | _=>exact hb.elim
abbrev bnd (i:Int):Prop:=-(2 ^ 62)<=i/\i<2 ^ 62
instance (i:Int):Decidable (bnd i):=by unfold bnd;infer_instance
abbrev rF (c:Ex):Ic:=λτ S=>(c τ S).bind λa S1=>match a with
 | .int j=>gd (bnd j) (.ok (sE 0 j) S1)
 | _=>.no
abbrev yx (c d:Ex):Ic:=λτ S=>(c τ S).bind λa S1=>(d τ S1).bind λb S2=>match a,b with
 | .int i,.int j=>gd (bnd i/\bnd j) (.ok (sE i j) S2)
 | _,_=>.no
def vp{p:Pos}{c:Ex}(hm:X.mg "range" = none)(ha:AE X a c)(hg:Gl X "range"<|>ε)(hs:starEach [a] X.env=[(false,eval a X.env)]<|>ε):AI X tg (.Call (.Name "range" p) [a] [] pos) (rF c):=λpins s σ H Q I h9=>by
 z_go;refine KS hg hm (qo ha wK hs) hs pins s σ H Q I ⟨ρ,S,τ,R,r,jJ (jO h) .refl λx S1 h1 ρ1 H1 v e1 R1 v1=>?_⟩
 cases v1 with
 | int j=>
  obtain⟨hb,h1⟩:=j4 h1;exact⟨_,rfl,hb.1,hb.2,by have:=h1 ρ1 H1 _ e1 R1 Gf;rwa [Int.sub_zero]at this⟩
 | _=>exact h1.elim
def B5{p:Pos}{c d:Ex}(hm:X.mg "range" = none)(ha:AE X a c)(hb:AE X b d)(hg:Gl X "range"<|>ε)(hs:starEach [a,b] X.env=[(false,eval a X.env),(false,eval b X.env)]<|>ε)(hs2:starEach [b] X.env=[(false,eval b X.env)]<|>ε):AI X tg (.Call (.Name "range" p) [a,b] [] pos) (yx c d):=λpins s σ H Q I h9=>by
 z_go;refine Mc hg hm (qo ha (qo hb wK hs2)<|by rw[hs,hs2]) hs hs2 pins s σ H Q I ⟨ρ,S,τ,R,r,jJ (jO h) .refl λx S1 h1 ρ1 H1 v e1 R1 v1=>⟨ρ1,S1,τ,R1,r.ext e1,jJ (jO h1) e1 λy S2 h2 ρ2 H2 w e2 R2 v2=>?_⟩⟩
 cases v1 with
 | int i=>
  cases v2 with
  | int j=>
   obtain⟨hb,h2⟩:=j4 h2;exact⟨_,_,rfl,⟨hb.1.1,hb.1.2,hb.2.1,hb.2.2⟩,h2 ρ2 H2 _ (e1.trans e2) R2 Gf⟩
  | _=>exact h2.elim
 | _=>exact h2.elim
abbrev EZ (xs:ae):Src:=⟨xs.length,λi _=>(xs[i]?).map λx=>.tup [.int i,x],λ_=>true⟩
abbrev Uh (c:Ex):Ic:=λτ S=>(c τ S).bind λa S1=>match a with
 | .tup xs=>.ok (EZ xs) S1
 | _=>.no
def Zd{K:au}{H0:Hp}{p:ak}(h:nj K H0 p vs)(r:AVs K ρ0 H0 xs vs):JR K (EZ xs) (Ite K p) ρ0 H0 where
 go:=λi S H ρ x e R g=>by
  obtain⟨y,hy,rfl⟩:=aW.mp<|show(xs[i]?).map (λx=>A.tup [.int i,x])=some x from g;obtain⟨v,ev,k⟩:=(AVs.mG e r).get hy;have hs:=e.sqT h;refine⟨⟨vs,v,hs,ev⟩,λw H' q=>?_⟩;obtain⟨m,hp,rfl,j⟩:=q;have d:=j vs v hs ev;subst d;obtain⟨ex,f⟩:=R.im (u:=.tup [.int i,v]) hp;exact⟨ex,f,.tup j3<|.cons (.int _)<|.cons (k.ext ex) .nil⟩
 stop:=λS H ρ e R _=>⟨vs,e.sqT h,by rw[<- r.length];rfl⟩
def XH{p:Pos}{c:Ex}(hm:X.mg "enumerate" = none)(ha:AE X a c)(hg:Gl X "enumerate"<|>ε)(hs:starEach [a] X.env=[(false,eval a X.env)]<|>ε):AI X (.Tuple elts x1 tpos) (.Call (.Name "enumerate" p) [a] [] pos) (Uh c):=λpins s σ H Q I h9=>by
 z_go;refine MV hg hm (qo ha wK hs) hs pins s σ H Q I ⟨ρ,S,τ,R,r,jJ (jO h) .refl λx S1 h1 ρ1 H1 v e1 R1 v1=>?_⟩
 cases v1 with
 | tup h2 r2=>exact⟨_,_,rfl,(nj.of h2),h1 ρ1 H1 _ e1 R1<|Zd (nj.of h2) r2⟩
 | _=>exact h1.elim
abbrev rK (s:Src)(g:Tg)(c:Sm):Nat->Nat->Sm
 | 0,_=>λτ S=>if s.fin S then .nx τ S else .no
 | k+1,i=>λτ S=>match s.get i S with
  | none=>.no
  | some x=>.of (g x τ S) λj S1=>match c j S1 with
   | .nx d f=>rK s g c k (i+1) d f
   | .ct d f=>rK s g c k (i+1) d f
   | .bk d f=>.nx d f
   | r=>r
abbrev mj (src:Ic)(g:Tg)(c:Sm):Sm:=λτ S=>.of (src τ S) λs S1=>rK s g c s.k 0 τ S1
def m8{iter:aE}{src:Ic}{g:Tg}{c:Sm}(hp:PassesOwn (model X.prog X.w) X.A X.env X.xe)(hc:X.calm=true)(hi:AI X tg iter src)(hg:AG X tg g)(hb:KJ X body c)
  (hs:(∀x,foldedSetIterable iter X.env x=pure x)<|>ζ):AS X (.For tg iter body [] pos) (mj src g c):=PS.imp (WG hp hc hi hg hb hs) λD σ H h9=>by
 z_go;refine⟨ρ,S,τ,R,r,jJ (of_post h) .refl λs S1 h1 ρ1 H1 J e1 R1 Z=>?_⟩;refine⟨λi m t H'=>m+i=s.k/\∃ρ' q d,Ext ρ1 ρ' H1 H'/\Rel X.K ρ' H' q/\SR X.K ρ' H' d t/\zb X ρ' H' D (rK s g c m i d q),⟨s.k,rfl,ρ1,S1,τ,.refl,R1,r.ext e1,zb.ext h1 e1⟩,?_⟩;rintro i m Y H2 ⟨hm,ρ2,S2,C,e2,R2,r2,h2⟩
 cases m with
 | zero=>
  left;have h2:zb X ρ2 H2 D (if s.fin S2 then .nx C S2 else .no):=h2
  cases hf:s.fin S2 with
  | false=>rw[hf]at h2;exact h2.elim
  | true=>
   rw[hf]at h2;refine⟨by rw[show i=s.k by lia];exact Z.stop S2 H2 ρ2 e2.toExt0 R2 hf,h2 ρ2 H2 Y .refl R2 r2⟩
 | succ m=>
  right;have h2:zb X ρ2 H2 D (match s.get i S2 with
   | none=>.no
   | some x=>.of (g x C S2) λT S1=>match c T S1 with
    | .nx d q=>rK s g c m (i+1) d q
    | .ct d q=>rK s g c m (i+1) d q
    | .bk d q=>.nx d q
    | r=>r):=h2
  cases U:s.get i S2 with
  | none=>rw[U]at h2;exact h2.elim
  | some x=>
   rw[U]at h2;obtain⟨V,hy⟩:=Z.go i S2 H2 ρ2 x e2.toExt0 R2 U;refine⟨V,λt H'=>m+(i+1)=s.k/\∃ρ' q d,Ext ρ1 ρ' H1 H'/\Rel X.K ρ' H' q/\SR X.K ρ' H' d t/\zb X ρ' H' D (rK s g c m (i+1) d q),λt H' z=>⟨m,dz _,z⟩,λv H3 y=>?_⟩;obtain⟨e3,R3,v3⟩:=hy v H3 y;refine⟨ρ2,S2,C,x,R3,r2.ext e3,v3,jJ (of_post h2) e3 λL S4 p P H4 σ4 e4 R4 r4=>⟨P,S4,L,R4,r4,?_⟩⟩;have f:=e3.trans e4
   cases j:c L S4 with
   | nx B G=>rw[j]at p;exact λF H5 O M W N=>⟨(),F,G,B,(e2.trans f).trans M,W,N,zb.ext p<|f.trans M⟩
   | ct B G=>rw[j]at p;exact λF H5 O M W N=>⟨(),F,G,B,(e2.trans f).trans M,W,N,zb.ext p<|f.trans M⟩
   | bk B G=>rw[j]at p;exact Iu.ext p f
   | rt x5 G=>rw[j]at p;exact yE.ext p f
   | ex x5 G=>rw[j]at p;exact XE.ext p f
   | no=>rw[j]at p;exact p
end
abbrev R.ny {α β:Type}(r:R α)(f:α->jH->R β):R β:=match r with
 | .ok a S=>f a S
 | _=>.no
def oR{α β:Type}{r:R α}{f:α->jH->R β}{b:β}(h:r.ny f=.ok b S2):∃a S,r=.ok a S/\f a S=.ok b S2:=by
 cases r with
 | ok a S=>exact⟨a,S,rfl,h⟩
 | ex _ _=>cases h
 | no=>cases h
def zQ{α β:Type}{r:R α}{f:α->jH->R β}{P:β->jH->Prop}{E:Str->jH->Prop}(h:(r.ny f).post P E):∃a S,r=.ok a S/\(f a S).post P E:=by
 cases r with
 | ok a S=>exact⟨a,S,rfl,h⟩
 | ex _ _=>exact h.elim
 | no=>exact h.elim
def Cj{α β:Type}{o:Option β}{f:β->R α}{a:α}(h:opt o f=.ok a S):∃b,o=some b/\f b=.ok a S:=by
 cases o with
 | none=>cases h
 | some b=>exact⟨b,rfl,h⟩
abbrev nB (s:Src)(g:Tg)(t:Te)(e:Ex):Nat->Nat->ae->jH->R (ae)
 | 0,_=>λ_ S=>if s.fin S then .ok [] S else .no
 | k+1,i=>λτ S=>opt (s.get i S) λx=>(g x τ S).ny λd S1=>(t d S1).ny λb S2=>match b with
  | true=>(e d S2).ny λy S3=>(nB s g t e k (i+1) d S3).ny λys f=>.ok (y::ys) f
  | false=>nB s g t e k (i+1) d S2
abbrev k9 (cap:List<|bj)(τ:ae):ae:=cap.map λo=>match o with
 | some j=>τ.getD j .unb
 | none=>.unb
abbrev kO (cap:List<|bj)(src:Ic)(g:Tg)(t:Te)(e:Ex):Ex:=λτ S=>(src τ S).bind λs S1=>(nB s g t e s.k 0 (k9 cap τ) S1).ny λys S2=>newL ys S2
abbrev qJ:Te:=λ_ S=>.ok true S
def Fb{s:Src}{g:Tg}{t:Te}{e:Ex}{k:Nat}{T:Prop}(h:nB s g t e (k+1) i τ S=.ok zs S')
  (q:∀x τ1 S1 b S2,s.get i S=some x->g x τ S=.ok τ1 S1->t τ1 S1=.ok b S2->(b=true->∃y S3 ws,e τ1 S2=.ok y S3/\nB s g t e k (i+1) τ1 S3=.ok ws S'/\zs=y::ws)->(b=false->nB s g t e k (i+1) τ1 S2=.ok zs S')->T):T:=by
 obtain⟨x,f,h⟩:=Cj h;obtain⟨τ1,S1,h1,h⟩:=oR h;obtain⟨b,S2,h2,h⟩:=oR h;refine q x τ1 S1 b S2 f h1 h2 (λhb=>?_) λhb=>?_
 ·subst hb;obtain⟨y,S3,h3,h⟩:=oR h;obtain⟨ws,j,d,h⟩:=oR h
  cases h
  exact⟨y,S3,ws,h3,d,rfl⟩
 ·subst hb;exact h
structure Out (ρ1:bb)(H1:Hp)(D:ak)(accV:List V)(ρ:bb)(H:Hp):Prop where
 e0:Ext0 ρ1 ρ H1 H
 fr:∀a u,a≠D->H1 a=some u->a∉ρ1->H a=some u
 nw:∀a∈ρ,a∈ρ1\/H1 a=none
 nD:D∉ρ
 hD:H D=some (.lst accV)
def Out.stay{H1 H3 H7:Hp}{D:ak}(o:Out ρ1 H1 D accV ρ3 H3)(hD1:H1 D=none)(e7:Ext ρ3 ρ7 H3 H7):Out ρ1 H1 D accV ρ7 H7:=by
 refine⟨⟨o.e0.pre.trans e7.pre,λa u i h=>e7.im a u i<|o.e0.im a u i h⟩,λa u na f g=>e7.fr a u (o.fr a u na f g) λz=>(o.nw a z).elim g λz=>by(rw[z]at f;cases f),λa ha=>?_,λz=>(e7.nw D z).elim o.nD λz=>by(rw[o.hD]at z;cases z),e7.fr D _ o.hD o.nD⟩;by_cases d:a∈ρ1
 ·exact .inl d
 ·right
  cases q:H1 a with
  | none=>rfl
  | some u=>
   have j:a≠D:=jX q hD1
   rcases e7.nw a ha with z|z
   ·exact((o.nw a z).elim d λz=>by(rw[z]at q;cases q)).elim
   ·rw[o.fr a u j q d]at z;cases z
def Out.put{H1 H:Hp}{D:ak}(o:Out ρ1 H1 D accV ρ H)(ex:Ext0 ρ ρ H<|upd H D<|.lst vs):Out ρ1 H1 D vs ρ (upd H D<|.lst vs):=
 ⟨⟨o.e0.pre,λa u i h=>ex.im a u i<|o.e0.im a u i h⟩,λa u na f d=>by rw[jI na];exact o.fr a u na f d,o.nw,o.nD,j3⟩
def Out.end{H1 H:Hp}{D:ak}(o:Out ρ1 H1 D accV ρ H)(hD:H1 D=none):Ext ρ1 (ρ++[D]) H1 H:=by
 refine⟨⟨o.e0.pre.trans<|dP _ _,o.e0.im⟩,λa u d na=>o.fr a u (jX d hD) d na,λa ha=>?_⟩
 rcases bJ.mp ha with z|z
 ·exact o.nw a z
 ·have:a=D:=by simpa using z
  rw[this];exact .inr hD
abbrev Cq (K:au)(ρ1:bb)(H1:Hp)(D:ak)(ys:ae)(k:Nat)(E:bb->Hp->Prop)(P:Nat->Nat->ae->jH->ae->Prop)(i m:Nat)(σ:L2.St)(H:Hp):Prop:=
 m+i=k/\∃ρ S τ acc zs accV,Out ρ1 H1 D accV ρ H/\E ρ H/\Rel K ρ H S/\SR K ρ H τ σ/\AVs K ρ H acc accV/\P m i τ S zs/\acc++zs=ys
section
variable {K:au}{ρ1 ρ:bb}{H1 H:Hp}{D:ak}{ys acc zs:ae}{accV:List V}{k i m:Nat}{E:bb->Hp->Prop}{P:Nat->Nat->ae->jH->ae->Prop}{σ:L2.St}{S:jH}{τ:ae}
def Cq.el{T:Prop}(h:Cq K ρ1 H1 D ys k E P i m σ H)(q:∀ρ S τ acc zs accV,m+i=k->Out ρ1 H1 D accV ρ H->E ρ H->Rel K ρ H S->SR K ρ H τ σ->AVs K ρ H acc accV->P m i τ S zs->acc++zs=ys->T):T:=by
 obtain⟨f,ρ,S,τ,acc,zs,accV,h1,h2,h3,j,d,h6,g⟩:=h;exact q ρ S τ acc zs accV f h1 h2 h3 j d h6 g
def Cq.of(hm:m+i=k)(o:Out ρ1 H1 D accV ρ H)(e:E ρ H)(R:Rel K ρ H S)(r:SR K ρ H τ σ)(v:AVs K ρ H acc accV)(p:P m i τ S zs)(q:acc++zs=ys):Cq K ρ1 H1 D ys k E P i m σ H:=⟨hm,ρ,S,τ,acc,zs,accV,o,e,R,r,v,p,q⟩
end
abbrev Rw (K:au)(c:Ex):TE:=λσ H Q=>∃ρ S τ a d,Rel K ρ H S/\SR K ρ H τ σ/\c τ S=.ok a d/\∀ρ' H' v,Ext ρ ρ' H H'->Rel K ρ' H' d->AV K ρ' H' a v->Q v H'
abbrev Vf (K:au)(c:Te):TT:=λσ H Q=>∃ρ S τ a d,Rel K ρ H S/\SR K ρ H τ σ/\c τ S=.ok a d/\∀ρ' H',Ext ρ ρ' H H'->Rel K ρ' H' d->Q a H'
abbrev Wl (K:au)(g:Tg):TG:=λv σ H Q=>∃ρ S τ a d j,Rel K ρ H S/\SR K ρ H τ σ/\AV K ρ H a v/\g a τ S=.ok d j/\∀ρ' H' f,Ext ρ ρ' H H'->Rel K ρ' H' j->SR K ρ' H' d f->Q f H'
section
variable {X:Cx}{pos:Pos}{tg iter elt e:aE}{ifs:List aE}{scope:Scope}{N:ar}{cap:List (bj)}{src:Ic}{g:Tg}{t:Te}{c:Ex}
def AE.e0{K:au}(hK:X.K=K)(h:AE X e c):PE X e (Rw K c):=PE.imp h λσ H Q ⟨ρ,S,τ,a,g,R,r,hc,q⟩=>⟨ρ,S,τ,by rw[hK];exact R,by rw[hK];exact r,by rw[hc];exact λρ' H' v e d f=>q ρ' H' v e (by rw[<- hK];exact d)<|by rw[<- hK];exact f⟩
def AT.t0{K:au}(hK:X.K=K)(h:AT X e t):PT X e (Vf K t):=PT.imp h λσ H Q ⟨ρ,S,τ,a,f,R,r,hc,q⟩=>⟨ρ,S,τ,by rw[hK];exact R,by rw[hK];exact r,by rw[hc];exact λρ' H' e d=>q ρ' H' e<|by rw[<- hK];exact d⟩
def AG.g0{K:au}(hK:X.K=K)(h:AG X e g):PG X e (Wl K g):=by
 subst hK;refine PG.imp h λv σ H Q h9=>?_;obtain⟨ρ,S,τ,a,d,f,R,r,va,hc,q⟩:=h9;exact⟨ρ,S,τ,a,R,r,va,by rw[hc];exact q⟩
abbrev Zi (X:Cx)(ifs:List aE)(t:Te):Prop:=Nh X ifs<|Vf X.K t
def rB:Zi X [] qJ:=λpins s σ H Q I ⟨ρ,S,τ,a,d,R,r,hc,q⟩=>TN pins s σ H Q I<|by cases hc;exact q ρ H .refl R
def vf(h:AT X e t):Zi X [e] t:=Sq<|h.t0 rfl
def Vc{K:au}{H:Hp}(r:SR K ρ H τ σ)(cap:List<|bj):SR K ρ H (k9 cap τ) (cap.map<|Up σ):=by
 refine⟨by simp[k9],λi a h=>?_⟩;unfold k9 at h;rw[aP]at h;obtain⟨o,f,e⟩:=aW.mp h
 cases o with
 | none=>exact .inl e.symm
 | some j=>
  have e:τ.getD j .unb=a:=e
  cases d:τ[j]? with
  | none=>rw[aK,d]at e;exact .inl e.symm
  | some b=>
   rw[aK,d]at e;have e:b=a:=e;subst e
   rcases r.at j b d with z|⟨v,h1,h2⟩
   ·exact .inl z
   ·exact .inr ⟨v,by rw[aP,f];show some ((σ[j]?).getD none)=_;rw[h1];rfl,h2⟩
def Rel.Ew{K:au}{H:Hp}{p:ak}(R:Rel K ρ H S)(hp:H p=none):p∉ρ:=λf=>by
 obtain⟨n,hn,e⟩:=bP.mp f;have g:n<S.length:=by rw[<- R.len];exact hn
 have:=R.at n p S[n] (by rw[aI hn,e]) (aI g)
 cases d:S[n]with
 | lst xs=>rw[d]at this;obtain⟨vs,h,_⟩:=this;rw[hp]at h;cases h
 | dct _|qi _|vA _=>rw[d]at this;obtain⟨vs,h,_⟩:=this;rw[hp]at h;cases h
 | dcf _=>rw[d]at this;obtain⟨_,vs,h,_⟩:=this;rw[hp]at h;cases h
 | ins _ _=>rw[d]at this;obtain⟨_,_,h⟩:=this;rw[hp]at h;cases h
def E5(σ:L2.St)(H:Hp)(Q:VK)(h:tE X (kO cap src g t c) σ H Q):Zp cap (tI X src) (Wl X.K g) (Vf X.K t) (Rw X.K c) σ H Q:=by
 kl_no;refine⟨ρ,S,τ,R,r,jJ (jO h) .refl λs S1 h1 ρ1 H1 J e1 R1 jr D hD=>?_⟩;obtain⟨ys,S2,V,h1⟩:=zQ h1;obtain⟨C,h1⟩:=j4 h1;have h1:yE X ρ H Q (.ref S2.length) (S2++[.lst ys]):=h1;obtain⟨eD,RD⟩:=R1.im (u:=.lst []) hD;refine⟨Cq X.K ρ1 H1 D ys s.k (λ_ _=>True) λm i τ S zs=>nB s g t c m i τ S=.ok zs S2,⟨s.k,.of rfl ⟨eD.toExt0,λa u na hu _=>by rw[jI na];exact hu,λa ha=>.inl ha,R1.Ew hD,j3⟩ trivial RD (Vc ((r.ext e1).ext eD) cap) .nil V rfl⟩,?_⟩;intro i m σ3 H3 hw;refine hw.el λρ3 S3 W acc zs accV hm q _ R3 r3 p d f=>?_;clear hw
 cases m with
 | zero=>
  left;have d:(if s.fin S3 then Am.R.ok [] S3 else .no)=.ok zs S2:=d
  cases hf:s.fin S3 with
  | false=>rw[hf]at d;cases d
  | true=>
   rw[hf]at d
   cases d
   rw[bO]at f;subst f;refine⟨by rw[show i=s.k by lia];exact jr.stop _ H3 ρ3 q.e0 R3 hf,?_⟩;obtain⟨RT,gt⟩:=R3.take q.hD q.nD p;exact h1 (ρ3++[D]) H3 _ (e1.trans<|q.end hD) RT<|.ref gt
 | succ m=>
  right;refine Fb d λx z S4 b S5 hx N T hT hF=>?_;have jg:=jr.go i S3 H3 ρ3 x q.e0 R3 hx;refine⟨jg.1,λv H4 y=>?_⟩;obtain⟨e4,R4,v4⟩:=jg.2 v H4 y;refine⟨ρ3,S3,W,x,z,S4,R4,r3.ext e4,v4,N,λZ H5 σ5 e5 R5 G=>⟨Z,S4,z,b,S5,R5,G,T,λU H6 L R6=>?_⟩⟩;have j:=(e4.trans e5).trans L
  cases b with
  | false=>
   dsimp only;rw[aQ bF];exact⟨m,dz _,.of () (q.stay hD j) trivial R6 (G.ext L) (p.ext j) (hF rfl) f⟩
  | true=>
   dsimp only;rw[aS rfl];obtain⟨y,S6,ws,P,O,F⟩:=hT rfl;refine⟨U,S5,z,y,S6,R6,G.ext L,P,λρ7 H7 w Y R7 v7=>?_⟩;have M:=q.stay hD<|j.trans Y;obtain⟨B,R8⟩:=R7.out (ws:=accV++[w]) M.hD M.nD;have l1:=p.length;refine⟨accV,M.hD,?_,m,dz _,.of () (M.put B) trivial R8 ((G.ext<|L.trans Y).mG B) (AVs.mG B<|(p.ext<|j.trans Y).append<|.one v7) O ?_⟩
   ·have:(acc++zs).length<=sizeLine:=by rw[f];exact C
    rw[F,bq,bB]at this
    lia
   ·rw[cJ,<- f,F];rfl
def pL(hc:X.calm=true)(Sc:CpScope X scope N cap)(hi:AI X tg iter src)(hg:∀C s₀ H₀ ex,AG (kJ X scope N C s₀ H₀ ex) tg g)(ht:∀C s₀ H₀ ex,Zi (kJ X scope N C s₀ H₀ ex) ifs t)(he:∀C s₀ H₀ ex,AE (kJ X scope N C s₀ H₀ ex) elt c)
  (hs:(∀x,foldedSetIterable iter X.env x=pure x)<|>ζ):AE X (.ListComp elt [⟨tg,iter,ifs,0⟩] scope pos) (kO cap src g t c):=
 PE.imp (aaS hc Sc hi (g:=Wl X.K g) (tc:=Vf X.K t) (te:=Rw X.K c) (λC s₀ H₀ ex=>(hg C s₀ H₀ ex).g0 rfl) (λC s₀ H₀ ex=>ht C s₀ H₀ ex) (λC s₀ H₀ ex=>(he C s₀ H₀ ex).e0 rfl) hs) E5
end
abbrev A.lst? (S:jH):A->Option (ae)
 | .ref n=>jF S n
 | _=>none
abbrev Yo (f:A->ae->jH->R A)(co:Ex)(d:rj):Ex:=λτ S=>(co τ S).bind λo S1=>opt (o.lst? S1) λ_=>(d τ S1).bind λg S2=>f o g S2
abbrev XW (f:A->ae->jH->R A)(co:Ex):Ex:=λτ S=>(co τ S).bind λo S1=>opt (o.lst? S1) λ_=>f o [] S1
abbrev rM (X:Cx)(f:A->ae->jH->R A):V->List V->Hp->VK->Prop:=λx vs H Q=>∃ρ S o d,Rel X.K ρ H S/\AV X.K ρ H o x/\AVs X.K ρ H d vs/\(f o d S).post (yE X ρ H Q) (XE X ρ H)
section
variable {X:Cx}{apos cpos:Pos}{o e:aE}{es:List aE}{name:Str}{id:String}{f:A->ae->jH->R A}{co:Ex}{d:rj}
def lst?_ty{K:au}{H:Hp}{x:A}{v:V}(R:Rel K ρ H S)(h:AV K ρ H x v)(e:x.lst? S=some xs):Zf K "list" v H:=by
 cases h with
 | ref h=>
  obtain⟨vs,h1,_⟩:=R.lst h<|jU e;exact .inl ⟨rfl,vs,pO.of h1⟩
 | _=>cases e
def ER(slot:Slot "list" name id)(hty:typeOf (.builtin id)=pure (.type "method_descriptor"))(hm:Mj X id<|rM X f)(ho:AE X o co)(ha:AL X (e::es) d)
  (hbase:attributeBase o name X.env (eval o X.env)=eval o X.env<|>ε)
  (hfew:(((backTo cpos<|starEach (e::es) X.env).all (λx=>!x.1) && (backToKw cpos<|keywordEach [] X.env).all (λx=>x.1.isSome)
   && decide ((e::es).length+([]:List Keyword).length+(if ([]:List Keyword).isEmpty then 0 else 1)<30))=true)<|>ε)
  (hline:(apos.endLine == cpos.line)=true<|>ε) (hs:starEach (e::es) X.env=(false,eval e X.env)::starEach es X.env<|>ε) (hplain:((backTo cpos<|starEach es X.env).any (·.1)=false)<|>ε) :
  AE X (.Call (.Attribute o name apos) (e::es) [] cpos) (Yo f co d):=PE.imp (Mz PySem.F.plainAttrs_list slot hty hm ho ha hbase hfew hline hs hplain) λσ H Q h9=>by
 z_go;mg_lt;obtain⟨xs,j,h1⟩:=jK h1;refine⟨lst?_ty R1 v1 j,ρ1,S1,τ,R1,r.ext e1,jJ (jO h1) e1 λg S2 h2 ρ2 H2 vs e2 R2 v2=>?_⟩;exact⟨ρ2,S2,x,g,R2,v1.ext e2,v2,jJ h2 (e1.trans e2) λ_ _ z=>z.ext<|e1.trans e2⟩
def Y0(slot:Slot "list" name id)(hty:typeOf (.builtin id)=pure (.type "method_descriptor"))(hm:Mj X id<|rM X f)(ho:AE X o co)
  (hbase:attributeBase o name X.env (eval o X.env)=eval o X.env<|>ε) (hline:(apos.endLine == cpos.line)=true<|>ε):AE X (.Call (.Attribute o name apos) [] [] cpos) (XW f co):=PE.imp (W0 PySem.F.plainAttrs_list slot hty hm ho hbase hline) λσ H Q h9=>by
 z_go;mg_lt;obtain⟨xs,d,h1⟩:=jK h1;exact⟨lst?_ty R1 v1 d,ρ1,S1,x,[],R1,v1,.nil,jJ h1 e1 λ_ _ z=>z.ext e1⟩
abbrev wU (o:A)(as:ae)(S:jH):R A:=match o,as with
 | .ref n,[x]=>opt (jF S n) λxs=>gd (xs.length<sizeLine) (.ok .non<|S.set n<|.lst<|xs++[x])
 | _,_=>.no
def zx:Mj X "list.append" (rM X wU):=λpins s σ H x vs v us Q I rx d h9=>by
 obtain⟨ρ,S,o,j,R,f,va,h⟩:=h9
 cases f with
 | @ref p n hp=>
  match j,va,h with
  | [],_,h=>exact h.elim
  | _::_::_,_,h=>exact h.elim
  | [y],va,h=>
   obtain⟨w,rfl,hw⟩:=PL va;kcf_m;obtain⟨g,h⟩:=j4 h;obtain⟨k,h1,r⟩:=R.lst hp<|jU hn;obtain⟨ex,m⟩:=R.put hp (jU hn)<|r.append<|.one hw;exact Bf pins s σ H _ _ v us Q I rx d ⟨p,k,w,rfl,rfl,h1,by rw[<- r.length];exact g,h _ _ _ ex m .non⟩
 | _=>exact h.elim
abbrev W4 (o:A)(as:ae)(S:jH):R A:=match o,as with
 | .ref n,[]=>opt (jF S n) λxs=>opt (xs[xs.length-1]?) λx=>.ok x (S.set n<|.lst xs.dropLast)
 | _,_=>.no
def AVs.dropLast{K:au}{H:Hp}{xs:ae}{vs:List V}(r:AVs K ρ H xs vs):AVs K ρ H xs.dropLast vs.dropLast:=by
 rw[List.dropLast_eq_take,List.dropLast_eq_take,r.length];exact r.take _
def aaB:Mj X "list.pop" (rM X W4):=λpins s σ H x vs v us Q I rx d h9=>by
 obtain⟨ρ,S,o,j,R,f,va,h⟩:=h9
 cases f with
 | @ref p n hp=>
  match j,va,h with
  | _::_,_,h=>exact h.elim
  | [],va,h=>
   cases va
   kcf_m;obtain⟨y,hy,h⟩:=jK h;obtain⟨k,h1,r⟩:=R.lst hp<|jU hn;obtain⟨w,hw,g⟩:=r.get hy;obtain⟨ex,m⟩:=R.put hp (jU hn) r.dropLast;exact WV pins s σ H _ _ v us Q I rx d ⟨p,k,w,rfl,rfl,h1,by rw[<- r.length];exact hw,h _ _ _ ex m<|g.ext ex⟩
 | _=>exact h.elim
abbrev Hr (o:A)(as:ae)(S:jH):R A:=match o,as with
 | .ref n,[.int i]=>opt (jF S n) λxs=>gd (-(2 ^ 63)<=i/\i<2 ^ 63) (opt (seqIndex? i xs.length) λk=>opt (xs[k]?) λx=>.ok x<|S.set n<|.lst<|xs.eraseIdx k)
 | _,_=>.no
def RX:Mj X "list.pop" (rM X Hr):=λpins s σ H x vs v us Q I rx f h9=>by
 obtain⟨ρ,S,o,q,R,j,va,h⟩:=h9
 cases j with
 | @ref p n hp=>
  match q,va,h with
  | [],_,h=>exact h.elim
  | y::_::_,_,h=>exact(by cases y<;>exact h.elim)
  | [y],va,h=>
   obtain⟨w,rfl,hw⟩:=PL va
   cases hw with
   | int i=>
    kcf_m;obtain⟨d,h⟩:=j4 h;obtain⟨k,g,h⟩:=jK h;obtain⟨y,hy,h⟩:=jK h;obtain⟨t,h1,r⟩:=R.lst hp<|jU hn;obtain⟨w,hw,m⟩:=r.get hy;obtain⟨ex,z⟩:=R.put hp (jU hn)<|r.eraseIdx k;exact Pz pins s σ H _ _ v us Q I rx f ⟨p,t,i,k,w,rfl,rfl,h1,d.1,d.2,by rw[<- r.length];exact g,hw,h _ _ _ ex z<|m.ext ex⟩
   | _=>exact h.elim
 | _=>exact h.elim
end
abbrev kQ (N:ar)(m:Sm)(as:ae)(S:jH):R A:=match m (as++List.replicate (N.length-as.length) .unb) S with
 | .rt a d=>.ok a d
 | .nx _ d=>.ok .non d
 | .ex c d=>.ex c d
 | _=>.no
abbrev vn (K:au)(n:Nat)(F:ae->jH->R A):Sp:=λvs H Q _=>vs.length=n/\∃ρ S f a d,Rel K ρ H S/\AVs K ρ H f vs/\F f S=.ok a d/\∀ρ' H' v,Ext ρ ρ' H H'->Rel K ρ' H' d->AV K ρ' H' a v->Q v H'
def CB{K:au}{H:Hp}{as:ae}(r:AVs K ρ H as vs)(N:ar):SR K ρ H (as++List.replicate (N.length-as.length) .unb) (L2.start N vs):=by
 have d:=r.length;refine⟨by unfold L2.start;simp[d],λi a h=>?_⟩;by_cases g:i<as.length
 ·rw[bz g]at h;obtain⟨v,hv,f⟩:=r.get h;exact .inr ⟨v,by unfold L2.start;rw[bz<|by simp;lia,aP,hv];rfl,f⟩
 ·rw[iW (),gG]at h;split at h
  ·exact .inl (aZ h).symm
  ·cases h
section
variable {P:aj}{w:ah}{K:au}{mg:Str->bd}{base:aq}
def Ag{x:Str}{st:aF}{f:ak}{N ps:ar}{k:Nat}{m:Sm}(F:Fun K x qual st f fd)(Sc:FnScope N ps<|jN st)
  (body:∀(cdv:af) (A:aA) (outer:List Env) (s:aC) (H:Hp) (E:XK),Room k (A.deeper<|envOfC qual (jN st) s.heap.objs.size f cdv)->KJ (xw ur P w K mg base N qual (jN st) f cdv A outer s H E).Zy (nN st) m) :
  FnOk P w K mg base ur (k+1) f fd ps (vn K ps.length<|kQ N m):=by
 refine F.ok Sc (λvs H Q E h=>h.1) λcdv B outer s H vs Q E t ⟨G,ρ,S,j,a,C,R,va,d,q⟩=>⟨_,body cdv B outer s H E t,ρ,S,_,R,CB va N,?_⟩;unfold kQ at d
 cases g:m (j++List.replicate (N.length-j.length) .unb) S with
 | rt b S2=>rw[g]at d;cases d;exact q
 | nx τ S2=>rw[g]at d;cases d;exact λρ' H' p e z _=>q ρ' H' _ e z .non
 | bk τ S2=>rw[g]at d;cases d
 | ct τ S2=>rw[g]at d;cases d
 | ex c S2=>rw[g]at d;cases d
 | no=>rw[g]at d;cases d
end
meta abbrev sL (P:aj)(w:ah)(K:au)(mg:Str->bd)(base:aq)(k:Nat)(x:Str)(ps:ar)(F:ae->jH->R A):Prop:=Kn P w K mg base k x ps<|vn K ps.length F
abbrev eFn (F:ae->jH->R A)(d:rj):Ex:=λτ S=>(d τ S).bind λf S1=>match F f S1 with
 | .ok a S2=>.ok a S2
 | _=>.no
section
variable {X:Cx}{pos p:Pos}{e:aE}{es:List aE}{x:Str}{ps:ar}{k:Nat}{F:ae->jH->R A}{d:rj}
def yw(G:sL X.prog X.w X.K X.mg X.base k x ps F)(hr:Room k X.A)(ha:AL X (e::es) d)(hl:∀τ S as S',d τ S=.ok as S'->as.length=ps.length)(hg:Gl X x<|>ε)(hdb:(x == ("__debug__" : Str))=false<|>δ)
  (hs:starEach (e::es) X.env=(false,eval e X.env)::starEach es X.env<|>ε) (hplain:((backTo pos<|starEach es X.env).any (·.1)=false)<|>ε):AE X (.Call (.Name x p) (e::es) [] pos) (eFn F d):=
 PE.imp (aaX G hr ha hg hdb hs hplain) λσ H Q h9=>by
  z_go;refine⟨ρ,S,τ,R,r,?_⟩;have hb:=jO h
  cases f:d τ S with
  | no=>rw[f]at hb;exact hb
  | ex c S1=>rw[f]at hb;exact hb
  | ok as S1=>
   rw[f]at hb;intro ρ1 H1 vs e1 R1 v1;rw[bO];refine⟨by rw[<- v1.length];exact hl τ S as S1 f,ρ1,S1,as,?_⟩;have hb:Am.R.post (match F as S1 with
    | .ok a S2=>.ok a S2
    | _=>.no) (yE X ρ H Q) (XE X ρ H):=hb
   cases g:F as S1 with
   | ok a S2=>rw[g]at hb;exact⟨a,S2,R1,v1,rfl,λρ2 H2 v e2=>hb ρ2 H2 v<|e1.trans e2⟩
   | ex c S2=>rw[g]at hb;exact hb.elim
   | no=>rw[g]at hb;exact hb.elim
def lR:∀τ S as S',jP τ S=.ok as S'->as.length=0:=λτ S as S' h=>by cases h;rfl
def jZ{c:Ex}{d:rj}{n:Nat}(h:∀τ S as S',d τ S=.ok as S'->as.length=n):∀τ S as S',jE c d τ S=.ok as S'->as.length=n+1:=λτ S as S' e=>by
 unfold jE at e
 cases hc:c τ S with
 | ok a S1=>
  rw[hc]at e
  cases f:d τ S1 with
  | ok bs S2=>
   have e:R.bind (d τ S1) (λas S2=>.ok (a::as) S2)=.ok as S':=e;rw[f]at e;cases e;rw[bB,h τ S1 bs _ f]
  | ex _ _=>
   have e:R.bind (d τ S1) (λas S2=>.ok (a::as) S2)=.ok as S':=e;rw[f]at e;cases e
  | no=>
   have e:R.bind (d τ S1) (λas S2=>.ok (a::as) S2)=.ok as S':=e;rw[f]at e;cases e
 | ex _ _=>rw[hc]at e;cases e
 | no=>rw[hc]at e;cases e
end
section
variable {X:Cx}{pos:Pos}{a b c:aE}
abbrev kCh (f':A->A->jH->R A)(cc:Ex)(τ:ae)(b k:A)(S:jH):R A:=match k with
 | .bl true=>(cc τ S).bind λc d=>f' b c d
 | .bl false=>.ok (.bl false) S
 | _=>.no
abbrev Zk (f f':A->A->jH->R A)(ca cb cc:Ex):Ex:=λτ S=>(ca τ S).bind λa S1=>(cb τ S1).bind λb S2=>(f a b S2).bind λk S3=>kCh f' cc τ b k S3
def Wb{f f':A->A->jH->R A}{ca cb cc:Ex}{H:Hp}{Q:VK}(h:tE X (Zk f f' ca cb cc) σ H Q):Nn (r2 X f) (r2 X f') (tE X ca) (tE X cb) (tE X cc) σ H Q:=by
 kl_no;refine⟨ρ,S,τ,R,r,jJ (jO h) .refl λa S1 h1 ρ1 H1 x e1 R1 v1=>⟨ρ1,S1,τ,R1,r.ext e1,jJ (jO h1) e1 λb S2 h2 ρ2 H2 y e2 R2 v2=>?_⟩⟩;have g:=e1.trans e2;refine⟨ρ2,S2,a,b,R2,v1.ext e2,v2,jJ (jO h2) g λk S3 h3 ρ3 H3 z e3 R3 C=>?_⟩;have d:=g.trans e3
 cases k with
 | bl k=>
  cases Ff C
  refine⟨k,rfl,?_⟩
  cases k with
  | true=>
   rw[aS rfl];exact⟨ρ3,S3,τ,R3,r.ext d,jJ (jO h3) d λc p B m G w j t F=>⟨m,p,b,c,t,v2.ext<|e3.trans j,F,jJ B (d.trans j) λ_ _ q=>q.ext<|d.trans j⟩⟩
  | false=>
   rw[aQ bF];exact h3 ρ3 H3 _ d R3<|.bl false
 | _=>exact h3.elim
def aaU{f f':A->A->jH->R A}{ca cb cc:Ex}(ho:oW X (compareOp op)<|r2 X f)(ho':oW X (compareOp op')<|r2 X f')(ha:AE X a ca)(hb:AE X b cb)(hc:AE X c cc)(hm:lastMarks [op,op'] [b,c]=false<|>η) :
  AE X (.Compare a [op,op'] [b,c] pos) (Zk f f' ca cb cc):=PE.imp (O1 ho ho' ha hb hc hm) λ_ _ _ h=>Wb h
abbrev inA (S:jH)(x:A):ae->bi
 | []=>some false
 | z::zs=>(DJ S 12 z x).bind λp=>(inA S x zs).map λq=>p || q
abbrev Ry (neg:Bool)(x y:A)(S:jH):R A:=opt (y.seq S) λys=>opt (inA S x ys) λb=>.ok (.bl<|if neg then !b else b) S
def za{H:Hp}{x:A}{v:af}(I:Inv X pins σ H s)(R:Rel X.K ρ H S)(hu:X.A.units+64<cLine)(hx:AV X.K ρ H x vx)(rx:RelV vx v) :
  ∀{ys:ae} {us:List V} {its:ba} {b:Bool},AVs X.K ρ H ys us->Vals us its->inA S x ys=some b->∃e:af->Bool,(∀w∈its,SeqAt.EqAt X.A.in1 s w v<|e w)/\its.any e=b:=by
 intro ys
 induction ys with
 | nil=>
  intro us its b h1 h2 h
  cases h1
  cases h2
  exact⟨λ_=>false,(λw hw=>by cases hw),aZ h⟩
 | cons z zs m=>
  intro us its b h1 h2 h
  cases h1 with
  | cons C j=>
   rename_i u us
   cases h2 with
   | cons r B=>
    rename_i f its
    classical
    obtain⟨p,hp,h⟩:=b_.mp h;obtain⟨q,hq,h⟩:=aW.mp h;obtain⟨e,g,ha⟩:=m j B hq;have h0:=(Jq I R 12 X.A.in1 z x u vx f v p (by rw[in1_units];omega) C hx r rx hp).2.1;subst h
    cases p with
    | true=>
     refine⟨λw=>if w=f then true else e w,λw hw=>?_,?_⟩
     ·by_cases d:w=f
      ·dsimp[d,eZ];exact h0
      ·dsimp[d,c6]
       rcases bE.mp hw with z|z
       ·exact absurd z d
       ·exact g w z
     ·simp
    | false=>
     by_cases k:f∈its
     ·refine⟨e,λw hw=>?_,?_⟩
      ·rcases bE.mp hw with z|z
       ·rw[z];exact g f k
       ·exact g w z
      ·rw[fO,ha,gh]
       cases q with
       | true=>simp
       | false=>
        have:=List.any_eq_false.mp ha f k;simpa using this
     ·refine⟨λw=>if w=f then false else e w,λw hw=>?_,?_⟩
      ·by_cases d:w=f
       ·dsimp[d,eZ];exact h0
       ·dsimp[d,c6]
        rcases bE.mp hw with z|z
        ·exact absurd z d
        ·exact g w z
      ·rw[fO,<- ha];dsimp[eZ,gh];have:∀l:ba,(∀w∈l,w≠f)->l.any (λw=>if w=f then false else e w)=l.any e:=λl t=>by
        induction l with
        | nil=>rfl
        | cons c l m=>rw[fO,fO,m λw hw=>t w<|aX _ hw,aQ<|t c<|aV ..]
       exact this its λw hw z=>k<|z ▸ hw
def aag(hu:X.A.units+64<cLine):oW X (compareOp .In) (r2 X<|Ry false):=λpins s σ H x y v u Q I rx ry h9=>by
 w_up;obtain⟨ys,hy,h⟩:=jK h;obtain⟨k,j,h⟩:=jK h;obtain⟨p,us,rfl,hs,r⟩:=Pk R vb hy
 cases ry
 rcases hs with hs|hs
 ·obtain⟨d,f,pl,m⟩:=I.list hs;obtain⟨e,g,ha⟩:=za I R hu va rx r f j;refine SeqAt.in_listAt e pl.isList (λw hw=>g w<|by simpa using hw) ⟨.bl _,H,I,rfl,?_⟩;rw[show d.toArray.any e=d.any e by simp,ha];exact h _ _ _ .refl R (.bl _)
 ·obtain⟨d,f,pl,m⟩:=I.tuple hs;obtain⟨e,g,ha⟩:=za I R hu va rx r f j;refine SeqAt.in_tupleAt e pl (λw hw=>g w<|by simpa using hw) ⟨.bl _,H,I,rfl,?_⟩;rw[show d.toArray.any e=d.any e by simp,ha];exact h _ _ _ .refl R<|.bl _
def T8(hu:X.A.units+64<cLine):oW X (compareOp .NotIn) (r2 X<|Ry true):=λpins s σ H x y v u Q I rx ry h9=>by
 w_up;obtain⟨ys,hy,h⟩:=jK h;obtain⟨k,j,h⟩:=jK h;obtain⟨p,us,rfl,hs,r⟩:=Pk R vb hy
 cases ry
 rcases hs with hs|hs
 ·obtain⟨d,f,pl,m⟩:=I.list hs;obtain⟨e,g,ha⟩:=za I R hu va rx r f j;refine SeqAt.notIn_listAt e pl.isList (λw hw=>g w<|by simpa using hw) ⟨.bl _,H,I,rfl,?_⟩;rw[show d.toArray.any e=d.any e by simp,ha];exact h _ _ _ .refl R (.bl _)
 ·obtain⟨d,f,pl,m⟩:=I.tuple hs;obtain⟨e,g,ha⟩:=za I R hu va rx r f j;refine SeqAt.notIn_tupleAt e pl (λw hw=>g w<|by simpa using hw) ⟨.bl _,H,I,rfl,?_⟩;rw[show d.toArray.any e=d.any e by simp,ha];exact h _ _ _ .refl R<|.bl _
abbrev Dh (o:A)(as:ae)(S:jH):R A:=match o,as with
 | .ref n,[.ref m]=>opt (jF S n) λxs=>opt (jF S m) λys=>gd (xs.length+ys.length<=sizeLine) (.ok .non<|S.set n<|.lst<|xs++ys)
 | _,_=>.no
def PJ:Mj X "list.extend" (rM X Dh):=λpins s σ H x vs v us Q I rx f h9=>by
 obtain⟨ρ,S,o,t,R,g,va,h⟩:=h9
 cases g with
 | @ref p n hp=>
  match t,va,h with
  | [],_,h=>exact h.elim
  | y::_::_,_,h=>exact(by cases y<;>exact h.elim)
  | [y],va,h=>
   obtain⟨w,rfl,hw⟩:=PL va
   cases hw with
   | @ref q m hq=>
    kcf_m;obtain⟨ys,j,h⟩:=jK h;obtain⟨k,h⟩:=j4 h;obtain⟨z,h1,r⟩:=R.lst hp<|jU hn;obtain⟨zs,h2,d⟩:=R.lst hq<|jU j;obtain⟨ex,B⟩:=R.put hp (jU hn)<|r.append d;exact LW pins s σ H _ _ v us Q I rx f ⟨p,q,z,zs,rfl,rfl,h1,h2,by rw[<- r.length,<- d.length];exact k,h _ _ _ ex B .non⟩
   | _=>exact h.elim
 | _=>exact h.elim
abbrev Xe (a b:A)(S:jH):R A:=match a,b with
 | .int i,.int j=>gd (wZ i j) (.ok (.int<|i * j) S)
 | _,_=>.no
def Ti:PIp X .Mult (ip X Xe):=λpins s σ H x y v u Q I r1 r2 h9=>by
 w_up
 cases va with
 | int i=>
  cases vb with
  | int j=>
   obtain⟨d,h⟩:=j4 h;obtain⟨t,rfl⟩:=(show ∃t,v=Value.int i t from r1);obtain⟨f,rfl⟩:=(show ∃t,u=Value.int j t from r2);exact imul_int ⟨.int _,H,I.tok _,⟨_,rfl⟩,h _ _ _ .refl R<|.int _⟩ (mulOk_of d).ok
  | _=>exact h.elim
 | _=>exact h.elim
end
section
variable {X:Cx}
abbrev Xq (x:A)(S:jH):R A:=match x with
 | .ref n=>opt (jF S n) λxs=>opt (A.ints xs) λns=>.ok (.int ns.sum) S
 | _=>.no
def aaC(hc:X.calm=true):j7 X (.builtin "sum") (rN X<|f1 Xq):=j7.imp (Lv hc) λvs H Q h0=>by
 kd_p;clear h0
 cases hv with
 | @ref p n hp=>
  kcf_m;obtain⟨ns,hb,h⟩:=jK h;obtain⟨vs,h1,r⟩:=R.lst hp<|jU hn;rw[pQ r hb]at h1;exact⟨p,ns,rfl,pO.of h1,h _ _ _ .refl R<|.int _⟩
 | _=>exact h.elim
end
abbrev jV (S:jH)(n:Nat):Option (List<|ag×A):=match S[n]? with
 | some (.dct xs)=>some xs
 | _=>none
def lO{n:Nat}(h:jV S n=some xs):S[n]?=some (.dct xs):=by
 unfold jV at h;split at h
 ·rename_i e;cases h;exact e
 ·cases h
def pR{S:jH}{n:Nat}(h:S[n]?=some (.dct xs)):jV S n=some xs:=by
 unfold jV;rw[h]
abbrev kF (kvs:List<|ag×A)(k:ag):Option A:=(kvs.find? λkv=>decide<|kv.1=k).map (·.2)
abbrev putD (kvs:List<|ag×A)(k:ag)(v:A):List (ag×A):=
 if (kF kvs k).isSome=true then kvs.map (λkv=>if kv.1=k then(kv.1,v)else kv)else kvs++[(k,v)]
theorem B_:∀{a b:ag},a.map (Sum.inl:Int->Key)=b.map Sum.inl->a=b
 | [],[],_=>rfl
 | [],_::_,e=>by simp at e
 | _::_,[],e=>by simp at e
 | x::xs,y::ys,e=>by
  rw[bH,bH]at e
  injection e with e1 e2
  injection e1 with e1
  rw[e1,B_ e2]
def vh(ns:ag):(ns.map (Sum.inl:Int->Key)).map kV=ns.map V.int:=by rw[bh];rfl
section
variable {K:au}{ρ:bb}{H:Hp}
def B4{p:ag×A}{r:List<|ag×A}{k:ag}(e:p.1=k):kF (p::r) k=some p.2:=by simp[kF,b9,e]
def By{p:ag×A}{r:List<|ag×A}{k:ag}(e:¬p.1=k):kF (p::r) k=kF r k:=by simp[kF,b9,e]
theorem DV.look:∀{kvs:List<|ag×A}{ks:List<|List Key×V}(k:ag),DV K ρ H kvs ks->(kF kvs k).isSome=(qz ks<|k.map Sum.inl).isSome/\∀x,kF kvs k=some x->∃v,qz ks (k.map Sum.inl)=some v/\AV K ρ H x v
 | [],[],k,_=>⟨rfl,λx h=>nomatch h⟩
 | p::r,q::r',k,⟨⟨e,a⟩,t⟩=>by
  by_cases c:p.1=k
  ·have d:q.1=k.map Sum.inl:=by rw[e,c]
   rw[B4 c,uS d];exact⟨rfl,λx h=>by cases h;exact⟨_,rfl,a⟩⟩
  ·have d:¬q.1=k.map Sum.inl:=λz=>c<|B_<|e.symm.trans z;rw[By c,uY d];exact DV.look k t
theorem DV.repl{x:A}{v:V}(h:AV K ρ H x v)(k:ag):∀{kvs:List<|ag×A}{ks:List<|List Key×V},DV K ρ H kvs ks->DV K ρ H (kvs.map λkv=>if kv.1=k then(kv.1,x)else kv) (ks.map λkv=>if kv.1=k.map Sum.inl then(kv.1,v)else kv)
 | [],[],_=>trivial
 | p::r,q::r',⟨⟨e,a⟩,t⟩=>by
  refine⟨?_,DV.repl h k t⟩;dsimp only;by_cases c:p.1=k
  ·rw[aS c,aS<|by rw[e,c]];exact⟨e,h⟩
  ·rw[aQ c,aQ λz=>c<|B_<|e.symm.trans z];exact⟨e,a⟩
theorem DV.snoc{x:A}{v:V}(h:AV K ρ H x v)(k:ag):∀{kvs:List<|ag×A}{ks:List<|List Key×V},DV K ρ H kvs ks->DV K ρ H (kvs++[(k,x)]) (ks++[(k.map Sum.inl,v)])
 | [],[],_=>⟨⟨rfl,h⟩,trivial⟩
 | p::r,q::r',⟨a,t⟩=>⟨a,DV.snoc h k t⟩
def DV.put{x:A}{v:V}(h:AV K ρ H x v)(k:ag){ks:List<|List Key×V}(d:DV K ρ H kvs ks):DV K ρ H (putD kvs k x) (putK ks (k.map Sum.inl) v):=by
 unfold putD putK;rw[xy,<- (d.look k).1];by_cases c:(kF kvs k).isSome=true
 ·rw[aS c,aS c];exact DV.repl h k d
 ·rw[aQ c,aQ c];exact DV.snoc h k d
def DV.length:∀{kvs:List<|ag×A}{ks:List<|List Key×V},DV K ρ H kvs ks->kvs.length=ks.length
 | [],[],_=>rfl
 | _::_,_::_,⟨_,t⟩=>c9 (·+1) t.length
def Rel.dct{n:Nat}{a:ak}(R:Rel K ρ H S)(ha:ρ[n]?=some a)(hS:S[n]?=some (.dct xs)):∃vs,H a=some (.dT vs)/\DV K ρ H xs vs:=R.at n a _ ha hS
def Rel.aaf{S:jH}{p:ak}(R:Rel K ρ H S)(hp:H p=none)(r:DV K ρ H xs vs):Ext ρ (ρ++[p]) H (upd H p<|.dT vs)/\Rel K (ρ++[p]) (upd H p<|.dT vs) (S++[.dct xs])/\(ρ++[p])[S.length]?=some p:=by
 have ex:Ext ρ (ρ++[p]) H (upd H p<|.dT vs):=⟨⟨dP _ _,λa u _ h=>by rw[jI<|jX h hp];exact h⟩,λa u h _=>by rw[jI<|jX h hp];exact h,λa h=>by
  rcases bJ.mp h with z|z
  ·exact .inl z
  ·have e:a=p:=by simpa using z
   rw[e];exact .inr hp⟩
 have np:p∉ρ:=R.Ew hp;have d:(ρ++[p])[S.length]?=some p:=by rw[<- R.len];simp
 refine⟨ex,⟨by simp[R.len],?_,?_⟩,d⟩
 ·rw[cL];cb_eq;have:b=p:=by simpa using hb
  exact np<|by rw[<- this,<- e];exact ha
 ·intro n a o h1 h2;by_cases hn:n<S.length
  ·rw[bz<|by rw[R.len];exact hn]at h1;rw[bz hn]at h2;have na:a≠p:=λz=>np (by rw[<- z];exact bw h1);have:=R.at n a o h1 h2
   cases o with
   | lst ys=>obtain⟨f,e,q⟩:=this;exact⟨f,by rw[jI na];exact e,q.ext ex⟩
   | dct _|qi _|vA _=>obtain⟨f,e,q⟩:=this;exact⟨f,by rw[jI na];exact e,q.ext ex⟩
   | dcf _=>obtain⟨g,f,e,q⟩:=this;exact⟨g,f,by rw[jI na];exact e,q.ext ex⟩
   | ins _ _=>obtain⟨g,j,e⟩:=this;exact⟨g,j,by rw[jI na];exact e⟩
  ·have e:n=S.length:=by
    have:=(aJ.mp h2).1;simp at this;omega
   subst e;rw[d]at h1
   cases h1
   simp at h2;subst h2;exact⟨vs,j3,r.ext ex⟩
def Rel.putD{S:jH}{n:Nat}{a:ak}(R:Rel K ρ H S)(ha:ρ[n]?=some a)(hS:S[n]?=some (.dct xs))(r:DV K ρ H ys ws):Ext ρ ρ H (upd H a<|.dT ws)/\Rel K ρ (upd H a<|.dT ws) (S.set n<|.dct ys):=by
 obtain⟨vs,e,_⟩:=R.at n a _ ha hS;have ex:Ext ρ ρ H (upd H a<|.dT ws):=⟨⟨dO _,λb u i h=>by
  have:b≠a:=by
   intro z;subst z;rw[e]at h;cases h;exact i
  rw[jI this];exact h⟩,λb u h n=>by
  rw[jI λz=>n<|by rw[z];exact bw ha];exact h,λ_ h=>.inl h⟩
 refine⟨ex,by rw[bT];exact R.len,R.nd,λm b o h1 h2=>?_⟩;by_cases g:m=n
 ·subst g;rw[ha]at h1;cases h1;rw[br (aJ.mp hS).1]at h2
  cases h2
  exact⟨ws,j3,r.ext ex⟩
 ·rw[bG<|cA g]at h2;have nb:b≠a:=λz=>by
   subst z;obtain⟨p,e1⟩:=aJ.mp ha;obtain⟨t,e2⟩:=aJ.mp h1;exact g<|(b7 R.nd).mp<|e2.trans e1.symm
  have:=R.at m b o h1 h2
  cases o with
  | lst ys=>obtain⟨d,f,q⟩:=this;exact⟨d,by rw[jI nb];exact f,q.ext ex⟩
  | dct _|qi _|vA _=>obtain⟨d,f,q⟩:=this;exact⟨d,by rw[jI nb];exact f,q.ext ex⟩
  | dcf _=>obtain⟨j,d,f,q⟩:=this;exact⟨j,d,by rw[jI nb];exact f,q.ext ex⟩
  | ins _ _=>obtain⟨j,k,f⟩:=this;exact⟨j,k,by rw[jI nb];exact f⟩
end
section
variable {X:Cx}{pos:Pos}{a b:aE}
def DL{H:Hp}{p q:ak}{n:Nat}{ns:ag}(R:Rel X.K ρ H S)(hp:ρ[n]?=some p)(hn:jV S n=some kvs)(hq:H q=some (.tup vs))(r:AVs X.K ρ H xs vs)(hi:A.ints xs=some ns) :
  ∃ks,H p=some (.dT ks)/\DV X.K ρ H kvs ks/\H q=some (.tup<|(ns.map (Sum.inl:Int->Key)).map kV)/\uv H p (.ref q) (qz ks<|ns.map Sum.inl):=by
 obtain⟨ks,e,d⟩:=R.dct hp<|lO hn;have z:=pQ r hi;subst z;rw[<- vh]at hq;exact⟨ks,e,d,hq,uv.t e hq⟩
abbrev sD (x y:A)(S:jH):R A:=match x,y with
 | .ref n,.tup xs=>opt (jV S n) λkvs=>opt (A.ints xs) λns=>opt (kF kvs ns) λv=>.ok v S
 | _,_=>.no
def ZZ(hu:X.A.units+64<cLine):TH X (r2 X sD):=λf j pins s σ H x y v u Q I rx ry ⟨ρ,S,a,b,R,va,vb,h⟩ hs=>by
 cases va with
 | @ref p n hp=>
  cases vb with
  | @tup q xs vs hq r=>
   kln_w;obtain⟨ns,B,h⟩:=jK h;obtain⟨z,t,h⟩:=jK h;obtain⟨ks,e,d,k,g⟩:=DL R hp hn hq r B;obtain⟨w,hw,m⟩:=(d.look ns).2 z t;rw[hw]at g;exact CU (by omega) f j pins s σ H _ _ v u Q I rx ry ⟨p,w,rfl,g,h _ _ _ .refl R m⟩ hs
  | _=>exact h.elim
 | _=>exact h.elim
def yi(hu:X.A.units+64<cLine){ca cb:Ex}(ha:AE X a ca)(hb:AE X b cb)(hs:wY b<|>θ):AE X (.Subscript a b pos) (jT sD ca cb):=PE.imp (HE (ZZ hu) ha hb hs) λσ H Q h=>tB h
abbrev Ln (neg:Bool)(x y:A)(S:jH):R A:=match x,y with
 | .tup xs,.ref n=>opt (jV S n) λkvs=>opt (A.ints xs) λns=>.ok (.bl<|if neg then !(kF kvs ns).isSome else(kF kvs ns).isSome) S
 | _,_=>.no
def Ey(hu:X.A.units+64<cLine):oW X (compareOp .NotIn) (r2 X<|Ln true):=λpins s σ H x y v u Q I rx ry h9=>by
 w_up
 cases va with
 | @tup q xs vs hq r=>
  cases vb with
  | @ref p n hp=>
   kln_w;obtain⟨ns,f,h⟩:=jK h;obtain⟨ks,e,d,j,g⟩:=DL R hp hn hq r f;exact LN (by omega) pins s σ H _ _ v u Q I rx ry ⟨p,_,rfl,g,by rw[<- (d.look ns).1];exact h _ _ _ .refl R<|.bl _⟩
  | _=>exact h.elim
 | _=>exact h.elim
abbrev n5 (o i v:A)(S:jH):R Unit:=match o,i with
 | .ref n,.tup xs=>opt (jV S n) λkvs=>opt (A.ints xs) λns=>gd (kvs.length<sizeLine) (.ok Unit.unit<|S.set n<|.dct<|putD kvs ns v)
 | _,_=>.no
abbrev abC (X:Cx):G8:=λo i v H Q=>∃ρ S ao d f,Rel X.K ρ H S/\AV X.K ρ H ao o/\AV X.K ρ H d i/\AV X.K ρ H f v/\(n5 ao d f S).post (λ_ g=>∀ρ' H',Ext ρ ρ' H H'->Rel X.K ρ' H' g->Q H') (XE X ρ H)
def RE(hu:X.A.units+64<cLine):FG X (abC X):=λpins s σ H o i v C iv u Q I z j k h9=>by
 obtain⟨ρ,S,ao,G,J,R,h1,h2,h3,h⟩:=h9
 cases h1 with
 | @ref p n hp=>
  cases h2 with
  | @tup q xs vs hq r=>
   kln_w;obtain⟨ns,F,h⟩:=jK h;obtain⟨B,h⟩:=j4 h;obtain⟨ks,e,d,f,g⟩:=DL R hp hn hq r F;obtain⟨ex,m⟩:=R.putD hp (lO hn)<|d.put h3 ns;exact set_dict () pins s σ H _ _ v C iv u Q I z j k ⟨p,_,rfl,yK.t e f<|by rw[<- d.length];exact B,h _ _ ex m⟩
  | _=>exact h.elim
 | _=>exact h.elim
abbrev La (co ci:Ex):Tg:=λa τ S=>(co τ S).bind λo S1=>(ci τ S1).bind λi S2=>(n5 o i a S2).bind λ_ S3=>.ok τ S3
def yU(hu:X.A.units+64<cLine){co ci:Ex}(ho:AE X o co)(hi:AE X i ci)
  (ha:(∀v,assign (.Subscript o i pos) X.env v=(do
   let ov <- holding [v] (eval o X.env)
   let iv <- holding [v,ov] (eval i X.env)
   standAt pos
   holding [v,ov,iv] (setItem ov iv v)
   release [v,ov,iv] []))<|>ζ):AG X (.Subscript o i pos) (La co ci):=PG.imp (C1 ho hi (RE hu) ha) λv σ H Q h9=>by
 obtain⟨ρ,S,τ,a,R,r,va,h⟩:=h9;k_ne;gp_on;kpf_c
abbrev BY:Ex:=λ_ S=>.ok (.ref S.length)<|S++[.dct []]
def zc:AE X (.Dict [] [] pos) BY:=PE.imp N8 λσ H Q ⟨ρ,S,τ,R,r,h⟩ p hp=>by
 obtain⟨ex,f,d⟩:=R.aaf (xs:=[]) (vs:=[]) hp trivial;exact h _ _ _ ex f<|.ref d
abbrev JF (ck cv:Ex):Ex:=λτ S=>(ck τ S).bind λk S1=>(cv τ S1).bind λv S2=>match k with
 | .tup xs=>opt (A.ints xs) λns=>.ok (.ref S2.length) (S2++[.dct [(ns,v)]])
 | _=>.no
def Rel.aaj{K:au}{H:Hp}{S:jH}{D:ak}(R:Rel K ρ H S)(hD:H D=some (.dT us))(hn:D∉ρ)(r:DV K ρ H xs vs):Ext0 ρ (ρ++[D]) H (upd H D<|.dT vs)/\Rel K (ρ++[D]) (upd H D<|.dT vs) (S++[.dct xs])/\(ρ++[D])[S.length]?=some D:=by
 have ex:Ext0 ρ (ρ++[D]) H (upd H D<|.dT vs):=⟨dP _ _,λb u i h=>by
  have:b≠D:=by
   intro z;subst z;rw[hD]at h;cases h;exact i
  rw[jI this];exact h⟩
 have d:(ρ++[D])[S.length]?=some D:=by rw[<- R.len];simp
 refine⟨ex,⟨by simp[R.len],?_,λn a o h1 h2=>?_⟩,d⟩
 ·rw[cL];cb_eq;have:b=D:=by simpa using hb
  exact hn<|by rw[<- this,<- e];exact ha
 ·by_cases hs:n<S.length
  ·rw[bz<|by rw[R.len];exact hs]at h1;rw[bz hs]at h2;have na:a≠D:=λz=>hn (by rw[<- z];exact bw h1);have:=R.at n a o h1 h2
   cases o with
   | lst ys=>obtain⟨f,e,q⟩:=this;exact⟨f,by rw[jI na];exact e,AVs.mG ex q⟩
   | dct _|qi _|vA _=>obtain⟨f,e,q⟩:=this;exact⟨f,by rw[jI na];exact e,q.mG ex⟩
   | dcf _=>obtain⟨g,f,e,q⟩:=this;exact⟨g,f,by rw[jI na];exact e,q.mG ex⟩
   | ins _ _=>obtain⟨g,j,e⟩:=this;exact⟨g,j,by rw[jI na];exact e⟩
  ·have e:n=S.length:=by
    have:=(aJ.mp h2).1;simp at this
    lia
   subst e;rw[d]at h1
   cases h1
   simp at h2;subst h2;exact⟨vs,j3,r.mG ex⟩
def Uj(hu:X.A.units+64<cLine){k v:aE}{ck cv:Ex}(hk:AE X k ck)(hv:AE X v cv):AE X (.Dict [some k] [v] pos) (JF ck cv):=PE.imp (QD () hk hv) λσ H Q ⟨ρ,S,τ,R,r,h⟩ p hp=>by
 obtain⟨e0,B⟩:=R.im (u:=.dT []) hp;have np:p∉ρ:=R.Ew hp;refine⟨ρ,S,τ,B,r.ext e0,jJ (jO h) e0 λa S1 h1 ρ1 H1 x e1 R1 v1=>⟨ρ1,S1,τ,R1,(r.ext e0).ext e1,jJ (jO h1) (e0.trans e1) λb S2 h2 ρ2 H2 y e2 R2 v2=>?_⟩⟩;have d:=e1.trans e2;have f:H2 p=some (.dT []):=d.fr p _ j3 np;have g:p∉ρ2:=λm=>(d.nw p m).elim np λz=>by rw[j3]at z;cases z
 cases v1.ext e2 with
 | @tup q xs vs hq j=>
  obtain⟨ns,C,h2⟩:=jK h2;have z:=pQ j C;subst z;refine⟨f,q,ns.map Sum.inl,rfl,by rw[vh];exact hq,?_⟩;obtain⟨e3,R3,t⟩:=R2.aaj (xs:=[(ns,b)]) (vs:=[(ns.map Sum.inl,y)]) f g ⟨⟨rfl,v2⟩,trivial⟩;refine h2 _ _ _ ⟨⟨(e0.trans d).pre.trans e3.pre,λc u i hc=>e3.im c u i<|(e0.trans d).im c u i hc⟩,λc u hc F=>?_,λc hc=>?_⟩ R3 (.ref t)
  ·rw[jI<|jX hc hp];exact(e0.trans d).fr c u hc F
  ·rcases bJ.mp hc with z|z
   ·exact(e0.trans d).nw c z
   ·have:c=p:=by simpa using z
    rw[this];exact .inr hp
 | _=>exact h2.elim
abbrev dct? (a:A)(S:jH):Option Unit:=match a with
 | .ref n=>(jV S n).map λ_=>Unit.unit
 | _=>none
abbrev XA (f:A->ae->jH->R A)(co:Ex)(d:rj):Ex:=λτ S=>(co τ S).bind λx S1=>opt (dct? x S1) λ_=>(d τ S1).bind λg S2=>f x g S2
def dct?_ty{K:au}{H:Hp}{x:A}{v:V}(R:Rel K ρ H S)(a:AV K ρ H x v)(e:dct? x S=some u):Zf K "dict" v H:=by
 cases a with
 | @ref p n h=>
  obtain⟨xs,d,_⟩:=aW.mp e;obtain⟨vs,h1,_⟩:=R.dct h<|lO d;exact .inr<|.inr<|.inl ⟨rfl,.inr ⟨vs,h1⟩⟩
 | _=>cases e
def V7{e:aE}{id:String}{apos cpos:Pos}{f:A->ae->jH->R A}{co:Ex}{d:rj}(slot:Slot "dict" name id)(hty:typeOf (.builtin id)=pure (.type "method_descriptor"))(hm:Mj X id<|rM X f)(ho:AE X o co)(ha:AL X (e::es) d)
  (hbase:attributeBase o name X.env (eval o X.env)=eval o X.env<|>ε)
  (hfew:(((backTo cpos<|starEach (e::es) X.env).all (λx=>!x.1) && (backToKw cpos<|keywordEach [] X.env).all (λx=>x.1.isSome)
   && decide ((e::es).length+([]:List Keyword).length+(if ([]:List Keyword).isEmpty then 0 else 1)<30))=true)<|>ε)
  (hline:(apos.endLine == cpos.line)=true<|>ε) (hs:starEach (e::es) X.env=(false,eval e X.env)::starEach es X.env<|>ε) (hplain:((backTo cpos<|starEach es X.env).any (·.1)=false)<|>ε) :
  AE X (.Call (.Attribute o name apos) (e::es) [] cpos) (XA f co d):=PE.imp (Mz PySem.F.plainAttrs_dict slot hty hm ho ha hbase hfew hline hs hplain) λσ H Q h9=>by
 z_go;mg_lt;obtain⟨xs,j,h1⟩:=jK h1;refine⟨dct?_ty R1 v1 j,ρ1,S1,τ,R1,r.ext e1,jJ (jO h1) e1 λg S2 h2 ρ2 H2 vs e2 R2 v2=>?_⟩;exact⟨ρ2,S2,x,g,R2,v1.ext e2,v2,jJ h2 (e1.trans e2) λ_ _ z=>z.ext<|e1.trans e2⟩
abbrev Yd (o:A)(as:ae)(S:jH):R A:=match o,as with
 | .ref n,[.tup xs,y]=>opt (jV S n) λkvs=>opt (A.ints xs) λk=>.ok ((kF kvs k).getD y) S
 | _,_=>.no
def aaN(hu:X.A.units+64<cLine):Mj X "dict.get" (rM X Yd):=λpins s σ H x vs v us Q I rx j h9=>by
 obtain⟨ρ,S,o,B,R,m,va,h⟩:=h9
 cases m with
 | @ref p n hp=>
  match B,va,h with
  | [],_,h=>exact h.elim
  | [z],_,h=>exact(by cases z<;>exact h.elim)
  | z::_::_::_,_,h=>exact(by cases z<;>exact h.elim)
  | [z,y],va,h=>
   obtain⟨K,J,rfl,t,hy⟩:=SX va
   cases t with
   | @tup q xs L hq f=>
    kln_w;obtain⟨ns,C,h⟩:=jK h;have z:=pQ f C;subst z;obtain⟨ks,h1,k⟩:=R.dct hp<|lO hn;refine SE (by omega) pins s σ H _ _ v us Q I rx j ⟨p,q,ns.map Sum.inl,ks,J,rfl,rfl,h1,by rw[vh];exact hq,h _ _ _ .refl R ?_⟩;obtain⟨d,G⟩:=k.look ns
    cases e1:kF kvs ns with
    | none=>
     rw[e1]at d
     cases e2:qz ks (ns.map Sum.inl)with
     | none=>exact hy
     | some _=>rw[e2]at d;cases d
    | some g=>
     obtain⟨v1,e2,F⟩:=G g e1;rw[e2];exact F
   | _=>exact h.elim
 | _=>exact h.elim
end
section
variable {a b:aE}
theorem VW{K:au}{H:Hp}:∀{kvs:List<|ag×A}{ks:List<|List Key×V}{i:Nat}{p:ag×A},DV K ρ H kvs ks->kvs[i]?=some p->∃q,ks[i]?=some q/\q.1=p.1.map Sum.inl/\AV K ρ H p.2 q.2
 | [],[],_,_,_,h=>by simp at h
 | a::kvs,b::ks,0,p,⟨z,_⟩,h=>by
  have:a=p:=by simpa using h
  subst this;exact⟨b,rfl,z⟩
 | a::kvs,b::ks,i+1,p,⟨_,t⟩,h=>VW (kvs:=kvs) (ks:=ks) (i:=i) t<|by simpa using h
def Rel.gone{K:au}{H:Hp}{S:jH}{n:Nat}{a:ak}(R:Rel K ρ H S)(ha:ρ[n]?=some a)(hS:S[n]?=some (.dct xs)):Ext ρ ρ H (upd H a<|.frz o u)/\Rel K ρ (upd H a<|.frz o u) (S.set n<|.ins "" []):=by
 obtain⟨vs,e,_⟩:=R.at n a _ ha hS;have ex:Ext ρ ρ H (upd H a<|.frz o u):=⟨⟨dO _,λb p i h=>by
  have:b≠a:=by
   intro z;subst z;rw[e]at h;cases h;exact i
  rw[jI this];exact h⟩,λb p h nb=>by
  rw[jI λz=>nb<|by rw[z];exact bw ha];exact h,λ_ h=>.inl h⟩
 refine⟨ex,by rw[bT];exact R.len,R.nd,λm b ob h1 h2=>?_⟩;by_cases g:m=n
 ·subst g;rw[ha]at h1;cases h1;rw[br (aJ.mp hS).1]at h2
  cases h2
  exact⟨o,u,j3⟩
 ·rw[bG<|cA g]at h2;have nb:b≠a:=λz=>by
   subst z;obtain⟨t,e1⟩:=aJ.mp ha;obtain⟨B,e2⟩:=aJ.mp h1;exact g<|(b7 R.nd).mp<|e2.trans e1.symm
  have:=R.at m b ob h1 h2
  cases ob with
  | lst ys=>obtain⟨d,f,q⟩:=this;exact⟨d,by rw[jI nb];exact f,q.ext ex⟩
  | dct _|qi _|vA _=>obtain⟨d,f,q⟩:=this;exact⟨d,by rw[jI nb];exact f,q.ext ex⟩
  | dcf _=>obtain⟨j,d,f,q⟩:=this;exact⟨j,d,by rw[jI nb];exact f,q.ext ex⟩
  | ins _ _=>obtain⟨j,k,f⟩:=this;exact⟨j,k,by rw[jI nb];exact f⟩
end
abbrev BB (K:au)(n:Nat)(F:ae->jH->R A):Sp:=λvs H Q E=>vs.length=n/\∃ρ S f,Rel K ρ H S/\AVs K ρ H f vs/\(F f S).post (λa d=>∀ρ' H' v,Ext ρ ρ' H H'->Rel K ρ' H' d->AV K ρ' H' a v->Q v H') (λc d=>∀C ρ' H',F4 K c C->Ext ρ ρ' H H'->Rel K ρ' H' d->E (.ref C) none H')
section
variable {P:aj}{w:ah}{K:au}{mg:Str->bd}{base:aq}
def Fun.okX{x:Str}{st:aF}{f:ak}{N ps:ar}{k:Nat}{sp:Sp}(F:Fun K x qual st f fd)(S:FnScope N ps<|jN st)(len:∀vs H Q E,sp vs H Q E->vs.length=ps.length)
  (hb:∀(cdv:af) (A:aA) (outer:List Env) (s:aC) (H:Hp) (vs:List V) (Q:VK) (E:XK),Room k (A.deeper<|envOfC qual (jN st) s.heap.objs.size f cdv)->sp vs H Q E->∃t,A4 (xw (xN P w) P w K mg base N qual (jN st) f cdv A outer s H E) (nN st) t/\t { nx:=λ_ H'=>Q .non H',rt:=Q } (L2.start N vs) H):FnOk P w K mg base (xN P w) (k+1) f fd ps sp:=by
 obtain⟨C,B,kV,j,z,G,cdv,ct,p,rfl,m,d⟩:=F.ex;exact VP m d S len λA outer s H vs Q E q g=>hb cdv A outer s H vs Q E q g
def fnX{x:Str}{st:aF}{f:ak}{N ps:ar}{k:Nat}{m:Sm}(F:Fun K x qual st f fd)(Sc:FnScope N ps<|jN st)
  (body:∀(cdv:af) (A:aA) (outer:List Env) (s:aC) (H:Hp) (E:XK),Room k (A.deeper<|envOfC qual (jN st) s.heap.objs.size f cdv)->KJ (xw (xN P w) P w K mg base N qual (jN st) f cdv A outer s H E) (nN st) m) :
  FnOk P w K mg base (xN P w) (k+1) f fd ps (BB K ps.length<|kQ N m):=by
 refine Fun.okX F Sc (λvs H Q E h=>h.1) λcdv B outer s H vs Q E t ⟨J,ρ,S,p,R,va,q⟩=>⟨_,body cdv B outer s H E t,ρ,S,_,R,CB va N,?_⟩;unfold kQ at q
 cases d:m (p++List.replicate (N.length-p.length) .unb) S with
 | rt b S2=>rw[d]at q;exact q
 | nx τ S2=>rw[d]at q;exact λρ' H' g e j _=>q ρ' H' _ e j .non
 | bk τ S2=>rw[d]at q;exact q.elim
 | ct τ S2=>rw[d]at q;exact q.elim
 | no=>rw[d]at q;exact q.elim
 | ex c S2=>
  rw[d]at q;intro C ρ' H' n e j;exact⟨rfl,λpins g s' G I z=>Lb I rfl z<|q C ρ' H' n e j⟩
end
abbrev xM (P:aj)(w:ah)(K:au)(mg:Str->bd)(base:aq)(k:Nat)(x:Str)(ps:ar)(F:ae->jH->R A):Prop:=
 ∃(f:ak) (fd:FuncData),FnOk P w K mg base (xN P w) k f fd ps (BB K ps.length F)/\mg x=some (.ref f)/\PySem.W.keepIn K (.ref f)=true/\Binds K fd ps []
abbrev oB (F:ae->jH->R A)(d:rj):Ex:=λτ S=>(d τ S).bind λf S1=>F f S1
section
variable {X:Cx}{pos p:Pos}{e:aE}{es:List aE}{x:Str}{ps:ar}{k:Nat}{F:ae->jH->R A}{d:rj}
def tH(G:xM X.prog X.w X.K X.mg X.base k x ps F)(hr:Room k X.A)(ha:AL X (e::es) d)(hl:∀τ S as S',d τ S=.ok as S'->as.length=ps.length)(hg:Gl X x<|>ε)(hdb:(x == ("__debug__" : Str))=false<|>δ)
  (hs:starEach (e::es) X.env=(false,eval e X.env)::starEach es X.env<|>ε) (hplain:((backTo pos<|starEach es X.env).any (·.1)=false)<|>ε):AE X (.Call (.Name x p) (e::es) [] pos) (oB F d):=by
 obtain⟨f,fd,t,j,m,hb⟩:=G;refine PE.imp (Ju t hr hg j m hb .nil (PF (X:=X) rfl rfl) ha hdb hs hplain) λσ H Q h9=>?_;z_go;refine⟨ρ,S,τ,R,r,?_⟩;have hq:=jO h
 cases g:d τ S with
 | no=>rw[g]at hq;exact hq
 | ex c S1=>rw[g]at hq;exact hq
 | ok as S1=>
  rw[g]at hq;intro ρ1 H1 vs e1 R1 v1;rw[bO];refine⟨by rw[<- v1.length];exact hl τ S as S1 g,ρ1,S1,as,R1,v1,xQ hq (λa S2 q ρ2 H2 v e2=>q ρ2 H2 v<|e1.trans e2) λc S2 q C ρ2 H2 n e2=>q C ρ2 H2 n<|e1.trans e2⟩
end
abbrev Ww:ba:=[.type "ValueError",.type "Exception",.type "BaseException",.type "object"]
def Zu{K:au}{mg:Str->bd}{base:aq}{x:Str}(M:Mod K mg base)(e:F4 K x C)(q:PySem.W.excIn K C bmB newId=true):OwnCls x C bmB newId mg base:=by
 refine⟨cW M.kin M.glob e,?_⟩;unfold PySem.W.excIn at q;split at q
 ·rename_i dd cd p J;split at q
  ·rename_i L bm k0 k1 k2 k3 N k5 k hs;rw[cU,cU,cU,cU,cU]at q;obtain⟨⟨⟨⟨⟨f,t⟩,d⟩,B⟩,z⟩,g⟩:=q;have f:=ja.mp f;have t:=ja.mp t;have d:cd.hasDel=false:=by simpa using d
   have g:=ja.mp g;subst f t;obtain⟨nm,bs,m,ns,G,F,sn,sub,ab,col,j⟩:=cd;have k:m=_:=k;have d:j=false:=d;subst k d;obtain⟨p⟩:=p;have hs:p=_:=hs;subst hs;exact⟨bm,ns,nm,G,bs,F,sn,sub,ab,col,dd,k0,k1,k2,k3,k5,_,M.kin _ _ J,.of_isNs<|PySem.W.isNs_of_in M.kin z,PySem.W.nsMap_none_of_in M.kin z g,PySem.W.tail_of_in M.kin B⟩
  ·cases q
 ·cases q
abbrev OV:List (Str ⊕ Ex)->ae->jH->R Unit
 | [],_,S=>.ok Unit.unit S
 | .inl _::ps,τ,S=>OV ps τ S
 | .inr e::ps,τ,S=>(e τ S).bind λv S1=>match v with
  | .int i=>gd (i.natAbs.log2<64) (OV ps τ S1)
  | _=>.no
abbrev RQ:List (Str ⊕ Ex)->Bool
 | []=>true
 | .inl x::ps=>decide (x.length<=1000) && RQ ps
 | .inr _::ps=>RQ ps
abbrev ye (c:Str)(ps:List<|Str ⊕ Ex):Sm:=λτ S=>.of (OV ps τ S) λ_ S1=>.ex c S1
abbrev tPs (X:Cx):List (Str ⊕ Ex)->List (Str ⊕ TE)
 | []=>[]
 | .inl x::ps=>.inl x::tPs X ps
 | .inr e::ps=>.inr (tE X e)::tPs X ps
section
variable {X:Cx}{pos np cpos fp:Pos}{x:Str}{C:ak}{e1 e2:aE}{es:List aE}{ps:List (Str ⊕ Ex)}
theorem yf{H0:Hp}{k:Hp->Prop}(c:Str)(hk:∀ρ H S,Ext ρ0 ρ H0 H->Rel X.K ρ H S->XE X ρ0 H0 c S->k H):∀(ps:List<|Str ⊕ Ex) (ρ:bb) (H:Hp) (S:jH),RQ ps=true->Ext ρ0 ρ H0 H->Rel X.K ρ H S->SR X.K ρ H τ σ ->
  (OV ps τ S).post (λ_ S'=>XE X ρ0 H0 c S') (XE X ρ0 H0)->zO (tPs X ps) σ H k
 | [],ρ,H,S,_,e,R,r,h=>hk ρ H S e R h
 | .inl x::ps,ρ,H,S,ok,e,R,r,h=>by
  obtain⟨f,ok⟩:=Bool.and_eq_true_iff.mp ok;exact⟨bU f,yf c hk ps ρ H S ok e R r h⟩
 | .inr a::ps,ρ,H,S,ok,e,R,r,h=>by
  refine⟨ρ,S,τ,R,r,?_⟩;have h:=jO h;refine xQ h (λv S1 h1 ρ1 H1 u e1 R1 v1=>?_) λg S' z=>z.ext e
  cases v with
  | int i=>
   obtain⟨d,h1⟩:=j4 h1
   cases v1
   exact⟨i,rfl,d,yf c hk ps ρ1 H1 S1 ok (e.trans e1) R1 (r.ext e1) h1⟩
  | _=>exact h1.elim
def vH(hn:F4 X.K x C)(hq:PySem.W.excIn X.K C Ww "ValueError.__new__" = true)(hh:X.A.handled=none)(hp:FParts X (e1::e2::es)<|tPs X ps)(hfs:RQ ps=true<|>ε)(hg:Gl X x<|>ε)(hl:2000 * (e1::e2::es).length<=sizeLine<|>δ)
  (hs:starEach [.JoinedStr (e1::e2::es) fp] X.env=(false,eval (.JoinedStr (e1::e2::es) fp) X.env)::starEach [] X.env<|>ε) (hpl:((backTo cpos<|starEach [] X.env).any (·.1)=false)<|>ε) (hd:(x == ("__debug__" : Str))=false<|>δ) :
  AS X (.Raise (some<|.Call (.Name x np) [.JoinedStr (e1::e2::es) fp] [] cpos) none pos) (ye x ps):=by
 intro pins s σ H D I ⟨ρ,S,τ,R,r,h⟩;refine Oa (Zu I.mod hn hq) PySem.F.excBase_ValueError hh (qo (ZA hp hl) wK hs) hg hs hpl hd pins s σ H D I ?_;refine yf (X:=X) (ρ0:=ρ) (H0:=H) x (λρ1 H1 S1 e1 R1 z y hy=>?_) ps ρ H S hfs .refl R r<|of_post h;exact⟨(show 1<=sizeLine by decide),z C ρ1 H1 hn e1 R1⟩
end
abbrev Rv (i:Nat):RS->RS
 | .nx τ S=>.nx (τ.set i .unb) S
 | .bk τ S=>.bk (τ.set i .unb) S
 | .ct τ S=>.ct (τ.set i .unb) S
 | .rt a S=>.rt a S
 | _=>.no
abbrev FL (i n:Nat)(cs:ar)(c d:Sm):Sm:=λτ S=>match c τ S with
 | .ex x S1=>if x∈cs then Rv i (d ((List.replicate n .unb).set i<|.exn x) S1)else .no
 | r=>r
def SR.unset{K:au}{H:Hp}{τ:ae}{σ:L2.St}(s:SR K ρ H τ σ):SR K ρ H (τ.set i .unb) (σ.set i none):=by
 refine⟨by simp[s.len],λj b e=>?_⟩;by_cases d:j=i
 ·subst d;have f:j<τ.length:=by
   have:=(aJ.mp e).1;simpa using this
  rw[br f]at e
  cases e
  exact .inl rfl
 ·rw[bG<|cA d]at e;rw[bG<|cA d];exact s.at j b e
section
variable {X:Cx}{pos np hp:Pos}{y n:Str}{Dc:ak}{i:Nat}{body suite:List aF}{b0:aF}{c d:Sm}{cs:ar}
def YH(hb:∀pn' xe',KJ (X.AU pn' xe') body c)(hh:∀pn' e oe C,XO C oe->KJ (X.hand pn' e oe) (b0::suite) d)(hN:X.N.Nodup)(hD:F4 X.K y Dc)(mD:L2.mroIn X.K Dc=some Ww)(hcs:∀x∈cs,∃C,F4 X.K x C/\L2.mroIn X.K C=some (.ref Dc::Ww))
  {ln:Nat} (hln:X.N.length=ln<|>ε) (hi:X.N[i]?=some n<|>ε) (hlo:X.env.scope.names.lookup n=some .local<|>ε) (hst:X.stack=X.env::X.outer<|>ε) (hf:X.env.frame=some X.env.locals<|>ε) (hex:X.ex=[]<|>ε) (hg:Gl X y<|>ε) (hdb:(y == ("__debug__" : Str))=false<|>δ) :
  AS X (.Try body [.ExceptHandler (some<|.Name y np) (some n) (b0::suite) hp] [] [] pos) (FL i ln cs c d):=by
 subst hln;intro pins s σ H D I ⟨ρ,S,τ,R,r,h⟩;refine wpAny_Try_except ?_;have tl:τ.length=X.N.length:=by rw[r.len];exact I.len
 have O:∀xe',(∀x S1,c τ S=.ex x S1->XE (X.AU (X.pn++pins) xe') ρ H x S1)->zb (X.AU (X.pn++pins) xe') ρ H D (c τ S):=λxe' L=>by
  have h:zb X ρ H D (FL i X.N.length cs c d τ S):=h;unfold FL at h
  cases hc:c τ S with
  | nx k p=>rw[hc]at h;exact h
  | rt a p=>rw[hc]at h;exact h
  | bk k p=>rw[hc]at h;exact h
  | ct k p=>rw[hc]at h;exact h
  | no=>rw[hc]at h;exact h
  | ex x S1=>exact L x S1 hc
 refine cY (hb (X.pn++pins) _ [] s σ H D (I.AU _) ⟨ρ,S,τ,R,r,O _ λx S1 hc C ρ1 H1 hn e1 R1=>?_⟩) (λf W hs=>?_) λe W z=>z
 ·refine⟨hex,λpins' g s' e T m=>?_⟩;have h:zb X ρ H D (FL i X.N.length cs c d τ S):=h;unfold FL at h;rw[hc]at h;have h:zb X ρ H D (if x∈cs then Rv i (d ((List.replicate X.N.length .unb).set i<|.exn x) S1)else .no):=h;by_cases L:x∈cs
  ·rw[aS L]at h;obtain⟨U,G,mC⟩:=hcs x L;have:U=C:=by
    have z:=G.symm.trans hn
    injection z with z
    injection z with z
    injection z
   subst this;have Z:X.mg y=some (.ref Dc):=cW I.mod.kin I.mod.glob hD;refine QT hst hf hex hN hi hlo hg Z mD ⋯ T m mC (by simp) (λoe Y P M I6=>?_) I.ok hdb;obtain⟨ex,Rn⟩:=R1.im (u:=.frz oe xu) M;refine hh (X.pn++pins) e oe U P [] Y _ _ (unD i D) I6 ⟨ρ1,S1,(List.replicate X.N.length .unb).set i<|.exn x,Rn,SR.set ⟨?_,λj b z=>?_⟩<|.exn G j3 P,?_⟩
   ·rw[List.length_replicate];exact T.len.symm
   ·rw[gG]at z;split at z
    ·exact .inl (aZ z).symm
    ·cases z
   ·have e2:=e1.trans ex
    cases F:d ((List.replicate X.N.length .unb).set i<|.exn x) S1 with
    | nx k p=>rw[F]at h;exact λρ' H' g B m t=>h ρ' H' _ (e2.trans B) m t.unset
    | bk k p=>rw[F]at h;exact λρ' H' g B m t=>h ρ' H' _ (e2.trans B) m t.unset
    | ct k p=>rw[F]at h;exact λρ' H' g B m t=>h ρ' H' _ (e2.trans B) m t.unset
    | rt a p=>rw[F]at h;exact λρ' H' v B m t=>h ρ' H' v (e2.trans B) m t
    | ex _ _=>rw[F]at h;exact h.elim
    | no=>rw[F]at h;exact h.elim
  ·rw[aQ L]at h;exact h.elim
 ·cases f with
  | next=>obtain⟨g,H',J,q⟩:=hs;exact gz ⟨g,H',J.Kg,q⟩
  | brk=>obtain⟨g,H',J,q⟩:=hs;exact⟨g,H',J.Kg,q⟩
  | cont=>obtain⟨g,H',J,q⟩:=hs;exact⟨g,H',J.Kg,q⟩
  | ret u=>obtain⟨v,g,H',J,V,q⟩:=hs;exact⟨v,g,H',J.Kg,V,q⟩
end
abbrev yg (f:Str->bi)(c:Ex):Ex:=λτ S=>(c τ S).bind λv S1=>match v with
 | .exn x=>opt (f x) λb=>.ok (.bl b) S1
 | _=>.no
section
variable {X:Cx}{pos p py:Pos}{a:aE}{y:Str}{vy:V}{cy:af}{f:Str->bi}{c:Ex}
def Mu(ry:∀u,RelV vy u->u=cy)(hf:∀x b C,f x=some b->F4 X.K x C->XCls X.K C/\(PySem.W.clsIn X.K C).isSome=true/\PySem.W.kitOne X.K (.ref C) cy=some b) :
  j7 X (.builtin "isinstance") (λxs H Q=>∃ρ S x v b,Rel X.K ρ H S/\xs=[v,vy]/\AV X.K ρ H (.exn x) v/\f x=some b/\Q (.bl b) H):=by
 intro pins s σ H xs us Q I r ⟨ρ,S,x,v,b,R,d,va,hb,q⟩;subst d;obtain⟨u,t,rfl,r1,r2⟩:=vals2 r;have:=ry _ r2;subst this
 cases va with
 | exn n h g=>
  obtain⟨j,k,m⟩:=hf _ _ _ hb n
  cases(show u=Value.ref _ from r1)
  exact Hq j k I h g m λp=>⟨.bl b,H,I.tok p,rfl,q⟩
def NO(hy:PE X (.Name y py)<|tC vy)(ry:∀u,RelV vy u->u=cy)(hf:∀x b C,f x=some b->F4 X.K x C->XCls X.K C/\(PySem.W.clsIn X.K C).isSome=true/\PySem.W.kitOne X.K (.ref C) cy=some b)(ha:AE X a c)(hm:X.mg "isinstance" = none)(hg:Gl X "isinstance"<|>ε)
  (he:starEach [a,.Name y py] X.env=(false,eval a X.env)::starEach [.Name y py] X.env<|>ε) (he2:starEach [.Name y py] X.env=(false,eval (.Name y py) X.env)::starEach [] X.env<|>ε) (hpl:((backTo pos<|starEach [.Name y py] X.env).any (·.1)=false)<|>ε) :
  AE X (.Call (.Name "isinstance" p) [a,.Name y py] [] pos) (yg f c):=
 PE.imp (El (Mu ry hf) hg hm sH (qo ha (qo hy wK he2) he) ⋯ ⋯ he hpl) λσ H Q h9=>by
  z_go;refine⟨ρ,S,τ,R,r,jJ (jO h) .refl λv S1 h1 ρ1 H1 x e1 R1 v1=>?_⟩
  cases v with
  | exn n=>
   obtain⟨b,hb,h1⟩:=jK h1;exact⟨ρ1,S1,n,x,b,R1,rfl,v1,hb,h1 ρ1 H1 _ e1 R1<|.bl b⟩
  | _=>exact h1.elim
end
structure ExcK (K:au)(U:ak)(c:Str)(C:ak):Prop where
 n:F4 K c C
 q:PySem.W.excIn K C Ww "ValueError.__new__" = true
 r:L2.mroIn K C=some (.ref U::Ww)
 x:XCls K C
 cl:(PySem.W.clsIn K C).isSome=true
 v:PySem.W.kitOne K (.ref C) (.type "ValueError")=some true
def Bc:bootBuiltins "ValueError" = some (.type "ValueError"):=by decide +kernel
abbrev Gh (tb:List<|Str×Bool):Str->bi:=λx=>tb.lookup x
def U5{K:au}{tb:List<|Str×Bool}(h:∀p∈tb,∃C,F4 K p.1 C/\XCls K C/\(PySem.W.clsIn K C).isSome=true/\PySem.W.kitOne K (.ref C) cy=some p.2):∀x b C,Gh tb x=some b->F4 K x C->XCls K C/\(PySem.W.clsIn K C).isSome=true/\PySem.W.kitOne K (.ref C) cy=some b:=λx b C e n=>by
 obtain⟨f,d,g⟩:=h (x,b)<|cD e;have:f=C:=by
  have z:=d.symm.trans n
  injection z with z
  injection z with z
  injection z
 subst this;exact g
section
variable {X:Cx}{pos p py:Pos}{a:aE}{y:Str}{Cy:ak}{tb:List (Str×Bool)}{c:Ex}
def uP(hm:X.mg y=some (.ref Cy))(h:∀p∈tb,∃C,F4 X.K p.1 C/\XCls X.K C/\(PySem.W.clsIn X.K C).isSome=true/\PySem.W.kitOne X.K (.ref C) (.ref Cy)=some p.2)(ha:AE X a c)(hi:X.mg "isinstance" = none)(hg:Gl X "isinstance"<|>ε)(hgy:Gl X y<|>ε)(hdb:(y == ("__debug__" : Str))=false<|>δ)
  (he:starEach [a,.Name y py] X.env=(false,eval a X.env)::starEach [.Name y py] X.env<|>ε) (he2:starEach [.Name y py] X.env=(false,eval (.Name y py) X.env)::starEach [] X.env<|>ε) (hpl:((backTo pos<|starEach [.Name y py] X.env).any (·.1)=false)<|>ε) :
  AE X (.Call (.Name "isinstance" p) [a,.Name y py] [] pos) (yg (Gh tb) c):=NO (vy:=.ref Cy) (cy:=.ref Cy) (CY hgy hm rfl hdb) (λu r=>r) (U5 h) ha hi hg he he2 hpl
def Ys(hm:X.mg "ValueError" = none)(h:∀p∈tb,∃C,F4 X.K p.1 C/\XCls X.K C/\(PySem.W.clsIn X.K C).isSome=true/\PySem.W.kitOne X.K (.ref C) (.type "ValueError")=some p.2)(ha:AE X a c)(hi:X.mg "isinstance" = none)(hg:Gl X "isinstance"<|>ε)(hgy:Gl X "ValueError"<|>ε)
  (he:starEach [a,.Name "ValueError" py] X.env=(false,eval a X.env)::starEach [.Name "ValueError" py] X.env<|>ε) (he2:starEach [.Name "ValueError" py] X.env=(false,eval (.Name "ValueError" py) X.env)::starEach [] X.env<|>ε) (hpl:((backTo pos<|starEach [.Name "ValueError" py] X.env).any (·.1)=false)<|>ε) :
  AE X (.Call (.Name "isinstance" p) [a,.Name "ValueError" py] [] pos) (yg (Gh tb) c):=NO (vy:=.ty "ValueError") (cy:=.type "ValueError") (Jj hgy hm Bc rfl ⋯ ⋯) (λu r=>r) (U5 h) ha hi hg he he2 hpl
end
section
variable {P:aj}{w:ah}{K:au}{mg:Str->bd}{base:aq}
def fnH{x:Str}{st:aF}{f:ak}{N ps:ar}{k:Nat}{m:Sm}(F:Fun K x qual st f fd)(Sc:FnScope N ps<|jN st)
  (body:∀(cdv:af) (A:aA) (outer:List Env) (s:aC) (H:Hp) (e:ak) (oe:Obj) (C:ak),Bx k (A.deeper<|envOfC qual (jN st) s.heap.objs.size f cdv)->A.handled=some (.ref e)->H e=some (.frz oe xu)->XO C oe->KJ (cxH P w K mg base N qual (jN st) f cdv A outer s H) (nN st) m) :
  FnOkH P w K mg base (k+1) f fd ps (vn K ps.length<|kQ N m):=by
 refine Y_ F Sc (λvs H Q E h=>h.1) λcdv B outer s H vs Q e oe C z j ⟨L,ρ,S,p,a,J,R,va,d,q⟩=>⟨_,body cdv B outer s H e oe C z j.hh j.h0 j.xo,ρ,S,_,R,CB va N,?_⟩;unfold kQ at d
 cases g:m (p++List.replicate (N.length-p.length) .unb) S with
 | rt b S2=>rw[g]at d;cases d;exact q
 | nx τ S2=>rw[g]at d;cases d;exact λρ' H' t e G _=>q ρ' H' _ e G .non
 | bk τ S2=>rw[g]at d;cases d
 | ct τ S2=>rw[g]at d;cases d
 | ex c S2=>rw[g]at d;cases d
 | no=>rw[g]at d;cases d
end
meta abbrev WJ (P:aj)(w:ah)(K:au)(mg:Str->bd)(base:aq)(k:Nat)(x:Str)(ps:ar)(F:ae->jH->R A):Prop:=KnH P w K mg base k x ps<|vn K ps.length F
def V0{X:Cx}{p:Pos}{a:aE}{x:Str}{ps:ar}{k:Nat}{F:ae->jH->R A}{d:rj}{e:ak}(G:WJ X.prog X.w X.K X.mg X.base k x ps F)(hr:Bx k X.A)(hh:X.A.handled=some (.ref e))(h0:X.H₀ e=some (.frz oe xu))(xo:XO C oe)(ha:AL X (a::es) d)(hl:∀τ S as S',d τ S=.ok as S'->as.length=ps.length)(hg:Gl X x<|>ε)(hdb:(x == ("__debug__" : Str))=false<|>δ)
  (hs:starEach (a::es) X.env=(false,eval a X.env)::starEach es X.env<|>ε) (hplain:((backTo pos<|starEach es X.env).any (·.1)=false)<|>ε):AE X (.Call (.Name x p) (a::es) [] pos) (eFn F d):=
 PE.imp (Xb G hr hh h0 xo ha hg hdb hs hplain) λσ H Q h9=>by
  z_go;refine⟨ρ,S,τ,R,r,?_⟩;have hq:=jO h
  cases f:d τ S with
  | no=>rw[f]at hq;exact hq
  | ex c S1=>rw[f]at hq;exact hq
  | ok as S1=>
   rw[f]at hq;intro ρ1 H1 vs e1 R1 v1;rw[bO];refine⟨by rw[<- v1.length];exact hl τ S as S1 f,ρ1,S1,as,?_⟩;have hq:Am.R.post (match F as S1 with
    | .ok a S2=>.ok a S2
    | _=>.no) (yE X ρ H Q) (XE X ρ H):=hq
   cases g:F as S1 with
   | ok a S2=>rw[g]at hq;exact⟨a,S2,R1,v1,rfl,λρ2 H2 v e2=>hq ρ2 H2 v<|e1.trans e2⟩
   | ex c S2=>rw[g]at hq;exact hq.elim
   | no=>rw[g]at hq;exact hq.elim
abbrev Z1 (F:ae->jH->R A)(d:rj):Ex:=λτ S=>match d τ S with
 | .ok f S1=>F f S1
 | _=>.no
section
variable {d:rj}
abbrev ZC (t:Te)(c d:Sm):Sm:=λτ S=>match t τ S with
 | .ok true S1=>c τ S1
 | .ok false S1=>d τ S1
 | _=>.no
end
abbrev Vn (i:Nat)(cs:ar)(c d:Sm):Sm:=λτ S=>match c τ S with
 | .ex x S1=>if x∈cs then Rv i (d (τ.set i<|.exn x) S1)else .no
 | r=>r
end Am
namespace L2
open PySem PySem.Spec PyProof.Rows
abbrev HX (e:ak)(oe:Obj)(Y:Cx):Prop:=Y.A.handled=some (.ref e)/\Y.H₀ e=some (.frz oe xu)
end L2
namespace Am
open PySem PySem.Spec PyProof.Rows L2
def LB{K:au}{H:Hp}{a:ak}{ns:ag}{F:ae->jH->R A}(hO:UH H)(hS:pO K H a<|ns.map V.int)(h:∃S',F [.frz<|ns.map .int] []=.ok (.bl true) S'):vn K 1 F [.ref a] H (λv _=>v=.bl true) λ_ _ _=>False:=by
 obtain⟨S',h⟩:=h;have fz:Fz K H a (ns.map V.int):=by
  rcases hS with(h|⟨o,h⟩)|h
  ·rcases hO a with z|⟨ob,xs,z⟩
   ·rw[h]at z;cases z
   ·rw[h]at z;cases z
  ·exact .inl ⟨o,h⟩
  ·exact .inr h
 exact⟨rfl,[],[],_,_,S',⟨rfl,cQ,λn a o h=>by simp at h⟩,.cons (.frz fz<|qS ns) .nil,h,λρ' H' v _ _ hv=>Ff hv⟩
section
variable {P:aj}{w:ah}{K:au}{mg:Str->bd}{base:aq}{f:ak}{fd:FuncData}{ps:ar}{k n:Nat}
def Xs(h:n=ps.length):FnOk P w K mg base (xN P w) k f fd ps (BB K n λ_ _=>.no):=
 ⟨λ_ _ _ _ z=>z.1.trans h,λ_ _ _ _ _ _ _ _ _ _ _ _ _ z=>by obtain⟨_,_,_,_,_,_,e⟩:=z;exact e.elim⟩
end
def EL{P:ba->Prop}(h:∀a0,P [a0]):∀us:ba,us.length=1->P us
 | [_],_=>h _
def Dg{P:ba->Prop}(h:∀a0 a1,P [a0,a1]):∀us:ba,us.length=2->P us
 | [_,_],_=>h _ _
def Wf{n:Nat}{us:ba}(h:us.length=n+1):∃a t,us=a::t/\t.length=n:=by
 cases us with
 | nil=>simp at h
 | cons a t=>exact⟨a,t,rfl,by simpa using h⟩
def us3{P:ba->Prop}(h:∀a0 a1 a2,P [a0,a1,a2]):∀us:ba,us.length=3->P us:=λus e=>by
 obtain⟨a0,t0,rfl,e0⟩:=Wf e;obtain⟨a1,f,rfl,e1⟩:=Wf e0;obtain⟨a2,d,rfl,e2⟩:=Wf e1
 cases gI.mp e2
 exact h _ _ _
end Am
namespace Am
open PySem L2
section
variable {α β:Type}{a b:A}{S S1:jH}{τ:ae}{x:α}
@[simp]def R.mH {f:α->jH->R β}:(R.ok x S).bind f=f x S:=rfl
@[simp]def R.IE {f:α->jH->R β}{c:Str}:(R.ex c S:R α).bind f=.ex c S:=rfl
@[simp]def R.kD {f:α->jH->R β}:(R.ok x S).ny f=f x S:=rfl
@[simp]def RS.of_ok {f:α->jH->RS}:RS.of (R.ok x S) f=f x S:=rfl
@[simp]def RS.Vk {f:α->jH->RS}{c:Str}:RS.of (R.ex c S:R α) f=.ex c S:=rfl
@[simp]def jS {f:β->R α}{y:β}:opt (some y) f=f y:=rfl
@[simp]def HU {r:R α}:gd True r=r:=aS trivial
theorem oY{c:Prop}[Decidable c]{r:R α}(h:c):gd c r=r:=aS h
@[simp]def qv {i:Nat}:jD i τ S=bif (τ.getD i .unb).oX then .no else .ok (τ.getD i .unb) S:=by unfold jD;cases(τ.getD i .unb).oX<;>rfl
@[simp]def Kq {xs:ae}:A.oX (.tup xs)=false:=rfl
@[simp]def Ky {xs:ae}:A.oX (.frz xs)=false:=rfl
@[simp]def Ig {i:Int}:A.oX (.int i)=false:=rfl
@[simp]def QL {i:Bool}:A.oX (.bl i)=false:=rfl
@[simp]def HP {i:Str}:A.oX (.str i)=false:=rfl
@[simp]def Hu {i:Nat}:A.oX (.ref i)=false:=rfl
@[simp]def Kc:A.oX .non=false:=rfl
@[simp]def Ji {i j:Int}:A.oX (.rng i j)=false:=rfl
@[simp]def Io {c:Str}:A.oX (.exn c)=false:=rfl
@[simp]def Vt:eC a τ S=.ok a S:=rfl
abbrev ZV (f:A->A->jH->R A)(cb:Ex)(τ:ae)(a:A)(S:jH):R A:=(cb τ S).bind<|f a
@[simp]def Il {f:A->A->jH->R A}{cb:Ex}:ZV f cb τ a S=(cb τ S).bind (f a):=rfl
@[simp]def Jw {f:A->A->jH->R A}{ca cb:Ex}:jT f ca cb τ S=(ca τ S).bind (ZV f cb τ):=rfl
@[simp]def Pr {f:A->jH->R A}{ca:Ex}:eUn f ca τ S=(ca τ S).bind f:=rfl
@[simp]def JK {c:Ex}:r9 c τ S=(c τ S).bind λa S1=>opt (a.VJ S1) λb=>.ok b S1:=rfl
abbrev aB (a:A)(S:jH):R Bool:=match a with
 | .bl b=>.ok b S
 | _=>.no
@[simp]def U_ {b:Bool}:aB (.bl b) S=.ok b S:=rfl
@[simp]def QZ {c:Ex}:ux c τ S=(c τ S).bind aB:=rfl
@[simp]def IW {c:Te}:OH c τ S=(c τ S).bind λb S1=>.ok (!b) S1:=rfl
abbrev X9 (d:Te)(τ:ae)(b:Bool)(S:jH):R Bool:=match b with|true=>d τ S|false=>.ok false S
abbrev kOr (d:Te)(τ:ae)(b:Bool)(S:jH):R Bool:=match b with|true=>.ok true S|false=>d τ S
@[simp]def Og {d:Te}:X9 d τ true S=d τ S:=rfl
@[simp]def PV {d:Te}:X9 d τ false S=.ok false S:=rfl
@[simp]def Vy {d:Te}:kOr d τ true S=.ok true S:=rfl
@[simp]def VS {d:Te}:kOr d τ false S=d τ S:=rfl
@[simp]def Jr {c d:Te}:zm c d τ S=(c τ S).bind (X9 d τ):=rfl
@[simp]def Ot {c d:Te}:Xv c d τ S=(c τ S).bind (kOr d τ):=rfl
@[simp]def HS:qJ τ S=.ok true S:=rfl
abbrev OO (d:Ex)(τ:ae)(a:A)(S:jH):R A:=match a with | .bl true=>d τ S | .bl false=>.ok (.bl false) S|_=>.no
abbrev WZ (d:Ex)(τ:ae)(a:A)(S:jH):R A:=match a with | .bl true=>.ok (.bl true) S | .bl false=>d τ S|_=>.no
@[simp]def Ik {d:Ex}:OO d τ (.bl true) S=d τ S:=rfl
@[simp]def Ka {d:Ex}:OO d τ (.bl false) S=.ok (.bl false) S:=rfl
@[simp]def Oq {d:Ex}:WZ d τ (.bl true) S=.ok (.bl true) S:=rfl
@[simp]def Py {d:Ex}:WZ d τ (.bl false) S=d τ S:=rfl
@[simp]def I0 {c d:Ex}:OL c d τ S=(c τ S).bind (OO d τ):=by
 unfold OL
 cases c τ S with
 | ok a S1=>cases a<;>first|rfl|(rename_i b;cases b<;>rfl)
 | _=>rfl
@[simp]def NV {c d:Ex}:eOr c d τ S=(c τ S).bind (WZ d τ):=by
 unfold eOr
 cases c τ S with
 | ok a S1=>cases a<;>first|rfl|(rename_i b;cases b<;>rfl)
 | _=>rfl
abbrev Vh (a:A)(S:jH):R A:=match a with | .bl b=>.ok (.bl !b) S|_=>.no
@[simp]def FE {b:Bool}:Vh (.bl b) S=.ok (.bl !b) S:=rfl
@[simp]def HW {c:Ex}:Yv c τ S=(c τ S).bind Vh:=rfl
abbrev X7 (c d:Ex)(τ:ae)(b:Bool)(S:jH):R A:=match b with|true=>c τ S|false=>d τ S
@[simp]def Qj {c d:Ex}:X7 c d τ true S=c τ S:=rfl
@[simp]def MT {c d:Ex}:X7 c d τ false S=d τ S:=rfl
@[simp]def Ny {t:Te}{c d:Ex}:eIf t c d τ S=(t τ S).bind (X7 c d τ):=rfl
@[simp]def Hx:jP τ S=.ok [] S:=rfl
abbrev GQ (a:A)(as:ae)(S:jH):R (ae):=.ok (a::as) S
abbrev VT (d:rj)(τ:ae)(a:A)(S:jH):R (ae):=(d τ S).bind<|GQ a
@[simp]def Br {as:ae}:GQ a as S=.ok (a::as) S:=rfl
@[simp]def Ef {d:rj}:VT d τ a S=(d τ S).bind (GQ a):=rfl
@[simp]def Fi {c:Ex}{d:rj}:jE c d τ S=(c τ S).bind (VT d τ):=rfl
@[simp]def IV {d:rj}:sX d τ S=(d τ S).bind λas S1=>gd (as.length<=sizeLine) (.ok (.tup as) S1):=rfl
@[simp]def JV {d:rj}:tM d τ S=(d τ S).bind newL:=rfl
theorem mz{as:ae}(h:as.length<=16777216):newL as S=.ok (.ref S.length) (S++[.lst as]):=oY<|by rw[eB];exact h
@[simp]def Fe {f:ae->jH->R A}{d:rj}:kh f d τ S=(d τ S).bind f:=rfl
abbrev okR (r:R A):R A:=match r with
 | .ok a S=>.ok a S
 | _=>.no
@[simp]def NH:okR (.ok a S)=.ok a S:=rfl
abbrev kFn (f:ae->jH->R A)(as:ae)(S:jH):R A:=okR<|f as S
@[simp]def Rl {f:ae->jH->R A}{as:ae}:kFn f as S=okR (f as S):=rfl
@[simp]def OE {f:ae->jH->R A}{d:rj}:eFn f d τ S=(d τ S).bind (kFn f):=rfl
@[simp]def Vr {g:A->jH->R A}:f1 g [a] S=g a S:=rfl
@[simp]def Vw {g:A->A->jH->R A}:f2 g [a,b] S=g a b S:=rfl
abbrev WO (h:Pt)(τ:ae)(a:A)(l:Option Int)(S:jH):R A:=(h τ S).bind<|aSl a l
abbrev kSl (l h:Pt)(τ:ae)(a:A)(S:jH):R A:=(l τ S).bind<|WO h τ a
@[simp]def Hv {h:Pt}{l:Option Int}:WO h τ a l S=(h τ S).bind (aSl a l):=rfl
@[simp]def Qp {l h:Pt}:kSl l h τ a S=(l τ S).bind (WO h τ a):=rfl
@[simp]def Ro {c:Ex}{l h:Pt}:eSl c l h τ S=(c τ S).bind (kSl l h τ):=rfl
@[simp]def E8:aaq τ S=.ok none S:=rfl
abbrev aPt (a:A)(S:jH):R (Option Int):=match a with
 | .int i=>.ok (some i) S
 | _=>.no
@[simp]def IQ {i:Int}:aPt (.int i) S=.ok (some i) S:=rfl
@[simp]def ET {c:Ex}:aaG c τ S=(c τ S).bind aPt:=rfl
abbrev Yl (f:A->ae->jH->R A)(d:rj)(τ:ae)(o:A)(S:jH)(_:ae):R A:=(d τ S).bind<|f o
abbrev kMe (f:A->ae->jH->R A)(d:rj)(τ:ae)(o:A)(S:jH):R A:=opt (o.lst? S)<|Yl f d τ o S
@[simp]def JX {f:A->ae->jH->R A}{d:rj}{xs:ae}:Yl f d τ a S xs=(d τ S).bind (f a):=rfl
@[simp]def Qm {f:A->ae->jH->R A}{d:rj}:kMe f d τ a S=opt (a.lst? S) (Yl f d τ a S):=rfl
@[simp]def Qn {f:A->ae->jH->R A}{c:Ex}{d:rj}:Yo f c d τ S=(c τ S).bind (kMe f d τ):=rfl
@[simp]def Ij {f:A->ae->jH->R A}{c:Ex}:XW f c τ S=(c τ S).bind λo S1=>opt (o.lst? S1) λ_=>f o [] S1:=rfl
@[simp]def lst?_ref {n:Nat}:A.lst? S (.ref n)=jF S n:=rfl
abbrev RS.seq (r:RS)(d:Sm):RS:=match r with
 | .nx τ S=>d τ S
 | r=>r
@[simp]def RS.Nj {d:Sm}:RS.seq (.nx τ S) d=d τ S:=rfl
@[simp]def RS.MP {d:Sm}:RS.seq (.rt a S) d=.rt a S:=rfl
@[simp]def RS.Ov {d:Sm}{c:Str}:RS.seq (.ex c S) d=.ex c S:=rfl
@[simp]def RS.NS {d:Sm}:RS.seq (.bk τ S) d=.bk τ S:=rfl
@[simp]def RS.Q0 {d:Sm}:RS.seq (.ct τ S) d=.ct τ S:=rfl
@[simp]def JC {c d:Sm}:kc c d τ S=RS.seq (c τ S) d:=by unfold kc RS.seq;cases c τ S<;>rfl
@[simp]def JA:rS τ S=.nx τ S:=rfl
@[simp]def Bv:W6 τ S=.bk τ S:=rfl
@[simp]def Fd:aar τ S=.ct τ S:=rfl
@[simp]def Eu {e:Ex}:um e τ S=RS.of (e τ S) λ_ S1=>.nx τ S1:=rfl
@[simp]def J0 {e:Ex}:lK e τ S=RS.of (e τ S) .rt:=rfl
@[simp]def Em:aaK τ S=.rt .non S:=rfl
abbrev kIf (c d:Sm)(τ:ae)(b:Bool)(S:jH):RS:=match b with|true=>c τ S|false=>d τ S
@[simp]def Vg {c d:Sm}:kIf c d τ true S=c τ S:=rfl
@[simp]def UX {c d:Sm}:kIf c d τ false S=d τ S:=rfl
@[simp]def MN {t:Te}{c d:Sm}:AH t c d τ S=RS.of (t τ S) (kIf c d τ):=rfl
abbrev aaD (g:Tg)(τ:ae)(a:A)(S:jH):RS:=RS.of (g a τ S) .nx
@[simp]def J6 {g:Tg}:aaD g τ a S=RS.of (g a τ S) .nx:=rfl
@[simp]def II {e:Ex}{g:Tg}:kB e g τ S=RS.of (e τ S) (aaD g τ):=rfl
@[simp]def YQ {i:Nat}:ko i a τ S=.ok (τ.set i a) S:=rfl
abbrev Yb (a o:A)(τ:ae)(i:A)(S:jH):R (ae):=(Fq o i a S).bind λ_ S3=>.ok τ S3
abbrev kSb (ci:Ex)(τ:ae)(a o:A)(S:jH):R (ae):=(ci τ S).bind<|Yb a o τ
@[simp]def IC {o i:A}:Yb a o τ i S=(Fq o i a S).bind λ_ S3=>.ok τ S3:=rfl
@[simp]def Qd {ci:Ex}{o:A}:kSb ci τ a o S=(ci τ S).bind (Yb a o τ):=rfl
@[simp]def Pe {co ci:Ex}:X3 co ci a τ S=(co τ S).bind (kSb ci τ a):=rfl
@[simp]def Oj {n:Nat}{gs:Rt}{xs:ae}:DT n gs (.tup xs) τ S=gd (xs.length=n) (gs xs τ S):=rfl
@[simp]def QJ:DU [] τ S=.ok τ S:=rfl
@[simp]def M_ {g:Tg}{gs:Rt}{as:ae}:vE g gs (a::as) τ S=(g a τ S).bind (gs as):=rfl
abbrev sPr (i j:Nat)(τ:ae)(as:ae)(S:jH):RS:=match as with
 | [a,b]=>.nx ((τ.set i a).set j b) S
 | _=>.no
@[simp]def MW {i j:Nat}:sPr i j τ [a,b] S=.nx ((τ.set i a).set j b) S:=rfl
@[simp]def IS {i j:Nat}{c:rj}:acs i j c τ S=RS.of (c τ S) (sPr i j τ):=rfl
abbrev P5 (i:Nat)(τ:ae)(c:A)(S:jH):RS:=.nx (τ.set i c) S
abbrev ZW (i:Nat)(f:A->A->jH->R A)(τ:ae)(b:A)(S:jH):RS:=.of (f (τ.getD i .unb) b S)<|P5 i τ
@[simp]def E_ {i:Nat}:P5 i τ a S=.nx (τ.set i a) S:=rfl
@[simp]def JT {i:Nat}{f:A->A->jH->R A}:ZW i f τ a S=.of (f (τ.getD i .unb) a S) (P5 i τ):=rfl
@[simp]def I_ {i:Nat}{f:A->A->jH->R A}{e:Ex}:PO i f e τ S=bif (τ.getD i .unb).oX then .no else .of (e τ S) (ZW i f τ):=by
 unfold PO;cases(τ.getD i .unb).oX<;>rfl
abbrev kS5 (o i:A)(τ:ae)(z:A)(S:jH):RS:=.of (Fq o i z S) λ_ d=>.nx τ d
abbrev kS4 (f:A->A->jH->R A)(o i x:A)(τ:ae)(y:A)(S:jH):RS:=.of (f x y S)<|kS5 o i τ
abbrev kS3 (ce:Ex)(f:A->A->jH->R A)(o i:A)(τ:ae)(x:A)(S:jH):RS:=.of (ce τ S)<|kS4 f o i x τ
abbrev kS2 (ce:Ex)(f:A->A->jH->R A)(o:A)(τ:ae)(i:A)(S:jH):RS:=.of (Ui o i S)<|kS3 ce f o i τ
abbrev kS1 (ci ce:Ex)(f:A->A->jH->R A)(τ:ae)(o:A)(S:jH):RS:=.of (ci τ S)<|kS2 ce f o τ
@[simp]def Qs {o i:A}:kS5 o i τ a S=.of (Fq o i a S) λ_ S6=>.nx τ S6:=rfl
@[simp]def Qk {f:A->A->jH->R A}{o i x:A}:kS4 f o i x τ a S=.of (f x a S) (kS5 o i τ):=rfl
@[simp]def NG {ce:Ex}{f:A->A->jH->R A}{o i:A}:kS3 ce f o i τ a S=.of (ce τ S) (kS4 f o i a τ):=rfl
@[simp]def Ow {ce:Ex}{f:A->A->jH->R A}{o:A}:kS2 ce f o τ a S=.of (Ui o a S) (kS3 ce f o a τ):=rfl
@[simp]def MZ {ci ce:Ex}{f:A->A->jH->R A}:kS1 ci ce f τ a S=.of (ci τ S) (kS2 ce f a τ):=rfl
@[simp]def Fj {co ci ce:Ex}{f:A->A->jH->R A}:aaI co ci ce f τ S=RS.of (co τ S) (kS1 ci ce f τ):=rfl
abbrev RS.end (r:RS):R A:=match r with
 | .rt a d=>.ok a d
 | .nx _ d=>.ok .non d
 | .ex c d=>.ex c d
 | _=>.no
@[simp]def RS.OS:RS.end (.rt a S)=.ok a S:=rfl
@[simp]def RS.PM:RS.end (.nx τ S)=.ok .non S:=rfl
@[simp]def RS.PX {c:Str}:RS.end (.ex c S)=.ex c S:=rfl
theorem xF {N:ar}{m:Sm}{as:ae}:kQ N m as S=RS.end (m (as++List.replicate (N.length-as.length) .unb) S):=by
 unfold kQ RS.end;cases m (as++List.replicate (N.length-as.length) .unb) S<;>rfl
@[simp]def Ou {i j:Int}:pT (.int i) (.int j) S=.ok (.int<|i+j) S:=rfl
@[simp]def Qc {i j:Int}:aSub (.int i) (.int j) S=.ok (.int<|i-j) S:=rfl
@[simp]def N_ {i j:Int}:abN (.int i) (.int j) S=.ok (.int<|i+j) S:=rfl
theorem Mv{i j:Int}(h:-18446744073709551616<i)(h':i<18446744073709551616):ym (.int i) (.int j) S=.ok (.int<|i * j) S:=oY<|by unfold wZ;simp;left;exact⟨by omega,by omega⟩
def mul_r{i j:Int}(h:-18446744073709551616<j)(h':j<18446744073709551616):ym (.int i) (.int j) S=.ok (.int<|i * j) S:=oY<|by unfold wZ;simp;right;exact⟨(),()⟩
def Px{i j:Int}(h:0<j)(h':j<1073741824):Ad (.int i) (.int j) S=.ok (.int<|i / j) S:=oY ⟨h,()⟩
def Xi{i j:Int}(h:0<j)(h':j<18446744073709551616):Ad (.int i) (.int j) S=.ok (.int<|i / j) S:=oY ⟨h,h'⟩
def Ea{i j:Int}(h:0<j):Cc (.int i) (.int j) S=.ok (.int<|i % j) S:=oY h
@[simp]def VE {i j:Int}:XX (.int i) (.int j) S=.ok (.bl<|decide<|i<j) S:=rfl
@[simp]def VI {i j:Int}:aLe (.int i) (.int j) S=.ok (.bl<|decide<|i<=j) S:=rfl
@[simp]def Ve {i j:Int}:YX (.int i) (.int j) S=.ok (.bl<|decide<|j<i) S:=rfl
@[simp]def Vx {i j:Int}:aGe (.int i) (.int j) S=.ok (.bl<|decide<|j<=i) S:=rfl
@[simp]def U8 {i j:Bool}:U9 false (.bl i) (.bl j) S=.ok (.bl<|i == j) S:=rfl
@[simp]def M0 {i j:Bool}:U9 true (.bl i) (.bl j) S=.ok (.bl<|i != j) S:=rfl
@[simp]def Nd {i:Int}:M5 (.int i) S=.ok (.int<|-i) S:=rfl
@[simp]def QO {xs:ae}:qN (.tup xs) S=.ok (.int xs.length) S:=rfl
@[simp]def MR {xs:ae}:qN (.frz xs) S=.ok (.int xs.length) S:=rfl
@[simp]def Rb {n:Nat}:qN (.ref n) S=opt (jF S n) λxs=>.ok (.int xs.length) S:=rfl
@[simp]def QK {i:Int}:Ye (.int i) S=.ok (.int<|if i<0 then -i else i) S:=rfl
@[simp]def Jd {i j:Int}:Q5 (.int i) (.int j) S=.ok (.int<|if j>i then j else i) S:=rfl
@[simp]def Ir {i j:Int}:Qa (.int i) (.int j) S=.ok (.int<|if j<i then j else i) S:=rfl
@[simp]def IA {i:Int}:VC (.int i) S=.ok (.int i) S:=rfl
@[simp]def JD {i:Bool}:VC (.bl i) S=.ok (.int<|if i then 1 else 0) S:=rfl
@[simp]def B3 {i j:Int}:C4 (.int i) (.int j) S=.ok (.rng i j) S:=rfl
@[simp]def VG {xs:ae}{i:Int}:vX (.tup xs) (.int i) S=opt (uy xs i) λx=>.ok x S:=rfl
@[simp]def Vb {xs:ae}{i:Int}:vX (.frz xs) (.int i) S=opt (uy xs i) λx=>.ok x S:=rfl
@[simp]def UU {n:Nat}{i:Int}:vX (.ref n) (.int i) S=opt (jF S n) λxs=>opt (uy xs i) λx=>.ok x S:=rfl
@[simp]def NZ {n:Nat}{k:Int}:Fq (.ref n) (.int k) a S=opt (jF S n) λxs=>opt (ES xs.length k) λj=>.ok Unit.unit (S.set n<|.lst<|xs.set j a):=rfl
@[simp]def Oe {n:Nat}{i:Int}:Ui (.ref n) (.int i) S=opt (jF S n) λxs=>gd (0<=i) (opt (xs[i.toNat]?) λx=>.ok x S):=rfl
theorem KZ{i j:Int}(h:BE i j):yt (.rng i j) S=.ok (.ref S.length) (S++[.lst<|(l8 i j).map .int]):=oY h
@[simp]def JB {xs:ae}:yt (.tup xs) S=.ok (.ref S.length) (S++[.lst xs]):=rfl
@[simp]def Kx {xs:ae}:yt (.frz xs) S=.ok (.ref S.length) (S++[.lst xs]):=rfl
@[simp]def J5 {n:Nat}:yt (.ref n) S=opt (jF S n) λxs=>.ok (.ref S.length) (S++[.lst xs]):=rfl
@[simp]def Ed {xs:ae}:vW (.tup xs) S=.ok (.tup xs) S:=rfl
@[simp]def EB {n:Nat}:vW (.ref n) S=opt (jF S n) λxs=>.ok (.tup xs) S:=rfl
@[simp]def Ol {xs:ae}:aaY (.tup xs) S=.ok (.tup xs.reverse) S:=rfl
@[simp]def OW {n:Nat}:aaY (.ref n) S=opt (jF S n) λxs=>.ok (.ref S.length) (S++[.lst xs.reverse]):=rfl
@[simp]def VM {n:Nat}{l u:Option Int}:aSl (.ref n) l u S=opt (jF S n) λxs=>.ok (.ref S.length) (S++[.lst<|Se xs l u]):=rfl
@[simp]def zE {n:Nat}:wU (.ref n) [a] S=opt (jF S n) λxs=>gd (xs.length<sizeLine) (.ok .non<|S.set n<|.lst<|xs++[a]):=rfl
@[simp]def P1 {b:Bool}:A.VJ (.bl b) S=some b:=rfl
@[simp]def Js {i:Int}:A.VJ (.int i) S=some (i != 0):=rfl
theorem C_{o:O}:(S++[o])[S.length]?=some o:=by simp
@[simp]def jW {xs:ae}:jF (S++[.lst xs]) S.length=some xs:=nH C_
theorem l7{o:O}{n:Nat}(h:jF S n=some xs):jF (S++[o]) n=some xs:=by
 have h':=jU h;exact nH<|by rw[bz (aJ.mp h').1];exact h'
def lW{n:Nat}(h:jF S n=some xs):n<S.length:=(aJ.mp<|jU h).1
def rJ{n:Nat}(h:n<S.length):jF (S.set n<|.lst ys) n=some ys:=nH<|br h
def vV{n:Nat}(h:n≠m):jF (S.set n<|.lst ys) m=jF S m:=by unfold jF;rw[bG h]
def Gw{xs:ae}{i:Int}{k:Nat}{x:A}(h:i=k)(hx:xs[k]?=some x):uy xs i=some x:=by rw[h];exact UK hx
def zP{n:Nat}{i:Int}{k:Nat}(h:i=k)(hk:k<n):ES n i=some k:=by
 subst h;unfold ES;rw[aS (),aS ()];simp
end
structure Kp (b:Nat->Prop)(S S':jH):Prop where
 len:S.length<=S'.length
 obj:∀(n:Nat) (o:O),¬b n->S[n]?=some o->S'[n]?=some o
meta abbrev k_:=Kp λ_=>False
def Kp.lst{b:Nat->Prop}(h:Kp b S S')(n:Nat)(xs:ae)(hb:¬b n)(e:jF S n=some xs):jF S' n=some xs:=nH<|h.obj n _ hb<|jU e
def Kp.dct{b:Nat->Prop}(h:Kp b S S')(n:Nat)(xs:List<|ag×A)(hb:¬b n)(e:jV S n=some xs):jV S' n=some xs:=pR<|h.obj n _ hb<|lO e
def Kp.refl{b:Nat->Prop}:Kp b S S:=⟨aL _,λ_ _ _ h=>h⟩
def Kp.trans{b:Nat->Prop}(h:Kp b S S1)(h':Kp b S1 S2):Kp b S S2:=⟨bM h.len h'.len,λn xs hb e=>h'.obj n xs hb<|h.obj n xs hb e⟩
def Cp{S:jH}{n:Nat}(e:S[n]?=some o):n<S.length:=(aJ.mp e).1
def Kp.lay{b:Nat->Prop}{o:O}(h:Kp b S S1):Kp b S (S1++[o]):=⟨bM h.len<|by simp,λn xs hb e=>by
 have:=h.obj n xs hb e;rw[bz<|Cp this];exact this⟩
def Kp.t6{b:Nat->Prop}{S S1:jH}(h:Kp b S S1)(hm:b m\/S.length<=m):Kp b S (S1.set m o):=⟨by rw[bT];exact h.len,λn xs hb e=>by
 have:m≠n:=λz=>by
  subst z
  rcases hm with z|z
  ·exact hb z
  ·exact absurd (Cp e) ()
 rw[bG this];exact h.obj n xs hb e⟩
def Kp.set{b:Nat->Prop}{S S1:jH}(h:Kp b S S1)(hm:b m\/S.length<=m):Kp b S (S1.set m<|.lst ys):=h.t6 hm
def Kp.mono{b c:Nat->Prop}{S:jH}(h:Kp b S S1)(hb:∀n,n<S.length->b n->c n):Kp c S S1:=⟨h.len,λn xs hc e=>h.obj n xs (λz=>hc<|hb n (Cp e) z) e⟩
def Kp.of0{b:Nat->Prop}(h:k_ S S1):Kp b S S1:=h.mono λ_ _ z=>z.elim
def Kp.old{b c:Nat->Prop}{S:jH}(h:Kp b S S1)(h':Kp c S1 S2)(hc:∀n,n<S.length->¬b n->¬c n):Kp b S S2:=⟨bM h.len h'.len,λn xs hb e=>h'.obj n xs (hc n (Cp e) hb)<|h.obj n xs hb e⟩
theorem zL{t:Te}{c:Sm}(Inv:ae->jH->Prop)(μ:ae->jH->Nat)(Post:RS->Prop)
  (h:∀τ S,Inv τ S->(∃S1,t τ S=.ok false S1/\Post (.nx τ S1))\/(∃S1,t τ S=.ok true S1/\((∃τ' S',c τ S1=.nx τ' S'/\Inv τ' S'/\μ τ' S'<μ τ S)\/(∃a S',c τ S1=.rt a S'/\Post (.rt a S'))))) :
  ∀n τ S,Inv τ S->μ τ S<n->Post (mF t c n τ S)
 | 0,_,_,_,hn=>absurd hn (d8 _)
 | n+1,τ,S,f,hn=>by
  unfold mF
  rcases h τ S f with⟨S1,e,q⟩|⟨S1,e,⟨τ',S',e2,d,g⟩|⟨a,S',e2,q⟩⟩
  ·rw[e];exact q
  ·rw[e];show Post (match c τ S1 with
    | .nx τ' S'=>mF t c n τ' S'
    | .ct τ' S'=>mF t c n τ' S'
    | .bk τ' S'=>.nx τ' S'
    | r=>r)
   rw[e2];exact zL Inv μ Post h n τ' S' d ()
  ·rw[e];show Post (match c τ S1 with
    | .nx τ' S'=>mF t c n τ' S'
    | .ct τ' S'=>mF t c n τ' S'
    | .bk τ' S'=>.nx τ' S'
    | r=>r)
   rw[e2];exact q
theorem Cu{s:Src}{g:Tg}{c:Sm}(Inv:Nat->ae->jH->Prop)(Post:RS->Prop)
  (step:∀i τ S,i<s.k->Inv i τ S->∃x τ1 S1,s.get i S=some x/\g x τ S=.ok τ1 S1/\((∃τ' S',c τ1 S1=.nx τ' S'/\Inv (i+1) τ' S')\/(∃a S',c τ1 S1=.rt a S'/\Post (.rt a S'))))
  (fin:∀τ S,Inv s.k τ S->s.fin S=true/\Post (.nx τ S)):∀k i τ S,k+i=s.k->Inv i τ S->Post (rK s g c k i τ S)
 | 0,i,τ,S,hk,hi=>by
  have:i=s.k:=()
  subst this;obtain⟨hf,q⟩:=fin τ S hi;unfold rK;rw[aS hf];exact q
 | k+1,i,τ,S,hk,hi=>by
  obtain⟨x,τ1,S1,f,hg,h⟩:=step i τ S () hi;unfold rK;rw[f];show Post (RS.of (g x τ S) λτ1 S1=>match c τ1 S1 with
   | .nx τ' S'=>rK s g c k (i+1) τ' S'
   | .ct τ' S'=>rK s g c k (i+1) τ' S'
   | .bk τ' S'=>.nx τ' S'
   | r=>r)
  rw[hg];show Post (match c τ1 S1 with
   | .nx τ' S'=>rK s g c k (i+1) τ' S'
   | .ct τ' S'=>rK s g c k (i+1) τ' S'
   | .bk τ' S'=>.nx τ' S'
   | r=>r)
  rcases h with⟨τ',S',e,d⟩|⟨a,S',e,q⟩
  ·rw[e];exact Cu Inv Post step fin k (i+1) τ' S' () d
  ·rw[e];exact q
def DC{lo hi:Int}{c:Sm}{src:Ic}{τ:ae}(hs:src τ S=.ok (sE lo hi) S1)(Inv:Nat->ae->jH->Prop)(Post:RS->Prop)(h0:Inv 0 τ S1)
  (step:∀(i:Nat) τ S,(i:Int)<hi-lo->Inv i τ S->(∃τ' S',c (τ.set j<|.int<|lo+i) S=.nx τ' S'/\Inv (i+1) τ' S')\/(∃a S',c (τ.set j<|.int<|lo+i) S=.rt a S'/\Post (.rt a S')))
  (fin:∀τ S,Inv (hi-lo).toNat τ S->Post (.nx τ S)):Post (mj src (ko j) c τ S):=by
 unfold mj;rw[hs];refine Cu (s:=sE lo hi) Inv Post (λi τ S d h=>?_) (λτ S h=>⟨rfl,fin τ S h⟩) _ 0 τ S1 rfl h0;have d:i<(hi-lo).toNat:=d;exact⟨.int<|lo+i,_,S,aS d,rfl,step i τ S (by omega) h⟩
def XZ{xs:ae}{g:Tg}{c:Sm}{src:Ic}(hs:src τ S=.ok (EZ xs) S1)(Inv:Nat->ae->jH->Prop)(Post:RS->Prop)(h0:Inv 0 τ S1)
  (step:∀(i:Nat) x τ S,xs[i]?=some x->Inv i τ S->∃τ1 S1,g (.tup [.int i,x]) τ S=.ok τ1 S1/\((∃τ' S',c τ1 S1=.nx τ' S'/\Inv (i+1) τ' S')\/(∃a S',c τ1 S1=.rt a S'/\Post (.rt a S'))))
  (fin:∀τ S,Inv xs.length τ S->Post (.nx τ S)):Post (mj src g c τ S):=by
 unfold mj;rw[hs];refine Cu (s:=EZ xs) Inv Post (λi τ S d h=>?_) (λτ S h=>⟨rfl,fin τ S h⟩) _ 0 τ S1 rfl h0;have d:i<xs.length:=d;obtain⟨τ1,S1,e,q⟩:=step i xs[i] τ S (aI d) h;exact⟨.tup [.int i,xs[i]],τ1,S1,by show(xs[i]?).map _=_;rw[aI d];rfl,e,q⟩
def oJ{n:Nat}{xs:ae}{g:Tg}{c:Sm}{src:Ic}(hs:src τ S=.ok (kW n xs.length) S1)(Inv:Nat->ae->jH->Prop)(Post:RS->Prop)(h0:Inv 0 τ S1)(hl:∀i τ S,Inv i τ S->jF S n=some xs)
  (step:∀(i:Nat) x τ S,xs[i]?=some x->Inv i τ S->∃τ1 S1,g x τ S=.ok τ1 S1/\((∃τ' S',c τ1 S1=.nx τ' S'/\Inv (i+1) τ' S')\/(∃a S',c τ1 S1=.rt a S'/\Post (.rt a S'))))
  (fin:∀τ S,Inv xs.length τ S->Post (.nx τ S)):Post (mj src g c τ S):=by
 unfold mj;rw[hs];refine Cu (s:=kW n xs.length) Inv Post (λi τ S d h=>?_) (λτ S h=>⟨?_,fin τ S h⟩) _ 0 τ S1 rfl h0
 ·have d:i<xs.length:=d;obtain⟨τ1,S1,e,q⟩:=step i xs[i] τ S (aI d) h;exact⟨xs[i],τ1,S1,by show(jF S n).bind _=_;rw[hl i τ S h];exact aI d,e,q⟩
 ·show(match jF S n with
   | some ys=>decide (ys.length<=xs.length)
   | none=>false)=true
  rw[hl _ τ S h];exact bg<|aL _
@[simp]def xG {c:Ex}{τ:ae}{S S1:jH}{j:Int}(h:c τ S=.ok (.int j) S1)(hb:bnd j):rF c τ S=.ok (sE 0 j) S1:=by
 unfold rF;rw[h];exact oY hb
def EO{c d:Ex}{i j:Int}(h:c τ S=.ok (.int i) S1)(h':d τ S1=.ok (.int j) S2)(hb:bnd i)(hb':bnd j):yx c d τ S=.ok (sE i j) S2:=by
 unfold yx;rw[h];show(d τ S1).bind _=_;rw[h'];exact oY ⟨hb,hb'⟩
def lY{c:Ex}{n:Nat}{xs:ae}(h:c τ S=.ok (.ref n) S1)(hl:jF S1 n=some xs):lV c τ S=.ok (kW n xs.length) S1:=by
 unfold lV;rw[h];show opt (jF S1 n) _=_;rw[hl];rfl
def V5{c:Ex}(h:c τ S=.ok (.tup xs) S1):Uh c τ S=.ok (EZ xs) S1:=by unfold Uh;rw[h];rfl
theorem xC{s:Src}{g:Tg}{t:Te}{e:Ex}{P:jH->Prop}{T:ae->Prop}(it:Nat->A)(p:Nat->Bool)(f:Nat->A)
  (hget:∀i S,i<s.k->P S->s.get i S=some (it i)) (hfin:∀S,P S->s.fin S=true)
  (step:∀i τ S,i<s.k->T τ->P S->∃τ1 S1 S2,g (it i) τ S=.ok τ1 S1/\t τ1 S1=.ok (p i) S2/\T τ1/\(p i=false->P S2)/\(p i=true->∃S3,e τ1 S2=.ok (f i) S3/\P S3)) :
  ∀k i τ S,k+i=s.k->T τ->P S->∃S',nB s g t e k i τ S=.ok (((List.range' i k).filter p).map f) S'/\P S'
 | 0,i,τ,S,hk,hT,hP=>⟨S,by unfold nB;rw[aS<|hfin S hP];rfl,hP⟩
 | k+1,i,τ,S,hk,hT,hP=>by
  obtain⟨τ1,S1,S2,hg,B,d,q,m⟩:=step i τ S (by omega) hT hP;unfold nB;rw[hget i S (by omega) hP,jS,hg,R.kD,B,R.kD,List.range'_succ,dQ]
  cases hp:p i with
  | false=>
   obtain⟨S',h1,h2⟩:=xC it p f hget hfin step k (i+1) τ1 S2 (by omega) d<|q hp;exact⟨S',by simpa using h1,h2⟩
  | true=>
   obtain⟨S3,z,j⟩:=m hp;obtain⟨S',h1,h2⟩:=xC it p f hget hfin step k (i+1) τ1 S3 (by omega) d j;refine⟨S',?_,h2⟩
   skip
   rw[z,R.kD,h1];rfl
def xS{s:Src}{src:Ic}{t:Te}{e:Ex}{S1:jH}(hs:src τ S=.ok s S1)(it:Nat->A)(p:Nat->Bool)(f:Nat->A)(hget:∀i,i<s.k->s.get i S1=some (it i))(hfin:s.fin S1=true)
  (ht:∀i,i<s.k->t (it i::k9 cap τ) S1=.ok (p i) S1) (he:∀i,i<s.k->p i=true->e (it i::k9 cap τ) S1=.ok (f i) S1) (hl:s.k<=16777216) :
  kO (none::cap) src (ko 0) t e τ S=.ok (.ref S1.length) (S1++[.lst<|((List.range s.k).filter p).map f]):=by
 unfold kO;rw[hs,R.mH];obtain⟨m,h1,h2⟩:=xC (s:=s) (g:=ko 0) (t:=t) (e:=e) (P:=λS=>S=S1) (T:=λd=>∃y,d=y::k9 cap τ) it p f (λi S j h=>by subst h;exact hget i j) (λS h=>by subst h;exact hfin)
  (λi d S j ⟨y,hy⟩ h=>by
   subst h hy;exact⟨it i::k9 cap τ,S,S,rfl,ht i j,⟨_,rfl⟩,λ_=>rfl,λhp=>⟨S,he i j hp,rfl⟩⟩) s.k 0 (k9 (none::cap) τ) S1 rfl ⟨_,rfl⟩ rfl
 subst h2;rw[h1,R.kD,fV];refine mz ?_;rw[aH];refine bM (dN _ _) ?_;rw[List.length_range'];exact hl
def nu{α β:Type}(xs:List α)(p:α->Bool)(f:α->β):∀(d:α) ,(((List.range xs.length).filter λi=>p<|xs.getD i d).map λi=>f<|xs.getD i d)=(xs.filter p).map f:=by
 intro d
 induction xs with
 | nil=>rfl
 | cons x xs g=>
  rw[bB,List.range_succ_eq_map,dQ,dQ];have e:((List.filter (λi=>p<|(x::xs).getD i d)<|List.map Nat.succ<|List.range xs.length).map λi=>f<|(x::xs).getD i d)=(xs.filter p).map f:=by
   rw[gB,bh];rw[<- g];rfl
  show List.map _ (if p x=true then _ else _)=List.map f (if p x=true then _ else _);by_cases hp:p x=true
  ·rw[aS hp,aS hp,bH,bH,e];rfl
  ·rw[aQ hp,aQ hp,e]
def NQ{xs:ae}{src:Ic}{t:Te}{e:Ex}{S1:jH}(hs:src τ S=.ok (p9 xs) S1)(p:A->Bool)(f:A->A)
  (ht:∀x∈xs,t (x::k9 cap τ) S1=.ok (p x) S1) (he:∀x∈xs,p x=true->e (x::k9 cap τ) S1=.ok (f x) S1) (hl:xs.length<=16777216) :
  kO (none::cap) src (ko 0) t e τ S=.ok (.ref S1.length) (S1++[.lst<|(xs.filter p).map f]):=by
 have g:∀i,i<xs.length->xs.getD i .unb∈xs:=λi d=>by
  rw[aK,aI d];exact dD d
 rw[xS hs (λi=>xs.getD i .unb) (λi=>p<|xs.getD i .unb) (λi=>f<|xs.getD i .unb) (λi d=>by
  have d:i<xs.length:=d;show xs[i]?=_;rw[aK,aI d];rfl) rfl (λi d=>ht _<|g i d) (λi d=>he _<|g i d) hl]
 have:=nu xs p f .unb;show R.ok _ (S1++[O.lst<|((List.range xs.length).filter _).map _])=_;rw[this]
def Pc{lo hi:Int}{src:Ic}{t:Te}{e:Ex}{S1:jH}(hs:src τ S=.ok (sE lo hi) S1)(p:Int->Bool)(f:Int->A)
  (ht:∀k,lo<=k->k<hi->t (.int k::k9 cap τ) S1=.ok (p k) S1) (he:∀k,lo<=k->k<hi->p k=true->e (.int k::k9 cap τ) S1=.ok (f k) S1) (hl:(hi-lo).toNat<=16777216) :
  kO (none::cap) src (ko 0) t e τ S=.ok (.ref S1.length) (S1++[.lst<|((l8 lo hi).filter p).map f]):=by
 rw[xS hs (λi=>.int<|lo+i) (λi=>p<|lo+i) (λi=>f<|lo+i) (λi d=>aS d) rfl (λi d=>ht _ () (by have:i<(hi-lo).toNat:=d;lia)) (λi d=>he _ () (by have:i<(hi-lo).toNat:=d;lia)) hl];unfold l8;rw[gB,bh];rfl
@[simp]def Qo {cap:List<|bj}{τ:ae}:k9 (none::cap) τ=.unb::k9 cap τ:=rfl
@[simp]def QG {cap:List<|bj}{τ:ae}{j:Nat}:k9 (some j::cap) τ=τ.getD j .unb::k9 cap τ:=rfl
@[simp]def EJ {τ:ae}:k9 [] τ=[]:=rfl
theorem yy{x:A}:uy (x::xs) 0=some x:=Gw (k:=0) rfl rfl
def OB{x:A}:uy (x::y::xs) 1=some y:=Gw (k:=1) rfl rfl
def JW{ns:ag}{i:Int}{k:Nat}{x:Int}(h:i=k)(hx:ns[k]?=some x):uy (ns.map A.int) i=some (.int x):=Gw h<|by rw[aP,hx];rfl
def uN{j:Int}(h:-4611686018427387904<=j)(h':j<4611686018427387904):bnd j:=⟨(),()⟩
def Qy{i j:Int}(h1:-1000000<=i)(h2:i<=1000000)(h3:-1000000<=j)(h4:j<=1000000)(h5:j-i<=1000):BE i j:=⟨⟨(),(),(),()⟩,()⟩
theorem ints_map:∀(ns:ag),A.ints (ns.map .int)=some ns
 | []=>rfl
 | n::ns=>by show(A.ints<|ns.map .int).map (n::·)=_;rw[ints_map ns];rfl
theorem BR{n:Nat}:∀(xs ys:ag),yC (DJ S<|n+1) (xs.map .int) (ys.map .int)=some (decide<|xs=ys)
 | [],[]=>rfl
 | [],_::_=>rfl
 | _::_,[]=>rfl
 | x::xs,y::ys=>by
  skip
  skip
  show Option.map _ (yC (DJ S<|n+1) (xs.map .int)<|ys.map .int)=_;rw[BR xs ys]
  skip
  by_cases h1:x=y<;>by_cases h2:xs=ys<;>simp[h1,h2]
@[simp]def VL {S:jH}{x y:Bool}:yQ false (.bl x) (.bl y) S=.ok (.bl<|x == y) S:=rfl
@[simp]def Vj {S:jH}{x y:Bool}:yQ true (.bl x) (.bl y) S=.ok (.bl<|!(x == y)) S:=rfl
@[simp]def U0 {S:jH}{x y:Int}:yQ false (.int x) (.int y) S=.ok (.bl<|x == y) S:=rfl
@[simp]def Vs {S:jH}{x y:Int}:yQ true (.int x) (.int y) S=.ok (.bl<|!(x == y)) S:=rfl
@[simp]def JM {S:jH}:U9 false .non .non S=.ok (.bl true) S:=rfl
@[simp]def Ih {S:jH}{xs:ae}:U9 false (.tup xs) .non S=.ok (.bl false) S:=rfl
@[simp]def JE {S:jH}{n:Nat}:U9 false (.ref n) .non S=.ok (.bl false) S:=rfl
@[simp]def Fx {S:jH}:U9 true .non .non S=.ok (.bl false) S:=rfl
@[simp]def D9 {S:jH}{xs:ae}:U9 true (.tup xs) .non S=.ok (.bl true) S:=rfl
@[simp]def EU {S:jH}{n:Nat}:U9 true (.ref n) .non S=.ok (.bl true) S:=rfl
@[simp]def ID {S:jH}{x:A}{c:String}:Uo x (.ty c) S=opt (x.kd S) λk=>opt (Lw k c) λb=>.ok (.bl b) S:=rfl
@[simp]def VU {S:jH}{b:Bool}:A.kd (.bl b) S=some .bl:=rfl
@[simp]def QU {S:jH}{b:Int}:A.kd (.int b) S=some .int:=rfl
@[simp]def QN {S:jH}{b:ae}:A.kd (.tup b) S=some .tup:=rfl
@[simp]def Ql {S:jH}:A.kd .non S=some .non:=rfl
@[simp]def O8 {S:jH}{b:Str}:A.kd (.str b) S=some .str:=rfl
@[simp]def PZ {S:jH}{n:Nat}:A.kd (.ref n) S=(jF S n).map λ_=>.lst:=rfl
@[simp]def Qt {S:jH}:newL [] S=.ok (.ref S.length) (S++[.lst []]):=mz<|by simp
@[simp]def QB {S:jH}{x0:A}:newL [x0] S=.ok (.ref S.length) (S++[.lst [x0]]):=mz<|by simp
@[simp]def N2 {S:jH}{x0 x1:A}:newL [x0,x1] S=.ok (.ref S.length) (S++[.lst [x0,x1]]):=mz<|by simp
@[simp]def Nk {S:jH}{x0 x1 x2:A}:newL [x0,x1,x2] S=.ok (.ref S.length) (S++[.lst [x0,x1,x2]]):=mz<|by simp
@[simp]def NU {S:jH}{x0 x1 x2 x3:A}:newL [x0,x1,x2,x3] S=.ok (.ref S.length) (S++[.lst [x0,x1,x2,x3]]):=mz<|by simp
@[simp]def MQ {S:jH}{x0 x1 x2 x3 x4:A}:newL [x0,x1,x2,x3,x4] S=.ok (.ref S.length) (S++[.lst [x0,x1,x2,x3,x4]]):=mz<|by simp
@[simp]def Q8 {S:jH}{x0 x1 x2 x3 x4 x5:A}:newL [x0,x1,x2,x3,x4,x5] S=.ok (.ref S.length) (S++[.lst [x0,x1,x2,x3,x4,x5]]):=mz<|by simp
@[simp]def NI {S:jH}{x0 x1 x2 x3 x4 x5 x6:A}:newL [x0,x1,x2,x3,x4,x5,x6] S=.ok (.ref S.length) (S++[.lst [x0,x1,x2,x3,x4,x5,x6]]):=mz<|by simp
@[simp]def QH {S:jH}{x0 x1 x2 x3 x4 x5 x6 x7:A}:newL [x0,x1,x2,x3,x4,x5,x6,x7] S=.ok (.ref S.length) (S++[.lst [x0,x1,x2,x3,x4,x5,x6,x7]]):=mz<|by simp
@[simp]def Mx {S:jH}{x0 x1 x2 x3 x4 x5 x6 x7 x8:A}:newL [x0,x1,x2,x3,x4,x5,x6,x7,x8] S=.ok (.ref S.length) (S++[.lst [x0,x1,x2,x3,x4,x5,x6,x7,x8]]):=mz<|by simp
@[simp]def JI {S:jH}{x0 x1 x2 x3 x4 x5 x6 x7 x8 x9:A}:newL [x0,x1,x2,x3,x4,x5,x6,x7,x8,x9] S=.ok (.ref S.length) (S++[.lst [x0,x1,x2,x3,x4,x5,x6,x7,x8,x9]]):=mz<|by simp
theorem rZ{α:Type}{n:Nat}{r:R α}(h:n<=16777216):gd (n<=sizeLine) r=r:=oY<|by rw[eB];exact h
def uh{α:Type}{n:Nat}{r:R α}(h:n<16777216):gd (n<sizeLine) r=r:=oY<|by rw[eB];exact h
def VO {x:A}{xs:ae}:(x::xs).getD 0 .unb=x:=rfl
def Vo {x:A}{xs:ae}{n:Nat}:(x::xs).getD (n+1) .unb=xs.getD n .unb:=rfl
def aat {x y:A}{xs:ae}:(x::xs).set 0 y=y::xs:=rfl
def sets {x y:A}{xs:ae}{n:Nat}:(x::xs).set (n+1) y=x::xs.set n y:=rfl
def rep0 {x:A}:List.replicate 0 x=[]:=rfl
def reps {x:A}{n:Nat}:List.replicate (n+1) x=x::List.replicate n x:=rfl
def ZG {x:A}{xs ys:ae}:(x::xs)++ys=x::(xs++ys):=rfl
def aac {ys:ae}:[]++ys=ys:=rfl
def MC{S:jH}{n:Nat}{xs ys:ae}(h:jF S n=some xs)(h':jF S m=some ys)(hl:xs.length+ys.length<=16777216):pT (.ref n) (.ref m) S=.ok (.ref S.length) (S++[.lst<|xs++ys]):=by
 show opt (jF S n) _=_;rw[h,jS,h',jS];exact oY<|by rw[eB];exact hl
abbrev uV (x:A)(S:jH):R A:=bif x.oX then .no else .ok x S
def Ms {xs:ae}{S:jH}:uV (.tup xs) S=.ok (.tup xs) S:=rfl
def MJ {xs:ae}{S:jH}:uV (.frz xs) S=.ok (.frz xs) S:=rfl
def Oi {i:Int}{S:jH}:uV (.int i) S=.ok (.int i) S:=rfl
def VR {b:Bool}{S:jH}:uV (.bl b) S=.ok (.bl b) S:=rfl
def My {s:Str}{S:jH}:uV (.str s) S=.ok (.str s) S:=rfl
def PC {n:Nat}{S:jH}:uV (.ref n) S=.ok (.ref n) S:=rfl
def OQ  {S:jH}:uV (.non) S=.ok (.non) S:=rfl
def MH {i j:Int}{S:jH}:uV (.rng i j) S=.ok (.rng i j) S:=rfl
def P9 {s:Str}{S:jH}:uV (.exn s) S=.ok (.exn s) S:=rfl
def eV0 {x0:A}{xs:ae}{S:jH}:jD 0 (x0::xs) S=uV x0 S:=qv
def eV1 {x0 x1:A}{xs:ae}{S:jH}:jD 1 (x0::x1::xs) S=uV x1 S:=qv
def eV2 {x0 x1 x2:A}{xs:ae}{S:jH}:jD 2 (x0::x1::x2::xs) S=uV x2 S:=qv
def eV3 {x0 x1 x2 x3:A}{xs:ae}{S:jH}:jD 3 (x0::x1::x2::x3::xs) S=uV x3 S:=qv
def eV4 {x0 x1 x2 x3 x4:A}{xs:ae}{S:jH}:jD 4 (x0::x1::x2::x3::x4::xs) S=uV x4 S:=qv
def eV5 {x0 x1 x2 x3 x4 x5:A}{xs:ae}{S:jH}:jD 5 (x0::x1::x2::x3::x4::x5::xs) S=uV x5 S:=qv
def eV6 {x0 x1 x2 x3 x4 x5 x6:A}{xs:ae}{S:jH}:jD 6 (x0::x1::x2::x3::x4::x5::x6::xs) S=uV x6 S:=qv
def eV7 {x0 x1 x2 x3 x4 x5 x6 x7:A}{xs:ae}{S:jH}:jD 7 (x0::x1::x2::x3::x4::x5::x6::x7::xs) S=uV x7 S:=qv
def eV8 {x0 x1 x2 x3 x4 x5 x6 x7 x8:A}{xs:ae}{S:jH}:jD 8 (x0::x1::x2::x3::x4::x5::x6::x7::x8::xs) S=uV x8 S:=qv
def gN0 {a x0:A}{xs:ae}{S:jH}:ko 0 a (x0::xs) S=.ok (a::xs) S:=rfl
def gN1 {a x0 x1:A}{xs:ae}{S:jH}:ko 1 a (x0::x1::xs) S=.ok (x0::a::xs) S:=rfl
def gN2 {a x0 x1 x2:A}{xs:ae}{S:jH}:ko 2 a (x0::x1::x2::xs) S=.ok (x0::x1::a::xs) S:=rfl
def gN3 {a x0 x1 x2 x3:A}{xs:ae}{S:jH}:ko 3 a (x0::x1::x2::x3::xs) S=.ok (x0::x1::x2::a::xs) S:=rfl
def gN4 {a x0 x1 x2 x3 x4:A}{xs:ae}{S:jH}:ko 4 a (x0::x1::x2::x3::x4::xs) S=.ok (x0::x1::x2::x3::a::xs) S:=rfl
def gN5 {a x0 x1 x2 x3 x4 x5:A}{xs:ae}{S:jH}:ko 5 a (x0::x1::x2::x3::x4::x5::xs) S=.ok (x0::x1::x2::x3::x4::a::xs) S:=rfl
def gN6 {a x0 x1 x2 x3 x4 x5 x6:A}{xs:ae}{S:jH}:ko 6 a (x0::x1::x2::x3::x4::x5::x6::xs) S=.ok (x0::x1::x2::x3::x4::x5::a::xs) S:=rfl
def gN7 {a x0 x1 x2 x3 x4 x5 x6 x7:A}{xs:ae}{S:jH}:ko 7 a (x0::x1::x2::x3::x4::x5::x6::x7::xs) S=.ok (x0::x1::x2::x3::x4::x5::x6::a::xs) S:=rfl
def gN8 {a x0 x1 x2 x3 x4 x5 x6 x7 x8:A}{xs:ae}{S:jH}:ko 8 a (x0::x1::x2::x3::x4::x5::x6::x7::x8::xs) S=.ok (x0::x1::x2::x3::x4::x5::x6::x7::a::xs) S:=rfl
def kj:type_of% (anI @R.mH<|anI @R.IE<|anI @R.kD<|anI @RS.of_ok<|anI @RS.Vk<|anI @jS<|anI @HU<|anI @eV0<|anI @eV1<|anI @eV2<|anI @eV3<|anI @eV4<|anI @eV5<|anI @eV6<|anI @eV7<|anI @eV8<|anI @Ms<|anI @MJ<|anI @Oi<|anI @VR<|anI @My<|anI @PC<|anI @OQ<|anI @MH<|anI @P9<|anI @Kq<|anI @Ky<|anI @Ig<|anI @QL<|anI @HP<|anI @Hu<|anI @Kc<|anI @Ji<|anI @Io<|anI @Vt<|anI @Jw<|anI @Pr<|anI @JK<|anI @U_<|anI @QZ<|anI @IW<|anI @Jr<|anI @Ot<|anI @HS<|anI @Ik<|anI @Ka<|anI @Oq<|anI @Py<|anI @I0<|anI @NV<|anI @FE<|anI @HW<|anI @Ny<|anI @Hx<|anI @Fi<|anI @IV<|anI @JV<|anI @Fe<|anI @NH<|anI @OE<|anI @Vr<|anI @Vw<|anI @Ro<|anI @E8<|anI @IQ<|anI @ET<|anI @Qn<|anI @Ij<|anI @lst?_ref<|anI @RS.Nj<|anI @RS.MP<|anI @RS.Ov<|anI @RS.NS<|anI @RS.Q0<|anI @JC<|anI @JA<|anI @Bv<|anI @Fd<|anI @Eu<|anI @J0<|anI @Em<|anI @MN<|anI @II<|anI @gN0<|anI @gN1<|anI @gN2<|anI @gN3<|anI @gN4<|anI @gN5<|anI @gN6<|anI @gN7<|anI @gN8<|anI @Pe<|anI @Oj<|anI @QJ<|anI @M_<|anI @MW<|anI @IS<|anI @I_<|anI @Fj<|anI @RS.OS<|anI @RS.PM<|anI @RS.PX<|anI @Ou<|anI @Qc<|anI @N_<|anI @VE<|anI @VI<|anI @Ve<|anI @Vx<|anI @U8<|anI @M0<|anI @Nd<|anI @QO<|anI @MR<|anI @Rb<|anI @QK<|anI @Jd<|anI @Ir<|anI @IA<|anI @JD<|anI @B3<|anI @VG<|anI @Vb<|anI @UU<|anI @NZ<|anI @Oe<|anI @JB<|anI @Kx<|anI @J5<|anI @Ed<|anI @EB<|anI @Ol<|anI @OW<|anI @VM<|anI @zE<|anI @P1<|anI @Js<|anI @jW<|anI @Qo<|anI @QG<|anI @EJ<|anI @VL<|anI @Vj<|anI @U0<|anI @Vs<|anI @JM<|anI @Ih<|anI @JE<|anI @Fx<|anI @D9<|anI @EU<|anI @ID<|anI @VU<|anI @QU<|anI @QN<|anI @Ql<|anI @O8<|anI @PZ<|anI @Qt<|anI @QB<|anI @N2<|anI @Nk<|anI @NU<|anI @MQ<|anI @Q8<|anI @NI<|anI @QH<|anI @Mx<|anI @JI<|anI @VO<|anI @Vo<|anI @aat<|anI @sets<|anI @rep0<|anI @reps<|anI @ZG<|anI @aac<|anI @xF<|anI @Il<|anI @Og<|anI @PV<|anI @Vy<|anI @VS<|anI @Qj<|anI @MT<|anI @Br<|anI @Ef<|anI @Rl<|anI @Hv<|anI @Qp<|anI @JX<|anI @Qm<|anI @Vg<|anI @UX<|anI @J6<|anI @IC<|anI @Qd<|anI @E_<|anI @JT<|anI @MZ<|anI @Ow<|anI @NG<|anI @Qk<|@Qs):=anI @R.mH<|anI @R.IE<|anI @R.kD<|anI @RS.of_ok<|anI @RS.Vk<|anI @jS<|anI @HU<|anI @eV0<|anI @eV1<|anI @eV2<|anI @eV3<|anI @eV4<|anI @eV5<|anI @eV6<|anI @eV7<|anI @eV8<|anI @Ms<|anI @MJ<|anI @Oi<|anI @VR<|anI @My<|anI @PC<|anI @OQ<|anI @MH<|anI @P9<|anI @Kq<|anI @Ky<|anI @Ig<|anI @QL<|anI @HP<|anI @Hu<|anI @Kc<|anI @Ji<|anI @Io<|anI @Vt<|anI @Jw<|anI @Pr<|anI @JK<|anI @U_<|anI @QZ<|anI @IW<|anI @Jr<|anI @Ot<|anI @HS<|anI @Ik<|anI @Ka<|anI @Oq<|anI @Py<|anI @I0<|anI @NV<|anI @FE<|anI @HW<|anI @Ny<|anI @Hx<|anI @Fi<|anI @IV<|anI @JV<|anI @Fe<|anI @NH<|anI @OE<|anI @Vr<|anI @Vw<|anI @Ro<|anI @E8<|anI @IQ<|anI @ET<|anI @Qn<|anI @Ij<|anI @lst?_ref<|anI @RS.Nj<|anI @RS.MP<|anI @RS.Ov<|anI @RS.NS<|anI @RS.Q0<|anI @JC<|anI @JA<|anI @Bv<|anI @Fd<|anI @Eu<|anI @J0<|anI @Em<|anI @MN<|anI @II<|anI @gN0<|anI @gN1<|anI @gN2<|anI @gN3<|anI @gN4<|anI @gN5<|anI @gN6<|anI @gN7<|anI @gN8<|anI @Pe<|anI @Oj<|anI @QJ<|anI @M_<|anI @MW<|anI @IS<|anI @I_<|anI @Fj<|anI @RS.OS<|anI @RS.PM<|anI @RS.PX<|anI @Ou<|anI @Qc<|anI @N_<|anI @VE<|anI @VI<|anI @Ve<|anI @Vx<|anI @U8<|anI @M0<|anI @Nd<|anI @QO<|anI @MR<|anI @Rb<|anI @QK<|anI @Jd<|anI @Ir<|anI @IA<|anI @JD<|anI @B3<|anI @VG<|anI @Vb<|anI @UU<|anI @NZ<|anI @Oe<|anI @JB<|anI @Kx<|anI @J5<|anI @Ed<|anI @EB<|anI @Ol<|anI @OW<|anI @VM<|anI @zE<|anI @P1<|anI @Js<|anI @jW<|anI @Qo<|anI @QG<|anI @EJ<|anI @VL<|anI @Vj<|anI @U0<|anI @Vs<|anI @JM<|anI @Ih<|anI @JE<|anI @Fx<|anI @D9<|anI @EU<|anI @ID<|anI @VU<|anI @QU<|anI @QN<|anI @Ql<|anI @O8<|anI @PZ<|anI @Qt<|anI @QB<|anI @N2<|anI @Nk<|anI @NU<|anI @MQ<|anI @Q8<|anI @NI<|anI @QH<|anI @Mx<|anI @JI<|anI @VO<|anI @Vo<|anI @aat<|anI @sets<|anI @rep0<|anI @reps<|anI @ZG<|anI @aac<|anI @xF<|anI @Il<|anI @Og<|anI @PV<|anI @Vy<|anI @VS<|anI @Qj<|anI @MT<|anI @Br<|anI @Ef<|anI @Rl<|anI @Hv<|anI @Qp<|anI @JX<|anI @Qm<|anI @Vg<|anI @UX<|anI @J6<|anI @IC<|anI @Qd<|anI @E_<|anI @JT<|anI @MZ<|anI @Ow<|anI @NG<|anI @Qk<|@Qs
def bools:(∀b:Bool,cond false b b=b)/\(∀(α:Type) (x y:α),cond false x y=y)/\(∀(α:Type) (x y:α),cond true x y=x):=⟨λ_=>rfl,λ_ _ _=>rfl,λ_ _ _=>rfl⟩
def lE:(∀(x:Str) (xs:ar),(x::xs).length=xs.length+1)/\([]:ar).length=0/\(∀(x:A) (xs:ae),(x::xs).length=xs.length+1)/\([]:ae).length=0:=⟨λ_ _=>rfl,rfl,λ_ _=>rfl,rfl⟩
section
variable {τ:ae}{S:jH}
def HL {f:ae->jH->R A}{d:rj}:oB f d τ S=(d τ S).bind f:=rfl
abbrev kRz (c:Str):Unit->jH->RS:=λ_ S1=>.ex c S1
def Rf {c:Str}{u:Unit}:kRz c u S=.ex c S:=rfl
def BG {c:Str}{ps:List<|Str ⊕ Ex}:ye c ps τ S=RS.of (OV ps τ S) (kRz c):=rfl
def HG:OV [] τ S=.ok Unit.unit S:=rfl
def Ii {x:Str}{ps:List<|Str ⊕ Ex}:OV (.inl x::ps) τ S=OV ps τ S:=rfl
abbrev kFs (ps:List<|Str ⊕ Ex)(τ:ae):A->jH->R Unit:=λv S1=>match v with
 | .int i=>gd (i.natAbs.log2<64) (OV ps τ S1)
 | _=>.no
def HV {e:Ex}{ps:List<|Str ⊕ Ex}:OV (.inr e::ps) τ S=(e τ S).bind (kFs ps τ):=rfl
def Zm{n:Nat}(h:n<18446744073709551616):kFs ps τ (.int (n:Int)) S=OV ps τ S:=by
 skip
 refine E9 ?_;rw[Int.natAbs_natCast];by_cases z:n=0
 ·subst z;decide
 ·exact(Nat.log2_lt z).mpr h
abbrev RS.try (i n:Nat)(cs:ar)(d:Sm):RS->RS
 | .ex x S1=>if x∈cs then Rv i (d ((List.replicate n .unb).set i<|.exn x) S1)else .no
 | r=>r
def Jf {i n:Nat}{cs:ar}{c d:Sm}:FL i n cs c d τ S=RS.try i n cs d (c τ S):=by
 unfold FL RS.try;cases c τ S<;>rfl
def OI {i n:Nat}{cs:ar}{d:Sm}:RS.try i n cs d (.nx τ S)=.nx τ S:=rfl
def OU {i n:Nat}{cs:ar}{d:Sm}{a:A}:RS.try i n cs d (.rt a S)=.rt a S:=rfl
def MM {i n:Nat}{x:Str}{cs:ar}{d:Sm}:RS.try i n (x::cs) d (.ex x S)=Rv i (d ((List.replicate n .unb).set i<|.exn x) S):=aS<|.head _
def Nm {i:Nat}{a:A}:Rv i (.rt a S)=.rt a S:=rfl
def OF {i:Nat}:Rv i (.nx τ S)=.nx (τ.set i .unb) S:=rfl
abbrev Tz (f:Str->bi):A->jH->R A:=λv S1=>match v with
 | .exn x=>opt (f x) λb=>.ok (.bl b) S1
 | _=>.no
def HD {f:Str->bi}{c:Ex}:yg f c τ S=(c τ S).bind (Tz f):=rfl
def Qq {x:Str}{b:Bool}{tb:List<|Str×Bool}:Tz (Gh ((x,b)::tb)) (.exn x) S=.ok (.bl b) S:=by
 show opt (List.lookup x ((x,b)::tb)) _=_;rw[cT,cu];rfl
abbrev R.Mm {α β:Type}(r:R α)(f:α->jH->R β):R β:=match r with
 | .ok a S=>f a S
 | _=>.no
def Fc {α β:Type}{a:α}{f:α->jH->R β}:R.Mm (.ok a S) f=f a S:=rfl
def IP {f:ae->jH->R A}{d:rj}:Z1 f d τ S=R.Mm (d τ S) f:=by unfold Z1 R.Mm;cases d τ S<;>rfl
abbrev RS.ofK {α:Type}(r:R α)(f:α->jH->RS):RS:=match r with
 | .ok a S=>f a S
 | _=>.no
def QA {α:Type}{a:α}{f:α->jH->RS}:RS.ofK (.ok a S) f=f a S:=rfl
def HY {t:Te}{c d:Sm}:ZC t c d τ S=RS.ofK (t τ S) (kIf c d τ):=by
 unfold ZC RS.ofK
 cases t τ S with
 | ok b S1=>cases b<;>rfl
 | ex _ _=>rfl
 | no=>rfl
abbrev RS.ML (i:Nat)(cs:ar)(d:Sm)(τ:ae):RS->RS
 | .ex x S1=>if x∈cs then Rv i (d (τ.set i<|.exn x) S1)else .no
 | r=>r
def EF {i:Nat}{cs:ar}{c d:Sm}:Vn i cs c d τ S=RS.ML i cs d τ (c τ S):=by
 unfold Vn RS.ML;cases c τ S<;>rfl
def Km {i:Nat}{cs:ar}{d:Sm}{τ':ae}:RS.ML i cs d τ (.nx τ' S)=.nx τ' S:=rfl
def HK {i:Nat}{cs:ar}{d:Sm}{a:A}:RS.ML i cs d τ (.rt a S)=.rt a S:=rfl
def HH {i:Nat}{x:Str}{cs:ar}{d:Sm}:RS.ML i (x::cs) d τ (.ex x S)=Rv i (d (τ.set i<|.exn x) S):=aS<|.head _
def FT:A.Me []=some []:=rfl
def Bk {b:Bool}{xs:ae}:A.Me (.bl b::xs)=(A.Me xs).map (b::·):=rfl
end
def lU:type_of% (anI @HL<|anI @BG<|anI @Rf<|anI @HG<|anI @Ii<|anI @HV<|anI @Jf<|anI @OI<|anI @OU<|anI @MM<|anI @Nm<|anI @OF<|anI @HD<|anI @Qq<|anI @FT<|anI @Bk<|anI @Fc<|anI @IP<|anI @QA<|anI @HY<|anI @EF<|anI @Km<|anI @HK<|anI @HH<|trivial):=anI @HL<|anI @BG<|anI @Rf<|anI @HG<|anI @Ii<|anI @HV<|anI @Jf<|anI @OI<|anI @OU<|anI @MM<|anI @Nm<|anI @OF<|anI @HD<|anI @Qq<|anI @FT<|anI @Bk<|anI @Fc<|anI @IP<|anI @QA<|anI @HY<|anI @EF<|anI @Km<|anI @HK<|anI @HH<|trivial
end Am
namespace Am
open PySem PySem.Spec PyProof.Rows L2
abbrev Df (K:au)(x:Str)(st:aF):Prop:=∃(f:ak) (fd:FuncData),PySem.W.nsIn K mainGlobals x=some (some<|.ref f)/\Fun K x x st f fd
inductive En (P:aj) (w:ah) (K:au) (mg:Str->bd) (base:aq):Prop
 | mk (h:aq) (X:K.In h) (G:h.Ns mainGlobals mg)
section
variable {P:aj}{w:ah}{K:au}{mg:Str->bd}{base:aq}{x:Str}{st:aF}{ps:ar}{k:Nat}{F:ae->jH->R A}
def En.at(E:En P w K mg base){f:ak}(h:PySem.W.nsIn K mainGlobals x=some (some<|.ref f)):mg x=some (.ref f):=by
 obtain⟨_,X,G⟩:=E;exact cW X G h
def Df.of{f:ak}{kV pm ct:af}(a:PySem.W.nsIn K mainGlobals x=some (some<|.ref f))(l:K.lookup f=some ⟨oc,od,.func<|PySem.W.fnOf x x (vF st) (nN st) (jN st) .none kV doc pm an cdv ct,osl⟩)(c:PySem.W.codeIn K cdv x=true)(k:PySem.W.keepIn K (.ref f)=true):Df K x st:=⟨f,_,a,YA l c k⟩
meta abbrev Bi (x:Str)(st:aF)(ps:ar):Prop:=∀us:ba,us.length=ps.length->∀(kV d j:af) (g:Option ak) (f ct:af),bindArgs (PySem.W.fnOf x x (vF st) (nN st) (jN st) .none kV d j g f ct) ⟨us,[]⟩=pure (ps.zip us)
def Df.get(d:Df K x st)(E:En P w K mg base)(b:Bi x st ps):∃f fd,Fun K x x st f fd/\mg x=some (.ref f)/\PySem.W.keepIn K (.ref f)=true/\Binds K fd ps []:=by
 obtain⟨f,fd,a,F⟩:=d;exact⟨f,fd,F,E.at a,F.kp,F.binds λkV j p m g ct us k=>b us k kV j p m g ct⟩
def Df.kA(d:Df K x st)(E:En P w K mg base)(h:∀{f fd},Fun K x x st f fd->FnOk P w K mg base ur k f fd ps (vn K ps.length F))(b:Bi x st ps):sL P w K mg base k x ps F:=by
 obtain⟨f,fd,a,c,e,g⟩:=d.get E b;exact⟨f,fd,h a,c,e,g⟩
def Df.kX(d:Df K x st)(E:En P w K mg base)(h:∀{f fd},Fun K x x st f fd->FnOk P w K mg base (xN P w) k f fd ps (BB K ps.length F))(b:Bi x st ps):xM P w K mg base k x ps F:=by
 obtain⟨f,fd,a,c,e,g⟩:=d.get E b;exact⟨f,fd,h a,c,e,g⟩
def Df.rX(d:Df K x st)(E:En P w K mg base)(h:∀{f fd},Fun K x x st f fd->mg x=some (.ref f)->PySem.W.keepIn K (.ref f)=true->Binds K fd ps []->FnOk P w K mg base (xN P w) k f fd ps (BB K ps.length F))(b:Bi x st ps):xM P w K mg base k x ps F:=by
 obtain⟨f,fd,a,c,e,g⟩:=d.get E b;exact⟨f,fd,h a c e g,c,e,g⟩
def Df.kH(d:Df K x st)(E:En P w K mg base)(h:∀{f fd},Fun K x x st f fd->FnOkH P w K mg base k f fd ps (vn K ps.length F))(b:Bi x st ps):WJ P w K mg base k x ps F:=by
 obtain⟨f,fd,a,c,e,g⟩:=d.get E b;exact⟨f,fd,h a,c,e,g⟩
end
section
variable {X:Cx}{pos p:Pos}{e1 e2 e3:aE}{x p1 p2 p3:Str}{k K0:Nat}{F:ae->jH->R A}{c1 c2 c3:Ex}
def AO(G:sL X.prog X.w X.K X.mg X.base k x [p1] F)(hr:Room K0 X.A)(h1:AE X e1 c1)(hk:k<=K0<|>δ)(hg:Gl X x<|>ε)(hdb:(x == ("__debug__" : Str))=false<|>δ)(s1:starEach [e1] X.env=(false,eval e1 X.env)::starEach [] X.env<|>ε)(hp:((backTo pos<|starEach [] X.env).any (·.1)=false)<|>ε):AE X (.Call (.Name x p) [e1] [] pos) (eFn F<|jE c1 jP):=yw G (hr.mono hk) (jG h1 jQ s1) (jZ lR) hg hdb s1 hp
def Mf(G:sL X.prog X.w X.K X.mg X.base k x [p1,p2] F)(hr:Room K0 X.A)(h1:AE X e1 c1)(h2:AE X e2 c2)(hk:k<=K0<|>δ)(hg:Gl X x<|>ε)(hdb:(x == ("__debug__" : Str))=false<|>δ)(s1:starEach [e1,e2] X.env=(false,eval e1 X.env)::starEach [e2] X.env<|>ε)(s2:starEach [e2] X.env=(false,eval e2 X.env)::starEach [] X.env<|>ε)(hp:((backTo pos<|starEach [e2] X.env).any (·.1)=false)<|>ε):AE X (.Call (.Name x p) [e1,e2] [] pos) (eFn F<|jE c1<|jE c2 jP):=yw G (hr.mono hk) (jG h1 (jG h2 jQ s2) s1) (jZ<|jZ lR) hg hdb s1 hp
def fn3(G:sL X.prog X.w X.K X.mg X.base k x [p1,p2,p3] F)(hr:Room K0 X.A)(h1:AE X e1 c1)(h2:AE X e2 c2)(h3:AE X e3 c3)(hk:k<=K0<|>δ)(hg:Gl X x<|>ε)(hdb:(x == ("__debug__" : Str))=false<|>δ)(s1:starEach [e1,e2,e3] X.env=(false,eval e1 X.env)::starEach [e2,e3] X.env<|>ε)(s2:starEach [e2,e3] X.env=(false,eval e2 X.env)::starEach [e3] X.env<|>ε)(s3:starEach [e3] X.env=(false,eval e3 X.env)::starEach [] X.env<|>ε)(hp:((backTo pos<|starEach [e2,e3] X.env).any (·.1)=false)<|>ε):AE X (.Call (.Name x p) [e1,e2,e3] [] pos) (eFn F<|jE c1<|jE c2<|jE c3 jP):=yw G (hr.mono hk) (jG h1 (jG h2 (jG h3 jQ s3) s2) s1) (jZ<|jZ<|jZ lR) hg hdb s1 hp
def Vv(G:xM X.prog X.w X.K X.mg X.base k x [p1] F)(hr:Room K0 X.A)(h1:AE X e1 c1)(hk:k<=K0<|>δ)(hg:Gl X x<|>ε)(hdb:(x == ("__debug__" : Str))=false<|>δ)(s1:starEach [e1] X.env=(false,eval e1 X.env)::starEach [] X.env<|>ε)(hp:((backTo pos<|starEach [] X.env).any (·.1)=false)<|>ε):AE X (.Call (.Name x p) [e1] [] pos) (oB F<|jE c1 jP):=tH G (hr.mono hk) (jG h1 jQ s1) (jZ lR) hg hdb s1 hp
def Zl(G:xM X.prog X.w X.K X.mg X.base k x [p1,p2] F)(hr:Room K0 X.A)(h1:AE X e1 c1)(h2:AE X e2 c2)(hk:k<=K0<|>δ)(hg:Gl X x<|>ε)(hdb:(x == ("__debug__" : Str))=false<|>δ)(s1:starEach [e1,e2] X.env=(false,eval e1 X.env)::starEach [e2] X.env<|>ε)(s2:starEach [e2] X.env=(false,eval e2 X.env)::starEach [] X.env<|>ε)(hp:((backTo pos<|starEach [e2] X.env).any (·.1)=false)<|>ε):AE X (.Call (.Name x p) [e1,e2] [] pos) (oB F<|jE c1<|jE c2 jP):=tH G (hr.mono hk) (jG h1 (jG h2 jQ s2) s1) (jZ<|jZ lR) hg hdb s1 hp
def uo{N P:ar}{sc:Scope}(a:sc.kind=.function)(b:sc.isCoroutine=false)(c:sc.isGenerator=false)(h:N.Nodup/\N.take P.length=P/\(∀x∈P,sc.names.lookup x=some .local\/sc.names.lookup x=some .cell)/\∀y∈sc.names,y.2≠.free):FnScope N P sc:=⟨a,b,c,h.1,h.2.1,h.2.2.1,h.2.2.2⟩
end
abbrev mw (S:jH)(n:Nat):Option (List<|Int×A):=match S[n]? with
 | some (.qi xs)=>some xs
 | _=>none
def qm{n:Nat}(h:mw S n=some xs):S[n]?=some (.qi xs):=by
 unfold mw at h;split at h
 ·rename_i e;cases h;exact e
 ·cases h
def CG{S:jH}{n:Nat}(h:S[n]?=some (.qi xs)):mw S n=some xs:=by
 unfold mw;rw[h]
abbrev nF (kvs:List<|Int×A)(k:Int):Option A:=(kvs.find? λkv=>decide<|kv.1=k).map (·.2)
abbrev yc (kvs:List<|Int×A)(k:Int)(v:A):List (Int×A):=
 if (nF kvs k).isSome=true then kvs.map (λkv=>if kv.1=k then(kv.1,v)else kv)else kvs++[(k,v)]
section
variable {K:au}{ρ:bb}{H:Hp}
def KA{p:Int×A}{r:List<|Int×A}{k:Int}(e:p.1=k):nF (p::r) k=some p.2:=by simp[nF,b9,e]
def K6{p:Int×A}{r:List<|Int×A}{k:Int}(e:¬p.1=k):nF (p::r) k=nF r k:=by simp[nF,b9,e]
def aaM{a b:Int}(e:(Sum.inl a:Key)=Sum.inl b):a=b:=by injection e
theorem DI.look:∀{kvs:List<|Int×A}{ks:List<|Key×V}(k:Int),DI K ρ H kvs ks->(nF kvs k).isSome=(qz ks (Sum.inl k:Key)).isSome/\∀x,nF kvs k=some x->∃v,qz ks (Sum.inl k:Key)=some v/\AV K ρ H x v
 | [],[],k,_=>⟨rfl,λx h=>nomatch h⟩
 | p::r,q::r',k,⟨⟨e,a⟩,t⟩=>by
  by_cases c:p.1=k
  ·have d:q.1=(Sum.inl k:Key):=by rw[e,c]
   rw[KA c,uS d];exact⟨rfl,λx h=>by cases h;exact⟨_,rfl,a⟩⟩
  ·have d:¬q.1=(Sum.inl k:Key):=λz=>c<|aaM<|e.symm.trans z;rw[K6 c,uY d];exact DI.look k t
theorem DI.repl{x:A}{v:V}(h:AV K ρ H x v)(k:Int):∀{kvs:List<|Int×A}{ks:List<|Key×V},DI K ρ H kvs ks->DI K ρ H (kvs.map λkv=>if kv.1=k then(kv.1,x)else kv) (ks.map λkv=>if kv.1=(Sum.inl k:Key)then(kv.1,v)else kv)
 | [],[],_=>trivial
 | p::r,q::r',⟨⟨e,a⟩,t⟩=>by
  refine⟨?_,DI.repl h k t⟩;dsimp only;by_cases c:p.1=k
  ·rw[aS c,aS<|by rw[e,c]];exact⟨e,h⟩
  ·rw[aQ c,aQ λz=>c<|aaM<|e.symm.trans z];exact⟨e,a⟩
theorem DI.snoc{x:A}{v:V}(h:AV K ρ H x v)(k:Int):∀{kvs:List<|Int×A}{ks:List<|Key×V},DI K ρ H kvs ks->DI K ρ H (kvs++[(k,x)]) (ks++[(Sum.inl k,v)])
 | [],[],_=>⟨⟨rfl,h⟩,trivial⟩
 | p::r,q::r',⟨a,t⟩=>⟨a,DI.snoc h k t⟩
def DI.put{x:A}{v:V}(h:AV K ρ H x v)(k:Int){ks:List<|Key×V}(d:DI K ρ H kvs ks):DI K ρ H (yc kvs k x) (putK ks (Sum.inl k:Key) v):=by
 unfold yc putK;rw[xy,<- (d.look k).1];by_cases c:(nF kvs k).isSome=true
 ·rw[aS c,aS c];exact DI.repl h k d
 ·rw[aQ c,aQ c];exact DI.snoc h k d
def DI.length:∀{kvs:List<|Int×A}{ks:List<|Key×V},DI K ρ H kvs ks->kvs.length=ks.length
 | [],[],_=>rfl
 | _::_,_::_,⟨_,t⟩=>c9 (·+1) t.length
theorem DI.keys:∀{kvs:List<|Int×A}{ks:List<|Key×V},DI K ρ H kvs ks->ks.map (·.1)=kvs.map λkv=>(Sum.inl kv.1:Key)
 | [],[],_=>rfl
 | _::_,_::_,⟨⟨e,_⟩,t⟩=>by rw[bH,bH,e,DI.keys t]
def Rel.qi{n:Nat}{a:ak}(R:Rel K ρ H S)(ha:ρ[n]?=some a)(hS:S[n]?=some (.qi xs)):∃vs,H a=some (.dK vs)/\DI K ρ H xs vs:=R.at n a _ ha hS
def Rel.aab{S:jH}{p:ak}(R:Rel K ρ H S)(hp:H p=none)(r:DI K ρ H xs vs):Ext ρ (ρ++[p]) H (upd H p<|.dK vs)/\Rel K (ρ++[p]) (upd H p<|.dK vs) (S++[.qi xs])/\(ρ++[p])[S.length]?=some p:=by
 have ex:Ext ρ (ρ++[p]) H (upd H p<|.dK vs):=⟨⟨dP _ _,λa u _ h=>by rw[jI<|jX h hp];exact h⟩,λa u h _=>by rw[jI<|jX h hp];exact h,λa h=>by
  rcases bJ.mp h with z|z
  ·exact .inl z
  ·have e:a=p:=by simpa using z
   rw[e];exact .inr hp⟩
 have np:p∉ρ:=R.Ew hp;have d:(ρ++[p])[S.length]?=some p:=by rw[<- R.len];simp
 refine⟨ex,⟨by simp[R.len],?_,?_⟩,d⟩
 ·rw[cL];cb_eq;have:b=p:=by simpa using hb
  exact np<|by rw[<- this,<- e];exact ha
 ·intro n a o h1 h2;by_cases hn:n<S.length
  ·rw[bz<|by rw[R.len];exact hn]at h1;rw[bz hn]at h2;have na:a≠p:=λz=>np (by rw[<- z];exact bw h1);have:=R.at n a o h1 h2
   cases o with
   | lst ys=>obtain⟨f,e,q⟩:=this;exact⟨f,by rw[jI na];exact e,q.ext ex⟩
   | dct _|qi _|vA _=>obtain⟨f,e,q⟩:=this;exact⟨f,by rw[jI na];exact e,q.ext ex⟩
   | dcf _=>obtain⟨g,f,e,q⟩:=this;exact⟨g,f,by rw[jI na];exact e,q.ext ex⟩
   | ins _ _=>obtain⟨g,j,e⟩:=this;exact⟨g,j,by rw[jI na];exact e⟩
  ·have e:n=S.length:=by
    have:=(aJ.mp h2).1;simp at this
    lia
   subst e;rw[d]at h1
   cases h1
   simp at h2;subst h2;exact⟨vs,j3,r.ext ex⟩
def Rel.yc{S:jH}{n:Nat}{a:ak}(R:Rel K ρ H S)(ha:ρ[n]?=some a)(hS:S[n]?=some (.qi xs))(r:DI K ρ H ys ws):Ext ρ ρ H (upd H a<|.dK ws)/\Rel K ρ (upd H a<|.dK ws) (S.set n<|.qi ys):=by
 obtain⟨vs,e,_⟩:=R.at n a _ ha hS;have ex:Ext ρ ρ H (upd H a<|.dK ws):=⟨⟨dO _,λb u i h=>by
  have:b≠a:=by
   intro z;subst z;rw[e]at h;cases h;exact i
  rw[jI this];exact h⟩,λb u h n=>by
  rw[jI λz=>n<|by rw[z];exact bw ha];exact h,λ_ h=>.inl h⟩
 refine⟨ex,by rw[bT];exact R.len,R.nd,λm b o h1 h2=>?_⟩;by_cases g:m=n
 ·subst g;rw[ha]at h1;cases h1;rw[br (aJ.mp hS).1]at h2
  cases h2
  exact⟨ws,j3,r.ext ex⟩
 ·rw[bG<|cA g]at h2;have nb:b≠a:=λz=>by
   subst z;obtain⟨p,e1⟩:=aJ.mp ha;obtain⟨t,e2⟩:=aJ.mp h1;exact g<|(b7 R.nd).mp<|e2.trans e1.symm
  have:=R.at m b o h1 h2
  cases o with
  | lst ys=>obtain⟨d,f,q⟩:=this;exact⟨d,by rw[jI nb];exact f,q.ext ex⟩
  | dct _|qi _|vA _=>obtain⟨d,f,q⟩:=this;exact⟨d,by rw[jI nb];exact f,q.ext ex⟩
  | dcf _=>obtain⟨j,d,f,q⟩:=this;exact⟨j,d,by rw[jI nb];exact f,q.ext ex⟩
  | ins _ _=>obtain⟨j,k,f⟩:=this;exact⟨j,k,by rw[jI nb];exact f⟩
end
section
variable {X:Cx}{pos:Pos}{a b:aE}
abbrev z7 (x y:A)(S:jH):R A:=match x,y with
 | .ref n,.int k=>opt (mw S n) λkvs=>opt (nF kvs k) λv=>.ok v S
 | _,_=>.no
def LJ{x:A}{P:A->jH->Prop}{E:Str->jH->Prop}(h:(z7 x y S).post P E):∃n k kvs v,x=.ref n/\y=.int k/\mw S n=some kvs/\nF kvs k=some v/\P v S:=by
 unfold z7 at h;split at h
 ·obtain⟨kvs,h1,h⟩:=jK h;obtain⟨v,h2,h⟩:=jK h;exact⟨_,_,kvs,v,rfl,rfl,h1,h2,h⟩
 ·exact h.elim
def Z2(hu:X.A.units+64<cLine):TH X (r2 X z7):=λf j pins s σ H x y v u Q I rx ry ⟨ρ,S,a,b,R,va,vb,h⟩ hs=>by
 obtain⟨n,k,kvs,z,ha,hb,hn,q,hP⟩:=LJ h;subst ha hb
 cases vb
 cases va with
 | @ref p _ hp=>
  obtain⟨ks,e,d⟩:=R.qi hp<|qm hn;obtain⟨w,hw,m⟩:=(d.look k).2 z q;have g:uv H p (kV<|Sum.inl k) (qz ks<|Sum.inl k):=uv.k e;rw[hw]at g;exact CU () f j pins s σ H _ _ v u Q I rx ry ⟨p,w,rfl,g,hP _ _ _ .refl R m⟩ hs
def Mp(hu:X.A.units+64<cLine){ca cb:Ex}(ha:AE X a ca)(hb:AE X b cb)(hs:wY b<|>θ):AE X (.Subscript a b pos) (jT z7 ca cb):=PE.imp (HE (Z2 hu) ha hb hs) λσ H Q h=>tB h
abbrev BO (o i v:A)(S:jH):R Unit:=match o,i with
 | .ref n,.int k=>opt (mw S n) λkvs=>gd (kvs.length<sizeLine) (.ok Unit.unit<|S.set n<|.qi<|yc kvs k v)
 | _,_=>.no
def FY{x v:A}{S:jH}{P:Unit->jH->Prop}{E:Str->jH->Prop}(h:(BO x y v S).post P E):∃n k kvs,x=.ref n/\y=.int k/\mw S n=some kvs/\kvs.length<sizeLine/\P Unit.unit (S.set n<|.qi<|yc kvs k v):=by
 unfold BO at h;split at h
 ·obtain⟨kvs,h1,h⟩:=jK h;obtain⟨h2,h⟩:=j4 h;exact⟨_,_,kvs,rfl,rfl,h1,h2,h⟩
 ·exact h.elim
abbrev acq (X:Cx):G8:=λo i v H Q=>∃ρ S ao d f,Rel X.K ρ H S/\AV X.K ρ H ao o/\AV X.K ρ H d i/\AV X.K ρ H f v/\(BO ao d f S).post (λ_ g=>∀ρ' H',Ext ρ ρ' H H'->Rel X.K ρ' H' g->Q H') (XE X ρ H)
def Um(hu:X.A.units+64<cLine):FG X (acq X):=λpins s σ H o i v q iv u Q I j f g h9=>by
 obtain⟨ρ,S,ao,z,B,R,h1,h2,h3,h⟩:=h9;obtain⟨n,k,kvs,ha,hb,hn,m,hP⟩:=FY h;subst ha hb
 cases h2
 cases h1 with
 | @ref p _ hp=>
  obtain⟨ks,e,d⟩:=R.qi hp<|qm hn;obtain⟨ex,t⟩:=R.yc hp (qm hn)<|d.put h3 k;exact set_dict (by omega) pins s σ H _ _ v q iv u Q I j f g ⟨p,_,rfl,yK.k (k:=Sum.inl k) e<|by rw[<- d.length];exact m,hP _ _ ex t⟩
abbrev Lz (co ci:Ex):Tg:=λa τ S=>(co τ S).bind λo S1=>(ci τ S1).bind λi S2=>(BO o i a S2).bind λ_ S3=>.ok τ S3
def IB(hu:X.A.units+64<cLine){co ci:Ex}(ho:AE X o co)(hi:AE X i ci)
  (ha:(∀v,assign (.Subscript o i pos) X.env v=(do
   let ov <- holding [v] (eval o X.env)
   let iv <- holding [v,ov] (eval i X.env)
   standAt pos
   holding [v,ov,iv] (setItem ov iv v)
   release [v,ov,iv] []))<|>ζ):AG X (.Subscript o i pos) (Lz co ci):=PG.imp (C1 ho hi (Um hu) ha) λv σ H Q h9=>by
 obtain⟨ρ,S,τ,a,R,r,va,h⟩:=h9;k_ne;gp_on;kpf_c
abbrev Gk:Ex:=λ_ S=>.ok (.ref S.length)<|S++[.qi []]
def PU:AE X (.Dict [] [] pos) Gk:=PE.imp Oz λσ H Q ⟨ρ,S,τ,R,r,h⟩ p hp=>by
 obtain⟨ex,f,d⟩:=R.aab (xs:=[]) (vs:=[]) hp trivial;exact h _ _ _ ex f<|.ref d
abbrev dk? (a:A)(S:jH):Option Unit:=match a with
 | .ref n=>(mw S n).map λ_=>Unit.unit
 | _=>none
abbrev F7 (f:A->ae->jH->R A)(co:Ex)(d:rj):Ex:=λτ S=>(co τ S).bind λx S1=>opt (dk? x S1) λ_=>(d τ S1).bind λg S2=>f x g S2
def dk?_ty{K:au}{H:Hp}{x:A}{v:V}(R:Rel K ρ H S)(a:AV K ρ H x v)(e:dk? x S=some u):Zf K "dict" v H:=by
 cases a with
 | @ref p n h=>
  obtain⟨xs,d,_⟩:=aW.mp e;obtain⟨vs,h1,_⟩:=R.qi h<|qm d;exact .inr<|.inr<|.inl ⟨rfl,.inl ⟨vs,h1⟩⟩
 | _=>cases e
def F2{e:aE}{id:String}{apos cpos:Pos}{f:A->ae->jH->R A}{co:Ex}{d:rj}(slot:Slot "dict" name id)(hty:typeOf (.builtin id)=pure (.type "method_descriptor"))(hm:Mj X id<|rM X f)(ho:AE X o co)(ha:AL X (e::es) d)
  (hbase:attributeBase o name X.env (eval o X.env)=eval o X.env<|>ε)
  (hfew:(((backTo cpos<|starEach (e::es) X.env).all (λx=>!x.1) && (backToKw cpos<|keywordEach [] X.env).all (λx=>x.1.isSome)
   && decide ((e::es).length+([]:List Keyword).length+(if ([]:List Keyword).isEmpty then 0 else 1)<30))=true)<|>ε)
  (hline:(apos.endLine == cpos.line)=true<|>ε) (hs:starEach (e::es) X.env=(false,eval e X.env)::starEach es X.env<|>ε) (hplain:((backTo cpos<|starEach es X.env).any (·.1)=false)<|>ε) :
  AE X (.Call (.Attribute o name apos) (e::es) [] cpos) (F7 f co d):=PE.imp (Mz PySem.F.plainAttrs_dict slot hty hm ho ha hbase hfew hline hs hplain) λσ H Q h9=>by
 z_go;mg_lt;obtain⟨xs,j,h1⟩:=jK h1;refine⟨dk?_ty R1 v1 j,ρ1,S1,τ,R1,r.ext e1,jJ (jO h1) e1 λg S2 h2 ρ2 H2 vs e2 R2 v2=>?_⟩;exact⟨ρ2,S2,x,g,R2,v1.ext e2,v2,jJ h2 (e1.trans e2) λ_ _ z=>z.ext<|e1.trans e2⟩
abbrev wV (o:A)(as:ae)(S:jH):R A:=match o,as with
 | .ref n,[.int k,y]=>opt (mw S n) λkvs=>.ok ((nF kvs k).getD y) S
 | _,_=>.no
def G5{x:A}{P:A->jH->Prop}{E:Str->jH->Prop}(h:(wV x as S).post P E):∃n k y kvs,x=.ref n/\as=[.int k,y]/\mw S n=some kvs/\P ((nF kvs k).getD y) S:=by
 unfold wV at h;split at h
 ·obtain⟨kvs,h1,h⟩:=jK h;exact⟨_,_,_,kvs,rfl,rfl,h1,h⟩
 ·exact h.elim
def GG(hu:X.A.units+64<cLine):Mj X "dict.get" (rM X wV):=λpins s σ H x vs v us Q I rx j h9=>by
 obtain⟨ρ,S,o,L,R,t,va,h⟩:=h9;obtain⟨n,k,y,kvs,B,has,hn,hP⟩:=G5 h;subst B has;obtain⟨J,N,rfl,z,hy⟩:=SX va
 cases z
 cases t with
 | @ref p _ hp=>
  obtain⟨ks,h1,q⟩:=R.qi hp (qm hn)
  cases rx
  obtain⟨M,G,rfl,r1,r2⟩:=vals2 j;refine XC (by omega) I (uv.k (k:=Sum.inl k) h1) r1 r2 λK s' m d=>⟨_,H,m,d,hP _ _ _ .refl R ?_⟩;obtain⟨f,F⟩:=q.look k
  cases e1:nF kvs k with
  | none=>
   rw[e1]at f
   cases e2:qz ks (Sum.inl k:Key)with
   | none=>exact hy
   | some _=>rw[e2]at f;cases f
  | some g=>
   obtain⟨v1,e2,C⟩:=F g e1;rw[e2];exact C
end
end Am
namespace L2
open PySem PySem.Spec PyProof.Rows
section
variable {P:aj}{w:ah}{A:aA}{E:af->aC->Prop}{s:aC}{it d:ak}{i ep:Nat}{es:Array DictEntry}{o:Obj}
def ON{Q:bd->aC->Prop}(hi:s.heap.IsKeyIter it d i es.size ep)(ho:s.heap.get? d=some o)(hd:o.data=.dict es ep)(lt:i<es.size)
  (q:∀h',h'.IsKeyIter it d (i+1) es.size ep->Heap.SameBut it s.heap h'->Q (some es[i].key) { s with heap:=h' }):wpAny (model P w) A (pyNext<|.ref it) Q E s:=by
 have ty:=hi.typeIs;obtain⟨z,g,m,f⟩:=id hi;have own:Builtin.Dict_items.ownsTuple "dict_keyiterator" = false:=by decide
 have t:¬((Value.ref d == Value.none)=true):=bF;have p:¬((i:Int)<0):=by omega
 unfold pyNext;refine aG<|gp<|dY (name:=Str.ofString "__next__") ty cN<|cV cN ty gq ?_<|gb _;refine aG (aN<|aG<|aG ?_)
 first
  | refine aG (dX ty<|aN<|aG<|jc g f ?_)
  | refine aG<|fq ty<|aN<|aG<|jc g f ?_
 dsimp[own,c6,bK];show wpAny (model P w) _ (if (Value.ref d == Value.none)=true then _ else _) _ _ s;rw[aQ t];refine aG<|aN<|aG<|ji ho hd ?_;rw[aQ<|show ¬_ by simp];refine aG<|aN<|aG<|wpAny_dictEpoch ho hd ?_;rw[aQ<|show ¬_ by simp];refine aN ?_;dsimp[p,c6,di,eV lt];refine aG ?_
 first
  | refine aG (dX ty<|aN<|aG<|iz ty ?_)
  | refine aG<|fq ty<|aN<|aG<|iz ty ?_
 show wpAny (model P w) _ (setField (.ref it) 1 (rawInt<|(i:Int)+1) >>= _) _ _ s;refine aG (gR g f (show _ by simp) ?_);have j:(s.heap.update it<|Obj.mapFields λfs=>fs.setIfInBounds 1<|rawInt<|(i:Int)+1).IsKeyIter it d (i+1) es.size ep:=
  ⟨_,eU _ g<|fP<|eG f _,(jh ..).trans m,by
   rw[eG f];simp[rawInt]⟩
 have k:Shared.TypeIs { s with heap:=s.heap.update it<|Obj.mapFields λfs=>fs.setIfInBounds 1<|rawInt<|(i:Int)+1} (.ref it) "dict_keyiterator" := Heap.IsKeyIter.typeIs (s:={ s with heap:=_ }) j;refine aG (cC<|aG<|iz k ?_)
 skip
 exact aN<|aN ⟨_,rfl,aN<|q _ j<|f_ ..⟩
def Ku{Q:bd->aC->Prop}(hh:A.handled=none)(hi:s.heap.IsKeyIter it d i es.size ep)(ho:s.heap.get? d=some o)(hd:o.data=.dict es ep)(ge:es.size<=i)
  (q:∀h',Heap.ExtBut it s.heap h'->Q none { s with heap:=h' }):wpAny (model P w) A (pyNext<|.ref it) Q E s:=by
 have ty:=hi.typeIs;obtain⟨t,f,p,g⟩:=id hi;have own:Builtin.Dict_items.ownsTuple "dict_keyiterator" = false:=by decide
 have k:¬((Value.ref d == Value.none)=true):=bF;have j:¬((i:Int)<0):=by omega
 unfold pyNext;refine aG<|gp<|dY (name:=Str.ofString "__next__") ty cN<|cV cN ty gq ?_<|gb _;refine aG (aN<|aG<|aG ?_)
 first
  | refine aG (dX ty<|aN<|aG<|jc f g ?_)
  | refine aG<|fq ty<|aN<|aG<|jc f g ?_
 dsimp[own,c6,bK];show wpAny (model P w) _ (if (Value.ref d == Value.none)=true then _ else _) _ _ s;rw[aQ k];refine aG<|aN<|aG<|ji ho hd ?_;rw[aQ<|show ¬_ by simp];refine aG<|aN<|aG<|wpAny_dictEpoch ho hd ?_;rw[aQ<|show ¬_ by simp];refine aN ?_;dsimp[j,c6,di,fJ ge];refine aG ?_
 first
  | refine aG (dX ty<|aN ?_)
  | refine aG<|fq ty<|aN ?_
 show wpAny (model P w) _ (setField (.ref it) 0 .none >>= _) _ _ s;refine aG (gR f g (show _ by simp) ?_)
 skip
 refine aG ?_;dsimp[newExc,newTuple];refine aG (cK (aG (m:=firstArgMember _ _)<|wpAny_of_eq (a:=Value.none) (by first|rfl|(dsimp[firstArgMember];rfl))<|cK ?_<|by size_fits)<|by size_fits);dsimp[raiseNew];have hn:A.in1.handled=none:=hh;refine aG<|wpAny_handled<|?_;rw[hn];refine aG<|aN<|wpAny_throw<|?_;refine aG<|fZ (b:=true) (T := "StopIteration") ⟨_,bu _ rfl,rfl⟩ isSubtype_stop<|aN<|q _<|((f_ ..).extBut.push _).push _
def Aj{Q:af->aC->Prop}(ty:s.TypeIs (.ref d) "dict")(hs:(d == sysModules)=false)(ho:s.heap.get? d=some o)(hd:o.data=.dict es ep)
  (q:Q (.ref s.heap.objs.size) { s with heap:=s.heap.push { cls:=.type "dict_keyiterator",data:=.fields #[.ref d,.int 0 0,.int es.size 0,.int ep 0]}}):wpAny (model P w) A (pyIter<|.ref d) Q E s:=by
 refine wpAny_pyIter_slot ty PySem.F.slot_dict_iter<|cV PySem.F.slot_dict_iter ty PySem.F.entry_dict_iter ?_<|PySem.F.args_dict_iter_1 _;delta Builtin.«dict.__iter__»;refine aG ?_;delta Builtin.Dict.dictSlotNone;refine aG (wpAny_notOrdered_dict ty ?_)
 skip
 refine aN ?_;show wpAny (model P w) _ (Builtin.Dict.showsAll d >>= _) _ _ s;delta Builtin.Dict.showsAll;have nd:¬((d == sysModules)=true):=by rw[hs];exact bF
 rw[aQ nd];refine aG<|aN<|aG<|ji ho hd<|aG<|wpAny_dictEpoch ho hd ?_;refine aG<|cK<|aN ⟨_,rfl, "dict_keyiterator",_,⟨_,bu _ rfl,rfl⟩,cN.lookup,?_⟩;simpa[rawInt]using q
end
section
variable {P:aj}{w:ah}
def LQ{A:aA}(hh:A.handled=none)(it d:ak)(ne:d≠it){es:Array DictEntry}{o:Obj}(hd:o.data=.dict es ep) :
  Walks P w A it [it,d] [it] es.size (λi v=>(es[i]?).map (λe=>e.key)=some v) (λi h=>h.IsKeyIter it d i es.size ep/\h.get? d=some o) where
 sub:=λb hb=>by
  rw[aR.mp hb];exact aV ..
 frame:=λ_ _ _ st f=>⟨st.1.at λx e=>f it (aV ..) x e,f d (aX _<|aV ..) o st.2⟩
 item:=λi s Q E lt st q=>ON st.1 st.2 hd lt λh' k1 k2=>q _ h' s.toks (by rw[eV lt];rfl) ⟨k1,k2.extBut d o ne st.2⟩ λb x nb e=>k2.extBut b x (λz=>nb<|aR.mpr z) e
 done:=λs Q E st q=>Ku hh st.1 st.2 hd (aL _) λh' k=>q h' s.toks λb x nb e=>k b x (λz=>nb<|aR.mpr z) e
 self:=λ_ _ _ _ st q=>wpAny_pyIter_keyiter st.1 q
def JZ{d:ak}{es:Array DictEntry}{o:Obj}(hs:(d == sysModules)=false)(hc:o.cls=.type "dict")(hd:o.data=.dict es ep) :
  PySem.W.KdlSrc P w "dict" d d es.size (λi v=>(es[i]?).map (λe=>e.key)=some v) (λh=>h.get? d=some o) where
 type:=λ_ f=>⟨o,f,hc⟩
 there:=λ_ f=>⟨a_ f,a_ f⟩
 keep:=λ_ _ f j=>j d (.inl rfl) o f
 notList:=by decide
 notTuple:=by decide
 hint:=λ_ _ _ _ f hq=>PySem.W.kdl_hint_dict ⟨o,f,hc⟩ hq
 iter:=λ_ s g f=>⟨_,_,(λ_ _ hq=>Aj ⟨o,f,hc⟩ hs f hd hq),LQ g _ d (bC<|a_ f) hd,⟨⟨_,bu _ rfl,rfl,rfl⟩,aM _ f⟩⟩
end
section
variable {X:Cx}
def Mq{H:Hp}{s:aC}{d:ak}{kvs:List<|List Key×V}(I:Inv X pins σ H s)(ed:H d=some (.dT kvs)) :
  ∃(ob:Obj) (es:Array DictEntry) (ep:Nat) (rs:bb),s.heap.get? d=some ob/\ob.cls=.type "dict" /\ ob.data=.dict es ep/\(d == sysModules)=false/\kvs.length<=sizeLine/\rs.length=kvs.length/\es.size=kvs.length /\
   (∀i:Nat,(es[i]?).map (λe:DictEntry=>e.key)=(rs[i]?).map Value.ref)/\∀(i:Nat) r p,rs[i]?=some r->kvs[i]?=some p->H r=some (.tup<|p.1.map kV):=by
 obtain⟨z,B,xs,g,dd⟩:=B0 I.hok ed;obtain⟨ob,es,ep,m,q,t,k,J,G⟩:=id dd;obtain⟨j,C⟩:=kt_at g;have f:es.size=xs.length:=by have:=c9 List.length k;simpa using this
 refine⟨ob,es,ep,xs.map λy=>y.2.1,m,q.1,t,B,z,by rw[aH,j],by rw[f,j],λi=>?_,λi r p e1 e2=>?_⟩
 ·rw[<- cZ,k,aP,aP,eO,eO]
  cases xs[i]?<;>rfl
 ·obtain⟨y,h1,h2,h3,F⟩:=C i p e2;rw[aP,h1]at e1
  cases e1
  exact h3
def CJ(hc:X.calm=true):j7 X (.builtin "sorted") (λxs H Q=>∃(d:ak) (kvs:List<|List Key×V) (kss:List<|ag),xs=[.ref d]/\H d=some (.dT kvs)/\kvs.map (λp=>p.1)=kss.map (λks=>ks.map Sum.inl)/\(∀ks∈kss,ks≠[])/\Sx.RO kss.length /\
  ∀(rs:bb) l g,rs.length=kss.length->(∀(i:Nat) (r:ak) (ks:ag),rs[i]?=some r->kss[i]?=some ks->H r=some (.tup<|ks.map V.int))->H l=none->Sx.Cl g 0 kss.length->Sx.So (Sx.uw kss) g 0 kss.length ->
   Q (.ref l) (upd H l<|.lst<|((List.range kss.length).map λi=>rs.getD (g i) 0).map V.ref)):=by
 fin2;obtain⟨d,kvs,kss,rfl,J,ek,z,U,q⟩:=h;kcj_m
 cases rx
 obtain⟨ob,es,ep,rs,F,M,T,P,B,t,K,N,W⟩:=Mq I J;have k:kvs.length=kss.length:=by have:=c9 List.length ek;simpa using this
 have C:∀(i:Nat) (r:ak) (ks:ag),rs[i]?=some r->kss[i]?=some ks->H r=some (.tup<|ks.map V.int):=λi r ks e1 e2=>by
  have lt:i<kvs.length:=by rw[k];exact(aJ.mp e2).1
  have h1:=W i r kvs[i] e1 (aI lt);have h2:(kvs.map λp=>p.1)[i]?=(kss.map λks=>ks.map Sum.inl)[i]?:=by rw[ek]
  rw[aP,aP,e2,aI lt]at h2;have h3:kvs[i].1=ks.map Sum.inl:=aZ h2;rw[h3,bh]at h1;exact h1
 refine dM kind_sorted iT iU (iV _) ?_;unfold Builtin.«sorted»;refine aG (m:=checkCount "sorted" 1 1 _)<|aN ?_;refine aG (iO (JZ P M T) (show X.A.in1.handled=none from I.ok.hd hc) F (by rw[K];exact B) λh' L acc O f=>?_);have G:acc.toList=rs.map Value.ref:=by
  refine d7 λj=>?_;rw[cZ,aP,<- N j]
  cases e:acc[j]? with
  | some v=>exact(f.2 j v e).symm
  | none=>
   have:acc.size<=j:=jd.mp e;rw[fJ<|by rw[<- f.1];exact this];rfl
 rw[G];exact xR (s:=s) (I.kept (t':=L) O) U (by rw[t,k]) (by rw[t];exact B) (λi r ks e1 e2=>⟨nj.of<|C i r ks e1 e2,z ks<|bw e2⟩) λl g h1 h2 h3=>q rs l g (by rw[t,k]) C h1 h2 h3
abbrev Itk (d:ak)(o:Obj)(u:HO)(rs:bb):It:=
 ⟨λi H=>(∃a,rs[i]?=some a)/\H d=some (.frz o u),λi H x H'=>H'=H/\∀a,rs[i]?=some a->x=.ref a,λi H=>i=rs.length/\H d=some (.frz o u)⟩
def Lm{P:aj}{w:ah}{K:au}(d it:ak){o:Obj}{es:Array DictEntry}{rs:bb}(hd:o.data=.dict es ep)(hl:es.size=rs.length)
  (hk:∀i:Nat,(es[i]?).map (λe:DictEntry=>e.key)=(rs[i]?).map Value.ref):Turn P w K tg (Itk d o u rs) [it] it (λi h=>h.IsKeyIter it d i es.size ep) where
 mem:=aV ..
 obj:=λi h st b hb=>by
  have:b=it:=by simpa using hb
  subst this;obtain⟨ob,h1,h2,h3⟩:=st;exact⟨ob,h1,λv z=>by rw[h3]at z;cases z⟩
 keep:=λi h h' st k=>st.at λx e=>k it (aV ..) x e
 item:=by
  x_go;subst hP hw hK;obtain⟨⟨a,ha⟩,hq⟩:=hg;have g:s.heap.get? d=some o:=(show kG _ _ H s.heap d (.frz o u)from I.hok d _ hq).1;have lt:i<es.size:=by rw[hl];exact(aJ.mp ha).1
  have ek:es[i].key=.ref a:=by
   have:=hk i;rw[eV lt,ha]at this;exact aZ this
  obtain⟨f0,f1,f2,f3,f4,f5⟩:=hf it<|aV ..;refine ON st g hd lt λh' f j=>?_;have m:Inv X pins σ H { s with heap:=h' }:=I.turned (t':=s.toks) (λb x hb e=>j.extBut b x hb e) f0 f1 f3 f4 f5;obtain⟨t,e,c,dd⟩:=id f;rw[ek];exact⟨_,rfl,BJ (s:={ s with heap:=h' }) e c dd ⋯ ⟨.ref a,H,m,rfl,⟨rfl,λb hb=>by rw[ha]at hb;cases hb;rfl⟩,f,λb hb=>(hf b hb).1⟩⟩
 done:=by
  x_go;subst hP hw hK;obtain⟨B,hq⟩:=hg;have g:s.heap.get? d=some o:=(show kG _ _ H s.heap d (.frz o u)from I.hok d _ hq).1;obtain⟨f0,f1,f2,f3,f4,f5⟩:=hf it<|aV ..;exact Ku (I.ok.hd hc) st g hd () λh' p=>⟨rfl,I.turned (t':=s.toks) (λb x hb e=>p b x hb e) f0 f1 f3 f4 f5⟩
 self:=λ_ _ _ _ _ st q=>wpAny_pyIter_keyiter st q
abbrev ZQ (to:TE):TI:=λσ H R=>to σ H λx H1=>∃d kvs,x=.ref d/\H1 d=some (.dT kvs)/\∀(o:Obj) (f:bb),f.length=kvs.length->(∀(i:Nat) r p,f[i]?=some r->kvs[i]?=some p->H1 r=some (.tup<|p.1.map kV))->R (Itk d o (.dT kvs) f) (upd H1 d<|.frz o<|.dT kvs)
def UD{e:aE}{to:TE}(he:PE X e to):PI X tg e (ZQ to):=by
 intro pins s σ H R I h;refine mR (he pins s σ H _ I h) λv j h9=>?_;obtain⟨x,H1,I1,r1,d,kvs,ex,m,J⟩:=h9;subst ex
 cases r1
 obtain⟨z,V,xs,B,dd⟩:=B0 I1.hok m;obtain⟨f,q,t,k1,k2,k3,W,_,L⟩:=id dd;obtain⟨ob,es,ep,C,g,N,G,P,Z,F,M,O,Y⟩:=Mq I1 m;have T:f=ob:=by rw[g]at k1;exact(aZ k1).symm
 subst T;refine Aj ⟨_,g,N⟩ P g G ?_;have K:Inv X pins σ H1 { j with heap:=j.heap.push { cls:=.type "dict_keyiterator",data:=.fields #[.ref d,.int 0 0,.int es.size 0,.int ep 0]}}:=
  I1.kept (t':=j.toks) λb o k=>aM _ k
 have p:∀b ys,H1 b=some (.tup ys)->upd H1 d (.frz f<|.dT kvs) b=some (.tup ys):=λb ys k=>by
  rw[jI<|HR k m λz=>nomatch z];exact k
 have U:Inv X pins σ (upd H1 d<|.frz f<|.dT kvs) _:=tD (t':=j.toks) (ob:=.frz f<|.dT kvs) K (by rw[m];exact True.intro) ⟨rfl,λ_ _=>rfl⟩ ⟨f,aM _ g⟩ ⟨aM _ g,z,V,xs,B.keeps p,f,q,t,aM _ g,k2,k3,W,L⟩;refine⟨j.heap.objs.size,[j.heap.objs.size],_,Itk d f (.dT kvs) C,_,rfl,U,Lm d _ G (by rw[M,F]) O,⟨_,bu _ rfl,rfl,rfl⟩,λb hb=>?_,J f C F Y⟩;have k:b=j.heap.objs.size:=by simpa using hb
 subst k;refine I1.AX (aL _) ?_;rw[jI<|cA<|bC<|a_ g];exact I1.hok.fresh<|aL _
end
section
variable {P:aj}{w:ah}{A:aA}{E:af->aC->Prop}{s:aC}
def KC:typeLookup (.type "list") "keys" = pure none:=am_miss_of_fast<|by kernel_rfl
def Ly{a:ak}{o:Obj}{k:Nat}{Q:bd->aC->Prop}(hx:s.heap.get? a=some o)(hc:o.cls=.type "list")(hdat:o.data=.seq xs k)(hd:o.dict=none)(hA:A.handled=none)
  (h:∀h' tk,(∀b ob,s.heap.get? b=some ob->h'.get? b=some ob)->Q none { s with heap:=h',toks:=tk }):wpAny (model P w) A (getAttr? (.ref a) "keys") Q E s:=by
 obtain⟨c,dct,q,p⟩:=o;simp only at hc hdat hd;subst hc hdat hd;obtain⟨hp,g,d,tk,os⟩:=s;have m:∀j,(⟨hp,g,d,j,os⟩:aC).TypeIs (.ref a) "list" := λ_=>⟨_,hx,rfl⟩;have f1:=sub_AttributeError;have f3:=gr.lookup;have f4:=gr.bind<|.ref a;have f5:=am_list_getattr_none;unfold getAttr? getAttrBy? getAttrBy
 repeat (any_goals (first|assumption|exact m _|((with_reducible show wpAny _ _ (call (Value.builtin "list.__getattribute__") _ _) _ _ _);refine fS gr (m _) am_entry_list_getattribute (F.args_list_getattribute_2 _ _) (meets_getattribute_miss_list a xs k p "keys" _ KC ⋯ (by size_fits)) ⟨hx,hA,λh' j e f=>?_⟩)|wp_step))
 obtain⟨t,B,z⟩:=f.there
 skip
 unfold getattributeRaised
 repeat (any_goals (first|assumption|wp_step))
 exact h _ _ f.keeps
def BP:entryFor table "dict.update.loop" = some Builtin.«dict.update.loop»:=entryFor_of_tree<|by kernel_rfl
def vI:plainId "dict.update.loop" = true:=by decide +kernel
abbrev MO (h:aq)(d I:ak)(its:ba)(ps:List<|Int×af):Prop:=∀(i:Nat) (v:af),its[i]?=some v->∃(b:ak) (p:Int×af) (t:Tok),v=.ref b/\b≠d/\b≠I/\ps[i]?=some p/\IsTup h b #[.int p.1 t,p.2]
def MO.mono{h h':aq}{d:ak}(x:MO h d I its ps)(k:∀b o,b≠d->b≠I->h.get? b=some o->h'.get? b=some o):MO h' d I its ps:=λi v hv=>by
 obtain⟨b,p,t,h1,h2,h3,g,o,f,h6⟩:=x i v hv;exact⟨b,p,t,h1,h2,h3,g,o,k b o h2 h3 f,h6⟩
abbrev V1 (ps:List<|Int×af):List (Key×af):=ps.foldl (λacc p=>stored acc (Sum.inl p.1) p.2) []
def Nt(ps:List<|Int×af)(i:Nat)(p:Int×af)(h:ps[i]?=some p):V1 (ps.take<|i+1)=stored (V1<|ps.take i) (Sum.inl p.1) p.2:=by
 unfold V1;rw[bR,h,e_];rfl
theorem JG:∀(ps:List<|Int×af) (acc:List<|Key×af),(ps.foldl (λacc p=>stored acc (Sum.inl p.1) p.2) acc).length<=acc.length+ps.length
 | [],acc=>aL _
 | p::ps,acc=>by
  have:=JG ps<|stored acc (Sum.inl p.1) p.2;have h:(stored acc (Sum.inl p.1) p.2).length<=acc.length+1:=by
   unfold stored;split
   ·rw[aH];lia
   ·rw[bq];exact aL _
  rw[eX,bB]
  lia
def OA{R:Result->aC->Prop}{I l d:ak}{St:Nat->aq->Prop}{its:ba}{ps:List<|Int×af}(W:Walks P w A.in1 I [I,l] [I] its.length (λi v=>its[i]?=some v) St)(hdI:d≠I)(hdl:d≠l)(hl:ps.length=its.length)(hz:ps.length<=sizeLine) :
  ∀(k i:Nat) (s:aC),its.length-i=k->i<=its.length->St i s.heap->s.heap.DictOf (kL P w) d (V1<|ps.take i)->MO s.heap d I its ps ->
   (∀h' tk,h'.DictOf (kL P w) d (V1 ps)->(∀b o,b≠d->b≠I->s.heap.get? b=some o->h'.get? b=some o)->R (.ok<|.ret .none) { s with heap:=h',toks:=tk }) ->
   codeAny (model P w) A (.builtin "dict.update.loop" ⟨[.ref d,.ref I,rawInt i,.none],[]⟩) R s:=by
 intro k
 induction k with
 | zero=>
  intro i s hk hi g K hP N;have L:i=its.length:=()
  subst L;refine eY BP ?_;rw[dW vI _]
  skip
  refine aG (W.done s _ _ g λh' tk m=>?_)
  skip
  refine aG (aN<|aN<|N h' tk ?_ λb o _ h2 e=>m b o (by simpa using h2) e);rw[<- hl,bX]at K;obtain⟨o,es,ep,B,rest⟩:=K;exact⟨o,es,ep,m d o (by simpa using hdI) B,rest⟩
 | succ k ih=>
  intro i s hk hi g K hP N;have C:i<its.length:=()
  refine eY BP ?_;rw[dW vI _]
  skip
  refine aG<|W.item i s _ _ C g λv h' tk hv G m=>?_;have V:MO h' d I its ps:=hP.mono λb o h1 h2 e=>m b o (by simpa using h2) e;obtain⟨b,p,t,rfl,hbd,hbI,hp,o,B,hc,n,hd⟩:=V i v hv;have M:h'.DictOf (kL P w) d (V1<|ps.take i):=by
   obtain⟨o,es,ep,B,rest⟩:=K;exact⟨o,es,ep,m d o (by simpa using hdI) B,rest⟩
  have hT:Shared.TypeIs { s with heap:=h',toks:=tk } (.ref b) "tuple" := ⟨o,B,hc⟩;have j:∀(A:aA) (E:af->aC->Prop) (Q:ba->aC->Prop),Q [.int p.1 t,p.2] { s with heap:=h',toks:=tk }->wpAny (model P w) A (Builtin.Dict.pairItems<|.ref b) Q E { s with heap:=h',toks:=tk }:=λA E Q q=>by
   unfold Builtin.Dict.pairItems;refine aG<|gO hT ?_;rw[aS ⋯];refine aG<|gQ B hd<|aN q
  have F:(V1<|ps.take i).length<=sizeLine:=by
   refine bM (JG (ps.take i) []) ?_;rw[b8,dJ]
   lia
  refine aG (cC<|aG<|wpAny_tryCatch<|j _ _ _ ?_)
  skip
  refine cC (wpAny_dictSet_pairs (hsz:=F) (knd:=kL P w) (k:=Sum.inl p.1) (s:={ s with heap:=h',toks:=tk }) (show Value.isInt p.1 (.int p.1 t)=true by simp[Value.isInt]) M λh2 O hs=>?_);refine aN ⟨iG vI _,?_⟩;have f:∀b o,b≠d->b≠I->s.heap.get? b=some o->h2.get? b=some o:=λb o h3 J e=>by rw[hs.2 b h3];exact m b o (by simpa using J) e
  refine ih (i+1) _ () C (W.frame _ _ _ G λb hb o e=>?_) (by rw[Nt ps i p hp];exact O) (hP.mono f) λh3 Y T Z=>N h3 Y T λb o J h5 e=>Z b o J h5<|f b o J h5 e;have U:b≠d:=by
   intro z;subst z
   rcases bE.mp hb with z|z
   ·exact hdI z
   ·exact hdl<|by simpa using z
  skip
  rw[hs.2 b U];exact e
theorem BN{H:Hp}{X:Cx}(I:Inv X pins σ H s):∀(rs:bb) (ps:List<|Int×V),rs.length=ps.length->(∀(i:Nat) (r:ak) (q:Int×V),rs[i]?=some r->ps[i]?=some q->nj X.K H r [.int q.1,q.2]) ->
  ∃qs:List<|Int×af,KV ps qs/\∀(i:Nat) (r:ak),rs[i]?=some r->∃q t,qs[i]?=some q/\IsTup s.heap r #[.int q.1 t,q.2]
 | [],[],_,_=>⟨[],.nil,λi r h=>by simp at h⟩
 | [],_::_,h,_=>nomatch h
 | _::_,[],h,_=>nomatch h
 | r::rs,p::ps,hl,hh=>by
  obtain⟨qs,h1,h2⟩:=BN I rs ps (by simpa using hl) λi r q e1 e2=>hh (i+1) r q (by simpa using e1) (by simpa using e2);obtain⟨k,f,j,_⟩:=I.tuple<|hh 0 r p rfl rfl;obtain⟨m,d,rfl,r1,r2⟩:=vals2 f;obtain⟨t,rfl⟩:∃t,m=Value.int p.1 t:=r1;refine⟨(p.1,d)::qs,.cons ⟨rfl,r2⟩ h1,λi g e=>?_⟩
  cases i with
  | zero=>cases e;exact⟨(p.1,d),t,rfl,j⟩
  | succ i=>exact h2 i g<|by simpa using e
abbrev ptP (ps:List<|Int×V):List (Key×V):=ps.foldl (λacc p=>putK acc (Sum.inl p.1) p.2) []
def aax:∀{ps:List<|Int×V}{qs:List<|Int×af},KV ps qs->∀{as:List<|Key×V}{bs:List<|Key×af},KV as bs->KV (ps.foldl (λacc p=>putK acc (Sum.inl p.1) p.2) as) (qs.foldl (λacc p=>stored acc (Sum.inl p.1) p.2) bs):=by
 intro ps qs h;unfold KV at h
 induction h with
 | nil=>exact λh=>h
 | @cons p q ps qs h t d=>
  intro as bs h2;rw[eX,eX];obtain⟨e,r⟩:=h;rw[e];exact d<|h2.put _ r
theorem HN:∀(ps:List<|Int×V) (acc:List<|Key×V),(ps.foldl (λacc p=>putK acc (Sum.inl p.1) p.2) acc).length<=acc.length+ps.length
 | [],acc=>aL _
 | p::ps,acc=>by
  have:=HN ps<|putK acc (Sum.inl p.1) p.2;have:=pU acc (Sum.inl p.1) p.2;rw[eX,bB]
  lia
end
section
variable {X:Cx}
def Gq(hc:X.calm=true):j7 X (.type "dict") (λxs H Q=>∃(p:ak) (rs:bb) (ps:List<|Int×V),xs=[.ref p]/\pO X.K H p (rs.map V.ref)/\rs.length=ps.length /\
  (∀(i:Nat) (r:ak) (q:Int×V),rs[i]?=some r->ps[i]?=some q->nj X.K H r [.int q.1,q.2])/\∀l,H l=none->Q (.ref l) (upd H l<|.dK<|ptP ps)):=by
 fin2;obtain⟨p,rs,ps,rfl,hq,C,hT,q⟩:=h;kcj_m
 cases rx
 obtain⟨its,U,pl,hz⟩:=I.list hq;have Z:=vm U;subst Z;rw[aH]at hz;obtain⟨N,kv,tp⟩:=BN I rs ps C hT;have ql:ps.length=N.length:=kv.length;obtain⟨o,n,O,k,G,hd⟩:=pl;have lp:p<s.heap.objs.size:=a_ O;refine callType_codes (Q₁:=λB j=>B=.ref s.heap.objs.size/\j={ s with heap:=s.heap.push { cls:=.type "dict",data:=.dict #[]}}) F.kt_called_dict (F.kt_typeCall_dict_1 _) F.entry_dict_init (kt_code_dict_new _ ⟨rfl,rfl⟩) ?_;rintro B j ⟨rfl,rfl⟩;have f:(s.heap.push { cls:=.type "dict",data:=.dict #[]}).DictOf (kL X.prog X.w) s.heap.objs.size []:=Heap.DictOf.new s.heap;have g:(s.heap.push { cls:=.type "dict",data:=.dict #[]}).get? p=some o:=aM _ O;have L:Shared.TypeIs { s with heap:=s.heap.push { cls:=.type "dict",data:=.dict #[]}} (.ref p) "list" := ⟨o,g,k⟩;refine⟨f.typeIs,F.args_dict_init_2 _ _,?_⟩;unfold Builtin.«dict.__init__»;refine aG ?_;unfold Builtin.Dict.selfAndRest;refine aG (wpAny_notOrdered_dict f.typeIs ?_)
 skip
 refine aN ?_;show wpAny _ _ (Builtin.Dict.updateFrom "dict.__init__" s.heap.objs.size (.ref p) [] .none) _ _ _;unfold Builtin.Dict.updateFrom;refine aG<|gO L ?_;rw[aS ⋯];refine aG<|Ly g k hd G (show X.A.in1.in1.handled=none from I.ok.hd hc) λh' tk m=>?_;rw[aS<|by rfl];refine aG<|fH ?_;have z:h'.IsList p (rs.map Value.ref).toArray:=⟨o,m p o g,k,n,hd⟩;refine aG<|jf (s:={ s with heap:=h',toks:=tk }) z ?_;refine aN ⟨iG vI _,?_⟩;have sz:s.heap.objs.size<h'.objs.size:=a_<|m _ _<|bu _ rfl;have W:Walks X.prog X.w X.A.in1.in1 h'.objs.size [h'.objs.size,p] [h'.objs.size] (rs.map Value.ref).length (λi v=>(rs.map Value.ref)[i]?=some v) (λi h=>h.IsListIter h'.objs.size p i/\h.IsList p (rs.map Value.ref).toArray):=by
  have W:=Walks.list (prog:=X.prog) (w:=X.w) (A:=X.A.in1.in1) (I.ok.hd hc) h'.objs.size p (bC<|a_<|m p o g) (rs.map Value.ref).toArray;rw[aY]at W;dsimp[fQ]at W;exact W
 refine OA (d:=s.heap.objs.size) (its:=rs.map Value.ref) (ps:=N) W (bC sz) (cA<|bC lp) (by rw[aH];lia) () (rs.map Value.ref).length 0 _ () (bL _)
  ⟨⟨_,bu _ rfl,rfl,rfl⟩,z.push _⟩ ?_ (λi v hv=>?_) λh2 J hD hs=>⟨rfl,.ref s.heap.objs.size,_,I.laid (t':=J) (o:=.dK<|ptP ps) (λb ob P=>?_) (aL _) ?_,rfl,q _<|I.hok.fresh<|aL _⟩
 ·obtain⟨o,es,ep,e,rest⟩:=f;exact⟨o,es,ep,aM _<|m _ _ e,rest⟩
 ·rw[aP]at hv;obtain⟨r,hr,rfl⟩:=aW.mp hv;obtain⟨q,t,h1,Y,h2,h3⟩:=tp i r hr;have M:=a_ h2;exact⟨r,q,t,rfl,bC M,bC<|jv M sz,h1,Y,aM _<|m _ _<|aM _ h2,h3⟩
 ·have T:=a_ P;exact hs b ob (bC T) (bC<|jv T sz) (aM _<|m _ _<|aM _ P)
 ·refine GV (bM (HN ps [])<|by rw[dJ];lia) ?_ (aax kv .nil) hD;exact dc.mpr<|cA<|bC I.big
abbrev UR (ns:ag):Sx.Ord where
 lt i j:=decide (ns.getD i 0<ns.getD j 0)
 L8 i:=bA (by omega)
 tr i j k h1 h2:=bg (by have:=bU h1;have:=bU h2;omega)
 neg i j k h:=by
  have:=bU h;by_cases c:ns.getD i 0<ns.getD j 0
  ·exact .inl (bg c)
  ·exact .inr<|bg<|by omega
theorem Im:∀{vs:ba}{ns:ag},IntsAre vs ns->vs.length=ns.length/\∀i,i<vs.length->∃t,vs.getD i .none=.int (ns.getD i 0) t
 | _,_,.nil=>⟨rfl,λi h=>absurd h<|d8 _⟩
 | _,_,.cons n t h=>by
  obtain⟨h1,h2⟩:=Im h;refine⟨c9 (·+1) h1,λi d=>?_⟩
  cases i with
  | zero=>exact⟨t,rfl⟩
  | succ i=>exact h2 i<|by simpa using d
theorem Az{f:Nat->Int}{h:Nat->af}:∀(l:am),(∀i∈l,∃t,h i=.int (f i) t)->Vals (l.map λi=>V.int<|f i) (l.map h)
 | [],_=>.nil
 | i::l,e=>.cons (e i<|aV ..)<|Az l λj d=>e j<|aX _ d
def GP{s:aC}{H:Hp}{Q:VK}{h':aq}{tk:Nat}{vs:ba}{ns:ag}(I1:Inv X pins σ H { s with heap:=h',toks:=tk })(ro:Sx.RO ns.length)(hi:IntsAre vs ns)(hz:vs.length<=sizeLine)
  (q:∀l g,H l=none->Sx.Cl g 0 ns.length->Sx.So (UR ns) g 0 ns.length->Q (.ref l) (upd H l<|.lst<|(List.range ns.length).map λi=>V.int<|ns.getD (g i) 0)) :
  wpAny (model X.prog X.w) X.A.in1 (do
   let l <- newList vs
   let _ <- holding [l] (call (Value.builtin "list.sort") [l] [])
   ret l) (λfin s'=>∃v,fin=Fin.done (Flow.ret v)/\EP X pins σ Q v s') X.xe { s with heap:=h',toks:=tk }:=by
 obtain⟨p,d⟩:=Im hi;refine aG<|jm ?_;have f:(h'.push<|seqObj "list" vs.toArray 0).get? h'.objs.size=some (seqObj "list" vs.toArray 0):=bu _ rfl
 skip
 refine aG (cC<|cV slot_list_sort ⟨_,f,rfl⟩ entry_list_sort (Sx.yk (o:=UR ns) (kd:=oneType') f hz (by rw[p];exact ro) (λh2 z q'=>?_) (λh2 i j m B F z q'=>?_) λg hc hs=>⟨_,rfl,?_⟩)<|args_list_sort _)
 ·obtain⟨a,b,r,rfl⟩:∃a b r,vs=a::b::r:=by
   cases vs with
   | nil=>simp at h2
   | cons a vs=>cases vs with
    | nil=>simp at h2
    | cons b r=>exact⟨a,b,r,rfl⟩
  exact wpAny_of_eq (keyKind_ints hi) q'
 ·obtain⟨t,e1⟩:=d i m;obtain⟨u,e2⟩:=d j B;show wpAny _ _ (keyLt' oneType' (vs.getD i .none)<|vs.getD j .none) z F _;rw[e1,e2,keyLt'_oneType];exact Sx.Jx true q'
 ·rw[p]at hc hs ⊢;obtain⟨e,C⟩:=sortedHeap_at (out:=((List.range ns.length).map λi=>vs.getD (g i) .none).toArray) f;have old:∀b ob,h'.get? b=some ob->(sortedHeap (h'.push<|seqObj "list" vs.toArray 0) h'.objs.size vs ((List.range ns.length).map λi=>vs.getD (g i) .none).toArray).get? b=some ob:=λb ob k=>by
   rw[sortedHeap_old (bC<|a_ k)<|by rw[cG];exact dG<|a_ k];exact aM _ k
  refine aN ⟨_,rfl,.ref h'.objs.size,_,I1.laid (t':=tk) (o:=.lst<|(List.range ns.length).map λi=>V.int<|ns.getD (g i) 0) old (aL _) ?_,rfl,q _ g (I1.hok.fresh<|aL _) hc hs⟩;refine⟨by rw[aH,bQ];omega,(List.range ns.length).map λi=>vs.getD (g i) .none,e,Az _ λi hi=>d _ (by have:=(hc i (bL _)<|cg.mp hi).2;omega),C⟩
def KU{P:aj}{w:ah}{vs:List<|Key×af}:∀{acc:ba}{ns:ag},vs.map (·.1)=ns.map Sum.inl->acc.length=vs.length->(∀(j:Nat) v,acc[j]?=some v->∃k x,vs[j]?=some (k,x)/\(kL P w).is k v=true)->IntsAre acc ns:=by
 intro acc ns d f h
 induction acc generalizing vs ns with
 | nil=>cases vs with
  | nil=>cases ns with
   | nil=>exact .nil
   | cons=>cases d
  | cons=>cases f
 | cons a acc m=>cases vs with
  | nil=>cases f
  | cons v vs=>cases ns with
   | nil=>cases d
   | cons n ns=>
    rw[bH,bH,List.cons.injEq]at d;obtain⟨k,x,e1,e2⟩:=h 0 a rfl
    cases e1
    obtain⟨e3,g⟩:=d;have e3:k=Sum.inl n:=e3;subst e3;obtain⟨t,rfl⟩:=Value.isInt_shape (k:=n) (v:=a) e2;exact .cons n t<|m g (by simpa using f) λj v e=>h (j+1) v<|by simpa using e
def CD(hc:X.calm=true):j7 X (.builtin "sorted") (λxs H Q=>∃(d:ak) (kvs:List<|Key×V) (ns:ag),xs=[.ref d]/\H d=some (.dK kvs)/\kvs.map (λp=>p.1)=ns.map Sum.inl/\Sx.RO ns.length /\
  ∀l g,H l=none->Sx.Cl g 0 ns.length->Sx.So (UR ns) g 0 ns.length->Q (.ref l) (upd H l<|.lst<|(List.range ns.length).map λi=>V.int<|ns.getD (g i) 0)):=by
 fin2;obtain⟨d,kvs,ns,rfl,t,ek,C,q⟩:=h;kcj_m
 cases rx
 obtain⟨z,hd,vs,k,dd⟩:=OP I.hok t;obtain⟨ep,B⟩:=dd.dictAt;have G:kvs.length=vs.length:=k.length;have F:vs.map (·.1)=kvs.map (·.1):=by
  clear ek z dd B G t;unfold KV at k
  induction k with
  | nil=>rfl
  | cons h _ J=>rw[bH,bH,J,h.1]
 refine dM kind_sorted iT iU (iV _) ?_;unfold Builtin.«sorted»;refine aG (m:=checkCount "sorted" 1 1 _)<|aN ?_;refine aG<|iO (PySem.W.kdl_dict hd) (show X.A.in1.handled=none from I.ok.hd hc) B () λh' M acc L f=>?_;have K:acc.toList.length=vs.length:=by rw[d_];exact f.1
 exact GP (s:=s) (I.kept (t':=M) L) C (KU (P:=X.prog) (w:=X.w) (F.trans ek) K λj v e=>f.2 j v<|by rw[cZ]at e;exact e) () q
end
end L2
namespace Am
open PySem PySem.Spec PyProof.Rows L2
abbrev Tf:ae->Option (List<|Int×A)
 | []=>some []
 | .tup [.int k,x]::r=>(Tf r).map λps=>(k,x)::ps
 | _=>none
abbrev SI (ps:List<|Int×A):List (Int×A):=ps.foldl (λacc p=>yc acc p.1 p.2) []
section
variable {K:au}{ρ:bb}{H:Hp}
def TJ{x:A}(r:AVs K ρ H [x,y] vs):∃v w,vs=[v,w]/\AV K ρ H x v/\AV K ρ H y w:=by
 cases r with
 | cons h t=>cases t with
  | cons h' d=>cases d;exact⟨_,_,rfl,h,h'⟩
def Rg{x:A}(e:Tf (x::xs)=some ps):∃k y ps',x=.tup [.int k,y]/\Tf xs=some ps'/\ps=(k,y)::ps':=by
 unfold Tf at e;split at e
 ·rename_i e2;cases e2
 ·rename_i k y r e2
  cases e2
  obtain⟨ps',h1,h2⟩:=aW.mp e;exact⟨_,_,_,rfl,h1,h2.symm⟩
 ·cases e
def aaW:∀{xs:ae}{vs:List V}{ps:List<|Int×A},AVs K ρ H xs vs->Tf xs=some ps ->
  ∃(rs:bb) (qs:List<|Int×V),vs=rs.map V.ref/\rs.length=qs.length/\(∀(i:Nat) (r:ak) (q:Int×V),rs[i]?=some r->qs[i]?=some q->nj K H r [.int q.1,q.2]) /\
   ∀as bs,DI K ρ H as bs->DI K ρ H (ps.foldl (λacc p=>yc acc p.1 p.2) as) (qs.foldl (λacc p=>putK acc (Sum.inl p.1) p.2) bs):=by
 intro xs
 induction xs with
 | nil=>intro vs ps r e;cases r;cases e;exact⟨[],[],rfl,rfl,λi r q h=>by simp at h,λas bs h=>h⟩
 | cons x xs j=>
  intro vs ps r e;obtain⟨k,y,m,rfl,e1,rfl⟩:=Rg e
  cases r with
  | cons h t=>
   obtain⟨rs,qs,rfl,f,z,g⟩:=j t e1
   cases h with
   | @tup a _ us h r=>
    obtain⟨v,w,rfl,h1,h2⟩:=TJ r
    cases h1
    refine⟨a::rs,(k,w)::qs,rfl,by rw[bB,bB,f],λi r q e1 e2=>?_,λas bs d=>g _ _<|d.put h2 k⟩
    cases i with
    | zero=>cases e1;cases e2;exact nj.of h
    | succ i=>exact z i r q (by simpa using e1)<|by simpa using e2
end
section
variable {X:Cx}
abbrev CT (x:A)(S:jH):R A:=match x with
 | .ref n=>opt (jF S n) λxs=>opt (Tf xs) λps=>.ok (.ref S.length) (S++[.qi<|SI ps])
 | _=>.no
def Je(hc:X.calm=true):j7 X (.type "dict") (rN X<|f1 CT):=j7.imp (Gq hc) λvs H Q h0=>by
 kd_p;clear h0
 cases hv with
 | ref hp=>
  rename_i p n;kcf_m;obtain⟨ps,hb,h⟩:=jK h;obtain⟨us,h1,r⟩:=R.lst hp<|jU hn;obtain⟨m,g,rfl,d,q,k⟩:=aaW r hb;refine⟨p,m,g,rfl,pO.of h1,d,q,λl f=>?_⟩;obtain⟨ex,j,d⟩:=R.aab (xs:=SI ps) (vs:=ptP g) f<|k [] [] trivial;exact h _ _ _ ex j<|.ref d
 | _=>exact h.elim
def Ua{ns:ag}{g:Nat->Nat}(c:Sx.Cl g 0 ns.length)(so:Sx.So (UR ns) g 0 ns.length):(List.range ns.length).map (λi=>ns.getD (g i) 0)=sortI ns:=by
 refine Ss ?_ ?_ (Ao ns)
 ·refine List.Perm.trans ?_ (sortI_perm ns).symm;have p:=t_ (N:=ns.length) (g:=g) (λi k=>(c i (bL _) k).2) λi j d f z=>by
   have:=so i j (bL _) d f;rw[z]at this;exact this.L8
  have:=p.map λi=>ns.getD i 0;rw[bh,range_getD]at this;exact this
 ·rw[bZ];intro i j k f d;rw[aH,bQ]at k f;rw[cI,cI,dw,dw];have:=eL (so i j (bL _) d f).ge
  lia
@[irreducible] noncomputable def big:Nat:=2 ^ 4096
theorem y_:big=2 ^ 4096:=by unfold big;rfl
def FU{i:Int}(h:i.natAbs<big):Builtin.Int.intBits i<=2 ^ 20:=by
 rw[y_]at h;exact bM (intBits_le h) ⋯
abbrev Jl (a b:A)(S:jH):R A:=match a,b with
 | .int i,.int j=>gd (i.natAbs<big/\j.natAbs<big) (.ok (.int<|i * j) S)
 | _,_=>.no
def YL:oW X (binaryOp .Mult) (r2 X Jl):=λpins s σ H x y v u Q I rx ry h9=>by
 w_up
 cases va with
 | int i=>cases vb with
  | int j=>
   obtain⟨⟨h1,h2⟩,h⟩:=j4 h;obtain⟨t,rfl⟩:∃t,v=Value.int i t:=rx;obtain⟨d,rfl⟩:∃t,u=Value.int j t:=ry;exact mul_int ⟨.int _,H,I.tok _,⟨_,rfl⟩,h _ _ _ .refl R<|.int _⟩<|IntMulOk.of_bits (FU h1)<|FU h2
  | _=>exact h.elim
 | _=>exact h.elim
end
def IX:bootBuiltins "dict" = some (.type "dict"):=by decide +kernel
abbrev kA (p:Int×Int):A:=.ktu [.int p.1,.int p.2]
abbrev Pd (K:au):af->Option (Int×Int)
 | .ref b=>match K.lookup b with
  | some ⟨.type "tuple",none,.seq its _,_⟩=>match its.toList with
   | [.int i _,.int j _]=>some (i,j)
   | _=>none
  | _=>none
 | _=>none
abbrev Gj (K:au):ba->Option (List<|Int×Int)
 | []=>some []
 | v::vs=>(Pd K v).bind λp=>(Gj K vs).map λps=>p::ps
abbrev Zg (K:au)(a:ak):Option (List<|Int×Int):=match K.lookup a with
 | some ⟨.type "list",none,.seq its _,_⟩=>if its.size<=sizeLine then Gj K its.toList else none
 | _=>none
def OX{K:au}{v:af}{p:Int×Int}(h:Pd K v=some p):∃b,v=.ref b/\KTp K b [.int p.1,.int p.2]:=by
 unfold Pd at h;split at h
 ·rename_i b;refine⟨b,rfl,?_⟩;split at h
  ·rename_i d n f e;split at h
   ·rename_i i t j u e2
    cases h
    refine⟨_,d,n,e,rfl,rfl,rfl,?_,?_⟩
    ·rw[<- d_,e2];show 2<=sizeLine;decide
    ·rw[e2];exact .cons ⟨t,rfl⟩<|.cons ⟨u,rfl⟩ .nil
   ·cases h
  ·cases h
 ·cases h
def KD{K:au}{H:Hp}:∀{vs:ba}{ps:List<|Int×Int},Gj K vs=some ps->∃us:List V,Vals us vs/\AVs K ρ H (ps.map kA) us:=by
 intro vs
 induction vs with
 | nil=>intro ps h;cases h;exact⟨[],.nil,.nil⟩
 | cons v vs f=>
  intro ps h;obtain⟨p,h1,h⟩:=b_.mp h;obtain⟨j,h2,rfl⟩:=aW.mp h;obtain⟨us,h3,g⟩:=f h2;obtain⟨b,rfl,d⟩:=OX h1;exact⟨.ref b::us,.cons rfl h3,.cons (.ktu d<|.cons (.int _)<|.cons (.int _) .nil) g⟩
def Xl{K:au}{H:Hp}{a:ak}{ps:List<|Int×Int}(h:Zg K a=some ps):AV K ρ H (.frz<|ps.map kA) (.ref a):=by
 unfold Zg at h;split at h
 ·rename_i d n g e;split at h
  ·rename_i f;obtain⟨us,h1,h2⟩:=KD (ρ:=ρ) (H:=H) h;exact .frz (.inr ⟨_,d,n,e,rfl,rfl,rfl,f,h1⟩) h2
  ·cases h
 ·cases h
def Pb{X:Cx}{x:Str}{a:ak}{ps:List<|Int×Int}(hm:X.mg x=some (.ref a))(hk:Zg X.K a=some ps)(hg:Gl X x<|>ε)(hd:(x == ("__debug__" : Str))=false<|>δ):AE X (.Name x pos) (eC<|.frz<|ps.map kA):=
 PE.imp (CY (v:=.ref a) hg hm rfl hd) λσ H Q h9=>by
  z_go;exact h ρ H _ .refl R<|Xl hk
section
abbrev ZR (p:ag×A):A:=.tup<|p.1.map .int
theorem IU{K:au}{H:Hp}:∀{kvs:List<|ag×A}{ks:List<|List Key×V},DV K ρ H kvs ks->ks.map (λp=>p.1)=(kvs.map Prod.fst).map (λks=>ks.map Sum.inl)
 | [],[],_=>rfl
 | a::kvs,b::ks,⟨z,t⟩=>by
  have:=IU t;show b.1::ks.map _=a.1.map Sum.inl::_;rw[this,z.1]
end
end Am
namespace L2
open PySem PySem.Spec PyProof.Rows
def Fg(ek ev tg iter:aE)(ifs:List aE)(scope:Scope)(pos:Pos)(it:af)(d:ak)(env:Env) :
  compTurn (.DictComp ek ev [⟨tg,iter,ifs,0⟩] scope pos) 0 it (.ref d) env=(do
   standAt iter.pos
   match <- pyNext it with
   | none=>pure (.done .next)
   | some v=>
    letOwnedTupleGo tg it v
    assign tg env v
    let mut ok:=true
    for c in ifs do
     if ok then ok <- isTrue c env (eval c env)
    if ok then
     (do
      let kv <- eval ek env
      let vv <- holding [kv] (eval ev env)
      standAt { ek.pos with endLine:=ev.pos.endLine,endCol:=ev.pos.endCol }
      holding [kv,vv] (dictSet d kv vv))
    again (.compLoop (.DictComp ek ev [⟨tg,iter,ifs,0⟩] scope pos) 0 it (.ref d) env)):=by rfl
section
variable {prog:aj}{w:ah}{A:aA}{R:Result->aC->Prop}{s:aC}
def vK{ev iter:aE}{rest:List Comprehension}{acc:af}{env:Env}
  (h0:codeAny (model prog w) A (.compLoop (.DictComp ek ev (⟨tg,iter,ifs,0⟩::rest) scope pos) 0 it acc env) R s)
  (h:wpAny (model prog w) A (pyIter it) (λit' s'=>codeAny (model prog w) A (.compLoop (.DictComp ek ev (⟨tg,iter,ifs,0⟩::rest) scope pos) 0 it' acc env) R s')
   (notedBy (model prog w) A env λx s'=>R (.error x) s') s) :
  codeAny (model prog w) A (.compStart (.DictComp ek ev (⟨tg,iter,ifs,0⟩::rest) scope pos) 0 it acc env) R s:=by
 refine codeAny_of_tree ?_;show wpAny _ _ ((compStart (.DictComp ek ev (⟨tg,iter,ifs,0⟩::rest) scope pos) 0 it acc env).onRaise λx=>do noteFrame x env;standAt theWindowsPlace) _ _ s;refine wpAny_notedAt ?_;unfold compStart;show wpAny _ _ (ask >>= _) _ _ s;refine aG<|wpAny_askSetting<|wpAny_ite ?_;split
 ·first
   | exact aG (aN<|aN<|anI rfl h0)
   | exact aN<|anI rfl h0
 ·first
   | exact aG (fH<|aG<|fj<|aG<|cY h (λit' s' h'=>aN<|anI rfl h') λ_ _ x=>x)
   | (refine aG<|fH ?_;show wpAny _ _ (standAt iter.pos >>= _) _ _ s;exact aG<|fj<|aG<|cY h (λit' s' h'=>aN<|anI rfl h') λ_ _ x=>x)
end
section
variable {X:Cx}{pins:bo}{σ:St}{H H':Hp}{s:aC}{a:ak}{y v:V}{u r:af}{A:aA}{E:af->aC->Prop}
def KO{Q:Unit->aC->Prop}(hu:A.units+1<cLine)(I:Inv X pins σ H s)(g:yK H a y v H')(ry:RelV y u)(rv:RelV v r)(h:∀s',Inv X pins σ H' s'->Q Unit.unit s') :
  wpAny (model X.prog X.w) A (dictSet a u r) Q E s:=by
 rcases g with⟨kvs,k,e,j,l,f⟩|⟨kvs,k,b,e,j,C,l,f⟩
 ·subst j f;obtain⟨z,t,vs,d,dd⟩:=OP I.hok e;have m:vs.length<=sizeLine:=by rw[<- d.length];exact z
  have p:(putK kvs k v).length<=sizeLine:=by have:=pU kvs k v;lia
  refine wpAny_dictSet_pairs (hsz:=m) (Av ry) dd λh' dd' hs=>h _ ?_;have G:∃q,h'.get? a=some q:=let⟨q,_,_,hq,_⟩:=dd';⟨q,hq⟩
  exact tD I (by rw[e];exact True.intro) hs G<|GV p t (d.put k rv) dd'
 ·subst j f
  cases(show u=Value.ref b from ry)
  obtain⟨z,t,xs,d,dd⟩:=B0 I.hok e;have m:xs.length<=sizeLine:=by rw[<- iF d];exact z
  have p:(putK kvs k v).length<=sizeLine:=by have:=pU kvs k v;lia
  refine wpAny_dictSet_heap (hsz:=m) (show A.units<cLine by lia) (tR I.hok C) dd λh' dd' hs=>h _ ?_;obtain⟨q,es,ep,hq,h2,h3,F,_,J⟩:=dd';refine tD I (by rw[e];exact True.intro) hs ⟨q,hq⟩ ⟨p,t,_,(d.put k C rv).keeps λc ys B=>?_,q,es,ep,hq,h2,h3,F,J⟩;rw[jI<|HR B e λz=>nomatch z];exact B
end
abbrev W9 (ob:HO)(cap:List<|bj)(g:TG)(tc:TT)(tk tv:TE)(σ:St)(Q:VK)(J:It)(H1:Hp):Prop:=∀D,H1 D=none ->
 ∃W:Nat->Nat->St->Hp->Prop,(∃m,W 0 m (cap.map<|Up σ)<|upd H1 D ob)/\∀i m j H',W i m j H' ->
  (J.stop i H'/\Q (.ref D) H')\/(J.go i H'/\∀x H2,J.yld i H' x H2->g x j H2 λd H3=>tc d H3 λb p=>
   if b=true then tk d p λy q=>tv d q λz t=>∃k,yK t D y z k/\∃f,f<m/\W (i+1) f d k
   else ∃f,f<m/\W (i+1) f d p)
abbrev tDC (ob:HO)(cap:List<|bj)(wi:TI)(g:TG)(tc:TT)(tk tv:TE):TE:=λσ H Q=>wi σ H<|W9 ob cap g tc tk tv σ Q
def JU{ok:Cx->Prop}{X:Cx}{use:Option<|af->Sem Unit}{Q':af->aC->Prop}{iter ev:aE}{N:ar}{wi:TI}{g:TG}{tc:TT}{tk tv:TE}{ob:HO}(hob:∀{P:aj}{w:ah}{H:Hp}(h:aq),sysModules<h.objs.size->kG P w H (h.push { cls:=.type "dict",data:=.dict #[]}) h.objs.size ob)(hu:X.A.units+1<cLine)(S:CpScope X scope N cap)(hok:∀C s₀ H₀ ex,(∀a o u,X.H₀ a=some (.frz o u)->H₀ a=some (.frz o u))->ok (kJ X scope N C s₀ H₀ ex))(hi:Ut ok X tg iter wi)
  (hg:∀C s₀ H₀ ex,PG (kJ X scope N C s₀ H₀ ex) tg g) (ht:∀C s₀ H₀ ex,Nh (kJ X scope N C s₀ H₀ ex) ifs tc) (hk:∀C s₀ H₀ ex,PE (kJ X scope N C s₀ H₀ ex) ek tk) (hv:∀C s₀ H₀ ex,PE (kJ X scope N C s₀ H₀ ex) ev tv)
  (hs:(∀x,foldedSetIterable iter X.env x=pure x)<|>ζ):∀(pins:bo) (s:aC) (σ:St) (H:Hp) (Q:VK),Inv X pins σ H s->tDC ob cap wi g tc tk tv σ H Q ->
  (∀(s6:aC) (C D:ak) (H5:Hp) (m:Str->bd),s6.heap.Ns C m->vL X pins H5 C->(∀h',Heap.SameBut C s6.heap h'->Inv X pins σ H5 { s6 with heap:=h' })->Q (.ref D) H5->∀v,compPost (model X.prog X.w) X.A X.xe use Q' (.ref D) C (.ok v) s6) ->
  wpAny (model X.prog X.w) X.A (comprehension (.DictComp ek ev [⟨tg,iter,ifs,0⟩] scope pos) scope X.env (firstIterPos [⟨tg,iter,ifs,0⟩] pos) newDict (firstAsync [⟨tg,iter,ifs,0⟩]) (firstIter [⟨tg,iter,ifs,0⟩] X.env) use) Q' X.xe s:=by
 intro pins s σ H Q I h hfin;kst_p;refine wpAny_comprehension_free (use:=use) rfl hs (Ay hfree) S.kind S.nm<|mR (hi pins s σ H _ I h) λxv s1 h1=>mR h1 λitv f h2=>?_;obtain⟨it,fp,tn,J,H2,rfl,I2,T,st2,f2,h2⟩:=h2;refine cK<|J9 λU k old j=>?_;obtain⟨W,⟨m0,w0⟩,turn⟩:=h2 f.heap.objs.size I2.fresh;dsimp only at k old j ⊢;have I3:Inv X pins σ (upd H2 f.heap.objs.size ob) { f with heap:=f.heap.push { cls:=.type "dict",data:=.dict #[]}}:=I2.laid (a:=f.heap.objs.size) (o:=ob) (h':=f.heap.push { cls:=.type "dict",data:=.dict #[]}) (t':=f.toks) (λ_ _ q=>aM _ q) (aL _)<|hob f.heap I2.big;have hfp:∀b∈fp,∃o,f.heap.get? b=some o:=λb hb=>by
  obtain⟨o,e,_⟩:=T.obj 0 _ st2 b hb;exact⟨o,e⟩
 have neD:∀b∈fp,b≠f.heap.objs.size:=λb hb=>by
  obtain⟨o,e⟩:=hfp b hb;exact bC<|a_ e
 have f3:∀b∈fp,vL X pins (upd H2 f.heap.objs.size ob) b:=λb hb=>⟨by rw[jI<|neD b hb];exact(f2 b hb).1,(f2 b hb).2⟩;have hDC:f.heap.objs.size≠(f.heap.push { cls:=.type "dict",data:=.dict #[]}).objs.size:=by rw[cG];exact bC (dz _)
 have I4:=Q7 (tk:=f.toks+([]:List<|Str×af).length) (fp:=fp) S I3 f3 (λb hb=>by
  obtain⟨o,e⟩:=hfp b hb;exact⟨o,aM _ e⟩) k j old
 have st4:tn 0 U:=T.keep _ _ _ st2 λb hb o e=>old b o<|aM _ e;have hc:=hok (f.heap.push { cls:=.type "dict",data:=.dict #[]}).objs.size { f with heap:=f.heap.push { cls:=.type "dict",data:=.dict #[]}} (upd H2 f.heap.objs.size ob) fp λa o u e=>by
  have z:=I2.base.frzs a o u e;rw[jI λq=>by rw[q,I2.fresh]at z;cases z];exact z
 have G:∀{H':Hp},(∀b∈fp,H' b=none)->∀b∈fp,vL (kJ X scope N (f.heap.push { cls:=.type "dict",data:=.dict #[]}).objs.size { f with heap:=f.heap.push { cls:=.type "dict",data:=.dict #[]}} (upd H2 f.heap.objs.size ob) fp) [] H' b:=λhn b hb=>by
  have ok:=I4.ok;refine⟨hn b hb,(ok.exf b hb).1,ok.exfs b hb,.inl hb,λx c e=>(ok.exf b hb).2 x c e,λp hp=>nomatch hp⟩
 have O:∀s4:aC,s4={ f with heap:=U,toks:=f.toks+([]:List<|Str×af).length } ->
   codeAny (model X.prog X.w) X.A (.compLoop (.DictComp ek ev [⟨tg,iter,ifs,0⟩] scope pos) 0 (.ref it) (.ref f.heap.objs.size)<|compEnvC scope (cellsFrom ((f.heap.push { cls:=.type "dict",data:=.dict #[]}).objs.size+1) scope.names<|vJ X.env scope.names []) (f.heap.push { cls:=.type "dict",data:=.dict #[]}).objs.size X.env)
    (compPost (model X.prog X.w) X.A X.xe use Q' (.ref f.heap.objs.size) (f.heap.push { cls:=.type "dict",data:=.dict #[]}).objs.size) s4:=by
  rintro s4 rfl;refine codeAny_loop rfl (λn s'=>∃i L H',Inv (kJ X scope N (f.heap.push { cls:=.type "dict",data:=.dict #[]}).objs.size { f with heap:=f.heap.push { cls:=.type "dict",data:=.dict #[]}} (upd H2 f.heap.objs.size ob) fp) [] L H' s'/\tn i s'.heap/\(∀b∈fp,H' b=none)/\W i n L H') (λn s5 hI=>?_) m0 ⟨0,_,_,I4,st4,λb hb=>(f3 b hb).1,w0⟩;obtain⟨i,M,H5,I5,st5,fr5,w5⟩:=hI;show wpAny _ X.A ((compTurn (.DictComp ek ev [⟨tg,iter,ifs,0⟩] scope pos) 0 (.ref it) (.ref f.heap.objs.size)<|compEnvC scope (cellsFrom ((f.heap.push { cls:=.type "dict",data:=.dict #[]}).objs.size+1) scope.names<|vJ X.env scope.names []) (f.heap.push { cls:=.type "dict",data:=.dict #[]}).objs.size X.env).onRaise λx=>do noteFrame x _;theTreesLotGoes x) _ _ s5;refine wpAny_noted ?_;rw[Fg];refine aG (fj<|aG ?_)
  rcases turn i n M H5 w5 with⟨stop,q⟩|⟨go,step⟩
  ·refine mR (T.done (kJ X scope N (f.heap.push { cls:=.type "dict",data:=.dict #[]}).objs.size { f with heap:=f.heap.push { cls:=.type "dict",data:=.dict #[]}} (upd H2 f.heap.objs.size ob) fp) rfl rfl rfl hc i [] s5 M H5 _ I5 (G fr5) st5 stop) λr s6 h9=>?_;obtain⟨hr,I6⟩:=h9;subst hr;obtain⟨m6,hn6,_⟩:=I6.loc;refine aN<|hfin s6 _ _ H5 m6 hn6 (I3.AX (aL _) I6.free) (λh' sb=>?_) q _;have V:=I6.base;have nC:∀b o,(f.heap.push { cls:=.type "dict",data:=.dict #[]}).get? b=some o->b≠(f.heap.push { cls:=.type "dict",data:=.dict #[]}).objs.size:=λb o e=>bC<|a_ e;refine I3.JJ (ch:=fp) I6.os ⟨λb o e n hb Z=>?_,λb o e n hb Z=>?_,λb o e n Z=>?_,λb o e Z=>?_,V.tups,V.frzs,V.tbls⟩ ?_ I6.bare ?_
   ·exact sb.extBut b o (nC b o e) (V.keep b o e n hb Z)
   ·obtain⟨sl,z⟩:=V.slot b o e n hb Z;exact⟨sl,sb.extBut b _ (nC b o e) z⟩
   ·exact V.free b o e n Z
   ·obtain⟨o',z⟩:=V.there b o e Z;exact⟨o',sb.extBut b _ (nC b o e) z⟩
   ·intro b o e;have hb:∀c v,H5 c=some v->c≠(f.heap.push { cls:=.type "dict",data:=.dict #[]}).objs.size:=λc v e z=>by
     rw[z]at e;have:=I6.free;rw[show H5 (f.heap.push { cls:=.type "dict",data:=.dict #[]}).objs.size=none from this]at e
     cases e
    refine(I6.hok b o e).stay (λc v hc q=>sb.extBut c v ?_ q) (λ_ q=>q) λ_ _ q=>q
    rcases hc with z|z
    ·rw[z];exact hb b o e
    ·exact hb c _ z
   ·intro b hb;obtain⟨_,z1,_,z3,z4,z5⟩:=f3 b hb;exact⟨z3,z1,z4,z5⟩
  ·refine mR (T.item (kJ X scope N (f.heap.push { cls:=.type "dict",data:=.dict #[]}).objs.size { f with heap:=f.heap.push { cls:=.type "dict",data:=.dict #[]}} (upd H2 f.heap.objs.size ob) fp) rfl rfl rfl hc i [] s5 M H5 _ I5 (G fr5) st5 go) λr s6 h9=>?_;obtain⟨u,hr,h6⟩:=h9;subst hr;refine aG<|mR h6 λ_ s7 ⟨x,H7,I7,r7,y7,Y,fr7⟩=>?_;have I7':=I7.pinned (G fr7)<|T.obj _ _ Y;refine aG<|FP (hg _ _ _ fp _ s7 M H7 x u _ I7' r7<|step x H7 y7) λ_ s8 ⟨t,H8,I8,q8⟩=>?_;refine aG<|FP (ht _ _ _ fp _ s8 t H8 _ I8 q8) λok s9 ⟨H9,I9,q9⟩=>?_;have again:∀{B:aC} {F:Hp},Inv (kJ X scope N (f.heap.push { cls:=.type "dict",data:=.dict #[]}).objs.size { f with heap:=f.heap.push { cls:=.type "dict",data:=.dict #[]}} (upd H2 f.heap.objs.size ob) fp) ([]++yj fp s7.heap) t F B->(∃m',m'<n/\W (i+1) m' t F) ->
     ∃m,m<n/\∃i L H',Inv (kJ X scope N (f.heap.push { cls:=.type "dict",data:=.dict #[]}).objs.size { f with heap:=f.heap.push { cls:=.type "dict",data:=.dict #[]}} (upd H2 f.heap.objs.size ob) fp) [] L H' B/\tn i B.heap/\(∀b∈fp,H' b=none)/\W i m L H':=λ{B F} K h9=>by
    obtain⟨m',hm,w10⟩:=h9;refine⟨m',hm,i+1,t,F,K.qC,T.keep _ _ _ Y λb hb o e=>(K.pin (b,o)<|bI _<|bI _<|ni hb e).1,λb hb=>?_,w10⟩;obtain⟨o,e,d⟩:=T.obj _ _ Y b hb;exact(K.pin (b,o)<|bI _<|bI _<|ni hb e).2.1
   cases ok with
   | false=>
    rw[aQ bF]at q9;exact aN ⟨rfl,again I9 q9⟩
   | true=>
    rw[aS rfl]at q9;refine aG<|aG<|FP (hk _ _ _ fp _ s9 t H9 _ I9 q9) λy B ⟨v10,F,K,r10,q10⟩=>?_;refine aG<|cC<|FP (hv _ _ _ fp _ B t F _ K q10) λz s11 ⟨v11,H11,I11,r11,H12,dp,w12⟩=>?_;refine aG<|fj<|cC ?_;exact KO (X:=kJ X scope N _ _ _ fp) hu I11 dp r10 r11 λs12 I12=>aN ⟨rfl,again I12 w12⟩
 exact vK (O _ rfl)<|T.self _ 0 _ _ _ st4<|O _ rfl
def A2{env:Env}(ek ev gens scope pos):eval (.DictComp ek ev gens scope pos) env =
  comprehension (.DictComp ek ev gens scope pos) scope env (firstIterPos gens pos) newDict (firstAsync gens) (firstIter gens env):=rfl
def Xa{ok:Cx->Prop}{X:Cx}{iter ev:aE}{N:ar}{wi:TI}{g:TG}{tc:TT}{tk tv:TE}{ob:HO}(hob:∀{P:aj}{w:ah}{H:Hp}(h:aq),sysModules<h.objs.size->kG P w H (h.push { cls:=.type "dict",data:=.dict #[]}) h.objs.size ob)(hu:X.A.units+1<cLine)(S:CpScope X scope N cap)(hok:∀C s₀ H₀ ex,(∀a o u,X.H₀ a=some (.frz o u)->H₀ a=some (.frz o u))->ok (kJ X scope N C s₀ H₀ ex))(hi:Ut ok X tg iter wi)
  (hg:∀C s₀ H₀ ex,PG (kJ X scope N C s₀ H₀ ex) tg g) (ht:∀C s₀ H₀ ex,Nh (kJ X scope N C s₀ H₀ ex) ifs tc) (hk:∀C s₀ H₀ ex,PE (kJ X scope N C s₀ H₀ ex) ek tk) (hv:∀C s₀ H₀ ex,PE (kJ X scope N C s₀ H₀ ex) ev tv)
  (hs:(∀x,foldedSetIterable iter X.env x=pure x)<|>ζ):PE X (.DictComp ek ev [⟨tg,iter,ifs,0⟩] scope pos) (tDC ob cap wi g tc tk tv):=by
 gn_on;rw[A2];exact JU (use:=none) (Q':=EP X pins σ Q) hob hu S hok hi hg ht hk hv hs pins s σ H Q I h λk C D f m hn j inv q v=>⟨m,hn,λh' d=>⟨.ref D,f,inv h' d,rfl,q⟩⟩
def Z0{X:Cx}{iter ev:aE}{N:ar}{wi:TI}{g:TG}{tc:TT}{tk tv:TE}{ob:HO}(hob:∀{P:aj}{w:ah}{H:Hp}(h:aq),sysModules<h.objs.size->kG P w H (h.push { cls:=.type "dict",data:=.dict #[]}) h.objs.size ob)(hu:X.A.units+1<cLine)(hc:X.calm=true)(S:CpScope X scope N cap)(hi:PI X tg iter wi)
  (hg:∀C s₀ H₀ ex,PG (kJ X scope N C s₀ H₀ ex) tg g) (ht:∀C s₀ H₀ ex,Nh (kJ X scope N C s₀ H₀ ex) ifs tc) (hk:∀C s₀ H₀ ex,PE (kJ X scope N C s₀ H₀ ex) ek tk) (hv:∀C s₀ H₀ ex,PE (kJ X scope N C s₀ H₀ ex) ev tv)
  (hs:(∀x,foldedSetIterable iter X.env x=pure x)<|>ζ):PE X (.DictComp ek ev [⟨tg,iter,ifs,0⟩] scope pos) (tDC ob cap wi g tc tk tv):=
 Xa hob hu S (λ_ _ _ _ _=>hc) hi.g hg ht hk hv hs
end L2
namespace Am
open PySem PySem.Spec PyProof.Rows L2
def Z9{α:Type}{c:Prop}[Decidable c]{r:R α}{a:α}(h:gd c r=.ok a S):c/\r=.ok a S:=by
 unfold gd at h;by_cases hc:c
 ·rw[aS hc]at h;exact⟨hc,h⟩
 ·rw[aQ hc]at h;cases h
def O3{α:Type}{l m:List α}{n:Nat}{p:α}(h:l <+: m)(e:l[n]?=some p):m[n]?=some p:=by
 obtain⟨t,rfl⟩:=h;rw[bz (aJ.mp e).1,e]
abbrev yb (st:A->A->A->jH->R Unit)(s:Src)(g:Tg)(t:Te)(ek ev:Ex)(n:Nat):Nat->Nat->ae->jH->R (ae)
 | 0,_=>λτ S=>if s.fin S then .ok τ S else .no
 | k+1,i=>λτ S=>opt (s.get i S) λx=>(g x τ S).ny λd S1=>(t d S1).ny λb S2=>match b with
  | true=>(ek d S2).ny λy S3=>(ev d S3).ny λz j=>(st (.ref n) y z j).ny λ_ f=>yb st s g t ek ev n k (i+1) d f
  | false=>yb st s g t ek ev n k (i+1) d S2
abbrev Ml (o:O)(st:A->A->A->jH->R Unit)(cap:List<|bj)(src:Ic)(g:Tg)(t:Te)(ek ev:Ex):Ex:=λτ S=>(src τ S).bind λs S1=>(yb st s g t ek ev S1.length s.k 0 (k9 cap τ)<|S1++[o]).ny λ_ S2=>.ok (.ref S1.length) S2
def LO{st:A->A->A->jH->R Unit}{s:Src}{g:Tg}{t:Te}{ek ev:Ex}{n k:Nat}{T:Prop}(h:yb st s g t ek ev n (k+1) i τ S=.ok τ' S')
  (q:∀x τ1 S1 b S2,s.get i S=some x->g x τ S=.ok τ1 S1->t τ1 S1=.ok b S2->(b=true->∃y S3 z S4 u S5,ek τ1 S2=.ok y S3/\ev τ1 S3=.ok z S4/\st (.ref n) y z S4=.ok u S5/\yb st s g t ek ev n k (i+1) τ1 S5=.ok τ' S')->(b=false->yb st s g t ek ev n k (i+1) τ1 S2=.ok τ' S')->T):T:=by
 obtain⟨x,j,h⟩:=Cj h;obtain⟨τ1,S1,h1,h⟩:=oR h;obtain⟨b,S2,h2,h⟩:=oR h;refine q x τ1 S1 b S2 j h1 h2 (λhb=>?_) λhb=>?_
 ·subst hb;obtain⟨y,S3,h3,h⟩:=oR h;obtain⟨z,S4,d,h⟩:=oR h;obtain⟨u,S5,f,h⟩:=oR h;exact⟨y,S3,z,S4,u,S5,h3,d,f,h⟩
 ·subst hb;exact h
structure DKind (K:au)(o:O)(ob:HO)(st:A->A->A->jH->R Unit):Prop where
 obj:∀{P:aj} {w:ah} {H:Hp} (h:aq),sysModules<h.objs.size->kG P w H (h.push { cls:=.type "dict",data:=.dict #[]}) h.objs.size ob
 new:∀{ρ:bb} {H:Hp} {S:jH} {p:ak},Rel K ρ H S->H p=none->Ext ρ (ρ++[p]) H (upd H p ob)/\Rel K (ρ++[p]) (upd H p ob) (S++[o])/\(ρ++[p])[S.length]?=some p
 put:∀{ρ:bb} {H:Hp} {S S':jH} {n:Nat} {p:ak} {y z:A} {vy vz:V} {u:Unit},Rel K ρ H S->ρ[n]?=some p->AV K ρ H y vy->AV K ρ H z vz->st (.ref n) y z S=.ok u S'->∃H',yK H p vy vz H'/\Ext ρ ρ H H'/\Rel K ρ H' S'
def OY{K:au}:DKind K (.dct []) (.dT []) n5:=by
 refine⟨λh hb=>zz h hb,λR hp=>R.aaf (xs:=[]) (vs:=[]) hp trivial,λ{ρ H S S' n p y z vy vz u} R hp ay az h=>?_⟩;unfold n5 at h
 cases ay with
 | @tup q xs vs hq r=>
  obtain⟨kvs,hn,h⟩:=Cj h;obtain⟨ns,j,h⟩:=Cj h;obtain⟨g,h⟩:=Z9 h
  cases h
  obtain⟨ks,e,d⟩:=R.dct hp<|lO hn;have z:=pQ r j;subst z;rw[<- vh]at hq;obtain⟨ex,f⟩:=R.putD hp (lO hn)<|d.put az ns;exact⟨_,yK.t e hq<|by rw[<- d.length];exact g,ex,f⟩
 | _=>cases h
section
variable {X:Cx}{pos:Pos}{tg iter ek ev:aE}{ifs:List aE}{scope:Scope}{N:ar}{cap:List (bj)}{src:Ic}{g:Tg}{t:Te}{ck cv:Ex}{o:O}{ob:HO}{st:A->A->A->jH->R Unit}
def Pf(dk:DKind X.K o ob st)(σ:L2.St)(H:Hp)(Q:VK)(h:tE X (Ml o st cap src g t ck cv) σ H Q):tDC ob cap (tI X src) (Wl X.K g) (Vf X.K t) (Rw X.K ck) (Rw X.K cv) σ H Q:=by
 kl_no;refine⟨ρ,S,τ,R,r,jJ (jO h) .refl λs S1 h1 ρ1 H1 J e1 R1 jr D hD=>?_⟩;obtain⟨C,S2,V,h1⟩:=zQ h1;have h1:yE X ρ H Q (.ref S1.length) S2:=h1;obtain⟨eD,RD,N⟩:=dk.new R1 hD;refine⟨λi m Y H'=>∃ρ' S' G,i+m=s.k/\Ext (ρ1++[D]) ρ' (upd H1 D ob) H'/\Rel X.K ρ' H' S'/\SR X.K ρ' H' G Y/\yb st s g t ck cv S1.length m i G S'=.ok C S2,⟨s.k,ρ1++[D],S1++[o],k9 cap τ,(),.refl,RD,Vc ((r.ext e1).ext eD) cap,V⟩,?_⟩;rintro i m σ3 H3 ⟨ρ3,S3,F,hm,e3,R3,r3,d⟩;have T:ρ3[S1.length]?=some D:=O3 e3.pre N;have j:=eD.trans e3
 cases m with
 | zero=>
  left;have d:(if s.fin S3 then Am.R.ok F S3 else .no)=.ok C S2:=d
  cases hf:s.fin S3 with
  | false=>rw[hf]at d;cases d
  | true=>
   rw[hf]at d
   cases d
   exact⟨by rw[show i=s.k by lia];exact jr.stop _ H3 ρ3 j.toExt0 R3 hf,h1 ρ3 H3 _ (e1.trans j) R3<|.ref T⟩
 | succ m=>
  right;refine LO d λx f S4 b S5 hx O U hT hF=>?_;have jg:=jr.go i S3 H3 ρ3 x j.toExt0 R3 hx;refine⟨jg.1,λv H4 y=>?_⟩;obtain⟨e4,R4,v4⟩:=jg.2 v H4 y;refine⟨ρ3,S3,F,x,f,S4,R4,r3.ext e4,v4,O,λρ5 H5 σ5 e5 R5 L=>⟨ρ5,S4,f,b,S5,R5,L,U,λB H6 M R6=>?_⟩⟩;have q:=(e4.trans e5).trans M
  cases b with
  | false=>
   dsimp only;rw[aQ bF];exact⟨m,dz _,B,S5,f,(),e3.trans q,R6,L.ext M,hF rfl⟩
  | true=>
   dsimp only;rw[aS rfl];obtain⟨y,S6,z,S7,u,S8,hy,hz,hs,cg8⟩:=hT rfl;refine⟨B,S5,f,y,S6,R6,L.ext M,hy,λW H7 vy Z R7 a7=>⟨W,S6,f,z,S7,R7,L.ext<|M.trans Z,hz,λP H8 vz e8 R8 a8=>?_⟩⟩;have p:=(q.trans Z).trans e8;obtain⟨H9,dp,e9,R9⟩:=dk.put R8 (O3 (e3.trans p).pre N) (a7.ext e8) a8 hs;exact⟨H9,dp,m,dz _,P,S8,f,(),(e3.trans p).trans e9,R9,L.ext<|((M.trans Z).trans e8).trans e9,cg8⟩
def Vm(dk:∀K,DKind K o ob st)(hu:X.A.units+64<cLine)(hc:X.calm=true)(Sc:CpScope X scope N cap)(hi:AI X tg iter src)(hg:∀C s₀ H₀ ex,AG (kJ X scope N C s₀ H₀ ex) tg g)(ht:∀C s₀ H₀ ex,Zi (kJ X scope N C s₀ H₀ ex) ifs t)(hk:∀C s₀ H₀ ex,AE (kJ X scope N C s₀ H₀ ex) ek ck)(hv:∀C s₀ H₀ ex,AE (kJ X scope N C s₀ H₀ ex) ev cv)
  (hs:(∀x,foldedSetIterable iter X.env x=pure x)<|>ζ):AE X (.DictComp ek ev [⟨tg,iter,ifs,0⟩] scope pos) (Ml o st cap src g t ck cv):=
 PE.imp (Z0 (dk X.K).obj () hc Sc hi (g:=Wl X.K g) (tc:=Vf X.K t) (tk:=Rw X.K ck) (tv:=Rw X.K cv) (λC s₀ H₀ ex=>(hg C s₀ H₀ ex).g0 rfl) (λC s₀ H₀ ex=>ht C s₀ H₀ ex) (λC s₀ H₀ ex=>(hk C s₀ H₀ ex).e0 rfl) (λC s₀ H₀ ex=>(hv C s₀ H₀ ex).e0 rfl) hs) (Pf<|dk X.K)
end
end Am
namespace L2
open PySem PySem.Spec PyProof.Rows
def Pw{X:Cx}{i:Nat}{spos:Pos}{iter ev:aE}{N:ar}{wi:TI}{g:TG}{tc:TT}{tk tv:TE}{ob:HO}(hob:∀{P:aj}{w:ah}{H:Hp}(h:aq),sysModules<h.objs.size->kG P w H (h.push { cls:=.type "dict",data:=.dict #[]}) h.objs.size ob)(hu:X.A.units+1<cLine)
  (hN:X.N.Nodup) (hi':X.N[i]?=some y) (hx:Loc X.env.scope y) (hc:X.calm=true) (S:CpScope X scope N cap) (hi:PI X tg iter wi)
  (hg:∀C s₀ H₀ ex,PG (kJ X scope N C s₀ H₀ ex) tg g) (ht:∀C s₀ H₀ ex,Nh (kJ X scope N C s₀ H₀ ex) ifs tc) (hk:∀C s₀ H₀ ex,PE (kJ X scope N C s₀ H₀ ex) ek tk) (hv:∀C s₀ H₀ ex,PE (kJ X scope N C s₀ H₀ ex) ev tv)
  (hsw:swapsWith (.DictComp ek ev [⟨tg,iter,ifs,0⟩] scope pos) (some<|.Name y py) spos.line X.env=pure true)
  (hf:X.fn y=true\/X.env.scope.names.lookup y=some .local) (hs:(∀x,foldedSetIterable iter X.env x=pure x)<|>ζ) :
  PS X (.Assign [.Name y py] (.DictComp ek ev [⟨tg,iter,ifs,0⟩] scope pos) spos) (M9 (tDC ob cap wi g tc tk tv)<|Iw i):=by
 ksr_p;rw[exec_Assign_Name_used _ _ _ _ hsw];refine aG<|fj<|aG ?_;show wpAny _ X.A (do let _ <- comprehension (.DictComp ek ev [⟨tg,iter,ifs,0⟩] scope pos) scope X.env (firstIterPos [⟨tg,iter,ifs,0⟩] pos) newDict (firstAsync [⟨tg,iter,ifs,0⟩]) (firstIter [⟨tg,iter,ifs,0⟩] X.env) (some<|assign (.Name y py) X.env)) _ _ s;refine aG<|cY (JU (ok:=λY=>Y.calm=true) (Q':=λ_ s'=>SP X pins D .next s') hob hu S (λ_ _ _ _ _=>hc) (PI.g hi) hg ht hk hv hs pins s σ H _ I h ?_) (λ_ s' hq=>aN<|aN hq) λ_ _ e=>e;intro p C B M m hn j inv q v;have L:=inv p.heap<|Heap.SameBut.refl _ _;obtain⟨J,f⟩:∃o,p.heap.get? C=some o/\∀v,o.data≠.cell v:=by
  obtain⟨o,es,ep,e,d,_⟩:=hn;exact⟨o,e,λv z=>by rw[d]at z;cases z⟩
 have O:=L.pinned (fp:=[C]) (λb hb=>by rw[aR]at hb;rw[hb];exact j) (λb hb=>by rw[aR]at hb;rw[hb];exact⟨J,f⟩);show wpAny _ X.A (assign (.Name y py) X.env<|.ref B) _ _ p;refine mR (Dr hN hi' hx hf _ p σ M (.ref B) (.ref B) _ O rfl q) λ_ U h9=>?_;obtain⟨F,G,t,T⟩:=h9;have hp:=t.pin (C,J)<|bI _<|bI _<|ni (aR.mpr rfl) f.1;refine⟨m,hn.at' λo e=>by rw[f.1]at e;cases e;exact hp.1,λh' k=>?_⟩;have K:∀c v,G c=some v->c≠C:=λc v e z=>by rw[z,hp.2.1]at e;cases e
 refine⟨F,G,?_,T⟩;refine t.qC.JJ (ch:=[C]) rfl ⟨λb o e n hb hx=>?_,λb o e n hb hx=>?_,λb o e n hx=>n,λb o e hx=>?_,λ_ _ e=>e,λ_ _ _ e=>e,λ_ _ e=>⟨#[],by rw[Array.append_empty];exact e⟩⟩ ?_ t.bare ?_
 ·exact k.extBut b o (by simpa using hx) e
 ·exact⟨o.slots,k.extBut b o (by simpa using hx) e⟩
 ·exact⟨o,k.extBut b o (by simpa using hx) e⟩
 ·intro b o e;refine(t.hok b o e).stay (λc v hc q=>k.extBut c v ?_ q) (λ_ q=>q) λ_ _ q=>q
  rcases hc with z|z
  ·rw[z];exact K b o e
  ·exact K c _ z
 ·intro b hb;rw[aR]at hb;rw[hb];exact⟨j.2.2.2.1,j.2.1,j.2.2.2.2.1,j.2.2.2.2.2⟩
end L2
namespace Am
open PySem PySem.Spec PyProof.Rows L2
section
variable {X:Cx}{pos:Pos}{tg iter ek ev:aE}{ifs:List aE}{scope:Scope}{N:ar}{cap:List (bj)}{src:Ic}{g:Tg}{t:Te}{ck cv:Ex}{o:O}{ob:HO}{st:A->A->A->jH->R Unit}
def PK(dk:∀K,DKind K o ob st)(hu:X.A.units+64<cLine){i:Nat}{x:Str}{spos:Pos}(hN:X.N.Nodup)(hc:X.calm=true)(Sc:CpScope X scope N cap)(hi:AI X tg iter src)(hg:∀C s₀ H₀ ex,AG (kJ X scope N C s₀ H₀ ex) tg g)(ht:∀C s₀ H₀ ex,Zi (kJ X scope N C s₀ H₀ ex) ifs t)(hk:∀C s₀ H₀ ex,AE (kJ X scope N C s₀ H₀ ex) ek ck)(hv:∀C s₀ H₀ ex,AE (kJ X scope N C s₀ H₀ ex) ev cv)
  (hi':X.N[i]?=some x<|>ε) (hx:Loc X.env.scope x:=by first|exact Or.inl rfl|exact Or.inr rfl)
  (hsw:(swapsWith (.DictComp ek ev [⟨tg,iter,ifs,0⟩] scope pos) (some<|.Name x pos') spos.line X.env=pure true)<|>ε) (hf:X.fn x=true\/X.env.scope.names.lookup x=some .local<|>γ)
  (hs:(∀x,foldedSetIterable iter X.env x=pure x)<|>ζ):AS X (.Assign [.Name x pos'] (.DictComp ek ev [⟨tg,iter,ifs,0⟩] scope pos) spos) (kB (Ml o st cap src g t ck cv)<|ko i):=
 PS.imp (Pw (dk X.K).obj () hN hi' hx hc Sc hi (g:=Wl X.K g) (tc:=Vf X.K t) (tk:=Rw X.K ck) (tv:=Rw X.K cv) (λC s₀ H₀ ex=>(hg C s₀ H₀ ex).g0 rfl) (λC s₀ H₀ ex=>ht C s₀ H₀ ex) (λC s₀ H₀ ex=>(hk C s₀ H₀ ex).e0 rfl) (λC s₀ H₀ ex=>(hv C s₀ H₀ ex).e0 rfl) hsw hf hs) λD σ H ⟨ρ,S,τ,R,r,h⟩=>
  Pf (dk X.K) σ H _ ⟨ρ,S,τ,R,r,jJ (of_post h) .refl λa S1 h1 ρ1 H1 x e1 R1 v1=>h1 ρ1 H1 _ e1 R1<|(r.ext e1).set v1⟩
end
end Am
namespace L2
open PySem PySem.Spec PyProof.Rows
section
variable {X:Cx}{pins:bo}{σ:St}{H:Hp}{s:aC}{a:ak}{xs:List (m5×ak×af)}
def UW{r:ak}{x:ag}(I:Inv X pins σ H s)(h:H r=some (.tup<|x.map V.int)):TK s.heap x r:=by
 obtain⟨_,d,f,o,h1,h2,_,n,h3⟩:=(show kG _ _ H s.heap r (.tup<|x.map V.int)from I.hok r _ h);exact⟨o,d.toArray,n,h1,h2,h3,by simpa using intsAre_of f⟩
def C7{k:m5}(I:Inv X pins σ H s)(h:sN H b k):vP s.heap k b:=by
 obtain⟨r1,r2,h1,h2,h3⟩:=h;obtain⟨_,f,g,o,e1,e2,_,n,e3⟩:=(show kG _ _ H s.heap b (.tup [.ref r1,.ref r2])from I.hok b _ h1);obtain⟨m,p,rfl,d,j⟩:=vals2 g
 cases d
 cases j
 exact⟨o,n,r1,r2,e1,e2,e3,UW I h2,UW I h3⟩
def VX(I:Inv X pins σ H s)(e:H a=some (.ext<|wC a xs))(hk:∀x∈xs,sN H x.2.1 x.1):(a == sysModules)=false/\xs.length<=sizeLine/\s.heap.DictOfH (Eo X.prog X.w) a xs:=by
 obtain⟨⟨h1,h2,o,es,ep,h3,g,d,h6,f⟩,_⟩:=(show kG _ _ H s.heap a (.ext<|wC a xs)from I.hok a _ e);exact⟨h1,h2,o,es,ep,h3,g,d,h6,λx j=>C7 I<|hk x j,f⟩
def P_{P:aj}{w:ah}{H':Hp}{h':aq}(h1:(a == sysModules)=false)(h2:xs.length<=sizeLine)(dd:h'.DictOfH (Eo P w) a xs):kG P w H' h' a (.ext<|wC a xs):=by
 obtain⟨o,es,ep,h3,p,d,h6,_,g⟩:=dd;refine⟨⟨h1,h2,o,es,ep,h3,p,d,h6,g⟩,⟨o,h3⟩,λt z m k=>?_⟩;obtain⟨f,j,o,es,ep,h3,q⟩:=m;exact⟨f,j,o,es,ep,k o h3,q⟩
structure DPg (H:Hp)(a b:ak)(xs:List (m5×ak×af))(k:m5):Prop where
 d:H a=some (.ext<|wC a xs)
 ks:∀x∈xs,sN H x.2.1 x.1
 k:sN H b k
def XI(hu:X.A.units+32<cLine):oW X (compareOp .In) (λy x H Q=>∃a b xs k,x=.ref a/\y=.ref b/\DPg H a b xs k/\Q (.bl (atKey xs k).isSome) H):=by
 intro pins s σ H y x v u Q I ry rx h;obtain⟨a,b,xs,k,rfl,rfl,g,q⟩:=h
 cases rx
 cases ry
 obtain⟨h1,h2,dd⟩:=VX I g.d g.ks;exact wpAny_in_heap (show X.A.in1.units+16<cLine by simp;lia) (C7 I g.k) h1 dd ⟨.bl _,H,I.tok _,rfl,q⟩
def EG{xs:List<|m5×ak×af}{k:m5}:(storedH xs k b u).length<=xs.length+1:=by
 unfold storedH;split
 ·rw[aH];lia
 ·rw[bq];exact aL _
def Yt(hu:X.A.units+32<cLine):FG X (λo i v H Q=>∃a b xs k,o=.ref a/\i=.ref b/\DPg H a b xs k/\xs.length<sizeLine/\∀u,RelV v u->Q (upd H a<|.ext<|wC a<|storedH xs k b u)):=by
 intro pins s σ H o i v z iv u Q I m f j h;obtain⟨a,b,xs,k,rfl,rfl,g,p,q⟩:=h
 cases m
 cases f
 obtain⟨h1,h2,dd⟩:=VX I g.d g.ks;refine wpAny_setItem_heap (hsz:=h2) (show X.A.in1.units+16<cLine by simp;omega) (C7 I g.k) dd λh' dd' hs=>⟨_,?_,q u j⟩;have t:∃q,h'.get? a=some q:=let⟨q,_,_,hq,_⟩:=dd';⟨q,hq⟩
 exact tD I (by rw[g.d];exact True.intro) hs t<|P_ h1 (bM EG p) dd'
abbrev WA:TE:=λ_ H Q=>∀p,H p=none->Q (.ref p) (upd H p<|.ext<|wC p [])
def P4:PE X (.Dict [] [] pos) WA:=λpins s σ H Q I h=>
 wpAny_Dict_empty ⟨.ref s.heap.objs.size,_,I.laid (a:=s.heap.objs.size) (o:=.ext<|wC s.heap.objs.size []) (t':=s.toks) (λ_ _ q=>aM _ q) (aL _)
  (P_ (dc.mpr<|cA<|bC I.big) (bL _) ⟨_,#[],0,bu _ rfl,⟨rfl,rfl,rfl⟩,rfl,rfl,(nofun),cQ⟩),rfl,h _<|I.hok.fresh<|aL _⟩
end
end L2
namespace Am
open PySem PySem.Spec PyProof.Rows L2
abbrev qh (S:jH)(n:Nat):Option (List<|m5×A):=match S[n]? with
 | some (.vA xs)=>some xs
 | _=>none
def pS{n:Nat}(h:qh S n=some xs):S[n]?=some (.vA xs):=by
 unfold qh at h;split at h
 ·rename_i e;cases h;exact e
 ·cases h
def zJ{S:jH}{n:Nat}(h:S[n]?=some (.vA xs)):qh S n=some xs:=by
 unfold qh;rw[h]
abbrev rG (kvs:List<|m5×A)(k:m5):Option A:=(kvs.find? λkv=>decide<|kv.1=k).map (·.2)
abbrev yI (kvs:List<|m5×A)(k:m5)(v:A):List (m5×A):=
 if (rG kvs k).isSome=true then kvs.map (λkv=>if kv.1=k then(kv.1,v)else kv)else kvs++[(k,v)]
abbrev Eh (x:A):Option m5:=match x with
 | .tup [.tup xs,.tup ys]=>(A.ints xs).bind λns=>(A.ints ys).map λd=>(ns,d)
 | _=>none
section
variable {K:au}{ρ:bb}{H:Hp}
def LS{p:m5×A}{r:List<|m5×A}{k:m5}(e:p.1=k):rG (p::r) k=some p.2:=by simp[rG,b9,e]
def KN{p:m5×A}{r:List<|m5×A}{k:m5}(e:¬p.1=k):rG (p::r) k=rG r k:=by simp[rG,b9,e]
theorem DP.look:∀{kvs:List<|m5×A}{ks:List<|m5×ak×af}(k:m5),DP K ρ H kvs ks->(rG kvs k).isSome=(atKey ks k).isSome/\∀x,rG kvs k=some x->∃p v,atKey ks k=some p/\RelV v p.2/\AV K ρ H x v
 | [],[],k,_=>⟨rfl,λx h=>nomatch h⟩
 | p::r,q::r',k,⟨⟨e,_,v,rv,a⟩,t⟩=>by
  by_cases c:p.1=k
  ·have d:q.1=k:=by rw[e,c]
   have b:atKey (q::r') k=some q.2:=by simp[atKey,b9,d]
   rw[LS c,b];exact⟨rfl,λx h=>by cases h;exact⟨_,v,rfl,rv,a⟩⟩
  ·have d:¬q.1=k:=λz=>c<|e.symm.trans z;have b:atKey (q::r') k=atKey r' k:=by simp[atKey,b9,d]
   rw[KN c,b];exact DP.look k t
theorem DP.repl{x:A}{v:V}(h:AV K ρ H x v)(rv:RelV v u)(k:m5):∀{kvs:List<|m5×A}{ks:List<|m5×ak×af},DP K ρ H kvs ks->DP K ρ H (kvs.map λkv=>if kv.1=k then(kv.1,x)else kv) (ks.map<|putAt k u)
 | [],[],_=>trivial
 | p::r,q::r',⟨⟨e,ka,z⟩,t⟩=>by
  refine⟨?_,DP.repl h rv k t⟩;dsimp only;unfold putAt;by_cases c:p.1=k
  ·rw[aS c,aS<|by rw[e,c]];exact⟨e,ka,v,rv,h⟩
  ·rw[aQ c,aQ λz=>c<|e.symm.trans z];exact⟨e,ka,z⟩
theorem DP.snoc{x:A}{v:V}(h:AV K ρ H x v)(rv:RelV v u)(k:m5)(hk:sN H b k):∀{kvs:List<|m5×A}{ks:List<|m5×ak×af},DP K ρ H kvs ks->DP K ρ H (kvs++[(k,x)]) (ks++[(k,b,u)])
 | [],[],_=>⟨⟨rfl,hk,v,rv,h⟩,trivial⟩
 | p::r,q::r',⟨a,t⟩=>⟨a,DP.snoc h rv k hk t⟩
def DP.put{x:A}{v:V}(h:AV K ρ H x v)(rv:RelV v u)(k:m5)(hk:sN H b k){ks:List<|m5×ak×af}(d:DP K ρ H kvs ks):DP K ρ H (yI kvs k x) (storedH ks k b u):=by
 unfold yI storedH;rw[<- (d.look k).1];by_cases c:(rG kvs k).isSome=true
 ·rw[aS c,aS c];exact DP.repl h rv k d
 ·rw[aQ c,aQ c];exact DP.snoc h rv k hk d
def DP.length:∀{kvs:List<|m5×A}{ks:List<|m5×ak×af},DP K ρ H kvs ks->kvs.length=ks.length
 | [],[],_=>rfl
 | _::_,_::_,⟨_,t⟩=>c9 (·+1) t.length
def DP.keys:∀{kvs:List<|m5×A}{ks:List<|m5×ak×af},DP K ρ H kvs ks->∀x∈ks,sN H x.2.1 x.1
 | [],[],_,x,h=>nomatch h
 | _::_,q::_,⟨⟨_,ka,_⟩,t⟩,x,h=>by
  rcases bE.mp h with z|z
  ·rw[z];exact ka
  ·exact t.keys x z
def Rel.vA{n:Nat}{a:ak}(R:Rel K ρ H S)(ha:ρ[n]?=some a)(hS:S[n]?=some (.vA xs)):∃vs,H a=some (.ext<|wC a vs)/\DP K ρ H xs vs:=R.at n a _ ha hS
def Rel.acf{S:jH}{p:ak}(R:Rel K ρ H S)(hp:H p=none):Ext ρ (ρ++[p]) H (upd H p<|.ext<|wC p [])/\Rel K (ρ++[p]) (upd H p<|.ext<|wC p []) (S++[.vA []])/\(ρ++[p])[S.length]?=some p:=by
 have ex:Ext ρ (ρ++[p]) H (upd H p<|.ext<|wC p []):=⟨⟨dP _ _,λa u _ h=>by rw[jI<|jX h hp];exact h⟩,λa u h _=>by rw[jI<|jX h hp];exact h,λa h=>by
  rcases bJ.mp h with z|z
  ·exact .inl z
  ·have e:a=p:=by simpa using z
   rw[e];exact .inr hp⟩
 have np:p∉ρ:=R.Ew hp;have d:(ρ++[p])[S.length]?=some p:=by rw[<- R.len];simp
 refine⟨ex,⟨by simp[R.len],?_,?_⟩,d⟩
 ·rw[cL];cb_eq;have:b=p:=by simpa using hb
  exact np<|by rw[<- this,<- e];exact ha
 ·intro n a o h1 h2;by_cases hn:n<S.length
  ·rw[bz<|by rw[R.len];exact hn]at h1;rw[bz hn]at h2;have na:a≠p:=λz=>np (by rw[<- z];exact bw h1);have:=R.at n a o h1 h2
   cases o with
   | lst ys=>obtain⟨f,e,q⟩:=this;exact⟨f,by rw[jI na];exact e,q.ext ex⟩
   | dct _|qi _|vA _=>obtain⟨f,e,q⟩:=this;exact⟨f,by rw[jI na];exact e,q.ext ex⟩
   | dcf _=>obtain⟨g,f,e,q⟩:=this;exact⟨g,f,by rw[jI na];exact e,q.ext ex⟩
   | ins _ _=>obtain⟨g,j,e⟩:=this;exact⟨g,j,by rw[jI na];exact e⟩
  ·have e:n=S.length:=by
    have:=(aJ.mp h2).1;simp at this
    lia
   subst e;rw[d]at h1
   cases h1
   simp at h2;subst h2;exact⟨[],j3,trivial⟩
def Rel.yI{S:jH}{n:Nat}{a:ak}(R:Rel K ρ H S)(ha:ρ[n]?=some a)(hS:S[n]?=some (.vA xs))(r:DP K ρ H ys ws):Ext ρ ρ H (upd H a<|.ext<|wC a ws)/\Rel K ρ (upd H a<|.ext<|wC a ws) (S.set n<|.vA ys):=by
 obtain⟨vs,e,_⟩:=R.at n a _ ha hS;have ex:Ext ρ ρ H (upd H a<|.ext<|wC a ws):=⟨⟨dO _,λb u i h=>by
  have:b≠a:=by
   intro z;subst z;rw[e]at h;cases h;exact i
  rw[jI this];exact h⟩,λb u h n=>by
  rw[jI λz=>n<|by rw[z];exact bw ha];exact h,λ_ h=>.inl h⟩
 refine⟨ex,by rw[bT];exact R.len,R.nd,λm b o h1 h2=>?_⟩;by_cases g:m=n
 ·subst g;rw[ha]at h1;cases h1;rw[br (aJ.mp hS).1]at h2
  cases h2
  exact⟨ws,j3,r.ext ex⟩
 ·rw[bG<|cA g]at h2;have nb:b≠a:=λz=>by
   subst z;obtain⟨p,e1⟩:=aJ.mp ha;obtain⟨t,e2⟩:=aJ.mp h1;exact g<|(b7 R.nd).mp<|e2.trans e1.symm
  have:=R.at m b o h1 h2
  cases o with
  | lst ys=>obtain⟨d,f,q⟩:=this;exact⟨d,by rw[jI nb];exact f,q.ext ex⟩
  | dct _|qi _|vA _=>obtain⟨d,f,q⟩:=this;exact⟨d,by rw[jI nb];exact f,q.ext ex⟩
  | dcf _=>obtain⟨j,d,f,q⟩:=this;exact⟨j,d,by rw[jI nb];exact f,q.ext ex⟩
  | ins _ _=>obtain⟨j,k,f⟩:=this;exact⟨j,k,by rw[jI nb];exact f⟩
def Iz{x:A}{v:V}{k:m5}(a:AV K ρ H x v)(h:Eh x=some k):∃b,v=.ref b/\sN H b k:=by
 unfold Eh at h;split at h
 ·rename_i xs ys;obtain⟨ns,h1,h⟩:=b_.mp h;obtain⟨q,h2,e⟩:=aW.mp h;subst e
  cases a with
  | @tup b _ vs hb r=>
   obtain⟨t,z,rfl,g,j⟩:=SX r
   cases g with
   | @tup c1 _ m f r1=>
    cases j with
    | @tup c2 _ d p r2=>
     have e1:=pQ r1 h1;have e2:=pQ r2 h2;subst e1 e2;exact⟨b,rfl,c1,c2,hb,f,p⟩
 ·cases h
end
section
variable {X:Cx}{pos:Pos}{a b:aE}
abbrev AQ (neg:Bool)(x y:A)(S:jH):R A:=match y with
 | .ref n=>opt (qh S n) λkvs=>opt (Eh x) λk=>.ok (.bl<|if neg then !(rG kvs k).isSome else(rG kvs k).isSome) S
 | _=>.no
def aam(hu:X.A.units+64<cLine):oW X (compareOp .In) (r2 X<|AQ false):=λpins s σ H x y v u Q I rx ry h9=>by
 w_up
 cases vb with
 | @ref p n hp=>
  kln_w;obtain⟨k,g,h⟩:=jK h;obtain⟨ks,e,d⟩:=R.vA hp<|pS hn;obtain⟨q,rfl,f⟩:=Iz va g;exact XI () pins s σ H _ _ v u Q I rx ry ⟨p,q,ks,k,rfl,rfl,⟨e,d.keys,f⟩,by rw[<- (d.look k).1];exact h _ _ _ .refl R<|.bl _⟩
 | _=>exact h.elim
abbrev E2 (o i v:A)(S:jH):R Unit:=match o with
 | .ref n=>opt (qh S n) λkvs=>opt (Eh i) λk=>gd (kvs.length<sizeLine) (.ok Unit.unit<|S.set n<|.vA<|yI kvs k v)
 | _=>.no
abbrev abu (X:Cx):G8:=λo i v H Q=>∃ρ S ao d f,Rel X.K ρ H S/\AV X.K ρ H ao o/\AV X.K ρ H d i/\AV X.K ρ H f v/\(E2 ao d f S).post (λ_ g=>∀ρ' H',Ext ρ ρ' H H'->Rel X.K ρ' H' g->Q H') (XE X ρ H)
def T_(hu:X.A.units+64<cLine):FG X (abu X):=λpins s σ H o i v C iv u Q I z j m h9=>by
 obtain⟨ρ,S,ao,G,J,R,h1,h2,h3,h⟩:=h9
 cases h1 with
 | @ref p n hp=>
  kln_w;obtain⟨k,t,h⟩:=jK h;obtain⟨B,h⟩:=j4 h;obtain⟨ks,e,d⟩:=R.vA hp<|pS hn;obtain⟨q,rfl,f⟩:=Iz h2 t;refine Yt (by omega) pins s σ H _ _ v C iv u Q I z j m ⟨p,q,ks,k,rfl,rfl,⟨e,d.keys,f⟩,by rw[<- d.length];exact B,λK g=>?_⟩;obtain⟨ex,F⟩:=R.yI hp (pS hn)<|d.put h3 g k f;exact h _ _ ex F
 | _=>exact h.elim
abbrev Tt (co ci:Ex):Tg:=λa τ S=>(co τ S).bind λo S1=>(ci τ S1).bind λi S2=>(E2 o i a S2).bind λ_ S3=>.ok τ S3
def Kv(hu:X.A.units+64<cLine){co ci:Ex}(ho:AE X o co)(hi:AE X i ci)
  (ha:(∀v,assign (.Subscript o i pos) X.env v=(do
   let ov <- holding [v] (eval o X.env)
   let iv <- holding [v,ov] (eval i X.env)
   standAt pos
   holding [v,ov,iv] (setItem ov iv v)
   release [v,ov,iv] []))<|>ζ):AG X (.Subscript o i pos) (Tt co ci):=PG.imp (C1 ho hi (T_ hu) ha) λv σ H Q h9=>by
 obtain⟨ρ,S,τ,a,R,r,va,h⟩:=h9;k_ne;gp_on;kpf_c
abbrev Ga:Ex:=λ_ S=>.ok (.ref S.length)<|S++[.vA []]
def Pn:AE X (.Dict [] [] pos) Ga:=PE.imp P4 λσ H Q ⟨ρ,S,τ,R,r,h⟩ p hp=>by
 obtain⟨ex,f,d⟩:=R.acf hp;exact h _ _ _ ex f<|.ref d
end
abbrev Gb {α:Type}(x:ag×α):List (ag×α)->List (ag×α)
 | []=>[x]
 | y::ys=>if HT.lexLt y.1 x.1=true then y::Gb x ys else x::y::ys
abbrev zp {α:Type}:List (ag×α)->List (ag×α)
 | []=>[]
 | x::xs=>Gb x<|zp xs
section
variable {α:Type}
theorem BK(x:ag×α):∀ys:List<|ag×α,(Gb x ys).Perm (x::ys)
 | []=>eN _
 | y::ys=>by
  unfold Gb;by_cases h:HT.lexLt y.1 x.1=true
  ·rw[aS h];exact((BK x ys).cons y).trans (List.Perm.swap x y ys)
  ·rw[aQ h]
theorem v8:∀xs:List<|ag×α,(zp xs).Perm xs
 | []=>eN _
 | x::xs=>(BK x<|zp xs).trans<|(v8 xs).cons x
theorem EW(x:ag×α):∀ys:List<|ag×α,(Gb x ys).map Prod.fst=Cw x.1 (ys.map Prod.fst)
 | []=>rfl
 | y::ys=>by
  unfold Gb;rw[bH];unfold Cw;by_cases h:HT.lexLt y.1 x.1=true
  ·rw[aS h,aS h,bH,EW]
  ·rw[aQ h,aQ h];rfl
theorem BZ:∀xs:List<|ag×α,(zp xs).map Prod.fst=ku (xs.map Prod.fst)
 | []=>rfl
 | x::xs=>by
  show(Gb x<|zp xs).map Prod.fst=Cw x.1 (ku<|xs.map Prod.fst);rw[EW,BZ]
theorem Dq:∀{l:List<|ag×α},(l.map Prod.fst).Nodup->∀a∈l,∀b∈l,a.1=b.1->a=b
 | [],_,_,h,_,_,_=>nomatch h
 | x::l,nd,a,ha,b,hb,e=>by
  obtain⟨h1,h2⟩:=cP.mp nd
  rcases bE.mp ha with j|f
  ·rcases bE.mp hb with g|d
   ·rw[j,g]
   ·subst j;exact absurd (e ▸ cX d) h1
  ·rcases bE.mp hb with g|d
   ·subst g;exact absurd (e ▸ cX f) h1
   ·exact Dq h2 a f b d e
def Gi{xs ys:List<|ag×α}(nd:(ys.map Prod.fst).Nodup)(p:xs.Perm ys)(h:(xs.map Prod.fst).Pairwise Dw):xs=zp ys:=by
 refine dU (le:=λ(a b:ag×α)=>Dw a.1 b.1) (λ(a b:ag×α) ha hb h1 h2=>Dq nd a (p.mem_iff.mp ha) b ((v8 ys).mem_iff.mp hb) (Sx.xx (show HT.lexLt b.1 a.1=false from h1)<|show HT.lexLt a.1 b.1=false from h2).symm) ?_ ?_ (p.trans (v8 ys).symm)
 ·exact cB.mp h
 ·have:=uM<|ys.map Prod.fst;rw[<- BZ]at this;exact cB.mp this
end
end Am
namespace L2
open PySem PySem.Spec PyProof.Rows
section
variable {X:Cx}
def WD{H:Hp}{s:aC}{d:ak}{kvs:List<|List Key×V}(I:Inv X pins σ H s)(ed:Rd H d<|.dT kvs) :
  ∃(ob:Obj) (es:Array DictEntry) (ep:Nat) (rs:bb),s.heap.get? d=some ob/\ob.cls=.type "dict" /\ ob.data=.dict es ep/\(d == sysModules)=false/\kvs.length<=sizeLine/\rs.length=kvs.length/\es.size=kvs.length /\
   (∀i:Nat,(es[i]?).map (λe:DictEntry=>e.key)=(rs[i]?).map Value.ref)/\∀(i:Nat) r p,rs[i]?=some r->kvs[i]?=some p->H r=some (.tup<|p.1.map kV):=by
 obtain⟨z,B,xs,g,dd⟩:=zk I.hok ed;obtain⟨ob,es,ep,m,q,t,k,J,G⟩:=id dd;obtain⟨j,C⟩:=kt_at g;have f:es.size=xs.length:=by have:=c9 List.length k;simpa using this
 refine⟨ob,es,ep,xs.map λy=>y.2.1,m,q.1,t,B,z,by rw[aH,j],by rw[f,j],λi=>?_,λi r p e1 e2=>?_⟩
 ·rw[<- cZ,k,aP,aP,eO,eO]
  cases xs[i]?<;>rfl
 ·obtain⟨y,h1,h2,h3,F⟩:=C i p e2;rw[aP,h1]at e1
  cases e1
  exact h3
def DG(hc:X.calm=true):j7 X (.builtin "sorted") (λxs H Q=>∃(d:ak) (kvs:List<|List Key×V) (kss:List<|ag),xs=[.ref d]/\Rd H d (.dT kvs)/\kvs.map (λp=>p.1)=kss.map (λks=>ks.map Sum.inl)/\(∀ks∈kss,ks≠[])/\Sx.RO kss.length /\
  ∀(rs:bb) l g,rs.length=kss.length->(∀(i:Nat) (r:ak) (ks:ag),rs[i]?=some r->kss[i]?=some ks->H r=some (.tup<|ks.map V.int))->H l=none->Sx.Cl g 0 kss.length->Sx.So (Sx.uw kss) g 0 kss.length ->
   Q (.ref l) (upd H l<|.lst<|((List.range kss.length).map λi=>rs.getD (g i) 0).map V.ref)):=by
 fin2;obtain⟨d,kvs,kss,rfl,J,ek,z,U,q⟩:=h;kcj_m
 cases rx
 obtain⟨ob,es,ep,rs,F,M,T,P,B,t,K,N,W⟩:=WD I J;have k:kvs.length=kss.length:=by have:=c9 List.length ek;simpa using this
 have C:∀(i:Nat) (r:ak) (ks:ag),rs[i]?=some r->kss[i]?=some ks->H r=some (.tup<|ks.map V.int):=λi r ks e1 e2=>by
  have lt:i<kvs.length:=by rw[k];exact(aJ.mp e2).1
  have h1:=W i r kvs[i] e1 (aI lt);have h2:(kvs.map λp=>p.1)[i]?=(kss.map λks=>ks.map Sum.inl)[i]?:=by rw[ek]
  rw[aP,aP,e2,aI lt]at h2;have h3:kvs[i].1=ks.map Sum.inl:=aZ h2;rw[h3,bh]at h1;exact h1
 refine dM kind_sorted iT iU (iV _) ?_;unfold Builtin.«sorted»;refine aG (m:=checkCount "sorted" 1 1 _)<|aN ?_;refine aG (iO (JZ P M T) (show X.A.in1.handled=none from I.ok.hd hc) F (by rw[K];exact B) λh' L acc O f=>?_);have G:acc.toList=rs.map Value.ref:=by
  refine d7 λj=>?_;rw[cZ,aP,<- N j]
  cases e:acc[j]? with
  | some v=>exact(f.2 j v e).symm
  | none=>
   have:acc.size<=j:=jd.mp e;rw[fJ<|by rw[<- f.1];exact this];rfl
 rw[G];exact xR (s:=s) (I.kept (t':=L) O) U (by rw[t,k]) (by rw[t];exact B) (λi r ks e1 e2=>⟨nj.of<|C i r ks e1 e2,z ks<|bw e2⟩) λl g h1 h2 h3=>q rs l g (by rw[t,k]) C h1 h2 h3
end
end L2
namespace Am
open PySem PySem.Spec PyProof.Rows L2
section
variable {X:Cx}{pos:Pos}{a b:aE}
abbrev lC (S:jH)(n:Nat):Option (List<|ag×A):=match S[n]? with
 | some (.dct kvs)=>some kvs
 | some (.dcf kvs)=>some kvs
 | _=>none
def HQ{K:au}{H:Hp}{n:Nat}{p:ak}(R:Rel K ρ H S)(hp:ρ[n]?=some p)(hn:lC S n=some kvs):∃ks,Rd H p (.dT ks)/\DV K ρ H kvs ks:=by
 unfold lC at hn;split at hn
 ·rename_i h
  cases hn
  obtain⟨ks,e,d⟩:=R.at n p _ hp h;exact⟨ks,.inl e,d⟩
 ·rename_i h
  cases hn
  obtain⟨o,ks,e,d⟩:=R.at n p _ hp h;exact⟨ks,.inr ⟨o,e⟩,d⟩
 ·cases hn
def D4{H:Hp}{p q:ak}{n:Nat}{ns:ag}(R:Rel X.K ρ H S)(hp:ρ[n]?=some p)(hn:lC S n=some kvs)(hq:H q=some (.tup vs))(r:AVs X.K ρ H xs vs)(hi:A.ints xs=some ns) :
  ∃ks,DV X.K ρ H kvs ks/\uv H p (.ref q) (qz ks<|ns.map Sum.inl):=by
 obtain⟨ks,e,d⟩:=HQ R hp hn;have z:=pQ r hi;subst z;rw[<- vh]at hq;exact⟨ks,d,.inr ⟨ks,ns.map Sum.inl,q,e,rfl,hq,rfl⟩⟩
abbrev OG (x y:A)(S:jH):R A:=match x,y with
 | .ref n,.tup xs=>opt (lC S n) λkvs=>opt (A.ints xs) λns=>opt (kF kvs ns) λv=>.ok v S
 | _,_=>.no
def ZF(hu:X.A.units+64<cLine):TH X (r2 X OG):=λf j pins s σ H x y v u Q I rx ry ⟨ρ,S,a,b,R,va,vb,h⟩ hs=>by
 cases va with
 | @ref p n hp=>
  cases vb with
  | @tup q xs vs hq r=>
   kln_w;obtain⟨ns,t,h⟩:=jK h;obtain⟨z,m,h⟩:=jK h;obtain⟨ks,d,g⟩:=D4 R hp hn hq r t;obtain⟨w,hw,k⟩:=(d.look ns).2 z m;rw[hw]at g;exact CU () f j pins s σ H _ _ v u Q I rx ry ⟨p,w,rfl,g,h _ _ _ .refl R k⟩ hs
  | _=>exact h.elim
 | _=>exact h.elim
def Yx(hu:X.A.units+64<cLine){ca cb:Ex}(ha:AE X a ca)(hb:AE X b cb)(hs:wY b<|>θ):AE X (.Subscript a b pos) (jT OG ca cb):=PE.imp (HE (ZF hu) ha hb hs) λσ H Q h=>tB h
abbrev Lf (neg:Bool)(x y:A)(S:jH):R A:=match x,y with
 | .tup xs,.ref n=>opt (lC S n) λkvs=>opt (A.ints xs) λns=>.ok (.bl<|if neg then !(kF kvs ns).isSome else(kF kvs ns).isSome) S
 | _,_=>.no
def Z5(hu:X.A.units+64<cLine):oW X (compareOp .In) (r2 X<|Lf false):=λpins s σ H x y v u Q I rx ry h9=>by
 w_up
 cases va with
 | @tup q xs vs hq r=>
  cases vb with
  | @ref p n hp=>
   kln_w;obtain⟨ns,f,h⟩:=jK h;obtain⟨ks,d,g⟩:=D4 R hp hn hq r f;exact W8 () pins s σ H _ _ v u Q I rx ry ⟨p,_,rfl,g,by rw[<- (d.look ns).1];exact h _ _ _ .refl R<|.bl _⟩
  | _=>exact h.elim
 | _=>exact h.elim
def Rel.ZY{K:au}{H:Hp}{S:jH}{n:Nat}{a:ak}{ks:List<|List Key×V}(R:Rel K ρ H S)(ha:ρ[n]?=some a)(hS:S[n]?=some (.dct xs))(d:DV K ρ H xs ks):Ext ρ ρ H (upd H a<|.frz o<|.dT ks)/\Rel K ρ (upd H a<|.frz o<|.dT ks) (S.set n<|.dcf xs):=by
 obtain⟨ex,R2⟩:=R.gone (o:=o) (u:=.dT ks) ha hS;refine⟨ex,by rw[bT];exact R.len,R.nd,λm b ob h1 h2=>?_⟩;by_cases f:m=n
 ·subst f;rw[ha]at h1;cases h1;rw[br (aJ.mp hS).1]at h2
  cases h2
  exact⟨o,ks,j3,d.ext ex⟩
 ·rw[bG<|cA f]at h2;exact R2.at m b ob h1<|by rw[bG<|cA f];exact h2
abbrev abt (a:A)(S:jH):R Src:=match a with
 | .ref n=>opt (jV S n) λkvs=>.ok (p9<|kvs.map ZR) (S.set n<|.dcf kvs)
 | _=>.no
abbrev FH (c:Ex):Ic:=λτ S=>(c τ S).bind λa S1=>abt a S1
def DW{e:aE}{c:Ex}(ha:AE X e c):AI X tg e (FH c):=λpins s σ H Q I h9=>by
 z_go;refine UD ha pins s σ H Q I ⟨ρ,S,τ,R,r,jJ (jO h) .refl λx S1 h1 ρ1 H1 v e1 R1 v1=>?_⟩
 cases v1 with
 | @ref p n hp=>
  obtain⟨kvs,hn,h1⟩:=jK h1;obtain⟨ks,B,f⟩:=R1.dct hp<|lO hn;refine⟨p,ks,rfl,B,λo d pl j=>?_⟩;obtain⟨ex,R2⟩:=R1.ZY (o:=o) hp (lO hn) f;have dl:=f.length;refine h1 ρ1 _ _ (e1.trans ex) R2 ⟨λi S2 H2 ρ2 y e2 R3 g=>?_,λS2 H2 ρ2 e2 R3 _=>⟨?_,e2.im _ _ trivial j3⟩⟩
  ·have g:(kvs.map ZR)[i]?=some y:=g;rw[aP]at g;obtain⟨kv,F,rfl⟩:=aW.mp g;obtain⟨q,hq,z,L⟩:=VW f F;have m:i<d.length:=by rw[pl];exact(aJ.mp hq).1
   have C:=j i d[i] q (aI m) hq;refine⟨⟨⟨d[i],aI m⟩,e2.im _ _ trivial j3⟩,λK H' J=>?_⟩;obtain⟨rfl,G⟩:=J;have k:=G _<|aI m;subst k;have t:H' d[i]=some (.tup<|q.1.map kV):=e2.im _ _ trivial<|ex.toExt0.im _ _ trivial C;rw[z,vh]at t;exact⟨.refl,R3,.tup t<|qS _⟩
  ·show(kvs.map ZR).length=d.length;rw[aH,dl,pl]
 | _=>exact h1.elim
end
end Am
namespace Sx
open PySem PyProof.Rows
open PySem.AutoSeq1 (wpAny_loadPart')
open PySem.MeetsSeq PySem.MeetsSeq2 PySem.MeetsSeq3
def UB(l:ak)(items:Array af)(n:Nat)(dd:Option ak)(sl:Array<|bd)(k:Nat):∀i:Nat,items.size-i=k->i<=items.size->Meets (Builtin.«list.__eq__.loop» ⟨[.ref l,.ref l,rawInt i,rawInt 0],[]⟩)
  (λA R s=>s.heap.get? l=some { cls:=.type "list",dict:=dd,data:=.seq items n,slots:=sl }/\R (.ok<|.ret<|.bool false) s):=by
 induction k with
 | zero=>
  intro i j h1 prog w A R s h;obtain⟨hp,g,d,p,os⟩:=s;obtain⟨f,h⟩:=h;have hv:false=decide (items.size<items.size):=(bA ()).symm;rw[hv]at h
  wp_walk using c8 f
  have e1:items[((i:Nat):Int).toNat]?=none:=by simp;lia
  rw[e1]
  wp_walk using c8 f
  exact h
 | succ k m=>
  intro i j h1 prog w A R s h;obtain⟨hp,g,d,p,os⟩:=s;obtain⟨f,h⟩:=h;obtain⟨v,e1⟩:∃v,items[((i:Nat):Int).toNat]?=some v:=⟨items[i]'(),by rw[di];exact eV ()⟩
  wp_walk using c8 f
  rw[e1];refine aG<|SeqAt.EqAt.same v prog w _ _ ?_;have hc:((i:Int)+1)=((i+1:Nat):Int):=by push_cast;rfl
  wp_walk
  rw[hc];exact⟨iG plain_eq_loop _,eY entry_eq_loop (by
   rw[dW plain_eq_loop _];exact m (i+1) () () prog w A R _ ⟨f,h⟩)⟩
def Qz(l b:ak)(items items2:Array af)(n n2:Nat)(dd dd2:Option ak)(sl sl2:Array<|bd)(u v:af)(e1:items[0]?=some u)(e2:items2[0]?=some v)(r:Bool) :
  Meets (Builtin.«list.__eq__.loop» ⟨[.ref l,.ref b,rawInt ((0:Nat):Int),rawInt 0],[]⟩)
   (λA R s=>s.heap.get? l=some { cls:=.type "list",dict:=dd,data:=.seq items n,slots:=sl }/\s.heap.get? b=some { cls:=.type "list",dict:=dd2,data:=.seq items2 n2,slots:=sl2 }/\SeqAt.EqAt A.in1 s u v false /\
    (∀(prog:aj) (w:ah) (E:af->aC->Prop) (Q:af->aC->Prop),Q (.bool r) s->wpAny (model prog w) A.in1 (richCompare .Lt u v) Q E s)/\R (.ok<|.ret<|.bool r) s):=by
 intro prog w A R s h;obtain⟨hp,g,d,p,os⟩:=s;obtain⟨j,hb,m,k,h⟩:=h;have e1:items[((0:Nat):Int).toNat]?=some u:=e1;have e2:items2[((0:Nat):Int).toNat]?=some v:=e2
 wp_walk using c8 j,c8 hb
 rw[e1,e2];refine aG (m prog w _ _ ?_)
 wp_walk using c8 j,c8 hb
 rw[e1,e2];have f:=k prog w
 wp_walk using f
 exact h
def Fl(l b:ak)(items items2:Array af)(n n2:Nat)(dd dd2:Option ak)(sl sl2:Array<|bd)(P:PySem.Spec)
  (hm:Meets (Builtin.«list.__eq__.loop» ⟨[.ref l,.ref b,rawInt ((0:Nat):Int),rawInt 0],[]⟩) P) :
  Meets (Builtin.«list.__lt__» ⟨[.ref l,.ref b],[]⟩)
   (λA R s=>s.heap.get? l=some { cls:=.type "list",dict:=dd,data:=.seq items n,slots:=sl }/\s.heap.get? b=some { cls:=.type "list",dict:=dd2,data:=.seq items2 n2,slots:=sl2 }/\P A R s):=by
 intro prog w A R s h;obtain⟨hp,g,d,j,os⟩:=s;obtain⟨f,hb,h⟩:=h;have f3:=AutoSeq1.sub_list_list
 wp_walk using c8 f,c8 hb
 exact⟨iG plain_eq_loop _,eY entry_eq_loop (by
  rw[dW plain_eq_loop _];exact hm prog w A R _ h)⟩
section
variable {prog:aj}{w:ah}{A:aA}{E:af->aC->Prop}{s:aC}
theorem Li{l k:ak}{r:Bool}{Q:Bool->aC->Prop}(hl:s.heap.IsList l xs)(hk:s.heap.IsList k ys)(hu:A.units<cLine)
  (hc:(l=k/\r=false)\/∃u v,xs[0]?=some u/\ys[0]?=some v/\∀B:aA,B.units<=A.units+4->SeqAt.EqAt B s u v false/\∀(prog:aj) (w:ah) (E:af->aC->Prop) (Q:af->aC->Prop),Q (.bool r) s->wpAny (model prog w) B (richCompare .Lt u v) Q E s)
  (h:Q r s):wpAny (model prog w) A (keyLt' oneType' (.ref l)<|.ref k) Q E s:=by
 rw[keyLt'_oneType,oneLt'_eq];dsimp[eZ];obtain⟨⟨cls,dd,data,t⟩,d,q,n,J⟩:=id hl;obtain⟨⟨G,g,z,j⟩,f,p,C,m⟩:=id hk;simp only at q J p m;subst q J p m;refine aG (wpAny_cRoomFor hu ?_)
 rcases hc with⟨rfl,rfl⟩|⟨u,v,e1,e2,hc⟩
 ·refine aG<|wpAny_callSpecialIfBound?_slot (T := "list") (id := "list.__lt__") ⟨_,d,rfl⟩ fW<|fS fW ⟨_,d,rfl⟩ PySem.F.entry_list_lt (PySem.F.args_list_lt_2 _ _) (Fl l l xs ys n C dd g t j _<|UB l xs n dd t _ 0 rfl<|bL _) ⟨d,f,d,?_⟩;exact c5 h
 ·refine aG (wpAny_callSpecialIfBound?_slot (T := "list") (id := "list.__lt__") ⟨_,d,rfl⟩ fW<|fS fW ⟨_,d,rfl⟩ PySem.F.entry_list_lt (PySem.F.args_list_lt_2 _ _) (Fl l k xs ys n C dd g t j _<|Qz l k xs ys n C dd g t j u v e1 e2 r) ⟨d,f,d,f,(hc _ ?_).1,(hc _ ?_).2,?_⟩)
  ·show A.units+_<=_;lia
  ·show A.units+_<=_;lia
  ·exact c5 h
theorem ints_get:∀{xs:ba}{ns:ag},IntsAre xs ns->xs.length=ns.length/\∀j (h:j<xs.length),∃t,xs[j]=.int (ns.getD j 0) t
 | _,_,.nil=>⟨rfl,λj h=>absurd h<|d8 _⟩
 | _,_,.cons n t h=>⟨by rw[bB,bB,(ints_get h).1],λj d=>by
  cases j with
  | zero=>exact⟨t,rfl⟩
  | succ j=>exact(ints_get h).2 j (by simpa using d)⟩
def ZU:∀{ns ms:ag},ns≠ms->((List.range<|min ns.length ms.length).all (λj=>ns.getD j 0 == ms.getD j 0) && ns.length == ms.length)=false
 | ns,ms,h=>by
  cases e:((List.range<|min ns.length ms.length).all (λj=>ns.getD j 0 == ms.getD j 0) && ns.length == ms.length)with
  | false=>rfl
  | true=>
   rw[cU,f6]at e;have d:ns.length=ms.length:=by simpa using e.2
   refine absurd (List.ext_getElem d λj h1 h2=>?_) h;have:=e.1 j<|cg.mpr ();rw[aK,aI h1,aK,aI h2]at this;simpa using this
def Uw{B:aA}{l:ak}{xs ys:ba}{ns:ag}(hl:IsTup s.heap l xs.toArray)(hb:IsTup s.heap b ys.toArray)(hi:IntsAre xs ns)(hj:IntsAre ys ms)(hu:B.units<cLine)(hn:ns≠ms)(hlb:l≠b):SeqAt.EqAt B s (.ref l) (.ref b) false:=by
 obtain⟨d,g⟩:=ints_get hi;obtain⟨f,k⟩:=ints_get hj;have:=SeqAt.RcAt.tuples (e:=λj=>ns.getD j 0 == ms.getD j 0) hl hb hu λj h1 h2=>by
  obtain⟨t,e1⟩:=g j (by simpa using h1);obtain⟨u,e2⟩:=k j (by simpa using h2);rw[List.getElem_toArray,List.getElem_toArray,e1,e2];exact SeqAt.EqAt.int_int _ t _ u
 rw[aY,aY,d,f,ZU hn]at this;exact .of_refs hlb this
end
end Sx
namespace L2
open PySem PySem.Spec PyProof.Rows
section
variable {X:Cx}
def Gn{s:aC}{H:Hp}{Q:VK}{h':aq}{tk:Nat}{rs:bb}{kss:List<|ag}(hu:X.A.units+64<cLine)(I1:Inv X pins σ H { s with heap:=h',toks:=tk })(ro:Sx.RO kss.length)(hlen:rs.length=kss.length)(hz:rs.length<=sizeLine)(hnd:kss.Nodup)
  (hT:∀(i:Nat) (r:ak) (ks:ag),rs[i]?=some r->kss[i]?=some ks->∃(t:ak) (vs:List V),pO X.K H r (.ref t::vs)/\nj X.K H t (ks.map V.int))
  (q:∀l g,H l=none->Sx.Cl g 0 kss.length->Sx.So (Sx.uw kss) g 0 kss.length->Q (.ref l) (upd H l<|.lst<|((List.range kss.length).map λi=>rs.getD (g i) 0).map V.ref)) :
  wpAny (model X.prog X.w) X.A.in1 (do
   let l <- newList (rs.map Value.ref)
   let _ <- holding [l] (call (Value.builtin "list.sort") [l] [])
   ret l) (λfin s'=>∃v,fin=Fin.done (Flow.ret v)/\EP X pins σ Q v s') X.xe { s with heap:=h',toks:=tk }:=by
 have C:(rs.map Value.ref).length=kss.length:=by rw[aH,hlen]
 refine aG<|jm ?_;have k:(h'.push<|seqObj "list" (rs.map Value.ref).toArray 0).get? h'.objs.size=some (seqObj "list" (rs.map Value.ref).toArray 0):=bu _ rfl;show wpAny _ _ _ _ _ { s with toks:=tk,heap:=h'.push<|seqObj "list" (rs.map Value.ref).toArray 0};have old:∀(r:ak) (o:Obj),h'.get? r=some o->(Sx.Dl (h'.push<|seqObj "list" (rs.map Value.ref).toArray 0) h'.objs.size<|rs.map Value.ref).get? r=some o:=λr o G=>by
  have lt:r<h'.objs.size:=a_ G;rw[Sx.Kf (bC lt)<|by rw[cG];exact dG lt];exact aM _ G
 have lst:∀(i:Nat) (r:ak) (ks:ag),rs[i]?=some r->kss[i]?=some ks->∃(t:ak) (xs:ba) (d:ba),nj X.K H t (ks.map V.int)/\IntsAre d ks/\IsTup (Sx.Dl (h'.push<|seqObj "list" (rs.map Value.ref).toArray 0) h'.objs.size<|rs.map Value.ref) t d.toArray /\
   (Sx.Dl (h'.push<|seqObj "list" (rs.map Value.ref).toArray 0) h'.objs.size<|rs.map Value.ref).IsList r (Value.ref t::xs).toArray:=λi r ks e1 e2=>by
  obtain⟨t,vs,h1,h2⟩:=hT i r ks e1 e2;obtain⟨us,rv,pl,_⟩:=I1.list h1;obtain⟨d,rt,⟨o,G,hc,n,hd⟩,_⟩:=I1.tuple h2;obtain⟨o2,M,L,n2,N⟩:=pl.isList
  cases rv with
  | cons a b=>
   have ea:_=Value.ref t:=a;subst ea;exact⟨t,_,d,h2,intsAre_of rt,⟨o,old _ _ G,hc,n,hd⟩,⟨o2,old _ _ M,L,n2,N⟩⟩
 refine aG (cC<|cV slot_list_sort ⟨_,k,rfl⟩ entry_list_sort (Sx.yk (o:=Sx.uw kss) (kd:=oneType') k (by rw[C];lia) (by rw[C];exact ro) (λh2 U q'=>?_) (λh2 i j f F E' U q'=>?_) λg hc hs=>⟨_,rfl,?_⟩)<|args_list_sort _)
 ·refine Sx.GZ (λz=>by rw[z]at h2;simp at h2) (λv hv=>?_) q';obtain⟨i,f⟩:=iJ hv;rw[aP]at f;obtain⟨r,W,rfl⟩:=aW.mp f;have lt:=(aJ.mp W).1;obtain⟨_,_,_,_,_,_,h3⟩:=lst i r _ W (aI<|show i<kss.length by lia);exact⟨r,_,rfl,h3⟩
 ·rw[C]at f F;have e1:rs[i]?=some (rs[i]'()):=aI _;have e2:rs[j]?=some (rs[j]'()):=aI _;have k1:kss[i]?=some kss[i]:=aI f;have k2:kss[j]?=some kss[j]:=aI F;obtain⟨t1,x1,s1,a1,Y,c1,d1⟩:=lst i _ _ e1 k1;obtain⟨t2,x2,s2,Z,T,c2,d2⟩:=lst j _ _ e2 k2;have v1:(rs.map Value.ref).getD i .none=.ref (rs[i]'()):=by rw[aK,aP,e1];rfl
  have v2:(rs.map Value.ref).getD j .none=.ref (rs[j]'()):=by rw[aK,aP,e2];rfl
  show wpAny _ _ (keyLt' oneType' ((rs.map Value.ref).getD i .none)<|(rs.map Value.ref).getD j .none) U E' _;rw[v1,v2];have f1:kss.getD i []=kss[i]:=by rw[aK,k1];rfl
  have f2:kss.getD j []=kss[j]:=by rw[aK,k2];rfl
  have lt:(Sx.uw kss).lt i j=HT.lexLt kss[i] kss[j]:=by show HT.lexLt _ _=_;rw[f1,f2]
  rw[lt]at q';have un:X.A.in1.units=X.A.units+1:=rfl;refine Sx.Li d1 d2 (by show X.A.units+1+1<_;lia) ?_ q';by_cases m:i=j
  ·subst m;exact .inl ⟨rfl,Sx.ze _⟩
  ·have p:kss[i]≠kss[j]:=(Nat.lt_or_gt_of_ne m).elim (λh=>bZ.mp hnd i j f F h) λh z=>bZ.mp hnd j i F f h z.symm;have O:t1≠t2:=λz=>by
    subst z;have:=I1.vC a1 Z;exact p<|List.map_inj_right (λa b h=>V.int.inj h) |>.mp this
   refine .inr ⟨_,_,rfl,rfl,λB J=>?_⟩;have J:B.units<cLine:=by have:B.units<=X.A.units+1+1+4:=J;lia
   exact⟨Sx.Uw c1 c2 Y T J p O,λprog w E Q h=>HT.G4 c1 c2 Y T J h⟩
 ·rw[C]at hc hs ⊢;obtain⟨e,he⟩:=sortedHeap_at (out:=((List.range kss.length).map λi=>(rs.map Value.ref).getD (g i) .none).toArray) k;have old:∀b ob,h'.get? b=some ob->(sortedHeap (h'.push<|seqObj "list" (rs.map Value.ref).toArray 0) h'.objs.size (rs.map Value.ref) ((List.range kss.length).map λi=>(rs.map Value.ref).getD (g i) .none).toArray).get? b=some ob:=λb ob P=>by
   rw[sortedHeap_old (bC<|a_ P)<|by rw[cG];exact dG<|a_ P];exact aM _ P
  refine aN ⟨_,rfl,.ref h'.objs.size,_,I1.laid (t':=tk) (o:=.lst<|((List.range kss.length).map λi=>rs.getD (g i) 0).map V.ref) old (aL _) ?_,rfl,q _ g (I1.hok.fresh<|aL _) hc hs⟩;refine⟨by rw[aH,aH,bQ];lia,((List.range kss.length).map λi=>rs.getD (g i) 0).map Value.ref,e,xP _,?_⟩;rw[he];congr 2;rw[bh];congr 1;refine bW λi f=>?_;have:=(hc i (bL _)<|cg.mp f).2;have lt:g i<rs.length:=()
  show(rs.map Value.ref).getD (g i) .none=Value.ref (rs.getD (g i) 0);rw[aK,aP,aI lt,aK,aI lt];rfl
def DR(hu:X.A.units+64<cLine):j7 X (.builtin "sorted") (λxs H Q=>∃(p:ak) (rs:bb) (kss:List<|ag),xs=[.ref p]/\pO X.K H p (rs.map V.ref)/\Sx.RO kss.length/\rs.length=kss.length/\kss.Nodup /\
  (∀(i:Nat) (r:ak) (ks:ag),rs[i]?=some r->kss[i]?=some ks->∃(t:ak) (vs:List V),pO X.K H r (.ref t::vs)/\nj X.K H t (ks.map V.int)) /\
  ∀l g,H l=none->Sx.Cl g 0 kss.length->Sx.So (Sx.uw kss) g 0 kss.length->Q (.ref l) (upd H l<|.lst<|((List.range kss.length).map λi=>rs.getD (g i) 0).map V.ref)):=by
 fin2;obtain⟨p,rs,kss,rfl,hq,G,d,f,J,q⟩:=h;kcj_m
 cases rx
 obtain⟨F,z,pl,k⟩:=I.list hq;have C:=vm z;subst C;obtain⟨o,N,j,n,L⟩:=pl.isList;rw[aH]at k;have M:(rs.map Value.ref).length=kss.length:=by rw[aH,d]
 refine dM kind_sorted iT iU (iV _) ?_;unfold Builtin.«sorted»;refine aG (m:=checkCount "sorted" 1 1 _)<|aN ?_;refine aG<|wpAny_collect_seq p (.inl rfl) N j L (λh' B=>Gn (s:=s) hu (I.kept (t':=s.toks) B) G d k f J q)<|by rw[aY,M];lia
end
end L2
namespace Am
open PySem PySem.Spec PyProof.Rows L2
abbrev fsH:Option (ae)->Option (ag)
 | some (.tup ys::_)=>A.ints ys
 | _=>none
abbrev Y8 (S:jH):ae->Option (List<|ag)
 | []=>some []
 | .ref n::r=>(fsH<|jF S n).bind λks=>(Y8 S r).map λd=>ks::d
 | _=>none
def aan{K:au}{H:Hp}(R:Rel K ρ H S){n:Nat}{a:ak}{ks:ag}(hp:ρ[n]?=some a)(e:fsH (jF S n)=some ks):∃(t:ak) (vs:List V),pO K H a (.ref t::vs)/\nj K H t (ks.map V.int):=by
 cases e1:jF S n with
 | none=>rw[e1]at e;cases e
 | some ys=>
  rw[e1]at e;obtain⟨us,h1,r⟩:=R.lst hp (jU e1)
  cases r with
  | nil=>cases e
  | cons h t=>
   cases h with
   | tup d rx=>
    have:=pQ rx e;subst this;exact⟨_,_,pO.of h1,nj.of d⟩
   | _=>cases e
theorem QY{K:au}{H:Hp}(R:Rel K ρ H S):∀{xs:ae}{vs:List V}{kss:List<|ag},AVs K ρ H xs vs->Y8 S xs=some kss ->
  ∃rs:bb,vs=rs.map V.ref/\rs.length=kss.length/\xs.length=kss.length/\(∀(i:Nat) (r:ak) (ks:ag),rs[i]?=some r->kss[i]?=some ks->∃(t:ak) (vs:List V),pO K H r (.ref t::vs)/\nj K H t (ks.map V.int))/\∀(i:Nat) (r:ak) (x:A),rs[i]?=some r->xs[i]?=some x->AV K ρ H x (.ref r)
 | [],_,_,.nil,e=>by cases e;exact⟨[],rfl,rfl,rfl,λi r ks h=>by simp at h,λi r x h=>by simp at h⟩
 | x::xs,_,kss,.cons h t,e=>by
  cases h with
  | ref hp=>
   rename_i a n;have F:((fsH<|jF S n).bind λks=>(Y8 S xs).map λrs=>ks::rs)=some kss:=e;obtain⟨ks,e3,p⟩:=b_.mp F;obtain⟨k,B,rfl⟩:=aW.mp p;obtain⟨rs,rfl,q,C,z,hv⟩:=QY R t B;refine⟨a::rs,rfl,by rw[bB,bB,q],by rw[bB,bB,C],λi g j d f=>?_,λi g m d f=>?_⟩
   ·cases i with
    | zero=>
     cases d
     cases f
     exact aan R hp e3
    | succ i=>exact z i g j (by simpa using d)<|by simpa using f
   ·cases i with
    | zero=>
     cases d
     cases f
     exact .ref hp
    | succ i=>exact hv i g m (by simpa using d)<|by simpa using f
  | _=>cases e
section
variable {X:Cx}
abbrev MD (xs:ae)(S:jH):R A:=opt (Y8 S xs) λkss=>if kss.Nodup/\kss.length<64 then .ok (.ref S.length) (S++[.lst<|(UJ kss).map λi=>xs.getD i .non])else .no
abbrev F1 (x:A)(S:jH):R A:=match x with
 | .ref n=>opt (jF S n) λxs=>MD xs S
 | _=>.no
def Ub{xs:ae}{S:jH}{kss:List<|ag}(h:Y8 S xs=some kss)(nd:kss.Nodup)(h64:kss.length<64):MD xs S=.ok (.ref S.length) (S++[.lst<|(UJ kss).map λi=>xs.getD i .non]):=by
 unfold MD;rw[h];exact aS ⟨nd,h64⟩
def Tj{H H0:Hp}{Q:VK}(R:Rel X.K ρ H S)(r:AVs X.K ρ H xs vs)(e:Ext ρ0 ρ H0 H)(h:(MD xs S).post (yE X ρ0 H0 Q)<|XE X ρ0 H0) :
  ∃(rs:bb) (kss:List<|ag),vs=rs.map V.ref/\Sx.RO kss.length/\rs.length=kss.length/\kss.Nodup /\
  (∀(i:Nat) (r:ak) (ks:ag),rs[i]?=some r->kss[i]?=some ks->∃(t:ak) (vs:List V),pO X.K H r (.ref t::vs)/\nj X.K H t (ks.map V.int)) /\
  ∀l g,H l=none->Sx.Cl g 0 kss.length->Sx.So (Sx.uw kss) g 0 kss.length->Q (.ref l) (upd H l<|.lst<|((List.range kss.length).map λi=>rs.getD (g i) 0).map V.ref):=by
 obtain⟨kss,hb,h⟩:=jK h;by_cases nd:kss.Nodup/\kss.length<64
 ·rw[aS nd]at h;obtain⟨rs,rfl,f,p,m,hv⟩:=QY R r hb;refine⟨rs,kss,rfl,Sx.T7 nd.2,f,nd.1,m,λl g d hc hs=>?_⟩;have j:AVs X.K ρ H ((UJ kss).map λi=>xs.getD i .non) (((List.range kss.length).map λi=>rs.getD (g i) 0).map V.ref):=by
   rw[<- aaT hc hs,bh,bh];refine zo λi k=>?_;have lt:=(hc i (bL _)<|cg.mp k).2;have e1:rs[g i]?=some (rs.getD (g i) 0):=by rw[aK,aI ()];rfl
   have e2:xs[g i]?=some (xs.getD (g i) .non):=by rw[aK,aI ()];rfl
   exact hv _ _ _ e1 e2
  exact oM R j e h l d
 ·rw[aQ nd]at h;exact h.elim
def SO(hu:X.A.units+64<cLine):j7 X (.builtin "sorted") (rN X<|f1 F1):=j7.imp (DR hu) λvs H Q h0=>by
 kd_p;clear h0
 cases hv with
 | ref hp=>
  rename_i p n;kcf_m;obtain⟨us,h1,r⟩:=R.lst hp<|jU hn;obtain⟨j,d,rfl,f,g,nd,k,q⟩:=Tj R r .refl h;exact⟨p,j,d,rfl,pO.of h1,f,g,nd,k,q⟩
 | _=>exact h.elim
end
end Am
namespace L2
open PySem PySem.Spec PyProof.Rows
section
variable {prog:aj}{w:ah}{A:aA}{E:af->aC->Prop}{s:aC}{e:ak}{oe:Obj}{vs:Array af}
def FO{x left step:Int}{Q:bd->aC->Prop}(hh:A.handled=some (.ref e))(he:s.heap.get? e=some oe)(hd:oe.data=.fields vs)(h2:vs[2]?=some .none)(hit:IsRangeIter s.heap it x left step)(hleft:left<=0)
  (hQ:∀h',Heap.ExtBut it s.heap h'->Q none { s with heap:=h' }):wpAny (model prog w) A (pyNext<|.ref it) Q E s:=by
 have j:s.TypeIs (.ref it) "range_iterator" := ⟨_,hit,rfl⟩;unfold pyNext;refine aG<|gp<|dY (name:=Str.ofString "__next__") j h_<|cV h_ j PySem.F.entry_range_iterator_next ?_<|PySem.F.args_range_iterator_next_1 _;show wpAny _ _ (field (.ref it) 0 >>= _) _ _ s;refine aG<|fC hit rfl (x:=rawInt x) rfl ?_;show wpAny _ _ (field (.ref it) 1 >>= _) _ _ s;refine aG<|fC hit rfl (x:=rawInt left) rfl ?_;show wpAny _ _ (field (.ref it) 2 >>= _) _ _ s;refine aG<|fC hit rfl (x:=rawInt step) rfl ?_;show wpAny _ _ (if left<=0 then _ else _) _ _ s;rw[aS hleft];refine aG<|fH ?_;refine aG ?_;show wpAny _ _ (newExc (.type "StopIteration") [] >>= _) _ _ _;refine aG ?_;dsimp[newExc,newTuple];refine aG (cK ?_<|by size_fits);refine aG (m:=firstArgMember _ _) (wpAny_of_eq (a:=Value.none) (by first|rfl|(dsimp[firstArgMember];rfl)) ?_);refine cK ?_ (by size_fits);have d:∀(f:Obj),e≠(s.heap.push f).objs.size:=λf=>bC<|a_<|aM _ he;refine Ho (A:=A.in1) hh (aM _<|aM _ he) hd h2 (bu _ rfl) rfl (by simp[ownMembersOf]) (d _) ?_;refine aG<|fZ (T := "StopIteration") (b:=true) ⟨_,eU _ (bu _ rfl)<|fP<|eG rfl _,jh ..⟩ isSubtype_stop ?_;refine aN<|hQ _ λb o' hb q=>?_;have g:=aM { cls:=Value.type "tuple",data:=Data.seq #[]} q;rw[fG _ _<|cA<|bC<|a_ g];exact aM _ g
end
def Fp{P:aj}{w:ah}{K:au}{e:ak}(ho:XO C oe)(it:ak)(lo:Int)(n:Nat):TurnG (HX e oe) P w K tg (Zj lo n) [it] it (λi h=>IsRangeIter h it (lo+(i:Nat) * 1) ((n:Int)-(i:Nat)) 1) where
 obj:=(wM (P:=P) (w:=w) (K:=K) (tg:=tg) it lo n).obj
 keep:=(wM (P:=P) (w:=w) (K:=K) (tg:=tg) it lo n).keep
 item:=by
  x_go;subst hP hw hK;have hg:i<n:=hg;kt_k;refine wpAny_pyNext_range_item st () λh' f p=>?_;have e1:lo+((i+1:Nat):Int) * 1=lo+(i:Int) * 1+1:=()
  have e2:(n:Int)-((i+1:Nat):Int)=(n:Int)-(i:Int)-1:=()
  have d:IsRangeIter h' it (lo+((i+1:Nat):Int) * 1) ((n:Int)-((i+1:Nat):Int)) 1:=by rw[e1,e2];exact f
  have g:Inv X pins σ H { s with heap:=h',toks:=s.toks+1 }:=I.turned (λb o hb e=>p.extBut b o (by simpa using hb) e) f0 f1 f3 f4 f5;refine⟨_,rfl,BJ (s:={ s with heap:=h',toks:=s.toks+1 }) (n := "range_iterator") d rfl rfl ⋯ ⟨.int<|lo+i,H,g,⟨s.toks,?_⟩,⟨rfl,rfl⟩,d,λb hb=>(hf b hb).1⟩⟩;rw[mul_one]
 done:=by
  x_go;subst hP hw hK;kt_k;obtain⟨vs,j,m⟩:=ho.ctx;have k:=I.base.frzs e oe xu hc.2;obtain⟨ge,_⟩:=I.hok e _ k;exact FO hc.1 ge j m st (by have:n<=i:=hg;lia) λh' q=>⟨rfl,I.turned (t':=s.toks) (λb o hb e=>q b o hb e) f0 f1 f3 f4 f5⟩
 self:=λ_ _ _ _ _ st h=>wpAny_pyIter_rangeiter st h
def Lg{X:Cx}{e:ak}(ho:XO C oe){a:aE}{ta:TA}{p:Pos}(hg:Gl X "range")(hm:X.mg "range" = none)(ha:PA X [a] ta)(hs:starEach [a] X.env=[(false,eval a X.env)]<|>ε):Ut (HX e oe) X tg (.Call (.Name "range" p) [a] [] pos) (rF ta):=by
 intro pins s σ H R I h;refine Call_<|wQ I hg hm boot_range<|dF (mR (ha pos pins s σ H _ I h) λus k h9=>?_) hs rfl;obtain⟨vs,H1,I1,r1,d⟩:=h9;obtain⟨j,e,d,g,q⟩:=d;subst e
 cases r1 with
 | cons r f=>
  cases f
  obtain⟨t,rfl⟩:=r;refine call_range_1<|wpAny_pyIter_range (IsRange.new ..) (small_one () () d g) ?_;refine⟨_,[_],_,_,H1,rfl,(I1.kept (t':=_) λb o e=>aM _<|aM _ e),Fp ho _ 0 j.toNat,?_,λb hb=>?_,q⟩
  ·have e1:(0:Int)+((0:Nat):Int) * 1=0:=by simp
   have e2:((j.toNat:Nat):Int)-((0:Nat):Int)=Builtin.Range.rangeSize 0 j 1:=by rw[rangeSize_one];split<;>lia
   show IsRangeIter _ _ ((0:Int)+((0:Nat):Int) * 1) (((j.toNat:Nat):Int)-((0:Nat):Int)) 1;rw[e1,e2];exact bu _ rfl
  ·have e:=aR.mp hb;subst e;exact I1.AX (by rw[cG];lia)<|I1.hok.fresh<|by rw[cG];lia
def LY{ok:Cx->Prop}{X:Cx}{i:Nat}{spos:Pos}{iter:aE}{N:ar}{wi:TI}{g:TG}{tc:TT}{te:TE}
  (hN:X.N.Nodup) (hi':X.N[i]?=some y) (hx:Loc X.env.scope y) (S:CpScope X scope N cap) (hok:∀C s₀ H₀ ex,(∀a o u,X.H₀ a=some (.frz o u)->H₀ a=some (.frz o u))->ok (kJ X scope N C s₀ H₀ ex)) (hi:Ut ok X tg iter wi)
  (hg:∀C s₀ H₀ ex,PG (kJ X scope N C s₀ H₀ ex) tg g) (ht:∀C s₀ H₀ ex,Nh (kJ X scope N C s₀ H₀ ex) ifs tc) (he:∀C s₀ H₀ ex,PE (kJ X scope N C s₀ H₀ ex) elt te)
  (hsw:swapsWith (.ListComp elt [⟨tg,iter,ifs,0⟩] scope pos) (some<|.Name y py) spos.line X.env=pure true)
  (hf:X.fn y=true\/X.env.scope.names.lookup y=some .local) (hs:(∀x,foldedSetIterable iter X.env x=pure x)<|>ζ) :
  PS X (.Assign [.Name y py] (.ListComp elt [⟨tg,iter,ifs,0⟩] scope pos) spos) (M9 (Zp cap wi g tc te)<|Iw i):=by
 ksr_p;rw[exec_Assign_Name_used _ _ _ _ hsw];refine aG<|fj<|aG ?_;show wpAny _ X.A (do let _ <- comprehension (.ListComp elt [⟨tg,iter,ifs,0⟩] scope pos) scope X.env (firstIterPos [⟨tg,iter,ifs,0⟩] pos) (newList []) (firstAsync [⟨tg,iter,ifs,0⟩]) (firstIter [⟨tg,iter,ifs,0⟩] X.env) (some<|assign (.Name y py) X.env)) _ _ s;refine aG<|cY (JH (ok:=ok) (Q':=λ_ s'=>SP X pins D .next s') S hok hi hg ht he hs pins s σ H _ I h ?_) (λ_ s' hq=>aN<|aN hq) λ_ _ e=>e;intro p C B M m hn j inv q v;have L:=inv p.heap<|Heap.SameBut.refl _ _;obtain⟨J,f⟩:∃o,p.heap.get? C=some o/\∀v,o.data≠.cell v:=by
  obtain⟨o,es,ep,e,d,_⟩:=hn;exact⟨o,e,λv z=>by rw[d]at z;cases z⟩
 have O:=L.pinned (fp:=[C]) (λb hb=>by rw[aR]at hb;rw[hb];exact j) (λb hb=>by rw[aR]at hb;rw[hb];exact⟨J,f⟩);show wpAny _ X.A (assign (.Name y py) X.env<|.ref B) _ _ p;refine mR (Dr hN hi' hx hf _ p σ M (.ref B) (.ref B) _ O rfl q) λ_ T h9=>?_;obtain⟨F,G,t,P⟩:=h9;have hp:=t.pin (C,J)<|bI _<|bI _<|ni (aR.mpr rfl) f.1;refine⟨m,hn.at' λo e=>by rw[f.1]at e;cases e;exact hp.1,λh' k=>?_⟩;have K:∀c v,G c=some v->c≠C:=λc v e z=>by rw[z,hp.2.1]at e;cases e
 refine⟨F,G,?_,P⟩;refine t.qC.JJ (ch:=[C]) rfl ⟨λb o e n hb hx=>?_,λb o e n hb hx=>?_,λb o e n hx=>n,λb o e hx=>?_,λ_ _ e=>e,λ_ _ _ e=>e,λ_ _ e=>⟨#[],by rw[Array.append_empty];exact e⟩⟩ ?_ t.bare ?_
 ·exact k.extBut b o (by simpa using hx) e
 ·exact⟨o.slots,k.extBut b o (by simpa using hx) e⟩
 ·exact⟨o,k.extBut b o (by simpa using hx) e⟩
 ·intro b o e;refine(t.hok b o e).stay (λc v hc q=>k.extBut c v ?_ q) (λ_ q=>q) λ_ _ q=>q
  rcases hc with z|z
  ·rw[z];exact K b o e
  ·exact K c _ z
 ·intro b hb;rw[aR]at hb;rw[hb];exact⟨j.2.2.2.1,j.2.1,j.2.2.2.2.1,j.2.2.2.2.2⟩
end L2
namespace Am
open PySem PySem.Spec PyProof.Rows L2
section
variable {X:Cx}{tg iter elt a:aE}{ifs:List aE}{scope:Scope}{pos:Pos}{N:ar}{cap:List (bj)}{g:Tg}{t:Te}{c:Ex}{e C:ak}{oe:Obj}{src:Ic}
def LP(ho:XO C oe){p:Pos}{c:Ex}(hm:X.mg "range" = none)(ha:AE X a c)(hg:Gl X "range"<|>ε)(hs:starEach [a] X.env=[(false,eval a X.env)]<|>ε):Ut (HX e oe) X tg (.Call (.Name "range" p) [a] [] pos) (tI X<|rF c):=λpins s σ H Q I h9=>by
 z_go;refine Lg ho hg hm (qo ha wK hs) hs pins s σ H Q I ⟨ρ,S,τ,R,r,jJ (jO h) .refl λx S1 h1 ρ1 H1 v e1 R1 v1=>?_⟩
 cases v1 with
 | int j=>
  obtain⟨hb,h1⟩:=j4 h1;exact⟨_,rfl,hb.1,hb.2,by have:=h1 ρ1 H1 _ e1 R1 Gf;rwa [Int.sub_zero]at this⟩
 | _=>exact h1.elim
def P6{i:Nat}{x:Str}{spos:Pos}(hN:X.N.Nodup)(hh:X.A.handled=some (.ref e))(h0:X.H₀ e=some (.frz oe xu))(Sc:CpScope X scope N cap)(hi:Ut (HX e oe) X tg iter<|tI X src)(hg:∀C s₀ H₀ ex,AG (kJ X scope N C s₀ H₀ ex) tg g)(ht:∀C s₀ H₀ ex,Zi (kJ X scope N C s₀ H₀ ex) ifs t)(he:∀C s₀ H₀ ex,AE (kJ X scope N C s₀ H₀ ex) elt c)
  (hi':X.N[i]?=some x<|>ε) (hx:Loc X.env.scope x:=by first|exact Or.inl rfl|exact Or.inr rfl)
  (hsw:(swapsWith (.ListComp elt [⟨tg,iter,ifs,0⟩] scope pos) (some<|.Name x pos') spos.line X.env=pure true)<|>ε) (hf:X.fn x=true\/X.env.scope.names.lookup x=some .local<|>γ)
  (hs:(∀x,foldedSetIterable iter X.env x=pure x)<|>ζ):AS X (.Assign [.Name x pos'] (.ListComp elt [⟨tg,iter,ifs,0⟩] scope pos) spos) (kB (kO cap src g t c)<|ko i):=
 PS.imp (LY (ok:=HX e oe) hN hi' hx Sc (λ_ _ _ _ d=>⟨hh,d e oe xu h0⟩) hi (g:=Wl X.K g) (tc:=Vf X.K t) (te:=Rw X.K c) (λC s₀ H₀ ex=>(hg C s₀ H₀ ex).g0 rfl) (λC s₀ H₀ ex=>ht C s₀ H₀ ex) (λC s₀ H₀ ex=>(he C s₀ H₀ ex).e0 rfl) hsw hf hs) λD σ H h9=>by
  z_go;exact E5 σ H _ ⟨ρ,S,τ,R,r,jJ (of_post h) .refl λa S1 h1 ρ1 H1 x e1 R1 v1=>h1 ρ1 H1 _ e1 R1<|(r.ext e1).set v1⟩
end
section
variable {X:Cx}
abbrev vY (x:A)(S:jH):R A:=match x with
 | .ref n=>opt (jF S n) λxs=>opt (YN xs) λd=>gd (d.length<64) (.ok (.ref S.length)<|S++[.lst<|(ku d).map λks=>.tup<|ks.map .int])
 | _=>.no
def JP:j7 X (.builtin "sorted") (rN X<|f1 vY):=j7.imp DF λvs H Q h0=>by
 kd_p;clear h0
 cases hv with
 | ref hp=>
  rename_i p n;kcf_m;obtain⟨d,hb,h⟩:=jK h;obtain⟨j,h⟩:=j4 h;obtain⟨us,h1,r⟩:=R.lst hp<|jU hn;obtain⟨f,rfl,q,m⟩:=UY r hb;refine⟨p,f,d,rfl,pO.of h1,Sx.T7 j,q,λi r ks e1 e2=>⟨(m i r ks e1 e2).1,(m i r ks e1 e2).2.1⟩,λl g k hc hs=>?_⟩;have t:AVs X.K ρ H ((ku d).map λks=>.tup<|ks.map .int) (((List.range d.length).map λi=>f.getD (g i) 0).map V.ref):=by
   rw[<- OM hc hs,bh,bh];refine zo λi z=>?_;have lt:=(hc i (bL _)<|cg.mp z).2;have e1:f[g i]?=some (f.getD (g i) 0):=by rw[aK,aI ()];rfl
   have e2:d[g i]?=some (d.getD (g i) []):=by rw[aK,aI lt];rfl
   exact(m _ _ _ e1 e2).2.2
  exact oM R t .refl h l k
 | _=>exact h.elim
abbrev Zh (kss:List<|ag):Bool:=kss.all (λks=>!ks.isEmpty) && decide (kss.length<64)
def Pj{kss:List<|ag}(h:∀k∈kss,k≠[])(h2:kss.length<64):Zh kss=true:=by
 unfold Zh;rw[bg h2,Bool.and_true];exact f6.mpr λk d=>by
  cases k with
  | nil=>exact absurd rfl (h _ d)
  | cons _ _=>rfl
def Kh{H:Hp}{S:jH}{kvs:List<|ag×A}{ks:List<|List Key×V}{Q:VK}(R:Rel X.K ρ H S)(dv:DV X.K ρ H kvs ks)(h:(gd (Zh (kvs.map Prod.fst)=true)<|Am.R.ok (A.ref S.length)<|S++[O.lst<|(ku<|kvs.map Prod.fst).map λks=>.tup<|ks.map .int]).post (yE X ρ H Q)<|XE X ρ H) :
  ks.map (λp=>p.1)=(kvs.map Prod.fst).map (λks=>ks.map Sum.inl)/\(∀k∈kvs.map Prod.fst,k≠[])/\Sx.RO (kvs.map Prod.fst).length /\
  ∀(rs:bb) l g,rs.length=(kvs.map Prod.fst).length->(∀(i:Nat) (r:ak) (ks:ag),rs[i]?=some r->(kvs.map Prod.fst)[i]?=some ks->H r=some (.tup<|ks.map V.int))->H l=none->Sx.Cl g 0 (kvs.map Prod.fst).length->Sx.So (Sx.uw<|kvs.map Prod.fst) g 0 (kvs.map Prod.fst).length ->
   Q (.ref l) (upd H l<|.lst<|((List.range (kvs.map Prod.fst).length).map λi=>rs.getD (g i) 0).map V.ref):=by
 obtain⟨hb,h⟩:=j4 h;unfold Zh at hb;rw[cU]at hb;refine⟨IU dv,λk f z=>?_,Sx.T7<|bU hb.2,λrs l g t q d hc hs=>?_⟩
 ·have:=f6.mp hb.1 k f;rw[z]at this
  cases this
 have j:AVs X.K ρ H ((ku<|kvs.map Prod.fst).map λks=>.tup<|ks.map .int) (((List.range (kvs.map Prod.fst).length).map λi=>rs.getD (g i) 0).map V.ref):=by
  rw[<- OM hc hs,bh,bh];refine zo λi m=>?_;have lt:=(hc i (bL _)<|cg.mp m).2;have e1:rs[g i]?=some (rs.getD (g i) 0):=by rw[aK,aI ()];rfl
  have e2:(kvs.map Prod.fst)[g i]?=some ((kvs.map Prod.fst).getD (g i) []):=by rw[aK,aI lt];rfl
  exact .tup (q _ _ _ e1 e2)<|qS _
 exact oM R j .refl h l d
abbrev yN (x:A)(S:jH):R A:=match x with
 | .ref n=>opt (jV S n) λkvs=>gd (Zh (kvs.map Prod.fst)=true) (.ok (.ref S.length)<|S++[.lst<|(ku<|kvs.map Prod.fst).map λks=>.tup<|ks.map .int])
 | _=>.no
def Nf(hc:X.calm=true):j7 X (.builtin "sorted") (rN X<|f1 yN):=j7.imp (CJ hc) λvs H Q h0=>by
 kd_p;clear h0
 cases hv with
 | ref hp=>
  rename_i p n;kln_w;obtain⟨ks,f,g⟩:=R.dct hp<|lO hn;obtain⟨a,b,c,d⟩:=Kh R g h;exact⟨p,ks,kvs.map Prod.fst,rfl,f,a,b,c,d⟩
 | _=>exact h.elim
abbrev Ci (x:A)(S:jH):R A:=match x with
 | .ref n=>opt (lC S n) λkvs=>gd (Zh (kvs.map Prod.fst)=true) (.ok (.ref S.length)<|S++[.lst<|(ku<|kvs.map Prod.fst).map λks=>.tup<|ks.map .int])
 | _=>.no
def Ox(hc:X.calm=true):j7 X (.builtin "sorted") (rN X<|f1 Ci):=j7.imp (DG hc) λvs H Q h0=>by
 kd_p;clear h0
 cases hv with
 | ref hp=>
  rename_i p n;kln_w;obtain⟨ks,f,g⟩:=HQ R hp hn;obtain⟨a,b,c,d⟩:=Kh R g h;exact⟨p,ks,kvs.map Prod.fst,rfl,f,a,b,c,d⟩
 | _=>exact h.elim
abbrev xm (x:A)(S:jH):R A:=match x with
 | .ref n=>opt (mw S n) λkvs=>gd (kvs.length<64) (.ok (.ref S.length)<|S++[.lst<|(sortI<|kvs.map Prod.fst).map .int])
 | _=>.no
def N6(hc:X.calm=true):j7 X (.builtin "sorted") (rN X<|f1 xm):=j7.imp (CD hc) λvs H Q h0=>by
 kd_p;clear h0
 cases hv with
 | ref hp=>
  rename_i p n;kln_w;obtain⟨d,h⟩:=j4 h;obtain⟨ks,j,m⟩:=R.qi hp<|qm hn;refine⟨p,ks,kvs.map Prod.fst,rfl,j,by rw[m.keys,bh];rfl,Sx.T7<|by rw[aH];exact d,λl g f hc hs=>?_⟩;have k:AVs X.K ρ H ((sortI<|kvs.map Prod.fst).map .int) ((List.range (kvs.map Prod.fst).length).map λi=>V.int<|(kvs.map Prod.fst).getD (g i) 0):=by
   rw[<- Ua hc hs,bh];exact zo λi _=>.int _
  exact oM R k .refl h l f
 | _=>exact h.elim
end
end Am
namespace K72
open PySem L2 Am
abbrev top (i:Nat):aF:=PySem.Challenge.pw_undercells_k72_hearths_refused.main.body.getD i<|.Pass ⟨0,0,0,0⟩
meta abbrev wg:aF:=top 11
meta abbrev wH:ar:=["thing"]
meta abbrev sZ:ar:=["thing"]
abbrev v5:Sm:=
 lK (OL (kh (f2 Uo)<|jE (jD 0)<|jE (eC<|.ty "int") jP)<|Yv<|kh (f2 Uo)<|jE (jD 0)<|jE (eC<|.ty "bool") jP)
abbrev nU:ae->jH->R A:=kQ wH v5
meta abbrev u7:aF:=top 12
meta abbrev uD:ar:=["one", "other"]
meta abbrev uI:ar:=["one", "other"]
abbrev uA:Sm:=
 AH (ux<|jT (yQ true) (kh (f1 qN)<|jE (jD 0) jP)<|kh (f1 qN)<|jE (jD 1) jP)
 (ye "NoPair" [.inl "orders of ",.inr<|kh (f1 qN)<|jE (jD 0) jP,.inl " and of ",.inr<|kh (f1 qN)<|jE (jD 1) jP,.inl " things"])
 rS
abbrev pZ:ae->jH->R A:=kQ uD uA
meta abbrev GR:aF:=top 13
meta abbrev Gy:ar:=["order", "places", "at", "thing"]
meta abbrev Gs:ar:=["order"]
abbrev Qx:Ic:=
 Uh (jD 0)
abbrev Et:Sm:=
 kB (jT pT (jD 2)<|eC<|.int 1) (X3 (jD 1)<|jT aSub (jD 3)<|eC<|.int 1)
abbrev GD:Sm:=
 kc (kB (jT ym (tM<|jE (eC<|.int 0) jP)<|kh (f1 qN)<|jE (jD 0) jP)<|ko 1)
 (kc (mj Qx (DT 2<|vE (ko 2)<|vE (ko 3) DU)
 Et)
 (lK<|kh (f1 vW)<|jE (jD 1) jP))
abbrev r6:ae->jH->R A:=kQ Gy GD
meta abbrev sA:aF:=top 14
meta abbrev sJ:ar:=["n", "thing"]
meta abbrev sI:ar:=["n", "thing"]
abbrev rV:Sm:=
 lK (OL (eFn nU<|jE (jD 1) jP)<|Zk aLe XX (eC<|.int 1) (jD 1)<|jD 0)
abbrev nG:ae->jH->R A:=kQ sJ rV
meta abbrev nW:aF:=top 15
meta abbrev nR:ar:=["order", "i", "j", "things"]
meta abbrev nS:ar:=["order", "i", "j"]
abbrev nV:Sm:=
 kc (kB (kh (f1 yt)<|jE (jD 0) jP)<|ko 3)
 (kc (kB (sX<|jE (jT vX (jD 3)<|jT aSub (jD 2)<|eC<|.int 1)<|jE (jT vX (jD 3)<|jT aSub (jD 1)<|eC<|.int 1) jP)<|DT 2<|vE (X3 (jD 3)<|jT aSub (jD 1)<|eC<|.int 1)<|vE (X3 (jD 3)<|jT aSub (jD 2)<|eC<|.int 1) DU)
 (lK<|kh (f1 vW)<|jE (jD 3) jP))
abbrev lJ:ae->jH->R A:=kQ nR nV
meta abbrev vd:aF:=top 16
meta abbrev uL:ar:=["order", "k"]
meta abbrev rE:ar:=["order", "k"]
abbrev uG:Sm:=
 kc (AH (OH<|r9<|eFn nG<|jE (kh (f1 qN)<|jE (jD 0) jP)<|jE (jD 1) jP)
 (ye "NoWord" [.inl "no exchange of ",.inr<|kh (f1 qN)<|jE (jD 0) jP,.inl " things"])
 rS)
 (lK<|eFn lJ<|jE (jD 0)<|jE (jD 1)<|jE (jT pT (jD 1)<|eC<|.int 1) jP)
abbrev ng:ae->jH->R A:=kQ uL uG
meta abbrev DS:aF:=top 17
meta abbrev Ct:ar:=["order"]
meta abbrev tN:ar:=["order"]
abbrev DO:Sm:=
 lK (kO [none,some 0] (yx (eC<|.int 1)<|kh (f1 qN)<|jE (jD 0) jP) (ko 0) (ux<|jT YX (jT vX (jD 1)<|jT aSub (jD 0)<|eC<|.int 1)<|jT vX (jD 1)<|jD 0)<|jD 0)
abbrev mE:ae->jH->R A:=kQ Ct DO
meta abbrev uz:aF:=top 18
meta abbrev uX:ar:=["n", "many", "k"]
meta abbrev rC:ar:=["n"]
abbrev vR:Ic:=
 yx (eC<|.int 2) (jT pT (jD 0)<|eC<|.int 1)
abbrev vU:Sm:=
 PO 1 Xe (jD 2)
abbrev ve:Sm:=
 kc (kB (eC<|.int 1)<|ko 1)
 (kc (mj vR (ko 2)
 vU)
 (lK<|jD 1))
abbrev l9:ae->jH->R A:=kQ uX ve
meta abbrev wu:aF:=top 19
meta abbrev wN:ar:=["n", "number", "left", "things", "many"]
meta abbrev wR:ar:=["n", "number"]
abbrev tO:Te:=
 r9 (jD 2)
abbrev tY:Sm:=
 kc (kB (eFn l9<|jE (jT aSub (kh (f1 qN)<|jE (jD 2) jP)<|eC<|.int 1) jP)<|ko 4)
 (kc (um<|Yo wU (jD 3)<|jE (Yo Hr (jD 2)<|jE (jT Ad (jD 1)<|jD 4) jP) jP)
 (kB (jT aSub (jD 1)<|jT ym (jT Ad (jD 1)<|jD 4)<|jD 4)<|ko 1))
abbrev wc:Sm:=
 kc (AH (Xv (OH<|r9<|eFn nU<|jE (jD 1) jP)<|Xv (ux<|jT XX (jD 1)<|eC<|.int 0)<|ux<|jT aGe (jD 1)<|eFn l9<|jE (jD 0) jP)
 (ye "NoNumber" [.inl "no number of an order of ",.inr<|jD 0,.inl " things"])
 rS)
 (kc (kB (kh (f1 yt)<|jE (kh (f2 C4)<|jE (eC<|.int 1)<|jE (jT pT (jD 0)<|eC<|.int 1) jP) jP)<|ko 2)
 (kc (kB (tM jP)<|ko 3)
 (kc (mF tO
 tY 1000000)
 (lK<|kh (f1 vW)<|jE (jD 3) jP))))
abbrev nX:ae->jH->R A:=kQ wN wc
meta abbrev qd:aF:=top 21
meta abbrev qc:ar:=["numbers"]
meta abbrev nJ:ar:=["numbers"]
abbrev qa:Sm:=
 lK (kO [none,some 0] (lV<|kh (f1 xm)<|jE (jD 0) jP) (ko 0) (ux<|jT (yQ true) (jT z7 (jD 1)<|jD 0)<|eC<|.int 0)<|sX<|jE (jD 0)<|jE (jT z7 (jD 1)<|jD 0) jP)
abbrev k8:ae->jH->R A:=kQ qc qa
meta abbrev GO:aF:=top 22
meta abbrev Gp:ar:=["one", "other", "numbers", "power", "number"]
meta abbrev GB:ar:=["one", "other"]
abbrev xj:Ic:=
 lV (jD 1)
abbrev Fy:Sm:=
 kB (jT pT (F7 wV (jD 2)<|jE (jD 3)<|jE (eC<|.int 0) jP)<|jD 4) (Lz (jD 2)<|jD 3)
abbrev Hh:Sm:=
 kc (kB (kh (f1 CT)<|jE (jD 0) jP)<|ko 2)
 (kc (mj xj (DT 2<|vE (ko 3)<|vE (ko 4) DU)
 Fy)
 (lK<|eFn k8<|jE (jD 2) jP))
abbrev zV:ae->jH->R A:=kQ Gp Hh
meta abbrev Cg:aF:=top 23
meta abbrev DB:ar:=["one", "other", "numbers", "power", "number", "high", "many"]
meta abbrev yY:ar:=["one", "other"]
abbrev LM:Ic:=
 lV (jD 1)
abbrev LV:Sm:=
 kB (jT pT (F7 wV (jD 2)<|jE (jT pT (jD 3)<|jD 5)<|jE (eC<|.int 0) jP)<|jT Jl (jD 4)<|jD 6) (Lz (jD 2)<|jT pT (jD 3)<|jD 5)
abbrev BV:Ic:=
 lV (jD 0)
abbrev B6:Sm:=
 mj LM (DT 2<|vE (ko 5)<|vE (ko 6) DU)
 LV
abbrev Ca:Sm:=
 kc (kB Gk<|ko 2)
 (kc (mj BV (DT 2<|vE (ko 3)<|vE (ko 4) DU)
 B6)
 (lK<|eFn k8<|jE (jD 2) jP))
abbrev rD:ae->jH->R A:=kQ DB Ca
meta abbrev ue:aF:=top 26
meta abbrev tK:ar:=["found", "order", "poly"]
meta abbrev ow:ar:=["found", "order", "poly"]
abbrev t9:Sm:=
 kB (eFn zV<|jE (XA Yd (jD 0)<|jE (jD 1)<|jE (tM jP) jP)<|jE (jD 2) jP) (La (jD 0)<|jD 1)
abbrev kK:ae->jH->R A:=kQ tK t9
meta abbrev zD:aF:=top 27
meta abbrev zT:ar:=["found"]
meta abbrev uE:ar:=["found"]
abbrev zB:Sm:=
 lK (kO [none,some 0] (lV<|kh (f1 yN)<|jE (jD 0) jP) (ko 0) (r9<|jT sD (jD 1)<|jD 0)<|sX<|jE (jD 0)<|jE (jT sD (jD 1)<|jD 0) jP)
abbrev oK:ae->jH->R A:=kQ zT zB
meta abbrev uZ:aF:=top 28
meta abbrev uO:ar:=["one", "other"]
meta abbrev uU:ar:=["one", "other"]
abbrev u5:Sm:=
 AH (zm (r9<|jD 0)<|r9<|jD 1)
 (um<|oB pZ<|jE (jT vX (jT vX (jD 0)<|eC<|.int 0)<|eC<|.int 0)<|jE (jT vX (jT vX (jD 1)<|eC<|.int 0)<|eC<|.int 0) jP)
 rS
abbrev pX:ae->jH->R A:=kQ uO u5
meta abbrev CV:aF:=top 29
meta abbrev C8:ar:=["one", "other", "found", "order", "poly"]
meta abbrev Cz:ar:=["one", "other"]
abbrev vD:Ic:=
 lV (jT pT (jD 0)<|jD 1)
abbrev vq:Sm:=
 um (eFn kK<|jE (jD 2)<|jE (jD 3)<|jE (jD 4) jP)
abbrev C2:Sm:=
 kc (um<|oB pX<|jE (jD 0)<|jE (jD 1) jP)
 (kc (kB BY<|ko 2)
 (kc (mj vD (DT 2<|vE (ko 3)<|vE (ko 4) DU)
 vq)
 (lK<|eFn oK<|jE (jD 2) jP)))
abbrev t7:ae->jH->R A:=kQ C8 C2
meta abbrev Af:aF:=top 30
meta abbrev zl:ar:=["poly", "one", "found", "order", "many"]
meta abbrev zH:ar:=["poly", "one"]
abbrev tu:Ic:=
 lV (jD 1)
abbrev tU:Sm:=
 um (eFn kK<|jE (jD 2)<|jE (jD 3)<|jE (eFn rD<|jE (jD 0)<|jE (jD 4) jP) jP)
abbrev zY:Sm:=
 kc (kB BY<|ko 2)
 (kc (mj tu (DT 2<|vE (ko 3)<|vE (ko 4) DU)
 tU)
 (lK<|eFn oK<|jE (jD 2) jP))
abbrev qE:ae->jH->R A:=kQ zl zY
meta abbrev sG:aF:=top 31
meta abbrev rY:ar:=["one", "k", "found", "order", "poly"]
meta abbrev rQ:ar:=["one", "k"]
abbrev nO:Ic:=
 lV (jD 0)
abbrev mS:Sm:=
 kc (um<|eFn kK<|jE (jD 2)<|jE (oB ng<|jE (jD 3)<|jE (jD 1) jP)<|jE (jD 4) jP)
 (AH (ux<|jT (Ry false) (jD 1)<|eFn mE<|jE (jD 3) jP)
 (um<|eFn kK<|jE (jD 2)<|jE (jD 3)<|jE (eFn rD<|jE (kh (f1 yt)<|jE (eC<|.frz<|[((-1:Int),(1:Int)),((1:Int),(-1:Int))].map kA) jP)<|jE (jD 4) jP) jP)
 rS)
abbrev sq:Sm:=
 kc (kB BY<|ko 2)
 (kc (mj nO (DT 2<|vE (ko 3)<|vE (ko 4) DU)
 mS)
 (lK<|eFn oK<|jE (jD 2) jP))
abbrev mW:ae->jH->R A:=kQ rY sq
meta abbrev qb:aF:=top 33
meta abbrev p_:ar:=["poly"]
meta abbrev nK:ar:=["poly"]
abbrev qe:Sm:=
 lK (F7 wV (kh (f1 CT)<|jE (jD 0) jP)<|jE (eC<|.int 1)<|jE (eC<|.int 0) jP)
abbrev kY:ae->jH->R A:=kQ p_ qe
meta abbrev qH:aF:=top 35
meta abbrev kR:ar:=["order", "k", "known", "less", "told", "lower", "poly", "number"]
meta abbrev nh:ar:=["order", "k", "known"]
abbrev pJ (Fs:ae->jH->R A):Ic:=
 lV (jD 3)
abbrev nq (Fs:ae->jH->R A):Sm:=
 kc (kB (eFn kY<|jE (jD 6) jP)<|ko 7)
 (AH (zm (ux<|jT (yQ true) (jD 7)<|eC<|.int 0)<|ux<|jT (Ry false) (jD 1)<|eFn mE<|jE (jD 5) jP)
 (kB (oB t7<|jE (jD 4)<|jE (eFn qE<|jE (tM<|jE (sX<|jE (eC<|.int 0)<|jE (eUn M5<|jD 7) jP) jP)<|jE (oB Fs<|jE (jD 5)<|jE (jD 2) jP) jP) jP)<|ko 4)
 rS)
abbrev kU (Fs:ae->jH->R A):Sm:=
 kc (kB (oB Fs<|jE (oB ng<|jE (jD 0)<|jE (jD 1) jP)<|jE (jD 2) jP)<|ko 3)
 (kc (kB (oB t7<|jE (oB mW<|jE (jD 3)<|jE (jD 1) jP)<|jE (eFn qE<|jE (tM<|jE (sX<|jE (eC<|.int 1)<|jE (eC<|.int 1) jP) jP)<|jE (jD 3) jP) jP)<|ko 4)
 (kc (mj (pJ Fs) (DT 2<|vE (ko 5)<|vE (ko 6) DU)
 (nq Fs))
 (lK<|jD 4)))
meta abbrev qw:aF:=top 34
meta abbrev oE:ar:=["order", "known", "ends"]
meta abbrev l_:ar:=["order", "known"]
abbrev oS (Fs:ae->jH->R A):Sm:=
 kc (AH (ux<|jT (Ln true) (jD 0)<|jD 1)
 (kc (kB (eFn mE<|jE (jD 0) jP)<|ko 2)
 (AH (r9<|jD 2)
 (kB (oB (kQ kR<|kU Fs)<|jE (jD 0)<|jE (jT vX (jD 2)<|eC<|.int 0)<|jE (jD 1) jP)<|La (jD 1)<|jD 0)
 (kB (tM<|jE (sX<|jE (jD 0)<|jE (tM<|jE (sX<|jE (eC<|.int 0)<|jE (eC<|.int 1) jP) jP) jP) jP)<|La (jD 1)<|jD 0)))
 rS)
 (lK<|jT sD (jD 1)<|jD 0)
abbrev mY:Nat->ae->jH->R A
 | 0=>λ_ _=>.no
 | k+1=>kQ oE<|oS<|mY k
abbrev uf:ae->jH->R A:=mY 8
meta abbrev rO:aF:=top 36
meta abbrev rP:ar:=["orders", "known", "told", "upper", "lower", "poly", "number"]
meta abbrev sC:ar:=["orders"]
abbrev qg:Ic:=
 lV (oB uf<|jE (jD 3)<|jE (jD 1) jP)
abbrev p7:Sm:=
 kc (kB (eFn kY<|jE (jD 5) jP)<|ko 6)
 (AH (ux<|jT (yQ true) (jD 6)<|eC<|.int 0)
 (kc (kB (jD 6)<|Tt (jD 2)<|sX<|jE (jD 4)<|jE (jD 3) jP)
 (kB (jD 6)<|Tt (jD 2)<|sX<|jE (jD 3)<|jE (jD 4) jP))
 rS)
abbrev p6:Ic:=
 lV (jD 0)
abbrev nQ:Sm:=
 mj qg (DT 2<|vE (ko 4)<|vE (ko 5) DU)
 p7
abbrev r8:Sm:=
 kc (kB BY<|ko 1)
 (kc (kB (Ga)<|ko 2)
 (kc (mj p6 (ko 3)
 nQ)
 (lK<|jD 2)))
abbrev nE:ae->jH->R A:=kQ rP r8
meta abbrev ug:aF:=top 39
meta abbrev qu:ar:=["n"]
meta abbrev qt:ar:=["n"]
abbrev qy:Sm:=
 kc (AH (ux<|jT YX (jD 0)<|eC<|.int 4)
 (ye "TooMany" [.inl "no hearths of ",.inr<|jD 0,.inl " things"])
 rS)
 (lK<|kO [none,some 0] (rF<|eFn l9<|jE (jD 0) jP) (ko 0) qJ<|oB nX<|jE (jD 1)<|jE (jD 0) jP)
abbrev kM:ae->jH->R A:=kQ qu qy
meta abbrev pB:aF:=top 40
meta abbrev o9:ar:=["one", "other"]
meta abbrev o8:ar:=["one", "other"]
abbrev pD:Sm:=
 lK (kh (f1 WB)<|jE (kO [none,some 1] (lV<|eFn mE<|jE (jD 0) jP) (ko 0) qJ<|jT (Ry true) (jD 0)<|eFn mE<|jE (jD 1) jP) jP)
abbrev j6:ae->jH->R A:=kQ o9 pD
meta abbrev qW:aF:=top 41
meta abbrev qF:ar:=["start", "next_ones", "reached", "waiting", "here", "order"]
meta abbrev qO:ar:=["start", "next_ones"]
abbrev nk:Ic:=
 lV (jT OG (jD 1)<|jD 4)
abbrev o_:Sm:=
 AH (ux<|jT (Ln true) (jD 5)<|jD 2)
 (kc (kB (eC<|.bl true)<|La (jD 2)<|jD 5)
 (um<|Yo wU (jD 3)<|jE (jD 5) jP))
 rS
abbrev kI:Te:=
 r9 (jD 3)
abbrev kN:Sm:=
 kc (kB (XW W4<|jD 3)<|ko 4)
 (mj nk (ko 5)
 o_)
abbrev qX:Sm:=
 kc (kB (JF (jD 0)<|eC<|.bl true)<|ko 2)
 (kc (kB (tM<|jE (jD 0) jP)<|ko 3)
 (kc (mF kI
 kN 1000000)
 (lK<|jD 2)))
abbrev lQ:ae->jH->R A:=kQ qF qX
meta abbrev wz:aF:=top 42
meta abbrev wA:ar:=["next_ones", "reached", "told", "order", "hearth"]
meta abbrev tP:ar:=["next_ones"]
abbrev tQ:Ic:=
 lV (kh (f1 Ci)<|jE (jD 0) jP)
abbrev oF:Sm:=
 kc (kB (kh (f1 vY)<|jE (kO [none,some 3,some 1] (FH<|jT sD (jD 1)<|jD 3) (ko 0) (ux<|jT (Lf false) (jD 1)<|jT sD (jD 2)<|jD 0)<|jD 0) jP)<|ko 4)
 (AH (ux<|jT (yQ false) (jT vX (jD 4)<|eC<|.int 0)<|jD 3)
 (um<|Yo wU (jD 2)<|jE (jD 4) jP)
 rS)
abbrev wB:Sm:=
 kc (kB (Ml (.dct []) n5 [none,some 0] (FH<|jD 0) (ko 0) qJ (jD 0)<|eFn lQ<|jE (jD 0)<|jE (jD 1) jP)<|ko 1)
 (kc (kB (tM jP)<|ko 2)
 (kc (mj tQ (ko 3)
 oF)
 (lK<|jD 2)))
abbrev nY:ae->jH->R A:=kQ wA wB
meta abbrev p8:aF:=top 43
meta abbrev nP:ar:=["n", "orders", "leads"]
meta abbrev mQ:ar:=["n"]
abbrev nL:Sm:=
 kc (kB (oB kM<|jE (jD 0) jP)<|ko 1)
 (kc (kB (oB nE<|jE (jD 1) jP)<|ko 2)
 (lK<|eFn nY<|jE (Ml (.dct []) n5 [none,some 1,some 2] (lV<|jD 1) (ko 0) qJ (jD 0)<|kO [none,some 2,some 0] (lV<|jD 1) (ko 0) (zm (ux<|jT (AQ false) (sX<|jE (jD 2)<|jE (jD 0) jP)<|jD 1)<|r9<|eFn j6<|jE (jD 0)<|jE (jD 2) jP)<|jD 0) jP))
abbrev kg:ae->jH->R A:=kQ nP nL
meta abbrev uc:aF:=top 44
meta abbrev tV:ar:=["hearths"]
meta abbrev qk:ar:=["hearths"]
abbrev tW:Sm:=
 lK (kh (f1 F1)<|jE (kO [none] (lV<|jD 0) (ko 0) qJ<|kh (f1 vY)<|jE (kO [none] (lV<|jD 0) (ko 0) qJ<|eFn r6<|jE (jD 0) jP) jP) jP)
abbrev mP:ae->jH->R A:=kQ tV tW
meta abbrev qI:aF:=top 45
meta abbrev oO:ar:=["n"]
meta abbrev qZ:ar:=["n"]
abbrev oQ:Sm:=
 lK (eFn mP<|jE (oB kg<|jE (jD 0) jP) jP)
abbrev lN:ae->jH->R A:=kQ oO oQ
meta abbrev qM:aF:=top 46
meta abbrev oA:ar:=["n", "right", "next_ones", "hearth", "order"]
meta abbrev qV:ar:=["n"]
abbrev pG:Ic:=
 lV (jD 3)
abbrev o4:Sm:=
 um (Yo Dh (jT sD (jD 2)<|jD 4)<|jE (jD 3) jP)
abbrev pF:Ic:=
 lV (jT pT (jD 1)<|eFn mP<|jE (jD 1) jP)
abbrev pH:Sm:=
 mj pG (ko 4)
 o4
abbrev oU:Sm:=
 kc (kB (oB kg<|jE (jD 0) jP)<|ko 1)
 (kc (kB (Ml (.dct []) n5 [none] (lV<|oB kM<|jE (jD 0) jP) (ko 0) qJ (jD 0)<|tM jP)<|ko 2)
 (kc (mj pF (ko 3)
 pH)
 (lK<|eFn nY<|jE (jD 2) jP)))
abbrev lG:ae->jH->R A:=kQ oA oU
meta abbrev wk:aF:=top 48
meta abbrev wF:ar:=["_law_script", "_law_k"]
meta abbrev wj:ar:=["_law_script", "_law_k"]
abbrev wm:Sm:=
 kc (AH (ux<|jT XX (jD 1)<|kh (f1 qN)<|jE (jD 0) jP)
 (lK<|jT vX (jD 0)<|jD 1)
 rS)
 (lK<|eC<|.int 0)
abbrev qL:ae->jH->R A:=kQ wF wm
meta abbrev xU:aF:=top 49
meta abbrev xT:ar:=["_law_cell_here", "_law_place", "_law_far"]
meta abbrev xX:ar:=["_law_cell_here", "_law_place"]
abbrev yl:Sm:=
 kc (kB (kh (f1 Ye)<|jE (jD 0) jP)<|ko 2)
 (kc (AH (ux<|jT XX (jD 2)<|jT Wu (eC<|.int 10)<|eC<|.int 18)
 (kB (eC<|.int 0)<|ko 2)
 rS)
 (lK<|tM<|jE (jD 2)<|jE (jT Cc (jT pT (jT pT (jT ym (jT Cc (jD 0)<|eC<|.int 2147483647)<|eC<|.int 69621)<|jT ym (eC<|.int 7919)<|jD 1)<|eC<|.int 13)<|eC<|.int 2147483647) jP))
abbrev sQ:ae->jH->R A:=kQ xT yl
meta abbrev uR:aF:=top 50
meta abbrev uQ:ar:=["_law_bag_here"]
meta abbrev uJ:ar:=["_law_bag_here"]
abbrev uF:Sm:=
 kc (kB (jT Cc (jT pT (jT ym (jT vX (jD 0)<|eC<|.int 1)<|eC<|.int 48271)<|eC<|.int 11)<|eC<|.int 2147483647)<|X3 (jD 0)<|eC<|.int 1)
 (lK<|jT Ad (jT Cc (jT ym (jT vX (jD 0)<|eC<|.int 1)<|eC<|.int 16807)<|eC<|.int 2147483629)<|eC<|.int 8)
abbrev n8:ae->jH->R A:=kQ uQ uF
meta abbrev uC:aF:=top 51
meta abbrev rz:ar:=["_law_bag_here", "_law_many", "_law_found", "_law_k"]
meta abbrev uW:ar:=["_law_bag_here", "_law_many"]
abbrev AZ:Ic:=
 rF (eC<|.int 7)
abbrev A_:Sm:=
 kB (jT pT (jT ym (jD 2)<|eC<|.int 268435399)<|eFn n8<|jE (jD 0) jP) (ko 2)
abbrev rH:Sm:=
 kc (AH (ux<|jT YX (jT vX (jD 0)<|eC<|.int 0)<|eC<|.int 0)
 (kc (kB (jT Cc (jT vX (jD 0)<|eC<|.int 0)<|jD 1)<|ko 2)
 (kc (kB (jT Ad (jT vX (jD 0)<|eC<|.int 0)<|jD 1)<|X3 (jD 0)<|eC<|.int 0)
 (lK<|jD 2)))
 rS)
 (kc (kB (eFn n8<|jE (jD 0) jP)<|ko 2)
 (kc (AH (ux<|jT YX (jD 1)<|eC<|.int 1000)
 (mj AZ (ko 3)
 A_)
 rS)
 (lK<|jT Cc (jD 2)<|jD 1)))
abbrev lZ:ae->jH->R A:=kQ rz rH
meta abbrev rR:aF:=top 52
meta abbrev sF:ar:=["_law_e", "_law_named", "_law_words", "_law_some"]
meta abbrev sd:ar:=["_law_e"]
abbrev sy:Sm:=
 kc (kB (tM<|jE (yg (Gh [("NoPair",false),("NoWord",true),("NoNumber",false),("TooMany",false)])<|jD 0)<|jE (yg (Gh [("NoPair",false),("NoWord",false),("NoNumber",true),("TooMany",false)])<|jD 0)<|jE (yg (Gh [("NoPair",true),("NoWord",false),("NoNumber",false),("TooMany",false)])<|jD 0)<|jE (yg (Gh [("NoPair",false),("NoWord",false),("NoNumber",false),("TooMany",true)])<|jD 0) jP)<|ko 1)
 (kc (kB (jT pT (jD 1)<|tM<|jE (yg (Gh [("NoPair",false),("NoWord",false),("NoNumber",false),("TooMany",false)])<|jD 0)<|jE (yg (Gh [("NoPair",false),("NoWord",false),("NoNumber",false),("TooMany",false)])<|jD 0)<|jE (yg (Gh [("NoPair",false),("NoWord",false),("NoNumber",false),("TooMany",false)])<|jD 0)<|jE (yg (Gh [("NoPair",false),("NoWord",false),("NoNumber",false),("TooMany",false)])<|jD 0) jP)<|ko 1)
 (kc (kB (tM<|jE (eC<|.str<|PySem.Str.ofString "NoWord")<|jE (eC<|.str<|PySem.Str.ofString "NoNumber")<|jE (eC<|.str<|PySem.Str.ofString "NoPair")<|jE (eC<|.str<|PySem.Str.ofString "TooMany")<|jE (eC<|.str<|PySem.Str.ofString "NoTables")<|jE (eC<|.str<|PySem.Str.ofString "NoText")<|jE (eC<|.str<|PySem.Str.ofString "NoRow")<|jE (eC<|.str<|PySem.Str.ofString "NoName") jP)<|ko 2)
 (kc (kB (kO [none,some 2,some 1] (rF<|eC<|.int 8) (ko 0) (r9<|jT vX (jD 2)<|jD 0)<|jT vX (jD 1)<|jD 0)<|ko 3)
 (kc (AH (Xv (ux<|jT (yQ true) (kh (f1 qN)<|jE (jD 3) jP)<|eC<|.int 1)<|OH<|r9<|yg (Gh [("NoPair",true),("NoWord",true),("NoNumber",true),("TooMany",true)])<|jD 0)
 (lK<|eC<|.str<|PySem.Str.ofString "else")
 rS)
 (lK<|jT vX (jD 3)<|eC<|.int 0)))))
abbrev nI:ae->jH->R A:=kQ sF sy
meta abbrev su:aF:=top 53
meta abbrev mX:ar:=["_law_kind", "_law_n"]
meta abbrev rW:ar:=["_law_kind", "_law_n"]
abbrev mZ:Sm:=
 kc (AH (ux<|jT (yQ false) (jD 0)<|eC<|.int 0)
 (lK<|oB kg<|jE (jD 1) jP)
 rS)
 (kc (AH (ux<|jT (yQ false) (jD 0)<|eC<|.int 1)
 (lK<|oB lN<|jE (jD 1) jP)
 rS)
 (lK<|oB lG<|jE (jD 1) jP))
abbrev kP:ae->jH->R A:=kQ mX mZ
meta abbrev wJ:aF:=top 54
meta abbrev tF:ar:=["_law_kind", "_law_n", "_law_found", "_law_e"]
meta abbrev v9:ar:=["_law_kind", "_law_n"]
abbrev t8:Sm:=
 kc (FL 3 4 ["NoPair", "NoWord", "NoNumber", "TooMany"] (kB (oB kP<|jE (jD 0)<|jE (jD 1) jP)<|ko 2)
 (lK<|eFn nI<|jE (jD 3) jP))
 (lK<|kh (f1 Xq)<|jE (kO [none] (lV<|jD 2) (ko 0) qJ<|kh (f1 qN)<|jE (jD 0) jP) jP)
abbrev mh:ae->jH->R A:=kQ tF t8
meta abbrev NP:aF:=top 55
meta abbrev OZ:ar:=["_law_script", "_law_k", "_law_bag_here", "_law_n", "_law_few", "_law_kind"]
meta abbrev Vz:ar:=["_law_script"]
abbrev Dm:Ic:=
 rF (eC<|.int 3)
abbrev CI:Sm:=
 AH (Xv (ux<|jT (yQ true) (eFn mh<|jE (jD 5)<|jE (jD 3) jP)<|eC<|.str<|PySem.Str.ofString "TooMany")<|ux<|jT (yQ true) (eFn mh<|jE (jD 5)<|jE (jD 4) jP)<|jT vX (tM<|jE (eC<|.int 1)<|jE (eC<|.int 2)<|jE (eC<|.int 6) jP)<|jT aSub (jD 4)<|eC<|.int 1)
 (lK<|eC<|.bl false)
 rS
abbrev JY:Ic:=
 rF (kh (f2 Q5)<|jE (eC<|.int 1)<|jE (kh (f2 Qa)<|jE (kh (f1 qN)<|jE (jD 0) jP)<|jE (eC<|.int 4) jP) jP)
abbrev JL:Sm:=
 kc (kB (eFn sQ<|jE (eFn qL<|jE (jD 0)<|jE (jD 1) jP)<|jE (jT pT (eC<|.int 1)<|jD 1) jP)<|ko 2)
 (kc (kB (jT pT (eC<|.int 5)<|eFn lZ<|jE (jD 2)<|jE (eC<|.int 16) jP)<|ko 3)
 (kc (kB (jT pT (eC<|.int 1)<|eFn lZ<|jE (jD 2)<|jE (eC<|.int 3) jP)<|ko 4)
 (mj Dm (ko 5)
 CI)))
abbrev Nv:Sm:=
 kc (mj JY (ko 1)
 JL)
 (lK<|eC<|.bl true)
abbrev BC:ae->jH->R A:=kQ OZ Nv
section
variable {P:aj}{w:ah}{K:au}{mg:Str->bd}{base:aq}{f:ak}{fd:FuncData}
def Ej:FnScope wH sZ (jN wg):=uo rfl rfl rfl ∅
def D6(F:Fun K "is_whole" "is_whole" wg f fd)(aa4:mg "isinstance" = none)(abq:mg "bool" = none)(abr:mg "int" = none):FnOk P w K mg base ur 1 f fd sZ (vn K 1 nU):=Ag (m:=v5) F Ej λd B outer s H E g=>
 jM (j5<|Mn (j9 VH aa4 sH<|jG (jC 0)<|jG (U4 abr Ym) jQ)<|Oc<|Wq<|j9 VH aa4 sH<|jG (jC 0)<|jG (U4 abq SJ) jQ)
def CQ:FnScope uD uI (jN u7):=uo rfl rfl rfl ∅
def Dj(F:Fun K "need_pair" "need_pair" u7 f fd)(aai:ExcK K U "NoPair" zaa)(aay:mg "len" = none):FnOk P w K mg base (xN P w) 1 f fd uI (BB K 2 pZ):=fnX (m:=uA) F CQ λg B outer s H E d=>
 jM (n_ (lA (F9 d.units) (j9 sS aay pC<|jG (jC 0) jQ)<|j9 sS aay pC<|jG (jC 1) jQ)
 (jM<|vH (ps:=[.inl "orders of ",.inr<|kh (f1 qN)<|jE (jD 0) jP,.inl " and of ",.inr<|kh (f1 qN)<|jE (jD 1) jP,.inl " things"]) aai.n aai.q d.hd<|.txt<|.val (j9 sS aay pC<|jG (jC 0) jQ)<|.txt<|.val (j9 sS aay pC<|jG (jC 1) jQ)<|.txt .nil)
 lB)
def zd:FnScope Gy Gs (jN GR):=uo rfl rfl rfl ∅
def Uu(F:Fun K "back" "back" GR f fd)(aay:mg "len" = none)(abv:mg "enumerate" = none)(aa7:mg "tuple" = none):FnOk P w K mg base ur 1 f fd Gs (vn K 1 r6):=Ag (m:=GD) F zd λd B outer s H E g=>
 jL (j8 (i:=1) zd.nd<|j0 zU (nZ<|jG jR jQ)<|j9 sS aay pC<|jG (jC 0) jQ)
 (jL (m8 cR rfl (XH abv<|jC 0) (r_ rfl<|kC (jY (i:=2) zd.nd)<|kC (jY (i:=3) zd.nd) pM)
 (jM<|qf (j0 oZ (jC 2) jR)<|Ac (jC 1)<|j0 xr (jC 3) jR))
 (jM<|j5<|oq (Dp rfl) aa7 zy<|jG (jC 1) jQ))
def z_:FnScope sJ sI (jN sA):=uo rfl rfl rfl ∅
def Ax(F:Fun K "is_exchange" "is_exchange" sA f fd)(abb:sL P w K mg base 1 "is_whole" sZ nU):FnOk P w K mg base ur 2 f fd sI (vn K 2 nG):=Ag (m:=rV) F z_ λg B outer s H E d=>
 jM (j5<|Mn (AO abb d<|jC 1)<|Oc<|aaU ab7 (RM d.units) jR (jC 1)<|jC 0)
def qj:FnScope nR nS (jN nW):=uo rfl rfl rfl ∅
def vN(F:Fun K "exchanged_places" "exchanged_places" nW f fd)(aa8:mg "list" = none)(aa7:mg "tuple" = none):FnOk P w K mg base ur 1 f fd nS (vn K 3 lJ):=Ag (m:=nV) F qj λd B outer s H E g=>
 jL (j8 (i:=3) qj.nd<|oq (G9 rfl) aa8 CH<|jG (jC 0) jQ)
 (jL (qf (rT<|jG (n9 (jC 3)<|j0 xr (jC 2) jR)<|jG (n9 (jC 3)<|j0 xr (jC 1) jR) jQ)<|r_ rfl<|kC (Ac (jC 3)<|j0 xr (jC 1) jR)<|kC (Ac (jC 3)<|j0 xr (jC 2) jR) pM)
 (jM<|j5<|oq (Dp rfl) aa7 zy<|jG (jC 3) jQ))
def CS:FnScope uL rE (jN vd):=uo rfl rfl rfl ∅
def DH(F:Fun K "exchanged" "exchanged" vd f fd)(aak:ExcK K U "NoWord" zab)(aay:mg "len" = none)(abw:sL P w K mg base 2 "is_exchange" sI nG)(aby:sL P w K mg base 1 "exchanged_places" nS lJ):FnOk P w K mg base (xN P w) 3 f fd rE (BB K 2 ng):=fnX (m:=uG) F CS λg B outer s H E d=>
 jL (n_ (FZ<|qQ<|Mf abw d (j9 sS aay pC<|jG (jC 0) jQ)<|jC 1)
 (jM<|vH (ps:=[.inl "no exchange of ",.inr<|kh (f1 qN)<|jE (jD 0) jP,.inl " things"]) aak.n aak.q d.hd<|.txt<|.val (j9 sS aay pC<|jG (jC 0) jQ)<|.txt .nil)
 lB)
 (jM<|j5<|fn3 aby d (jC 0) (jC 1)<|j0 oZ (jC 1) jR)
def QE:FnScope Ct tN (jN DS):=uo rfl rfl rfl ∅
def NN(F:Fun K "falls" "falls" DS f fd)(aaE:mg "range" = none)(aay:mg "len" = none):FnOk P w K mg base ur 1 f fd tN (vn K 1 mE):=Ag (m:=DO) F QE λd B outer s H E g=>
 jM (j5<|pL (N:=["k", "order"]) (cap:=[none,some 0]) rfl (rA ["order"] rfl ∅ ∅ ∅ ∅ ∅ (aO.mpr ⟨by first|exact Or.inl rfl|exact Or.inr rfl,(nofun)⟩) ⟨rfl,by decide +kernel,trivial⟩) (B5 aaE jR<|j9 sS aay pC<|jG (jC 0) jQ) (λ_ _ _ _=>jY (i:=0) (show(["k", "order"]:ar).Nodup by decide +kernel) rfl (Or.inl rfl)<|.inr rfl) (λ_ _ _ _=>vf<|lA (Ux g.units) (n9 (jC 1)<|j0 xr (jC 0) jR)<|n9 (jC 1)<|jC 0) λ_ _ _ _=>jC 0)
def qx:FnScope uX rC (jN uz):=uo rfl rfl rfl ∅
def Du(F:Fun K "factorial" "factorial" uz f fd)(aaE:mg "range" = none):FnOk P w K mg base ur 1 f fd rC (vn K 1 l9):=Ag (m:=ve) F qx λd B outer s H E g=>
 jL (j8 (i:=1) qx.nd jR)
 (jL (m8 cR rfl (B5 aaE jR<|j0 oZ (jC 0) jR) (jY (i:=2) qx.nd)
 (jM<|V8 (i:=1) qx.nd (jC 2) Ti))
 (jM<|j5<|jC 1))
def pW:FnScope wN wR (jN wu):=uo rfl rfl rfl ∅
def FD(F:Fun K "numbered" "numbered" wu f fd)(aap:ExcK K U "NoNumber" zac)(aa8:mg "list" = none)(aaE:mg "range" = none)(aay:mg "len" = none)(aa7:mg "tuple" = none)(aba:sL P w K mg base 1 "factorial" rC l9)(abb:sL P w K mg base 1 "is_whole" sZ nU):FnOk P w K mg base (xN P w) 2 f fd wR (BB K 2 nX):=fnX (m:=wc) F pW λg B outer s H E d=>
 jL (n_ (AW.at<|Hy (FZ<|qQ<|AO abb d<|jC 1)<|Hy (lA (RM d.units) (jC 1) jR)<|G_<|lA abL (jC 1)<|AO aba d<|jC 0)
 (jM<|vH (ps:=[.inl "no number of an order of ",.inr<|jD 0,.inl " things"]) aap.n aap.q d.hd<|.txt<|.val (jC 0)<|.txt .nil)
 lB)
 (jL (j8 (i:=2) pW.nd<|oq (G9 rfl) aa8 CH<|jG (oq Q9 aaE Mt<|jG jR<|jG (j0 oZ (jC 0) jR) jQ) jQ)
 (jL (j8 (i:=3) pW.nd<|nZ jQ)
 (jL (D5 1000000 dH (qQ<|jC 2)
 (jL (j8 (i:=4) pW.nd<|AO aba d<|j0 xr (j9 sS aay pC<|jG (jC 2) jQ) jR)
 (jL (pN<|ER gu gv zx (jC 3)<|jG (ER PySem.F.slot_list_pop PySem.F.type_list_pop RX (jC 2)<|jG (j0 Dz (jC 1)<|jC 4) jQ) jQ)
 (jM<|j8 (i:=1) pW.nd<|j0 xr (jC 1)<|j0 zU (j0 Dz (jC 1)<|jC 4)<|jC 4))))
 (jM<|j5<|oq (Dp rfl) aa7 zy<|jG (jC 3) jQ))))
def yo:FnScope qc nJ (jN qd):=uo rfl rfl rfl ∅
def xZ(F:Fun K "as_polynomial" "as_polynomial" qd f fd)(aa5:mg "sorted" = none):FnOk P w K mg base ur 1 f fd nJ (vn K 1 k8):=Ag (m:=qa) F yo λg B outer s H E d=>
 jM (j5<|pL (N:=["power", "numbers"]) (cap:=[none,some 0]) rfl (rA ["numbers"] rfl ∅ ∅ ∅ ∅ ∅ (aO.mpr ⟨by first|exact Or.inl rfl|exact Or.inr rfl,(nofun)⟩) ⟨rfl,by decide +kernel,trivial⟩) (lX<|j9 (N6 rfl) aa5 qA<|jG (jC 0) jQ) (λ_ _ _ _=>jY (i:=0) (show(["power", "numbers"]:ar).Nodup by decide +kernel) rfl (Or.inl rfl)<|.inr rfl) (λ_ _ _ _=>vf<|lA (F9 d.units) (Mp d.units (jC 1)<|jC 0) jR) λ_ _ _ _=>rT<|jG (jC 0)<|jG (Mp d.units (jC 1)<|jC 0) jQ)
def yX:FnScope Gp GB (jN GO):=uo rfl rfl rfl ∅
def Sj(F:Fun K "plus" "plus" GO f fd)(abc:mg "dict" = none)(abe:sL P w K mg base 1 "as_polynomial" nJ k8):FnOk P w K mg base ur 2 f fd GB (vn K 2 zV):=Ag (m:=Hh) F yX λg B outer s H E d=>
 jL (j8 (i:=2) yX.nd<|oq (Je rfl) abc IX<|jG (jC 0) jQ)
 (jL (m8 cR rfl (lX<|jC 1) (r_ rfl<|kC (jY (i:=3) yX.nd)<|kC (jY (i:=4) yX.nd) pM)
 (jM<|qf (j0 oZ (F2 dj fR (GG d.units) (jC 2)<|jG (jC 3)<|jG jR jQ)<|jC 4)<|IB d.units (jC 2)<|jC 3))
 (jM<|j5<|AO abe d<|jC 2))
def sW:FnScope DB yY (jN Cg):=uo rfl rfl rfl ∅
def P8(F:Fun K "times" "times" Cg f fd)(abe:sL P w K mg base 1 "as_polynomial" nJ k8):FnOk P w K mg base ur 2 f fd yY (vn K 2 rD):=Ag (m:=Ca) F sW λg B outer s H E d=>
 jL (j8 (i:=2) sW.nd PU)
 (jL (m8 cR rfl (lX<|jC 0) (r_ rfl<|kC (jY (i:=3) sW.nd)<|kC (jY (i:=4) sW.nd) pM)
 (jM (m8 cR rfl (lX<|jC 1) (r_ rfl<|kC (jY (i:=5) sW.nd)<|kC (jY (i:=6) sW.nd) pM)
 (jM<|qf (j0 oZ (F2 dj fR (GG d.units) (jC 2)<|jG (j0 oZ (jC 3)<|jC 5)<|jG jR jQ)<|j0 YL (jC 4)<|jC 6)<|IB d.units (jC 2)<|j0 oZ (jC 3)<|jC 5))))
 (jM<|j5<|AO abe d<|jC 2))
def Be:FnScope tK ow (jN ue):=uo rfl rfl rfl ∅
def AJ(F:Fun K "put_before" "put_before" ue f fd)(abz:sL P w K mg base 2 "plus" GB zV):FnOk P w K mg base ur 3 f fd ow (vn K 3 kK):=Ag (m:=t9) F Be λg B outer s H E d=>
 jM (qf (Mf abz d (V7 dj fR (aaN d.units) (jC 0)<|jG (jC 1)<|jG (nZ jQ) jQ)<|jC 2)<|yU d.units (jC 0)<|jC 1)
def Lp:FnScope zT uE (jN zD):=uo rfl rfl rfl ∅
def LH(F:Fun K "as_sum" "as_sum" zD f fd)(aa5:mg "sorted" = none):FnOk P w K mg base ur 1 f fd uE (vn K 1 oK):=Ag (m:=zB) F Lp λg B outer s H E d=>
 jM (j5<|pL (N:=["order", "found"]) (cap:=[none,some 0]) rfl (rA ["found"] rfl ∅ ∅ ∅ ∅ ∅ (aO.mpr ⟨by first|exact Or.inl rfl|exact Or.inr rfl,(nofun)⟩) ⟨rfl,by decide +kernel,trivial⟩) (lX<|j9 (Nf rfl) aa5 qA<|jG (jC 0) jQ) (λ_ _ _ _=>jY (i:=0) (show(["order", "found"]:ar).Nodup by decide +kernel) rfl (Or.inl rfl)<|.inr rfl) (λ_ _ _ _=>vf<|qQ<|yi d.units (jC 1)<|jC 0) λ_ _ _ _=>rT<|jG (jC 0)<|jG (yi d.units (jC 1)<|jC 0) jQ)
def Co:FnScope uO uU (jN uZ):=uo rfl rfl rfl ∅
def C9(F:Fun K "need_like" "need_like" uZ f fd)(abA:xM P w K mg base 1 "need_pair" uI pZ):FnOk P w K mg base (xN P w) 2 f fd uU (BB K 2 pX):=fnX (m:=u5) F Co λd B outer s H E g=>
 jM (n_ (AW.at<|GK (qQ<|jC 0)<|DN<|qQ<|jC 1)
 (jM<|pN<|Zl abA g (n9 (n9 (jC 0) jR) jR)<|n9 (n9 (jC 1) jR) jR)
 lB)
def w6:FnScope C8 Cz (jN CV):=uo rfl rfl rfl ∅
def QX(F:Fun K "added" "added" CV f fd)(abE:xM P w K mg base 2 "need_like" uU pX)(aa6:sL P w K mg base 3 "put_before" ow kK)(aa9:sL P w K mg base 1 "as_sum" uE oK):FnOk P w K mg base (xN P w) 4 f fd Cz (BB K 2 t7):=fnX (m:=C2) F w6 λg B outer s H E d=>
 jL (pN<|Zl abE d (jC 0)<|jC 1)
 (jL (j8 (i:=2) w6.nd zc)
 (jL (m8 dH rfl (lX<|j0 oZ (jC 0)<|jC 1) (r_ rfl<|kC (jY (i:=3) w6.nd)<|kC (jY (i:=4) w6.nd) pM)
 (jM<|pN<|fn3 aa6 d (jC 2) (jC 3)<|jC 4))
 (jM<|j5<|AO aa9 d<|jC 2)))
def vj:FnScope zl zH (jN Af):=uo rfl rfl rfl ∅
def LL(F:Fun K "scaled" "scaled" Af f fd)(aa6:sL P w K mg base 3 "put_before" ow kK)(abf:sL P w K mg base 2 "times" yY rD)(aa9:sL P w K mg base 1 "as_sum" uE oK):FnOk P w K mg base ur 4 f fd zH (vn K 2 qE):=Ag (m:=zY) F vj λg B outer s H E d=>
 jL (j8 (i:=2) vj.nd zc)
 (jL (m8 cR rfl (lX<|jC 1) (r_ rfl<|kC (jY (i:=3) vj.nd)<|kC (jY (i:=4) vj.nd) pM)
 (jM<|pN<|fn3 aa6 d (jC 2) (jC 3)<|Mf abf d (jC 0)<|jC 4))
 (jM<|j5<|AO aa9 d<|jC 2))
def oG:FnScope rY rQ (jN sG):=uo rfl rfl rfl ∅
def zZ(F:Fun K "by_exchange" "by_exchange" sG f fd)(aa8:mg "list" = none)(h_AT_A_FALL:∃a,mg "AT_A_FALL" = some (.ref a)/\Zg K a=some [((-1:Int),(1:Int)),((1:Int),(-1:Int))])(aa6:sL P w K mg base 3 "put_before" ow kK)(abg:xM P w K mg base 3 "exchanged" rE ng)(aaQ:sL P w K mg base 1 "falls" tN mE)(abf:sL P w K mg base 2 "times" yY rD)(aa9:sL P w K mg base 1 "as_sum" uE oK):FnOk P w K mg base (xN P w) 4 f fd rQ (BB K 2 mW):=fnX (m:=sq) F oG λg B outer s H E d=>
 jL (j8 (i:=2) oG.nd zc)
 (jL (m8 dH rfl (lX<|jC 0) (r_ rfl<|kC (jY (i:=3) oG.nd)<|kC (jY (i:=4) oG.nd) pM)
 (jL (pN<|fn3 aa6 d (jC 2) (Zl abg d (jC 3)<|jC 1)<|jC 4)
 (jM (n_ (lA (aag d.units) (jC 1)<|AO aaQ d<|jC 3)
 (jM<|pN<|fn3 aa6 d (jC 2) (jC 3)<|Mf abf d (oq (G9 rfl) aa8 CH<|jG (Pb h_AT_A_FALL.choose_spec.1 h_AT_A_FALL.choose_spec.2) jQ)<|jC 4)
 lB))))
 (jM<|j5<|AO aa9 d<|jC 2))
def xO:FnScope p_ nK (jN qb):=uo rfl rfl rfl ∅
def xW(F:Fun K "number_at_one" "number_at_one" qb f fd)(abc:mg "dict" = none):FnOk P w K mg base ur 1 f fd nK (vn K 1 kY):=Ag (m:=qe) F xO λd B outer s H E g=>
 jM (j5<|F2 dj fR (GG g.units) (oq (Je rfl) abc IX<|jG (jC 0) jQ)<|jG jR<|jG jR jQ)
def kZ:FnScope kR nh (jN qH):=uo rfl rfl rfl ∅
def yJ{Fs:ae->jH->R A}(F:Fun K "kept_by_fall" "kept_by_fall" qH f fd)(abg:xM P w K mg base 3 "exchanged" rE ng)(abl:xM P w K mg base 4 "added" Cz t7)(abm:sL P w K mg base 4 "scaled" zH qE)(abI:xM P w K mg base 4 "by_exchange" rQ mW)(abh:sL P w K mg base 1 "number_at_one" nK kY)(aaQ:sL P w K mg base 1 "falls" tN mE)(acS:xM P w K mg base (5+2 * kr) "found_kept" l_ Fs):FnOk P w K mg base (xN P w) (5+2 * kr+1) f fd nh (BB K 3<|kQ kR<|kU Fs):=fnX (m:=kU Fs) F kZ λg B outer s H E d=>
 jL (j8 (i:=3) kZ.nd<|tH acS (d.mono ()) (jG (tH abg (d.mono ()) (jG (jC 0)<|jG (jC 1) jQ)<|jZ<|jZ lR)<|jG (jC 2) jQ)<|jZ<|jZ lR)
 (jL (j8 (i:=4) kZ.nd<|tH abl (d.mono ()) (jG (tH abI (d.mono ()) (jG (jC 3)<|jG (jC 1) jQ)<|jZ<|jZ lR)<|jG (yw abm (d.mono ()) (jG (nZ<|jG (rT<|jG jR<|jG jR jQ) jQ)<|jG (jC 3) jQ)<|jZ<|jZ lR) jQ)<|jZ<|jZ lR)
 (jL (m8 dH rfl (lX<|jC 3) (r_ rfl<|kC (jY (i:=5) kZ.nd)<|kC (jY (i:=6) kZ.nd) pM)
 (jL (j8 (i:=7) kZ.nd<|yw abh (d.mono ()) (jG (jC 6) jQ)<|jZ lR)
 (jM (n_ (AW.at<|GK (lA (F9 d.units) (jC 7) jR)<|DN<|lA (aag d.units) (jC 1)<|yw aaQ (d.mono ()) (jG (jC 5) jQ)<|jZ lR)
 (jM<|j8 (i:=4) kZ.nd<|tH abl (d.mono ()) (jG (jC 4)<|jG (yw abm (d.mono ()) (jG (nZ<|jG (rT<|jG jR<|jG (V2<|jC 7) jQ) jQ)<|jG (tH acS (d.mono ()) (jG (jC 5)<|jG (jC 2) jQ)<|jZ<|jZ lR) jQ)<|jZ<|jZ lR) jQ)<|jZ<|jZ lR)
 lB))))
 (jM<|j5<|jC 4)))
def vQ:FnScope oE l_ (jN qw):=uo rfl rfl rfl ∅
def AR{Fs:ae->jH->R A}(F:Fun K "found_kept" "found_kept" qw f fd)(aaQ:sL P w K mg base 1 "falls" tN mE)(acU:xM P w K mg base (5+2 * kr+1) "kept_by_fall" nh<|kQ kR<|kU Fs):FnOk P w K mg base (xN P w) (5+2 * kr+2) f fd l_ (BB K 2<|kQ oE<|oS Fs):=fnX (m:=oS Fs) F vQ λg B outer s H E d=>
 jL (n_ (lA (Ey d.units) (jC 0)<|jC 1)
 (jL (j8 (i:=2) vQ.nd<|yw aaQ (d.mono ()) (jG (jC 0) jQ)<|jZ lR)
 (jM (n_ (qQ<|jC 2)
 (jM<|qf (tH acU (d.mono ()) (jG (jC 0)<|jG (n9 (jC 2) jR)<|jG (jC 1) jQ)<|jZ<|jZ<|jZ lR)<|yU d.units (jC 1)<|jC 0)
 (jM<|qf (nZ<|jG (rT<|jG (jC 0)<|jG (nZ<|jG (rT<|jG jR<|jG jR jQ) jQ) jQ) jQ)<|yU d.units (jC 1)<|jC 0))))
 lB)
 (jM<|j5<|yi d.units (jC 1)<|jC 0)
theorem uB(F:Fun K "found_kept" "found_kept" qw f fd)(aaQ:sL P w K mg base 1 "falls" tN mE)(M_kept_by_fall:∀{Fs:ae->jH->R A} {kr:Nat},xM P w K mg base (5+2 * kr) "found_kept" l_ Fs->xM P w K mg base (5+2 * kr+1) "kept_by_fall" nh (kQ kR<|kU Fs))(hm:mg "found_kept" = some (.ref f))(hk:PySem.W.keepIn K (.ref f)=true)(hb:Binds K fd l_ []):∀kr,FnOk P w K mg base (xN P w) (5+2 * kr) f fd l_ (BB K 2<|mY kr)
 | 0=>Xs rfl
 | kr+1=>AR F aaQ<|M_kept_by_fall ⟨f,fd,uB F aaQ M_kept_by_fall hm hk hb kr,hm,hk,hb⟩
def lI:FnScope rP sC (jN rO):=uo rfl rfl rfl ∅
def zC(F:Fun K "leads_among" "leads_among" rO f fd)(abM:xM P w K mg base 21 "found_kept" l_ uf)(abh:sL P w K mg base 1 "number_at_one" nK kY):FnOk P w K mg base (xN P w) 22 f fd sC (BB K 1 nE):=fnX (m:=r8) F lI λg B outer s H E d=>
 jL (j8 (i:=1) lI.nd zc)
 (jL (j8 (i:=2) lI.nd<|Pn)
 (jL (m8 dH rfl (lX<|jC 0) (jY (i:=3) lI.nd)
 (jM (m8 dH rfl (lX<|Zl abM d (jC 3)<|jC 1) (r_ rfl<|kC (jY (i:=4) lI.nd)<|kC (jY (i:=5) lI.nd) pM)
 (jL (j8 (i:=6) lI.nd<|AO abh d<|jC 5)
 (jM (n_ (lA (F9 d.units) (jC 6) jR)
 (jL (qf (jC 6)<|Kv d.units (jC 2)<|rT<|jG (jC 4)<|jG (jC 3) jQ)
 (jM<|qf (jC 6)<|Kv d.units (jC 2)<|rT<|jG (jC 3)<|jG (jC 4) jQ))
 lB))))))
 (jM<|j5<|jC 2)))
def AK:FnScope qu qt (jN ug):=uo rfl rfl rfl ∅
def A8(F:Fun K "all_orders" "all_orders" ug f fd)(aaw:ExcK K U "TooMany" zad)(aaE:mg "range" = none)(abT:∃t,mg "MOST_THINGS" = some (.int 4 t))(aba:sL P w K mg base 1 "factorial" rC l9)(abU:xM P w K mg base 2 "numbered" wR nX):FnOk P w K mg base (xN P w) 3 f fd qt (BB K 1 kM):=fnX (m:=qy) F AK λg B outer s H E d=>
 jL (n_ (lA (Ux d.units) (jC 0)<|Np abT.choose_spec)
 (jM<|vH (ps:=[.inl "no hearths of ",.inr<|jD 0,.inl " things"]) aaw.n aaw.q d.hd<|.txt<|.val (jC 0)<|.txt .nil)
 lB)
 (jM<|j5<|pL (N:=["number", "n"]) (cap:=[none,some 0]) rfl (rA ["n"] rfl ∅ ∅ ∅ ∅ ∅ (aO.mpr ⟨by first|exact Or.inl rfl|exact Or.inr rfl,(nofun)⟩) ⟨rfl,by decide +kernel,trivial⟩) (vp aaE<|AO aba d<|jC 0) (λ_ _ _ _=>jY (i:=0) (show(["number", "n"]:ar).Nodup by decide +kernel) rfl (Or.inl rfl)<|.inr rfl) (λ_ _ _ _=>rB) λ_ _ _ _=>Zl abU d (jC 1)<|jC 0)
def xJ:FnScope o9 o8 (jN pB):=uo rfl rfl rfl ∅
def xB(F:Fun K "has_other_fall" "has_other_fall" pB f fd)(abV:mg "any" = none)(aaQ:sL P w K mg base 1 "falls" tN mE):FnOk P w K mg base ur 2 f fd o8 (vn K 2 j6):=Ag (m:=pD) F xJ λg B outer s H E d=>
 jM (j5<|j9 (Z_ rfl) abV X0<|jG (pL (N:=["k", "other"]) (cap:=[none,some 1]) rfl (rA ["other"] rfl ∅ ∅ ∅ ∅ ∅ (aO.mpr ⟨by first|exact Or.inl rfl|exact Or.inr rfl,(nofun)⟩) ⟨rfl,by decide +kernel,trivial⟩) (lX<|AO aaQ d<|jC 0) (λ_ _ _ _=>jY (i:=0) (show(["k", "other"]:ar).Nodup by decide +kernel) rfl (Or.inl rfl)<|.inr rfl) (λ_ _ _ _=>rB) λ_ _ _ _=>Yg (T8 d.units) (jC 0)<|AO aaQ d<|jC 1) jQ)
def mV:FnScope qF qO (jN qW):=uo rfl rfl rfl ∅
def yL(F:Fun K "reached_from" "reached_from" qW f fd):FnOk P w K mg base ur 1 f fd qO (vn K 2 lQ):=Ag (m:=qX) F mV λg B outer s H E d=>
 jL (j8 (i:=2) mV.nd<|Uj d.units (jC 0) HF)
 (jL (j8 (i:=3) mV.nd<|nZ<|jG (jC 0) jQ)
 (jL (D5 1000000 cR (qQ<|jC 3)
 (jL (j8 (i:=4) mV.nd<|Y0 PySem.F.slot_list_pop PySem.F.type_list_pop aaB<|jC 3)
 (jM (m8 cR rfl (lX<|Yx d.units (jC 1)<|jC 4) (jY (i:=5) mV.nd)
 (jM (n_ (lA (Ey d.units) (jC 5)<|jC 2)
 (jL (qf HF<|yU d.units (jC 2)<|jC 5)
 (jM<|pN<|ER gu gv zx (jC 3)<|jG (jC 5) jQ))
 lB))))))
 (jM<|j5<|jC 2)))
def pY:FnScope wA tP (jN wz):=uo rfl rfl rfl ∅
def DY(F:Fun K "gathered" "gathered" wz f fd)(aa5:mg "sorted" = none)(abW:sL P w K mg base 1 "reached_from" qO lQ):FnOk P w K mg base ur 2 f fd tP (vn K 1 nY):=Ag (m:=wB) F pY λg B outer s H E d=>
 jL (j8 (i:=1) pY.nd<|Vm (λ_=>OY) d.units (N:=["order", "next_ones"]) (cap:=[none,some 0]) rfl (rA ["next_ones"] rfl ∅ ∅ ∅ ∅ ∅ (aO.mpr ⟨by first|exact Or.inl rfl|exact Or.inr rfl,(nofun)⟩) ⟨rfl,by decide +kernel,trivial⟩) (DW<|jC 0) (λ_ _ _ _=>jY (i:=0) (show(["order", "next_ones"]:ar).Nodup by decide +kernel) rfl (Or.inl rfl)<|.inr rfl) (λ_ _ _ _=>rB) (λ_ _ _ _=>jC 0) λ_ _ _ _=>Mf abW d (jC 0)<|jC 1)
 (jL (j8 (i:=2) pY.nd<|nZ jQ)
 (jL (m8 cR rfl (lX<|j9 (Ox rfl) aa5 qA<|jG (jC 0) jQ) (jY (i:=3) pY.nd)
 (jL (j8 (i:=4) pY.nd<|j9 JP aa5 qA<|jG (pL (N:=["other", "order", "reached"]) (cap:=[none,some 3,some 1]) rfl (rA ["order", "reached"] rfl ∅ ∅ ∅ ∅ ∅ (aO.mpr ⟨by first|exact Or.inl rfl|exact Or.inr rfl,(aO.mpr ⟨by first|exact Or.inl rfl|exact Or.inr rfl,(nofun)⟩)⟩) ⟨rfl,by decide +kernel,⟨rfl,by decide +kernel,trivial⟩⟩) (DW<|yi d.units (jC 1)<|jC 3) (λ_ _ _ _=>jY (i:=0) (show(["other", "order", "reached"]:ar).Nodup by decide +kernel) rfl (Or.inl rfl)<|.inr rfl) (λ_ _ _ _=>vf<|lA (Z5 d.units) (jC 1)<|yi d.units (jC 2)<|jC 0) λ_ _ _ _=>jC 0) jQ)
 (jM (n_ (lA (Y9 d.units) (n9 (jC 4) jR)<|jC 3)
 (jM<|pN<|ER gu gv zx (jC 2)<|jG (jC 4) jQ)
 lB))))
 (jM<|j5<|jC 2)))
def pK:FnScope nP mQ (jN p8):=uo rfl rfl rfl ∅
def x_(F:Fun K "right_hearths" "right_hearths" p8 f fd)(abi:xM P w K mg base 3 "all_orders" qt kM)(abX:xM P w K mg base 22 "leads_among" sC nE)(abj:sL P w K mg base 2 "gathered" tP nY)(abY:sL P w K mg base 2 "has_other_fall" o8 j6):FnOk P w K mg base (xN P w) 23 f fd mQ (BB K 1 kg):=fnX (m:=nL) F pK λg B outer s H E d=>
 jL (j8 (i:=1) pK.nd<|Vv abi d<|jC 0)
 (jL (j8 (i:=2) pK.nd<|Vv abX d<|jC 1)
 (jM<|j5<|AO abj d<|Vm (λ_=>OY) d.units (N:=["one", "orders", "leads"]) (cap:=[none,some 1,some 2]) rfl (rA ["orders", "leads"] rfl ∅ ∅ ∅ ∅ ∅ (aO.mpr ⟨by first|exact Or.inl rfl|exact Or.inr rfl,(aO.mpr ⟨by first|exact Or.inl rfl|exact Or.inr rfl,(nofun)⟩)⟩) ⟨rfl,by decide +kernel,⟨rfl,by decide +kernel,trivial⟩⟩) (lX<|jC 1) (λ_ _ _ _=>jY (i:=0) (show(["one", "orders", "leads"]:ar).Nodup by decide +kernel) rfl (Or.inr rfl)<|.inl rfl) (λ_ _ _ _=>rB) (λ_ _ _ _=>jC 0) λ_ _ _ _=>pL (N:=["other", "leads", "one"]) (cap:=[none,some 2,some 0]) rfl (rA ["leads", "one"] rfl ∅ ∅ ∅ ∅ ∅ (aO.mpr ⟨by first|exact Or.inl rfl|exact Or.inr rfl,(aO.mpr ⟨by first|exact Or.inl rfl|exact Or.inr rfl,(nofun)⟩)⟩) ⟨rfl,by decide +kernel,⟨rfl,by decide +kernel,trivial⟩⟩) (lX<|jC 1) (λ_ _ _ _=>jY (i:=0) (show(["other", "leads", "one"]:ar).Nodup by decide +kernel) rfl (Or.inl rfl)<|.inr rfl) (λ_ _ _ _=>vf<|AW.at<|GK (lA (aam d.units) (rT<|jG (jC 2)<|jG (jC 0) jQ)<|jC 1)<|DN<|qQ<|Mf abY d (jC 0)<|jC 2) λ_ _ _ _=>jC 0))
def A9:FnScope tV qk (jN uc):=uo rfl rfl rfl ∅
def Bb(F:Fun K "with_backs" "with_backs" uc f fd)(aa5:mg "sorted" = none)(abZ:sL P w K mg base 1 "back" Gs r6):FnOk P w K mg base ur 2 f fd qk (vn K 1 mP):=Ag (m:=tW) F A9 λg B outer s H E d=>
 jM (j5<|j9 (SO d.units) aa5 qA<|jG (pL (N:=["hearth"]) (cap:=[none]) rfl (rA [] rfl ∅ ∅ ∅ ∅ ∅ (nofun) trivial) (lX<|jC 0) (λ_ _ _ _=>jY (i:=0) (show(["hearth"]:ar).Nodup by decide +kernel) rfl (Or.inl rfl)<|.inr rfl) (λ_ _ _ _=>rB) λ_ _ _ _=>j9 JP aa5 qA<|jG (pL (N:=["order"]) (cap:=[none]) rfl (rA [] rfl ∅ ∅ ∅ ∅ ∅ (nofun) trivial) (lX<|jC 0) (λ_ _ _ _=>jY (i:=0) (show(["order"]:ar).Nodup by decide +kernel) rfl (Or.inl rfl)<|.inr rfl) (λ_ _ _ _=>rB) λ_ _ _ _=>AO abZ d<|jC 0) jQ) jQ)
def yG:FnScope oO qZ (jN qI):=uo rfl rfl rfl ∅
def yM(F:Fun K "left_hearths" "left_hearths" qI f fd)(abk:sL P w K mg base 2 "with_backs" qk mP)(aa_:xM P w K mg base 23 "right_hearths" mQ kg):FnOk P w K mg base (xN P w) 24 f fd qZ (BB K 1 lN):=fnX (m:=oQ) F yG λg B outer s H E d=>
 jM (j5<|AO abk d<|Vv aa_ d<|jC 0)
def mT:FnScope oA qV (jN qM):=uo rfl rfl rfl ∅
def yD(F:Fun K "both_hearths" "both_hearths" qM f fd)(aa_:xM P w K mg base 23 "right_hearths" mQ kg)(abi:xM P w K mg base 3 "all_orders" qt kM)(abk:sL P w K mg base 2 "with_backs" qk mP)(abj:sL P w K mg base 2 "gathered" tP nY):FnOk P w K mg base (xN P w) 24 f fd qV (BB K 1 lG):=fnX (m:=oU) F mT λg B outer s H E d=>
 jL (j8 (i:=1) mT.nd<|Vv aa_ d<|jC 0)
 (jL (PK (λ_=>OY) d.units (i:=2) (N:=["order"]) (cap:=[none]) mT.nd rfl (rA [] rfl ∅ ∅ ∅ ∅ ∅ (nofun) trivial) (lX<|Vv abi d<|jC 0) (λ_ _ _ _=>jY (i:=0) (show(["order"]:ar).Nodup by decide +kernel) rfl (Or.inl rfl)<|.inr rfl) (λ_ _ _ _=>rB) (λ_ _ _ _=>jC 0) λ_ _ _ _=>nZ jQ)
 (jL (m8 dH rfl (lX<|j0 oZ (jC 1)<|AO abk d<|jC 1) (jY (i:=3) mT.nd)
 (jM (m8 dH rfl (lX<|jC 3) (jY (i:=4) mT.nd)
 (jM<|pN<|ER PySem.F.slot_list_extend PySem.F.type_list_extend PJ (yi d.units (jC 2)<|jC 4)<|jG (jC 3) jQ))))
 (jM<|j5<|AO abj d<|jC 2)))
def EM:FnScope wF wj (jN wk):=uo rfl rfl rfl ∅
def E6(F:Fun K "_law_cell" "_law_cell" wk f fd)(aay:mg "len" = none):FnOk P w K mg base ur 1 f fd wj (vn K 2 qL):=Ag (m:=wm) F EM λd B outer s H E g=>
 jL (n_ (lA (RM g.units) (jC 1)<|j9 sS aay pC<|jG (jC 0) jQ)
 (jM<|j5<|n9 (jC 0)<|jC 1)
 lB)
 (jM<|j5 jR)
def vZ:FnScope xT xX (jN xU):=uo rfl rfl rfl ∅
def GW(F:Fun K "_law_bag" "_law_bag" xU f fd)(ab0:mg "abs" = none):FnOk P w K mg base ur 1 f fd xX (vn K 2 sQ):=Ag (m:=yl) F vZ λd B outer s H E g=>
 jL (j8 (i:=2) vZ.nd<|j9 ZN ab0 Xn<|jG (jC 0) jQ)
 (jL (n_ (lA (RM g.units) (jC 2)<|j0 Zt jR jR)
 (jM<|j8 (i:=2) vZ.nd jR)
 lB)
 (jM<|j5<|nZ<|jG (jC 2)<|jG (j0 BI (j0 oZ (j0 oZ (j0 zU (j0 BI (jC 0) jR) jR)<|j0 zU jR<|jC 1) jR) jR) jQ))
def C5:FnScope uQ uJ (jN uR):=uo rfl rfl rfl ∅
def DQ(F:Fun K "_law_mixed" "_law_mixed" uR f fd):FnOk P w K mg base ur 1 f fd uJ (vn K 1 n8):=Ag (m:=uF) F C5 λd B outer s H E g=>
 jL (qf (j0 BI (j0 oZ (j0 zU (n9 (jC 0) jR) jR) jR) jR)<|Ac (jC 0) jR)
 (jM<|j5<|j0 Dz (j0 BI (j0 zU (n9 (jC 0) jR) jR) jR) jR)
def oz:FnScope rz uW (jN uC):=uo rfl rfl rfl ∅
def CL(F:Fun K "_law_digit" "_law_digit" uC f fd)(aaE:mg "range" = none)(abn:sL P w K mg base 1 "_law_mixed" uJ n8):FnOk P w K mg base ur 2 f fd uW (vn K 2 lZ):=Ag (m:=rH) F oz λg B outer s H E d=>
 jL (n_ (lA (Ux d.units) (n9 (jC 0) jR) jR)
 (jL (j8 (i:=2) oz.nd<|j0 BI (n9 (jC 0) jR)<|jC 1)
 (jL (qf (j0 Dz (n9 (jC 0) jR)<|jC 1)<|Ac (jC 0) jR)
 (jM<|j5<|jC 2)))
 lB)
 (jL (j8 (i:=2) oz.nd<|AO abn d<|jC 0)
 (jL (n_ (lA (Ux d.units) (jC 1) jR)
 (jM (m8 cR rfl (vp aaE jR) (jY (i:=3) oz.nd)
 (jM<|j8 (i:=2) oz.nd<|j0 oZ (j0 zU (jC 2) jR)<|AO abn d<|jC 0)))
 lB)
 (jM<|j5<|j0 BI (jC 2)<|jC 1)))
def m_:FnScope sF sd (jN rR):=uo rfl rfl rfl ∅
def zq(F:Fun K "_law_word_of" "_law_word_of" rR f fd)(aaw:ExcK K U "TooMany" zad)(aap:ExcK K U "NoNumber" zac)(aak:ExcK K U "NoWord" zab)(aai:ExcK K U "NoPair" zaa)(ab6:mg "TooMany" = some (.ref zad))(ace:mg "NoPair" = some (.ref zaa))(ach:mg "NoNumber" = some (.ref zac))(acn:mg "NoWord" = some (.ref zab))(acr:mg "NoName" = some (.ref zae))(acv:mg "NoRow" = some (.ref zaf))(acw:mg "NoText" = some (.ref zag))(acy:mg "NoTables" = some (.ref zah))(zai:PySem.W.kitOne K (.ref zad) (.ref zad)=some true)(zaj:PySem.W.kitOne K (.ref zac) (.ref zad)=some false)(zak:PySem.W.kitOne K (.ref zab) (.ref zad)=some false)(zal:PySem.W.kitOne K (.ref zaa) (.ref zad)=some false)(zam:PySem.W.kitOne K (.ref zad) (.ref zaa)=some false)(zan:PySem.W.kitOne K (.ref zac) (.ref zaa)=some false)(zao:PySem.W.kitOne K (.ref zab) (.ref zaa)=some false)(zap:PySem.W.kitOne K (.ref zaa) (.ref zaa)=some true)(zaq:PySem.W.kitOne K (.ref zad) (.ref zac)=some false)(zar:PySem.W.kitOne K (.ref zac) (.ref zac)=some true)(zas:PySem.W.kitOne K (.ref zab) (.ref zac)=some false)(zat:PySem.W.kitOne K (.ref zaa) (.ref zac)=some false)(zau:PySem.W.kitOne K (.ref zad) (.ref zab)=some false)(zav:PySem.W.kitOne K (.ref zac) (.ref zab)=some false)(zaw:PySem.W.kitOne K (.ref zab) (.ref zab)=some true)(zax:PySem.W.kitOne K (.ref zaa) (.ref zab)=some false)(zay:PySem.W.kitOne K (.ref zad) (.ref zae)=some false)(zaz:PySem.W.kitOne K (.ref zac) (.ref zae)=some false)(zba:PySem.W.kitOne K (.ref zab) (.ref zae)=some false)(zbb:PySem.W.kitOne K (.ref zaa) (.ref zae)=some false)(zbc:PySem.W.kitOne K (.ref zad) (.ref zaf)=some false)(zbd:PySem.W.kitOne K (.ref zac) (.ref zaf)=some false)(zbe:PySem.W.kitOne K (.ref zab) (.ref zaf)=some false)(zbf:PySem.W.kitOne K (.ref zaa) (.ref zaf)=some false)(zbg:PySem.W.kitOne K (.ref zad) (.ref zag)=some false)(zbh:PySem.W.kitOne K (.ref zac) (.ref zag)=some false)(zbi:PySem.W.kitOne K (.ref zab) (.ref zag)=some false)(zbj:PySem.W.kitOne K (.ref zaa) (.ref zag)=some false)(zbk:PySem.W.kitOne K (.ref zad) (.ref zah)=some false)(zbl:PySem.W.kitOne K (.ref zac) (.ref zah)=some false)(zbm:PySem.W.kitOne K (.ref zab) (.ref zah)=some false)(zbn:PySem.W.kitOne K (.ref zaa) (.ref zah)=some false)(aa4:mg "isinstance" = none)(aaE:mg "range" = none)(acD:mg "ValueError" = none)(aay:mg "len" = none):FnOkH P w K mg base 1 f fd sd (vn K 1 nI):=fnH (m:=sy) F m_ λd B outer s H e oe C j k h0 g=>
 jL (j8 (i:=1) m_.nd<|nZ<|jG (uP acn (tb:=[("NoPair",false),("NoWord",true),("NoNumber",false),("TooMany",false)]) (aO.mpr ⟨⟨_,aai.n,aai.x,aai.cl,zax⟩,(aO.mpr ⟨⟨_,aak.n,aak.x,aak.cl,zaw⟩,(aO.mpr ⟨⟨_,aap.n,aap.x,aap.cl,zav⟩,(aO.mpr ⟨⟨_,aaw.n,aaw.x,aaw.cl,zau⟩,(nofun)⟩)⟩)⟩)⟩) (jC 0) aa4)<|jG (uP ach (tb:=[("NoPair",false),("NoWord",false),("NoNumber",true),("TooMany",false)]) (aO.mpr ⟨⟨_,aai.n,aai.x,aai.cl,zat⟩,(aO.mpr ⟨⟨_,aak.n,aak.x,aak.cl,zas⟩,(aO.mpr ⟨⟨_,aap.n,aap.x,aap.cl,zar⟩,(aO.mpr ⟨⟨_,aaw.n,aaw.x,aaw.cl,zaq⟩,(nofun)⟩)⟩)⟩)⟩) (jC 0) aa4)<|jG (uP ace (tb:=[("NoPair",true),("NoWord",false),("NoNumber",false),("TooMany",false)]) (aO.mpr ⟨⟨_,aai.n,aai.x,aai.cl,zap⟩,(aO.mpr ⟨⟨_,aak.n,aak.x,aak.cl,zao⟩,(aO.mpr ⟨⟨_,aap.n,aap.x,aap.cl,zan⟩,(aO.mpr ⟨⟨_,aaw.n,aaw.x,aaw.cl,zam⟩,(nofun)⟩)⟩)⟩)⟩) (jC 0) aa4)<|jG (uP ab6 (tb:=[("NoPair",false),("NoWord",false),("NoNumber",false),("TooMany",true)]) (aO.mpr ⟨⟨_,aai.n,aai.x,aai.cl,zal⟩,(aO.mpr ⟨⟨_,aak.n,aak.x,aak.cl,zak⟩,(aO.mpr ⟨⟨_,aap.n,aap.x,aap.cl,zaj⟩,(aO.mpr ⟨⟨_,aaw.n,aaw.x,aaw.cl,zai⟩,(nofun)⟩)⟩)⟩)⟩) (jC 0) aa4) jQ)
 (jL (j8 (i:=1) m_.nd<|j0 oZ (jC 1)<|nZ<|jG (uP acy (tb:=[("NoPair",false),("NoWord",false),("NoNumber",false),("TooMany",false)]) (aO.mpr ⟨⟨_,aai.n,aai.x,aai.cl,zbn⟩,(aO.mpr ⟨⟨_,aak.n,aak.x,aak.cl,zbm⟩,(aO.mpr ⟨⟨_,aap.n,aap.x,aap.cl,zbl⟩,(aO.mpr ⟨⟨_,aaw.n,aaw.x,aaw.cl,zbk⟩,(nofun)⟩)⟩)⟩)⟩) (jC 0) aa4)<|jG (uP acw (tb:=[("NoPair",false),("NoWord",false),("NoNumber",false),("TooMany",false)]) (aO.mpr ⟨⟨_,aai.n,aai.x,aai.cl,zbj⟩,(aO.mpr ⟨⟨_,aak.n,aak.x,aak.cl,zbi⟩,(aO.mpr ⟨⟨_,aap.n,aap.x,aap.cl,zbh⟩,(aO.mpr ⟨⟨_,aaw.n,aaw.x,aaw.cl,zbg⟩,(nofun)⟩)⟩)⟩)⟩) (jC 0) aa4)<|jG (uP acv (tb:=[("NoPair",false),("NoWord",false),("NoNumber",false),("TooMany",false)]) (aO.mpr ⟨⟨_,aai.n,aai.x,aai.cl,zbf⟩,(aO.mpr ⟨⟨_,aak.n,aak.x,aak.cl,zbe⟩,(aO.mpr ⟨⟨_,aap.n,aap.x,aap.cl,zbd⟩,(aO.mpr ⟨⟨_,aaw.n,aaw.x,aaw.cl,zbc⟩,(nofun)⟩)⟩)⟩)⟩) (jC 0) aa4)<|jG (uP acr (tb:=[("NoPair",false),("NoWord",false),("NoNumber",false),("TooMany",false)]) (aO.mpr ⟨⟨_,aai.n,aai.x,aai.cl,zbb⟩,(aO.mpr ⟨⟨_,aak.n,aak.x,aak.cl,zba⟩,(aO.mpr ⟨⟨_,aap.n,aap.x,aap.cl,zaz⟩,(aO.mpr ⟨⟨_,aaw.n,aaw.x,aaw.cl,zay⟩,(nofun)⟩)⟩)⟩)⟩) (jC 0) aa4) jQ)
 (jL (j8 (i:=2) m_.nd<|nZ<|jG se<|jG se<|jG se<|jG se<|jG se<|jG se<|jG se<|jG se jQ)
 (jL (P6 (i:=3) (N:=["_law_k", "_law_words", "_law_named"]) (cap:=[none,some 2,some 1]) m_.nd k h0 (rA ["_law_words", "_law_named"] rfl ∅ ∅ ∅ ∅ ∅ (aO.mpr ⟨by first|exact Or.inl rfl|exact Or.inr rfl,(aO.mpr ⟨by first|exact Or.inl rfl|exact Or.inr rfl,(nofun)⟩)⟩) ⟨rfl,by decide +kernel,⟨rfl,by decide +kernel,trivial⟩⟩) (LP g aaE jR) (λ_ _ _ _=>jY (i:=0) (show(["_law_k", "_law_words", "_law_named"]:ar).Nodup by decide +kernel) rfl (Or.inl rfl)<|.inr rfl) (λ_ _ _ _=>vf<|qQ<|n9 (jC 2)<|jC 0) λ_ _ _ _=>n9 (jC 1)<|jC 0)
 (jL (n_ (AW.at<|Hy (lA (F9 j.units) (j9 sS aay pC<|jG (jC 3) jQ) jR)<|G_<|FZ<|qQ<|Ys acD (tb:=[("NoPair",true),("NoWord",true),("NoNumber",true),("TooMany",true)]) (aO.mpr ⟨⟨_,aai.n,aai.x,aai.cl,aai.v⟩,(aO.mpr ⟨⟨_,aak.n,aak.x,aak.cl,aak.v⟩,(aO.mpr ⟨⟨_,aap.n,aap.x,aap.cl,aap.v⟩,(aO.mpr ⟨⟨_,aaw.n,aaw.x,aaw.cl,aaw.v⟩,(nofun)⟩)⟩)⟩)⟩) (jC 0) aa4)
 (jM<|j5 se)
 lB)
 (jM<|j5<|n9 (jC 3) jR)))))
def zA:FnScope mX rW (jN su):=uo rfl rfl rfl ∅
def An(F:Fun K "_law_hearths" "_law_hearths" su f fd)(aa_:xM P w K mg base 23 "right_hearths" mQ kg)(acJ:xM P w K mg base 24 "left_hearths" qZ lN)(acK:xM P w K mg base 24 "both_hearths" qV lG):FnOk P w K mg base (xN P w) 25 f fd rW (BB K 2 kP):=fnX (m:=mZ) F zA λg B outer s H E d=>
 jL (n_ (lA (Y9 d.units) (jC 0) jR)
 (jM<|j5<|Vv aa_ d<|jC 1)
 lB)
 (jL (n_ (lA (Y9 d.units) (jC 0) jR)
 (jM<|j5<|Vv acJ d<|jC 1)
 lB)
 (jM<|j5<|Vv acK d<|jC 1))
def uT:FnScope tF v9 (jN wJ):=uo rfl rfl rfl ∅
def E3(F:Fun K "_law_said" "_law_said" wJ f fd)(hU:F4 K "UnderError" U)(mU:L2.mroIn K U=some Ww)(aaw:ExcK K U "TooMany" zad)(aap:ExcK K U "NoNumber" zac)(aak:ExcK K U "NoWord" zab)(aai:ExcK K U "NoPair" zaa)(acL:mg "sum" = none)(aay:mg "len" = none)(acM:xM P w K mg base 25 "_law_hearths" rW kP)(acN:WJ P w K mg base 1 "_law_word_of" sd nI):FnOk P w K mg base ur 26 f fd v9 (vn K 2 mh):=Ag (m:=t8) F uT λg B outer s H E d=>
 jL (by(refine YH (i:=3) (cs:=["NoPair", "NoWord", "NoNumber", "TooMany"]) ?hb ?hh uT.nd hU mU<|aO.mpr ⟨⟨_,aai.n,aai.r⟩,(aO.mpr ⟨⟨_,aak.n,aak.r⟩,(aO.mpr ⟨⟨_,aap.n,aap.r⟩,(aO.mpr ⟨⟨_,aaw.n,aaw.r⟩,(nofun)⟩)⟩)⟩)⟩;(case hb=>exact(λ_ _=>jM<|j8 (i:=2) uT.nd<|Zl acM d (jC 0)<|jC 1));(case hh=>exact(λ_ _ _ _ j=>jM<|j5<|V0 acN (K5 d ⋯) rfl j3 j (jG (jC 3) jQ)<|jZ lR))))
 (jM<|j5<|j9 (aaC rfl) acL YU<|jG (pL (N:=["_law_hearth"]) (cap:=[none]) rfl (rA [] rfl ∅ ∅ ∅ ∅ ∅ (nofun) trivial) (lX<|jC 2) (λ_ _ _ _=>jY (i:=0) (show(["_law_hearth"]:ar).Nodup by decide +kernel) rfl (Or.inl rfl)<|.inr rfl) (λ_ _ _ _=>rB) λ_ _ _ _=>j9 sS aay pC<|jG (jC 0) jQ) jQ)
def xV:FnScope OZ Vz (jN NP):=uo rfl rfl rfl ∅
set_option smartUnfolding false in
theorem Yk(F:Fun K "law" "law" NP f fd)(aaE:mg "range" = none)(acO:mg "max" = none)(acP:mg "min" = none)(aay:mg "len" = none)(acQ:sL P w K mg base 1 "_law_bag" xX sQ)(acR:sL P w K mg base 1 "_law_cell" wj qL)(abo:sL P w K mg base 2 "_law_digit" uW lZ)(abp:sL P w K mg base 26 "_law_said" v9 mh):FnOk P w K mg base ur 27 f fd Vz (vn K 1 BC):=Ag (m:=Nv) F xV λg B outer s H E d=>
 jL (m8 cR rfl (vp aaE<|j9 (Xc rfl) acO XM<|jG jR<|jG (j9 (YE rfl) acP V9<|jG (j9 sS aay pC<|jG (jC 0) jQ)<|jG jR jQ) jQ) (jY (i:=1) xV.nd)
 (jL (j8 (i:=2) xV.nd<|Mf acQ d (Mf acR d (jC 0)<|jC 1)<|j0 oZ jR<|jC 1)
 (jL (j8 (i:=3) xV.nd<|j0 oZ jR<|Mf abo d (jC 2) jR)
 (jL (j8 (i:=4) xV.nd<|j0 oZ jR<|Mf abo d (jC 2) jR)
 (jM (m8 cR rfl (vp aaE jR) (jY (i:=5) xV.nd)
 (jM (n_ (AW.at<|Hy (lA (F9 d.units) (Mf abp d (jC 5)<|jC 3) se)<|G_<|lA (F9 d.units) (Mf abp d (jC 5)<|jC 4)<|n9 (nZ<|jG jR<|jG jR<|jG jR jQ)<|j0 xr (jC 4) jR)
 (jM<|j5 HF)
 lB))))))))
 (jM<|j5 HF)
end
end K72
namespace Po
open Am
meta abbrev Pl:=List<|Int×Int
abbrev val (d:Pl)(k:Int):Int:=((d.find? λp=>decide<|p.1=k).map (·.2)).getD 0
abbrev has (d:Pl)(k:Int):Bool:=d.any λp=>decide<|p.1=k
abbrev put (d:Pl)(k v:Int):Pl:=if has d k=true then d.map (λp=>if p.1=k then(p.1,v)else p)else d++[(k,v)]
abbrev acc (d:Pl)(k v:Int):Pl:=put d k<|val d k+v
abbrev cf:Pl->Int->Int
 | [],_=>0
 | p::l,k=>(if p.1=k then p.2 else 0)+cf l k
def pV{p:Int×Int}{d:Pl}{k:Int}:val (p::d) k=if p.1=k then p.2 else val d k:=by
 unfold val;rw[b9];by_cases h:p.1=k
 ·rw[bg h,aS h];rfl
 ·rw[bA h,aQ h]
def Aq{p:Int×Int}{d:Pl}{k:Int}:has (p::d) k=(decide (p.1=k) || has d k):=rfl
def w4{d:Pl}{k:Int}:has d k=true ↔ k∈d.map Prod.fst:=by
 unfold has;rw[f7,bf];constructor
 ·rintro⟨p,h1,h2⟩;exact⟨p,h1,bU h2⟩
 ·rintro⟨p,h1,h2⟩;exact⟨p,h1,bg h2⟩
def Qf{d:Pl}{k:Int}(h:has d k=false):val d k=0:=by
 induction d with
 | nil=>rfl
 | cons p d f=>
  rw[Aq,iK]at h;rw[pV,aQ<|eL h.1,f h.2]
def RC{d:Pl}{k v j:Int}(h:has d k=false):val (d++[(k,v)]) j=if j=k then v else val d j:=by
 induction d with
 | nil=>
  show val [(k,v)] j=_;rw[pV];by_cases c:k=j
  ·rw[aS c,aS c.symm]
  ·rw[aQ c,aQ λz=>c z.symm]
 | cons p d f=>
  rw[Aq,iK]at h;have:=eL h.1;rw[jn,pV,pV,f h.2];by_cases c:p.1=j
  ·rw[aS c,aS c,aQ λz=>this<|c.trans z]
  ·rw[aQ c,aQ c]
def RK{d:Pl}{k v j:Int}:val (d.map λp=>if p.1=k then(p.1,v)else p) j=if j=k/\has d k=true then v else val d j:=by
 induction d with
 | nil=>
  rw[aQ λz=>by cases z.2];rfl
 | cons p d f=>
  rw[bH,pV,pV,f,Aq];by_cases c:p.1=k
  ·rw[aS c,bg c,Bool.true_or];by_cases e:j=k
   ·rw[aS<|show p.1=j by lia,aS ⟨e,rfl⟩]
   ·rw[aQ<|show ¬p.1=j by lia,aQ λz=>e z.1,aQ λz=>e z.1,aQ<|show ¬p.1=j by lia]
  ·rw[aQ c,bA c,gh];by_cases e:p.1=j
   ·rw[aS e,aS e,aQ λz=>c<|e.trans z.1]
   ·rw[aQ e,aQ e]
def SN{d:Pl}{k v j:Int}:val (put d k v) j=if j=k then v else val d j:=by
 unfold put
 cases h:has d k with
 | true=>
  rw[aS rfl,RK,h];by_cases c:j=k
  ·rw[aS ⟨c,rfl⟩,aS c]
  ·rw[aQ λz=>c z.1,aQ c]
 | false=>rw[aQ<|by simp,RC h]
def RI{d:Pl}{k v j:Int}:val (acc d k v) j=val d j+if k=j then v else 0:=by
 unfold acc;rw[SN];by_cases c:j=k
 ·subst c;rw[aS rfl,aS rfl]
 ·rw[aQ c,aQ λz=>c z.symm,fK]
def FN{d:Pl}{k v:Int}:(put d k v).map Prod.fst=if has d k=true then d.map Prod.fst else d.map Prod.fst++[k]:=by
 unfold put;split
 ·rw[bh];apply bW;intro p _;show(if p.1=k then(p.1,v)else p).1=p.1;split<;>rfl
 ·rw[bD];rfl
def Yh{d:Pl}{k v:Int}(h:(d.map Prod.fst).Nodup):((put d k v).map Prod.fst).Nodup:=by
 rw[FN];split
 ·exact h
 ·rename_i c;rw[cL];refine⟨h,cH _ _,λa ha b hb z=>c ?_⟩;rw[aR]at hb;rw[w4,<- hb,<- z];exact ha
def SY{d:Pl}{k v:Int}:(put d k v).length<=d.length+1:=by
 unfold put;split
 ·rw[aH];lia
 ·rw[bq];exact aL _
abbrev Bd (c:Nat)(d:Pl):Prop:=∀p∈d,p.2.natAbs<=c
theorem Bd.val{c:Nat}{d:Pl}(h:Bd c d)(k:Int):(val d k).natAbs<=c:=by
 induction d with
 | nil=>exact bL _
 | cons p d f=>
  rw[pV];split
  ·exact h p (aV ..)
  ·exact f λq hq=>h q<|aX _ hq
abbrev qR (d ps:Pl):Pl:=ps.foldl (λd p=>acc d p.1 p.2) d
def Qw(d:Pl):qR d []=d:=rfl
def zI(d ps qs:Pl):qR d (ps++qs)=qR (qR d ps) qs:=by unfold qR;rw[e_]
def xE(ps:Pl):∀(d:Pl) (k:Int),val (qR d ps) k=val d k+cf ps k:=by
 induction ps with
 | nil=>intro d k;rw[Qw];show _=_+0;rw[fK]
 | cons p ps f=>
  intro d k;show val (qR (acc d p.1 p.2) ps) k=_;rw[f,RI];show _=_+(_+_);rw[iH]
def vG(ps:Pl):∀{d:Pl},(d.map Prod.fst).Nodup->((qR d ps).map Prod.fst).Nodup:=by
 induction ps with
 | nil=>intro d h;exact h
 | cons p ps f=>intro d h;exact f<|Yh h
def uK(ps:Pl):∀(d:Pl),(qR d ps).length<=d.length+ps.length:=by
 induction ps with
 | nil=>intro d;exact aL _
 | cons p ps f=>
  intro d;have h1:=f<|acc d p.1 p.2;have h2:(acc d p.1 p.2).length<=d.length+1:=SY;show(qR (acc d p.1 p.2) ps).length<=_;rw[bB]
  lia
structure Ok (l:Pl):Prop where
 up:l.Pairwise λp q=>p.1<q.1
 nz:∀p∈l,p.2≠0
def Ok.tail{p:Int×Int}{l:Pl}(h:Ok (p::l)):Ok l:=⟨(bV.mp h.up).2,λq hq=>h.nz q<|aX _ hq⟩
def DZ{l:Pl}{k:Int}(h:∀p∈l,k<p.1):cf l k=0:=by
 induction l with
 | nil=>rfl
 | cons p l d=>
  show(if p.1=k then p.2 else 0)+cf l k=0;have:=h p<|aV ..;rw[aQ (),d λq hq=>h q<|aX _ hq];rfl
def Ok.head{p:Int×Int}{l:Pl}(h:Ok (p::l)):cf (p::l) p.1=p.2:=by
 show(if p.1=p.1 then p.2 else 0)+cf l p.1=p.2;rw[aS rfl,DZ (bV.mp h.up).1,fK]
def Ok.low{p:Int×Int}{l:Pl}(h:Ok (p::l)){k:Int}(hk:k<p.1):cf (p::l) k=0:=DZ λq hq=>by
 rcases bE.mp hq with rfl|z
 ·exact hk
 ·have:=(bV.mp h.up).1 q z;lia
theorem uniq:∀{l m:Pl},Ok l->Ok m->(∀k,cf l k=cf m k)->l=m
 | [],[],_,_,_=>rfl
 | [],q::m,_,h,e=>by
  have:=e q.1;rw[h.head]at this;exact absurd this.symm<|h.nz q<|aV ..
 | p::l,[],h,_,e=>by
  have:=e p.1;rw[h.head]at this;exact absurd this<|h.nz p<|aV ..
 | p::l,q::m,h,h',e=>by
  have f:=h.nz p<|aV ..;have d:=h'.nz q<|aV ..;have e1:p.1=q.1:=by
   rcases Int.lt_trichotomy p.1 q.1 with c|c|c
   ·have:=e p.1;rw[h.head,h'.low c]at this;exact absurd this f
   ·exact c
   ·have:=e q.1;rw[h'.head,h.low c]at this;exact absurd this.symm d
  have e2:p.2=q.2:=by
   have:=e p.1;rw[h.head,e1,h'.head]at this;exact this
  have e3:p=q:=Prod.ext e1 e2;subst e3;rw[uniq h.tail h'.tail λk=>by
   have:(if p.1=k then p.2 else 0)+cf l k=(if p.1=k then p.2 else 0)+cf m k:=e k
   lia]
abbrev Lu (d:Pl):Pl:=((sortI<|d.map Prod.fst).filter λk=>val d k != 0).map λk=>(k,val d k)
def SS{ks:ag}(h:ks.Nodup):(sortI ks).Pairwise (· < ·):=by
 have p:=Ao ks;have n:(sortI ks).Nodup:=(sortI_perm ks).nodup_iff.mpr h;have:(sortI ks).Pairwise λa b=>a<=b/\a≠b:=p.and n;exact this.imp λ⟨a,b⟩=>()
def CZ{d:Pl}(h:(d.map Prod.fst).Nodup):Ok (Lu d):=by
 refine⟨?_,λp hp=>?_⟩
 ·unfold Lu;rw[cB];exact(SS h).filter _
 ·obtain⟨k,f,rfl⟩:=bf.mp hp;have:=(cE.mp f).2;simpa using this
theorem P7{d:Pl}{k:Int}:∀{ks:ag},ks.Nodup->cf (ks.map λj=>(j,val d j)) k=if k∈ks then val d k else 0
 | [],_=>by rw[aQ<|by simp];rfl
 | j::ks,h=>by
  obtain⟨h1,h2⟩:=cP.mp h;show(if j=k then val d j else 0)+cf (ks.map λj=>(j,val d j)) k=_;rw[P7 h2];by_cases c:j=k
  ·subst c;rw[aS rfl,aQ h1,aS<|aV ..,fK]
  ·rw[aQ c,cO];by_cases e:k∈ks
   ·rw[aS e,aS<|aX _ e]
   ·rw[aQ e,aQ λz=>(bE.mp z).elim (λz=>c z.symm) e]
def CC{d:Pl}(h:(d.map Prod.fst).Nodup)(k:Int):cf (Lu d) k=val d k:=by
 unfold Lu;rw[P7<|((sortI_perm _).nodup_iff.mpr h).filter _];split
 ·rfl
 ·rename_i c
  cases e:has d k with
  | false=>exact(Qf e).symm
  | true=>
   by_cases z:val d k=0
   ·exact z.symm
   ·exact absurd (cE.mpr ⟨(sortI_perm _).mem_iff.mpr<|w4.mp e,by simpa using z⟩) c
def Wc{d e:Pl}(h:(d.map Prod.fst).Nodup)(h':(e.map Prod.fst).Nodup)(hv:∀k,val d k=val e k):Lu d=Lu e:=
 uniq (CZ h) (CZ h') λk=>by rw[CC h,CC h',hv]
def Ok.nd{l:Pl}(h:Ok l):(l.map Prod.fst).Nodup:=by
 unfold List.Nodup;rw[cB];exact h.up.imp λa=>()
def MI{l:Pl}(h:(l.map Prod.fst).Nodup)(k:Int):val l k=cf l k:=by
 induction l with
 | nil=>rfl
 | cons p l d=>
  obtain⟨h1,h2⟩:=cP.mp h;rw[pV];show _=(if p.1=k then p.2 else 0)+cf l k;rw[<- d h2];by_cases c:p.1=k
  ·have:has l k=false:=by
    cases e:has l k with
    | false=>rfl
    | true=>exact absurd (w4.mp e)<|by rw[<- c];exact h1
   rw[aS c,aS c,Qf this,fK]
  ·rw[aQ c,aQ c,cO]
abbrev NX (d ps:Pl):Pl:=ps.foldl (λd p=>put d p.1 p.2) d
theorem Kw:∀(ps d:Pl),((d++ps).map Prod.fst).Nodup->NX d ps=d++ps
 | [],d,_=>by rw[bO];rfl
 | p::ps,d,h=>by
  have hn:has d p.1=false:=by
   cases e:has d p.1 with
   | false=>rfl
   | true=>
    rw[bD,cL]at h;exact absurd rfl<|h.2.2 _ (w4.mp e) p.1<|cX<|aV ..
  have e:put d p.1 p.2=d++[p]:=by unfold put;rw[hn];rfl
  show NX (put d p.1 p.2) ps=_;rw[e,Kw ps (d++[p])<|by rw[cJ];exact h,cJ];rfl
def J7{l:Pl}(h:Ok l):NX [] l=l:=Kw l [] h.nd
abbrev plus (a b:Pl):Pl:=Lu<|qR a b
abbrev qG (a b:Pl):Pl:=Lu<|qR []<|a++b
def SD{a:Pl}(h:Ok a):plus a b=qG a b:=by
 refine Wc (vG _ h.nd) (vG _ cQ) λk=>?_;rw[xE,xE,MI h.nd];have:∀(a b:Pl),cf (a++b) k=cf a k+cf b k:=λa b=>by
  induction a with
  | nil=>exact(cO _).symm
  | cons p a d=>
   show _+cf (a++b) k=_+_+_;rw[d,iH]
 rw[this];show _=0+_;rw[cO]
def Ah(a b:Pl):Ok (qG a b):=CZ<|vG _ cQ
abbrev HM (a b:Pl):Pl:=a.flatMap λp=>b.map λq=>(p.1+q.1,p.2 * q.2)
abbrev times (a b:Pl):Pl:=Lu<|qR []<|HM a b
def AB(a b:Pl):Ok (times a b):=CZ<|vG _ cQ
def Nq(a:Pl)(p:Int×Int)(b:Pl):HM (a++[p]) b=HM a b++b.map λq=>(p.1+q.1,p.2 * q.2):=by
 unfold HM;rw[iP,List.flatMap_cons,List.flatMap_nil,bO]
def IF(a b:Pl):(HM a b).length=a.length * b.length:=by
 induction a with
 | nil=>simp[HM]
 | cons p a d=>
  show((b.map _)++HM a b).length=_;rw[bq,aH,d,bB,iS]
  lia
abbrev turn (a:Pl):Pl:=a.reverse.map λp=>(-p.1,p.2)
abbrev iv (d:Pl):List (Int×A):=d.map λp=>(p.1,.int p.2)
abbrev pA (p:Int×Int):A:=.tup [.int p.1,.int p.2]
abbrev pl (l:Pl):ae:=l.map pA
def CO(d:Pl)(k:Int):nF (iv d) k=(d.find? λp=>decide<|p.1=k).map λp=>.int p.2:=by
 unfold nF iv;rw[ie,eO];rfl
def Gg(d:Pl)(k:Int):(nF (iv d) k).getD (.int 0)=.int (val d k):=by
 rw[CO];unfold val
 cases d.find? λp=>decide (p.1=k)<;>rfl
def FF{d:Pl}{k:Int}(h:k∈d.map Prod.fst):nF (iv d) k=some (.int<|val d k):=by
 have:=w4.mpr h;unfold has at this;rw[CO];unfold val
 cases e:d.find? λp=>decide (p.1=k)with
 | some p=>rfl
 | none=>
  obtain⟨p,hp,f⟩:=f7.mp this;exact absurd f<|fL.mp e p hp
def GJ(d:Pl)(k v:Int):yc (iv d) k (.int v)=iv (put d k v):=by
 have e:(nF (iv d) k).isSome=has d k:=by
  rw[CO,dZ];unfold has;rw[Bool.eq_iff_iff,jj,f7]
 unfold yc put;rw[e];unfold iv;split
 ·rw[bh,bh];apply bW;intro p _;show(if p.1=k then(p.1,A.int v)else(p.1,.int p.2))=_;show _=((if p.1=k then(p.1,v)else p).1,A.int (if p.1=k then(p.1,v)else p).2);split<;>rfl
 ·rw[bD];rfl
def R_(d:Pl):(iv d).map Prod.fst=d.map Prod.fst:=by
 unfold iv;rw[bh];rfl
theorem N3:∀l:Pl,Tf (pl l)=some (iv l)
 | []=>rfl
 | p::l=>by
  show(Tf<|pl l).map _=_;rw[N3 l];rfl
def Jp(l:Pl):SI (iv l)=iv (NX [] l):=by
 have:∀(l d:Pl),(iv l).foldl (λacc p=>yc acc p.1 p.2) (iv d)=iv (NX d l):=by
  intro l
  induction l with
  | nil=>intro d;rfl
  | cons p l f=>
   intro d;show(iv l).foldl _ (yc (iv d) p.1<|.int p.2)=_;rw[GJ,f];rfl
 exact this l []
end Po
namespace Tb
abbrev fg (r:ag)(x:Int):Nat:=r.findIdx λy=>decide<|x<y
abbrev put:List (ag)->Int->List (ag)
 | [],x=>[[x]]
 | r::rs,x=>if fg r x=r.length then(r++[x])::rs else r.set (fg r x) x::put rs (r.getD (fg r x) 0)
abbrev row:List (ag)->Int->Nat
 | [],_=>0
 | r::rs,x=>if fg r x=r.length then 0 else row rs (r.getD (fg r x) 0)+1
abbrev bump:am->Nat->am
 | [],_=>[1]
 | n::ns,0=>(n+1)::ns
 | n::ns,i+1=>n::bump ns i
abbrev add:List (ag)->Nat->Int->List (ag)
 | [],_,k=>[[k]]
 | q::qs,0,k=>(q++[k])::qs
 | q::qs,i+1,k=>q::add qs i k
abbrev gs (r:ag)(x:Int):am:=(List.range r.length).filter λk=>decide<|x<r.getD k 0
end Tb
namespace Am
open PySem L2
abbrev Rows (S:jH):am->List (ag)->Prop
 | [],[]=>True
 | r::rs,x::T=>jF S r=some (x.map .int)/\Rows S rs T
 | _,_=>False
structure Tab (S:jH)(n:Nat)(rs:am)(T:List (ag)):Prop where
 top:jF S n=some (rs.map .ref)
 rows:Rows S rs T
 nd:(n::rs).Nodup
def eq_nil{a:Nat}{xs:ae}(h:jF S a=some xs)(h':jF S b=some []):DJ S 12 (.ref a) (.ref b)=some xs.isEmpty:=by
 show(jF S a).bind (λxs=>(jF S b).bind λys=>yC (DJ S 11) xs ys)=_;rw[h,iD,h',iD]
 cases xs<;>rfl
def Xm{a:A}{k:Bool}(h:DJ S 12 a b=some k):yQ false a b S=.ok (.bl k) S:=by unfold yQ;rw[h];rfl
def YM{a:A}{k:Bool}(h:DJ S 12 a b=some k):yQ true a b S=.ok (.bl<|!k) S:=by unfold yQ;rw[h];rfl
def OC{xs:ae}{n:Nat}{src:Ic}{t:Te}{e:Ex}{S:jH}(hs:src τ S=.ok (kW n xs.length) S)(hx:jF S n=some xs)(p:A->Bool)(f:A->A)
  (ht:∀x∈xs,t (x::k9 cap τ) S=.ok (p x) S) (he:∀x∈xs,p x=true->e (x::k9 cap τ) S=.ok (f x) S) (hl:xs.length<=16777216) :
  kO (none::cap) src (ko 0) t e τ S=.ok (.ref S.length) (S++[.lst<|(xs.filter p).map f]):=by
 have g:∀i,i<xs.length->xs.getD i .unb∈xs:=λi d=>by
  rw[aK,aI d];exact dD d
 rw[xS hs (λi=>xs.getD i .unb) (λi=>p<|xs.getD i .unb) (λi=>f<|xs.getD i .unb) (λi d=>by
  have d:i<xs.length:=d;show(jF S n).bind _=_;rw[hx,iD,aK,aI d];rfl) (by
   show(match jF S n with
    | some ys=>decide (ys.length<=xs.length)
    | none=>false)=true
   rw[hx];simp) (λi d=>ht _<|g i d) (λi d=>he _<|g i d) hl]
 have:=nu xs p f .unb;show R.ok _ (S++[O.lst<|((List.range xs.length).filter _).map _])=_;rw[this]
end Am
namespace Am
open PySem L2 Po
def Ng(l:Pl):(pl l).length=l.length:=aH ..
def Ll{xs:ae}{n:Nat}{src:Ic}{t:Te}{e:Ex}{S1:jH}(hs:src τ S=.ok (kW n xs.length) S1)(hx:jF S1 n=some xs)(p:A->Bool)(f:A->A)
  (ht:∀x∈xs,t (x::k9 cap τ) S1=.ok (p x) S1) (he:∀x∈xs,p x=true->e (x::k9 cap τ) S1=.ok (f x) S1) (hl:xs.length<=16777216) :
  kO (none::cap) src (ko 0) t e τ S=.ok (.ref S1.length) (S1++[.lst<|(xs.filter p).map f]):=by
 have:=OC (S:=S1) (src:=λ_ _=>.ok (kW n xs.length) S1) (τ:=τ) rfl hx p f ht he hl;unfold kO at this ⊢;rw[hs];exact this
def G6{S:jH}{d:List<|Int×A}:mw (S++[.qi d]) S.length=some d:=CG C_
def W7{o:O}{n:Nat}{d:List<|Int×A}(h:mw S n=some d):mw (S++[o]) n=some d:=by
 have h':=qm h;exact CG<|by rw[bz (aJ.mp h').1];exact h'
def Vu{S:jH}{n:Nat}{d:List<|Int×A}(h:mw S n=some d):n<S.length:=(aJ.mp<|qm h).1
def NJ{S:jH}{n:Nat}{d:List<|Int×A}(h:n<S.length):mw (S.set n<|.qi d) n=some d:=CG<|br h
def IK{n:Nat}{d:List<|Int×A}(h:mw S n=some d)(h':jF S m=some xs):n≠m:=λz=>by
 subst z;have e1:=qm h;rw[jU h']at e1
 cases e1
def C3{f:A->ae->jH->R A}{co:Ex}{d:rj}:F7 f co d τ S=(co τ S).bind λx S1=>opt (dk? x S1) λ_=>(d τ S1).bind λas S2=>f x as S2:=rfl
def Hl{n:Nat}:dk? (.ref n) S=(mw S n).map λ_=>Unit.unit:=rfl
def zR{n:Nat}{k:Int}:wV (.ref n) [.int k,y] S=opt (mw S n) λkvs=>.ok ((nF kvs k).getD y) S:=rfl
def Hw{co ci:Ex}{a:A}:Lz co ci a τ S=(co τ S).bind λo S1=>(ci τ S1).bind λi S2=>(BO o i a S2).bind λ_ S3=>.ok τ S3:=rfl
def Ei{n:Nat}{k:Int}{v:A}{S:jH}:BO (.ref n) (.int k) v S=opt (mw S n) λkvs=>gd (kvs.length<sizeLine) (.ok Unit.unit<|S.set n<|.qi<|yc kvs k v):=rfl
def Ie{n:Nat}{k:Int}:z7 (.ref n) (.int k) S=opt (mw S n) λkvs=>opt (nF kvs k) λv=>.ok v S:=rfl
def LD{S:jH}:Gk τ S=.ok (.ref S.length) (S++[.qi []]):=rfl
def BQ{n:Nat}{S:jH}:CT (.ref n) S=opt (jF S n) λxs=>opt (Tf xs) λps=>.ok (.ref S.length) (S++[.qi<|SI ps]):=rfl
def abR{i j:Int}(h:i.natAbs<big)(h':j.natAbs<big):Jl (.int i) (.int j) S=.ok (.int<|i * j) S:=oY ⟨h,h'⟩
def NW(d:Pl):(iv d).length=d.length:=aH ..
meta abbrev YT:Sm:=kB (jT pT (F7 wV (jD 2)<|jE (jD 3)<|jE (eC<|.int 0)<|jP)<|jD 4)<|Lz (jD 2)<|jD 3
def acc_step{S:jH}{d:Nat}{D:Pl}{k v:Int}(hd:mw S d=some (iv D))(hl:D.length<16777216):YT [x0,x1,.ref d,.int k,.int v] S=.nx [x0,x1,.ref d,.int k,.int v] (S.set d<|.qi<|iv<|acc D k v):=by
 unfold YT;dsimp[kj,bools,C3,Hl,hd,fM,zR,Gg,Hw,Ei,uh<|show(iv D).length<16777216 by rw[NW];exact hl,GJ];rfl
meta abbrev Rx:Tg:=DT 2<|vE (ko 3)<|vE (ko 4) DU
def TR{d n:Nat}{D l:Pl}{src:Ic}(hs:src [x0,x1,.ref d,x3,x4] S=.ok (kW n (pl l).length) S1)(hn:jF S1 n=some (pl l))(hd:mw S1 d=some (iv D))(hl:D.length+l.length<16777216) :
  ∃y3 y4 S',mj src Rx YT [x0,x1,.ref d,x3,x4] S=.nx [x0,x1,.ref d,y3,y4] S'/\mw S' d=some (iv<|qR D l)/\Kp (·=d) S1 S':=by
 have nd:=IK hd hn;refine oJ (n:=n) (xs:=pl l) hs (λi τ T=>(∃y3 y4,τ=[x0,x1,.ref d,y3,y4])/\mw T d=some (iv<|qR D<|l.take i)/\Kp (·=d) S1 T)
  (λr=>∃y3 y4 S',r=.nx [x0,x1,.ref d,y3,y4] S'/\mw S' d=some (iv<|qR D l)/\Kp (·=d) S1 S') ⟨⟨_,_,rfl⟩,hd,Kp.refl⟩ (λi τ T h=>h.2.2.lst _ _ (cA nd) hn) ?_ ?_
 ·rintro i z τ T j ⟨⟨y3,y4,rfl⟩,g,kp⟩;unfold pl at j;rw[aP]at j;obtain⟨p,hp,rfl⟩:=aW.mp j;refine⟨[x0,x1,.ref d,.int p.1,.int p.2],T,rfl,.inl ?_⟩;have f:=uK (l.take i) D;have k:=(aJ.mp hp).1;rw[b8]at f;refine⟨_,_,acc_step g<|by omega,⟨_,_,rfl⟩,?_,kp.t6<|.inl rfl⟩;rw[NJ<|Vu g,bR,hp,zI];rfl
 ·rintro τ T ⟨⟨y3,y4,rfl⟩,g,kp⟩;rw[Ng,bX]at g;exact⟨y3,y4,T,rfl,g,kp⟩
meta abbrev SA:Sm:=kB (jT pT (F7 wV (jD 2)<|jE (jT pT (jD 3)<|jD 5)<|jE (eC<|.int 0)<|jP)<|jT Jl (jD 4)<|jD 6)<|Lz (jD 2)<|jT pT (jD 3)<|jD 5
meta abbrev g56:Tg:=DT 2<|vE (ko 5)<|vE (ko 6) DU
def Qe{S:jH}{d:Nat}{D:Pl}{k v j u:Int}(hd:mw S d=some (iv D))(hl:D.length<16777216)(hv:v.natAbs<big)(hu:u.natAbs<big):SA [x0,x1,.ref d,.int k,.int v,.int j,.int u] S=.nx [x0,x1,.ref d,.int k,.int v,.int j,.int u] (S.set d<|.qi<|iv<|acc D (k+j)<|v * u):=by
 unfold SA;dsimp[kj,bools,C3,Hl,hd,fM,zR,Gg,abR hv hu,Hw,Ei,uh<|show(iv D).length<16777216 by rw[NW];exact hl,GJ];rfl
def TX{d n:Nat}{D l:Pl}{k v:Int}(hn:jF S n=some (pl l))(hd:mw S d=some (iv D))(hl:D.length+l.length<16777216)(hv:v.natAbs<big)(hu:∀p∈l,p.2.natAbs<big) :
  ∃y5 y6 S',mj (lV<|jD 1) g56 SA [x0,.ref n,.ref d,.int k,.int v,x5,x6] S=.nx [x0,.ref n,.ref d,.int k,.int v,y5,y6] S'/\mw S' d=some (iv<|qR D<|l.map λq=>(k+q.1,v * q.2))/\Kp (·=d) S S':=by
 have nd:=IK hd hn;refine oJ (n:=n) (xs:=pl l) (S1:=S) (lY (by dsimp[kj,bools]) hn) (λi τ T=>(∃y5 y6,τ=[x0,.ref n,.ref d,.int k,.int v,y5,y6])/\mw T d=some (iv<|qR D<|(l.take i).map λq=>(k+q.1,v * q.2))/\Kp (·=d) S T)
  (λr=>∃y5 y6 S',r=.nx [x0,.ref n,.ref d,.int k,.int v,y5,y6] S'/\mw S' d=some (iv<|qR D<|l.map λq=>(k+q.1,v * q.2))/\Kp (·=d) S S') ⟨⟨_,_,rfl⟩,hd,Kp.refl⟩ (λi τ T h=>h.2.2.lst _ _ (cA nd) hn) ?_ ?_
 ·rintro i z τ T j ⟨⟨y5,y6,rfl⟩,f,kp⟩;unfold pl at j;rw[aP]at j;obtain⟨p,hp,rfl⟩:=aW.mp j;refine⟨[x0,.ref n,.ref d,.int k,.int v,.int p.1,.int p.2],T,rfl,.inl ?_⟩;have g:=uK ((l.take i).map λq=>(k+q.1,v * q.2)) D;have m:=(aJ.mp hp).1;rw[aH,b8]at g;refine⟨_,_,Qe f (by omega) hv<|hu p<|bw hp,⟨_,_,rfl⟩,?_,kp.t6<|.inl rfl⟩;rw[NJ<|Vu f,bR,hp,bD,zI];rfl
 ·rintro τ T ⟨⟨y5,y6,rfl⟩,f,kp⟩;rw[Ng,bX]at f;exact⟨y5,y6,T,rfl,f,kp⟩
meta abbrev Wo:Sm:=mj (lV<|jD 1) g56 SA
def Hf(f:Int×Int->A)(hf:∀p τ S,Rx (f p) τ S=Rx (pA p) τ S){d n:Nat}{a b:Pl}(hn:jF S n=some (a.map f))(hm:jF S m=some (pl b))(hd:mw S d=some [])(hl:a.length * b.length<16777216)(ha:∀p∈a,p.2.natAbs<big)(hb:∀p∈b,p.2.natAbs<big) :
  ∃y3 y4 y5 y6 S',mj (lV<|jD 0) Rx Wo [.ref n,.ref m,.ref d,x3,x4,x5,x6] S=.nx [.ref n,.ref m,.ref d,y3,y4,y5,y6] S'/\mw S' d=some (iv<|qR []<|HM a b)/\Kp (·=d) S S':=by
 have nd:=IK hd hn;have G:=IK hd hm;refine oJ (n:=n) (xs:=a.map f) (S1:=S) (lY (by dsimp[kj,bools]) hn) (λi τ T=>(∃y3 y4 y5 y6,τ=[.ref n,.ref m,.ref d,y3,y4,y5,y6])/\mw T d=some (iv<|qR []<|HM (a.take i) b)/\Kp (·=d) S T)
  (λr=>∃y3 y4 y5 y6 S',r=.nx [.ref n,.ref m,.ref d,y3,y4,y5,y6] S'/\mw S' d=some (iv<|qR []<|HM a b)/\Kp (·=d) S S') ⟨⟨_,_,_,_,rfl⟩,hd,Kp.refl⟩ (λi τ T h=>h.2.2.lst _ _ (cA nd) hn) ?_ ?_
 ·rintro i z τ T C ⟨⟨y3,y4,y5,y6,rfl⟩,j,kp⟩;rw[aP]at C;obtain⟨p,hp,rfl⟩:=aW.mp C;refine⟨[.ref n,.ref m,.ref d,.int p.1,.int p.2,y5,y6],T,hf _ _ _,.inl ?_⟩;have g:=uK (HM (a.take i) b) [];have F:=(aJ.mp hp).1;rw[IF,b8,Nat.min_eq_left<|eg F,dJ,cj]at g;have B:i * b.length+b.length<=a.length * b.length:=by rw[<- iS];exact Nat.mul_le_mul_right _ F
  obtain⟨L,K,J,e,q,t⟩:=TX (x0:=.ref n) (x5:=y5) (x6:=y6) (k:=p.1) (v:=p.2) (kp.lst _ _ (cA G) hm) j () (ha p<|bw hp) hb;refine⟨_,_,e,⟨_,_,_,_,rfl⟩,?_,kp.trans t⟩;rw[q,bR,hp,Option.toList_some,Nq,zI]
 ·rintro τ T ⟨⟨y3,y4,y5,y6,rfl⟩,j,kp⟩;rw[aH,bX]at j;exact⟨y3,y4,y5,y6,T,rfl,j,kp⟩
end Am
namespace Su
open Am Po PySem L2
meta abbrev En:=ag×Nat×Pl
meta abbrev Es:=List En
abbrev ent (e:En):A:=.tup [.tup<|e.1.map .int,.ref e.2.1]
abbrev kv (e:En):ag×A:=(e.1,.ref e.2.1)
abbrev At (S:jH)(es:Es):Prop:=∀e∈es,jF S e.2.1=some (pl e.2.2)
meta abbrev Ps:=List<|ag×Pl
abbrev sm (es:Es):Ps:=es.map λe=>(e.1,e.2.2)
def Ai(es:Es):(sm es).length=es.length:=aH ..
def F3(a b:Es):sm (a++b)=sm a++sm b:=bD
abbrev vS (D:Ps)(o:ag):Pl:=((D.find? λe=>decide<|e.1=o).map (·.2)).getD []
abbrev hS (D:Ps)(o:ag):Bool:=D.any λe=>decide<|e.1=o
abbrev Au (D:Ps)(o:ag)(p:Pl):Ps:=if hS D o=true then D.map (λe=>if e.1=o then(e.1,p)else e)else D++[(o,p)]
abbrev zK (D:Ps)(o:ag)(p:Pl):Ps:=Au D o<|qG (vS D o) p
abbrev adds (D l:Ps):Ps:=l.foldl (λD e=>zK D e.1 e.2) D
def O7(D a b:Ps):adds D (a++b)=adds (adds D a) b:=by unfold adds;rw[e_]
abbrev toS (D:Ps):Ps:=((ku<|D.map Prod.fst).filter λo=>!(vS D o).isEmpty).map λo=>(o,vS D o)
abbrev fE (D:Es)(o:ag):Option En:=D.find? λe=>decide<|e.1=o
abbrev q_ (D:Es)(o:ag)(r:Nat)(p:Pl):Es:=if (fE D o).isSome=true then D.map (λe=>if e.1=o then(e.1,r,p)else e)else D++[(o,r,p)]
def TY(D:Es)(o:ag):(sm D).find? (λe=>decide<|e.1=o)=(fE D o).map λe=>(e.1,e.2.2):=by
 unfold sm fE;rw[ie];rfl
def Lr(D:Es)(o:ag):vS (sm D) o=((fE D o).map λe=>e.2.2).getD []:=by
 unfold vS;rw[TY,eO];rfl
def ab2(D:Es)(o:ag):hS (sm D) o=(fE D o).isSome:=by
 unfold hS sm fE;rw[any_map,Bool.eq_iff_iff,jj,f7];rfl
def MU(D:Es)(o:ag)(r:Nat)(p:Pl):sm (q_ D o r p)=Au (sm D) o p:=by
 unfold q_ Au;rw[ab2];unfold sm;split
 ·rw[bh,bh];apply bW;intro e _;show((if e.1=o then(e.1,r,p)else e).1,(if e.1=o then(e.1,r,p)else e).2.2)=if e.1=o then(e.1,p)else(e.1,e.2.2)
  split<;>rfl
 ·rw[bD];rfl
def vB(D:Es)(o:ag):kF (D.map kv) o=(fE D o).map λe=>.ref e.2.1:=by
 unfold kF fE;rw[ie,eO];rfl
def M8(D:Es)(o:ag)(r:Nat)(p:Pl):putD (D.map kv) o (.ref r)=(q_ D o r p).map kv:=by
 unfold putD q_;rw[vB,dZ];split
 ·rw[bh,bh];apply bW;intro e _;show(if e.1=o then(e.1,A.ref r)else(e.1,.ref e.2.1))=kv (if e.1=o then(e.1,r,p)else e);split<;>rfl
 ·rw[bD];rfl
def s_{D:Es}{r:Nat}{p:Pl}{e:En}(h:e∈q_ D o r p):e∈D\/e=(o,r,p):=by
 unfold q_ at h;split at h
 ·obtain⟨d,h1,rfl⟩:=bf.mp h;split
  ·rename_i c;exact .inr (by rw[c])
  ·exact .inl h1
 ·rcases bJ.mp h with z|z
  ·exact .inl z
  ·exact .inr<|aR.mp z
def SQ{D:Es}{r:Nat}{p:Pl}:(q_ D o r p).length<=D.length+1:=by
 unfold q_;split
 ·rw[aH];lia
 ·rw[bq];exact aL _
def ud{D:Es}{e:En}(h:fE D o=some e):e∈D/\e.1=o:=⟨c_ h,by
 unfold fE at h;have:=fN h;simpa using this⟩
def At.put{D:Es}{r:Nat}{p:Pl}(h:At S D)(hr:jF S r=some (pl p)):At S (q_ D o r p):=λe d=>by
 rcases s_ d with z|z
 ·exact h e z
 ·rw[z];exact hr
def At.kp{D:Es}{b:Nat->Prop}(h:At S D)(k:Kp b S S')(hb:∀e∈D,¬b e.2.1):At S' D:=λe d=>k.lst _ _ (hb e d)<|h e d
def At.yH{D:Es}(h:At S D)(k:k_ S S'):At S' D:=h.kp k λ_ _ z=>z
def At.app{a:Es}(h:At S a)(h':At S b):At S (a++b):=λe d=>(bJ.mp d).elim (h e)<|h' e
def mO{n:Nat}{d:List<|ag×A}(h:jV S n=some d)(h':jF S m=some xs):n≠m:=λz=>by
 subst z;have e1:=lO h;rw[jU h']at e1
 cases e1
def At.LU{D:Es}{d:Nat}(h:At S D)(k:Kp (·=d) S S')(hd:jV S d=some kvs):At S' D:=h.kp k λe f z=>mO hd (h e f) z.symm
abbrev Vl (k b:Nat)(D:Es):Prop:=∀e∈D,Ok e.2.2/\e.2.2.length<=k/\b<=e.2.1
def Vl.v{k:Nat}{D:Es}(h:Vl k b D)(o:ag):Ok (vS (sm D) o)/\(vS (sm D) o).length<=k:=by
 rw[Lr]
 cases e:fE D o with
 | none=>exact⟨⟨List.Pairwise.nil,nofun⟩,bL _⟩
 | some d=>exact⟨(h d (ud e).1).1,(h d (ud e).1).2.1⟩
def nM{S:jH}:jV (S++[.dct xs]) S.length=some xs:=pR C_
def DM{o:O}{n:Nat}(h:jV S n=some xs):jV (S++[o]) n=some xs:=by
 have h':=lO h;exact pR<|by rw[bz (aJ.mp h').1];exact h'
def sj{S:jH}{n:Nat}(h:jV S n=some xs):n<S.length:=(aJ.mp<|lO h).1
def IM{S:jH}{n:Nat}(h:n<S.length):jV (S.set n<|.dct ys) n=some ys:=pR<|br h
def Uk{f:A->ae->jH->R A}{co:Ex}{d:rj}:XA f co d τ S=(co τ S).bind λx S1=>opt (dct? x S1) λ_=>(d τ S1).bind λas S2=>f x as S2:=rfl
def UG{n:Nat}:dct? (.ref n) S=(jV S n).map λ_=>Unit.unit:=rfl
def xh{S:jH}:BY τ S=.ok (.ref S.length) (S++[.dct []]):=rfl
def yP{co ci:Ex}{a:A}:La co ci a τ S=(co τ S).bind λo S1=>(ci τ S1).bind λi S2=>(n5 o i a S2).bind λ_ S3=>.ok τ S3:=rfl
def RY{n:Nat}{o:ag}:Yd (.ref n) [.tup<|o.map .int,y] S=opt (jV S n) λkvs=>.ok ((kF kvs o).getD y) S:=by
 show opt (jV S n) (λkvs=>opt (A.ints<|o.map .int) λk=>.ok ((kF kvs k).getD y) S)=_;rw[ints_map];rfl
def sR{n:Nat}{o:ag}{v:A}{S:jH}:n5 (.ref n) (.tup<|o.map .int) v S=opt (jV S n) λkvs=>gd (kvs.length<sizeLine) (.ok Unit.unit<|S.set n<|.dct<|putD kvs o v):=by
 show opt (jV S n) (λkvs=>opt (A.ints<|o.map .int) λns=>gd (kvs.length<sizeLine)<|.ok Unit.unit<|S.set n<|.dct<|putD kvs ns v)=_;rw[ints_map];rfl
def yO{n:Nat}{o:ag}:sD (.ref n) (.tup<|o.map .int) S=opt (jV S n) λkvs=>opt (kF kvs o) λv=>.ok v S:=by
 show opt (jV S n) (λkvs=>opt (A.ints<|o.map .int) λns=>opt (kF kvs ns) λv=>.ok v S)=_;rw[ints_map];rfl
def get_or{S:jH}{d:Nat}{D:Es}(hd:jV S d=some (D.map kv))(hA:At S D):∃x:Nat,(kF (D.map kv) o).getD (.ref S.length)=.ref x/\jF (S++[.lst []]) x=some (pl<|vS (sm D) o):=by
 rw[vB,Lr]
 cases e:fE D o with
 | none=>exact⟨S.length,rfl,jW⟩
 | some f=>exact⟨f.2.1,rfl,l7<|hA f (ud e).1⟩
def wX{α:Type}{xs:List α}(g:α->A){n:Nat}{src:Ic}{t:Te}{e:Ex}(hs:src τ S=.ok (kW n (xs.map g).length) S1)(hx:jF S1 n=some (xs.map g))(d:α)(p:α->Bool)(f:α->A)
  (step:∀x∈xs,∀T,k_ S1 T->∃T1,t (g x::k9 cap τ) T=.ok (p x) T1/\k_ S1 T1/\(p x=true->∃T2,e (g x::k9 cap τ) T1=.ok (f x) T2/\k_ S1 T2)) (hl:xs.length<=16777216) :
  ∃S',kO (none::cap) src (ko 0) t e τ S=.ok (.ref S'.length) (S'++[.lst<|(xs.filter p).map f])/\k_ S1 S':=by
 have q:∀i,i<xs.length->xs.getD i d∈xs:=λi j=>by
  rw[aK,aI j];exact dD j
 have m:(xs.map g).length=xs.length:=aH ..;obtain⟨S',h1,h2⟩:=xC (s:=kW n (xs.map g).length) (g:=ko 0) (t:=t) (e:=e) (P:=λT=>k_ S1 T) (T:=λk=>∃y,k=y::k9 cap τ) (λi=>g<|xs.getD i d) (λi=>p<|xs.getD i d) (λi=>f<|xs.getD i d) (λi T j h=>by
   have j:i<(xs.map g).length:=j;show(jF T n).bind _=_;rw[h.lst _ _ (λz=>z) hx,iD,aP,aI (),aK,aI ()];rfl) (λT h=>by
   show(match jF T n with
    | some ys=>decide (ys.length<=(xs.map g).length)
    | none=>false)=true
   rw[h.lst _ _ (λz=>z) hx];simp)
  (λi k T j ⟨y,hy⟩ h=>by
   have j:i<(xs.map g).length:=j;subst hy;obtain⟨T1,e1,k1,e2⟩:=step _ (q i ()) T h;exact⟨g (xs.getD i d)::k9 cap τ,T,T1,rfl,e1,⟨_,rfl⟩,λ_=>k1,e2⟩) (xs.map g).length 0 (k9 (none::cap) τ) S1 rfl ⟨_,rfl⟩ Kp.refl
 refine⟨S',?_,h2⟩;unfold kO;rw[hs,R.mH];show(nB (kW n (xs.map g).length) (ko 0) t e (xs.map g).length 0 (k9 (none::cap) τ) S1).ny _=_;rw[h1,R.kD,<- fV,m,nu xs p f d];refine mz ?_;rw[aH];exact bM (dN _ _) hl
def IJ{D:Es}{o:ag}(h:o∈D.map Prod.fst):∃e,fE D o=some e:=by
 unfold fE
 cases e:D.find? λe=>decide (e.1=o)with
 | some x=>exact⟨x,rfl⟩
 | none=>
  obtain⟨x,d,rfl⟩:=bf.mp h;exact absurd (bg rfl)<|fL.mp e x d
abbrev A3 (k:ag):A:=.tup<|k.map .int
abbrev wG (D:Es)(p:Pl->Bool):Es:=((ku<|D.map Prod.fst).filter λo=>p<|vS (sm D) o).map λo=>(o,((fE D o).map λe=>e.2.1).getD 0,vS (sm D) o)
def Dt(D:Es):sm (wG D λp=>!p.isEmpty)=toS (sm D):=by
 unfold wG toS sm;rw[bh,bh];rfl
def Cd{D:Es}{p:Pl->Bool}{e:En}(h:e∈wG D p):e∈D/\p e.2.2=true:=by
 obtain⟨o,f,rfl⟩:=bf.mp h;obtain⟨h1,h2⟩:=cE.mp f;obtain⟨e,d⟩:=IJ<|(ki _).mem_iff.mp h1;rw[Lr,d]at h2;rw[Lr,d];obtain⟨m,rfl⟩:=ud d;exact⟨m,h2⟩
def PY{S:jH}{d:Nat}{D:Es}{src:Ic}{t:Te}{e:Ex}(hd:jV S d=some (D.map kv))(hA:At S D)(hs:src τ S=.ok (kW S.length ((ku<|D.map Prod.fst).map A3).length) (S++[.lst<|(ku<|D.map Prod.fst).map A3]))(p:Pl->Bool)
  (ht:∀(o:ag) (r:Nat) (q:Pl) (T:jH),jV T d=some (D.map kv)->kF (D.map kv) o=some (.ref r)->jF T r=some (pl q)->∃T1,t (A3 o::k9 cap τ) T=.ok (p q) T1/\k_ T T1)
  (he:∀(o:ag) (r:Nat) (T:jH),jV T d=some (D.map kv)->kF (D.map kv) o=some (.ref r)->e (A3 o::k9 cap τ) T=.ok (.tup [A3 o,.ref r]) T) (hl:D.length<=16777216) :
  ∃(n:Nat) (S':jH),kO (none::cap) src (ko 0) t e τ S=.ok (.ref n) S'/\jF S' n=some ((wG D p).map ent)/\At S' (wG D p)/\S.length<n/\k_ S S':=by
 have B:k_ S (S++[.lst<|(ku<|D.map Prod.fst).map A3]):=Kp.refl.lay;obtain⟨S',e1,k1⟩:=wX A3 (t:=t) (e:=e) (cap:=cap) hs jW [] (λo=>p<|vS (sm D) o) (λo=>ent (o,((fE D o).map λe=>e.2.1).getD 0,vS (sm D) o)) (λo G T k=>by
  obtain⟨j,f⟩:=IJ<|(ki _).mem_iff.mp G;have C:kF (D.map kv) o=some (.ref j.2.1):=by rw[vB,f];rfl
  have g:=B.trans k;have dT:=g.dct _ _ (λz=>z) hd;have F:=g.lst _ _ (λz=>z)<|hA j (ud f).1;obtain⟨T1,h1,h2⟩:=ht o j.2.1 j.2.2 T dT C F;rw[Lr,f];exact⟨T1,h1,k.trans h2,λ_=>⟨T1,he o j.2.1 T1 (h2.dct _ _ (λz=>z) dT) C,k.trans h2⟩⟩) (by
  rw[(ki _).length_eq,aH];exact hl)
 have m:=B.trans k1;refine⟨S'.length,_,e1,?_,(?_:At S'<|wG D p).yH Kp.refl.lay,?_,m.lay⟩
 ·rw[jW];unfold wG;rw[bh];rfl
 ·exact λe h=>m.lst _ _ (λz=>z) (hA e (Cd h).1)
 ·have:=k1.len;rw[bq]at this;exact this
abbrev Ap (D:Es):Prop:=D.Pairwise λe f=>e.1≠f.1/\e.2.1≠f.2.1
def Ap.put{D:Es}{r:Nat}{p:Pl}(h:Ap D)(hr:∀e∈D,e.2.1≠r):Ap (q_ D o r p):=by
 unfold q_;split
 ·unfold Ap;rw[cB];refine List.Pairwise.imp_of_mem (λ{e f} d hf z=>?_) h;by_cases c1:e.1=o
  ·have c2:¬f.1=o:=λg=>z.1<|c1.trans g.symm;rw[aS c1,aQ c2];exact⟨z.1,λy=>hr f hf y.symm⟩
  ·rw[aQ c1];by_cases c2:f.1=o
   ·rw[aS c2];exact⟨z.1,hr e d⟩
   ·rw[aQ c2];exact z
 ·rename_i c;unfold Ap;rw[List.pairwise_append];refine⟨h,cH _ _,λe d f hf=>?_⟩;rw[aR.mp hf];refine⟨λz=>c ?_,hr e d⟩;unfold fE;rw[jj];exact⟨e,d,bg z⟩
theorem Ap.at{D:Es}(h:Ap D):∀e∈D,∀f∈D,e.1≠f.1->e.2.1≠f.2.1:=by
 unfold Ap at h
 induction h with
 | nil=>exact λe d=>nomatch d
 | @cons a D ha _ g=>
  intro e d f hf z
  rcases bE.mp d with h1|h1<;>rcases bE.mp hf with h2|h2
  ·exact absurd (by rw[h1,h2]) z
  ·rw[h1];exact(ha f h2).2
  ·rw[h2];exact(ha e h1).2.symm
  ·exact g e h1 f h2 z
def Ap.nd{D:Es}(h:Ap D):(D.map Prod.fst).Nodup:=by
 unfold List.Nodup;rw[cB];exact h.imp λz=>z.1
def Ap.out{D:Es}(h:Ap D)(p:Pl->Bool):Ap (wG D p):=by
 unfold Ap wG;rw[cB];have n:(ku<|D.map Prod.fst).Pairwise (·≠·):=(ki _).nodup_iff.mpr h.nd;refine List.Pairwise.imp_of_mem (λ{a b} ha hb z=>?_)<|n.filter _;obtain⟨e,d⟩:=IJ<|(ki _).mem_iff.mp (cE.mp ha).1;obtain⟨f,hf⟩:=IJ<|(ki _).mem_iff.mp (cE.mp hb).1;obtain⟨g,e1⟩:=ud d;obtain⟨j,e2⟩:=ud hf;refine⟨z,?_⟩;rw[d,hf];exact h.at e g f j<|by rw[e1,e2];exact z
structure Fil (T:jH)(d b i j:Nat)(P:Ps)(D:Es):Prop where
 dd:jV T d=some (D.map kv)
 aa:At T D
 ss:sm D=P
 vv:Vl (i * j) b D
 kk:∀e∈D,e.1≠[]
 ll:D.length<=i
 pw:Ap D
def Kz(P:Ps)(es:Es):es.foldl (λQ e=>zK Q e.1 e.2.2) P=adds P (sm es):=by
 unfold adds sm;rw[jA]
def Lk(q:Pl)(P:Ps)(es:Es):es.foldl (λQ e=>zK Q e.1<|times q e.2.2) P=adds P ((sm es).map λe=>(e.1,times q e.2)):=by
 unfold adds sm;rw[jA,jA]
end Su
namespace Bl
open L2
abbrev cnt:ag->Int->Int
 | [],_=>0
 | x::l,j=>(if j<=x then 1 else 0)+cnt l j
abbrev Below (xs ys:ag):Prop:=∀(i:Nat) (j:Int),cnt (xs.take i) j<=cnt (ys.take i) j
abbrev CN (a b:ag):Prop:=a.length=b.length/\∀(p:Nat) (h:p<a.length),b[(a[p]-1).toNat]?=some ((p:Int)+1)
end Bl
namespace Wd
open Bl L2
abbrev ex (l:ag)(k:Nat):ag:=(l.set (k-1)<|l.getD k 0).set k<|l.getD (k-1) 0
abbrev led (l:ag)(w:am):ag:=w.foldl ex l
def vg{l:ag}{k:Nat}(h:k<l.length):l.getD k 0=l[k]:=by rw[aK,aI h];rfl
def VV{l:ag}{k:Nat}(h0:1<=k)(h:k<l.length):ex l k=(l.set (k-1) l[k]).set k (l[k-1]'()):=by
 unfold ex;rw[vg h,vg<|show k-1<l.length by lia]
def GF(l:ag)(k:Nat):(ex l k).length=l.length:=by unfold ex;rw[bT,bT]
def Tv{l:ag}{k:Nat}(h0:1<=k)(h:k<l.length):(ex l k).Perm l:=by
 rw[VV h0 h];exact List.set_set_perm () h
abbrev N4:ag->am->Prop
 | _,[]=>True
 | l,k::w=>1<=k/\k<l.length/\l.getD (k-1) 0<l.getD k 0/\N4 (ex l k) w
abbrev sw (k:Nat)(x:Int):Int:=if x=k then(k:Int)+1 else if x=(k:Int)+1 then k else x
def TL{n p:Nat}(h:p<n):(l8 1<|(n:Int)+1)[p]?=some ((p:Int)+1):=by
 unfold l8;rw[aP,dI ()];simp;lia
def mJ(n:Nat):(l8 1<|(n:Int)+1).length=n:=by rw[sV];lia
def wO{l:ag}{k:Nat}(h0:1<=k)(h:k<l.length)(p:Nat):(ex l k)[p]?=if p=k then l[k-1]? else if p=k-1 then l[k]? else l[p]?:=by
 rw[VV h0 h,List.getElem?_set];by_cases h1:k=p
 ·rw[aS h1,aS h1.symm,aS<|by rw[bT];lia,aI]
 ·rw[aQ h1,aQ λz=>h1 z.symm,List.getElem?_set];by_cases h2:k-1=p
  ·rw[aS h2,aS h2.symm,aS (),aI]
  ·rw[aQ h2,aQ λz=>h2 z.symm]
end Wd
namespace Iv
open L2 Bl
abbrev inv:ag->Nat
 | []=>0
 | x::l=>l.countP (λy=>decide<|y<x)+inv l
abbrev oH (a b:ag):Nat:=(a.map λx=>b.countP λy=>decide<|y<x).sum
def wI(x:Int)(a b:ag):oH (x::a) b=b.countP (λy=>decide<|y<x)+oH a b:=rfl
theorem mK:∀(a b:ag),inv (a++b)=inv a+inv b+oH a b
 | [],b=>by show inv b=0+inv b+0;lia
 | x::a,b=>by
  show(a++b).countP _+inv (a++b)=(a.countP _+inv a)+inv b+oH (x::a) b;rw[List.countP_append,mK a b,wI];lia
theorem xq:∀{a b:am},a.Perm b->a.sum=b.sum
 | _,_,.nil=>rfl
 | _,_,.cons x h=>by rw[gw,gw,xq h]
 | _,_,.swap x y l=>by rw[gw,gw,gw,gw];lia
 | _,_,.trans h k=>(xq h).trans<|xq k
def Sk{a:ag}(b:ag)(h:a.Perm a'):oH a b=oH a' b:=xq<|h.map _
def SM(a:ag){b:ag}(h:b.Perm b'):oH a b=oH a b':=by
 unfold oH;congr 1;refine bW λx _=>h.countP_eq _
def Cv{M:ag}{x y:Int}(h:∀m∈M,m<x\/y<m)(hxy:x<y):M.countP (λm=>decide<|m<x)=M.countP (λm=>decide<|m<y):=by
 refine List.countP_congr λm d=>?_;rw[decide_eq_true_iff,decide_eq_true_iff]
 rcases h m d with z|z<;>omega
theorem yu:∀{M:ag}{x y:Int},(∀m∈M,m<x\/y<m)->x<y->oH M [x]=oH M [y]
 | [],_,_,_,_=>rfl
 | m::M,x,y,h,hxy=>by
  rw[wI,wI,yu (λf d=>h f<|aX _ d) hxy];congr 1;have:=h m<|aV ..;dsimp[jo,List.countP_nil];by_cases c:x<m
  ·rw[bg c,bg<|show y<m by omega]
  ·rw[bA c,bA<|show ¬y<m by omega]
def mid{M:ag}{x y:Int}(h:∀m∈M,m<x\/y<m)(hxy:x<y):inv ([y]++M++[x])=inv ([x]++M++[y])+1:=by
 rw[mK,mK,mK<|[x]++M,mK [x]];have e1:oH [y] M=oH [x] M:=by
  show M.countP _+0=M.countP _+0;rw[Cv h hxy]
 have e2:oH ([y]++M) [x]=1+oH M [x]:=by
  show[x].countP _+oH M [x]=_;rw[jo,bg hxy];rfl
 have e3:oH ([x]++M) [y]=oH M [y]:=by
  show[y].countP _+oH M [y]=_;rw[jo,bA (by lia:¬y<x)];simp
 rw[e1,e2,e3,yu h hxy]
 skip
 lia
def OT(M:ag)(x y:Int):([y]++M++[x]).Perm ([x]++M++[y]):=by
 refine(List.perm_append_comm (l₁:=[y]++M) (l₂:=[x])).trans ?_
 skip
 exact .cons x<|List.perm_append_comm (l₁:=[y]) (l₂:=M)
def step{P M R:ag}{x y:Int}(h:∀m∈M,m<x\/y<m)(hxy:x<y):inv (P++([y]++M++[x])++R)=inv (P++([x]++M++[y])++R)+1:=by
 have p:=OT M x y;rw[mK,mK P,mK<|P++([x]++M++[y]),mK P,mid h hxy,SM P p,Sk R<|p.append_left P]
 lia
abbrev sw (a:ag)(i j:Nat):ag:=(a.set i<|a.getD j 0).set j<|a.getD i 0
def split{a:ag}(hij:i<j)(hj:j<a.length):∃P M R:ag,a=P++([a.getD i 0]++M++[a.getD j 0])++R/\P=a.take i/\(∀m∈M,∃k,i<k/\k<j/\a[k]?=some m)/\sw a i j=P++([a.getD j 0]++M++[a.getD i 0])++R:=by
 have G:a.getD i 0=a[i]:=by rw[aK,aI ()];rfl
 have J:a.getD j 0=a[j]:=by rw[aK,aI hj];rfl
 obtain⟨M,g⟩:∃M,M=(a.drop<|i+1).take (j-i-1):=⟨_,rfl⟩;have F:M.length=j-i-1:=by rw[g,b8,List.length_drop];lia
 have C:a=a.take i++([a.getD i 0]++M++[a.getD j 0])++a.drop (j+1):=by
  have h1:a.drop i=a[i]::a.drop (i+1):=List.drop_eq_getElem_cons ();have h2:a.drop (i+1)=M++a.drop j:=by
   rw[g];have:=iA (j-i-1)<|a.drop<|i+1;rw[List.drop_drop,show i+1+(j-i-1)=j by lia]at this;exact this.symm
  have h3:a.drop j=a[j]::a.drop (j+1):=List.drop_eq_getElem_cons hj
  conv=>lhs;rw[<- iA i a,h1,h2,h3]
  rw[G,J];simp
 refine⟨a.take i,M,a.drop<|j+1,C,rfl,λm z=>?_,?_⟩
 ·rw[g]at z;obtain⟨k,q⟩:=iJ z;have t:k<j-i-1:=by
   have:=(aJ.mp q).1;rw[b8]at this;lia
  rw[List.getElem?_take_of_lt t,List.getElem?_drop]at q;exact⟨i+1+k,(),(),q⟩
 ·have p:∀(P R:ag) (x y d f:Int),P.length=i->((P++([x]++M++[y])++R).set i f).set j d=P++([f]++M++[d])++R:=λP R x y d f B=>by
   rw[cJ,iB _ _ (),B,Nat.sub_self];show(P++(f::((M++[y])++R))).set j d=_;rw[iB _ _ (),B,show j-i=(j-i-1)+1 by lia,List.set_cons_succ,cJ,iB _ _ (),F,Nat.sub_self];simp
  have:=p (a.take i) (a.drop<|j+1) (a.getD i 0) (a.getD j 0) (a.getD i 0) (a.getD j 0) (by rw[b8];lia);rw[<- C]at this;exact this
def Jz{a:ag}{i:Nat}(h:i<a.length):a[i]?=some (a.getD i 0):=by rw[aK,aI h];rfl
end Iv
namespace Fw
open PySem L2 Bl
open Wd (ex led)
meta abbrev rg (n:Nat):ag:=l8 1<|(n:Int)+1
def Rp{l:ag}{k:Nat}(h0:1<=k)(h:k<l.length):ex (ex l k) k=l:=by
 apply d7;intro p;have h':k<(ex l k).length:=by rw[Wd.GF];exact h
 rw[Wd.wO h0 h',Wd.wO h0 h,Wd.wO h0 h,Wd.wO h0 h];by_cases c3:p=k
 ·rw[aS c3,aQ (),aS rfl,c3]
 ·rw[aQ c3];by_cases c2:p=k-1
  ·rw[aS c2,aS rfl,c2]
  ·rw[aQ c2,aQ c3,aQ c2]
def Vq{l:ag}{k:Nat}(h0:1<=k)(h:k<l.length):(ex l k).getD k 0=l.getD (k-1) 0:=by
 rw[aK,Wd.wO h0 h,aS rfl,aK]
def VD{l:ag}{k:Nat}(h0:1<=k)(h:k<l.length):(ex l k).getD (k-1) 0=l.getD k 0:=by
 rw[aK,Wd.wO h0 h,aQ (),aS rfl,aK]
def Pa{l:ag}{k:Nat}(h0:1<=k)(h:k<l.length)(hr:l.getD (k-1) 0<l.getD k 0):Iv.inv (ex l k)=Iv.inv l+1:=by
 obtain⟨P,M,R,e,_,f,es⟩:=Iv.split (a:=l) (i:=k-1) (j:=k) () h;have:=Iv.step (P:=P) (M:=M) (R:=R) (x:=l.getD (k-1) 0) (y:=l.getD k 0) (λm d=>by obtain⟨_,_,_,_⟩:=f m d;lia) hr;rw[<- es,<- e]at this;exact this
def NL{l:ag}{k:Nat}(h0:1<=k)(h:k<l.length)(hr:l.getD k 0<l.getD (k-1) 0):Iv.inv l=Iv.inv (ex l k)+1:=by
 have:=Pa (l:=ex l k) h0 (by rw[Wd.GF];exact h) (by rw[Vq h0 h,VD h0 h];exact hr);rw[Rp h0 h]at this;exact this
def UL{l:ag}{k:Nat}(h0:1<=k)(h:k<l.length):Iv.inv (ex l k)<=Iv.inv l+1:=by
 rcases Int.lt_trichotomy (l.getD (k-1) 0) (l.getD k 0)with c|c|c
 ·exact Nat.le_of_eq (Pa h0 h c)
 ·have:ex l k=l:=by
   apply d7;intro p;have e1:l[k]?=some (l.getD k 0):=Iv.Jz h;have e2:l[k-1]?=some (l.getD (k-1) 0):=Iv.Jz ();rw[Wd.wO h0 h];by_cases c3:p=k
   ·rw[aS c3,c3,e1,e2,c]
   ·rw[aQ c3];by_cases c2:p=k-1
    ·rw[aS c2,c2,e1,e2,c]
    ·rw[aQ c2]
  rw[this];lia
 ·have:=NL h0 h c;lia
abbrev Rr (l:ag)(k:Nat):Prop:=1<=k/\k<l.length/\l.getD k 0<l.getD (k-1) 0
abbrev Dn:ag->am->Prop
 | l,[]=>∀k,¬Rr l k
 | l,k::ks=>(Rr l k/\∀j,Rr l j->k<=j)/\Dn (ex l k) ks
def Tw{l:ag}{n k:Nat}(p:l.Perm<|rg n)(h0:1<=k)(h:k<l.length):l.getD (k-1) 0≠l.getD k 0:=λz=>by
 have nd:l.Nodup:=p.nodup_iff.mpr<|qK _ _;rw[Wd.vg h,Wd.vg<|show k-1<l.length by lia]at z;have:=(b7 nd).mp z
 lia
structure Two (n:Nat)(o u:ag):Prop where
 po:o.Perm (rg n)
 pu:u.Perm (rg n)
 ou:CN o u
def Two.lu{n:Nat}{u:ag}(t:Two n o u):u.length=n:=by rw[t.pu.length_eq,Wd.mJ]
def Two.lo{n:Nat}{o:ag}(t:Two n o u):o.length=n:=by rw[t.po.length_eq,Wd.mJ]
end Fw
namespace Su
open Am Po PySem L2
abbrev cS (l:Ps)(o:ag)(t:Int):Int:=match l with
 | []=>0
 | e::l=>(if e.1=o then cf e.2 t else 0)+cS l o t
def NB(a b:Ps)(o:ag)(t:Int):cS (a++b) o t=cS a o t+cS b o t:=by
 induction a with
 | nil=>exact(cO _).symm
 | cons e a d=>
  show _+cS (a++b) o t=_+_+_;rw[d,iH]
def qY(a b:Pl)(k:Int):cf (a++b) k=cf a k+cf b k:=by
 induction a with
 | nil=>exact(cO _).symm
 | cons p a d=>
  show _+cf (a++b) k=_+_+_;rw[d,iH]
def OD(a b:Pl)(k:Int):cf (qG a b) k=cf a k+cf b k:=by
 unfold qG;rw[CC<|vG _ (d:=[]) cQ,xE,qY];show 0+_=_;rw[cO]
def FI(a b:Pl)(k:Int):cf (times a b) k=cf (HM a b) k:=by
 unfold times;rw[CC<|vG _ (d:=[]) cQ,xE];show 0+_=_;rw[cO]
theorem IG(s:Int):∀(b:Pl) (k c:Int),cf (b.map λq=>(c+q.1,s * q.2)) k=s * cf b (k-c)
 | [],k,c=>(jw s).symm
 | q::b,k,c=>by
  show(if c+q.1=k then s * q.2 else 0)+cf (b.map λq=>(c+q.1,s * q.2)) k=s * ((if q.1=k-c then q.2 else 0)+cf b (k-c));rw[IG s b k c,Int.mul_add];by_cases h:c+q.1=k
  ·rw[aS h,aS ()]
  ·rw[aQ h,aQ (),jw]
meta abbrev AF:Pl:=[((-1:Int),(1:Int)),((1:Int),(-1:Int))]
def aaa(b:Pl)(k:Int):cf (times AF b) k=cf b (k+1)-cf b (k-1):=by
 rw[FI];show cf ((b.map λq=>((-1:Int)+q.1,(1:Int) * q.2))++((b.map λq=>((1:Int)+q.1,(-1:Int) * q.2))++[])) k=_;rw[bO,qY,IG,IG,Int.one_mul,show k - -1=k+1 by lia]
 lia
def WM{D:Ps}{p:Pl}:vS (Au D o p) o'=if o'=o then p else vS D o':=by
 have cons:∀(e:ag×Pl) (D:Ps) (x:ag),vS (e::D) x=if e.1=x then e.2 else vS D x:=λe D x=>by
  unfold vS;rw[b9];by_cases h:e.1=x
  ·rw[bg h,aS h];rfl
  ·rw[bA h,aQ h]
 unfold Au
 cases h:hS D o with
 | true=>
  rw[aS rfl]
  induction D with
  | nil=>cases h
  | cons e D d=>
   rw[bH,cons,cons];have hc:hS (e::D) o=(decide (e.1=o) || hS D o):=rfl;rw[hc]at h;by_cases c:e.1=o
   ·rw[aS c]
    skip
    by_cases c2:o'=o
    ·rw[aS<|c.trans c2.symm,aS c2]
    ·rw[aQ λz=>c2<|z.symm.trans c,aQ c2,aQ λz=>c2<|z.symm.trans c];clear d h hc
     induction D with
     | nil=>rfl
     | cons f D g=>
      rw[bH,cons,cons,g];by_cases c3:f.1=o
      ·rw[aS c3]
       skip
       rw[aQ λz=>c2<|z.symm.trans c3,aQ λz=>c2<|z.symm.trans c3]
      ·rw[aQ c3]
   ·rw[aQ c];rw[bA c,gh]at h;rw[d h];by_cases c2:e.1=o'
    ·rw[aS c2,aQ λz=>c<|c2.trans z,aS c2]
    ·rw[aQ c2,aQ c2]
 | false=>
  rw[aQ<|by simp]
  induction D with
  | nil=>
   show vS [(o,p)] o'=_;rw[cons];by_cases c:o=o'
   ·rw[aS c,aS c.symm]
   ·rw[aQ c,aQ λz=>c z.symm]
  | cons e D d=>
   have hc:hS (e::D) o=(decide (e.1=o) || hS D o):=rfl;rw[hc,iK]at h;rw[jn,cons,cons,d h.2];have:=eL h.1;by_cases c:e.1=o'
   ·rw[aS c,aS c,aQ λz=>this<|c.trans z]
   ·rw[aQ c,aQ c]
def N7(l:Ps):∀(D:Ps) (o:ag) (t:Int),cf (vS (adds D l) o) t=cf (vS D o) t+cS l o t:=by
 induction l with
 | nil=>intro D o t;exact(fK _).symm
 | cons e l d=>
  intro D o t;show cf (vS (adds (zK D e.1 e.2) l) o) t=_+((if e.1=o then cf e.2 t else 0)+cS l o t);rw[d];unfold zK;rw[WM];by_cases h:o=e.1
  ·rw[aS h,aS h.symm,OD,h,iH]
  ·rw[aQ h,aQ λz=>h z.symm,cO]
structure Gd (D:Ps):Prop where
 nd:(D.map Prod.fst).Nodup
 ok:∀e∈D,Ok e.2
def Zc{D:Ps}{o:ag}:hS D o=true ↔ o∈D.map Prod.fst:=by
 unfold hS;rw[f7,bf];constructor
 ·rintro⟨p,h1,h2⟩;exact⟨p,h1,bU h2⟩
 ·rintro⟨p,h1,h2⟩;exact⟨p,h1,bg h2⟩
def LK{D:Ps}{o:ag}{p:Pl}:(Au D o p).map Prod.fst=if hS D o=true then D.map Prod.fst else D.map Prod.fst++[o]:=by
 unfold Au;split
 ·rw[bh];apply bW;intro e _;show(if e.1=o then(e.1,p)else e).1=e.1;split<;>rfl
 ·rw[bD];rfl
def Gd.put{D:Ps}{p:Pl}(h:Gd D)(hp:Ok p):Gd (Au D o p):=by
 refine⟨?_,λe d=>?_⟩
 ·rw[LK];split
  ·exact h.nd
  ·rename_i c;rw[cL];refine⟨h.nd,cH _ _,λa ha b hb z=>c ?_⟩;rw[aR]at hb;rw[Zc,<- hb,<- z];exact ha
 ·unfold Au at d;split at d
  ·obtain⟨f,hf,rfl⟩:=bf.mp d;split
   ·exact hp
   ·exact h.ok f hf
  ·rcases bJ.mp d with z|z
   ·exact h.ok e z
   ·rw[aR.mp z];exact hp
theorem Gd.adds(l:Ps):∀{D:Ps},Gd D->Gd (adds D l):=by
 induction l with
 | nil=>intro D h;exact h
 | cons e l d=>intro D h;exact d<|h.put<|Ah _ _
def Gd.nil:Gd []:=⟨cQ,nofun⟩
def wL{D:Ps}:(∃e∈D,e.1=o/\vS D o=e.2)\/(o∉D.map Prod.fst/\vS D o=[]):=by
 unfold vS
 cases h:D.find? λe=>decide (e.1=o)with
 | some e=>
  have h1:=fN h;exact .inl ⟨e,c_ h,by simpa using h1,rfl⟩
 | none=>
  refine .inr ⟨λz=>?_,rfl⟩;obtain⟨e,d,f⟩:=bf.mp z;exact fL.mp h e d<|bg f
def Gd.v{D:Ps}(h:Gd D)(o:ag):Ok (vS D o):=by
 rcases wL (D:=D) (o:=o)with⟨e,h1,_,h2⟩|⟨_,h2⟩
 ·rw[h2];exact h.ok e h1
 ·rw[h2];exact⟨List.Pairwise.nil,nofun⟩
def Dw.anti{a:ag}(h1:Dw a b)(h2:Dw b a):a=b:=(Sx.xx h1 h2).symm
def Sw{D:Ps}(h:Gd D)(h':Gd E)(hv:∀o,vS D o=vS E o):toS D=toS E:=by
 have d:∀(D:Ps),Gd D->∀o,o∈(ku<|D.map Prod.fst).filter (λo=>!(vS D o).isEmpty) ↔ (vS D o)≠[]:=λD h o=>by
  rw[cE,(ki _).mem_iff];constructor
  ·rintro⟨_,h2⟩ z;rw[z]at h2;cases h2
  ·intro z;refine⟨?_,by cases e:vS D o with|nil=>exact absurd e z|cons=>rfl⟩
   rcases wL (D:=D) (o:=o)with⟨e,h1,h2,_⟩|⟨_,h2⟩
   ·exact bf.mpr ⟨e,h1,h2⟩
   ·exact absurd h2 z
 have f:∀(D:Ps),((ku<|D.map Prod.fst).filter λo=>!(vS D o).isEmpty).Pairwise Dw:=λD=>(uM _).filter _;have nd:∀(D:Ps),Gd D->((ku<|D.map Prod.fst).filter λo=>!(vS D o).isEmpty).Nodup:=λD h=>((ki _).nodup_iff.mpr h.nd).filter _;have e:(ku<|D.map Prod.fst).filter (λo=>!(vS D o).isEmpty)=(ku<|E.map Prod.fst).filter (λo=>!(vS E o).isEmpty):=by
  refine dU (λa b _ _ h1 h2=>Dw.anti h1 h2) (f D) (f E)<|(jb (nd D h)<|nd E h').mpr λo=>?_;rw[d D h,d E h',hv]
 unfold toS;rw[e];apply bW;intro o _;rw[hv]
def QC{D:Ps}(h:Gd D)(h':Gd E)(hc:∀o t,cf (vS D o) t=cf (vS E o) t):toS D=toS E:=Sw h h' λo=>uniq (h.v o) (h'.v o)<|hc o
theorem G7{f:ag->Pl}{o:ag}{t:Int}:∀{ks:List<|ag},ks.Nodup->cS (ks.map λk=>(k,f k)) o t=if o∈ks then cf (f o) t else 0
 | [],_=>by rw[aQ<|by simp];rfl
 | j::ks,h=>by
  obtain⟨h1,h2⟩:=cP.mp h;show(if j=o then cf (f j) t else 0)+cS (ks.map λk=>(k,f k)) o t=_;rw[G7 h2];by_cases c:j=o
  ·subst c;rw[aS rfl,aQ h1,aS<|aV ..,fK]
  ·rw[aQ c,cO];by_cases e:o∈ks
   ·rw[aS e,aS<|aX _ e]
   ·rw[aQ e,aQ λz=>(bE.mp z).elim (λz=>c z.symm) e]
def GY{D:Ps}(h:Gd D)(o:ag)(t:Int):cS (toS D) o t=cf (vS D o) t:=by
 unfold toS;rw[G7<|((ki _).nodup_iff.mpr h.nd).filter _];split
 ·rfl
 ·rename_i c
  rcases wL (D:=D) (o:=o)with⟨e,h1,h2,h3⟩|⟨_,h2⟩
  ·by_cases z:vS D o=[]
   ·rw[z];rfl
   ·refine absurd (cE.mpr ⟨(ki _).mem_iff.mpr<|bf.mpr ⟨e,h1,h2⟩,?_⟩) c
    cases e:vS D o with|nil=>exact absurd e z|cons=>rfl
  ·rw[h2];rfl
abbrev sY (o:ag)(k:Nat):Bool:=decide<|o.getD (k-1) 0>o.getD k 0
abbrev ZT (k:Nat)(l:Ps):Ps:=l.flatMap λe=>(Wd.ex e.1 k,e.2)::(if sY e.1 k=true then[(e.1,times AF e.2)]else[])
abbrev bx (k:Nat)(l:Ps):Ps:=toS<|adds []<|ZT k l
abbrev Go (N k:Nat)(o:ag):Prop:=o.length=N/\o.getD (k-1) 0≠o.getD k 0
def O2{N k:Nat}{o:ag}(h:o.length=N)(h1:1<=k)(h2:k<N):Wd.ex (Wd.ex o k) k=o:=Fw.Rp h1 ()
def Tr{l:Ps}{t:Int}(h:∀e∈l,e.1≠o):cS l o t=0:=by
 induction l with
 | nil=>rfl
 | cons e l d=>
  show(if e.1=o then _ else 0)+cS l o t=0;rw[aQ<|h e<|aV ..,d λf hf=>h f<|aX _ hf];rfl
theorem Vd{N k:Nat}(h1:1<=k)(h2:k<N):∀{l:Ps},(∀e∈l,Go N k e.1)->∀{o:ag}(t:Int),Go N k o->cS (ZT k l) o t=cS l (Wd.ex o k) t+(if sY o k=true then cS l o (t+1)-cS l o (t-1)else 0)
 | [],_,o,t,_=>by show(0:Int)=0+if _ then(0:Int)-0 else 0;split<;>rfl
 | e::l,h,o,t,ho=>by
  have g:=h e<|aV ..;have j:=Vd h1 h2 (l:=l) (λf hf=>h f<|aX _ hf) t ho;have d:(Wd.ex e.1 k=o) ↔ (e.1=Wd.ex o k):=⟨λz=>by rw[<- z,O2 g.1 h1 h2],λz=>by rw[z,O2 ho.1 h1 h2]⟩;show cS (((Wd.ex e.1 k,e.2)::(if sY e.1 k=true then[(e.1,times AF e.2)]else[]))++ZT k l) o t=_;rw[NB,j];show(if Wd.ex e.1 k=o then cf e.2 t else 0)+cS (if sY e.1 k=true then[(e.1,times AF e.2)]else[]) o t+_=((if e.1=Wd.ex o k then cf e.2 t else 0)+cS l (Wd.ex o k) t)+(if sY o k=true then((if e.1=o then cf e.2 (t+1)else 0)+cS l o (t+1))-((if e.1=o then cf e.2 (t-1)else 0)+cS l o (t-1))else 0);have h3:cS (if sY e.1 k=true then[(e.1,times AF e.2)]else[]) o t=if sY o k=true then((if e.1=o then cf e.2 (t+1)else 0)-(if e.1=o then cf e.2 (t-1)else 0))else 0:=by
   by_cases c:e.1=o
   ·rw[c,aS rfl,aS rfl]
    cases sY o k with
    | false=>rfl
    | true=>
     rw[aS rfl,aS rfl];show(if o=o then cf (times AF e.2) t else 0)+0=_;rw[aS rfl,aaa,fK]
   ·rw[aQ c,aQ c];have:cS (if sY e.1 k=true then[(e.1,times AF e.2)]else[]) o t=0:=Tr λf hf=>by
     split at hf
     ·rw[aR.mp hf];exact c
     ·cases hf
    rw[this];split<;>rfl
  rw[h3];by_cases c:Wd.ex e.1 k=o
  ·rw[aS c,aS<|d.mp c];split<;>lia
  ·rw[aQ c,aQ λz=>c<|d.mpr z];split<;>lia
def qB{P:ag->Prop}(l:Ps):∀{D:Ps},(∀e∈D,P e.1)->(∀e∈l,P e.1)->∀e∈adds D l,P e.1:=by
 induction l with
 | nil=>intro D h _;exact h
 | cons f l j=>
  intro D h h';refine j (λe d=>?_) λe d=>h' e<|aX _ d;have d:e∈Au D f.1 (qG (vS D f.1) f.2):=d;unfold Au at d;split at d
  ·obtain⟨g,hg,rfl⟩:=bf.mp d;split
   ·exact h g hg
   ·exact h g hg
  ·rcases bJ.mp d with z|z
   ·exact h e z
   ·rw[aR.mp z];exact h' f<|aV ..
def sP{P:ag->Prop}{D:Ps}(h:∀e∈D,P e.1):∀e∈toS D,P e.1:=λe d=>by
 obtain⟨o,g,rfl⟩:=bf.mp d;obtain⟨f,hf,e⟩:=bf.mp ((ki _).mem_iff.mp (cE.mp g).1)
 skip
 rw[<- e];exact h f hf
abbrev gX (k:Nat)(e:En)(Q:Ps):Ps:=if sY e.1 k=true then zK (zK Q (Wd.ex e.1 k) e.2.2) e.1 (times AF e.2.2)else zK Q (Wd.ex e.1 k) e.2.2
theorem HC(k:Nat):∀(es:Es) (P:Ps),es.foldl (λQ e=>gX k e Q) P=adds P (ZT k<|sm es)
 | [],P=>rfl
 | e::es,P=>by
  show es.foldl (λQ e=>gX k e Q) (gX k e P)=adds P (((Wd.ex e.1 k,e.2.2)::(if sY e.1 k=true then[(e.1,times AF e.2.2)]else[]))++ZT k (sm es));rw[HC k es,O7];congr 1;unfold gX
  cases sY e.1 k<;>rfl
def aal{p:Pl}(h:Ok p)(hb:Bd C p)(t:Int):(cf p t).natAbs<=C:=by
 rw[<- MI h.nd];exact hb.val t
def Ok.zu{l:Pl}(h:Ok l){p:Int×Int}(hp:p∈l):cf l p.1=p.2:=by
 induction l with
 | nil=>cases hp
 | cons q l d=>
  rcases bE.mp hp with z|z
  ·rw[z];exact h.head
  ·show(if q.1=p.1 then q.2 else 0)+cf l p.1=p.2;have:=(bV.mp h.up).1 p z;rw[aQ (),d h.tail z,cO]
end Su
namespace He
open PySem L2 Am
open Fw (Two rg Rr)
open Bl (CN)
open Su (sY)
meta abbrev Fn:=ag->Int->Int
abbrev dl (g:Int->Int)(t:Int):Int:=g (t+1)-g (t-1)
abbrev X (k:Nat)(f:Fn):Fn:=λo t=>f (Wd.ex o k) t+if sY o k=true then dl (f o) t else 0
def Lj{n:Nat}{v:ag}(h:Two n o u)(h':Two n o v):u=v:=by
 have g:=h.lu;have k:=h'.lu;have j:=h.lo;apply d7;intro q;by_cases hq:q<n
 ·obtain⟨p,hp,ep⟩:∃p,∃hp:p<o.length,o[p]=(q:Int)+1:=by
   have:(q:Int)+1∈o:=h.po.mem_iff.mpr<|sU.mpr ⟨(),()⟩;obtain⟨p,hp,ep⟩:=List.getElem_of_mem this;exact⟨p,hp,ep⟩
  have d:=h.ou.2 p hp;have f:=h'.ou.2 p hp;rw[ep,show((q:Int)+1-1).toNat=q by lia]at d f;rw[d,f]
 ·rw[dm (),dm ()]
abbrev bk (o:ag):ag:=(List.range o.length).map λi:Nat=>((o.idxOf ((i:Int)+1):Nat):Int)+1
def NF{n:Nat}{o:ag}(h:o.Perm<|rg n):Two n o (bk o):=by
 have lo:o.length=n:=by rw[h.length_eq,Wd.mJ]
 have nd:o.Nodup:=h.nodup_iff.mpr<|qK _ _;have f:∀i,i<n->(i:Int)+1∈o:=λi d=>h.mem_iff.mpr<|sU.mpr ⟨(),()⟩;have ix:∀i,i<n->o.idxOf ((i:Int)+1)<n:=λi d=>by rw[<- lo];exact fu.mpr (f i d)
 have get:∀i (d:i<n),o[o.idxOf<|(i:Int)+1]'(by rw[lo];exact ix i d)=(i:Int)+1:=λi d=>je _;refine⟨h,?_,?_,λp hp=>?_⟩
 ·have p:=Am.t_ (N:=n) (g:=λi=>o.idxOf<|(i:Int)+1) ix λi j t k z=>by
   have a:=get i ();have b:=get j k;dsimp[z]at a;rw[b]at a
   lia
  have p2:=p.map λi:Nat=>(i:Int)+1;rw[bh]at p2;unfold bk;rw[lo];refine List.Perm.trans p2 ?_;have:(List.range n).map (λi:Nat=>(i:Int)+1)=rg n:=by
   apply d7;intro q;rw[aP];by_cases c:q<n
   ·rw[dI c,Wd.TL c];rfl
   ·rw[dm<|by rw[bQ];lia,dm<|by rw[Wd.mJ];lia];rfl
  rw[this]
 ·unfold bk;rw[aH,bQ]
 ·have m:=sU.mp<|h.mem_iff.mp<|dD hp;have hq:(o[p]-1).toNat<o.length:=()
  unfold bk;rw[aP,dI hq];show some (((o.idxOf (((o[p]-1).toNat:Int)+1):Nat):Int)+1)=_;rw[show((o[p]-1).toNat:Int)+1=o[p]by lia,nd.idxOf_getElem]
def nb{n k:Nat}{o:ag}(h:o.Perm<|rg n)(h0:1<=k)(h1:k<n):o.getD (k-1) 0≠o.getD k 0:=λz=>by
 have lo:o.length=n:=by rw[h.length_eq,Wd.mJ]
 have nd:o.Nodup:=h.nodup_iff.mpr<|qK _ _;rw[Wd.vg (),Wd.vg ()]at z;have:=(b7 nd).mp z
 lia
abbrev L (j:Nat)(f:Fn):Fn:=λo t=>f (o.map<|Wd.sw j) t+if sY (bk o) j=true then dl (f o) t else 0
abbrev EqP (n:Nat)(f g:Fn):Prop:=∀o:ag,o.Perm (rg n)->∀t,f o t=g o t
def EC{n k:Nat}{o:ag}(h:o.Perm<|rg n)(h0:1<=k)(h1:k<n):(Wd.ex o k).Perm (rg n):=(Wd.Tv h0<|by rw[h.length_eq,Wd.mJ];exact h1).trans h
abbrev Xw (w:am)(f:Fn):Fn:=w.foldl (λf k=>X k f) f
abbrev D (u:ag)(g:Int->Int):Fn:=λo t=>if o=u then g t else 0
abbrev add (f g:Fn):Fn:=λo t=>f o t+g o t
def abS{n k:Nat}{l:Su.Ps}(h:∀x∈l,x.1.Perm<|rg n)(h0:1<=k)(h1:k<n):EqP n (Su.cS<|Su.bx k l) (X k<|Su.cS l):=λo p t=>by
 have d:∀{x:ag},x.Perm (rg n)->Su.Go n k x:=λ{x} hx=>⟨by rw[hx.length_eq,Wd.mJ],nb hx h0 h1⟩;unfold Su.bx;rw[Su.GY<|Su.Gd.nil.adds _,Su.N7];show 0+_=_;rw[cO,Su.Vd h0 h1 (λe f=>d<|h e f) t<|d p];rfl
end He
namespace He
open PySem L2 Am Po
open Fw (Two rg Rr)
open Su (sY Ps cS)
abbrev cv:Pl->(Int->Int)->Int->Int
 | [],_,_=>0
 | q::p,g,t=>q.2 * g (t-q.1)+cv p g t
def Xy(p:Pl)(g h:Int->Int)(t:Int):cv p (λt=>g t+h t) t=cv p g t+cv p h t:=by
 induction p with
 | nil=>rfl
 | cons q p d=>
  show q.2 * (g (t-q.1)+h (t-q.1))+cv p _ t=(q.2 * g (t-q.1)+cv p g t)+(q.2 * h (t-q.1)+cv p h t);rw[d,Int.mul_add];lia
def IT(p:Pl)(t:Int):cv p (λ_=>0) t=0:=by
 induction p with
 | nil=>rfl
 | cons q p d=>
  show q.2 * 0+cv p _ t=0;rw[d,jw];rfl
def ZK(p q:Pl)(t:Int):cf (times p q) t=cv p (cf q) t:=by
 rw[Su.FI]
 induction p with
 | nil=>rfl
 | cons a p d=>
  show cf ((q.map λb=>(a.1+b.1,a.2 * b.2))++HM p q) t=_;rw[Su.qY,Su.IG,d];rfl
abbrev Lc (p:Pl)(f:Fn):Fn:=λo t=>cv p (f o) t
abbrev RG (G:ag->Fn):Ps->Fn
 | []=>λ_ _=>0
 | e::m=>add (Lc e.2<|G e.1)<|RG G m
def aaV{n k:Nat}{m:Ps}(h0:1<=k)(h1:k<n)(hm:∀x∈m,x.1.Perm<|rg n):∀x∈Su.bx k m,x.1.Perm (rg n):=Su.sP (P:=λo=>o.Perm<|rg n) (Su.qB (P:=λo=>o.Perm<|rg n) _ (nofun) λx d=>by
 obtain⟨f,hf,d⟩:=iE.mp d
 rcases bE.mp d with z|z
 ·rw[z];exact EC (hm f hf) h0 h1
 ·split at z
  ·rw[aR.mp z];exact hm f hf
  ·cases z)
abbrev scl (p:Pl)(l:Ps):Ps:=l.map λx=>(x.1,times p x.2)
def Yy(p:Pl)(l:Ps):cS (scl p l)=Lc p (cS l):=by
 funext o t
 induction l with
 | nil=>exact(IT p t).symm
 | cons e l d=>
  show(if e.1=o then cf (times p e.2) t else 0)+cS (scl p l) o t=cv p (λt=>(if e.1=o then cf e.2 t else 0)+cS l o t) t;rw[Xy,d];congr 1;by_cases c:e.1=o
  ·rw[aS c,ZK,show(λt=>if e.1=o then cf e.2 t else 0)=cf e.2 from funext λt=>aS c]
  ·rw[aQ c,show(λt=>if e.1=o then cf e.2 t else(0:Int))=λ_=>0 from funext λt=>aQ c,IT]
abbrev B (f:Fn):Fn:=λo=>f<|bk o
end He
namespace He
open PySem L2 Am Po
open Fw (Two rg Rr)
open Su (sY Ps cS Gd vS toS adds bx)
def Pg{D:Ps}(h:Gd D){e:ag×Pl}(he:e∈D):vS D e.1=e.2:=by
 rcases Su.wL (D:=D) (o:=e.1)with⟨d,h1,h2,h3⟩|⟨h1,_⟩
 ·rw[h3,Dq h.nd d h1 e he h2]
 ·exact absurd (cX he) h1
def Ek{D:Ps}(h:Gd D):(D.map Prod.fst).map (λk=>(k,vS D k))=D:=by
 rw[bh]
 conv=>rhs;rw[<- jk D]
 exact bW λe d=>by
  show(e.1,vS D e.1)=e;rw[Pg h d]
def Ib{D:Ps}(h:Gd D)(o:ag)(t:Int):cS D o t=cf (vS D o) t:=by
 conv=>lhs;rw[<- Ek h]
 rw[Su.G7 h.nd];split
 ·rfl
 ·rename_i c
  rcases Su.wL (D:=D) (o:=o)with⟨e,h1,h2,_⟩|⟨_,h2⟩
  ·exact absurd (h2 ▸ cX h1) c
  ·rw[h2];rfl
def Ge{D:Ps}(h:Gd D):Gd (toS D):=by
 refine⟨?_,λe d=>?_⟩
 ·unfold toS;rw[bh,show(Prod.fst ∘ λo=>(o,vS D o))=id from rfl,jk];exact((ki _).nodup_iff.mpr h.nd).filter _
 ·obtain⟨o,_,rfl⟩:=bf.mp d;exact h.v o
structure Cn (l:Ps):Prop where
 gd:Gd l
 eq:toS l=l
theorem Cn.toS{D:Ps}(h:Gd D):Cn (toS D):=⟨Ge h,Su.QC (Ge h) h λo t=>by rw[<- Ib (Ge h),Su.GY h]⟩
def Ni{P:Ps}(h:Gd P)(hn:∀e∈P,e.2≠[]):zp P=toS P:=by
 symm
 have all:(ku<|P.map Prod.fst).filter (λo=>!(vS P o).isEmpty)=ku (P.map Prod.fst):=by
  rw[gc];intro o f;obtain⟨e,d,rfl⟩:=bf.mp<|(ki _).mem_iff.mp f;rw[Pg h d]
  cases g:e.2 with
  | nil=>exact absurd g (hn e d)
  | cons=>rfl
 have ts:toS P=(ku<|P.map Prod.fst).map λo=>(o,vS P o):=by unfold toS;rw[all]
 refine Gi h.nd ?_ ?_
 ·rw[ts];have:=(ki<|P.map Prod.fst).map λo=>(o,vS P o)
  rwa [Ek h]at this
 ·rw[ts,bh,show(Prod.fst ∘ λo=>(o,vS P o))=id from rfl,jk];exact uM _
abbrev ff (o:ag):bj:=((List.range<|o.length-1).find? λi=>sY o<|i+1).map (·+1)
def UA{o:ag}{k:Nat}(h:ff o=some k):1<=k/\k<o.length/\sY o k=true:=by
 obtain⟨i,d,rfl⟩:=aW.mp h;have h1:=cg.mp<|c_ d;have h2:sY o (i+1)=true:=fN (p:=λi=>sY o<|i+1) d;exact⟨(),(),h2⟩
def Z6(k:Nat)(l:Ps):Cn (bx k l):=.toS<|Gd.nil.adds _
def HA(l:Ps)(o:ag)(t:Int):cS (toS<|adds [] l) o t=cS l o t:=by
 rw[Su.GY<|Gd.nil.adds _,Su.N7];exact cO _
abbrev zF (l m:Ps):Ps:=toS<|adds []<|l++m
def RJ{n:Nat}{l m:Ps}(pl:∀x∈l,x.1.Perm<|rg n)(pm:∀x∈m,x.1.Perm<|rg n):Cn (zF l m)/\(∀x∈zF l m,x.1.Perm<|rg n)/\cS (zF l m)=add (cS l) (cS m):=
 ⟨.toS<|Gd.nil.adds _,Su.sP (P:=λo=>o.Perm<|rg n)<|Su.qB (P:=λo=>o.Perm<|rg n) _ (nofun) λx d=>(bJ.mp d).elim (pl x)<|pm x,funext λo=>funext λt=>by
  show cS (toS<|adds []<|l++m) o t=_;rw[HA,Su.NB];rfl⟩
abbrev one (n:Nat):Ps:=[(rg n,[((0:Int),(1:Int))])]
def WK(o:ag){p:Pl}(hp:Ok p)(h0:p≠[]):Cn [(o,p)]:=by
 have g:Gd [(o,p)]:=⟨cP.mpr ⟨(λz=>nomatch z),cQ⟩,λe d=>by rw[aR.mp d];exact hp⟩;exact⟨g,(Ni g λe d=>by rw[aR.mp d];exact h0).symm⟩
def Xr:Ok [((0:Int),(1:Int))]:=⟨cH _ _,λp hp=>by rw[aR.mp hp];decide⟩
end He
namespace He
open PySem L2 Am Po
open Fw (Two rg Rr)
open Su (sY Ps cS Gd vS toS adds bx)
abbrev arr:Nat->ag->List (ag)
 | 0,_=>[[]]
 | m+1,l=>l.flatMap λx=>(arr m<|l.erase x).map (x::·)
theorem Dy:∀{m:Nat}{l o:ag},o.Perm l->l.length=m->o∈arr m l
 | 0,l,o,p,h=>by
  have:l=[]:=gI.mp h;subst this;rw[p.eq_nil];exact aR.mpr rfl
 | m+1,l,[],p,h=>by rw[<- p.length_eq]at h;cases h
 | m+1,l,x::o,p,h=>by
  obtain⟨h1,h2⟩:=List.cons_perm_iff_perm_erase.mp p;refine iE.mpr ⟨x,h1,bf.mpr ⟨o,Dy h2 ?_,rfl⟩⟩;rw[List.length_erase_of_mem h1,h];rfl
def BL{α:Type}[DecidableEq α]{ks L:List α}(nd:ks.Nodup)(h:∀x∈ks,x∈L):ks.length<=L.length:=by
 have:=pig L.length (ks.map λx=>L.idxOf x) ?_ λi f=>?_
 ·rwa [aH]at this
 ·refine cB.mpr<|nd.imp_of_mem λ{a b} ha hb hab z=>hab ?_;have e1:=je<|fu.mpr<|h a ha;have e2:=je<|fu.mpr<|h b hb;rw[<- e1,<- e2];congr 1
 ·obtain⟨x,d,rfl⟩:=bf.mp f;exact fu.mpr<|h x d
def Tq:∀n,n<6->(arr n<|rg n).length<=120:=by decide +kernel
def many{n:Nat}(hn:n<6){ks:List<|ag}(nd:ks.Nodup)(h:∀o∈ks,o.Perm<|rg n):ks.length<=120:=
 bM (BL nd λo d=>Dy (h o d)<|Wd.mJ n) (Tq n hn)
structure FB (n P C:Nat)(f:Fn):Prop where
 c:∀o,o.Perm (rg n)->∀t,(f o t).natAbs<=C
 p:∀o,o.Perm (rg n)->∀t:Int,P<t.natAbs->f o t=0
def FB.mono{n P:Nat}{f:Fn}(h:FB n P C f)(hp:P<=P')(hc:C<=C'):FB n P' C' f:=⟨λo d t=>bM (h.c o d t) hc,λo d t g=>h.p o d t ()⟩
def FB.eq{n P:Nat}{f g:Fn}(h:FB n P C f)(e:EqP n g f):FB n P C g:=⟨λo d t=>by rw[e o d t];exact h.c o d t,λo d t j=>by rw[e o d t];exact h.p o d t j⟩
theorem FB.X{n P k:Nat}{f:Fn}(h:FB n P C f)(h0:1<=k)(h1:k<n):FB n (P+1) (3 * C) (X k f):=by
 refine⟨λo g t=>?_,λo g t j=>?_⟩
 ·have a:=h.c _ (EC g h0 h1) t;have b:=h.c o g<|t+1;have d:=h.c o g<|t-1;unfold He.X dl;split<;>omega
 ·have a:=h.p _ (EC g h0 h1) t (by omega);have b:=h.p o g (t+1) (by omega);have d:=h.p o g (t-1) (by omega);unfold He.X dl;split<;>omega
theorem FB.add{n P:Nat}{f g:Fn}(h:FB n P C f)(h':FB n P C' g):FB n P (C+C') (add f g):=by
 refine⟨λo d t=>?_,λo d t j=>?_⟩
 ·have a:=h.c o d t;have b:=h'.c o d t;show(f o t+g o t).natAbs<=_;omega
 ·show f o t+g o t=0;rw[h.p o d t j,h'.p o d t j];rfl
structure PB (Q c:Nat)(p:Pl):Prop where
 c:∀q∈p,q.2.natAbs<=c
 p:∀q∈p,q.1.natAbs<=Q
theorem X6{n P c:Nat}{f:Fn}(h:FB n P C f){o:ag}(po:o.Perm<|rg n):∀{p:Pl},PB Q c p->(∀t,(cv p (f o) t).natAbs<=p.length * (c * C))/\∀t:Int,P+Q<t.natAbs->cv p (f o) t=0
 | [],_=>⟨λ_=>bL _,λ_ _=>rfl⟩
 | q::p,b=>by
  obtain⟨m,k⟩:=X6 h po (p:=p) ⟨λx d=>b.c x<|aX _ d,λx d=>b.p x<|aX _ d⟩;have g:=b.c q<|aV ..;have z:=b.p q<|aV ..;refine⟨λt=>?_,λt j=>?_⟩
  ·show(q.2 * f o (t-q.1)+cv p (f o) t).natAbs<=(p.length+1) * (c * C);refine bM (Int.natAbs_add_le _ _) ?_;rw[Int.natAbs_mul,iS,Nat.add_comm];exact Nat.add_le_add (m t) (jB g<|h.c o po _)
  ·show q.2 * f o (t-q.1)+cv p (f o) t=0;rw[k t j,h.p o po _<|by omega,jw];rfl
theorem FB.Lc{n P c:Nat}{f:Fn}(h:FB n P C f){p:Pl}(b:PB Q c p):FB n (P+Q) (p.length * (c * C)) (Lc p f):=⟨λo d t=>(X6 h d b).1 t,λo d t g=>(X6 h d b).2 t g⟩
theorem Gu:∀{l:Pl}{a b:Int},l.Pairwise (λp q=>p.1<q.1)->(∀p∈l,a<=p.1/\p.1<=b)->l.length<=(b-a+1).toNat
 | [],_,_,_,_=>bL _
 | p::l,a,b,h,hb=>by
  obtain⟨h1,h2⟩:=bV.mp h;have p1:=hb p<|aV ..;have i:=Gu (l:=l) (a:=a+1) (b:=b) h2 λq hq=>by
   have:=h1 q hq;have:=hb q (aX _ hq)
   lia
  rw[bB]
  lia
def YK{p:Pl}{P c:Nat}(h:Ok p)(b:PB P c p):p.length<=2 * P+1:=by
 have:=Gu (a:=-(P:Int)) (b:=P) h.up λq hq=>by have:=b.p q hq;omega
 omega
def FB.pb{n P:Nat}{l:Ps}(h:FB n P C<|cS l)(hc:Gd l)(pl:∀x∈l,x.1.Perm<|rg n){e:ag×Pl}(he:e∈l):PB P C e.2/\e.2.length<=2 * P+1:=by
 have ok:=hc.ok e he;have d:∀q∈e.2,cS l e.1 q.1=q.2:=λq hq=>by
  rw[Ib hc,Pg hc he];exact Su.Ok.zu ok hq
 have b:PB P C e.2:=⟨λq hq=>by rw[<- d q hq];exact h.c _ (pl e he) _,λq hq=>by
  refine Nat.le_of_not_lt λz=>ok.nz q hq ?_;rw[<- d q hq];exact h.p _ (pl e he) _ z⟩
 exact⟨b,YK ok b⟩
structure Sz (n P C:Nat)(l:Ps):Prop where
 cn:Cn l
 pm:∀x∈l,x.1.Perm (rg n)
 fb:FB n P C<|cS l
def Sz.pb{n P:Nat}{l:Ps}(h:Sz n P C l){e:ag×Pl}(he:e∈l):PB P C e.2/\e.2.length<=2 * P+1:=h.fb.pb h.cn.gd h.pm he
def Sz.many{n P:Nat}{l:Ps}(hn:n<6)(h:Sz n P C l):l.length<=120:=by
 have:=He.many hn h.cn.gd.nd λo f=>by obtain⟨e,d,rfl⟩:=bf.mp f;exact h.pm e d
 rwa [aH]at this
def Sz.mono{n P:Nat}{l:Ps}(h:Sz n P C l)(hp:P<=P')(hc:C<=C'):Sz n P' C' l:=⟨h.cn,h.pm,h.fb.mono hp hc⟩
theorem Sz.bx{n P k:Nat}{l:Ps}(h:Sz n P C l)(h0:1<=k)(h1:k<n):Sz n (P+1) (3 * C) (bx k l):=⟨Z6 _ _,aaV h0 h1 h.pm,(h.fb.X h0 h1).eq<|abS h.pm h0 h1⟩
def Sz.sum{n P c:Nat}{l:Ps}(h:Sz n P C l)(h':Sz n P c m):Sz n P (C+c) (zF l m):=by
 obtain⟨a,b,d⟩:=RJ h.pm h'.pm;exact⟨a,b,by rw[d];exact h.fb.add h'.fb⟩
end He
namespace Su
open Am Po PySem L2
def L4{D:Es}{r:Nat}{p:Pl}:∃e,fE (q_ D o r p) o=some e/\e.2.1=r:=by
 unfold q_;by_cases c:(fE D o).isSome=true
 ·rw[aS c];obtain⟨e,d⟩:=dR.mp c;unfold fE at d ⊢;rw[ie];have eq:((λe:En=>decide<|e.1=o) ∘ λe:En=>if e.1=o then(e.1,r,p)else e)=λe:En=>decide (e.1=o):=by
   funext x
   show decide ((if x.1=o then(x.1,r,p)else x).1=o)=_;by_cases z:x.1=o
   ·rw[aS z]
   ·rw[aQ z]
  rw[eq,d];have:=fN d;have:=bU this;exact⟨_,rfl,by show(if e.1=o then(e.1,r,p)else e).2.1=r;rw[aS this]⟩
 ·rw[aQ c];have c:fE D o=none:=Option.not_isSome_iff_eq_none.mp c;unfold fE at c ⊢;rw[List.find?_append,c];exact⟨(o,r,p),by rw[b9,bg rfl];rfl,rfl⟩
end Su
namespace He
open PySem L2 Am Po
open Fw (Two rg Rr)
open Su (sY Ps cS Gd vS toS adds bx)
def Sz.of{n P:Nat}{l:Ps}(h:Cn l)(pm:∀x∈l,x.1.Perm<|rg n)(pb:∀e∈l,PB P C e.2):Sz n P C l:=by
 refine⟨h,pm,⟨λo f t=>?_,λo f t j=>?_⟩⟩
 ·rw[Ib h.gd]
  rcases Su.wL (D:=l) (o:=o)with⟨e,h1,_,h3⟩|⟨_,h2⟩
  ·rw[h3];exact Su.aal (h.gd.ok e h1) (λq hq=>(pb e h1).c q hq) t
  ·rw[h2];exact bL _
 ·rw[Ib h.gd]
  rcases Su.wL (D:=l) (o:=o)with⟨e,h1,_,h3⟩|⟨_,h2⟩
  ·rw[h3];have:∀q∈e.2,q.1≠t:=λq hq z=>by have:=(pb e h1).p q hq;rw[z]at this;lia
   clear h3;revert this;generalize e.2=p0;intro this
   induction p0 with
   | nil=>rfl
   | cons q p g=>
    have z:=this q<|aV ..;have i:=g λx d=>this x<|aX _ d;show(if q.1=t then q.2 else 0)+cf p t=0;rw[aQ z,i];rfl
  ·rw[h2];rfl
def Si{o:ag}:((l8 1 (o.length:Int)).filter λk=>decide<|o.getD (k-1).toNat 0>o.getD k.toNat 0).head?=(ff o).map λk:Nat=>(k:Int):=by
 rw[List.head?_filter];unfold l8 ff;rw[ie,show((o.length:Int)-1).toNat=o.length-1 by lia,eO];have:((λk:Int=>decide<|o.getD (k-1).toNat 0>o.getD k.toNat 0) ∘ λk:Nat=>(1:Int)+(k:Int))=λi:Nat=>sY o (i+1):=by
  funext i
  show decide (o.getD ((1:Int)+(i:Int)-1).toNat 0>o.getD ((1:Int)+(i:Int)).toNat 0)=decide _;rw[show((1:Int)+(i:Int)-1).toNat=i+1-1 by lia,show((1:Int)+(i:Int)).toNat=i+1 by lia]
 rw[this];congr 1
 funext i
 show(1:Int)+(i:Int)=((i+1:Nat):Int)
 lia
end He
namespace He
open PySem L2 Am Po
open Fw (Two rg Rr)
open Su (sY Ps cS Gd vS toS adds bx)
abbrev Y (k:Nat)(f:Fn):Fn:=λo t=>X k f o t-dl (f o) t
abbrev FW (p:Pl)(l:Ps):Ps:=toS<|adds []<|scl p l
def Xx(p:Pl)(l:Ps):cS (FW p l)=Lc p (cS l):=by
 funext o t
 unfold FW;rw[HA,Yy]
def Y5{n:Nat}{p:Pl}{l:Ps}(pl:∀x∈l,x.1.Perm<|rg n):Cn (FW p l)/\∀x∈FW p l,x.1.Perm (rg n):=
 ⟨.toS<|Gd.nil.adds _,Su.sP (P:=λo=>o.Perm<|rg n) (Su.qB (P:=λo=>o.Perm<|rg n) _ (nofun) λx d=>by
  obtain⟨y,hy,rfl⟩:=bf.mp d;exact pl y hy)⟩
structure Fwd (n:Nat)(W:ag->am):Prop where
 r:∀o,o.Perm (rg n)->Wd.N4 (rg n) (W o)
 e:∀o,o.Perm (rg n)->Wd.led (rg n) (W o)=o
end He
namespace He
open PySem L2 Am Po
open Fw (Two rg Rr Dn)
open Su (sY Ps cS Gd vS toS adds bx)
theorem Sz.FW{n P c:Nat}{l:Ps}(h:Sz n P C l){p:Pl}(b:PB Q c p):Sz n (P+Q) (p.length * (c * C)) (FW p l):=by
 obtain⟨d,f⟩:=Y5 (p:=p) h.pm;exact⟨d,f,by rw[Xx];exact h.fb.Lc b⟩
end He
namespace Am
open PySem L2 Bl
def aae{S:jH}{n:Nat}{x:A}{k:Nat}(h:jF S n=some [x])(hk:k<=16777216):ym (.ref n) (.int k) S=.ok (.ref S.length) (S++[.lst<|List.replicate k x]):=by
 show opt (jF S n) _=_;rw[h,jS];have e:(List.replicate k [x]).flatten=List.replicate k x:=by
  induction k with
  | zero=>rfl
  | succ k d=>rw[dg,dh,d ()];rfl
 rw[oY ⟨(),(),by rw[eB,di];simpa using hk⟩,di,e]
def M6{xs:ag}{n:Int}(h:xs.Perm<|l8 1<|n+1)(hn:0<=n):(xs.length:Int)=n:=by
 rw[h.length_eq,sV];lia
def Ep{xs:ag}{n x:Int}(h:xs.Perm<|l8 1<|n+1)(hx:x∈xs):1<=x/\x<=n:=by
 have:=sU.mp (h.mem_iff.mp hx)
 lia
end Am
namespace Su
open PySem L2 Am Po
abbrev RB (Q:Nat)(p:Pl):Prop:=∀q∈p,q.1.natAbs<=Q
theorem yp:∀(ps d:Pl) {k:Int},k∈(qR d ps).map Prod.fst->k∈d.map Prod.fst\/k∈ps.map Prod.fst
 | [],_,_,h=>.inl h
 | p::ps,d,k,h=>by
  rcases yp ps (acc d p.1 p.2) (k:=k) h with z|z
  ·have e:(acc d p.1 p.2).map Prod.fst=_:=FN;rw[e]at z;split at z
   ·exact .inl z
   ·rcases bJ.mp z with y|y
    ·exact .inl y
    ·exact .inr<|by rw[aR.mp y];exact aV ..
  ·exact .inr<|aX _ z
def Hz{d:Pl}{q:Int×Int}(h:q∈Lu d):q.1∈d.map Prod.fst:=by
 obtain⟨k,f,rfl⟩:=bf.mp h;exact(sortI_perm _).mem_iff.mp (cE.mp f).1
def RB.plus{a:Pl}(ha:RB Q a)(hb:RB Q b):RB Q (qG a b):=λq hq=>by
 rcases yp _ _ (Hz hq)with z|z
 ·cases z
 ·obtain⟨x,d,e⟩:=bf.mp z;rw[<- e];exact(bJ.mp d).elim (ha x) (hb x)
theorem RB.times{R:Nat}{a:Pl}(ha:RB Q a)(hb:RB R b):RB (Q+R) (times a b):=λq hq=>by
 rcases yp _ _ (Hz hq)with z|z
 ·cases z
 ·obtain⟨x,d,e⟩:=bf.mp z;obtain⟨y,hy,d⟩:=iE.mp d;obtain⟨w,hw,rfl⟩:=bf.mp d;rw[<- e];have:=ha y hy;have:=hb w hw;show(y.1+w.1).natAbs<=_
  lia
def RB.mono{R:Nat}{a:Pl}(h:RB Q a)(hq:Q<=R):RB R a:=λq d=>bM (h q d) hq
def RB.len{p:Pl}(ok:Ok p)(h:RB Q p):p.length<=2 * Q+1:=by
 have:=He.Gu (a:=-(Q:Int)) (b:=Q) ok.up λq hq=>by have:=h q hq;lia
 lia
def RL{S:jH}{d:Nat}{D:Pl}(hd:mw S d=some (iv D))(hl:D.length<64):∃S',kO [none,some 0] (lV<|kh (f1 xm)<|jE (jD 0)<|jP) (ko 0) (ux<|jT (yQ true) (jT z7 (jD 1)<|jD 0)<|eC<|.int 0) (sX<|jE (jD 0)<|jE (jT z7 (jD 1)<|jD 0)<|jP) [.ref d] S=.ok (.ref<|S.length+1) S'/\jF S' (S.length+1)=some (pl<|Lu D)/\k_ S S':=by
 have g:mw (S++[.lst<|(sortI<|D.map Prod.fst).map .int]) d=some (iv D):=W7 hd;have m:(S++[O.lst<|(sortI<|D.map Prod.fst).map A.int]).length=S.length+1:=by simp
 have p:xm (.ref d) S=.ok (.ref S.length) (S++[.lst<|(sortI<|D.map Prod.fst).map .int]):=by
  show opt (mw S d) _=_;rw[hd,jS,E9<|show(iv D).length<64 by unfold iv;rw[aH];exact hl,R_]
 have q:=Ll (n:=S.length) (xs:=(sortI<|D.map Prod.fst).map A.int) (cap:=[some 0]) (src:=lV<|kh (f1 xm)<|jE (jD 0)<|jP) (t:=ux<|jT (yQ true) (jT z7 (jD 1)<|jD 0)<|eC<|.int 0) (e:=sX<|jE (jD 0)<|jE (jT z7 (jD 1)<|jD 0)<|jP) (τ:=[.ref d]) (S:=S) (S1:=S++[.lst<|(sortI<|D.map Prod.fst).map .int])
  (lY (by dsimp[kj,bools,p]) jW) jW (λx=>match x with | .int k=>val D k != 0|_=>false) (λx=>match x with | .int k=>pA (k,val D k)|_=>.non) (λx j=>by
   obtain⟨k,f,rfl⟩:=bf.mp j;have f:=(sortI_perm _).mem_iff.mp f;dsimp[kj,bools,Ie,g,FF f];rfl) (λx j _=>by
   obtain⟨k,f,rfl⟩:=bf.mp j;have f:=(sortI_perm _).mem_iff.mp f;dsimp[kj,bools,Ie,g,FF f];exact rZ<|show 2<=16777216 by decide) (by rw[aH,(sortI_perm _).length_eq,aH];lia)
 refine⟨_,q.trans<|by rw[m],?_,Kp.refl.lay.lay⟩;rw[<- m,jW];congr 1;unfold pl Lu;rw[bh,gB,bh];rfl
def SV{S:jH}{d:Nat}{D:Es}(hd:jV S d=some (D.map kv))(hne:∀e∈D,e.1≠[])(hl:D.length<64):yN (.ref d) S=.ok (.ref S.length) (S++[.lst<|(ku<|D.map Prod.fst).map A3]):=by
 have ek:(D.map kv).map Prod.fst=D.map Prod.fst:=by rw[bh];rfl
 show opt (jV S d) _=_;rw[hd,jS,ek,E9<|Pj (λk f=>by obtain⟨e,g,rfl⟩:=bf.mp f;exact hne e g)<|by rw[aH];exact hl];rfl
abbrev FJ (F:ae->jH->R A):Prop:=∀{S:jH}{d r:Nat}{D:Es}{o:ag}{p:Pl}{k b:Nat},jV S d=some (D.map kv)->At S D->Vl k b D->jF S r=some (pl p)->D.length<64->k+p.length<64 ->
  ∃(L:Nat) (f:jH),F [.ref d,.tup<|o.map .int,.ref r] S=.ok .non f/\jV f d=some ((q_ D o L<|qG (vS (sm D) o) p).map kv)/\At f (q_ D o L<|qG (vS (sm D) o) p)/\S.length<=L/\Kp (·=d) S f
structure Fil3 (T:jH)(d b i j:Nat)(P:Ps)(D:Es):Prop where
 dd:jV T d=some (D.map kv)
 aa:At T D
 ss:sm D=P
 vv:Vl (2 * j+1) b D
 rb:∀e∈D,RB j e.2.2
 kk:∀e∈D,e.1≠[]
 ll:D.length<=i
 pw:Ap D
def Fil3.mono{d:Nat}{P:Ps}{D:Es}(h:Fil3 T d b i j P D)(hi:i<=i'):Fil3 T d b i' j P D:=⟨h.dd,h.aa,h.ss,h.vv,h.rb,h.kk,bM h.ll hi,h.pw⟩
def Fil3.new{d:Nat}(hd:jV S d=some []):Fil3 S d b 0 j [] []:=⟨hd,(nofun),rfl,(nofun),(nofun),(nofun),aL _,List.Pairwise.nil⟩
def Fil3.yH{d:Nat}{P:Ps}{D:Es}(h:Fil3 S d b i j P D)(k:k_ S T):Fil3 T d b i j P D:=⟨k.dct _ _ (λz=>z) h.dd,h.aa.yH k,h.ss,h.vv,h.rb,h.kk,h.ll,h.pw⟩
def Fil3.add{F:ae->jH->R A}(hF:FJ F){T:jH}{d r:Nat}{P:Ps}{D:Es}{o:ag}{p:Pl}(h:Fil3 T d b i j P D)(hr:jF T r=some (pl p))(hp:RB j p)(lp:p.length<=2 * j+1)(ho:o≠[])(hb:b<=T.length)(hl:j<=15)(hi:i<63) :
  ∃(D':Es) (T':jH),F [.ref d,.tup<|o.map .int,.ref r] T=.ok .non T'/\Fil3 T' d b (i+1) j (zK P o p) D'/\Kp (·=d) T T':=by
 have g:=h.ll;obtain⟨L,T',e,h1,h2,h3,m⟩:=hF (o:=o) h.dd h.aa h.vv hr () ();have k:RB j (vS (sm D) o):=by
  rw[Lr]
  cases e:fE D o with
  | none=>exact λq hq=>nomatch hq
  | some t=>exact h.rb t (ud e).1
 have rn:=k.plus hp;refine⟨_,T',e,⟨h1,h2,by rw[MU,h.ss];rfl,λe f=>?_,λe f=>?_,λe f=>?_,?_,h.pw.put λe f z=>by have:=lW<|h.aa e f;lia⟩,m⟩
 ·rcases s_ f with z|z
  ·exact h.vv e z
  ·rw[z];exact⟨Ah _ _,RB.len (Ah _ _) rn,by show b<=L;lia⟩
 ·rcases s_ f with z|z
  ·exact h.rb e z
  ·rw[z];exact rn
 ·rcases s_ f with z|z
  ·exact h.kk e z
  ·rw[z];exact ho
 ·have:=SQ (D:=D) (o:=o) (r:=L) (p:=qG (vS (sm D) o) p)
  lia
def Aa{d n w:Nat}{P:Ps}{es:Es}{src:Ic}{c:Am.Sm}{g:Tg}(Fm:A->A->ae)(G:En->Ps->Ps)(hg:∀(e:En) (y z:A) (T:jH),g (ent e) (Fm y z) T=.ok (Fm (.tup<|e.1.map .int)<|.ref e.2.1) T)
  {x3 x4:A} (hs:src (Fm x3 x4) S=.ok (kW n (es.map ent).length) S1) (hn:jF S1 n=some (es.map ent)) (hd:Fil3 S1 d b i0 j P D0)
  (step:∀(i:Nat) (e:En) (T:jH) (Q:Ps) (D:Es),i<es.length->e∈es->Kp (·=d) S1 T->Fil3 T d b (i0+w * i) j Q D->∃(D':Es) (T':jH),c (Fm (.tup<|e.1.map .int)<|.ref e.2.1) T=.nx (Fm (.tup<|e.1.map .int)<|.ref e.2.1) T'/\Fil3 T' d b (i0+w * (i+1)) j (G e Q) D'/\Kp (·=d) T T') :
  ∃(y3 y4:A) (D:Es) (S':jH),mj src g c (Fm x3 x4) S=.nx (Fm y3 y4) S'/\Fil3 S' d b (i0+w * es.length) j (es.foldl (λQ e=>G e Q) P) D/\Kp (·=d) S1 S':=by
 have k:(es.map ent).length=es.length:=aH ..;refine oJ (n:=n) (xs:=es.map ent) (S1:=S1) hs (λi τ T=>(∃y3 y4,τ=Fm y3 y4)/\(∃D,Fil3 T d b (i0+w * i) j ((es.take i).foldl (λQ e=>G e Q) P) D)/\Kp (·=d) S1 T)
  (λr=>∃(y3 y4:A) (D:Es) (S':jH),r=.nx (Fm y3 y4) S'/\Fil3 S' d b (i0+w * es.length) j (es.foldl (λQ e=>G e Q) P) D/\Kp (·=d) S1 S') ⟨⟨_,_,rfl⟩,⟨D0,hd⟩,Kp.refl⟩ (λi τ T h=>h.2.2.lst _ _ (cA<|mO hd.dd hn) hn) ?_ ?_
 ·rintro i z τ T p ⟨⟨y3,y4,rfl⟩,⟨D,f⟩,kp⟩;rw[aP]at p;obtain⟨e,m,rfl⟩:=aW.mp p;refine⟨Fm (.tup<|e.1.map .int)<|.ref e.2.1,T,hg _ _ _ _,.inl ?_⟩;obtain⟨D',T',e1,q,t⟩:=step i e T _ D (aJ.mp m).1 (bw m) kp f;refine⟨_,T',e1,⟨_,_,rfl⟩,⟨D',?_⟩,kp.trans t⟩;rw[bR,m,e_];exact q
 ·rintro τ T ⟨⟨y3,y4,rfl⟩,⟨D,f⟩,kp⟩;rw[k,bX]at f;exact⟨y3,y4,D,T,rfl,f,kp⟩
end Su
namespace He
open Su Po
open Fw (rg)
def aav:∀n,n<5->(arr n<|rg n).length<=24:=by decide +kernel
def Sz.m24{n P:Nat}{l:Ps}(hn:n<5)(h:Sz n P C l):l.length<=24:=by
 have:(l.map Prod.fst).length<=24:=bM (BL h.cn.gd.nd λo f=>by obtain⟨e,d,rfl⟩:=bf.mp f;exact Dy (h.pm e d)<|Wd.mJ n) (aav n hn)
 rwa [aH]at this
def Sz.rb{n P:Nat}{l:Ps}(h:Sz n P C l){e:ag×Pl}(he:e∈l):RB P e.2:=(h.pb he).1.p
end He
namespace K72
open PySem L2 Am
abbrev Bag (S:jH)(b:Nat):Prop:=∃g st:Int,jF S b=some [.int g,.int st]/\0<=g/\0<=st/\st<4294967296
def T9{ns:ag}{k:Int}(h0:0<=k):∃c,qL [.frz<|ns.map .int,.int k] S=.ok (.int c) S:=by
 unfold qL wm wF;dsimp[kj,bools,lE,Nat.reduceAdd,Nat.reduceSub,aH];by_cases d:k<(ns.length:Int)
 ·have hn:k.toNat<ns.length:=()
  have ha:uy (ns.map A.int) k=some (.int ns[k.toNat]):=JW (k:=k.toNat) ()<|aI hn;rw[bg d];dsimp[kj,bools,ha];exact⟨_,rfl⟩
 ·rw[bA d];dsimp[kj,bools];exact⟨_,rfl⟩
def S_{S:jH}{c k:Int}(h0:0<=k)(h1:k<=100):∃S',sQ [.int c,.int k] S=.ok (.ref S.length) S'/\Bag S' S.length/\k_ S S':=by
 have e3:Wu (.int 10) (.int 18)=λS=>R.ok (.int 1000000000000000000) S:=by
  funext S;exact oY ⟨by decide,by decide,by decide⟩
 have f:∀x:Int,Cc (.int x) (.int 2147483647)=λS=>R.ok (.int<|x % 2147483647) S:=λx=>by funext S;exact Ea ⋯
 have g:∀x:Int,ym (.int x) (.int 69621)=λS=>R.ok (.int<|x * 69621) S:=λx=>by funext S;exact mul_r ⋯ ⋯
 have d:∀x:Int,ym (.int 7919) (.int x)=λS=>R.ok (.int<|7919 * x) S:=λx=>by funext S;exact Mv ⋯ ⋯
 have j:∀x:Int,0<=x % 2147483647:=λx=>iN _ ⋯;have m:∀x:Int,x % 2147483647<4294967296:=λx=>by have:=gF x (show(0:Int)<2147483647 by decide);lia
 have q:0<=(if c<0 then -c else c):=by split<;>lia
 unfold sQ yl xT;dsimp[kj,bools,lE,Nat.reduceAdd,Nat.reduceSub,e3,f,g,d];by_cases p:(if c<0 then -c else c)<1000000000000000000
 ·rw[bg p];dsimp[kj,bools,e3,f,g,d];exact⟨_,rfl,⟨_,_,jW,Int.le_refl 0,j _,m _⟩,Kp.refl.lay⟩
 ·rw[bA p];dsimp[kj,bools,e3,f,g,d];exact⟨_,rfl,⟨_,_,jW,q,j _,m _⟩,Kp.refl.lay⟩
def Q6{S:jH}{g st:Int}(hl:jF S b=some [.int g,.int st])(hs:0<=st)(hs2:st<4294967296):∃d st',n8 [.ref b] S=.ok (.int d) (S.set b<|.lst [.int g,.int st'])/\0<=st'/\st'<4294967296:=by
 have hb:=lW hl;have f:ES 2 1=some 1:=zP rfl ⋯;have e1:0<=(st * 48271+11) % 2147483647:=iN _ ⋯;have e2:(st * 48271+11) % 2147483647<2147483647:=gF _ ⋯;refine⟨(st * 48271+11) % 2147483647 * 16807 % 2147483629 / 8,(st * 48271+11) % 2147483647,?_,e1,()⟩;unfold n8 uF uQ;rw[xF];simp[hl,yy,OB,f,Mv (show -18446744073709551616<st by lia) (),Ea<|show(0:Int)<2147483647 by decide,rJ hb,Px (show(0:Int)<8 by decide) ⋯,Mv (show -18446744073709551616<(st * 48271+11) % 2147483647 by lia) (),Ea<|show(0:Int)<2147483629 by decide]
def digit{m:Int}(h:Bag S b)(h1:1<=m)(h2:m<=1000):∃d S',lZ [.ref b,.int m] S=.ok (.int d) S'/\0<=d/\d<m/\Bag S' b/\Kp (·=b) S S':=by
 obtain⟨g,st,q,hg,hs,j⟩:=h;have hb:=lW q;have J:ES 2 0=some 0:=zP rfl ⋯;have k:∀d t f:Int,0<=d->d<m->0<=t->0<=f->f<4294967296->lZ [.ref b,.int m] S=.ok (.int d) (S.set b<|.lst [.int t,.int f])->∃d S',lZ [.ref b,.int m] S=.ok (.int d) S'/\0<=d/\d<m/\Bag S' b/\Kp (·=b) S S':=
  λd t f K z F G B e=>⟨d,_,e,K,z,⟨t,f,rJ hb,F,G,B⟩,Kp.refl.set<|.inl rfl⟩
 by_cases p:0<g
 ·refine k (g % m) (g / m) st (iN _ ()) (gF _ ()) (Int.ediv_nonneg hg ()) hs j ?_;unfold lZ rH rz;rw[xF];simp[q,yy,OB,p,Ea<|show 0<m by lia,Px (show 0<m by lia)<|show m<1073741824 by lia,J]
 ·obtain⟨d,f,e1,L,C⟩:=Q6 q hs j;refine k (d % m) g f (iN _ ()) (gF _ ()) hg L C ?_;unfold lZ rH rz;rw[xF];simp[q,yy,OB,p,Ea<|show 0<m by lia,e1,show ¬(1000<m)by lia]
open Po (Pl Ok Bd)
def PN{S:jH}{d:Nat}{D:Pl}(hd:mw S d=some (Po.iv D))(hl:D.length<64):∃S',k8 [.ref d] S=.ok (.ref<|S.length+1) S'/\jF S' (S.length+1)=some (Po.pl<|Po.Lu D)/\k_ S S':=by
 obtain⟨S',e,h1,h2⟩:=Su.RL hd hl;refine⟨S',?_,h1,h2⟩;unfold k8 qa qc;dsimp[kj,bools,lE,Nat.reduceAdd,Nat.reduceSub];rw[show kO [none,some 0] _ _ _ _ _ _=_ from e];rfl
def Th{S:jH}{n:Nat}{a b:Pl}(hn:jF S n=some (Po.pl a))(hm:jF S m=some (Po.pl b))(ha:Ok a)(hl:a.length+b.length<64) :
  ∃(L:Nat) (S':jH),zV [.ref n,.ref m] S=.ok (.ref L) S'/\jF S' L=some (Po.pl<|Po.qG a b)/\S.length<=L/\k_ S S':=by
 have d:mw (S++[.qi<|Po.iv a]) S.length=some (Po.iv a):=G6;obtain⟨k,j,T,e,f,kp⟩:=TR (S:=S++[.qi<|Po.iv a]) (S1:=S++[.qi<|Po.iv a]) (x0:=.ref n) (x1:=.ref m) (x3:=.unb) (x4:=.unb) (src:=xj) (l:=b) (show xj _ _=_ from lY (by dsimp[kj,bools])<|l7 hm) (l7 hm) d ();have g:=Po.uK b a;obtain⟨S',e2,h1,h2⟩:=PN f ();have k1:k_ S T:=(Kp.refl.lay (o:=.qi<|Po.iv a)).old kp λq hq _ z=>()
 refine⟨T.length+1,S',?_,by rw[h1,<- Po.SD ha];rfl,by have:=k1.len;lia,k1.trans h2⟩;unfold zV Hh Gp;dsimp[kj,bools,lE,Nat.reduceAdd,Nat.reduceSub,BQ,hn,Po.N3,Po.Jp,Po.J7 ha];rw[show mj xj _ Fy _ _=_ from e];dsimp[kj,bools,e2]
def ya(f:Int×Int->A)(hf:∀p τ S,Rx (f p) τ S=Rx (Po.pA p) τ S){S:jH}{n:Nat}{a b:Pl}(hn:jF S n=some (a.map f))(hm:jF S m=some (Po.pl b))(hl:a.length * b.length<64)(ha:∀p∈a,p.2.natAbs<big)(hb:∀p∈b,p.2.natAbs<big) :
  ∃(L:Nat) (S':jH),rD [.ref n,.ref m] S=.ok (.ref L) S'/\jF S' L=some (Po.pl<|Po.times a b)/\S.length<=L/\k_ S S':=by
 have g:mw (S++[.qi []]) S.length=some []:=G6;obtain⟨k,C,t,B,T,e,j,kp⟩:=Hf f hf (S:=S++[.qi []]) (x3:=.unb) (x4:=.unb) (x5:=.unb) (x6:=.unb) (l7 hn) (l7 hm) g () ha hb;have d:=Po.uK (Po.HM a b) [];rw[Po.IF,dJ,cj]at d;obtain⟨S',e2,h1,h2⟩:=PN j ();have k1:k_ S T:=(Kp.refl.lay (o:=.qi [])).old kp λq hq _ z=>()
 refine⟨T.length+1,S',?_,h1,by have:=k1.len;lia,k1.trans h2⟩;unfold rD Ca DB;dsimp[kj,bools,lE,Nat.reduceAdd,Nat.reduceSub,LD];rw[show mj BV _ B6 _ _=_ from e];dsimp[kj,bools,e2]
def AB{S:jH}{n:Nat}{a b:Pl}(hn:jF S n=some (Po.pl a))(hm:jF S m=some (Po.pl b))(hl:a.length * b.length<64)(ha:∀p∈a,p.2.natAbs<big)(hb:∀p∈b,p.2.natAbs<big) :
  ∃(L:Nat) (S':jH),rD [.ref n,.ref m] S=.ok (.ref L) S'/\jF S' L=some (Po.pl<|Po.times a b)/\S.length<=L/\k_ S S':=ya Po.pA (λ_ _ _=>rfl) hn hm hl ha hb
end K72
namespace K72
open PySem L2 Am
open Po (Pl Ok Bd)
open Su (Es At Vl)
def WW{S:jH}{d r:Nat}{D:Es}{o:ag}{p:Pl}{k:Nat}(hd:jV S d=some (D.map Su.kv))(hA:At S D)(hv:Vl k b D)(hr:jF S r=some (Po.pl p))(hl:D.length<64)(hk:k+p.length<64) :
  ∃(L:Nat) (S':jH),kK [.ref d,.tup<|o.map .int,.ref r] S=.ok .non S'/\jV S' d=some ((Su.q_ D o L<|Po.qG (Su.vS (Su.sm D) o) p).map Su.kv)/\At S' (Su.q_ D o L<|Po.qG (Su.vS (Su.sm D) o) p)/\S.length<=L/\Kp (·=d) S S':=by
 obtain⟨x,ex,B⟩:=Su.get_or (o:=o) hd hA;have q:=hv.v o;obtain⟨L,S2,e2,h1,h2,k2⟩:=Th B (l7 (o:=.lst []) hr) q.1 ();have g:k_ S S2:=(Kp.refl.lay).trans k2;have f:=g.dct _ _ (λz=>z) hd;have j:jV (S++[.lst []]) d=some (D.map Su.kv):=Su.DM hd;refine⟨L,S2.set d<|.dct<|(Su.q_ D o L<|Po.qG (Su.vS (Su.sm D) o) p).map Su.kv,?_,Su.IM<|Su.sj f,?_,by simp at h2;lia,g.of0.t6<|.inl rfl⟩
 ·unfold kK t9 tK;have m:newL [] S=.ok (.ref S.length) (S++[.lst []]):=mz (show 0<=16777216 by decide);dsimp[kj,bools,lE,Nat.reduceAdd,Nat.reduceSub,Su.Uk,Su.UG,hd,fM,m,Su.RY,j,ex,e2,Su.yP,Su.sR,f,uh<|show(D.map Su.kv).length<16777216 by rw[aH];lia,Su.M8 (p:=Po.qG (Su.vS (Su.sm D) o) p)]
 ·refine(Su.At.put (hA.yH g) h1).kp (Kp.refl.t6<|.inl rfl) λe t z=>?_
  rcases Su.s_ t with y|y
  ·exact Su.mO hd (hA e y) z
  ·rw[y]at z;exact Su.mO f h1 z
def G2{S:jH}{d:Nat}{D:Es}(hd:jV S d=some (D.map Su.kv))(hA:At S D)(hne:∀e∈D,e.1≠[])(hl:D.length<64) :
  ∃(n:Nat) (S':jH),oK [.ref d] S=.ok (.ref n) S'/\jF S' n=some ((Su.wG D λp=>!p.isEmpty).map Su.ent)/\At S' (Su.wG D λp=>!p.isEmpty)/\S.length<n/\k_ S S':=by
 have j:=Su.SV hd hne hl;obtain⟨n,S',e,h1,h2,h3,z⟩:=Su.PY (cap:=[some 0]) (τ:=[.ref d]) (src:=lV<|kh (f1 yN)<|jE (jD 0)<|jP) (t:=r9<|jT sD (jD 1)<|jD 0) (e:=sX<|jE (jD 0)<|jE (jT sD (jD 1)<|jD 0)<|jP) hd hA (lY (by dsimp[kj,bools,j]) jW) (λp=>!p.isEmpty)
  (λo r q T g f k=>⟨T,by
   have m:A.VJ (.ref r) T=some (!q.isEmpty):=by
    show(jF T r).map _=_;rw[k]
    cases q<;>rfl
   dsimp[kj,bools,Su.A3,Su.yO,g,f,m],Kp.refl⟩)
  (λo r T g f=>by
   dsimp[kj,bools,Su.A3,Su.yO,g,f];exact rZ<|show 2<=16777216 by decide) ()
 refine⟨n,S',?_,h1,h2,h3,z⟩;unfold oK zB zT;dsimp[kj,bools,lE,Nat.reduceAdd,Nat.reduceSub,e]
def xA:Su.FJ kK:=λh1 h2 h3 f d h6=>WW h1 h2 h3 f d h6
open Po (Pl Ok Bd)
open Su (Es At Vl)
structure Sm (S:jH)(n:Nat)(es:Es):Prop where
 l:jF S n=some (es.map Su.ent)
 a:At S es
def Sm.kp{n:Nat}(h:Sm S n es)(k:k_ S S'):Sm S' n es:=⟨k.lst _ _ (λz=>z) h.l,h.a.yH k⟩
def CW{a b:ag}(h:a.length=b.length):pZ [.tup<|a.map .int,.tup<|b.map .int] S=.ok .non S:=by
 unfold pZ uA uD;have:((a.length:Int) == (b.length:Int))=true:=by rw[h];exact cu _
 dsimp[kj,lU,bools,lE,Nat.reduceAdd,Nat.reduceSub,aH,this,bY]
def BW{n:Nat}{xs:ae}(h:jF S n=some xs):A.VJ (.ref n) S=some (!xs.isEmpty):=by
 show(jF S n).map _=_;rw[h];rfl
def Ck{n N:Nat}{es fs:Es}(h:Sm S n es)(h':Sm S m fs)(h1:∀e∈es,e.1.length=N)(h2:∀e∈fs,e.1.length=N):pX [.ref n,.ref m] S=.ok .non S:=by
 unfold pX u5 uO;dsimp[kj,lU,bools,lE,Nat.reduceAdd,Nat.reduceSub,BW h.l,BW h'.l]
 cases es with
 | nil=>dsimp[kj,lU,bools,fY,jq,bY]
 | cons e es=>cases fs with
  | nil=>dsimp[kj,lU,bools,fY,jq,bY,bH,jl,c7,BW h'.l]
  | cons f fs=>
   have q:=CW (S:=S)<|(h1 e<|aV ..).trans (h2 f<|aV ..).symm;have g:=h.l;have d:=h'.l;rw[bH]at g d;dsimp[kj,lU,bools,bH,jl,c7,BW d,g,d,yy,Su.ent,q]
def ixD{l:ag}{k:Nat}{i:Int}(h:i=k)(hk:k<l.length):uy (l.map A.int) i=some (.int<|l.getD k 0):=JW h<|by rw[aK,aI hk];rfl
def Rz{l:ag}{k:Nat}:((l.map A.int).set (k-1)<|.int<|l.getD k 0).set k (.int<|l.getD (k-1) 0)=(Wd.ex l k).map A.int:=by
 unfold Wd.ex;rw[map_set,map_set]
def aci{f g:A->A->jH->R A}{ca cb cc:Ex}{a c:A}(h1:ca τ S=.ok a S)(h2:cb τ S=.ok b S)(h3:f a b S=.ok (.bl true) S)(h4:cc τ S=.ok c S):Zk f g ca cb cc τ S=g b c S:=by
 unfold Zk;rw[h1,R.mH,h2,R.mH,h3,R.mH];unfold kCh;show(cc τ S).bind _=_;rw[h4];rfl
def OJ{i:Int}:nU [.int i] S=.ok (.bl true) S:=by
 unfold nU v5 wH;dsimp[kj,bools,lE,Nat.reduceAdd,Nat.reduceSub,show Lw .int "int" = some true from rfl,show Lw .int "bool" = some false from rfl,c7]
def acI{n k:Int}(h1:1<=k)(h2:k<n):nG [.int n,.int k] S=.ok (.bl true) S:=by
 unfold nG rV sJ;have c:Zk aLe XX (eC<|.int 1) (jD 1) (jD 0) [.int n,.int k] S=.ok (.bl true) S:=by
  rw[aci (a:=.int 1) (b:=.int k) (c:=.int n) rfl rfl (by dsimp[kj,bg h1]) rfl];dsimp[kj,bg h2]
 dsimp[kj,bools,lE,Nat.reduceAdd,Nat.reduceSub,OJ,c]
def HB{xs:ag}{k:Nat}(h1:1<=k)(h2:k<xs.length)(hl:xs.length<=1000):∃S',ng [.tup<|xs.map .int,.int k] S=.ok (.tup<|(Wd.ex xs k).map .int) S'/\k_ S S':=by
 have e1:=acI (S:=S) (n:=(xs.length:Int)) (k:=(k:Int)) () ();have d:uy (xs.map A.int) (k:Int)=some (.int<|xs.getD k 0):=ixD rfl ();have f:uy (xs.map A.int) ((k:Int)-1)=some (.int<|xs.getD (k-1) 0):=ixD (k:=k-1) () ();have j:ES xs.length ((k:Int)-1)=some (k-1):=zP () ();have p:ES xs.length (k:Int)=some k:=zP rfl ();have g:jF (S++[O.lst<|xs.map .int]) S.length=some (xs.map .int):=jW;have m:∀ys,jF ((S++[O.lst<|xs.map .int]).set S.length<|.lst ys) S.length=some ys:=λys=>rJ (by simp);have e2:lJ [.tup<|xs.map .int,.int k,.int<|(k:Int)+1] S=.ok (.tup<|(Wd.ex xs k).map .int) (((S++[O.lst<|xs.map .int]).set S.length<|.lst<|(xs.map A.int).set (k-1)<|.int<|xs.getD k 0).set S.length<|.lst<|(Wd.ex xs k).map .int):=by
  unfold lJ nV nR;dsimp[kj,bools,lE,Nat.reduceAdd,Nat.reduceSub,g,show(k:Int)+1-1=k by lia,d,f,oY<|show 2<=sizeLine by decide,oY<|show 2=2 from rfl,aH,j,m,bT,p,Rz];rw[rJ<|by simp];dsimp[kj,bools]
 unfold ng uG uL;dsimp[kj,lU,bools,lE,Nat.reduceAdd,Nat.reduceSub,aH,e1,bY,e2];exact⟨_,rfl,((Kp.refl.lay).set<|.inr<|aL _).set<|.inr<|aL _⟩
def ixG{xs:ag}{i:Int}(h1:0<=i)(h2:i<xs.length):uy (xs.map A.int) i=some (.int<|xs.getD i.toNat 0):=ixD (k:=i.toNat) () ()
abbrev fl (xs:ag)(n:Nat):ag:=(l8 1 (n:Int)).filter λk=>decide<|xs.getD (k-1).toNat 0>xs.getD k.toNat 0
def vc{S:jH}{n:Nat}{xs:ag}(hlen:xs.length=n)(h2:n<=20):mE [.tup<|xs.map .int] S=.ok (.ref S.length) (S++[.lst<|(fl xs n).map .int]):=by
 have d:=Pc (lo:=1) (hi:=(n:Int)) (cap:=[some 0]) (src:=yx (eC<|.int 1)<|kh (f1 qN)<|jE (jD 0)<|jP) (t:=ux<|jT YX (jT vX (jD 1)<|jT aSub (jD 0)<|eC<|.int 1)<|jT vX (jD 1)<|jD 0) (e:=jD 0) (τ:=[.tup<|xs.map .int]) (S:=S) (S1:=S)
  (EO (S1:=S) (by dsimp[kj,bools]) (by dsimp[kj,bools,aH,hlen]) (uN () ())<|uN () ())
  (λk=>decide<|xs.getD (k-1).toNat 0>xs.getD k.toNat 0) (λk=>.int k) (λk h1 h2=>by
   have f:uy (xs.map A.int) (k-1)=some (.int<|xs.getD (k-1).toNat 0):=ixG () ();have g:uy (xs.map A.int) k=some (.int<|xs.getD k.toNat 0):=ixG () ();dsimp[kj,bools,f,g]) (λk _ _ _=>by dsimp[kj,bools]) ()
 unfold mE DO Ct;dsimp[kj,bools,lE,Nat.reduceAdd,Nat.reduceSub,d];rfl
theorem yZ{t:Int}:∀(p:ag),inA S (.int t) (p.map .int)=some (decide<|t∈p)
 | []=>rfl
 | x::p=>by
  show(DJ S 12 (.int x)<|.int t).bind (λa=>(inA S (.int t)<|p.map .int).map λb=>a || b)=_;rw[yZ p];show some ((x == t) || decide (t∈p))=_;by_cases c:x=t
  ·subst c;rw[cu,bg (show x∈x::p from aV ..)];rfl
  ·rw[dc.mpr c];congr 1;rw[gh,f9];constructor
   ·exact λz=>aX _ z
   ·intro z
    rcases bE.mp z with z|z
    ·exact absurd z.symm c
    ·exact z
open Po (Pl Ok Bd)
open Su (Es At Vl AF)
def JN{o:ag}{N k:Nat}(hl:o.length=N)(h1:1<=k)(h2:k<N):decide ((k:Int)∈fl o N)=Su.sY o k:=by
 unfold fl Su.sY;rw[f9,cE,sU,g_,show((k:Int)-1).toNat=k-1 by lia,di];constructor
 ·exact λh=>h.2
 ·exact λh=>⟨⟨(),()⟩,h⟩
def RW{S:jH}{n N k P:Nat}{es:Es}(h:Sm S n es)(h1:∀e∈es,e.1.length=N/\(e.2.2.length<=2 * P+1/\Su.RB P e.2.2)/\∀p∈e.2.2,p.2.natAbs<big)(k1:1<=k)(k2:k<N)(hN:N<=20)(hl:P<=14)(hl':es.length<=24) :
  ∃(L:Nat) (S':jH) (rs:Es),mW [.ref n,.int k] S=.ok (.ref L) S'/\Sm S' L rs/\Su.sm rs=Su.bx k (Su.sm es)/\(∀e∈rs,Ok e.2.2/\e.2.2≠[]/\S.length<=e.2.1/\e.2.1<L)/\Su.Ap rs/\rs.length<=2 * es.length/\S.length<=L/\k_ S S':=by
 have k0:k_ S (S++[.dct []]):=Kp.refl.lay;have J:Su.RB 1 AF:=λp hp=>by
  rcases bE.mp hp with z|z
  ·rw[z];exact aL _
  ·rw[aR.mp z];exact aL _
 obtain⟨y3,y4,D,T,e1,f,kp⟩:=Su.Aa (w:=2) (j:=1+P) (b:=S.length) (i0:=0) (S:=S++[.dct []]) (S1:=S++[.dct []]) (d:=S.length) (n:=n) (es:=es) (src:=nO) (c:=mS) (g:=DT 2<|vE (ko 3)<|vE (ko 4)<|DU) (λy z=>[.ref n,.int k,.ref S.length,y,z]) (Su.gX k) (λ_ _ _ _=>rfl) (x3:=.unb) (x4:=.unb)
  (show nO _ _=_ from lY (by dsimp[kj,bools])<|l7 h.l) (l7 h.l) (Su.Fil3.new Su.nM) λi e T Q D hi G F f=>by
   obtain⟨K,V,b3⟩:=h1 e G;have Z:=F.len;rw[bq]at Z;obtain⟨T0,e0,M⟩:=HB (S:=T) (xs:=e.1) (k:=k) k1 () ();have aT:=((h.a.yH k0).LU F Su.nM).yH M;have f0:=f.yH M;have qtl:=M.len;rw[cj]at f0;have W:Wd.ex e.1 k≠[]:=λz=>by have:=Wd.GF e.1 k;rw[z]at this;simp at this;lia
   obtain⟨D1,T1,e1,f1,k1'⟩:=f0.add xA (o:=Wd.ex e.1 k) (aT e G) (V.2.mono ()) () W () () ();have k1l:=k1'.len;have Y:=vc (S:=T1) (xs:=e.1) (n:=N) K hN;have m:Ry false (.int k) (.ref T1.length) (T1++[.lst<|(fl e.1 N).map .int])=.ok (.bl<|Su.sY e.1 k) (T1++[.lst<|(fl e.1 N).map .int]):=by
    show opt (jF _ _) _=_;rw[jW,jS,yZ,JN K k1 k2];rfl
   have C:k_ T1 (T1++[.lst<|(fl e.1 N).map .int]):=Kp.refl.lay;obtain⟨U,hU⟩:∃U,U=T1++[O.lst<|(fl e.1 N).map .int]:=⟨_,rfl⟩;rw[<- hU]at m C Y;have fU:=f1.yH C;have B:Kp (·=S.length) T U:=(M.of0.trans k1').trans C.of0
   cases hf:Su.sY e.1 k with
   | false=>
    refine⟨D1,U,?_,?_,B⟩
    ·rw[hf]at m;unfold mS;dsimp[kj,lU,bools,e0,e1,Y,m]
    ·rw[cj];unfold Su.gX;rw[hf,aQ<|by simp];exact fU.mono ()
   | true=>
    have aU:=(aT.LU k1' f0.dd).yH C;have n0:jF (U++[.lst<|AF.map kA]) U.length=some (AF.map kA):=jW;obtain⟨L,T2,e2,l1,l2,k2'⟩:=ya kA (λ_ _ _=>rfl) n0 (l7 (o:=.lst<|AF.map kA)<|aU e G) (show 2 * e.2.2.length<64 by lia) (λp hp=>by
     rw[y_]
     rcases bE.mp hp with z|z
     ·rw[z];exact show 1<2 ^ 4096 by decide +kernel
     ·rw[aR.mp z];exact show 1<2 ^ 4096 by decide +kernel) b3
    have t:k_ U T2:=(Kp.refl.lay).trans k2';have tl2:=t.len;have tle:=C.len;obtain⟨D2,T3,e3,f3,k3'⟩:=(fU.yH t).add xA (o:=e.1) l1 (Su.RB.times J V.2) (Su.RB.len (Po.AB _ _)<|Su.RB.times J V.2) (λz=>by rw[z]at K;simp at K;lia) () () ();refine⟨D2,T3,?_,?_,(B.trans t.of0).trans k3'⟩
    ·rw[hf]at m;unfold mS;dsimp[kj,lU,bools,e0,e1,Y,m];rw[show[((-1:Int),(1:Int)),((1:Int),(-1:Int))].map kA=AF.map kA from rfl];dsimp[kj,lU,bools,e2,e3]
    ·rw[cj];unfold Su.gX;rw[hf,aS rfl];exact f3
 have F:k_ S T:=k0.old kp λq hq _ z=>()
 have fl:=f.ll;rw[cj]at fl;obtain⟨L,S',e2,r1,r2,r3,r4⟩:=G2 f.dd f.aa f.kk ();have Z:=F.len;have fs:=f.ss;rw[Su.HC]at fs;refine⟨L,S',_,?_,⟨r1,r2⟩,by rw[Su.Dt,fs];rfl,λe G=>?_,f.pw.out _,?_,(),F.trans r4⟩
 ·unfold mW sq rY;dsimp[kj,lU,bools,lE,Nat.reduceAdd,Nat.reduceSub,Su.xh];rw[show mj nO _ mS _ _=_ from e1];dsimp[kj,lU,bools,e2]
 ·obtain⟨m1,m2⟩:=Su.Cd G;obtain⟨v1,v2,v3⟩:=f.vv e m1;have lt:=lW<|f.aa e m1;exact⟨v1,λz=>(by rw[z]at m2;cases m2),v3,()⟩
 ·unfold Su.wG;rw[aH];refine bM (dN _ _) ?_;rw[(ki _).length_eq,aH];exact fl
end K72
namespace K72
open PySem L2 Am
open Po (Pl Ok Bd)
open Su (Es At Vl AF)
open He (Sz)
open Fw (rg)
def Sm.LU{n d:Nat}(h:Sm S n es)(k:Kp (·=d) S S')(hd:jV S d=some kvs):Sm S' n es:=⟨k.lst _ _ (λz=>Su.mO hd h.l z.symm) h.l,h.a.LU k hd⟩
def oN{N:Nat}{o:ag}(h:o.Perm<|rg N):o.length=N:=by rw[h.length_eq,Wd.mJ]
def nA{es:Es}{l:Su.Ps}(h:Su.sm es=l){e:Su.En}(he:e∈es):(e.1,e.2.2)∈l:=by rw[<- h];exact bf.mpr ⟨e,he,rfl⟩
structure Kn (N:Nat)(Φ:ag->Su.Ps)(T:jH)(d:Nat)(K:Es):Prop where
 dd:jV T d=some (K.map Su.kv)
 gd:Su.Gd (Su.sm K)
 pm:∀e∈K,e.1.Perm (rg N)
 at_:∀e∈K,∃es:Es,Sm T e.2.1 es/\Su.sm es=Φ e.1
def Kn.yH{N d:Nat}{Φ:ag->Su.Ps}{K:Es}(h:Kn N Φ T d K)(k:k_ T T'):Kn N Φ T' d K:=⟨k.dct _ _ (λz=>z) h.dd,h.gd,h.pm,λe f=>by obtain⟨es,a,b⟩:=h.at_ e f;exact⟨es,a.kp k,b⟩⟩
def Kn.many{N d:Nat}{Φ:ag->Su.Ps}{K:Es}(hN:N<6)(h:Kn N Φ T d K):K.length<=120:=by
 have:=He.many hN h.gd.nd λo j=>by
  obtain⟨e,g,rfl⟩:=bf.mp j;obtain⟨f,hf,rfl⟩:=bf.mp g;exact h.pm f hf
 rwa [aH,Su.Ai]at this
def XF:Ok []:=⟨List.Pairwise.nil,nofun⟩
def Kn.put{N d r:Nat}{Φ:ag->Su.Ps}{K:Es}{o:ag}(hN:N<6)(h:Kn N Φ T d K)(po:o.Perm<|rg N)(hr:Sm T r es)(he:Su.sm es=Φ o) :
  ∃T' K',n5 (.ref d) (.tup<|o.map .int) (.ref r) T=.ok Unit.unit T'/\Kn N Φ T' d K'/\sD (.ref d) (.tup<|o.map .int) T'=.ok (.ref r) T'/\Sm T' r es/\Kp (·=d) T T':=by
 have k:Kp (·=d) T (T.set d<|.dct<|(Su.q_ K o r []).map Su.kv):=Kp.refl.t6<|.inl rfl;have dd:jV (T.set d<|.dct<|(Su.q_ K o r []).map Su.kv) d=some ((Su.q_ K o r []).map Su.kv):=Su.IM<|Su.sj h.dd;obtain⟨e,e1,e2⟩:=Su.L4 (D:=K) (o:=o) (r:=r) (p:=[]);have g:=h.many hN;refine⟨_,Su.q_ K o r [],?_,⟨dd,?_,λe he=>?_,λe f=>?_⟩,?_,hr.LU k h.dd,k⟩
 ·rw[Su.sR,h.dd,jS,Su.M8 (p:=[])];exact uh (show(K.map Su.kv).length<16777216 by rw[aH];lia)
 ·rw[Su.MU];exact h.gd.put XF
 ·rcases Su.s_ he with z|z
  ·exact h.pm e z
  ·rw[z];exact po
 ·rcases Su.s_ f with z|z
  ·obtain⟨fs,a,b⟩:=h.at_ e z;exact⟨fs,a.LU k h.dd,b⟩
  ·rw[z];exact⟨es,hr.LU k h.dd,he⟩
 ·rw[Su.yO,dd,jS,Su.vB,e1,fM,jS,e2]
def MA{d:Nat}{o:ag}:Ln true (.tup<|o.map .int) (.ref d) S=opt (jV S d) λkvs=>.ok (.bl<|!(kF kvs o).isSome) S:=by
 show opt (jV S d) (λkvs=>opt (A.ints<|o.map .int) λns=>_)=_;rw[ints_map];rfl
open Po (Pl Ok Bd)
open Su (Es At Vl)
open He (Sz)
structure Nw (b L:Nat)(rs:Es):Prop where
 ap:Su.Ap rs
 nw:∀e∈rs,b<=e.2.1/\e.2.1<L
def Yz{S:jH}{n N P c:Nat}{fs:Es}(hN:N<5)(h0:1<=N)(h:Sm S n es)(h':Sm S m fs)(hz:Sz N P C<|Su.sm es)(hz':Sz N P c<|Su.sm fs)(hP:P<=15) :
  ∃(L:Nat) (S':jH) (rs:Es),t7 [.ref n,.ref m] S=.ok (.ref L) S'/\Sm S' L rs/\Su.sm rs=He.zF (Su.sm es) (Su.sm fs)/\Nw S.length L rs/\S.length<=L/\k_ S S':=by
 have nl:=Ck h h' (λe k=>oN<|hz.pm _<|nA rfl k) λe k=>oN<|hz'.pm _<|nA rfl k;have t:=hz.m24 hN;have G:=hz'.m24 hN;rw[Su.Ai]at t G;have W:(es++fs).length=es.length+fs.length:=bq ..;have n1:jF (S++[.dct []]) n=some (es.map Su.ent):=l7 h.l;have n2:jF (S++[.dct []]) m=some (fs.map Su.ent):=l7 h'.l;have F:=MC n1 n2 (by rw[aH,aH];lia);rw[<- bD]at F;have k0:k_ S (S++[.dct []]++[.lst<|(es++fs).map Su.ent]):=Kp.refl.lay.lay;have Y:∀e∈es++fs,(Su.RB P e.2.2/\e.2.2.length<=2 * P+1)/\e.1≠[]:=λe k=>by
  have:e.1.length=N/\Su.RB P e.2.2/\e.2.2.length<=2 * P+1:=(bJ.mp k).elim (λz=>⟨oN<|hz.pm _<|nA rfl z,hz.rb<|nA rfl z,(hz.pb<|nA rfl z).2⟩) λz=>⟨oN<|hz'.pm _<|nA rfl z,hz'.rb<|nA rfl z,(hz'.pb<|nA rfl z).2⟩;exact⟨this.2,λz=>by rw[z]at this;have:=this.1;simp at this;lia⟩
 obtain⟨y3,y4,D,T,e1,f,kp⟩:=Su.Aa (w:=1) (j:=P) (b:=S.length) (i0:=0) (S:=S++[.dct []]) (S1:=S++[.dct []]++[.lst<|(es++fs).map Su.ent]) (d:=S.length) (src:=vD) (c:=vq) (g:=DT 2<|vE (ko 3)<|vE (ko 4) DU) (es:=es++fs) (λy z=>[.ref n,.ref m,.ref S.length,y,z]) (λe Q=>Su.zK Q e.1 e.2.2) (λ_ _ _ _=>rfl) (x3:=.unb) (x4:=.unb)
  (show vD _ _=_ from lY (by dsimp[kj,bools,F]) jW) jW (Su.Fil3.new<|Su.DM Su.nM) λi e T Q D hi k p f=>by
   have aT:=((h.a.app h'.a).yH k0).LU p<|Su.DM Su.nM;have O:=p.len;have Z:=k0.len;rw[cj,gK]at f;rw[cj,gK];obtain⟨B,q2⟩:=Y e k;obtain⟨V,M,J,U,k'⟩:=f.add xA (o:=e.1) (aT e k) B.1 B.2 q2 () hP ();exact⟨V,M,by unfold vq;dsimp[kj,lU,bools,J],U,k'⟩
 rw[cj,gK,Su.Kz]at f;have p:k_ S T:=k0.old kp λq hq _ z=>()
 have fl:=f.ll;obtain⟨L,S',e2,r1,r2,r3,K⟩:=G2 f.dd f.aa f.kk ();have O:=p.len;refine⟨L,S',_,?_,⟨r1,r2⟩,by rw[Su.Dt,f.ss,Su.F3];rfl,⟨f.pw.out _,λe k=>?_⟩,(),p.trans K⟩
 ·unfold t7 C2 C8;dsimp[kj,lU,bools,lE,Nat.reduceAdd,Nat.reduceSub,nl,Su.xh];rw[show mj vD _ vq _ _=_ from e1];dsimp[kj,lU,bools,e2]
 ·obtain⟨t,G⟩:=Su.Cd k;obtain⟨v1,v2,v3⟩:=f.vv e t;have lt:=lW<|f.aa e t;exact⟨v3,()⟩
abbrev Sn (N P C:Nat)(S:jH)(n:Nat)(l:Su.Ps):Prop:=Sz N P C l/\∃es,Sm S n es/\Su.sm es=l
def Sn.kp{N P n:Nat}{l:Su.Ps}(h:Sn N P C S n l)(k:k_ S S'):Sn N P C S' n l:=by
 obtain⟨a,es,b,c⟩:=h;exact⟨a,es,b.kp k,c⟩
def Sn.add{N P c n:Nat}{l k:Su.Ps}(h:Sn N P C S n l)(h':Sn N P c S m k)(hN:N<5)(h0:1<=N)(hP:P<=15) :
  ∃(L:Nat) (S':jH),t7 [.ref n,.ref m] S=.ok (.ref L) S'/\Sn N P (C+c) S' L (He.zF l k)/\k_ S S':=by
 obtain⟨a,es,b,rfl⟩:=h;obtain⟨d,fs,j,rfl⟩:=h';obtain⟨L,S',p,e1,g,f,_,_,k1⟩:=Yz hN h0 b j a d hP;exact⟨L,S',e1,⟨a.sum d,p,g,f⟩,k1⟩
def Sn.mono{N P n:Nat}{l:Su.Ps}(h:Sn N P C S n l)(hp:P<=P')(hc:C<=C'):Sn N P' C' S n l:=⟨h.1.mono hp hc,h.2⟩
end K72
namespace K72
open PySem L2 Am
open Po (Pl Ok Bd)
open Su (Es At Vl AF)
open He (Sz PB)
open Fw (rg)
def Sa{S:jH}{n N P c:Nat}{q:Pl}(f:Int×Int->A)(hf:∀p τ S,Rx (f p) τ S=Rx (Po.pA p) τ S)(hN:N<5)(h0:1<=N)(h:Sm S n es)(hz:Sz N P C<|Su.sm es)(hq:jF S m=some (q.map f))(pq:PB Q c q)(lq:q.length<=2)(hP:P+Q<=15)(hC:C<big)(hc:c<big) :
  ∃(L:Nat) (S':jH) (rs:Es),qE [.ref m,.ref n] S=.ok (.ref L) S'/\Sm S' L rs/\Su.sm rs=He.FW q (Su.sm es)/\S.length<=L/\k_ S S':=by
 have k0:k_ S (S++[.dct []]):=Kp.refl.lay;have Y:=hz.m24 hN;rw[Su.Ai]at Y;obtain⟨y3,y4,D,T,e1,k,kp⟩:=Su.Aa (w:=1) (j:=Q+P) (b:=S.length) (i0:=0) (S:=S++[.dct []]) (S1:=S++[.dct []]) (d:=S.length) (n:=n) (es:=es) (src:=tu) (c:=tU) (g:=DT 2<|vE (ko 3)<|vE (ko 4) DU) (λy z=>[.ref m,.ref n,.ref S.length,y,z]) (λe Q=>Su.zK Q e.1<|Po.times q e.2.2) (λ_ _ _ _=>rfl) (x3:=.unb) (x4:=.unb)
  (show tu _ _=_ from lY (by dsimp[kj,bools])<|l7 h.l) (l7 h.l) (Su.Fil3.new Su.nM) λi e T Q1 D hi B t G=>by
   have b:=hz.pb<|nA rfl B;have F:=t.len;rw[bq]at F;rw[cj,gK]at G;rw[cj,gK];have lb:e.2.2.length<=2 * P+1:=b.2;have ll:q.length * e.2.2.length<=2 * (2 * P+1):=jB lq lb;have J:Su.RB (Q+P) (Po.times q e.2.2):=Su.RB.times pq.p<|hz.rb<|nA rfl B;obtain⟨L,T1,K,U,l2,k1⟩:=ya f hf (t.lst _ _ (λz=>Su.mO (Su.nM (S:=S) (xs:=[])) (l7 (o:=.dct []) hq) z.symm)<|l7 hq) (((h.a.yH k0).LU t Su.nM) e B) () (λp hp=>eT (pq.c p hp) hc) λp hp=>eT (b.1.c p hp) hC;have Z:=k1.len;obtain⟨W,O,x2,V,k'⟩:=(G.yH k1).add xA (o:=e.1) U J (Su.RB.len (Po.AB _ _) J) (λz=>by
    have:=oN<|hz.pm _<|nA rfl B;rw[show((e.1,e.2.2):ag×Pl).1=e.1 from rfl,z]at this;simp at this;lia) () () ()
   exact⟨W,O,by unfold tU;dsimp[kj,bools,K,x2],V,k1.of0.trans k'⟩
 rw[cj,gK,Su.Lk]at k;have t:k_ S T:=k0.old kp λq hq _ z=>()
 have fl:=k.ll;obtain⟨L,S',e2,r1,r2,r3,M⟩:=G2 k.dd k.aa k.kk ();have F:=t.len;refine⟨L,S',_,?_,⟨r1,r2⟩,by rw[Su.Dt,k.ss];rfl,(),t.trans M⟩;unfold qE zY zl;dsimp[kj,bools,lE,Nat.reduceAdd,Nat.reduceSub,Su.xh];rw[show mj tu _ tU _ _=_ from e1];dsimp[kj,bools,e2]
def Sn.Wa{N P c n:Nat}{l:Su.Ps}{q:Pl}(h:Sn N P C S n l)(f:Int×Int->A)(hf:∀p τ S,Rx (f p) τ S=Rx (Po.pA p) τ S)(hN:N<5)(h0:1<=N)(hq:jF S m=some (q.map f))(pq:PB Q c q)(lq:q.length<=2)(hP:P+Q<=15)(hC:C<big)(hc:c<big) :
  ∃(L:Nat) (S':jH),qE [.ref m,.ref n] S=.ok (.ref L) S'/\Sn N (P+Q) (q.length * (c * C)) S' L (He.FW q l)/\k_ S S':=by
 obtain⟨z,es,s,rfl⟩:=h;obtain⟨L,S',j,e1,g,d,_,k1⟩:=Sa f hf hN h0 s z hq pq lq hP hC hc;exact⟨L,S',e1,⟨z.FW pq,j,g,d⟩,k1⟩
end K72
namespace Kl
open Su Po He
open Fw (rg)
def YR{n k:Nat}{o:ag}(p:o.Perm<|rg n)(h0:1<=k)(h1:k<n):sY (Wd.ex o k) k=!sY o k:=by
 have lo:o.length=n:=by rw[p.length_eq,Wd.mJ]
 have ne:=Fw.Tw p h0 ();unfold Su.sY;rw[Fw.Vq h0 (),Fw.VD h0 (),<- decide_not];exact f9.mpr ⟨λz=>(),λz=>()⟩
theorem Jg:∀(l:ag),2 * Iv.inv l<=l.length * (l.length-1)
 | []=>aL _
 | x::l=>by
  have h1:l.countP (λy=>decide<|y<x)<=l.length:=List.countP_le_length;have h2:=Jg l;show 2 * (l.countP (λy=>decide<|y<x)+Iv.inv l)<=(l.length+1) * l.length
  cases d:l.length with
  | zero=>rw[d]at h1 h2;lia
  | succ m=>
   rw[d]at h1 h2;have:(m+1) * (m+1-1)+2 * (m+1)=(m+1+1) * (m+1):=by
    rw[Nat.add_sub_cancel,Nat.add_mul (m+1) 1<|m+1,gK,Nat.mul_add (m+1) m 1];lia
   lia
abbrev step (k:Nat)(low:ag->Ps)(told:Ps)(e:ag×Pl):Ps:=if val e.2 1≠0/\sY e.1 k=true then zF told (FW [(0,-val e.2 1)]<|low e.1)else told
abbrev first (k:Nat)(less:Ps):Ps:=zF (Su.bx k less)<|FW [(1,1)] less
abbrev kp:Nat->ag->Ps
 | 0,_=>[]
 | f+1,w=>match ff w with
  | none=>[(w,[(0,1)])]
  | some k=>(kp f<|Wd.ex w k).foldl (step k<|kp f)<|first k (kp f<|Wd.ex w k)
abbrev Lo (n:Nat)(w o:ag):Prop:=o.Perm (rg n)/\(o=w\/Iv.inv o<Iv.inv w)
def Lo.le{n:Nat}{w:ag}(h:Lo n w o):Iv.inv o<=Iv.inv w:=by
 rcases h.2 with z|z
 ·rw[z];exact aL _
 ·exact eg z
def BH{P:ag->Prop}{l m:Ps}(h:∀e∈l,P e.1)(h':∀e∈m,P e.1):∀e∈zF l m,P e.1:=
 sP (qB (P:=P) _ (nofun) λx d=>(bJ.mp d).elim (h x)<|h' x)
def E1{P:ag->Prop}{p:Pl}{l:Ps}(h:∀e∈l,P e.1):∀e∈FW p l,P e.1:=
 sP (qB (P:=P) _ (nofun) λx f=>by
  obtain⟨e,d,rfl⟩:=bf.mp f;exact h e d)
def RP{P:ag->Prop}{k:Nat}{l:Ps}(h:∀e∈l,P e.1/\P (Wd.ex e.1 k)):∀e∈Su.bx k l,P e.1:=
 sP (qB (P:=P) _ (nofun) λx d=>by
  obtain⟨e,f,d⟩:=iE.mp d
  rcases bE.mp d with z|z
  ·rw[z];exact(h e f).2
  ·split at z
   ·rw[aR.mp z];exact(h e f).1
   ·exact nomatch z)
theorem Bg{P:ag->Prop}{k:Nat}{low:ag->Ps}:∀{less told:Ps},(∀e∈told,P e.1)->(∀e∈less,∀g∈low e.1,P g.1)->∀e∈less.foldl (step k low) told,P e.1
 | [],_,h,_=>h
 | x::xs,told,h,h'=>Bg (less:=xs) (by
   unfold step;split
   ·exact BH h (E1 λg hg=>h' x (aV ..) g hg)
   ·exact h) λe d=>h' e<|aX _ d
structure Dn (n:Nat)(w:ag)(k:Nat):Prop where
 h0:1<=k
 h1:k<n
 fw:sY w k=true
 pe:(Wd.ex w k).Perm (rg n)
 iv:Iv.inv w=Iv.inv (Wd.ex w k)+1
 ee:Wd.ex (Wd.ex w k) k=w
 fe:sY (Wd.ex w k) k=false
def E4{n:Nat}{w:ag}{k:Nat}(pw:w.Perm<|rg n)(h:ff w=some k):Dn n w k:=by
 obtain⟨a,b,c⟩:=UA h;have d:w.length=n:=by rw[pw.length_eq,Wd.mJ]
 refine⟨a,(),c,EC pw a (),Fw.NL a b (by have:=bU c;lia),Fw.Rp a b,?_⟩;rw[YR pw a (),c];rfl
def O0{n k:Nat}{w:ag}(d:Dn n w k)(h:Lo n (Wd.ex w k) o):Lo n w o:=⟨h.1,.inr (by have:=h.le;have:=d.iv;lia)⟩
def aaO{n k:Nat}{w:ag}(d:Dn n w k)(h:Lo n (Wd.ex w k) o):Lo n w (Wd.ex o k):=by
 refine⟨EC h.1 d.h0 d.h1,?_⟩;have lo:o.length=n:=by rw[h.1.length_eq,Wd.mJ]
 rcases h.2 with z|z
 ·exact .inl (by rw[z];exact d.ee)
 ·have:=Fw.UL (l:=o) d.h0 (by have:=d.h1;lia);have:=d.iv;exact .inr ()
def ZD{n:Nat}{w:ag}(h:Lo n w o)(h':Lo n o u):Lo n w u:=⟨h'.1,by
 rcases h'.2 with z|z
 ·rw[z];exact h.2
 ·exact .inr (by have:=h.le;lia)⟩
theorem w9{n:Nat}:∀(f:Nat) {w:ag},w.Perm (rg n)->∀e∈kp f w,Lo n w e.1
 | 0,_,_,e,j=>nomatch j
 | f+1,w,pw,e,j=>by
  revert e;unfold kp;split
  ·intro e j;rw[aR.mp j];exact⟨pw,.inl rfl⟩
  ·rename_i k p;have d:=E4 pw p;have m:=w9 f d.pe;exact Bg (BH (RP λe j=>⟨O0 d<|m e j,aaO d<|m e j⟩)<|E1 λe j=>O0 d<|m e j) λe j g hg=>ZD (O0 d<|m e j)<|w9 f (m e j).1 g hg
theorem fold_congr{k:Nat}{low low':ag->Ps}:∀{less told:Ps},(∀e∈less,low e.1=low' e.1)->less.foldl (step k low) told=less.foldl (step k low') told
 | [],_,_=>rfl
 | x::xs,told,h=>by
  rw[eX,eX,show step k low told x=step k low' told x from by unfold step;rw[h x<|aV ..]];exact fold_congr λe d=>h e<|aX _ d
theorem MK{n:Nat}:∀(f g:Nat) {w:ag},w.Perm (rg n)->Iv.inv w<f->Iv.inv w<g->kp f w=kp g w
 | 0,_,_,_,h,_=>absurd h (d8 _)
 | f+1,0,_,_,_,h=>absurd h (d8 _)
 | f+1,g+1,w,pw,h,h'=>by
  unfold kp;split
  ·rfl
  ·rename_i k j;have d:=E4 pw j;have iv:=d.iv;rw[MK f g d.pe () ()];exact fold_congr λe m=>by
    have l:=w9 g d.pe e m;have:=l.le;exact MK f g l.1 () ()
abbrev K (w:ag):Ps:=kp (Iv.inv w+1) w
def M7{w:ag}(h:ff w=none):K w=[(w,[(0,1)])]:=by
 unfold K kp;rw[h]
def Nb{n k:Nat}{w:ag}(pw:w.Perm<|rg n)(h:ff w=some k):K w=(K<|Wd.ex w k).foldl (step k K) (first k (K<|Wd.ex w k)):=by
 have d:=E4 pw h;have iv:=d.iv;show kp (Iv.inv w+1) w=_;unfold kp;rw[h];show(kp (Iv.inv w)<|Wd.ex w k).foldl (step k<|kp<|Iv.inv w) _=_;rw[show kp (Iv.inv w) (Wd.ex w k)=K (Wd.ex w k)from by unfold K;rw[iv]];exact fold_congr λe f=>by
  have l:=w9 _ d.pe e f;have:=l.le;exact MK _ _ l.1 () ()
def Mr{n:Nat}{w:ag}(pw:w.Perm<|rg n):∀e∈K w,Lo n w e.1:=w9 _ pw
abbrev Cb:Nat->Nat
 | 0=>1
 | 1=>124
 | i+2=>4 * Cb (i+1)+120 * (Cb (i+1) * Cb i)
def IZ:∀i,4 * Cb i+120 * (Cb i * Cb (i-1))<=Cb (i+1)
 | 0=>by decide
 | i+1=>aL _
theorem yW:∀{j:Nat},i<=j->Cb i<=Cb j
 | 0,h=>by rw[Nat.le_zero.mp h];exact aL _
 | j+1,h=>by
  rcases Nat.lt_or_ge j i with z|z
  ·rw[show i=j+1 by lia];exact aL _
  ·have:=yW z;have:=IZ j
   lia
def U7{P:Nat}{p:Pl}(h:PB P C p)(t:Int):(val p t).natAbs<=C:=by
 unfold val
 cases hf:p.find? λq=>decide (q.1=t)with
 | none=>exact bL _
 | some q=>exact h.c q<|c_ hf
def UQ{n P A B L k:Nat}{low:ag->Ps}{e:ag×Pl}(h:Sz n P A told)(hl:sY e.1 k=true->Sz n P L (low e.1))(hb:(val e.2 1).natAbs<=B):Sz n P (A+B * L) (step k low told e):=by
 unfold step;split
 ·rename_i z;have:=(hl z.2).FW (p:=[(0,-val e.2 1)]) (Q:=0) (c:=B) ⟨λq hq=>by rw[aR.mp hq];show(-val e.2 1).natAbs<=B;rw[Int.natAbs_neg];exact hb,λq hq=>by rw[aR.mp hq];exact aL _⟩;exact(h.sum this).mono (aL _) (by show A+1 * (B * L)<=_;lia)
 ·exact h.mono (aL _)<|Nat.le_add_right _ _
theorem Jc{n P B L k:Nat}{low:ag->Ps}:∀{less told:Ps}{A:Nat},Sz n P A told->(∀e∈less,sY e.1 k=true->Sz n P L (low e.1))->(∀e∈less,(val e.2 1).natAbs<=B)->Sz n P (A+less.length * (B * L)) (less.foldl (step k low) told)
 | [],_,_,h,_,_=>h.mono (aL _) (Nat.le_add_right _ _)
 | x::xs,told,A,h,hl,hb=>by
  have:=Jc (less:=xs) (UQ (e:=x) h (hl x<|aV ..)<|hb x<|aV ..) (λe d=>hl e<|aX _ d) λe d=>hb e<|aX _ d;exact this.mono (aL _)<|by rw[bB,iS];lia
def Qu{n P k:Nat}{l:Ps}(h:Sz n P C l)(h0:1<=k)(h1:k<n):Sz n (P+1) (4 * C) (first k l):=by
 have:=h.FW (p:=[(1,1)]) (Q:=1) (c:=1) ⟨λq hq=>by rw[aR.mp hq];exact aL _,λq hq=>by rw[aR.mp hq];exact aL _⟩;exact((h.bx h0 h1).sum this).mono (aL _) (by show 3 * C+1 * (1 * C)<=_;lia)
def W2{n:Nat}{w:ag}(pw:w.Perm<|rg n):Sz n 0 1 [(w,[(0,1)])]:=by
 refine Sz.of (WK w Xr λz=>nomatch z) (λx f=>by rw[aR.mp f];exact pw) λe d=>by
  rw[aR.mp d];exact⟨λq hq=>by rw[aR.mp hq];exact aL _,λq hq=>by rw[aR.mp hq];exact aL _⟩
def ab3{n:Nat}(hn:n<6)(i:Nat):∀{w:ag},w.Perm (rg n)->Iv.inv w=i->Sz n i (Cb i) (K w):=by
 induction i using Nat.strongRecOn with
 | ind i p=>
  intro w f C
  cases hf:ff w with
  | none=>rw[M7 hf];exact(W2 f).mono (bL _) (yW (i:=0)<|bL _)
  | some k=>
   have d:=E4 f hf;have iv:=d.iv;obtain⟨j,rfl⟩:∃j,i=j+1:=⟨Iv.inv<|Wd.ex w k,()⟩;have t:Iv.inv (Wd.ex w k)=j:=()
   have z:=p j () d.pe t;have m:=z.many hn;rw[Nb f hf];refine(Jc (Qu z d.h0 d.h1) (L:=Cb<|j-1) (B:=Cb j) (λe g fe=>?_) λe g=>U7 (z.pb g).1 1).mono (aL _) (bM ?_<|IZ j)
   ·have l:=Mr d.pe e g;have:Iv.inv e.1<j:=by
     rcases l.2 with q|q
     ·rw[q,d.fe]at fe;exact nomatch fe
     ·lia
    exact(p (Iv.inv e.1) () l.1 rfl).mono () (yW ())
   ·exact Nat.add_le_add_left (Nat.mul_le_mul_right _ m) _
def Yu{n:Nat}(hn:n<6){w:ag}(pw:w.Perm<|rg n):Sz n 10 (Cb 10) (K w):=by
 have:=Jg w;have d:w.length=n:=by rw[pw.length_eq,Wd.mJ]
 have:Iv.inv w<=10:=by
  rw[d]at this;have:n * (n-1)<=5 * 4:=jB () ()
  lia
 exact(ab3 hn _ pw rfl).mono this (yW this)
end Kl
namespace K72
open PySem L2 Am
def Sn.bx{N P n k:Nat}{l:Su.Ps}(h:Sn N P C S n l)(hN:N<5)(k1:1<=k)(k2:k<N)(hP:P<=14)(hC:C<big) :
  ∃(L:Nat) (S':jH),mW [.ref n,.int k] S=.ok (.ref L) S'/\Sn N (P+1) (3 * C) S' L (Su.bx k l)/\k_ S S':=by
 obtain⟨z,es,s,rfl⟩:=h;have g:=z.m24 hN;rw[Su.Ai]at g;obtain⟨L,q,d,j,t,m,_,_,_,_,B⟩:=RW (P:=P) s (k:=k) (N:=N) (λe f=>by
  have b:=z.pb<|nA rfl f;exact⟨oN<|z.pm _<|nA rfl f,⟨b.2,z.rb<|nA rfl f⟩,λp hp=>eT (b.1.c p hp) hC⟩) k1 k2 () hP ()
 exact⟨L,q,j,⟨z.bx k1 k2,d,t,m⟩,B⟩
open Po (Pl Ok)
open Su (Es)
open He (Sz PB)
open Fw (rg)
def M3{n:Nat}{p:Pl}(h:jF S n=some (Po.pl p))(hp:Ok p):kY [.ref n] S=.ok (.int<|Po.val p 1) (S++[.qi<|Po.iv p]):=by
 unfold kY qe p_;dsimp[kj,lU,bools,lE,Nat.reduceAdd,Nat.reduceSub,C3,BQ,h,Po.N3,Po.Jp,Po.J7 hp,Hl,G6,fM,zR,Po.Gg]
def Cr:Kl.Cb 10<big:=by rw[y_];decide +kernel
def Sn.LU{N P n d:Nat}{l:Su.Ps}(h:Sn N P C S n l)(k:Kp (·=d) S S')(hd:jV S d=some kvs):Sn N P C S' n l:=by
 obtain⟨a,es,b,c⟩:=h;exact⟨a,es,b.LU k hd,c⟩
def Vp{N n:Nat}{o:ag}(hN:N<6)(po:o.Perm<|rg N)(h:Sm S n es)(e:Su.sm es=Kl.K o):Sn N 10 (Kl.Cb 10) S n (Kl.K o):=⟨Kl.Yu hN po,es,h,e⟩
def Bp(x y:A):gd (([x,y]:ae).length<=sizeLine)=λr:Am.R A=>r:=by funext r;exact rZ<|show 2<=16777216 by decide
def Ke(x:A)(S:jH):newL [x] S=.ok (.ref S.length) (S++[.lst [x]]):=rZ<|show 1<=16777216 by decide
abbrev Fnd (N d f:Nat)(Fs:ae->jH->R A):Prop:=∀(T:jH) (K:Es) (o:ag),Iv.inv o<f->o.Perm (rg N)->Kn N Kl.K T d K ->
  ∃(r:Nat) (g:jH) (k j:Es),Fs [.tup<|o.map .int,.ref d] T=.ok (.ref r) g/\Kn N Kl.K g d k/\Sm g r j/\Su.sm j=Kl.K o/\Kp (·=d) T g
def UP{Fs:ae->jH->R A}{N d f n L k:Nat}{K:Es}{e:Su.En}{x:A}(h5:N<5)(ih:Fnd N d f Fs)(hk:Kn N Kl.K T d K)(ht:Sn N 11 A' T L told)(pe:e.1.Perm<|rg N)(he:Iv.inv e.1<f)(le:jF T e.2.1=some (Po.pl e.2.2))(oe:Ok e.2.2)(be:(Po.val e.2.2 1).natAbs<big)(k1:1<=k)(k2:k<N) :
  ∃(v:A) (L' A'':Nat) (T':jH) (K':Es),nq Fs [x,.int k,.ref d,.ref n,.ref L,.tup<|e.1.map .int,.ref e.2.1,y] T=.nx [x,.int k,.ref d,.ref n,.ref L',.tup<|e.1.map .int,.ref e.2.1,v] T'/\Kn N Kl.K T' d K'/\Sn N 11 A'' T' L' (Kl.step k Kl.K told (e.1,e.2.2))/\Kp (·=d) T T':=by
 have hN:N<6:=()
 have h1:=M3 le oe;have lo:=oN pe;obtain⟨T1,t⟩:∃T1,T1=T++[O.qi<|Po.iv e.2.2]:=⟨_,rfl⟩;have C:k_ T T1:=by rw[t];kj_on
 rw[<- t]at h1;unfold nq;by_cases h0:Po.val e.2.2 1=0
 ·have b0:(Po.val e.2.2 1 == 0)=true:=ja.mpr h0;refine⟨.int<|Po.val e.2.2 1,L,A',T1,K,?_,hk.yH C,?_,C.of0⟩
  ·dsimp[kj,lU,bools,h1,b0,bY]
  ·unfold Kl.step;rw[aQ λz=>z.1 h0];exact ht.kp C
 ·have b0:(Po.val e.2.2 1 == 0)=false:=dc.mpr h0;have G:=vc (S:=T1) (xs:=e.1) (n:=N) lo ();have g:Ry false (.int k) (.ref T1.length) (T1++[.lst<|(fl e.1 N).map .int])=.ok (.bl<|Su.sY e.1 k) (T1++[.lst<|(fl e.1 N).map .int]):=by
   show opt (jF _ _) _=_;rw[jW,jS,yZ,JN lo k1 k2];rfl
  obtain⟨T2,B⟩:∃T2,T2=T1++[O.lst<|(fl e.1 N).map .int]:=⟨_,rfl⟩;have q2:k_ T1 T2:=by rw[B];kj_on
  rw[<- B]at g G;have m:=C.trans q2
  cases hf:Su.sY e.1 k with
  | false=>
   rw[hf]at g;refine⟨.int<|Po.val e.2.2 1,L,A',T2,K,?_,hk.yH m,?_,m.of0⟩
   ·dsimp[kj,lU,bools,h1,b0,c7,G,g]
   ·unfold Kl.step;rw[aQ λz=>by rw[hf]at z;exact nomatch z.2];exact ht.kp m
  | true=>
   rw[hf]at g;obtain⟨T3,p⟩:∃T3,T3=T2++[O.lst [.tup [.int 0,.int<|-Po.val e.2.2 1]]]:=⟨_,rfl⟩;have q3:k_ T2 T3:=by rw[p];kj_on
   have V:jF T3 T2.length=some (([(0,-Po.val e.2.2 1)]:Pl).map Po.pA):=by rw[p];exact jW
   have j:=m.trans q3;obtain⟨r,T4,K4,rs,x4,n4,s4,e4,J⟩:=ih T3 K e.1 he pe<|hk.yH j;have P:=(hk.yH j).dd;have l4:=J.lst _ _ (λz=>Su.mO P V z.symm) V;obtain⟨L5,T5,x5,s5,k5⟩:=(Vp hN pe s4 e4).Wa Po.pA (λ_ _ _=>rfl) h5 () l4 (Q:=0) (c:=(Po.val e.2.2 1).natAbs) ⟨λq hq=>by rw[aR.mp hq];show(-_:Int).natAbs<=_;rw[Int.natAbs_neg];exact aL _,λq hq=>by rw[aR.mp hq];exact aL _⟩ (show 1<=2 by decide) ⋯ Cr be;obtain⟨Z,W,Y,U,M⟩:=(((ht.kp j).LU J P).kp k5).add (s5.mono ⋯ (aL _)) h5 () ⋯;have st:Kl.step k Kl.K told (e.1,e.2.2)=He.zF told (He.FW [(0,-Po.val e.2.2 1)]<|Kl.K e.1):=by unfold Kl.step;rw[aS ⟨h0,hf⟩]
   rw[<- st]at U;refine⟨.int<|Po.val e.2.2 1,Z,_,W,K4,?_,(n4.yH k5).yH M,U,((j.of0.trans J).trans k5.of0).trans M.of0⟩;have F:M5 (.int<|Po.val e.2.2 1) T2=.ok (.int<|-Po.val e.2.2 1) T2:=rfl;dsimp[kj,lU,bools,h1,b0,c7,G,g,F,Bp,Ke,<- p,x4,x5,Y]
end K72
namespace K72
open PySem L2 Am
open Po (Pl Ok)
open Su (Es)
open He (Sz PB)
open Fw (rg)
def VN:gd (2<=sizeLine)=λr:Am.R A=>r:=by funext r;exact rZ<|show 2<=16777216 by decide
def Sb{Fs:ae->jH->R A}{N d f n k:Nat}{x:A}{wl:ag}(h5:N<5)(ih:Fnd N d f Fs)(hk:Kn N Kl.K S d K0)(ht:Sn N 11 A0 S L0 told)(pw:wl.Perm<|rg N)(iw:Iv.inv wl<f)(hs:Sm S n es)(hse:Su.sm es=Kl.K wl)(k1:1<=k)(k2:k<N) :
  ∃(y5 y6 y7:A) (L' A'':Nat) (S':jH) (K':Es),mj (pJ Fs) (DT 2<|vE (ko 5)<|vE (ko 6) DU) (nq Fs) [x,.int k,.ref d,.ref n,.ref L0,.unb,.unb,.unb] S=.nx [x,.int k,.ref d,.ref n,.ref L',y5,y6,y7] S'/\Kn N Kl.K S' d K'/\Sn N 11 A'' S' L' ((Kl.K wl).foldl (Kl.step k Kl.K) told)/\Kp (·=d) S S':=by
 have j:(es.map Su.ent).length=es.length:=aH ..;have L:N<6:=()
 have q:=Kl.Yu L pw;refine oJ (n:=n) (xs:=es.map Su.ent) (S1:=S) (show pJ Fs _ _=_ from lY (by dsimp[kj,bools]) hs.l)
  (λi τ T=>∃(y5 y6 y7:A) (L' A'':Nat) (K':Es),τ=[x,.int k,.ref d,.ref n,.ref L',y5,y6,y7]/\Kn N Kl.K T d K'/\Sn N 11 A'' T L' ((Su.sm<|es.take i).foldl (Kl.step k Kl.K) told)/\Kp (·=d) S T)
  (λr=>∃(y5 y6 y7:A) (L' A'':Nat) (S':jH) (K':Es),r=.nx [x,.int k,.ref d,.ref n,.ref L',y5,y6,y7] S'/\Kn N Kl.K S' d K'/\Sn N 11 A'' S' L' ((Kl.K wl).foldl (Kl.step k Kl.K) told)/\Kp (·=d) S S')
  ⟨_,_,_,L0,A0,K0,rfl,hk,ht,Kp.refl⟩ (λi τ T h=>?_) ?_ ?_
 ·obtain⟨_,_,_,_,_,_,_,_,_,kp⟩:=h;exact kp.lst _ _ (λz=>Su.mO hk.dd hs.l z.symm) hs.l
 ·rintro i z τ T B ⟨y5,y6,y7,L',A'',K',rfl,m,g,kp⟩;rw[aP]at B;obtain⟨e,C,rfl⟩:=aW.mp B;have t:=bw C;have p:(e.1,e.2.2)∈Kl.K wl:=nA hse t;have lo:=Kl.Mr pw _ p;have pb:=q.pb p;obtain⟨v,O,G,T1,M,e1,P,J,F⟩:=UP (Fs:=Fs) (n:=n) (x:=x) (y:=y7) h5 ih m g (e:=e) lo.1 (eT lo.le iw) ((hs.LU kp hk.dd).a e t) (q.cn.gd.ok _ p) (eT (Kl.U7 pb.1 1) Cr) k1 k2;refine⟨[x,.int k,.ref d,.ref n,.ref L',.tup<|e.1.map .int,.ref e.2.1,y7],T,rfl,.inl ⟨_,T1,e1,_,_,_,O,G,M,rfl,P,?_,kp.trans F⟩⟩;rw[bR,C,Su.F3,e_];exact J
 ·rintro τ T ⟨y5,y6,y7,L',A'',K',rfl,m,g,kp⟩;rw[j,bX,hse]at g;exact⟨y5,y6,y7,L',A'',T,K',rfl,m,g,kp⟩
def Ud{Fs:ae->jH->R A}{N d f k:Nat}{w:ag}(h5:N<5)(ih:Fnd N d f Fs)(hk:Kn N Kl.K S d K0)(pw:w.Perm<|rg N)(hf:He.ff w=some k)(iw:Iv.inv w<f+1) :
  ∃(r:Nat) (S':jH) (K' rs:Es),kQ kR (kU Fs) [.tup<|w.map .int,.int k,.ref d] S=.ok (.ref r) S'/\Kn N Kl.K S' d K'/\Sm S' r rs/\Su.sm rs=Kl.K w/\Kp (·=d) S S':=by
 have hN:N<6:=()
 have g:=Kl.E4 pw hf;have iv:=g.iv;obtain⟨S1,L,k1⟩:=HB (S:=S) (xs:=w) (k:=k) g.h0 (by rw[oN pw];exact g.h1) (by rw[oN pw];lia);obtain⟨r2,S2,K2,Z,x2,n2,C,e2,k2⟩:=ih S1 K0 (Wd.ex w k) () g.pe<|hk.yH k1;have J:=Vp hN g.pe C e2;obtain⟨L3,S3,V,s3,k3⟩:=J.bx h5 g.h0 g.h1 ⋯ Cr;obtain⟨t,m⟩:∃t,t=S3++[O.lst [.tup [.int 1,.int 1]]]:=⟨_,rfl⟩;have F:k_ S3 t:=by rw[m];kj_on
 have l4:jF t S3.length=some (([(1,1)]:Pl).map Po.pA):=by rw[m];exact jW
 have z:=k3.trans F;obtain⟨L5,S5,x5,s5,k5⟩:=(J.kp z).Wa Po.pA (λ_ _ _=>rfl) h5 (by have:=g.h1;lia) l4 (Q:=1) (c:=1) ⟨λq hq=>by rw[aR.mp hq];exact aL _,λq hq=>by rw[aR.mp hq];exact aL _⟩ ⋯ ⋯ Cr (by rw[y_];decide +kernel);have p:=F.trans k5;obtain⟨L6,S6,P,Y,U⟩:=(s3.kp p).add s5 h5 (by have:=g.h1;lia) ⋯;have j:=(k3.trans p).trans U;obtain⟨y5,y6,y7,L7,A7,W,K7,M,n7,G,T⟩:=Sb (x:=.tup<|w.map .int) h5 ih (n2.yH j) Y g.pe () (C.kp j) e2 g.h0 g.h1;have eq:(Kl.K<|Wd.ex w k).foldl (Kl.step k Kl.K) (He.zF (Su.bx k<|Kl.K<|Wd.ex w k)<|He.FW [(1,1)]<|Kl.K<|Wd.ex w k)=Kl.K w:=(Kl.Nb pw hf).symm;rw[eq]at G;obtain⟨_,B,m7,e7⟩:=G;refine⟨L7,W,K7,B,?_,n7,m7,e7,((k1.of0.trans k2).trans j.of0).trans T⟩;unfold kU kR;dsimp[kj,lU,bools,lE,Nat.reduceAdd,Nat.reduceSub,L,x2,V,VN,Bp,Ke,<- m,x5,P,↓M]
theorem Ht{N d:Nat}(h5:N<5):∀(f:Nat),Fnd N d f (mY f)
 | 0=>λ_ _ _ h _ _=>absurd h (d8 _)
 | f+1=>λS K o hf G hK=>by
  have hN:N<6:=()
  have lo:=oN G;show ∃(r:Nat) (S':jH) (M rs:Es),kQ oE (oS<|mY f) [.tup<|o.map .int,.ref d] S=.ok (.ref r) S'/\_;have B:Ln true (.tup<|o.map .int) (.ref d) S=.ok (.bl<|!(kF (K.map Su.kv) o).isSome) S:=by rw[MA,hK.dd,jS]
  unfold oS oE
  cases Y:Su.fE K o with
  | some e=>
   obtain⟨m1,rfl⟩:=Su.ud Y;obtain⟨rs,r1,r2⟩:=hK.at_ e m1;have J:kF (K.map Su.kv) e.1=some (.ref e.2.1):=by rw[Su.vB,Y];rfl
   have q:sD (.ref d) (.tup<|e.1.map .int) S=.ok (.ref e.2.1) S:=by rw[Su.yO,hK.dd,jS,J,jS]
   rw[J]at B;refine⟨e.2.1,S,K,rs,?_,hK,r1,r2,Kp.refl⟩;dsimp[kj,lU,bools,lE,Nat.reduceAdd,Nat.reduceSub,B,iY,bY,q]
  | none=>
   have J:kF (K.map Su.kv) o=none:=by rw[Su.vB,Y];rfl
   rw[J]at B;have U:=vc (S:=S) (xs:=o) (n:=N) lo ();have P:(fl o N).head?=(He.ff o).map λk:Nat=>(k:Int):=by
    have:=He.Si (o:=o);rw[lo]at this;exact this
   obtain⟨S1,j⟩:∃S1,S1=S++[O.lst<|(fl o N).map .int]:=⟨_,rfl⟩;have k1:k_ S S1:=by rw[j];kj_on
   have F:jF S1 S.length=some ((fl o N).map .int):=by rw[j];exact jW
   rw[<- j]at U;have L:=BW F
   cases g:He.ff o with
   | none=>
    have fe:fl o N=[]:=by
     rw[g]at P;exact List.head?_eq_none_iff.mp P
    obtain⟨S2,m⟩:∃S2,S2=S1++[O.lst [.tup [.int 0,.int 1]]]:=⟨_,rfl⟩;have k2:k_ S1 S2:=by rw[m];kj_on
    have l2:jF S2 S1.length=some (Po.pl [(0,1)]):=by rw[m];exact jW
    obtain⟨S3,p⟩:∃S3,S3=S2++[O.lst [.tup [.tup<|o.map .int,.ref S1.length]]]:=⟨_,rfl⟩;have k3:k_ S2 S3:=by rw[p];kj_on
    have l3:jF S3 S2.length=some (([(o,S1.length,[(0,1)])]:Es).map Su.ent):=by rw[p];exact jW
    have sm:Sm S3 S2.length [(o,S1.length,[(0,1)])]:=⟨l3,λe he=>by rw[aR.mp he];exact k3.lst _ _ (λz=>z) l2⟩;have kq:Su.sm [(o,S1.length,[((0:Int),(1:Int))])]=Kl.K o:=by rw[Kl.M7 g];rfl
    have C:=(k1.trans k2).trans k3;obtain⟨T,M,e1,Z,q,V,kp⟩:=(hK.yH C).put hN G sm kq;refine⟨S2.length,T,M,_,?_,Z,V,kq,C.of0.trans kp⟩;rw[fe]at L;dsimp[kj,lU,bools,lE,Nat.reduceAdd,Nat.reduceSub,B,isSome_none,c7,U,L,fY,jq,bY,VN,Bp,Ke,<- m,<- p,Su.yP,e1,q]
   | some k=>
    obtain⟨t,ft⟩:∃t,fl o N=(k:Int)::t:=by
     rw[g]at P;exact List.head?_eq_some_iff.mp P
    rw[ft]at L F;obtain⟨r3,S3,K3,W,x3,n3,s3,q3,k3⟩:=Ud h5 (Ht h5 f) (hK.yH k1) G g hf;obtain⟨T,M,e1,Z,q,V,kp⟩:=n3.put hN G s3 q3;refine⟨r3,T,M,W,?_,Z,V,q3,(k1.of0.trans k3).trans kp⟩;dsimp[kj,lU,bools,lE,Nat.reduceAdd,Nat.reduceSub,B,isSome_none,c7,U,L,bH,jl,bY];rw[bH]at F;dsimp[kj,lU,bools,F,yy,↓x3,Su.yP,e1,q]
end K72
namespace K72
open PySem L2 Am
def W3{n:Nat}{d:List<|m5×A}(h:qh S n=some d)(h':jF S m=some xs):n≠m:=λz=>by
 subst z;have e1:=pS h;rw[jU h']at e1
 cases e1
def WT{n:Nat}{d:List<|m5×A}(h:qh S n=some d)(h':jV S m=some xs):n≠m:=λz=>by
 subst z;have e1:=pS h;rw[lO h']at e1
 cases e1
def Kp.vA{b:Nat->Prop}(h:Kp b S S')(n:Nat)(d:List<|m5×A)(hb:¬b n)(e:qh S n=some d):qh S' n=some d:=zJ<|h.obj n _ hb<|pS e
def Iq(x w:ag):Eh (.tup [.tup<|x.map .int,.tup<|w.map .int])=some (x,w):=by
 unfold Eh;dsimp only;rw[ints_map,ints_map];rfl
def YV{d:Nat}{x w:ag}:AQ false (.tup [.tup<|x.map .int,.tup<|w.map .int]) (.ref d) S=opt (qh S d) λkvs=>.ok (.bl (rG kvs (x,w)).isSome) S:=by
 show opt (qh S d) (λkvs=>opt (Eh _) _)=_;rw[Iq];rfl
def RN{d:Nat}{S:jH}{x w:ag}{v:A}:E2 (.ref d) (.tup [.tup<|x.map .int,.tup<|w.map .int]) v S=opt (qh S d) λkvs=>gd (kvs.length<sizeLine) (.ok Unit.unit<|S.set d<|.vA<|yI kvs (x,w) v):=by
 show opt (qh S d) (λkvs=>opt (Eh _) _)=_;rw[Iq];rfl
def Sf{co ci:Ex}{a:A}:Tt co ci a τ S=(co τ S).bind λo S1=>(ci τ S1).bind λi S2=>(E2 o i a S2).bind λ_ S3=>.ok τ S3:=rfl
def Lh{S:jH}:Ga τ S=.ok (.ref S.length) (S++[.vA []]):=rfl
def Of{k:m5}{v:A}{kvs:List<|m5×A}:(yI kvs k v).length<=kvs.length+1:=by
 unfold yI;split
 ·rw[aH];lia
 ·rw[bq];exact aL _
def isQ{kvs:List<|m5×A}{k:m5}:(rG kvs k).isSome=decide (k∈kvs.map (·.1)):=by
 unfold rG;rw[dZ]
 cases h:kvs.find? λkv=>decide (kv.1=k)with
 | none=>
  refine(bA λz=>?_).symm;obtain⟨p,hp,e⟩:=bf.mp z;have:=fL.mp h p hp;exact this<|bg e
 | some p=>
  refine(bg ?_).symm;have h1:=c_ h;have h2:=fN h;have h2:=bU h2;exact bf.mpr ⟨p,h1,h2⟩
def KL{kvs:List<|m5×A}{k q:m5}{v:A}:q∈(yI kvs k v).map (·.1) ↔ q∈kvs.map (·.1)\/q=k:=by
 unfold yI;split
 ·rename_i h;rw[isQ]at h;have h:=bU h;have:(kvs.map λp=>if p.1=k then(p.1,v)else p).map (·.1)=kvs.map (·.1):=by
   rw[bh];refine bW λp _=>?_;show(if p.1=k then(p.1,v)else p).1=p.1;split<;>rfl
  rw[this];constructor
  ·exact .inl
  ·rintro(z|z)
   ·exact z
   ·rw[z];exact h
 ·rw[bD,bJ,bH,fY,aR]
structure Ks (S:jH)(d m:Nat)(ps:List m5):Prop where
 ex:∃kvs,qh S d=some kvs/\kvs.length<=m/\∀q,q∈kvs.map (·.1) ↔ q∈ps
def Ks.put{d:Nat}{x w:ag}{v:A}(h:Ks S d m ps)(hm:m<16777216):∃S',E2 (.ref d) (.tup [.tup<|x.map .int,.tup<|w.map .int]) v S=.ok Unit.unit S'/\Ks S' d (m+1) (ps++[(x,w)])/\Kp (·=d) S S':=by
 obtain⟨kvs,h1,h2,h3⟩:=h.ex;have f:d<S.length:=(aJ.mp<|pS h1).1;refine⟨S.set d<|.vA<|yI kvs (x,w) v,?_,⟨yI kvs (x,w) v,zJ<|by rw[br f],bM Of (),λq=>?_⟩,Kp.refl.t6<|.inl rfl⟩
 ·rw[RN,h1,jS];exact uh ()
 ·rw[KL,h3,bJ,aR]
def Ks.inq{d:Nat}{ps:List m5}{x w:ag}(h:Ks S d m ps):AQ false (.tup [.tup<|x.map .int,.tup<|w.map .int]) (.ref d) S=.ok (.bl<|decide<|(x,w)∈ps) S:=by
 obtain⟨kvs,h1,h2,h3⟩:=h.ex;rw[YV,h1,jS,isQ,f9.mpr<|h3 (x,w)]
def Ks.kp{d:Nat}{b:Nat->Prop}(h:Ks S d m ps)(k:Kp b S S')(hb:¬b d):Ks S' d m ps:=by
 obtain⟨kvs,h1,h2⟩:=h.ex;exact⟨kvs,Kp.vA k _ _ hb h1,h2⟩
def Ks.mono{d:Nat}(h:Ks S d m ps)(hm:m<=m'):Ks S d m' ps:=by
 obtain⟨kvs,h1,h2,h3⟩:=h.ex;exact⟨kvs,h1,bM h2 hm,h3⟩
def Ks.ne{d n:Nat}(h:Ks S d m ps)(h':jF S n=some xs):d≠n:=by
 obtain⟨kvs,h1,_⟩:=h.ex;exact W3 h1 h'
def Ks.nd{d n:Nat}(h:Ks S d m ps)(h':jV S n=some xs):d≠n:=by
 obtain⟨kvs,h1,_⟩:=h.ex;exact WT h1 h'
open Po (Pl Ok)
open Su (Es)
open He (Sz PB)
open Fw (rg)
abbrev We (u:ag)(e:ag×Pl):List m5:=if Po.val e.2 1=0 then[]else[(e.1,u),(u,e.1)]
abbrev ldK (u:ag):List m5:=(Kl.K u).flatMap<|We u
abbrev Ld (os:List<|ag):List m5:=os.flatMap ldK
def Kn.kpq{N d L:Nat}{Φ:ag->Su.Ps}{K:Es}(h:Kn N Φ T d K)(k:Kp (·=L) T T')(hL:Ks T L m ps):Kn N Φ T' d K:=⟨k.dct _ _ (λz=>hL.nd h.dd z.symm) h.dd,h.gd,h.pm,λe f=>by
 obtain⟨es,a,b⟩:=h.at_ e f;exact⟨es,⟨k.lst _ _ (λz=>hL.ne a.l z.symm) a.l,λe f=>k.lst _ _ (λz=>hL.ne (a.a e f) z.symm)<|a.a e f⟩,b⟩⟩
def Sm.kpq{n L:Nat}(a:Sm T n es)(k:Kp (·=L) T T')(hL:Ks T L m ps):Sm T' n es:=⟨k.lst _ _ (λz=>hL.ne a.l z.symm) a.l,λe d=>k.lst _ _ (λz=>hL.ne (a.a e d) z.symm)<|a.a e d⟩
def Ri{N d L n c:Nat}{K:Es}{u:ag}{e:Su.En}(hk:Kn N Kl.K T d K)(hL:Ks T L m ps)(le:jF T e.2.1=some (Po.pl e.2.2))(oe:Ok e.2.2)(hm:m+2<16777216) :
  ∃(v:A) (T':jH),p7 [.ref n,.ref d,.ref L,.tup<|u.map .int,.tup<|e.1.map .int,.ref e.2.1,y] T=.nx [.ref n,.ref d,.ref L,.tup<|u.map .int,.tup<|e.1.map .int,.ref e.2.1,v] T'/\Ks T' L (m+2) (ps++We u (e.1,e.2.2))/\Kp (·=L) T T':=by
 have h1:=M3 le oe;obtain⟨T1,f⟩:∃T1,T1=T++[O.qi<|Po.iv e.2.2]:=⟨_,rfl⟩;have g:k_ T T1:=by rw[f];kj_on
 rw[<- f]at h1;unfold p7;by_cases h0:Po.val e.2.2 1=0
 ·have b0:(Po.val e.2.2 1 == 0)=true:=ja.mpr h0;refine⟨.int<|Po.val e.2.2 1,T1,?_,?_,g.of0⟩
  ·dsimp[kj,lU,bools,h1,b0,bY]
  ·unfold We;rw[aS h0,bO];exact(hL.kp g λz=>z).mono ()
 ·have b0:(Po.val e.2.2 1 == 0)=false:=dc.mpr h0;obtain⟨T2,q,k,k2⟩:=(hL.kp g λz=>z).put (x:=e.1) (w:=u) (v:=.int<|Po.val e.2.2 1) ();obtain⟨T3,p,j,k3⟩:=k.put (x:=u) (w:=e.1) (v:=.int<|Po.val e.2.2 1) ();refine⟨.int<|Po.val e.2.2 1,T3,?_,?_,(g.of0.trans k2).trans k3⟩
  ·dsimp[kj,lU,bools,h1,b0,c7,Sf,Bp,q,p]
  ·unfold We;rw[aQ h0];rw[cJ]at j;exact j
end K72
namespace K72
open PySem L2 Am
open Po (Pl Ok)
open Su (Es)
open He (Sz PB)
open Fw (rg)
def Oo{N d L n r:Nat}{K:Es}{u:ag}{rs:Es}(hN:N<6)(pu:u.Perm<|rg N)(hs:qg [.ref n,.ref d,.ref L,.tup<|u.map .int,y4,y5,y6] S=.ok (kW r (rs.map Su.ent).length) S1)(hk:Kn N Kl.K S1 d K)(hL:Ks S1 L m ps)(hr:Sm S1 r rs)(he:Su.sm rs=Kl.K u)(hm:m+240<16777216) :
  ∃(z4 z5 z6:A) (S':jH),nQ [.ref n,.ref d,.ref L,.tup<|u.map .int,y4,y5,y6] S=.nx [.ref n,.ref d,.ref L,.tup<|u.map .int,z4,z5,z6] S'/\Ks S' L (m+240) (ps++ldK u)/\Kp (·=L) S1 S':=by
 have k:(rs.map Su.ent).length=rs.length:=aH ..;have p:=Kl.Yu hN pu;have j:rs.length<=120:=by have:=p.many hN;rwa [<- he,Su.Ai]at this
 unfold nQ;refine oJ (n:=r) (xs:=rs.map Su.ent) (S1:=S1) hs
  (λi τ T=>∃(z4 z5 z6:A),τ=[.ref n,.ref d,.ref L,.tup<|u.map .int,z4,z5,z6]/\i<=rs.length/\Ks T L (m+2 * i) (ps++(Su.sm<|rs.take i).flatMap (We u))/\Kp (·=L) S1 T)
  (λR=>∃(z4 z5 z6:A) (S':jH),R=.nx [.ref n,.ref d,.ref L,.tup<|u.map .int,z4,z5,z6] S'/\Ks S' L (m+240) (ps++ldK u)/\Kp (·=L) S1 S')
  ⟨_,_,_,rfl,bL _,by rw[fB];show Ks S1 L m (ps++[]);rw[bO];exact hL,Kp.refl⟩ (λi τ T h=>?_) ?_ ?_
 ·obtain⟨_,_,_,_,_,_,kp⟩:=h;exact kp.lst _ _ (λz=>hL.ne hr.l z.symm) hr.l
 ·rintro i z τ T t ⟨z4,z5,z6,rfl,_,g,kp⟩;rw[aP]at t;obtain⟨e,f,rfl⟩:=aW.mp t;have q:=bw f;have G:(e.1,e.2.2)∈Kl.K u:=nA he q;have F:=(aJ.mp f).1;obtain⟨v,T1,e1,C,B⟩:=Ri (n:=n) (u:=u) (e:=e) (y:=z6) (c:=0) (hk.kpq kp hL) g ((hr.kpq kp hL).a e q) (p.cn.gd.ok _ G) ();refine⟨[.ref n,.ref d,.ref L,.tup<|u.map .int,.tup<|e.1.map .int,.ref e.2.1,z6],T,rfl,.inl ⟨_,T1,e1,_,_,_,rfl,F,?_,kp.trans B⟩⟩;rw[bR,f,Su.F3,iP,<- cJ];have:((Su.sm (some e).toList).flatMap<|We u)=We u (e.1,e.2.2):=bO _;rw[this];exact C
 ·rintro τ T ⟨z4,z5,z6,rfl,_,g,kp⟩;rw[k,bX,he]at g;exact⟨z4,z5,z6,T,rfl,g.mono (),kp⟩
def Rh{N n:Nat}{os:List<|ag}(h5:N<5)(hi:∀o∈os,o.Perm (rg N)/\Iv.inv o<8)(hn:jF S n=some (os.map λo=>.tup<|o.map .int))(hl:os.length<=120) :
  ∃(L:Nat) (S':jH),nE [.ref n] S=.ok (.ref L) S'/\Ks S' L 30000 (Ld os)/\k_ S S':=by
 have hN:N<6:=()
 obtain⟨S1,f⟩:∃S1,S1=S++[O.dct []]:=⟨_,rfl⟩;have k1:k_ S S1:=by rw[f];kj_on
 obtain⟨S2,j⟩:∃S2,S2=S1++[O.vA []]:=⟨_,rfl⟩;have k2:k_ S1 S2:=by rw[j];kj_on
 have d1:jV S1 S.length=some []:=by rw[f];exact Su.nM
 have d2:=k2.dct _ _ (λz=>z) d1;have p2:qh S2 S1.length=some []:=zJ (by rw[j];exact C_);have l1:S1.length=S.length+1:=by rw[f,bq];rfl
 have h0:Kn N Kl.K S2 S.length []:=⟨d2,Su.Gd.nil,(nofun),(nofun)⟩;have B:Ks S2 S1.length 0 []:=⟨[],p2,aL _,λq=>Iff.rfl⟩;have m:=(k1.trans k2).lst _ _ (λz=>z) hn;have p:∃(g y4 y5 y6:A) (S':jH),mj p6 (ko 3) nQ [.ref n,.ref S.length,.ref S1.length,.unb,.unb,.unb,.unb] S2=.nx [.ref n,.ref S.length,.ref S1.length,g,y4,y5,y6] S'/\Ks S' S1.length 30000 (Ld os)/\Kp (λx=>x=S.length\/x=S1.length) S2 S':=by
  refine oJ (n:=n) (xs:=os.map λo=>.tup<|o.map .int) (S1:=S2) (show p6 _ _=_ from lY (by dsimp[kj,bools]) m)
   (λi τ T=>∃(g y4 y5 y6:A) (K:Es),τ=[.ref n,.ref S.length,.ref S1.length,g,y4,y5,y6]/\i<=os.length/\Kn N Kl.K T S.length K/\Ks T S1.length (240 * i) (Ld<|os.take i)/\Kp (λx=>x=S.length\/x=S1.length) S2 T)
   (λR=>∃(g y4 y5 y6:A) (S':jH),R=.nx [.ref n,.ref S.length,.ref S1.length,g,y4,y5,y6] S'/\Ks S' S1.length 30000 (Ld os)/\Kp (λx=>x=S.length\/x=S1.length) S2 S')
   ⟨_,_,_,_,[],rfl,bL _,h0,by rw[fB];exact B,Kp.refl⟩ (λi τ T h=>?_) ?_ ?_
  ·obtain⟨_,_,_,_,_,_,_,_,_,kp⟩:=h;have:=lW hn;exact kp.lst _ _ (λz=>()) m
  ·rintro i z τ T W ⟨g,y4,y5,y6,K,rfl,_,J,t,kp⟩;rw[aP]at W;obtain⟨o,F,rfl⟩:=aW.mp W;have om:=bw F;obtain⟨V,io⟩:=hi o om;have C:=(aJ.mp F).1;obtain⟨r,T1,K1,rs,Z,P,U,e1,G⟩:=Ht (d:=S.length) h5 8 T K o io V J;have k:Ks T1 S1.length (240 * i) (Ld<|os.take i):=t.kp G λz=>()
   obtain⟨z4,z5,z6,T2,x2,M,Y⟩:=Oo (S:=T) (S1:=T1) (n:=n) (y4:=y4) (y5:=y5) (y6:=y6) hN V (show qg _ _=_ from lY (by dsimp[kj,lU,bools,show uf=mY 8 from rfl,Z]) U.l) P k U e1 ();refine⟨_,T,rfl,.inl ⟨_,T2,x2,_,_,_,_,K1,rfl,C,P.kpq Y k,?_,(kp.trans<|G.mono λ_ _ z=>.inl z).trans<|Y.mono λ_ _ z=>.inr z⟩⟩;unfold Ld at M ⊢;rw[bR,F,iP];have:(some o).toList.flatMap ldK=ldK o:=bO _;rw[this];exact M.mono ()
  ·rintro τ T ⟨g,y4,y5,y6,K,rfl,_,J,t,kp⟩;rw[aH,bX]at t;exact⟨g,y4,y5,y6,T,rfl,t.mono (),kp⟩
 obtain⟨g,y4,y5,y6,S',x3,s3,k3⟩:=p;refine⟨S1.length,S',?_,s3,((k1.trans k2)).old k3 λq hq _ z=>()⟩;unfold nE r8 rP;dsimp[kj,lU,bools,lE,Nat.reduceAdd,Nat.reduceSub,Su.xh,Lh,<- f,<- j,↓x3]
end K72
namespace K72
open PySem L2 Am
def wX{s:Src}{xs:ae}{src:Ic}{t:Te}{e:Ex}(hs:src τ S=.ok s S1)(hk:s.k=xs.length)(b:Nat->Prop)(hg:∀T,Kp b S1 T->∀i:Nat,i<xs.length->s.get i T=xs[i]?)(hfin:∀T,Kp b S1 T->s.fin T=true)(p:A->Bool)(f:A->A)
  (step:∀x∈xs,∀T,Kp b S1 T->∃T1,t (x::k9 cap τ) T=.ok (p x) T1/\Kp b T T1/\(p x=true->∃T2,e (x::k9 cap τ) T1=.ok (f x) T2/\Kp b T1 T2)) (hl:xs.length<=16777216) :
  ∃S',kO (none::cap) src (ko 0) t e τ S=.ok (.ref S'.length) (S'++[.lst<|(xs.filter p).map f])/\Kp b S1 S':=by
 have m:∀i,i<xs.length->xs.getD i .unb∈xs:=λi d=>by
  rw[aK,aI d];exact dD d
 obtain⟨S',h1,h2⟩:=xC (s:=s) (g:=ko 0) (t:=t) (e:=e) (P:=λT=>Kp b S1 T) (T:=λj=>∃y,j=y::k9 cap τ) (λi=>xs.getD i .unb) (λi=>p<|xs.getD i .unb) (λi=>f<|xs.getD i .unb) (λi T d h=>by
   rw[hk]at d;rw[hg T h i d,aK,aI d];rfl) hfin
  (λi j T d hy h=>by
   obtain⟨y,rfl⟩:=hy;rw[hk]at d;obtain⟨T1,e1,k1,q⟩:=step _ (m i d) T h;refine⟨xs.getD i .unb::k9 cap τ,T,T1,rfl,e1,⟨_,rfl⟩,λ_=>h.trans k1,λhp=>?_⟩;obtain⟨T2,e2,k2⟩:=q hp;exact⟨T2,e2,(h.trans k1).trans k2⟩) s.k 0 (k9 (none::cap) τ) S1 rfl ⟨_,rfl⟩ Kp.refl
 refine⟨S',?_,h2⟩;unfold kO;rw[hs,R.mH,h1,R.kD,hk,<- fV,nu xs p f .unb];refine mz ?_;rw[aH];exact bM (dN _ _) hl
def CF{n:Nat}{xs:ae}{src:Ic}{t:Te}{e:Ex}(hs:src τ S=.ok (kW n xs.length) S1)(hx:jF S1 n=some xs)(p:A->Bool)(f:A->A)
  (step:∀x∈xs,∀T,k_ S1 T->∃T1,t (x::k9 cap τ) T=.ok (p x) T1/\k_ T T1/\(p x=true->∃T2,e (x::k9 cap τ) T1=.ok (f x) T2/\k_ T1 T2)) (hl:xs.length<=16777216) :
  ∃S',kO (none::cap) src (ko 0) t e τ S=.ok (.ref S'.length) (S'++[.lst<|(xs.filter p).map f])/\k_ S1 S':=
 wX hs rfl _ (λT k i _=>by show(jF T n).bind _=_;rw[k.lst _ _ (λz=>z) hx];rfl) (λT k=>by
  show(match jF T n with
   | some ys=>decide (ys.length<=xs.length)
   | none=>false)=true
  rw[k.lst _ _ (λz=>z) hx];exact bg<|aL _) p f step hl
theorem Jv{st:A->A->A->jH->R Unit}{s:Src}{g:Tg}{ek ev:Ex}{n:Nat}(P:Nat->jH->Prop)(Q:ae->Prop)(step:∀i τ S,i<s.k->Q τ->P i S->∃x τ1 S1 y S3 z S4 S5,s.get i S=some x/\g x τ S=.ok τ1 S1/\Q τ1/\ek τ1 S1=.ok y S3/\ev τ1 S3=.ok z S4/\st (.ref n) y z S4=.ok Unit.unit S5/\P (i+1) S5)(hfin:∀S,P s.k S->s.fin S=true) :
  ∀k i τ S,k+i=s.k->Q τ->P i S->∃τ' S',yb st s g qJ ek ev n k i τ S=.ok τ' S'/\P s.k S'
 | 0,i,τ,S,hk,hT,hP=>by
  have:i=s.k:=()
  subst this;exact⟨τ,S,by unfold yb;rw[aS<|hfin S hP],hP⟩
 | k+1,i,τ,S,hk,hT,hP=>by
  obtain⟨x,τ1,S1,y,S3,z,S4,S5,e1,e2,d,e3,j,m,f⟩:=step i τ S () hT hP;obtain⟨τ',S',h1,h2⟩:=Jv P Q step hfin k (i+1) τ1 S5 () d f;refine⟨τ',S',?_,h2⟩;unfold yb;rw[e1,jS,e2,R.kD];show((ek τ1 S1).ny _)=_;rw[e3,R.kD,j,R.kD,m,R.kD,h1]
def Yi{n:Nat}{bs:List Bool}(h:jF S n=some xs)(hb:A.Me xs=some bs):WB (.ref n) S=.ok (.bl<|bs.any λb=>b) S:=by
 show opt (jF S n) _=_;rw[h];show opt (A.Me xs) _=_;rw[hb];rfl
def ZH(b:Bool)(xs:ae):A.Me (.bl b::xs)=(A.Me xs).map (b::·):=rfl
theorem Vi{α:Type}(f:α->Bool):∀(xs:List α),A.Me (xs.map λx=>.bl<|f x)=some (xs.map f)
 | []=>rfl
 | x::xs=>by rw[bH,ZH,Vi f xs];rfl
abbrev hof (N:Nat)(a b:ag):Bool:=(fl a N).any λk=>!decide (k∈fl b N)
abbrev Ru:A->Int
 | .int k=>k
 | _=>0
def Yp(o:ag)(N:Nat)(hN:N<6):(fl o N).length<=6:=by
 unfold fl;refine bM (dN _ _) ?_;unfold l8;rw[aH,bQ];lia
def WS{a b:ag}{N:Nat}(hN:N<6)(la:a.length=N)(lb:b.length=N):∃S',j6 [.tup<|a.map .int,.tup<|b.map .int] S=.ok (.bl<|hof N a b) S'/\k_ S S':=by
 have fa:=vc (S:=S) (xs:=a) (n:=N) la ();obtain⟨S1,d⟩:∃S1,S1=S++[O.lst<|(fl a N).map .int]:=⟨_,rfl⟩;have k1:k_ S S1:=by rw[d];kj_on
 have f:jF S1 S.length=some ((fl a N).map .int):=by rw[d];exact jW
 rw[<- d]at fa;have z:=Yp a N hN;obtain⟨S2,g,k2⟩:=CF (cap:=[some 1]) (t:=qJ) (e:=jT (Ry true) (jD 0)<|eFn mE<|jE (jD 1) jP) (τ:=[.tup<|a.map .int,.tup<|b.map .int]) (S:=S) (S1:=S1) (src:=lV<|eFn mE<|jE (jD 0) jP) (lY (by dsimp[kj,lU,bools,fa]) f) f (λ_=>true) (λx=>.bl<|!decide (Ru x∈fl b N)) (λx q T C=>⟨T,rfl,Kp.refl,λ_=>by
  obtain⟨k,B,rfl⟩:=bf.mp q;have p:=vc (S:=T) (xs:=b) (n:=N) lb ();refine⟨T++[.lst<|(fl b N).map .int],?_,Kp.refl.lay⟩;have m:Ry true (.int k) (.ref T.length) (T++[.lst<|(fl b N).map .int])=.ok (.bl<|!decide (k∈fl b N)) (T++[.lst<|(fl b N).map .int]):=by
   show opt (jF _ _) _=_;rw[jW,jS,yZ];rfl
  show jT (Ry true) (jD 0) (eFn mE<|jE (jD 1) jP) [.int k,.tup<|b.map .int] T=_;dsimp[kj,lU,bools,p,m];rfl⟩)<|by rw[aH];lia
 refine⟨S2++[O.lst<|(fl a N).map λk=>.bl<|!decide (k∈fl b N)],?_,(k1.trans k2).lay⟩;unfold j6 pD o9;have hf:((List.map A.int<|fl a N).filter λ_=>true).map (λx=>A.bl<|!decide (Ru x∈fl b N))=(fl a N).map λk=>.bl (!decide (k∈fl b N)):=by
  rw[gc.mpr λ_ _=>rfl,bh];rfl
 rw[hf]at g;have j:=Yi (S:=S2++[O.lst<|(fl a N).map λk=>.bl<|!decide (k∈fl b N)]) jW<|Vi (λk=>!decide (k∈fl b N))<|fl a N;rw[any_map]at j;dsimp[kj,lU,bools,lE,Nat.reduceAdd,Nat.reduceSub,↓g,j];rfl
end K72
namespace K72
open PySem L2 Am
abbrev tq (o:ag):A:=.tup<|o.map .int
def uq(o:ag)(T:jH):uV (tq o) T=.ok (tq o) T:=rfl
def isD{kvs:List<|ag×A}{k:ag}:(kF kvs k).isSome=decide (k∈kvs.map (·.1)):=by
 unfold kF;rw[dZ]
 cases h:kvs.find? λkv=>decide (kv.1=k)with
 | none=>
  refine(bA λz=>?_).symm;obtain⟨p,hp,e⟩:=bf.mp z;have:=fL.mp h p hp;exact this<|bg e
 | some p=>
  refine(bg ?_).symm;have h1:=c_ h;have h2:=fN h;have h2:=bU h2;exact bf.mpr ⟨p,h1,h2⟩
def yS{kvs:List<|ag×A}{k:ag}{v:A}(h:k∉kvs.map (·.1)):putD kvs k v=kvs++[(k,v)]:=by
 unfold putD;rw[isD,aQ<|by rw[g_];exact h]
def YB{d:Nat}:OG (.ref d) (tq o) S=opt (lC S d) λkvs=>opt (kF kvs o) λv=>.ok v S:=by
 show opt (lC S d) (λkvs=>opt (A.ints<|o.map .int) λns=>_)=_;rw[ints_map];rfl
def GX{d:Nat}:sD (.ref d) (tq o) S=opt (jV S d) λkvs=>opt (kF kvs o) λv=>.ok v S:=by
 show opt (jV S d) (λkvs=>opt (A.ints<|o.map .int) λns=>_)=_;rw[ints_map];rfl
def Yc{d:Nat}:Lf false (tq o) (.ref d) S=opt (lC S d) λkvs=>.ok (.bl (kF kvs o).isSome) S:=by
 show opt (lC S d) (λkvs=>opt (A.ints<|o.map .int) λns=>_)=_;rw[ints_map];rfl
def XD{d:Nat}(h:jV S d=some kvs):lC S d=some kvs:=by
 unfold lC;rw[lO h]
def YC{d:Nat}{S:jH}(h:S[d]?=some (.dcf kvs)):lC S d=some kvs:=by
 unfold lC;rw[h]
def u_{b:Nat->Prop}{d:Nat}(h:lC S d=some kvs)(k:Kp b S S')(hb:¬b d):lC S' d=some kvs:=by
 unfold lC at h;split at h
 ·rename_i e;cases h;unfold lC;rw[k.obj _ _ hb e]
 ·rename_i e;cases h;unfold lC;rw[k.obj _ _ hb e]
 ·cases h
def GS{n:Nat}{d:List<|ag×A}(h:lC S n=some d)(h':jF S m=some xs):n≠m:=λz=>by
 subst z;unfold lC at h;rw[jU h']at h
 cases h
structure Nx (S:jH)(d L:Nat)(os:List (ag))(nx:ag->List (ag)):Prop where
 ex:∃rs:List<|ag×Nat,lC S d=some (rs.map λe=>(e.1,.ref e.2))/\rs.map (·.1)=os/\∀e∈rs,jF S e.2=some ((nx e.1).map tq)/\e.2<L
 lt:d<L
def Nx.kp{d L:Nat}{os:List<|ag}{nx:ag->List (ag)}{b:Nat->Prop}(h:Nx S d L os nx)(k:Kp b S S')(hb:∀n,n<L->¬b n):Nx S' d L os nx:=by
 obtain⟨g,h1,h2,h3⟩:=h.ex;exact⟨⟨g,u_ h1 k<|hb _ h.lt,h2,λe f=>⟨k.lst _ _ (hb _ (h3 e f).2) (h3 e f).1,(h3 e f).2⟩⟩,h.lt⟩
def B9{rs:List<|ag×Nat}{o:ag}(h:o∈rs.map (·.1)):∃e∈rs,e.1=o/\kF (rs.map λe=>(e.1,A.ref e.2)) o=some (.ref e.2):=by
 induction rs with
 | nil=>cases h
 | cons e rs f=>
  by_cases c:e.1=o
  ·exact⟨e,aV ..,c,B4 (p:=(e.1,A.ref e.2)) c⟩
  ·rw[bH]at h;have h:=(bE.mp h).resolve_left λz=>c z.symm;obtain⟨g,d,e1,e2⟩:=f h;exact⟨g,aX _ d,e1,by rw[bH,By (p:=(e.1,A.ref e.2)) c];exact e2⟩
def Nx.ix{d L:Nat}{os:List<|ag}{nx:ag->List (ag)}(h:Nx S d L os nx){o:ag}(ho:o∈os):∃r,OG (.ref d) (tq o) S=.ok (.ref r) S/\jF S r=some ((nx o).map tq)/\r<L:=by
 obtain⟨g,h1,h2,h3⟩:=h.ex;rw[<- h2]at ho;obtain⟨e,f,rfl,e2⟩:=B9 ho;exact⟨e.2,by rw[YB,h1,jS,e2,jS],(h3 e f).1,(h3 e f).2⟩
meta abbrev Os:=List<|ag
abbrev IL (s:Os×Os)(o:ag):Os×Os:=if o∈s.1 then s else(s.1++[o],s.2++[o])
abbrev qU (s:Os×Os)(l:Os):Os×Os:=l.foldl IL s
abbrev rf (os:Os)(nx:ag->Os):Nat->Os->Os->Option Os
 | 0,_,_=>none
 | f+1,R,W=>if R.length<1000/\W.length<1000/\∀o∈W,o∈os/\(nx o).length<1000 then match W.getLast? with
   | none=>some R
   | some h=>rf os nx f (qU (R,W.dropLast)<|nx h).1 (qU (R,W.dropLast)<|nx h).2
  else none
abbrev mk (R:Os):List (ag×A):=R.map λo=>(o,.bl true)
def Ce(R:Os):(mk R).map (·.1)=R:=by
 unfold mk;rw[bh];exact jk _
def Q_(l:Os):∀(s:Os×Os),(qU s l).1.length<=s.1.length+l.length/\(qU s l).2.length<=s.2.length+l.length:=by
 induction l with
 | nil=>exact λs=>⟨aL _,aL _⟩
 | cons o l d=>
  intro s;have h:=d<|IL s o;have h1:(IL s o).1.length<=s.1.length+1/\(IL s o).2.length<=s.2.length+1:=by
   unfold IL;split
   ·exact⟨(),()⟩
   ·exact⟨by rw[bq];exact aL _,by rw[bq];exact aL _⟩
  show(qU (IL s o) l).1.length<=_/\(qU (IL s o) l).2.length<=_;rw[bB];exact⟨(),()⟩
abbrev Bq (r q:Nat)(n:Nat):Prop:=n=r\/n=q
def Xo{d r q:Nat}{l R W:Os}{x:A}(hs:nk [x,.ref d,.ref r,.ref q,h,y] S=.ok (kW m (l.map tq).length) S)(hm:jF S m=some (l.map tq))(mr:m≠q)(hr:jV S r=some (mk R))(hq:jF S q=some (W.map tq))(h1:R.length<1000)(h2:W.length<1000)(h3:l.length<1000) :
  ∃(y':A) (S':jH),mj nk (ko 5) o_ [x,.ref d,.ref r,.ref q,h,y] S=.nx [x,.ref d,.ref r,.ref q,h,y'] S'/\jV S' r=some (mk (qU (R,W) l).1)/\jF S' q=some ((qU (R,W) l).2.map tq)/\Kp (Bq r q) S S':=by
 have G:r≠q:=Su.mO hr hq;have J:r≠m:=Su.mO hr hm;refine oJ (n:=m) (xs:=l.map tq) (S1:=S) hs
  (λi τ T=>∃y',τ=[x,.ref d,.ref r,.ref q,h,y']/\i<=l.length/\jV T r=some (mk (qU (R,W)<|l.take i).1)/\jF T q=some ((qU (R,W)<|l.take i).2.map tq)/\Kp (Bq r q) S T)
  (λZ=>∃(y':A) (S':jH),Z=.nx [x,.ref d,.ref r,.ref q,h,y'] S'/\jV S' r=some (mk (qU (R,W) l).1)/\jF S' q=some ((qU (R,W) l).2.map tq)/\Kp (Bq r q) S S')
  ⟨_,rfl,bL _,by rw[fB];exact hr,by rw[fB];exact hq,Kp.refl⟩ (λi τ T z=>?_) ?_ ?_
 ·obtain⟨_,_,_,_,_,kp⟩:=z;exact kp.lst _ _ (λz=>z.elim (λz=>J z.symm) mr) hm
 ·rintro i z τ T B ⟨y',rfl,_,dT,f,kp⟩;rw[aP]at B;obtain⟨o,C,rfl⟩:=aW.mp B;have F:=(aJ.mp C).1;have bl:=Q_ (l.take i) (R,W);rw[b8]at bl;have bl1:(qU (R,W)<|l.take i).1.length<=R.length+min i l.length:=bl.1;have bl2:(qU (R,W)<|l.take i).2.length<=W.length+min i l.length:=bl.2;have st:qU (R,W) (l.take<|i+1)=IL (qU (R,W)<|l.take i) o:=by
   unfold qU;rw[bR,C,e_];rfl
  have k:Ln true (tq o) (.ref r) T=.ok (.bl<|!decide (o∈(qU (R,W)<|l.take i).1)) T:=by
   have:=MA (d:=r) (S:=T) (o:=o);rw[dT,jS,isD,Ce]at this;exact this
  refine⟨[x,.ref d,.ref r,.ref q,h,tq o],T,rfl,.inl ?_⟩;unfold o_;by_cases c:o∈(qU (R,W)<|l.take i).1
  ·rw[bg c]at k;refine⟨[x,.ref d,.ref r,.ref q,h,tq o],T,?_,_,rfl,F,?_,?_,kp⟩
   ·dsimp[kj,lU,bools,uq,k,bY]
   ·rw[st];unfold IL;rw[aS c];exact dT
   ·rw[st];unfold IL;rw[aS c];exact f
  ·rw[bA c]at k;obtain⟨g,p⟩:∃g,g=(qU (R,W)<|l.take i).1:=⟨_,rfl⟩;obtain⟨j,t⟩:∃j,j=(qU (R,W)<|l.take i).2:=⟨_,rfl⟩;rw[<- p]at dT c bl1;rw[<- t]at f bl2;have e1:n5 (.ref r) (tq o) (.bl true) T=.ok Unit.unit (T.set r<|.dct<|mk<|g++[o]):=by
    have:=Su.sR (n:=r) (o:=o) (v:=.bl true) (S:=T);rw[dT,jS,yS<|by rw[Ce];exact c]at this;refine this.trans ?_;rw[uh<|by unfold mk;rw[aH];lia];unfold mk;rw[bD];rfl
   have L:jF (T.set r<|.dct<|mk<|g++[o]) q=some (j.map tq):=by
    refine nH ?_;rw[bG G];exact jU f
   have lt:r<T.length:=Su.sj dT;have K:q<(T.set r<|.dct<|mk<|g++[o]).length:=by rw[bT];exact lW f
   refine⟨[x,.ref d,.ref r,.ref q,h,tq o],(T.set r<|.dct<|mk<|g++[o]).set q<|.lst<|(j++[o]).map tq,?_,_,rfl,F,?_,?_,(kp.t6<|.inl<|.inl rfl).t6<|.inl<|.inr rfl⟩
   ·rw[bD];dsimp[kj,lU,bools,uq,k,c7,Su.yP,e1,L,uh<|show(j.map tq).length<16777216 by rw[aH];lia];rfl
   ·rw[st];have:(IL (qU (R,W)<|l.take i) o).1=g++[o]:=by unfold IL;rw[aQ<|by rw[<- p];exact c,p]
    rw[this];refine pR ?_;rw[bG<|cA G,br lt]
   ·have:(IL (qU (R,W)<|l.take i) o).2=j++[o]:=by unfold IL;rw[aQ<|by rw[<- p];exact c,t]
    rw[st,this];refine nH ?_;rw[br K]
 ·rintro τ T ⟨y',rfl,_,dT,f,kp⟩;rw[aH,bX]at dT f;exact⟨y',T,rfl,dT,f,kp⟩
end K72
namespace K72
open PySem L2 Am
def Yq{S:jH}{q:Nat}{W:Os}(hq:jF S q=some (W.map tq))(hl:W.getLast?=some h):W4 (.ref q) [] S=.ok (tq h) (S.set q<|.lst<|W.dropLast.map tq):=by
 show opt (jF S q) _=_;rw[hq,jS];show opt ((W.map tq)[(W.map tq).length-1]?) _=_;rw[<- List.getLast?_eq_getElem?,List.getLast?_map,hl];show R.ok (tq h) (S.set q<|.lst (W.map tq).dropLast)=_;rw[List.map_dropLast]
theorem Pp{d r q L:Nat}{os:Os}{nx:ag->Os}{x:A}(hrL:L<=r)(hqL:L<=q):∀(f n:Nat) {S:jH}{R W:Os}{y4 y5:A},f<=n->rf os nx f R W=some res->Nx S d L os nx->jV S r=some (mk R)->jF S q=some (W.map tq) ->
  ∃(y4' y5':A) (S':jH),mF kI kN n [x,.ref d,.ref r,.ref q,y4,y5] S=.nx [x,.ref d,.ref r,.ref q,y4',y5'] S'/\jV S' r=some (mk res)/\Kp (Bq r q) S S'
 | 0,_,_,_,_,_,_,_,h,_,_,_=>nomatch h
 | f+1,0,_,_,_,_,_,hn,_,_,_,_=>absurd hn (Nat.not_succ_le_zero _)
 | f+1,n+1,S,R,W,y4,y5,hn,h,hN,hr,hq=>by
  unfold rf at h;split at h
  case isFalse=>cases h
  rename_i g;obtain⟨P,g2,Y⟩:=g;have K:=BW hq
  cases C:W.getLast? with
  | none=>
   rw[C]at h
   cases h
   have:W=[]:=List.getLast?_eq_none_iff.mp C;subst this;refine⟨y4,y5,S,?_,hr,Kp.refl⟩;unfold mF;have t0:kI [x,.ref d,.ref r,.ref q,y4,y5] S=.ok false S:=by
    unfold kI;dsimp[kj,lU,bools,K];rfl
   rw[t0];rfl
  | some t=>
   rw[C]at h;have j:t∈W:=List.mem_of_getLast? C;obtain⟨ho,hl⟩:=Y t j;have F:W≠[]:=λz=>by rw[z]at j;cases j
   have rq:r≠q:=Su.mO hr hq;have e1:=Yq hq C;obtain⟨S1,p⟩:∃S1,S1=S.set q (O.lst<|W.dropLast.map tq):=⟨_,rfl⟩;rw[<- p]at e1;have k1:Kp (Bq r q) S S1:=by rw[p];exact Kp.refl.t6 (.inl<|.inr rfl)
   have k1':Kp (·=q) S S1:=by rw[p];exact Kp.refl.t6 (.inl rfl)
   have N:jF S1 q=some (W.dropLast.map tq):=nH (by rw[p,br<|lW hq]);have r1:=k1'.dct _ _ rq hr;have V:=hN.kp k1' λn hn z=>()
   obtain⟨m,G,J,mL⟩:=V.ix ho;obtain⟨M,S2,x2,d2,l2,k2⟩:=Xo (x:=x) (h:=tq t) (y:=y5) (show nk [x,.ref d,.ref r,.ref q,tq t,y5] S1=.ok (kW m ((nx t).map tq).length) S1 from lY (by dsimp[kj,lU,bools,uq,G]) J) J () r1 N P (by rw[List.length_dropLast];lia) hl;have B:=k1.trans k2;obtain⟨y4',y5',S3,U,T,k3⟩:=Pp hrL hqL f n (x:=x) (y4:=tq t) (y5:=M) () h (hN.kp B λn hn z=>z.elim (λz=>()) λz=>()) d2 l2;refine⟨y4',y5',S3,?_,T,B.trans k3⟩;unfold mF;have t0:kI [x,.ref d,.ref r,.ref q,y4,y5] S=.ok true S:=by
    unfold kI;dsimp[kj,lU,bools,K]
    cases W with
    | nil=>exact absurd rfl F
    | cons _ _=>rfl
   have b0:kN [x,.ref d,.ref r,.ref q,y4,y5] S=.nx [x,.ref d,.ref r,.ref q,tq t,M] S2:=by
    unfold kN;have Z:(A.ref q).lst? S=some (W.map tq):=hq;dsimp[kj,lU,bools,Z,e1,↓x2]
   rw[t0];show(match kN _ S with
    | .nx k S'=>mF kI kN n k S'
    | .ct k S'=>mF kI kN n k S'
    | .bk k S'=>.nx k S'
    | r=>r)=_
   rw[b0];exact U
def Q3{ck cv:Ex}{S2:jH}{v:A}(h1:ck τ S=.ok (tq o) S1)(h2:cv τ S1=.ok v S2):JF ck cv τ S=.ok (.ref S2.length) (S2++[.dct [(o,v)]]):=by
 unfold JF;rw[h1,R.mH,h2,R.mH];show opt (A.ints<|o.map .int) _=_;rw[ints_map];rfl
def GH{d L:Nat}{os:Os}{nx:ag->Os}{f:Nat}{S:jH}{o:ag}(hf:f<=1000000)(h:rf os nx f [o] [o]=some res)(hN:Nx S d L os nx)(hL:L<=S.length) :
  ∃(r:Nat) (S':jH),lQ [tq o,.ref d] S=.ok (.ref r) S'/\jV S' r=some (mk res)/\S.length<=r/\k_ S S':=by
 obtain⟨S1,g⟩:∃S1,S1=S++[O.dct [(o,.bl true)]]:=⟨_,rfl⟩;have k1:k_ S S1:=by rw[g];kj_on
 have t:jV S1 S.length=some (mk [o]):=by rw[g];exact Su.nM
 have F:S1.length=S.length+1:=by rw[g,bq];rfl
 obtain⟨S2,j⟩:∃S2,S2=S1++[O.lst [tq o]]:=⟨_,rfl⟩;have k2:k_ S1 S2:=by rw[j];kj_on
 have C:jF S2 S1.length=some ([o].map tq):=by rw[j];exact jW
 have B:=k2.dct _ _ (λz=>z) t;have k:=k1.trans k2;obtain⟨y4,y5,S3,p,m,k3⟩:=Pp (r:=S.length) (q:=S1.length) (x:=tq o) (y4:=.unb) (y5:=.unb) hL () f 1000000 hf h (hN.kp k λ_ _ z=>z) B C;refine⟨S.length,S3,?_,m,aL _,k.old k3 λn hn _ z=>z.elim (λz=>()) λz=>()⟩;unfold lQ qX qF;have e0:=Q3 (ck:=jD 0) (cv:=eC<|.bl true) (τ:=[tq o,.ref d,.unb,.unb,.unb,.unb]) (S:=S) (S1:=S) (S2:=S) (o:=o) (v:=.bl true) (by dsimp[kj,lU,uq]) rfl;rw[<- g]at e0;dsimp[kj,lU,bools,lE,Nat.reduceAdd,Nat.reduceSub,e0,uq,Ke,<- j,↓p]
end K72
namespace K72
open PySem L2 Am
def ZM{x w:ag}:yQ false (tq x) (tq w) S=.ok (.bl<|decide<|x=w) S:=Xm (by
 show yC (DJ S 11) (x.map .int) (w.map .int)=_;exact BR x w)
theorem JS:∀{ls:List<|ag},(∀l∈ls,l≠[])->YN (ls.map tq)=some ls
 | [],_=>rfl
 | l::ls,h=>by
  have g:=h l<|aV ..;have f:=JS λk d=>h k<|aX _ d;show YN (.tup (l.map .int)::ls.map tq)=_;unfold YN;rw[ints_map]
  cases l with
  | nil=>exact absurd rfl g
  | cons k ks=>dsimp only;rw[f];rfl
def J_{S:jH}{n:Nat}{ls:List<|ag}(h:jF S n=some (ls.map tq))(hne:∀l∈ls,l≠[])(hl:ls.length<64):vY (.ref n) S=.ok (.ref S.length) (S++[.lst<|(ku ls).map tq]):=by
 show opt (jF S n) _=_;rw[h,jS,JS hne,jS,E9 hl];rfl
abbrev ev (es:List<|ag×Nat):List (ag×A):=es.map λe=>(e.1,.ref e.2)
def xg(es:List<|ag×Nat):(ev es).map (·.1)=es.map (·.1):=by unfold ev;rw[bh];rfl
def Gv{S:jH}{d:Nat}(h:jV S d=some kvs):lC (S.set d<|.dcf kvs) d=some kvs:=YC<|by rw[br<|Su.sj h]
def Nx.fz{S:jH}{d L:Nat}{os:Os}{nx:ag->Os}{rs:List<|ag×Nat}(h:jV S d=some (ev rs))(h2:rs.map (·.1)=os)(h3:∀e∈rs,jF S e.2=some ((nx e.1).map tq)/\e.2<L)(hd:d<L):Nx (S.set d<|.dcf<|ev rs) d L os nx:=
 ⟨⟨rs,Gv h,h2,λe f=>⟨nH<|by rw[bG<|Su.mO h (h3 e f).1];exact jU (h3 e f).1,(h3 e f).2⟩⟩,hd⟩
def Zw{S:jH}{d f:Nat}{os:Os}{nx rc:ag->Os}{rs:List<|ag×Nat}(h:jV S d=some (ev rs))(h2:rs.map (·.1)=os)(h3:∀e∈rs,jF S e.2=some ((nx e.1).map tq))(nd:os.Nodup)(ln:os.length<=1000)(hf:f<=1000000)(hrc:∀o∈os,rf os nx f [o] [o]=some (rc o)) :
  ∃(S':jH) (es:List<|ag×Nat),Ml (.dct []) n5 [none,some 0] (FH<|jD 0) (ko 0) qJ (jD 0) (eFn lQ<|jE (jD 0)<|jE (jD 1) jP) [.ref d,x1,x2,x3,x4] S=.ok (.ref S.length) S'/\jV S' S.length=some (ev es)/\es.map (·.1)=os/\(∀e∈es,jV S' e.2=some (mk<|rc e.1)/\S.length<e.2)/\(es.map (·.2)).Nodup/\lC S' d=some (ev rs)/\Kp (·=d) S S':=by
 have W:=Su.sj h;have M:=Nx.fz h h2 (λe t=>⟨h3 e t,lW<|h3 e t⟩) W;obtain⟨S1,m⟩:∃S1,S1=S.set d (O.dcf<|ev rs):=⟨_,rfl⟩;rw[<- m]at M;have F:S1.length=S.length:=by rw[m,bT]
 have k1:Kp (·=d) S S1:=by rw[m];exact Kp.refl.t6 (.inl rfl)
 have G:lC S1 d=some (ev rs):=by rw[m];exact Gv h
 have hs:FH (jD 0) [.ref d,x1,x2,x3,x4] S=.ok (p9<|os.map tq) S1:=by
  unfold FH;show opt (jV S d) _=_;rw[h,jS,<- m];have:(ev rs).map ZR=os.map tq:=by rw[<- h2];unfold ev;rw[bh,bh];rfl
  rw[this]
 obtain⟨S2,p⟩:∃S2,S2=S1++[O.dct []]:=⟨_,rfl⟩;have k2:k_ S1 S2:=by rw[p];kj_on
 have l2:S2.length=S.length+1:=by rw[p,bq,F];rfl
 have Z:jV S2 S.length=some (ev []):=by rw[p,<- F];exact Su.nM
 obtain⟨V,S',e1,es,p1,p2,p3,K,q⟩:=Jv (st:=n5) (s:=p9<|os.map tq) (g:=ko 0) (ek:=jD 0) (ev:=eFn lQ<|jE (jD 0)<|jE (jD 1) jP) (n:=S.length)
  (λi T=>∃es:List<|ag×Nat,jV T S.length=some (ev es)/\es.map (·.1)=os.take i/\(∀e∈es,jV T e.2=some (mk<|rc e.1)/\S.length<e.2)/\(es.map (·.2)).Nodup/\Kp (·=S.length) S2 T) (λτ=>∃y,τ=[y,.ref d]) (λi τ T B hq hP=>by
   obtain⟨y,rfl⟩:=hq;obtain⟨es,p1,p2,p3,K,q⟩:=hP;have B:i<(os.map tq).length:=B;rw[aH]at B;have Y:os[i]∈os:=dD B;have P:Nx T d S.length os nx:=(M.kp k2 λ_ _ z=>z).kp q λn hn z=>()
   have tl:=q.len;obtain⟨r,T1,x1,N,q2,J⟩:=GH hf (hrc _ Y) P ();have C:=J.dct _ _ (λz=>z) p1;have new:os[i]∉(ev es).map (·.1):=by
    rw[xg,p2];intro z;obtain⟨j,U,e⟩:=bP.mp z;rw[ig]at e;have lj:j<i:=by rw[b8]at U;lia
    have:=(b7 nd).mp e
    lia
   have e5:n5 (.ref S.length) (tq os[i]) (.ref r) T1=.ok Unit.unit (T1.set S.length<|.dct<|ev<|es++[(os[i],r)]):=by
    have:=Su.sR (n:=S.length) (o:=os[i]) (v:=.ref r) (S:=T1);rw[C,jS,yS new]at this;refine this.trans ?_;have le:es.length=i:=by have:=c9 List.length p2;rw[aH,b8]at this;lia
    rw[uh<|by unfold ev;rw[aH];lia];unfold ev;rw[bD];rfl
   have L:Kp (·=S.length) T1 (T1.set S.length<|.dct<|ev<|es++[(os[i],r)]):=Kp.refl.t6<|.inl rfl;refine⟨tq os[i],[tq os[i],.ref d],T,tq os[i],T,.ref r,T1,_,?_,rfl,⟨_,rfl⟩,rfl,?_,e5,es++[(os[i],r)],?_,?_,λe t=>?_,?_,(q.trans J.of0).trans L⟩
   ·show(os.map tq)[i]?=_;rw[aP,aI B];rfl
   ·dsimp[kj,lU,bools,uq,x1]
   ·exact pR (by rw[br<|Su.sj C])
   ·rw[bD,p2,bR,aI B];rfl
   ·rcases bJ.mp t with z|z
    ·have:=p3 e z;exact⟨L.dct _ _ ()<|J.dct _ _ (λz=>z) this.1,this.2⟩
    ·rw[aR.mp z];exact⟨L.dct _ _ (by show ¬r=S.length;lia) N,by show S.length<r;lia⟩
   ·rw[bD,cL];refine⟨K,cP.mpr ⟨(λz=>nomatch z),cQ⟩,λa ha b hb z=>?_⟩;obtain⟨e,t,rfl⟩:=bf.mp ha;rw[aR.mp hb]at z;have:=Su.sj (p3 e t).1;have z:e.2=r:=z
    lia) (λ_ _=>rfl) (os.map tq).length 0 (k9 [none,some 0] [.ref d,x1,x2,x3,x4]) S2 rfl ⟨_,rfl⟩ ⟨[],Z,rfl,(nofun),cQ,Kp.refl⟩
 refine⟨S',es,?_,p1,?_,p3,K,u_ (u_ G k2 λz=>z) q (),(k1.trans k2.of0).old q λn hn _ z=>()⟩
 ·unfold Ml;rw[hs,R.mH,<- p,F];show(yb _ _ _ _ _ _ _ (os.map tq).length 0 _ _).ny _=_;rw[e1];rfl
 ·have:(p9<|os.map tq).k=os.length:=aH ..;rw[this,bX]at p2;exact p2
end K72
namespace K72
open PySem L2 Am
structure Hs (S:jH)(n L:Nat)(gs:List Os):Prop where
 ex:∃hs:List<|Os×Nat,jF S n=some (hs.map λh=>.ref h.2)/\hs.map (·.1)=gs/\∀h∈hs,jF S h.2=some (h.1.map tq)/\L<h.2
abbrev un:A->ag
 | .tup xs=>xs.map Ru
 | _=>[]
def BF(o:ag):un (tq o)=o:=by
 show(o.map A.int).map Ru=o;rw[bh];exact jk _
abbrev DE (rc:ag->Os)(o:ag):Os:=ku<|(rc o).filter λp=>decide<|o∈rc p
abbrev hq (rc:ag->Os)(o:ag):Bool:=decide<|(DE rc o).head?=some o
def aa1{T:jH}{d D H:Nat}{es:List<|ag×Nat}{os:Os}{rc:ag->Os}{xs:ae}{e:ag×Nat}(h1:jV T D=some (ev es))(h2:es.map (·.1)=os)(h3:∀e∈es,lC T e.2=some (mk<|rc e.1))(he:e∈es)(nd:os.Nodup)(h4:jV T e.2=some (mk<|rc e.1))(h5:jF T H=some xs)(lx:xs.length<1000)(sub:∀p∈rc e.1,p∈os/\p≠[])(lr:(rc e.1).length<=63)(ne:DE rc e.1≠[])(De:D≠e.2) :
  ∃(r:Nat) (T':jH),oF [.ref d,.ref D,.ref H,tq e.1,y] T=.nx [.ref d,.ref D,.ref H,tq e.1,.ref r] T'/\jF T' r=some ((DE rc e.1).map tq)/\T.length<=r/\jF T' H=some (xs++if hq rc e.1=true then[.ref r]else[])/\lC T' e.2=some (mk<|rc e.1)/\Kp (λn=>n=e.2\/n=H) T T':=by
 have look:∀p∈os,∃f∈es,f.1=p/\kF (ev es) p=some (.ref f.2):=λp hp=>B9 (by rw[h2];exact hp);have ee:kF (ev es) e.1=some (.ref e.2):=by
  obtain⟨f,C,L,V⟩:=look e.1 (by rw[<- h2];exact bf.mpr ⟨e,he,rfl⟩);have:f=e:=by
   rw[<- h2]at nd;unfold List.Nodup at nd;rw[cB]at nd;obtain⟨i,Y,rfl⟩:=bP.mp C;obtain⟨j,W,rfl⟩:=bP.mp he
   rcases Nat.lt_trichotomy i j with c|c|c
   ·exact absurd L (bZ.mp nd i j Y W c)
   ·subst c;rfl
   ·exact absurd L.symm<|bZ.mp nd j i W Y c
  rw[V,this]
 obtain⟨T1,g⟩:∃T1,T1=T.set e.2 (O.dcf<|mk<|rc e.1):=⟨_,rfl⟩;have k1:Kp (·=e.2) T T1:=by rw[g];exact Kp.refl.t6 (.inl rfl)
 have l1:T1.length=T.length:=by rw[g,bT]
 have d1:=k1.dct _ _ De h1;have He:H≠e.2:=λz=>Su.mO h4 h5 z.symm;have c1:∀f∈es,lC T1 f.2=some (mk<|rc f.1):=λf C=>by
  by_cases c:f.2=e.2
  ·have:mk (rc f.1)=mk (rc e.1):=by
    have a:=h3 f C;rw[c,h3 e he]at a;exact(aZ a).symm
   rw[c,this,g];exact Gv h4
  ·exact u_ (h3 f C) k1 c
 have P:sD (.ref D) (tq e.1) T=.ok (.ref e.2) T:=by rw[GX,h1,jS,ee,jS]
 have hs:FH (jT sD (jD 1)<|jD 3) [.ref d,.ref D,.ref H,tq e.1,y] T=.ok (p9<|(rc e.1).map tq) T1:=by
  unfold FH;have:jT sD (jD 1) (jD 3) [.ref d,.ref D,.ref H,tq e.1,y] T=.ok (.ref e.2) T:=by dsimp[kj,lU,uq,P]
  rw[this,R.mH];show opt (jV T e.2) _=_;rw[h4,jS,<- g];have:(mk<|rc e.1).map ZR=(rc e.1).map tq:=by unfold mk;rw[bh];rfl
  rw[this]
 have cf:=NQ (cap:=[some 3,some 1]) (t:=ux<|jT (Lf false) (jD 1)<|jT sD (jD 2)<|jD 0) (e:=jD 0) hs (λx=>decide<|e.1∈rc (un x)) (λx=>x) (λx N=>by
  obtain⟨p,hp,rfl⟩:=bf.mp N;obtain⟨f,C,L,V⟩:=look p (sub p hp).1;subst L;have Z:sD (.ref D) (tq f.1) T1=.ok (.ref f.2) T1:=by rw[GX,d1,jS,V,jS]
  have i2:Lf false (tq e.1) (.ref f.2) T1=.ok (.bl<|decide<|e.1∈rc f.1) T1:=by rw[Yc,c1 f C,jS,isD,Ce]
  rw[BF];show ux (jT (Lf false) (jD 1)<|jT sD (jD 2)<|jD 0) [tq f.1,tq e.1,.ref D] T1=_;dsimp[kj,lU,bools,uq,Z,i2]) (λx N _=>by
  obtain⟨p,hp,rfl⟩:=bf.mp N;show jD 0 (tq p::_) T1=_;dsimp[kj,lU,uq])<|by rw[aH];lia
 have el:((((rc e.1).map tq).filter λx=>decide<|e.1∈rc (un x)).map λx=>x)=((rc e.1).filter λp=>decide<|e.1∈rc p).map tq:=by
  rw[map_id',gB];congr 1;refine List.filter_congr λp _=>?_;show decide (e.1∈rc (un<|tq p))=_;rw[BF]
 rw[el]at cf;obtain⟨T2,m⟩:∃T2,T2=T1++[O.lst<|((rc e.1).filter λp=>decide<|e.1∈rc p).map tq]:=⟨_,rfl⟩;have k2:k_ T1 T2:=by rw[m];kj_on
 have M:=J_ (S:=T2) (n:=T1.length) (ls:=(rc e.1).filter λp=>decide<|e.1∈rc p) (by rw[m];exact jW) (λl hl=>(sub l (cE.mp hl).1).2)<|eT (dN _ _) ();rw[<- m]at cf;obtain⟨T3,B⟩:∃T3,T3=T2++[O.lst<|(DE rc e.1).map tq]:=⟨_,rfl⟩;have M:vY (.ref T1.length) T2=.ok (.ref T2.length) T3:=by rw[B];exact M
 have k3:k_ T2 T3:=by rw[B];kj_on
 have U:jF T3 T2.length=some ((DE rc e.1).map tq):=by rw[B];exact jW
 have q:=k2.trans k3;have H3:jF T3 H=some xs:=q.lst _ _ (λz=>z)<|k1.lst _ _ He h5;have c3:lC T3 e.2=some (mk<|rc e.1):=u_ (c1 e he) q λz=>z;have J:Kp (λn=>n=e.2\/n=H) T T3:=(k1.mono λ_ _ z=>.inl z).trans q.of0;have F:T.length<=T2.length:=by have:=k2.len;lia
 have lH:=lW h5;obtain⟨a,t,ha⟩:∃a t,DE rc e.1=a::t:=by
  cases c:DE rc e.1 with
  | nil=>exact absurd c ne
  | cons a t=>exact⟨a,t,rfl⟩
 have G:jF T3 T2.length=some (tq a::t.map tq):=by rw[U,ha];rfl
 have k:=ZM (S:=T3) (x:=a) (w:=e.1);have K:hq rc e.1=decide (a=e.1):=by
  unfold hq;rw[ha];exact f9.mpr ⟨λz=>aZ z,λz=>by rw[z];rfl⟩
 by_cases c:a=e.1
 ·have k4:Kp (λn=>n=e.2\/n=H) T3 (T3.set H<|.lst<|xs++[.ref T2.length]):=Kp.refl.t6<|.inl<|.inr rfl;refine⟨T2.length,T3.set H<|.lst<|xs++[.ref T2.length],?_,nH<|by rw[bG ()];exact jU U,F,?_,u_ c3 (show Kp (·=H) T3 _ from Kp.refl.t6<|.inl rfl)<|cA He,J.trans k4⟩
  ·unfold oF;rw[bg c]at k;dsimp[kj,lU,bools,↓cf,M,G,yy,uq,k,H3,uh<|show xs.length<16777216 by lia]
  ·rw[K,aS<|bg c];exact nH<|by rw[br<|lW H3]
 ·refine⟨T2.length,T3,?_,U,F,?_,c3,J⟩
  ·unfold oF;rw[bA c]at k;dsimp[kj,lU,bools,↓cf,M,G,yy,uq,k]
  ·rw[K,aQ<|by rw[g_];exact c,bO];exact H3
end K72
namespace K72
open PySem L2 Am
abbrev AD (os:Os)(rc:ag->Os):List Os:=((ku os).filter<|hq rc).map<|DE rc
def MX{S:jH}{d:Nat}{kvs:List<|ag×A}(h:lC S d=some kvs)(hne:∀k∈kvs.map (·.1),k≠[])(hl:kvs.length<64):Ci (.ref d) S=.ok (.ref S.length) (S++[.lst<|(ku<|kvs.map (·.1)).map tq]):=by
 show opt (lC S d) _=_;rw[h,jS,E9<|Pj hne<|by rw[aH];exact hl];rfl
def yz{S:jH}{d f:Nat}{os:Os}{nx rc:ag->Os}{rs:List<|ag×Nat}(h:jV S d=some (ev rs))(h2:rs.map (·.1)=os)(h3:∀e∈rs,jF S e.2=some ((nx e.1).map tq))(nd:os.Nodup)(ln:os.length<=63)(hf:f<=1000000)(hrc:∀o∈os,rf os nx f [o] [o]=some (rc o))(hne:∀o∈os,o≠[])
  (sub:∀o∈os,(∀p∈rc o,p∈os)/\(rc o).length<=63/\DE rc o≠[]) :
  ∃(r:Nat) (S':jH),nY [.ref d] S=.ok (.ref r) S'/\Hs S' r r (AD os rc)/\S.length<=r/\Kp (·=d) S S':=by
 obtain⟨S1,es,x1,d1,e1,e2,e3,e4,k1⟩:=Zw (x1:=.unb) (x2:=.unb) (x3:=.unb) (x4:=.unb) h h2 h3 nd () hf hrc;have sl1:S.length<S1.length:=Su.sj d1;obtain⟨S2,L⟩:∃S2,S2=S1++[O.lst []]:=⟨_,rfl⟩;have k2:k_ S1 S2:=by rw[L];kj_on
 have l2:jF S2 S1.length=some []:=by rw[L];exact jW
 have sl2:S2.length=S1.length+1:=by rw[L,bq];rfl
 have c2:=u_ e4 k2 λz=>z;have sf:=MX c2 (by rw[xg,h2];exact hne) (by rw[show(ev rs).length=os.length from by rw[<- h2,aH];exact aH ..];lia);rw[xg,h2]at sf;obtain⟨S3,N⟩:∃S3,S3=S2++[O.lst<|(ku os).map tq]:=⟨_,rfl⟩;rw[<- N]at sf;have k3:k_ S2 S3:=by rw[N];kj_on
 have m3:jF S3 S2.length=some ((ku os).map tq):=by rw[N];exact jW
 have J:=k2.trans k3;have ps:=ki os;have nds:(ku os).Nodup:=ps.nodup_iff.mpr nd;have lso:(ku os).length=os.length:=ps.length_eq;have U:∃(K B:A) (S':jH),mj tQ (ko 3) oF [.ref d,.ref S.length,.ref S1.length,.unb,.unb] S2=.nx [.ref d,.ref S.length,.ref S1.length,K,B] S'/\Hs S' S1.length S1.length (AD os rc)/\Kp (λn=>S.length<=n) S3 S':=by
  refine oJ (n:=S2.length) (xs:=(ku os).map tq) (S1:=S3) (show tQ _ _=_ from lY (by dsimp[kj,lU,bools,sf]) m3)
   (λi τ T=>∃(K B:A) (hs:List<|Os×Nat),τ=[.ref d,.ref S.length,.ref S1.length,K,B]/\i<=(ku os).length/\jV T S.length=some (ev es)/\(∀e∈es,lC T e.2=some (mk<|rc e.1))/\(∀e∈es,e.1∈(ku os).drop i->jV T e.2=some (mk<|rc e.1))/\jF T S1.length=some (hs.map λh=>.ref h.2)/\hs.map (·.1)=(((ku os).take i).filter<|hq rc).map (DE rc)/\hs.length<=i/\(∀h∈hs,jF T h.2=some (h.1.map tq)/\S1.length<h.2)/\jF T S2.length=some ((ku os).map tq)/\Kp (λn=>S.length<=n) S3 T)
   (λZ=>∃(K B:A) (S':jH),Z=.nx [.ref d,.ref S.length,.ref S1.length,K,B] S'/\Hs S' S1.length S1.length (AD os rc)/\Kp (λn=>S.length<=n) S3 S')
   ⟨_,_,[],rfl,bL _,J.dct _ _ (λz=>z) d1,(λe t=>XD<|J.dct _ _ (λz=>z) (e2 e t).1),(λe t _=>J.dct _ _ (λz=>z) (e2 e t).1),k3.lst _ _ (λz=>z) l2,by rw[fB];rfl,bL _,(nofun),m3,Kp.refl⟩ (λi τ T z=>?_) ?_ ?_
  ·obtain⟨_,_,_,_,_,_,_,_,_,_,_,_,m,_⟩:=z;exact m
  ·rintro i z τ T hz ⟨K,B,hs,rfl,_,i1,M,i3,i4,i5,i6,i7,i8,kp⟩;rw[aP]at hz;obtain⟨o,Y,rfl⟩:=aW.mp hz;have hi:=(aJ.mp Y).1;have oso:o∈ku os:=bw Y;have W:o∈os:=ps.mem_iff.mp oso;have:o∈es.map (·.1):=by rw[e1];exact W
   obtain⟨e,t,rfl⟩:=bf.mp this;have dr:e.1∈(ku os).drop i:=bP.mpr ⟨0,by rw[List.length_drop];lia,by rw[List.getElem_drop];exact(aJ.mp Y).2⟩;have sb:=sub e.1 W;obtain⟨r,T1,b1,b2,b3,b4,b5,b6⟩:=aa1 (d:=d) (y:=B) i1 e1 M t nd (i3 e t dr) i4 (by rw[aH];lia) (λp hp=>⟨sb.1 p hp,hne p<|sb.1 p hp⟩) sb.2.1 sb.2.2 (by have:=(e2 e t).2;lia);have eH:∀k∈es,k.2≠S1.length:=λk F z=>by
    have:=GS (M k F) i4;exact this z
   have P:Kp (λn=>n=e.2\/n=S1.length) T T1:=b6;have tl:=kp.len;have tl3:S2.length<S3.length:=lW m3;refine⟨[.ref d,.ref S.length,.ref S1.length,tq e.1,B],T,rfl,.inl ⟨_,T1,b1,_,_,hs++(if hq rc e.1=true then[(DE rc e.1,r)]else[]),rfl,hi,?_,?_,?_,?_,?_,?_,?_,?_,?_⟩⟩
   ·exact P.dct _ _ (λz=>z.elim (λz=>by have:=(e2 e t).2;lia) λz=>()) i1
   ·intro k F;by_cases c:k.2=e.2
    ·have a:=M k F;rw[c,M e t]at a;rw[c,b5];exact a
    ·exact u_ (M k F) P λz=>z.elim c<|eH k F
   ·intro k F C;have ne:k.2≠e.2:=λc=>by
     have V:k≠e:=λz=>by
      rw[z]at C;obtain⟨j,hj,ej⟩:=bP.mp C;rw[List.getElem_drop,<- (aJ.mp Y).2]at ej;have:=(b7 nds).mp ej
      lia
     have G:=e3;unfold List.Nodup at G;rw[cB]at G;obtain⟨a,ha,rfl⟩:=bP.mp F;obtain⟨b,hb,rfl⟩:=bP.mp t
     rcases Nat.lt_trichotomy a b with q|q|q
     ·exact absurd c (bZ.mp G a b ha hb q)
     ·subst q;exact V rfl
     ·exact absurd c.symm<|bZ.mp G b a hb ha q
    have dr2:k.1∈(ku os).drop i:=by
     rw[<- List.drop_drop]at C;exact List.mem_of_mem_drop C
    exact P.dct _ _ (λz=>z.elim ne<|eH k F)<|i3 k F dr2
   ·rw[b4,bD];by_cases c:hq rc e.1=true
    ·rw[aS c,aS c];rfl
    ·rw[aQ c,aQ c];rfl
   ·rw[bD,i5,bR,Y,List.filter_append,bD];congr 1;show _=((([e.1]:Os).filter<|hq rc).map<|DE rc);by_cases c:hq rc e.1=true
    ·rw[aS c,dQ,aS c];rfl
    ·rw[aQ c,dQ,aQ c];rfl
   ·rw[bq];split
    ·show hs.length+1<=i+1;lia
    ·show hs.length+0<=i+1;lia
   ·intro g hg
    rcases bJ.mp hg with z|z
    ·have:=i7 g z;refine⟨P.lst _ _ (λw=>w.elim (λw=>?_) λw=>()) this.1,this.2⟩;exact GS (M e t) this.1 w.symm
    ·split at z
     ·rw[aR.mp z];exact⟨b2,by show S1.length<r;lia⟩
     ·cases z
   ·exact P.lst _ _ (λw=>w.elim (λw=>GS (M e t) i8 w.symm) λw=>()) i8
   ·exact kp.trans<|P.mono λn hn z=>z.elim (λz=>by have:=(e2 e t).2;lia) λz=>()
  ·rintro τ T ⟨K,B,hs,rfl,_,i1,M,i3,i4,i5,i6,i7,i8,kp⟩;rw[aH,bX]at i5;exact⟨K,B,T,rfl,⟨hs,i4,i5,i7⟩,kp⟩
 obtain⟨K,B,S4,x4,h4,k4⟩:=U;refine⟨S1.length,S4,?_,h4,eg sl1,(k1.trans J.of0).old k4 λn hn _ z=>()⟩;unfold nY wB wA;dsimp[kj,lU,bools,lE,Nat.reduceAdd,Nat.reduceSub,↓x1,<- L,↓x4]
end K72
namespace Nu
open PySem L2
abbrev pI:Nat->Nat
 | 0=>1
 | n+1=>(n+1) * pI n
theorem Cf:∀n,0<pI n
 | 0=>Nat.one_pos
 | n+1=>Nat.mul_pos (Nat.succ_pos _)<|Cf n
def D7(n:Nat):pI n<=pI (n+1):=Nat.le_mul_of_pos_left _<|Nat.succ_pos _
def zj{a:Nat}(h:a<=b):pI a<=pI b:=by
 induction h with
 | refl=>exact aL _
 | step _ d=>exact bM d<|D7 _
def VF{n:Nat}(h:n<=20):pI n<=2432902008176640000:=bM (zj h) ⋯
abbrev Va:Nat->ag->Nat->ag
 | 0,_,_=>[]
 | n+1,l,m=>l.getD (m / pI n) 0::Va n (l.eraseIdx<|m / pI n) (m % pI n)
def KR{n:Nat}(h:m<pI (n+1)):m / pI n<n+1:=(Nat.div_lt_iff_lt_mul<|Cf n).mpr h
def Ur{l:ag}{q:Nat}(h:q<l.length):l.getD q 0=l[q]:=by rw[aK,aI h];rfl
end Nu
namespace K72
open PySem L2 Am
open Nu in
def CA{n:Nat}(h:n<=20):l9 [.int n] S=.ok (.int<|pI n) S:=by
 have h1:pI (0+1)=1:=rfl;unfold l9 ve uX;dsimp[kj,bools,lE,Nat.reduceAdd,Nat.reduceSub];refine DC (lo:=2) (hi:=(n:Int)+1) (S1:=S) (show vR _ _=_ from EO (S1:=S) (by dsimp[kj,bools]) (by dsimp[kj,bools]) (uN ⋯ ⋯)<|uN () ())
  (λi τ S1=>(∃a,τ=[.int n,.int<|pI<|i+1,a])/\S1=S)
  (λr=>RS.end (RS.seq r<|lK<|jD 1)=.ok (.int<|pI n) S) ⟨⟨.unb,by dsimp[h1];rfl⟩,rfl⟩ ?_ ?_
 ·rintro i τ S1 hi ⟨⟨a,rfl⟩,rfl⟩;left;have e:Xe (.int<|pI<|i+1) (.int<|2+(i:Int)) S1=.ok (.int<|pI<|i+2) S1:=by
   show gd (wZ _ _) _=_;rw[E9 (show wZ ((pI (i+1):Nat):Int) (2+(i:Int))=true by
    unfold wZ;rw[Bool.or_eq_true,cU,cU];exact .inr ⟨bg (),bg ()⟩)]
   rw[show pI (i+2)=(i+2) * pI (i+1)from rfl,mul_comm,Int.natCast_mul];rw[show(2:Int)+(i:Int)=((i+2:Nat):Int)by lia]
  unfold vU;dsimp[kj,bools,e];exact⟨_,_,rfl,⟨_,rfl⟩,rfl⟩
 ·rintro τ S1 ⟨⟨a,rfl⟩,rfl⟩;dsimp[kj,bools];rw[show pI (((n:Int)+1-2).toNat+1)=pI n by
   by_cases z:n=0
   ·subst z;rfl
   ·rw[show((n:Int)+1-2).toNat+1=n by lia]]
def Om{n:Nat}{xs:ae}(h:jF S n=some xs):A.VJ (.ref n) S=some (!xs.isEmpty):=by
 show(jF S n).map _=_;rw[h];rfl
open Nu in
def YI{n:Nat}(h2:n<=20)(hm:m<pI n):∃S',nX [.int n,.int m] S=.ok (.tup<|(Va n (l8 1<|(n:Int)+1) m).map .int) S'/\k_ S S':=by
 have U:=VF h2;unfold nX wc wN;dsimp[kj,lU,bools,lE,Nat.reduceAdd,Nat.reduceSub,OJ,bY,bA<|show ¬(m:Int)<0 by lia,CA h2,bA<|show ¬(pI n:Int)<=(m:Int)by lia,KZ<|Qy (show(-1000000:Int)<=1 by decide) ⋯ (show -1000000<=(n:Int)+1 by lia) () ()];have N:(l8 1<|(n:Int)+1).length=n:=by rw[sV];lia
 have C:=zL (t:=tO) (c:=tY)
  (λτ S1=>∃(k q:Nat) (K:A) (d fs:ag),τ=[.int n,.int q,.ref S.length,.ref<|S.length+1,K]/\jF S1 S.length=some (d.map .int)/\jF S1 (S.length+1)=some (fs.map .int)/\d.length=k/\k<=20/\fs.length<=20-k/\q<pI k/\fs++Va k d q=Va n (l8 1<|(n:Int)+1) m/\k_ S S1)
  (λτ S1=>((jF S1 S.length).getD []).length)
  (λr=>∃S',RS.end (RS.seq r<|lK<|kh (f1 vW)<|jE (jD 3) jP)=.ok (.tup<|(Va n (l8 1<|(n:Int)+1) m).map .int) S'/\k_ S S') ?_ 1000000
 ·have J:(S++[O.lst<|(l8 1<|(n:Int)+1).map A.int]).length=S.length+1:=by simp
  have G:jF (S++[O.lst<|(l8 1<|(n:Int)+1).map A.int]++[O.lst []]) S.length=some ((l8 1<|(n:Int)+1).map .int):=l7 jW;have W:jF (S++[O.lst<|(l8 1<|(n:Int)+1).map A.int]++[O.lst []]) (S.length+1)=some (([]:ag).map .int):=by rw[<- J];exact jW
  rw[J];refine C _ _ ⟨n,m,.unb,l8 1<|(n:Int)+1,[],rfl,G,W,N,h2,bL _,hm,rfl,Kp.refl.lay.lay⟩ ?_;show((jF _ S.length).getD []).length<_;rw[G,eE,aH,N];lia
 ·rintro τ S1 ⟨k,q,K,d,fs,rfl,z,p,M,P,lf,hq,g,kp⟩;unfold tO;dsimp[kj,bools,Om z]
  cases k with
  | zero=>
   left;have:d=[]:=List.eq_nil_of_length_eq_zero M;subst this;have g:fs++[]=_:=g;rw[bO]at g;refine⟨S1,rfl,S1,?_,kp⟩;dsimp[kj,bools,p,g]
  | succ k=>
   right;have ne:(!(d.map A.int).isEmpty)=true:=by
    cases d with
    | nil=>cases M
    | cons _ _=>rfl
   refine⟨S1,by rw[ne],.inl ?_⟩;have Z:=KR hq;have f:q / pI k<d.length:=()
   have fk:=VF (show k<=20 by lia);have fp:=Cf k;have ek:((d.length:Int)-1)=(k:Int):=()
   have T:(q:Int) / (pI k:Int)=((q / pI k:Nat):Int):=(Int.natCast_ediv _ _).symm;have V:=lW z;have lF:=lW p;have B:Hr (.ref S.length) [.int ((q / pI k:Nat):Int)] S1=.ok (.int<|d.getD (q / pI k) 0) (S1.set S.length<|.lst<|(d.eraseIdx<|q / pI k).map .int):=by
    show opt (jF S1 S.length) _=_;generalize hgj:q / pI k=j at Z f;rw[z,jS,E9 (),PySem.seqIndex_of ()<|by rw[aH];lia,jS,di,aP,aI f,fM,jS,Ur f];congr 3;rw[iu,iu,bD,List.map_take,List.map_drop]
   have F:jF (S1.set S.length<|.lst<|(d.eraseIdx<|q / pI k).map .int) (S.length+1)=some (fs.map .int):=by rw[vV ()];exact p
   unfold tY;dsimp[kj,bools,z,aH,ek,CA<|show k<=20 by lia,p,Xi (show(0:Int)<(pI k:Int)by lia)<|show(pI k:Int)<18446744073709551616 by lia,T,B,F,uh<|show fs.length<16777216 by lia,mul_r (show(-18446744073709551616:Int)<(pI k:Int)by lia)<|show(pI k:Int)<18446744073709551616 by lia];have Y:(q:Int)-((q / pI k:Nat):Int) * (pI k:Int)=((q % pI k:Nat):Int):=by
    have:=Nat.div_add_mod q<|pI k;rw[mul_comm]at this;rw[<- Int.natCast_mul]
    lia
   rw[Y];have L:jF ((S1.set S.length<|.lst<|(d.eraseIdx<|q / pI k).map .int).set (S.length+1)<|.lst<|fs.map A.int++[.int<|d.getD (q / pI k) 0]) S.length=some ((d.eraseIdx<|q / pI k).map .int):=by rw[vV ()];exact rJ V
   refine⟨_,_,rfl,⟨k,q % pI k,_,d.eraseIdx<|q / pI k,fs++[d.getD (q / pI k) 0],rfl,L,?_,?_,(),by rw[bq];show fs.length+1<=_;lia,Nat.mod_lt _ fp,?_,(kp.set<|.inr<|aL _).set<|.inr ()⟩,?_⟩
   ·rw[rJ<|by rw[bT];lia,bD];rfl
   ·rw[List.length_eraseIdx,aS f];lia
   ·rw[<- g,cJ];rfl
   ·rw[L,eE,eE,aH,aH,List.length_eraseIdx,aS f];lia
abbrev ao (n:Nat):Os:=(List.range<|Nu.pI n).map λm=>Nu.Va n (l8 1<|(n:Int)+1) m
def QS{n:Nat}(hn:n<=4):∃S',kM [.int n] S=.ok (.ref S'.length) (S'++[.lst<|(ao n).map tq])/\k_ S S':=by
 have f4:Nu.pI n<=24:=bM (Nu.zj hn) ⋯;have g:=CA (S:=S) (n:=n) ();obtain⟨S',d,k1⟩:=wX (cap:=[some 0]) (t:=qJ) (e:=oB nX<|jE (jD 1)<|jE (jD 0) jP) (τ:=[.int (n:Int)]) (S:=S) (S1:=S) (src:=rF<|eFn l9<|jE (jD 0) jP) (s:=sE 0<|Nu.pI n) (xs:=(List.range<|Nu.pI n).map λm:Nat=>A.int (m:Int)) (xG (by dsimp[kj,lU,bools,g])<|uN () ()) (by rw[aH,bQ];show((Nu.pI n:Int)-0).toNat=_;lia) (λ_=>False) (λT _ i f=>by
   rw[aH,bQ]at f;show(if i<((Nu.pI n:Int)-0).toNat then some (A.int<|0+i)else none)=_;rw[aS (),aP,dI f,cO];rfl) (λ_ _=>rfl) (λ_=>true) (λx=>tq<|Nu.Va n (l8 1<|(n:Int)+1) (Ru x).toNat) (λx j T p=>⟨T,rfl,Kp.refl,λ_=>by
   obtain⟨m,k,rfl⟩:=bf.mp j;obtain⟨T2,e2,k2⟩:=YI (S:=T) (n:=n) (m:=m) ()<|cg.mp k;refine⟨T2,?_,k2⟩;show oB nX (jE (jD 1)<|jE (jD 0) jP) [.int m,.int n] T=_;dsimp[kj,lU,bools,e2];rfl⟩)<|by rw[aH,bQ];lia
 refine⟨S',?_,k1⟩;have el:((((List.range<|Nu.pI n).map λm:Nat=>A.int (m:Int)).filter λ_=>true).map λx=>tq<|Nu.Va n (l8 1<|(n:Int)+1) (Ru x).toNat)=(ao n).map tq:=by
  rw[gc.mpr λ_ _=>rfl,bh];unfold ao;rw[bh];rfl
 rw[el]at d;unfold kM qy qu;dsimp[kj,lU,bools,lE,Nat.reduceAdd,Nat.reduceSub,bA<|show ¬(n:Int)>4 by lia,↓d]
end K72
namespace K72
open PySem L2 Am
open Fw (rg)
abbrev XR (n:Nat)(os:Os)(o:ag):Os:=os.filter λp=>decide ((o,p)∈Ld os) && hof n p o
def Wj{L N:Nat}{os:Os}{o:ag}(hN:N<6)(hm:jF T m=some (os.map tq))(hL:Ks T L M<|Ld os)(ll:os.length<=1000)(lo:o.length=N)(lp:∀p∈os,p.length=N) :
  ∃T',kO [none,some 2,some 0] (lV<|jD 1) (ko 0) (zm (ux<|jT (AQ false) (sX<|jE (jD 2)<|jE (jD 0) jP)<|jD 1)<|r9<|eFn j6<|jE (jD 0)<|jE (jD 2) jP) (jD 0) [tq o,.ref m,.ref L] T=.ok (.ref T'.length) (T'++[.lst<|(XR N os o).map tq])/\k_ T T':=by
 obtain⟨T',g,k1⟩:=CF (cap:=[some 2,some 0]) (t:=zm (ux<|jT (AQ false) (sX<|jE (jD 2)<|jE (jD 0) jP)<|jD 1)<|r9<|eFn j6<|jE (jD 0)<|jE (jD 2) jP) (e:=jD 0) (τ:=[tq o,.ref m,.ref L]) (S:=T) (S1:=T) (src:=lV<|jD 1) (xs:=os.map tq) (lY (by dsimp[kj,lU,bools]) hm) hm (λx=>decide ((o,un x)∈Ld os) && hof N (un x) o) (λx=>x) (λx j T1 k=>by
  obtain⟨p,hp,rfl⟩:=bf.mp j;rw[BF];have f:=hL.kp k λz=>z;have d:AQ false (.tup [tq o,tq p]) (.ref L) T1=.ok (.bl<|decide<|(o,p)∈Ld os) T1:=f.inq;show ∃T2,zm (ux<|jT (AQ false) (sX<|jE (jD 2)<|jE (jD 0) jP)<|jD 1) (r9<|eFn j6<|jE (jD 0)<|jE (jD 2) jP) [tq p,.ref L,tq o] T1=_/\_/\(_->∃T3,jD 0 [tq p,.ref L,tq o] T2=_/\_);by_cases c:(o,p)∈Ld os
  ·obtain⟨T2,e2,k2⟩:=WS (S:=T1) (a:=p) (b:=o) hN (lp p hp) lo;have e2:j6 [tq p,tq o] T1=.ok (.bl<|hof N p o) T2:=e2;rw[bg c]at d;refine⟨T2,?_,k2,λ_=>⟨T2,by dsimp[kj,lU,uq],Kp.refl⟩⟩;rw[bg c,Bool.true_and];dsimp[kj,lU,bools,uq,Bp,d,e2]
  ·rw[bA c]at d;refine⟨T1,?_,Kp.refl,λ_=>⟨T1,by dsimp[kj,lU,uq],Kp.refl⟩⟩;rw[bA c,Bool.false_and];dsimp[kj,lU,bools,uq,Bp,d])<|by rw[aH];lia
 refine⟨T',?_,k1⟩;have el:(((os.map tq).filter λx=>decide ((o,un x)∈Ld os) && hof N (un x) o).map λx=>x)=(XR N os o).map tq:=by
  rw[map_id',gB];unfold XR;congr 1;refine List.filter_congr λp _=>?_;show(decide ((o,un<|tq p)∈Ld os) && hof N (un<|tq p) o)=_;rw[BF]
 rw[el]at g;exact g
structure Okn (n f:Nat)(os:Os)(rc:ag->Os):Prop where
 n6:n<5
 n1:1<=n
 pm:∀o∈os,o.Perm (rg n)/\Iv.inv o<8
 nd:os.Nodup
 ln:os.length<=63
 ff:f<=1000000
 rr:∀o∈os,rf os (XR n os) f [o] [o]=some (rc o)
 sub:∀o∈os,(∀p∈rc o,p∈os)/\(rc o).length<=63/\DE rc o≠[]
def GA{S:jH}{n f:Nat}{rc:ag->Os}(hn:n<=4)(h:Okn n f (ao n) rc):∃(r:Nat) (S':jH),kg [.int n] S=.ok (.ref r) S'/\Hs S' r r (AD (ao n) rc)/\S.length<=r/\k_ S S':=by
 obtain⟨d,V,k0⟩:=QS (S:=S) hn;obtain⟨S1,C⟩:∃S1,S1=d++[O.lst<|(ao n).map tq]:=⟨_,rfl⟩;have k1:k_ S S1:=by rw[C];exact k0.lay
 have W:jF S1 d.length=some ((ao n).map tq):=by rw[C];exact jW
 rw[<- C]at V;have ll:=h.ln;obtain⟨L,S2,x2,J,k2⟩:=Rh h.n6 h.pm W ();have M:=k2.lst _ _ (λz=>z) W;have Y:=k1.len;have len2:=k2.len;obtain⟨S3,t⟩:∃S3,S3=S2++[O.dct []]:=⟨_,rfl⟩;have k3:k_ S2 S3:=by rw[t];kj_on
 have d3:jV S3 S2.length=some (ev []):=by rw[t];exact Su.nM
 have lm:d.length<S2.length:=lW M;have lL:L<S2.length:=by
  obtain⟨kvs,z,_⟩:=J.ex;exact(aJ.mp<|pS z).1
 have Z:=k3.lst _ _ (λz=>z) M;obtain⟨τ',S4,e4,es,p1,p2,p3,B⟩:=Jv (st:=n5) (s:=kW d.length ((ao n).map tq).length) (g:=ko 0) (ek:=jD 0) (ev:=kO [none,some 2,some 0] (lV<|jD 1) (ko 0) (zm (ux<|jT (AQ false) (sX<|jE (jD 2)<|jE (jD 0) jP)<|jD 1)<|r9<|eFn j6<|jE (jD 0)<|jE (jD 2) jP)<|jD 0) (n:=S2.length)
  (λi T=>∃es:List<|ag×Nat,jV T S2.length=some (ev es)/\es.map (·.1)=(ao n).take i/\(∀e∈es,jF T e.2=some ((XR n (ao n) e.1).map tq))/\Kp (·=S2.length) S3 T) (λτ=>∃y,τ=[y,.ref d.length,.ref L]) (λi τ T G hq hP=>by
   obtain⟨y,rfl⟩:=hq;obtain⟨es,p1,p2,p3,B⟩:=hP;have G:i<((ao n).map tq).length:=G;rw[aH]at G;have U:(ao n)[i]∈ao n:=dD G;have K:=B.lst _ _ () Z;have qT:=(J.kp k3 λz=>z).kp B ();obtain⟨T1,y1,q1⟩:=Wj (o:=(ao n)[i]) (dG h.n6) K qT () (oN (h.pm _ U).1) λp hp=>oN (h.pm p hp).1;obtain⟨T2,F⟩:∃T2,T2=T1++[O.lst<|(XR n (ao n) (ao n)[i]).map tq]:=⟨_,rfl⟩;rw[<- F]at y1;have J:k_ T T2:=by rw[F];exact q1.lay
   have t2:jF T2 T1.length=some ((XR n (ao n) (ao n)[i]).map tq):=by rw[F];exact jW
   have q:=J.dct _ _ (λz=>z) p1;have new:(ao n)[i]∉(ev es).map (·.1):=by
    rw[xg,p2];intro z;obtain⟨j,hj,e⟩:=bP.mp z;rw[ig]at e;have lj:j<i:=by rw[b8]at hj;lia
    have:=(b7 h.nd).mp e
    lia
   have e5:n5 (.ref S2.length) (tq (ao n)[i]) (.ref T1.length) T2=.ok Unit.unit (T2.set S2.length<|.dct<|ev<|es++[((ao n)[i],T1.length)]):=by
    have:=Su.sR (n:=S2.length) (o:=(ao n)[i]) (v:=.ref T1.length) (S:=T2);rw[q,jS,yS new]at this;refine this.trans ?_;have le:es.length=i:=by have:=c9 List.length p2;rw[aH,b8]at this;lia
    rw[uh<|by unfold ev;rw[aH];lia];unfold ev;rw[bD];rfl
   have P:Kp (·=S2.length) T2 (T2.set S2.length<|.dct<|ev<|es++[((ao n)[i],T1.length)]):=Kp.refl.t6<|.inl rfl;refine⟨tq (ao n)[i],[tq (ao n)[i],.ref d.length,.ref L],T,tq (ao n)[i],T,.ref T1.length,T2,_,?_,rfl,⟨_,rfl⟩,rfl,y1,e5,es++[((ao n)[i],T1.length)],?_,?_,λe he=>?_,(B.trans J.of0).trans P⟩
   ·show(jF T d.length).bind _=_;rw[K];show((ao n).map tq)[i]?=_;rw[aP,aI G];rfl
   ·exact pR (by rw[br<|Su.sj q])
   ·rw[bD,p2,bR,aI G];rfl
   ·rcases bJ.mp he with z|z
    ·have a:=J.lst _ _ (λz=>z)<|p3 e z;exact P.lst _ _ (λw=>Su.mO q a w.symm) a
    ·rw[aR.mp z];exact P.lst _ _ (λw=>Su.mO q t2 w.symm) t2) (λT hP=>by
   obtain⟨es,p1,p2,p3,B⟩:=hP;have K:=B.lst _ _ () Z;show(match jF T d.length with
    | some ys=>decide (ys.length<=((ao n).map tq).length)
    | none=>false)=true
   rw[K];exact bg<|aL _) ((ao n).map tq).length 0 (k9 [none,some 1,some 2] [.int n,.ref d.length,.ref L]) S3 rfl ⟨_,rfl⟩ ⟨[],d3,rfl,(nofun),Kp.refl⟩
 have N:Ml (.dct []) n5 [none,some 1,some 2] (lV<|jD 1) (ko 0) qJ (jD 0) (kO [none,some 2,some 0] (lV<|jD 1) (ko 0) (zm (ux<|jT (AQ false) (sX<|jE (jD 2)<|jE (jD 0) jP)<|jD 1)<|r9<|eFn j6<|jE (jD 0)<|jE (jD 2) jP)<|jD 0) [.int n,.ref d.length,.ref L] S2=.ok (.ref S2.length) S4:=by
  have hs:lV (jD 1) [.int n,.ref d.length,.ref L] S2=.ok (kW d.length ((ao n).map tq).length) S2:=lY (by dsimp[kj,lU]) M;unfold Ml;rw[hs,R.mH,<- t];show(yb _ _ _ _ _ _ _ ((ao n).map tq).length 0 _ _).ny _=_;rw[e4];rfl
 have p2:es.map (·.1)=ao n:=by
  have:(kW d.length ((ao n).map tq).length).k=(ao n).length:=aH ..;rw[this,bX]at p2;exact p2
 obtain⟨r,S5,x5,h5,l5,k5⟩:=yz p1 p2 p3 h.nd () h.ff h.rr (λo U z=>by have:=oN (h.pm o U).1;rw[z]at this;have:=h.n1;simp at *;lia) h.sub;have len3:S3.length=S2.length+1:=by rw[t,bq];rfl
 have len4:=B.len;refine⟨r,S5,?_,h5,(),(((k1.trans k2).trans k3).old B λm hm _ z=>()).old k5 λm hm _ z=>()⟩;unfold kg nL nP;dsimp[kj,lU,bools,lE,Nat.reduceAdd,Nat.reduceSub,V,x2,↓N,x5]
end K72
namespace K72
open PySem L2 Am
abbrev lz (os:Os)(t:List Os)(o:ag):Os:=(((os.zip t).find? λe=>decide<|e.1=o).map (·.2)).getD []
abbrev nxl (n:Nat)(L:List m5)(os:Os)(o:ag):Os:=os.filter λp=>decide ((o,p)∈L) && hof n p o
theorem zM{os:Os}{nx nx':ag->Os}(h:∀o∈os,nx o=nx' o):∀(f:Nat) (R W:Os),rf os nx f R W=rf os nx' f R W
 | 0,_,_=>rfl
 | f+1,R,W=>by
  unfold rf;have e:(R.length<1000/\W.length<1000/\∀o∈W,o∈os/\(nx o).length<1000) ↔ (R.length<1000/\W.length<1000/\∀o∈W,o∈os/\(nx' o).length<1000):=
   ⟨λz=>⟨z.1,z.2.1,λo d=>⟨(z.2.2 o d).1,by rw[<- h o (z.2.2 o d).1];exact(z.2.2 o d).2⟩⟩,λz=>⟨z.1,z.2.1,λo d=>⟨(z.2.2 o d).1,by rw[h o (z.2.2 o d).1];exact(z.2.2 o d).2⟩⟩⟩
  by_cases c:R.length<1000/\W.length<1000/\∀o∈W,o∈os/\(nx o).length<1000
  ·rw[aS c,aS<|e.mp c]
   cases j:W.getLast? with
   | none=>rfl
   | some g=>
    have:=h g (c.2.2 g<|List.mem_of_getLast? j).1;dsimp only;rw[this];exact zM h f _ _
  ·rw[aQ c,aQ λz=>c<|e.mpr z]
def Hj{n:Nat}{L:List m5}{X:List Os}(h4:n<5)(h1:1<=n)(pm:∀o∈ao n,o.Perm (Fw.rg n)/\Iv.inv o<8)(nd:(ao n).Nodup)(ln:(ao n).length<=63)(ld:Ld (ao n)=L)(nx:∀o∈ao n,nxl n L (ao n) o=lz (ao n) X o)(rr:∀o∈ao n,rf (ao n) (lz (ao n) X) 200 [o] [o]=some (lz (ao n) C o))
  (sub:∀o∈ao n,(∀p∈lz (ao n) C o,p∈ao n)/\(lz (ao n) C o).length<=63/\DE (lz (ao n) C) o≠[]):Okn n 200 (ao n) (lz (ao n) C):=⟨h4,h1,pm,nd,ln,by decide,λo d=>by
 rw[zM (nx':=lz (ao n) X) λp hp=>by rw[<- nx p hp,<- ld];rfl];exact rr o d,sub⟩
abbrev Lq1:List m5:=[]
abbrev Xq1:List Os:=[[]]
abbrev WI:List Os:=[[[1]]]
abbrev Gq1:List Os:=[[[1]]]
abbrev Lq2:List m5:=[([1,2],[2,1]),([2,1],[1,2])]
abbrev Xq2:List Os:=[[[2,1]],[]]
abbrev XQ:List Os:=[[[1,2],[2,1]],[[2,1]]]
abbrev Gq2:List Os:=[[[1,2]],[[2,1]]]
abbrev Lq3:List m5:=[([1,2,3],[1,3,2]),([1,3,2],[1,2,3]),([1,2,3],[2,1,3]),([2,1,3],[1,2,3]),([1,3,2],[2,3,1]),([2,3,1],[1,3,2]),([2,1,3],[2,3,1]),([2,3,1],[2,1,3]),([1,3,2],[3,1,2]),([3,1,2],[1,3,2]),([2,1,3],[3,1,2]),([3,1,2],[2,1,3]),([2,3,1],[3,2,1]),([3,2,1],[2,3,1]),([3,1,2],[3,2,1]),([3,2,1],[3,1,2])]
abbrev Xq3:List Os:=[[[1,3,2],[2,1,3]],[[3,1,2]],[[2,3,1]],[[2,1,3],[3,2,1]],[[1,3,2],[3,2,1]],[]]
abbrev Wx:List Os:=[[[1,2,3],[1,3,2],[2,1,3],[2,3,1],[3,2,1],[3,1,2]],[[1,3,2],[3,1,2],[3,2,1]],[[2,1,3],[2,3,1],[3,2,1]],[[2,3,1],[2,1,3],[3,2,1]],[[3,1,2],[1,3,2],[3,2,1]],[[3,2,1]]]
abbrev Gq3:List Os:=[[[1,2,3]],[[1,3,2],[3,1,2]],[[2,1,3],[2,3,1]],[[3,2,1]]]
def pm1:∀o∈ao 1,o.Perm (Fw.rg 1)/\Iv.inv o<8:=by decide +kernel
def nd1:(ao 1).Nodup:=by decide +kernel
def lq1:Ld (ao 1)=Lq1:=by decide +kernel
def nx1:∀o∈ao 1,nxl 1 Lq1 (ao 1) o=lz (ao 1) Xq1 o:=by decide +kernel
def rr1:∀o∈ao 1,rf (ao 1) (lz (ao 1) Xq1) 200 [o] [o]=some (lz (ao 1) WI o):=by decide +kernel
def sb1:∀o∈ao 1,(∀p∈lz (ao 1) WI o,p∈ao 1)/\(lz (ao 1) WI o).length<=63/\DE (lz (ao 1) WI) o≠[]:=by decide +kernel
def gt1:AD (ao 1) (lz (ao 1) WI)=Gq1:=by decide +kernel
def on1:Okn 1 200 (ao 1) (lz (ao 1) WI):=Hj ⋯ ⋯ pm1 nd1 ∅ lq1 nx1 rr1 sb1
def pm2:∀o∈ao 2,o.Perm (Fw.rg 2)/\Iv.inv o<8:=by decide +kernel
def nd2:(ao 2).Nodup:=by decide +kernel
def lq2:Ld (ao 2)=Lq2:=by decide +kernel
def nx2:∀o∈ao 2,nxl 2 Lq2 (ao 2) o=lz (ao 2) Xq2 o:=by decide +kernel
def rr2:∀o∈ao 2,rf (ao 2) (lz (ao 2) Xq2) 200 [o] [o]=some (lz (ao 2) XQ o):=by decide +kernel
def sb2:∀o∈ao 2,(∀p∈lz (ao 2) XQ o,p∈ao 2)/\(lz (ao 2) XQ o).length<=63/\DE (lz (ao 2) XQ) o≠[]:=by decide +kernel
def gt2:AD (ao 2) (lz (ao 2) XQ)=Gq2:=by decide +kernel
def on2:Okn 2 200 (ao 2) (lz (ao 2) XQ):=Hj ⋯ ⋯ pm2 nd2 ∅ lq2 nx2 rr2 sb2
def pm3:∀o∈ao 3,o.Perm (Fw.rg 3)/\Iv.inv o<8:=by decide +kernel
def nd3:(ao 3).Nodup:=by decide +kernel
def lq3:Ld (ao 3)=Lq3:=by decide +kernel
def nx3:∀o∈ao 3,nxl 3 Lq3 (ao 3) o=lz (ao 3) Xq3 o:=by decide +kernel
def rr3:∀o∈ao 3,rf (ao 3) (lz (ao 3) Xq3) 200 [o] [o]=some (lz (ao 3) Wx o):=by decide +kernel
def sb3:∀o∈ao 3,(∀p∈lz (ao 3) Wx o,p∈ao 3)/\(lz (ao 3) Wx o).length<=63/\DE (lz (ao 3) Wx) o≠[]:=by decide +kernel
def gt3:AD (ao 3) (lz (ao 3) Wx)=Gq3:=by decide +kernel
def on3:Okn 3 200 (ao 3) (lz (ao 3) Wx):=Hj ⋯ ⋯ pm3 nd3 ∅ lq3 nx3 rr3 sb3
end K72
namespace K72
open PySem L2 Am
def Eb{xs:ag}{n:Nat}(px:xs.Perm<|l8 1<|(n:Int)+1):xs.length=n:=by have:=M6 px ();lia
def Hi{xs:ag}{n:Int}(px:xs.Perm<|l8 1<|n+1):xs.Nodup:=px.nodup_iff.mpr<|qK _ _
def Tu{xs:ag}{n:Nat}(px:xs.Perm<|l8 1<|(n:Int)+1)(h2:n<=1000):∃(ys:ag) (S':jH),r6 [.tup<|xs.map .int] S=.ok (.tup<|ys.map .int) S'/\Bl.CN xs ys/\ys.Perm (l8 1<|(n:Int)+1)/\k_ S S':=by
 have K:=Eb px;unfold r6 GD Gy;dsimp[kj,bools,lE,Nat.reduceAdd,Nat.reduceSub,aH,K];rw[aae (k:=n) jW ()];dsimp[kj,bools];have f:(S++[O.lst [.int 0]]).length=S.length+1:=by simp
 rw[f];refine XZ (xs:=xs.map .int) (S1:=S++[O.lst [.int 0]]++[O.lst<|List.replicate n<|.int 0]) (V5<|by dsimp[kj,bools])
  (λt τ S'=>∃(j m:A) (ps:ag),τ=[.tup<|xs.map .int,.ref<|S.length+1,j,m]/\jF S' (S.length+1)=some (ps.map .int)/\ps.length=n/\(∀(p:Nat) (h:p<xs.length),p<t->ps[(xs[p]-1).toNat]?=some ((p:Int)+1))/\k_ S S')
  (λr=>∃(ys:ag) (S':jH),RS.end (RS.seq r _)=.ok (.tup<|ys.map .int) S'/\Bl.CN xs ys/\ys.Perm (l8 1<|(n:Int)+1)/\k_ S S') ⟨.unb,.unb,List.replicate n 0,rfl,?_,by simp,λ_ _ h=>absurd h<|d8 _,Kp.refl.lay.lay⟩ ?_ ?_
 ·rw[List.map_replicate,<- f];exact jW
 ·rintro t x τ S' C ⟨j,m,ps,rfl,g,B,d,q⟩;rw[aP]at C;obtain⟨v,hv,rfl⟩:=aW.mp C;obtain⟨L,ev⟩:=aJ.mp hv;have mv:=Ep px<|bw hv;refine⟨_,_,by dsimp[kj,bools,oY<|show([_,_]:ae).length=2 from rfl];rfl,.inl ?_⟩;have J:ES ps.length (v-1)=some (v-1).toNat:=zP () ();have F:=lW g;unfold Et;dsimp[kj,bools,g,aH,J];refine⟨_,_,rfl,_,_,ps.set (v-1).toNat<|(t:Int)+1,rfl,?_,by rw[bT];exact B,λp hp G=>?_,q.set<|.inr ()⟩
  ·rw[rJ F,map_set]
  ·by_cases e:p=t
   ·subst e;rw[ev,br ()]
   ·have ne:(xs[p]-1).toNat≠(v-1).toNat:=λz=>by
     have mp:=Ep px<|dD hp;have:xs[p]=xs[t]:=by rw[ev];lia
     exact e<|(b7<|Hi px).mp this
    rw[bG<|cA ne];exact d p hp ()
 ·rintro τ S' ⟨j,m,ps,rfl,g,B,d,q⟩;rw[aH]at d;refine⟨ps,S',by dsimp[kj,bools,g],⟨(),λp h=>d p h h⟩,?_,q⟩;refine(yv (qK _ _) (λv hv=>?_)<|by rw[sV];lia).symm;have:=sU.mp hv;have hp:(v-1).toNat<xs.length:=()
  have:=bw (d (v-1).toNat hp hp)
  rwa [show(((v-1).toNat:Nat):Int)+1=v by lia]at this
theorem D3{s:Src}{e:Ex}(P:Nat->ae->jH->Prop)(step:∀i acc T,i<s.k->P i acc T->∃x y T2,s.get i T=some x/\e (x::k9 cap τ) T=.ok y T2/\P (i+1) (acc++[y]) T2)(hfin:∀acc T,P s.k acc T->s.fin T=true) :
  ∀k i τ' T acc,k+i=s.k->(∃y,τ'=y::k9 cap τ)->P i acc T->∃zs S',nB s (ko 0) qJ e k i τ' T=.ok zs S'/\P s.k (acc++zs) S'/\zs.length=k
 | 0,i,τ',T,acc,hk,_,hP=>by
  have:i=s.k:=()
  subst this;exact⟨[],T,by unfold nB;rw[aS<|hfin _ _ hP],by rw[bO];exact hP,rfl⟩
 | k+1,i,τ',T,acc,hk,hy,hP=>by
  obtain⟨d,rfl⟩:=hy;obtain⟨x,y,T2,e1,e2,p2⟩:=step i acc T () hP;obtain⟨zs,S',h1,h2,h3⟩:=D3 P step hfin k (i+1) (x::k9 cap τ) T2 (acc++[y]) () ⟨x,rfl⟩ p2;refine⟨y::zs,S',?_,by rw[cJ]at h2;exact h2,by rw[bB,h3]⟩;unfold nB;rw[e1,jS];rw[YQ,R.kD,show qJ ((d::k9 cap τ).set 0 x) T=.ok true T from rfl,R.kD];show((e (x::k9 cap τ) T).ny _)=_;rw[e2,R.kD];show(nB s (ko 0) qJ e k (i+1) (x::k9 cap τ) T2).ny _=_;rw[h1,R.kD]
def Ft{n:Nat}{xs:ae}{src:Ic}{e:Ex}(hs:src τ S=.ok (kW n xs.length) S1)(P:Nat->ae->jH->Prop)(hx:∀i acc T,P i acc T->jF T n=some xs)(p0:P 0 [] S1)
  (step:∀(i:Nat) (x:A) acc T,xs[i]?=some x->P i acc T->∃y T2,e (x::k9 cap τ) T=.ok y T2/\P (i+1) (acc++[y]) T2) (hl:xs.length<=16777216) :
  ∃ys S',kO (none::cap) src (ko 0) qJ e τ S=.ok (.ref S'.length) (S'++[.lst ys])/\P xs.length ys S'/\ys.length=xs.length:=by
 obtain⟨zs,S',h1,h2,h3⟩:=D3 (s:=kW n xs.length) (cap:=cap) (e:=e) (τ:=τ) P (λi acc T d hP=>by
  have d:i<xs.length:=d;obtain⟨y,T2,e1,p1⟩:=step i xs[i] acc T (aI d) hP;refine⟨xs[i],y,T2,?_,e1,p1⟩;show(jF T n).bind _=_;rw[hx _ _ _ hP];exact aI d) (λacc T hP=>by
  show(match jF T n with
   | some ys=>decide (ys.length<=xs.length)
   | none=>false)=true
  rw[hx _ _ _ hP];exact bg<|aL _) xs.length 0 (k9 (none::cap) τ) S1 [] rfl ⟨_,rfl⟩ p0
 rw[List.nil_append]at h2;refine⟨zs,S',?_,h2,h3⟩;unfold kO;rw[hs,R.mH];show(nB _ _ _ _ xs.length 0 _ S1).ny _=_;rw[h1,R.kD];exact mz ()
abbrev Ls (g:Os):Os:=ku<|g.map He.bk
abbrev wo (g:Os):ag:=g.headD []
abbrev BA (gs:List Os):List Os:=(UJ<|gs.map λg=>wo<|Ls g).map λi=>(gs.map Ls).getD i []
def bko{o:ag}{n:Nat}(p:o.Perm<|Fw.rg n)(hn:n<=20):∃S',r6 [tq o] S=.ok (tq<|He.bk o) S'/\k_ S S':=by
 have lo:o.length=n:=by rw[p.length_eq,Wd.mJ]
 obtain⟨ys,S',e,b,py,k⟩:=Tu (S:=S) (xs:=o) (n:=n) p ();have:ys=He.bk o:=He.Lj ⟨p,py,b⟩<|He.NF p;rw[this]at e;exact⟨S',e,k⟩
def wb1{S:jH}{n:Nat}{g:Os}(h:jF S m=some (g.map tq))(hp:∀o∈g,o.Perm<|Fw.rg n)(h1:1<=n)(hn:n<=20)(lg:g.length<=63) :
  ∃R S',kh (f1 vY) (jE (kO [none] (lV<|jD 0) (ko 0) qJ<|eFn r6<|jE (jD 0) jP) jP) [.ref m] S=.ok (.ref R) S'/\jF S' R=some ((Ls g).map tq)/\S.length<=R/\k_ S S':=by
 obtain⟨S1,f,k1⟩:=CF (cap:=[]) (t:=qJ) (e:=eFn r6<|jE (jD 0) jP) (τ:=[.ref m]) (S:=S) (S1:=S) (src:=lV<|jD 0) (xs:=g.map tq) (lY (by dsimp[kj,lU,bools]) h) h (λ_=>true) (λx=>tq<|He.bk<|un x) (λx p T C=>⟨T,rfl,Kp.refl,λ_=>by
  obtain⟨o,j,rfl⟩:=bf.mp p;obtain⟨T2,e2,k2⟩:=bko (S:=T) (hp o j) hn;refine⟨T2,?_,k2⟩;show eFn r6 (jE (jD 0) jP) [tq o] T=_;rw[BF];dsimp[kj,lU,bools,uq,e2]⟩)<|by rw[aH];lia
 have el:(((g.map tq).filter λ_=>true).map λx=>tq<|He.bk<|un x)=(g.map He.bk).map tq:=by
  rw[gc.mpr λ_ _=>rfl,bh,bh];refine bW λo _=>?_;show tq (He.bk<|un<|tq o)=tq (He.bk o);rw[BF]
 rw[el]at f;obtain⟨S2,d⟩:∃S2,S2=S1++[O.lst<|(g.map He.bk).map tq]:=⟨_,rfl⟩;rw[<- d]at f;have B:jF S2 S1.length=some ((g.map He.bk).map tq):=by rw[d];exact jW
 have k2:k_ S S2:=by rw[d];exact k1.lay
 have k:=J_ B (λl q=>by
  obtain⟨o,j,rfl⟩:=bf.mp q;intro z;have:=c9 List.length z;rw[(He.NF<|hp o j).lu]at this;have:n=0:=this
  lia)<|by rw[aH];lia
 refine⟨S2.length,S2++[O.lst<|(ku<|g.map He.bk).map tq],?_,jW,k2.len,k2.lay⟩;dsimp[kj,lU,bools,↓f,k]
theorem O4:∀{hs:List<|Os×Nat},(∀h∈hs,jF S h.2=some (h.1.map tq))->(∀h∈hs,h.1≠[])->Y8 S (hs.map λh=>.ref h.2)=some (hs.map λh=>wo h.1)
 | [],_,_=>rfl
 | h::hs,h1,h2=>by
  have e:=h1 h<|aV ..;have ne:=h2 h<|aV ..;have g:=O4 (S:=S) (hs:=hs) (λz d=>h1 z<|aX _ d) λz d=>h2 z<|aX _ d;show((fsH<|jF S h.2).bind λks=>(Y8 S<|hs.map λh=>.ref h.2).map λf=>ks::f)=_;rw[e,g];obtain⟨os,q⟩:=h
  cases os with
  | nil=>exact absurd rfl ne
  | cons o os=>
   show((A.ints<|o.map .int).bind λks=>some (ks::_))=_;rw[ints_map];rfl
def VZ{S:jH}{L:Nat}{hs:List<|Os×Nat}(h1:∀h∈hs,jF S h.2=some (h.1.map tq)/\L<h.2)(h2:∀h∈hs,h.1≠[])(nd:(hs.map λh=>wo h.1).Nodup)(hl:hs.length<64) :
  ∃S',MD (hs.map λh=>.ref h.2) S=.ok (.ref S.length) S'/\Hs S' S.length L ((UJ<|hs.map λh=>wo h.1).map λi=>(hs.map (·.1)).getD i [])/\k_ S S':=by
 have r:=O4 (λh f=>(h1 h f).1) h2;have a:=Ub r nd (by rw[aH];exact hl);have lt:∀i∈UJ (hs.map λh=>wo h.1),i<hs.length:=λi d=>by
  have:=cg.mp ((vt _ _).mem_iff.mp d)
  rwa [aH]at this
 refine⟨_,a,⟨(UJ<|hs.map λh=>wo h.1).map λi=>hs.getD i ([],0),?_,?_,?_⟩,Kp.refl.lay⟩
 ·rw[jW,bh];congr 1;refine bW λi d=>?_;have:=lt i d;show(hs.map λh=>A.ref h.2).getD i .non=.ref (hs.getD i ([],0)).2;rw[aK,aP,aK,aI this];rfl
 ·rw[bh];refine bW λi d=>?_;have:=lt i d;show(hs.getD i ([],0)).1=(hs.map (·.1)).getD i [];rw[aK,aK,aP,aI this];rfl
 ·intro h f;obtain⟨i,d,rfl⟩:=bf.mp f;have:=lt i d;have g:hs.getD i ([],0)∈hs:=by rw[aK,aI this];exact dD this
  exact⟨l7 (h1 _ g).1,(h1 _ g).2⟩
def QV{S:jH}{L:Nat}{hs:List<|Os×Nat}(h0:jF S m=some (hs.map λh=>.ref h.2))(h1:∀h∈hs,jF S h.2=some (h.1.map tq)/\L<h.2)(h2:∀h∈hs,h.1≠[])(nd:(hs.map λh=>wo h.1).Nodup)(hl:hs.length<64) :
  ∃S',F1 (.ref m) S=.ok (.ref S.length) S'/\Hs S' S.length L ((UJ<|hs.map λh=>wo h.1).map λi=>(hs.map (·.1)).getD i [])/\k_ S S':=by
 obtain⟨S',a,b,c⟩:=VZ h1 h2 nd hl;exact⟨S',(by show opt (jF S m) _=_;rw[h0,jS];exact a),b,c⟩
def Od{S:jH}{r L n:Nat}{gs:List Os}(h:Hs S r L gs)(hp:∀g∈gs,(∀o∈g,o.Perm<|Fw.rg n)/\g.length<=63/\Ls g≠[])(h1:1<=n)(hn:n<=20)(lg:gs.length<=63)(nd:(gs.map λg=>wo<|Ls g).Nodup) :
  ∃R S',mP [.ref r] S=.ok (.ref R) S'/\Hs S' R (S.length-1) (BA gs)/\S.length<=R/\k_ S S':=by
 obtain⟨hs,t,p,V⟩:=h.ex;have Z:=lW t;have N:hs.length=gs.length:=by rw[<- p,aH]
 obtain⟨ys,S1,C,⟨bs,U,d,j,K⟩,ly⟩:=Ft (cap:=[]) (e:=kh (f1 vY)<|jE (kO [none] (lV<|jD 0) (ko 0) qJ<|eFn r6<|jE (jD 0) jP) jP) (τ:=[.ref r]) (S:=S) (S1:=S) (src:=lV<|jD 0) (xs:=hs.map λh=>.ref h.2) (lY (by dsimp[kj,lU,bools]) t)
  (λi acc T=>∃bs:List<|Os×Nat,acc=bs.map (λh=>.ref h.2)/\bs.map (·.1)=(gs.take i).map Ls/\(∀h∈bs,jF T h.2=some (h.1.map tq)/\S.length-1<h.2)/\k_ S T) (λi acc T z=>by
   obtain⟨_,_,_,_,k⟩:=z;exact k.lst _ _ (λz=>z) t) ⟨[],rfl,rfl,(nofun),Kp.refl⟩ (λi x acc T G z=>by
   obtain⟨bs,rfl,d,j,k⟩:=z;rw[aP]at G;obtain⟨q,hq,rfl⟩:=aW.mp G;have M:=bw hq;have W:=k.lst _ _ (λz=>z) (V q M).1;have mg:q.1∈gs:=by rw[<- p];exact cX M
   have hg:gs[i]?=some q.1:=by rw[<- p,aP,hq];rfl
   obtain⟨R,T2,e2,B,r2,k2⟩:=wb1 W (hp _ mg).1 h1 hn (hp _ mg).2.1;have F:=k.len;refine⟨.ref R,T2,e2,bs++[(Ls q.1,R)],by rw[bD];rfl,?_,λz Y=>?_,k.trans k2⟩
   ·rw[bD,d,bR,hg,bD];rfl
   ·rcases bJ.mp Y with w|w
    ·exact⟨k2.lst _ _ (λz=>z) (j z w).1,(j z w).2⟩
    ·rw[aR.mp w];exact⟨B,by show S.length-1<R;lia⟩) (by rw[aH];lia)
 rw[aH,N,bX]at d;obtain⟨S2,f⟩:∃S2,S2=S1++[O.lst ys]:=⟨_,rfl⟩;rw[<- f]at C;have k2:k_ S1 S2:=by rw[f];kj_on
 have B:jF S2 S1.length=some (bs.map λh=>.ref h.2):=by rw[f,<- U];exact jW
 have J:(bs.map λh=>wo h.1)=gs.map λg=>wo (Ls g):=by
  rw[show(bs.map λh=>wo h.1)=(bs.map (·.1)).map wo from by rw[bh];rfl,d,bh];rfl
 obtain⟨S3,P,h3,k3⟩:=QV (L:=S.length-1) B (λh m=>⟨k2.lst _ _ (λz=>z) (j h m).1,(j h m).2⟩) (λh m=>by
  have:h.1∈gs.map Ls:=by rw[<- d];exact cX m
  obtain⟨g,hg,e⟩:=bf.mp this;rw[<- e];exact(hp g hg).2.2) (by rw[J];exact nd) (by have:=c9 List.length d;rw[aH,aH]at this;lia)
 rw[J,d]at h3;have F:=(K.trans k2).len;refine⟨S2.length,S3,?_,h3,F,(K.trans k2).trans k3⟩;unfold mP tW tV;dsimp[kj,lU,bools,lE,Nat.reduceAdd,Nat.reduceSub,↓C,P]
end K72
namespace K72
open PySem L2 Am
abbrev Gz (H:List Os)(o:ag):Os:=(H.filter λh=>decide<|o∈h).flatten
def Nz(H:List Os)(h:Os)(o:ag):Gz (H++[h]) o=Gz H o++if o∈h then h else[]:=by
 unfold Gz;rw[List.filter_append,iQ];congr 1;by_cases c:o∈h
 ·rw[aS c,dQ,aS<|bg c];exact List.flatten_singleton
 ·rw[aQ c,dQ,aQ<|by rw[bA c];exact bF];rfl
def Uq(H:List Os)(o:ag):(Gz H o).length<=H.flatten.length:=by
 induction H with
 | nil=>exact aL _
 | cons h H d=>
  unfold Gz at d ⊢;rw[dQ,dh,bq];split
  ·rw[dh,bq];lia
  ·lia
def Xp{S:jH}{n:Nat}{xs ys:ae}(h1:jF S n=some xs)(h2:jF S m=some ys)(h3:xs.length+ys.length<=16777216):Dh (.ref n) [.ref m] S=.ok .non (S.set n<|.lst<|xs++ys):=by
 show opt (jF S n) _=_;rw[h1,jS,h2,jS];exact E9<|show xs.length+ys.length<=sizeLine from h3
def Wg{S:jH}{n:Nat}(hn:n<=4)(nd:(ao n).Nodup):∃(D:Nat) (es:List<|ag×Nat) (S':jH),Ml (.dct []) n5 [none] (lV<|oB kM<|jE (jD 0) jP) (ko 0) qJ (jD 0) (tM jP) (.int n::τr) S=.ok (.ref D) S' /\
  jV S' D=some (ev es)/\es.map (·.1)=ao n/\(∀e∈es,jF S' e.2=some []/\S.length<=e.2)/\(es.map (·.2)).Nodup/\S.length<=D/\k_ S S':=by
 obtain⟨p,V,k0⟩:=QS (S:=S) hn;obtain⟨S2,t⟩:∃S2,S2=p++[O.lst<|(ao n).map tq]:=⟨_,rfl⟩;have k2:k_ S S2:=by rw[t];exact k0.lay
 have P:jF S2 p.length=some ((ao n).map tq):=by rw[t];exact jW
 rw[<- t]at V;have F:=k2.len;have lao:(ao n).length<=24:=by
  unfold ao;rw[aH,bQ];exact bM (Nu.zj hn) ⋯
 obtain⟨S3,B⟩:∃S3,S3=S2++[O.dct []]:=⟨_,rfl⟩;have k3:k_ S2 S3:=by rw[B];kj_on
 have d3:jV S3 S2.length=some (ev []):=by rw[B];exact Su.nM
 have lm:p.length<S2.length:=lW P;have W:=k3.lst _ _ (λz=>z) P;obtain⟨τ',S4,e4,es,p1,p2,p3,J,q⟩:=Jv (st:=n5) (s:=kW p.length ((ao n).map tq).length) (g:=ko 0) (ek:=jD 0) (ev:=tM jP) (n:=S2.length)
  (λi T=>∃es:List<|ag×Nat,jV T S2.length=some (ev es)/\es.map (·.1)=(ao n).take i/\(∀e∈es,jF T e.2=some []/\S.length<=e.2/\e.2<T.length)/\(es.map (·.2)).Nodup/\Kp (·=S2.length) S3 T) (λτ=>∃y,τ=[y]) (λi τ T G hq hP=>by
   obtain⟨y,rfl⟩:=hq;obtain⟨es,p1,p2,p3,J,q⟩:=hP;have G:i<((ao n).map tq).length:=G;rw[aH]at G;have L:=q.lst _ _ () W;obtain⟨T2,f⟩:∃T2,T2=T++[O.lst []]:=⟨_,rfl⟩;have U:k_ T T2:=by rw[f];kj_on
   have Z:jF T2 T.length=some []:=by rw[f];exact jW
   have d:=U.dct _ _ (λz=>z) p1;have M:newL ([]:ae) T=.ok (.ref T.length) T2:=by rw[f];exact rZ (show 0<=16777216 by decide)
   have new:(ao n)[i]∉(ev es).map (·.1):=by
    rw[xg,p2];intro z;obtain⟨j,hj,e⟩:=bP.mp z;rw[ig]at e;have lj:j<i:=by rw[b8]at hj;lia
    have:=(b7 nd).mp e
    lia
   have e5:n5 (.ref S2.length) (tq (ao n)[i]) (.ref T.length) T2=.ok Unit.unit (T2.set S2.length<|.dct<|ev<|es++[((ao n)[i],T.length)]):=by
    have:=Su.sR (n:=S2.length) (o:=(ao n)[i]) (v:=.ref T.length) (S:=T2);rw[d,jS,yS new]at this;refine this.trans ?_;have le:es.length=i:=by have:=c9 List.length p2;rw[aH,b8]at this;lia
    rw[uh<|by unfold ev;rw[aH];lia];unfold ev;rw[bD];rfl
   have N:Kp (·=S2.length) T2 (T2.set S2.length<|.dct<|ev<|es++[((ao n)[i],T.length)]):=Kp.refl.t6<|.inl rfl;have K:T2.length=T.length+1:=by rw[f,bq];rfl
   have k3l:=k3.len;have p5l:=q.len;refine⟨tq (ao n)[i],[tq (ao n)[i]],T,tq (ao n)[i],T,.ref T.length,T2,_,?_,rfl,⟨_,rfl⟩,rfl,(by dsimp[kj,lU,M]),e5,es++[((ao n)[i],T.length)],?_,?_,λe C=>?_,?_,(q.trans U.of0).trans N⟩
   ·show(jF T p.length).bind _=_;rw[L];show((ao n).map tq)[i]?=_;rw[aP,aI G];rfl
   ·exact pR (by rw[br<|Su.sj d])
   ·rw[bD,p2,bR,aI G];rfl
   ·rw[bT,K]
    rcases bJ.mp C with z|z
    ·have a:=U.lst _ _ (λz=>z) (p3 e z).1;exact⟨N.lst _ _ (λw=>Su.mO d a w.symm) a,(p3 e z).2.1,by have:=(p3 e z).2.2;lia⟩
    ·rw[aR.mp z];exact⟨N.lst _ _ (λw=>Su.mO d Z w.symm) Z,by show S.length<=T.length;lia,by show T.length<_;lia⟩
   ·rw[bD];refine cL.mpr ⟨J,(cH _ _),λa ha b hb z=>?_⟩;rw[aR.mp hb]at z;obtain⟨e,C,rfl⟩:=bf.mp ha;have:=(p3 e C).2.2;have z:e.2=T.length:=z
    lia) (λT hP=>by
   obtain⟨es,p1,p2,p3,J,q⟩:=hP;have L:=q.lst _ _ () W;show(match jF T p.length with
    | some ys=>decide (ys.length<=((ao n).map tq).length)
    | none=>false)=true
   rw[L];exact bg<|aL _) ((ao n).map tq).length 0 (k9 [none] (.int n::τr)) S3 rfl ⟨_,rfl⟩ ⟨[],d3,rfl,(nofun),cQ,Kp.refl⟩
 have p2:es.map (·.1)=ao n:=by
  have:(kW p.length ((ao n).map tq).length).k=(ao n).length:=aH ..;rw[this,bX]at p2;exact p2
 have Y:=k3.len;refine⟨S2.length,es,S4,?_,p1,p2,λe C=>⟨(p3 e C).1,(p3 e C).2.1⟩,J,F,(k2.trans k3).old q λm hm _ z=>()⟩;have hs:lV (oB kM<|jE (jD 0) jP) (.int n::τr) S=.ok (kW p.length ((ao n).map tq).length) S2:=lY (by dsimp[kj,lU,bools,V]) P;unfold Ml;rw[hs,R.mH,<- B];show(yb _ _ _ _ _ _ _ ((ao n).map tq).length 0 _ _).ny _=_;rw[e4];rfl
def bl2{D n g:Nat}{os:Os}{es:List<|ag×Nat}{H:List Os}{h:Os}(d:jV S D=some (ev es))(ek:es.map (·.1)=os)(osn:os.Nodup)(en:(es.map (·.2)).Nodup)(hg:jF S g=some (h.map tq))(gn:g∉es.map (·.2))(he:∀e∈es,jF S e.2=some ((Gz H e.1).map tq))(hh:∀o∈h,o∈os)(hnd:h.Nodup)(hl:H.flatten.length+h.length<=10000) :
  ∃(y:A) (S':jH),mj pG (ko 4) o4 [.int n,r0,.ref D,.ref g,y4] S=.nx [.int n,r0,.ref D,.ref g,y] S'/\(∀e∈es,jF S' e.2=some ((Gz (H++[h]) e.1).map tq))/\Kp (λm=>m∈es.map (·.2)) S S':=by
 have O:D∉es.map (·.2):=λz=>by
  obtain⟨e,p,z⟩:=bf.mp z;exact Su.mO d (he e p) z.symm
 refine oJ (n:=g) (xs:=h.map tq) (S:=S) (S1:=S) (show pG _ _=_ from lY (S1:=S) (by dsimp[kj,lU,bools]) hg)
  (λt τ T=>∃y,τ=[.int n,r0,.ref D,.ref g,y]/\(∀e∈es,jF T e.2=some ((Gz H e.1++if e.1∈h.take t then h else[]).map tq))/\Kp (λm=>m∈es.map (·.2)) S T)
  (λZ=>∃(y:A) (S':jH),Z=.nx [.int n,r0,.ref D,.ref g,y] S'/\(∀e∈es,jF S' e.2=some ((Gz (H++[h]) e.1).map tq))/\Kp (λm=>m∈es.map (·.2)) S S')
  ⟨_,rfl,λe p=>by rw[fB,aQ List.not_mem_nil,bO];exact he e p,Kp.refl⟩ (λt τ T z=>?_) ?_ ?_
 ·obtain⟨_,_,_,k⟩:=z;exact k.lst _ _ gn hg
 ·rintro t z τ T M ⟨y,rfl,F,C⟩;rw[aP]at M;obtain⟨o,K,rfl⟩:=aW.mp M;have P:=bw K;have oe:o∈es.map (·.1):=by rw[ek];exact hh o P
  obtain⟨e,B,J,W⟩:=B9 oe;have dT:=C.dct _ _ O d;have V:=C.lst _ _ gn hg;have ix:sD (.ref D) (tq o) T=.ok (.ref e.2) T:=by rw[GX,dT,jS];show opt (kF (ev es) o) _=_;rw[show kF (ev es) o=_ from W,jS]
  have le:=F e B;have N:o∉h.take t:=λz=>by
   obtain⟨j,U,f⟩:=bP.mp z;rw[b8]at U;rw[ig]at f;obtain⟨lt,e2⟩:=aJ.mp K;have:=(b7 hnd).mp (f.trans e2.symm)
   lia
  rw[J,aQ N,bO]at le;have Y:=Uq H o;have ex:=Xp le V (by rw[aH,aH];lia);refine⟨[.int n,r0,.ref D,.ref g,tq o],T,rfl,.inl ⟨[.int n,r0,.ref D,.ref g,tq o],T.set e.2<|.lst<|(Gz H o).map tq++h.map tq,?_,_,rfl,λf q=>?_,C.trans<|Kp.refl.t6<|.inl<|cX B⟩⟩
  ·unfold o4;dsimp[kj,lU,bools,uq,ix,le,ex]
  ·have L:h.take (t+1)=h.take t++[o]:=by rw[bR,K];rfl
   by_cases c:f=e
   ·subst c;rw[rJ<|lW le,J,L,aS<|bI _<|aR.mpr rfl,bD]
   ·have ne:f.2≠e.2:=λz=>by
     obtain⟨a,ha,rfl⟩:=bP.mp q;obtain⟨b,hb,rfl⟩:=bP.mp B;have:(es.map (·.2))[a]'(by rw[aH];exact ha)=(es.map (·.2))[b]'(by rw[aH];exact hb):=by rw[cI,cI];exact z
     have:=(b7 en).mp this;subst this;exact c rfl
    have G:f.1≠o:=λz=>by
     exact c (by
      have k1:(es.map (·.1)).Nodup:=by rw[ek];exact osn
      obtain⟨a,ha,rfl⟩:=bP.mp q;obtain⟨b,hb,rfl⟩:=bP.mp B;have:(es.map (·.1))[a]'(by rw[aH];exact ha)=(es.map (·.1))[b]'(by rw[aH];exact hb):=by rw[cI,cI];exact z.trans J.symm
      have:=(b7 k1).mp this;subst this;rfl)
    rw[vV<|cA ne,F f q,L];have:(f.1∈h.take t++[o]) ↔ f.1∈h.take t:=⟨λz=>(bJ.mp z).elim id λw=>absurd (aR.mp w) G,λz=>cM _ z⟩;by_cases c2:f.1∈h.take t
    ·rw[aS c2,aS<|this.mpr c2]
    ·rw[aQ c2,aQ λz=>c2<|this.mp z]
 ·rintro τ T ⟨y,rfl,F,C⟩;refine⟨y,T,rfl,λe B=>?_,C⟩;have:=F e B;rw[aH,bX]at this;rw[Nz];exact this
end K72
namespace K72
open PySem L2 Am
structure Okb (n f:Nat)(G:List Os)(rc:ag->Os):Prop where
 n1:1<=n
 pm:∀g∈G,(∀o∈g,o.Perm<|Fw.rg n)/\g.length<=63/\Ls g≠[]
 nd:(G.map λg=>wo<|Ls g).Nodup
 ln:G.length<=63
 hh:∀h∈G++BA G,(∀o∈h,o∈ao n)/\h.Nodup
 fl:(G++BA G).flatten.length<=5000/\(G++BA G).length<=5000
 ff:f<=1000000
 rr:∀o∈ao n,rf (ao n) (Gz<|G++BA G) f [o] [o]=some (rc o)
 sub:∀o∈ao n,(∀p∈rc o,p∈ao n)/\(rc o).length<=63/\DE rc o≠[]
def Ma{H:List Os}:(H.take i).flatten.length<=H.flatten.length:=by
 have:H.flatten=(H.take i).flatten++(H.drop i).flatten:=by rw[<- iQ,iA]
 rw[this,bq];lia
def Nr{H:List Os}{i:Nat}{h:Os}(e:H[i]?=some h):(H.take i).flatten.length+h.length<=H.flatten.length:=by
 have:(H.take<|i+1).flatten.length=(H.take i).flatten.length+h.length:=by
  rw[bR,e,iQ,bq];show _+([h].flatten).length=_;rw[List.flatten_singleton]
 rw[<- this];exact Ma
def bl1{D n r:Nat}{G:List Os}{es:List<|ag×Nat}{f:Nat}{rc:ag->Os}(b:Okb n f G rc)(hn:n<=4)(osn:(ao n).Nodup)(hr:Hs S r r G)(d:jV S D=some (ev es))(ek:es.map (·.1)=ao n)(en:(es.map (·.2)).Nodup)(he:∀e∈es,jF S e.2=some []/\r<e.2)(hx:∀hs:List<|Os×Nat,jF S r=some (hs.map λh=>A.ref h.2)->∀h∈hs,h.2∉es.map (·.2)) :
  ∃(y z:A) (S':jH),mj pF (ko 3) pH [.int n,.ref r,.ref D,y3,y4] S=.nx [.int n,.ref r,.ref D,y,z] S'/\(∀e∈es,jF S' e.2=some ((Gz (G++BA G) e.1).map tq))/\jV S' D=some (ev es)/\Kp (λm=>m∈es.map (·.2)) S S':=by
 obtain⟨R,S1,x1,h1,l1,k1⟩:=Od hr b.pm b.n1 () b.ln b.nd;obtain⟨p,a1,N,a3⟩:=hr.ex;obtain⟨bs,b1,V,P⟩:=h1.ex;have F:=k1.lst _ _ (λz=>z) a1;have la:p.length=G.length:=by rw[<- N,aH]
 have lb:bs.length=(BA G).length:=by rw[<- V,aH]
 have fl:=b.fl;rw[bq]at fl;have U:=MC F b1 (by rw[aH,aH];lia);obtain⟨S2,q⟩:∃S2,S2=S1++[O.lst<|p.map (λh=>A.ref h.2)++bs.map λh=>A.ref h.2]:=⟨_,rfl⟩;rw[<- q]at U;have k2:k_ S1 S2:=by rw[q];kj_on
 have l2:jF S2 S1.length=some ((p++bs).map λh=>.ref h.2):=by rw[q,bD];exact jW
 have g:=k1.trans k2;have d2:=g.dct _ _ (λz=>z) d;have eS:∀e∈es,e.2<S.length:=λe m=>lW (he e m).1;have hn:∀h∈p++bs,jF S2 h.2=some (h.1.map tq)/\h.2∉es.map (·.2):=λh hh=>by
  rcases bJ.mp hh with z|z
  ·exact⟨g.lst _ _ (λz=>z) (a3 h z).1,hx p a1 h z⟩
  ·refine⟨k2.lst _ _ (λz=>z) (P h z).1,λw=>?_⟩;obtain⟨e,j,C⟩:=bf.mp w;have:=eS e j;have:=(P h z).2;have C:e.2=h.2:=C
   lia
 have B:(p++bs).map (·.1)=G++BA G:=by rw[bD,N,V]
 have sl:S1.length∉es.map (·.2):=λw=>by
  obtain⟨e,j,C⟩:=bf.mp w;have:=eS e j;have C:e.2=S1.length:=C;have:=k1.len
  lia
 have W:D∉es.map (·.2):=λz=>by
  obtain⟨e,K,z⟩:=bf.mp z;exact Su.mO d (he e K).1 z.symm
 refine oJ (n:=S1.length) (xs:=(p++bs).map λh=>A.ref h.2) (S:=S) (S1:=S2) (show pF _ _=_ from lY (S1:=S2) (by dsimp[kj,lU,bools,x1,U]) l2)
  (λi τ T=>∃y z,τ=[.int n,.ref r,.ref D,y,z]/\(∀e∈es,jF T e.2=some ((Gz ((G++BA G).take i) e.1).map tq))/\Kp (λm=>m∈es.map (·.2)) S2 T)
  (λZ=>∃(y z:A) (S':jH),Z=.nx [.int n,.ref r,.ref D,y,z] S'/\(∀e∈es,jF S' e.2=some ((Gz (G++BA G) e.1).map tq))/\jV S' D=some (ev es)/\Kp (λm=>m∈es.map (·.2)) S S')
  ⟨_,_,rfl,λe j=>by rw[fB];exact g.lst _ _ (λz=>z) (he e j).1,Kp.refl⟩ (λi τ T z=>?_) ?_ ?_
 ·obtain⟨_,_,_,_,k⟩:=z;exact k.lst _ _ sl l2
 ·rintro i z τ T hz ⟨y,Y,rfl,L,t⟩;rw[aP]at hz;obtain⟨h,hh,rfl⟩:=aW.mp hz;have J:=bw hh;have M:(G++BA G)[i]?=some h.1:=by rw[<- B,aP,hh];rfl
  have hG:=b.hh h.1<|bw M;have fm:=Nr M;obtain⟨y5,T1,e1,q1,kk⟩:=bl2 (n:=n) (r0:=.ref r) (y4:=Y) (H:=(G++BA G).take i) (t.dct _ _ W d2) ek osn en (t.lst _ _ (hn h J).2 (hn h J).1) (hn h J).2 L hG.1 hG.2 ();refine⟨[.int n,.ref r,.ref D,.ref h.2,Y],T,rfl,.inl ⟨[.int n,.ref r,.ref D,.ref h.2,y5],T1,?_,_,_,rfl,λe j=>?_,t.trans kk⟩⟩
  ·unfold pH;exact e1
  ·rw[bR,M];exact q1 e j
 ·rintro τ T ⟨y,z,rfl,L,t⟩;refine⟨y,z,T,rfl,λe j=>?_,t.dct _ _ W d2,g.of0.trans t⟩;have:=L e j;rw[aH,show(p++bs).length=(G++BA G).length by rw[<- B,aH],bX]at this;exact this
def UT{S:jH}{n f f2:Nat}{rc rc2:ag->Os}(hn:n<=4)(h:Okn n f (ao n) rc)(b:Okb n f2 (AD (ao n) rc) rc2):∃(r:Nat) (S':jH),lG [.int n] S=.ok (.ref r) S'/\Hs S' r r (AD (ao n) rc2)/\S.length<=r/\k_ S S':=by
 obtain⟨r,S1,K,h1,l1,k1⟩:=GA (S:=S) hn h;obtain⟨D,es,S2,Y,Z,ek,k,en,lD,k2⟩:=Wg (S:=S1) (τr:=[.ref r,.unb,.unb,.unb]) hn h.nd;have lr1:r<S1.length:=by
  obtain⟨_,z,_⟩:=h1.ex;exact lW z
 have B:Hs S2 r r (AD (ao n) rc):=by
  obtain⟨hs,C,F,j⟩:=h1.ex;exact⟨hs,k2.lst _ _ (λz=>z) C,F,λq hq=>⟨k2.lst _ _ (λz=>z) (j q hq).1,(j q hq).2⟩⟩
 obtain⟨y,z,S3,P,T,N,k3⟩:=bl1 (y3:=.unb) (y4:=.unb) b hn h.nd B Z ek en (λe d=>⟨(k e d).1,by have:=(k e d).2;lia⟩) (λhs e q hq w=>by
  obtain⟨t,C,F,j⟩:=h1.ex;rw[k2.lst _ _ (λz=>z) C]at e;have e:=aZ e;have:A.ref q.2∈t.map (λh=>A.ref h.2):=by rw[e];exact cX (f:=λh:Os×Nat=>A.ref h.2) hq
  obtain⟨q',p,G⟩:=bf.mp this;have G:q'.2=q.2:=A.ref.inj G;have lt:=lW (j q' p).1;obtain⟨J,d,g⟩:=bf.mp w;have g:J.2=q.2:=g;have:=(k J d).2
  lia)
 have ln:=h.ln;obtain⟨M,L,V,O,l4,k4⟩:=yz N ek T h.nd () b.ff b.rr (λo W z=>by have:=oN (h.pm o W).1;rw[z]at this;have:=h.n1;simp at *;lia) b.sub;have e1:=k1.len;have e2:=k2.len;have e3:=k3.len;refine⟨M,L,?_,O,(),((k1.trans k2).old k3 λm U _ z=>?_).old k4 λm U _ z=>()⟩
 ·unfold lG oU oA;dsimp[kj,lU,bools,lE,Nat.reduceAdd,Nat.reduceSub,K,↓Y,↓P,V]
 ·obtain⟨e,d,g⟩:=bf.mp z;have:=(k e d).2;have g:e.2=m:=g
  lia
def UN{S:jH}{n f f2:Nat}{rc rc2:ag->Os}(hn:n<=4)(h:Okn n f (ao n) rc)(b:Okb n f2 (AD (ao n) rc) rc2):∃(r L:Nat) (S':jH),lN [.int n] S=.ok (.ref r) S'/\Hs S' r L (BA<|AD (ao n) rc)/\S.length<=r/\k_ S S':=by
 obtain⟨r,S1,d,h1,j,k1⟩:=GA (S:=S) hn h;obtain⟨R,S2,g,h2,k,k2⟩:=Od h1 b.pm b.n1 () b.ln b.nd;have:=k1.len;refine⟨R,_,S2,?_,h2,(),k1.trans k2⟩;unfold lN oQ oO;dsimp[kj,lU,bools,lE,Nat.reduceAdd,Nat.reduceSub,d,g]
end K72
namespace K72
open PySem L2 Am
def Gx{n:Nat}{G X:List Os}(n1:1<=n)(pm:∀g∈G,(∀o∈g,o.Perm<|Fw.rg n)/\g.length<=63/\Ls g≠[])(nd:(G.map λg=>wo<|Ls g).Nodup)(ln:G.length<=63)(hW:BA G=W)(hh:∀h∈G++W,(∀o∈h,o∈ao n)/\h.Nodup)(fl:(G++W).flatten.length<=5000/\(G++W).length<=5000)
  (nx:∀o∈ao n,Gz (G++W) o=lz (ao n) X o) (rr:∀o∈ao n,rf (ao n) (lz (ao n) X) 500 [o] [o]=some (lz (ao n) C o)) (sub:∀o∈ao n,(∀p∈lz (ao n) C o,p∈ao n)/\(lz (ao n) C o).length<=63/\DE (lz (ao n) C) o≠[]):Okb n 500 G (lz (ao n) C):=⟨n1,pm,nd,ln,by rw[hW];exact hh,by rw[hW];exact fl,by decide,λo d=>by
 rw[hW,zM (nx':=lz (ao n) X) nx];exact rr o d,sub⟩
abbrev Wq1:List Os:=[[[1]]]
abbrev Yq1:List Os:=[[[1],[1]]]
abbrev Dq1:List Os:=[[[1]]]
def wq1:BA Gq1=Wq1:=by decide +kernel
def ob1:Okb 1 500 (AD (ao 1)<|lz (ao 1) WI) (lz (ao 1) Dq1):=by
 rw[gt1];exact Gx (X:=Yq1) ⋯ ∅ ∅ ∅ wq1 ∅ ∅ ∅ ∅ ∅
abbrev Wq2:List Os:=[[[1,2]],[[2,1]]]
abbrev Yq2:List Os:=[[[1,2],[1,2]],[[2,1],[2,1]]]
abbrev Dq2:List Os:=[[[1,2]],[[2,1]]]
def wq2:BA Gq2=Wq2:=by decide +kernel
def ob2:Okb 2 500 (AD (ao 2)<|lz (ao 2) XQ) (lz (ao 2) Dq2):=by
 rw[gt2];exact Gx (X:=Yq2) ⋯ ∅ ∅ ∅ wq2 ∅ ∅ ∅ ∅ ∅
abbrev Wq3:List Os:=[[[1,2,3]],[[1,3,2],[2,3,1]],[[2,1,3],[3,1,2]],[[3,2,1]]]
abbrev Yq3:List Os:=[[[1,2,3],[1,2,3]],[[1,3,2],[3,1,2],[1,3,2],[2,3,1]],[[2,1,3],[2,3,1],[2,1,3],[3,1,2]],[[2,1,3],[2,3,1],[1,3,2],[2,3,1]],[[1,3,2],[3,1,2],[2,1,3],[3,1,2]],[[3,2,1],[3,2,1]]]
abbrev Dq3:List Os:=[[[1,2,3]],[[1,3,2],[3,1,2],[2,3,1],[2,1,3]],[[2,1,3],[2,3,1],[3,1,2],[1,3,2]],[[2,3,1],[2,1,3],[1,3,2],[3,1,2]],[[3,1,2],[1,3,2],[2,1,3],[2,3,1]],[[3,2,1]]]
def wq3:BA Gq3=Wq3:=by decide +kernel
def ob3:Okb 3 500 (AD (ao 3)<|lz (ao 3) Wx) (lz (ao 3) Dq3):=by
 rw[gt3];exact Gx (X:=Yq3) ⋯ ∅ ∅ ∅ wq3 ∅ ∅ ∅ ∅ ∅
end K72
namespace K72
open PySem L2 Am
def XY{n:Nat}(h:4<n)(h2:n<=20):kM [.int n] S=.ex "TooMany" S:=by
 unfold kM qy qu;dsimp[kj,lU,bools,lE,Nat.reduceAdd,Nat.reduceSub,bg<|show(n:Int)>4 by lia,Zm<|show n<18446744073709551616 by lia]
def P0{n:Nat}(h:4<n)(h2:n<=20):kg [.int n] S=.ex "TooMany" S:=by
 unfold kg nL nP;dsimp[kj,lU,bools,lE,Nat.reduceAdd,Nat.reduceSub,XY h h2]
def Z7{n:Nat}(h:4<n)(h2:n<=20):lN [.int n] S=.ex "TooMany" S:=by
 unfold lN oQ oO;dsimp[kj,lU,bools,lE,Nat.reduceAdd,Nat.reduceSub,P0 h h2]
def Zs{n:Nat}(h:4<n)(h2:n<=20):lG [.int n] S=.ex "TooMany" S:=by
 unfold lG oU oA;dsimp[kj,lU,bools,lE,Nat.reduceAdd,Nat.reduceSub,P0 h h2]
def Zo {S:jH}{n j:Nat}(h:4<n)(h2:n<=20)(hj:j<3):kP [.int j,.int n] S=.ex "TooMany" S:=by
 unfold kP mZ mX;have:j=0\/j=1\/j=2:=()
 rcases this with rfl|rfl|rfl
 ·dsimp[kj,lU,bools,lE,Nat.reduceAdd,Nat.reduceSub,show(((0:Nat):Int) == 0)=true from rfl,P0 h h2]
 ·dsimp[kj,lU,bools,lE,Nat.reduceAdd,Nat.reduceSub,show(((1:Nat):Int) == 0)=false from rfl,show(((1:Nat):Int) == 1)=true from rfl,Z7 h h2]
 ·dsimp[kj,lU,bools,lE,Nat.reduceAdd,Nat.reduceSub,show(((2:Nat):Int) == 0)=false from rfl,show(((2:Nat):Int) == 1)=false from rfl,Zs h h2]
def Wh{a c d:Bool}:Tz (Gh [("NoPair",a),("NoWord",b),("NoNumber",c),("TooMany",d)]) (.exn "TooMany") S=.ok (.bl d) S:=by
 have e:Gh [("NoPair",a),("NoWord",b),("NoNumber",c),("TooMany",d)] "TooMany" = some d:=by
  show List.lookup ("TooMany" : Str) [("NoPair",a),("NoWord",b),("NoNumber",c),("TooMany",d)]=some d;rw[cT,show(("TooMany" : Str) == "NoPair")=false from by decide +kernel,cT,show(("TooMany" : Str) == "NoWord")=false from by decide +kernel,cT,show(("TooMany" : Str) == "NoNumber")=false from by decide +kernel,cT,cu]
 unfold Tz;dsimp[e,jS]
def SH{n:Nat}{x w:Str}{d:Am.Sm}:RS.try i n (y::z::w::x::cs) d (.ex x S)=Rv i (d ((List.replicate n .unb).set i<|.exn x) S):=aS<|.tail _<|.tail _<|.tail _<|.head _
abbrev VA:ae:=[.str<|PySem.Str.ofString "NoWord",.str<|PySem.Str.ofString "NoNumber",.str<|PySem.Str.ofString "NoPair",.str<|PySem.Str.ofString "TooMany",.str<|PySem.Str.ofString "NoTables",.str<|PySem.Str.ofString "NoText",.str<|PySem.Str.ofString "NoRow",.str<|PySem.Str.ofString "NoName"]
abbrev nmd:ae:=[.bl false,.bl false,.bl false,.bl true,.bl false,.bl false,.bl false,.bl false]
def RA:∃S',nI [.exn "TooMany"] S=.ok (.str<|PySem.Str.ofString "TooMany") S'/\k_ S S':=by
 obtain⟨S1,f⟩:∃S1,S1=S++[O.lst [.bl false,.bl false,.bl false,.bl true]]:=⟨_,rfl⟩;have n1:newL [A.bl false,.bl false,.bl false,.bl true] S=.ok (.ref S.length) S1:=by rw[f];exact rZ (show 4<=16777216 by decide)
 have k1:k_ S S1:=by rw[f];kj_on
 have L:jF S1 S.length=some [.bl false,.bl false,.bl false,.bl true]:=by rw[f];exact jW
 obtain⟨S2,g⟩:∃S2,S2=S1++[O.lst [.bl false,.bl false,.bl false,.bl false]]:=⟨_,rfl⟩;have W:newL [A.bl false,.bl false,.bl false,.bl false] S1=.ok (.ref S1.length) S2:=by rw[g];exact rZ (show 4<=16777216 by decide)
 have k2:k_ S1 S2:=by rw[g];kj_on
 have Y:jF S2 S1.length=some [.bl false,.bl false,.bl false,.bl false]:=by rw[g];exact jW
 obtain⟨S3,j⟩:∃S3,S3=S2++[O.lst nmd]:=⟨_,rfl⟩;have k3:k_ S2 S3:=by rw[j];kj_on
 have U:jF S3 S2.length=some nmd:=by rw[j];exact jW
 have N:pT (.ref S.length) (.ref S1.length) S2=.ok (.ref S2.length) S3:=by rw[j];exact MC (k2.lst _ _ (λz=>z) L) Y (show 4+4<=16777216 by decide)
 obtain⟨d,k⟩:∃d,d=S3++[O.lst VA]:=⟨_,rfl⟩;have F:newL VA S3=.ok (.ref S3.length) d:=by rw[k];exact rZ (show 8<=16777216 by decide)
 unfold VA at F;have K:k_ S3 d:=by rw[k];kj_on
 have l4:jF d S3.length=some VA:=by rw[k];exact jW
 have p:=K.lst _ _ (λz=>z) U;obtain⟨q,C,k5⟩:=wX (cap:=[some 2,some 1]) (t:=r9<|jT vX (jD 2)<|jD 0) (e:=jT vX (jD 1)<|jD 0) (τ:=[.exn "TooMany",.ref S2.length,.ref S3.length,.unb]) (S:=d) (S1:=d) (src:=rF<|eC<|.int 8) (s:=sE 0 8) (xs:=(List.range 8).map λm:Nat=>A.int (m:Int)) (xG (by dsimp[kj,lU,bools])<|uN ⋯ ⋯) ⋯ (λ_=>False) (λT _ i J=>by
   rw[aH,bQ]at J;show(if i<((8:Int)-0).toNat then some (A.int<|0+i)else none)=_;rw[aS (),aP,dI J,cO];rfl) (λ_ _=>rfl) (λx=>decide<|Ru x=3) (λx=>VA.getD (Ru x).toNat .non) (λx P T G=>by
   obtain⟨m,B,rfl⟩:=bf.mp P;have B:=cg.mp B;have tn:=G.lst _ _ (λz=>z) p;have M:=G.lst _ _ (λz=>z) l4;have hn:uy nmd (m:Int)=some (.bl<|decide<|(m:Int)=3):=by
    have:m=0\/m=1\/m=2\/m=3\/m=4\/m=5\/m=6\/m=7:=()
    rcases this with rfl|rfl|rfl|rfl|rfl|rfl|rfl|rfl<;>rfl
   have hw:uy VA (m:Int)=some (VA.getD m .non):=by
    have:m=0\/m=1\/m=2\/m=3\/m=4\/m=5\/m=6\/m=7:=()
    rcases this with rfl|rfl|rfl|rfl|rfl|rfl|rfl|rfl<;>rfl
   refine⟨T,?_,Kp.refl,λ_=>⟨T,?_,Kp.refl⟩⟩
   ·show r9 (jT vX (jD 2)<|jD 0) [.int m,.ref S3.length,.ref S2.length] T=_;dsimp[kj,lU,bools,tn,hn];rfl
   ·show jT vX (jD 1) (jD 0) [.int m,.ref S3.length,.ref S2.length] T=_;dsimp[kj,lU,bools,M,hw];rfl) ⋯
 have el:((((List.range 8).map λm:Nat=>A.int (m:Int)).filter λx=>decide<|Ru x=3).map λx=>VA.getD (Ru x).toNat .non)=[.str<|PySem.Str.ofString "TooMany"]:=rfl;rw[el]at C;have V:jF (q++[O.lst [A.str<|PySem.Str.ofString "TooMany"]]) q.length=some [.str<|PySem.Str.ofString "TooMany"]:=jW;refine⟨_,?_,(((((k1.trans k2).trans k3).trans K).trans k5).lay (o:=.lst [.str<|PySem.Str.ofString "TooMany"]))⟩;have Z:((((0+1:Nat)):Int) == 1)=true:=rfl;unfold nI sy sF;dsimp[kj,lU,bools,lE,Nat.reduceAdd,Nat.reduceSub,Wh,n1,W,N,F,↓C,V,yy,bB,dJ,Z,bY,show(((1:Nat):Int) == 1)=true from rfl]
def Uy {S:jH}{n j:Nat}(h:4<n)(h2:n<=20)(hj:j<3):∃S',mh [.int j,.int n] S=.ok (.str<|PySem.Str.ofString "TooMany") S'/\k_ S S':=by
 obtain⟨S1,e1,k1⟩:=RA (S:=S);refine⟨S1,?_,k1⟩;unfold mh t8 tF;dsimp[kj,lU,bools,lE,Nat.reduceAdd,Nat.reduceSub,Zo h h2 hj,SH,List.replicate,e1]
def Cs {S S1:jH}{n j r L:Nat}{G:List Os}(e:kP [.int j,.int n] S=.ok (.ref r) S1)(h:Hs S1 r L G)(k:k_ S S1)(hl:G.length<=1000):∃S',mh [.int j,.int n] S=.ok (.int<|(G.map λg=>(g.length:Int)).sum) S'/\k_ S S':=by
 obtain⟨hs,m,d,B⟩:=h.ex;have K:hs.length=G.length:=by rw[<- d,aH]
 obtain⟨ys,S2,J,⟨f,t⟩,M⟩:=Ft (cap:=[]) (e:=kh (f1 qN)<|jE (jD 0) jP) (τ:=[.int j,.int n,.ref r,.unb]) (S:=S1) (S1:=S1) (src:=lV<|jD 2) (xs:=hs.map λh=>.ref h.2) (lY (by dsimp[kj,lU,bools]) m)
  (λi acc T=>acc=((hs.take i).map λh=>(h.1.length:Int)).map A.int/\T=S1) (λi acc T z=>by rw[z.2];exact m) ⟨rfl,rfl⟩ (λi x acc T p z=>by
   obtain⟨rfl,rfl⟩:=z;rw[aP]at p;obtain⟨q,hq,rfl⟩:=aW.mp p;have F:=(B q<|bw hq).1;refine⟨.int (q.1.length:Int),T,?_,?_,rfl⟩
   ·show kh (f1 qN) (jE (jD 0) jP) [.ref q.2] T=_;dsimp[kj,lU,bools,F,aH]
   ·rw[bR,hq,bD,bD];rfl) (by rw[aH];lia)
 rw[aH,bX]at f;subst t;have C:jF (S2++[O.lst ys]) S2.length=some ys:=jW;have sm:Xq (.ref S2.length) (S2++[O.lst ys])=.ok (.int<|(G.map λg=>(g.length:Int)).sum) (S2++[O.lst ys]):=by
  show opt (jF _ _) _=_;rw[C,jS,f,ints_map,jS];congr 3;rw[<- d,bh];rfl
 refine⟨_,?_,k.lay (o:=.lst ys)⟩;unfold mh t8 tF;dsimp[kj,lU,bools,lE,Nat.reduceAdd,Nat.reduceSub,e,↓J,sm]
abbrev tot (n:Nat):Int:=[1,2,6].getD (n-1) 0
def F0 {S:jH}{n j:Nat}{C D:List Os}(hn:n<=4)(h:Okn n 200 (ao n)<|lz (ao n) C)(b:Okb n 500 (AD (ao n)<|lz (ao n) C)<|lz (ao n) D)(hj:j<3)
  (t0:(AD (ao n)<|lz (ao n) C).length<=1000/\((AD (ao n)<|lz (ao n) C).map λg=>(g.length:Int)).sum=tot n) (t1:(BA<|AD (ao n)<|lz (ao n) C).length<=1000/\((BA<|AD (ao n)<|lz (ao n) C).map λg=>(g.length:Int)).sum=tot n) (t2:(AD (ao n)<|lz (ao n) D).length<=1000/\((AD (ao n)<|lz (ao n) D).map λg=>(g.length:Int)).sum=tot n) :
  ∃S',mh [.int j,.int n] S=.ok (.int<|tot n) S'/\k_ S S':=by
 have:j=0\/j=1\/j=2:=()
 rcases this with rfl|rfl|rfl
 ·obtain⟨r,S1,e1,h1,_,k1⟩:=GA (S:=S) hn h;rw[<- t0.2];refine Cs (r:=r) (S1:=S1) ?_ h1 k1 t0.1;unfold kP mZ mX;dsimp[kj,lU,bools,lE,Nat.reduceAdd,Nat.reduceSub,show(((0:Nat):Int) == 0)=true from rfl,e1]
 ·obtain⟨r,L,S1,e1,h1,_,k1⟩:=UN (S:=S) hn h b;rw[<- t1.2];refine Cs (r:=r) (S1:=S1) ?_ h1 k1 t1.1;unfold kP mZ mX;dsimp[kj,lU,bools,lE,Nat.reduceAdd,Nat.reduceSub,show(((1:Nat):Int) == 0)=false from rfl,show(((1:Nat):Int) == 1)=true from rfl,e1]
 ·obtain⟨r,S1,e1,h1,_,k1⟩:=UT (S:=S) hn h b;rw[<- t2.2];refine Cs (r:=r) (S1:=S1) ?_ h1 k1 t2.1;unfold kP mZ mX;dsimp[kj,lU,bools,lE,Nat.reduceAdd,Nat.reduceSub,show(((2:Nat):Int) == 0)=false from rfl,show(((2:Nat):Int) == 1)=false from rfl,e1]
def X5 {S:jH}{n j:Nat}(h1:1<=n)(h3:n<=3)(hj:j<3):∃S',mh [.int j,.int n] S=.ok (.int<|tot n) S'/\k_ S S':=by
 have:n=1\/n=2\/n=3:=()
 rcases this with rfl|rfl|rfl
 ·exact F0 ⋯ on1 ob1 hj (by rw[gt1];decide +kernel) (by rw[gt1,wq1];decide +kernel) ∅
 ·exact F0 ⋯ on2 ob2 hj (by rw[gt2];decide +kernel) (by rw[gt2,wq2];decide +kernel) ∅
 ·exact F0 ⋯ on3 ob3 hj (by rw[gt3];decide +kernel) (by rw[gt3,wq3];decide +kernel) ∅
def XT(ns:ag)(hl:ns.length<=63):∃S',BC [.frz<|ns.map .int] []=.ok (.bl true) S':=by
 unfold BC Nv OZ;dsimp[kj,lU,bools,lE,Nat.reduceAdd,Nat.reduceSub];obtain⟨M,J,m1⟩:∃M:Int,(if (if (4:Int)<(ns.length:Int)then(4:Int)else(ns.length:Int))>1 then(if (4:Int)<(ns.length:Int)then(4:Int)else(ns.length:Int))else 1)=M/\M<=4:=⟨_,rfl,by split<;>split<;>lia⟩;refine DC (lo:=0) (hi:=M) (S1:=[]) (show JY _ _=_ from xG (by dsimp[kj,lU,bools,aH,J])<|uN () ())
  (λi τ T=>∃F z t G g,τ=[.frz<|ns.map .int,F,z,t,G,g])
  (λZ=>∃S',RS.end (RS.seq Z<|lK<|eC<|.bl true)=.ok (.bl true) S') ⟨_,_,_,_,_,rfl⟩ ?_ ?_
 ·rintro i τ T hi ⟨F,z,t,G,g,rfl⟩;left;obtain⟨c,W⟩:=T9 (S:=T) (ns:=ns) (k:=0+(i:Int)) ();obtain⟨T1,e1,N,k1⟩:=S_ (S:=T) (c:=c) (k:=1+(0+(i:Int))) () ();obtain⟨q,T2,e2,q0,q1,L,k2⟩:=digit (m:=16) N ⋯ ⋯;obtain⟨p,T3,e3,p0,p1,b3,k3⟩:=digit (m:=3) L ⋯ ⋯;obtain⟨n,hn⟩:∃n:Nat,5+q=(n:Int):=⟨(5+q).toNat,()⟩;obtain⟨f,hf⟩:∃f:Nat,1+p=(f:Int):=⟨(1+p).toNat,()⟩;have d:∃(y:A) (S':jH),mj Dm (ko 5) CI [.frz<|ns.map .int,.int<|0+(i:Int),.ref T.length,.int n,.int f,g] T3=.nx [.frz<|ns.map .int,.int<|0+(i:Int),.ref T.length,.int n,.int f,y] S':=by
   refine DC (lo:=0) (hi:=3) (S:=T3) (S1:=T3) (show Dm _ _=_ from xG (by dsimp[kj,bools])<|uN ⋯ ⋯)
    (λj τ U=>∃y,τ=[.frz<|ns.map .int,.int<|0+(i:Int),.ref T.length,.int n,.int f,y])
    (λZ=>∃(y:A) (S':jH),Z=.nx [.frz<|ns.map .int,.int<|0+(i:Int),.ref T.length,.int n,.int f,y] S') ⟨_,rfl⟩ ?_ ?_
   ·rintro j τ U B ⟨y,rfl⟩;left;have K:(0:Int)+(j:Int)=(j:Int):=cO _;rw[K];have B:j<3:=()
    obtain⟨U1,u1,v1⟩:=Uy (S:=U) (n:=n) (j:=j) () () B;obtain⟨U2,P,v2⟩:=X5 (S:=U1) (n:=f) (j:=j) () () B;have Y:newL [A.int 1,.int 2,.int 6] U2=.ok (.ref U2.length) (U2++[O.lst [.int 1,.int 2,.int 6]]):=rZ (show 3<=16777216 by decide);have V:jF (U2++[O.lst [A.int 1,.int 2,.int 6]]) U2.length=some [.int 1,.int 2,.int 6]:=jW;have ne:yQ true (.str<|PySem.Str.ofString "TooMany") (.str<|PySem.Str.ofString "TooMany") U1=.ok (.bl false) U1:=YM (k:=true) (by show some (PySem.Str.ofString "TooMany" == PySem.Str.ofString "TooMany")=_;rw[cu]);have C:uy [A.int 1,.int 2,.int 6] ((f:Int)-1)=some (.int<|tot f):=by
     have:f=1\/f=2\/f=3:=()
     rcases this with rfl|rfl|rfl<;>rfl
    refine⟨[.frz<|ns.map .int,.int<|0+(i:Int),.ref T.length,.int n,.int f,.int j],U2++[O.lst [.int 1,.int 2,.int 6]],?_,_,rfl⟩;unfold CI;dsimp[kj,lU,bools,u1,ne,P,Y,V,C,cu,bY]
   ·rintro τ U ⟨y,rfl⟩;exact⟨y,U,rfl⟩
  obtain⟨y,S',x⟩:=d;refine⟨[.frz<|ns.map .int,.int<|0+(i:Int),.ref T.length,.int n,.int f,y],S',?_,_,_,_,_,_,rfl⟩;unfold JL;dsimp[kj,lU,bools,W,e1,e2,e3,hn,hf];exact x
 ·rintro τ T ⟨F,z,t,G,g,rfl⟩;exact⟨T,by dsimp[kj,lU,bools]⟩
end K72
namespace K72
open PySem L2 Am
def all_mk{l:PySem.W.OpenLaw}{w:ah}{K:au}{h:aq}{mg:Str->bd}{fa:ak}(X:K.In h)(G:h.Ns mainGlobals mg)(hfa:mg "law" = some (.ref fa))
  (a1:Df K "is_whole" wg)
  (a2:Df K "need_pair" u7)
  (a3:Df K "back" GR)
  (a4:Df K "is_exchange" sA)
  (a5:Df K "exchanged_places" nW)
  (a6:Df K "exchanged" vd)
  (a7:Df K "falls" DS)
  (a8:Df K "factorial" uz)
  (a9:Df K "numbered" wu)
  (a10:Df K "as_polynomial" qd)
  (a11:Df K "plus" GO)
  (a12:Df K "times" Cg)
  (a13:Df K "put_before" ue)
  (a14:Df K "as_sum" zD)
  (a15:Df K "need_like" uZ)
  (a16:Df K "added" CV)
  (a17:Df K "scaled" Af)
  (a18:Df K "by_exchange" sG)
  (a19:Df K "number_at_one" qb)
  (a20:Df K "kept_by_fall" qH)
  (a21:Df K "found_kept" qw)
  (a22:Df K "leads_among" rO)
  (a23:Df K "all_orders" ug)
  (a24:Df K "has_other_fall" pB)
  (a25:Df K "reached_from" qW)
  (a26:Df K "gathered" wz)
  (a27:Df K "right_hearths" p8)
  (a28:Df K "with_backs" uc)
  (a29:Df K "left_hearths" qI)
  (a30:Df K "both_hearths" qM)
  (a31:Df K "_law_cell" wk)
  (a32:Df K "_law_bag" xU)
  (a33:Df K "_law_mixed" uR)
  (a34:Df K "_law_digit" uC)
  (a35:Df K "_law_word_of" rR)
  (a36:Df K "_law_hearths" su)
  (a37:Df K "_law_said" wJ)
  (a38:Df K "law" NP)
  (acV:PySem.W.nsIn K mainGlobals "isinstance" = some none)
  (acW:PySem.W.nsIn K mainGlobals "bool" = some none)
  (acX:PySem.W.nsIn K mainGlobals "int" = some none)
  (acY:PySem.W.nsIn K mainGlobals "len" = some none)
  (acZ:PySem.W.nsIn K mainGlobals "enumerate" = some none)
  (ac0:PySem.W.nsIn K mainGlobals "tuple" = some none)
  (ac1:PySem.W.nsIn K mainGlobals "list" = some none)
  (ac2:PySem.W.nsIn K mainGlobals "range" = some none)
  (ac4:PySem.W.nsIn K mainGlobals "sorted" = some none)
  (ac5:PySem.W.nsIn K mainGlobals "dict" = some none)
  (ac6:PySem.W.nsIn K mainGlobals "any" = some none)
  (ac7:PySem.W.nsIn K mainGlobals "abs" = some none)
  (ac8:PySem.W.nsIn K mainGlobals "ValueError" = some none)
  (ac9:PySem.W.nsIn K mainGlobals "sum" = some none)
  (ac_:PySem.W.nsIn K mainGlobals "max" = some none)
  (ada:PySem.W.nsIn K mainGlobals "min" = some none)
  {acT:Tok} (adb:PySem.W.nsIn K mainGlobals "MOST_THINGS" = some (some<|.int 4 acT))
  {a_AT_A_FALL:ak} (ade:PySem.W.nsIn K mainGlobals "AT_A_FALL" = some (some<|.ref a_AT_A_FALL)) (kp_AT_A_FALL:Zg K a_AT_A_FALL=some [((-1:Int),(1:Int)),((1:Int),(-1:Int))])
  {U zaa zab zac zad zae zaf zag zah:ak} (u0:PySem.W.nsIn K mainGlobals "UnderError" = some (some<|.ref U)) (u1:L2.mroIn K U=some Ww)
  (aai:ExcK K U "NoPair" zaa)
  (aak:ExcK K U "NoWord" zab)
  (aap:ExcK K U "NoNumber" zac)
  (aaw:ExcK K U "TooMany" zad)
  (zbo:PySem.W.nsIn K mainGlobals "NoName" = some (some<|.ref zae))
  (zbp:PySem.W.nsIn K mainGlobals "NoRow" = some (some<|.ref zaf))
  (zbq:PySem.W.nsIn K mainGlobals "NoText" = some (some<|.ref zag))
  (zbr:PySem.W.nsIn K mainGlobals "NoTables" = some (some<|.ref zah))
  (zai:PySem.W.kitOne K (.ref zad) (.ref zad)=some true)
  (zaj:PySem.W.kitOne K (.ref zac) (.ref zad)=some false)
  (zak:PySem.W.kitOne K (.ref zab) (.ref zad)=some false)
  (zal:PySem.W.kitOne K (.ref zaa) (.ref zad)=some false)
  (zam:PySem.W.kitOne K (.ref zad) (.ref zaa)=some false)
  (zan:PySem.W.kitOne K (.ref zac) (.ref zaa)=some false)
  (zao:PySem.W.kitOne K (.ref zab) (.ref zaa)=some false)
  (zap:PySem.W.kitOne K (.ref zaa) (.ref zaa)=some true)
  (zaq:PySem.W.kitOne K (.ref zad) (.ref zac)=some false)
  (zar:PySem.W.kitOne K (.ref zac) (.ref zac)=some true)
  (zas:PySem.W.kitOne K (.ref zab) (.ref zac)=some false)
  (zat:PySem.W.kitOne K (.ref zaa) (.ref zac)=some false)
  (zau:PySem.W.kitOne K (.ref zad) (.ref zab)=some false)
  (zav:PySem.W.kitOne K (.ref zac) (.ref zab)=some false)
  (zaw:PySem.W.kitOne K (.ref zab) (.ref zab)=some true)
  (zax:PySem.W.kitOne K (.ref zaa) (.ref zab)=some false)
  (zay:PySem.W.kitOne K (.ref zad) (.ref zae)=some false)
  (zaz:PySem.W.kitOne K (.ref zac) (.ref zae)=some false)
  (zba:PySem.W.kitOne K (.ref zab) (.ref zae)=some false)
  (zbb:PySem.W.kitOne K (.ref zaa) (.ref zae)=some false)
  (zbc:PySem.W.kitOne K (.ref zad) (.ref zaf)=some false)
  (zbd:PySem.W.kitOne K (.ref zac) (.ref zaf)=some false)
  (zbe:PySem.W.kitOne K (.ref zab) (.ref zaf)=some false)
  (zbf:PySem.W.kitOne K (.ref zaa) (.ref zaf)=some false)
  (zbg:PySem.W.kitOne K (.ref zad) (.ref zag)=some false)
  (zbh:PySem.W.kitOne K (.ref zac) (.ref zag)=some false)
  (zbi:PySem.W.kitOne K (.ref zab) (.ref zag)=some false)
  (zbj:PySem.W.kitOne K (.ref zaa) (.ref zag)=some false)
  (zbk:PySem.W.kitOne K (.ref zad) (.ref zah)=some false)
  (zbl:PySem.W.kitOne K (.ref zac) (.ref zah)=some false)
  (zbm:PySem.W.kitOne K (.ref zab) (.ref zah)=some false)
  (zbn:PySem.W.kitOne K (.ref zaa) (.ref zah)=some false)
  : ∃fd:FuncData,(∀(s:aC) (v:af),BindsTo s fd ⟨[v],[]⟩ [("_law_script",v)])/\∀base:aq,K.In base->base.Ns mainGlobals mg->FnOk l.prog w K mg base ur 27 fa fd ["_law_script"] (vn K 1 BC):=by
 obtain⟨f,fd,a,F⟩:=a38;have e:=hfa.symm.trans (cW X G a)
 cases e
 have ab6:=cW X G aaw.n;have ace:=cW X G aai.n;have ach:=cW X G aap.n;have acn:=cW X G aak.n;have acr:=cW X G zbo;have acv:=cW X G zbp;have acw:=cW X G zbq;have acy:=cW X G zbr;have Y:=bS X G acV;have abq:=bS X G acW;have abr:=bS X G acX;have g:=bS X G acY;have abv:=bS X G acZ;have z:=bS X G ac0;have C:=bS X G ac1;have k:=bS X G ac2;have p:=bS X G ac4;have abc:=bS X G ac5;have abV:=bS X G ac6;have ab0:=bS X G ac7;have acD:=bS X G ac8;have acL:=bS X G ac9;have acO:=bS X G ac_;have acP:=bS X G ada;have abT:∃t,mg "MOST_THINGS" = some (.int 4 t):=⟨acT,cW X G adb⟩;have j:∃a,mg "AT_A_FALL" = some (.ref a)/\Zg K a=some [((-1:Int),(1:Int)),((1:Int),(-1:Int))]:=⟨a_AT_A_FALL,cW X G ade,kp_AT_A_FALL⟩;refine⟨fd,λs v=>(by obtain⟨_,_,_,_,_,_,_,_,_,rfl,_,_⟩:=F.ex;exact .of_eq rfl),λbase _ _=>?_⟩;have E:En l.prog w K mg base:=⟨h,X,G⟩;have T:=a1.kA E (λF=>D6 F Y abq abr)<|EL λ_ _ _ _ _ _ _=>rfl;have abA:=a2.kX E (λF=>Dj F aai g)<|Dg λ_ _ _ _ _ _ _ _=>rfl;have abZ:=a3.kA E (λF=>Uu F g abv z)<|EL λ_ _ _ _ _ _ _=>rfl;have abw:=a4.kA E (λF=>Ax F T)<|Dg λ_ _ _ _ _ _ _ _=>rfl;have aby:=a5.kA E (λF=>vN F C z)<|us3 λ_ _ _ _ _ _ _ _ _=>rfl;have abg:=a6.kX E (λF=>DH F aak g abw aby)<|Dg λ_ _ _ _ _ _ _ _=>rfl;have m:=a7.kA E (λF=>NN F k g)<|EL λ_ _ _ _ _ _ _=>rfl;have N:=a8.kA E (λF=>Du F k)<|EL λ_ _ _ _ _ _ _=>rfl;have abU:=a9.kX E (λF=>FD F aap C k g z N T)<|Dg λ_ _ _ _ _ _ _ _=>rfl;have V:=a10.kA E (λF=>xZ F p)<|EL λ_ _ _ _ _ _ _=>rfl;have abz:=a11.kA E (λF=>Sj F abc V)<|Dg λ_ _ _ _ _ _ _ _=>rfl;have P:=a12.kA E (λF=>P8 F V)<|Dg λ_ _ _ _ _ _ _ _=>rfl;have J:=a13.kA E (λF=>AJ F abz)<|us3 λ_ _ _ _ _ _ _ _ _=>rfl;have B:=a14.kA E (λF=>LH F p)<|EL λ_ _ _ _ _ _ _=>rfl;have abE:=a15.kX E (λF=>C9 F abA)<|Dg λ_ _ _ _ _ _ _ _=>rfl;have abl:=a16.kX E (λF=>QX F abE J B)<|Dg λ_ _ _ _ _ _ _ _=>rfl;have abm:=a17.kA E (λF=>LL F J P B)<|Dg λ_ _ _ _ _ _ _ _=>rfl;have abI:=a18.kX E (λF=>zZ F C j J abg m P B)<|Dg λ_ _ _ _ _ _ _ _=>rfl;have O:=a19.kA E (λF=>xW F abc)<|EL λ_ _ _ _ _ _ _=>rfl;have d:∀{Fs:ae->jH->R A} {kr:Nat},xM l.prog w K mg base (5+2 * kr) "found_kept" l_ Fs->xM l.prog w K mg base (5+2 * kr+1) "kept_by_fall" nh (kQ kR<|kU Fs):=λG=>a20.kX E (λF=>yJ F abg abl abm abI O m G)<|us3 λ_ _ _ _ _ _ _ _ _=>rfl;have abM:=a21.rX E (λF hm hk hb=>uB F m d hm hk hb 8)<|Dg λ_ _ _ _ _ _ _ _=>rfl;have abX:=a22.kX E (λF=>zC F abM O)<|EL λ_ _ _ _ _ _ _=>rfl;have Z:=a23.kX E (λF=>A8 F aaw k abT N abU)<|EL λ_ _ _ _ _ _ _=>rfl;have abY:=a24.kA E (λF=>xB F abV m)<|Dg λ_ _ _ _ _ _ _ _=>rfl;have abW:=a25.kA E (λF=>yL F)<|Dg λ_ _ _ _ _ _ _ _=>rfl;have M:=a26.kA E (λF=>DY F p abW)<|EL λ_ _ _ _ _ _ _=>rfl;have q:=a27.kX E (λF=>x_ F Z abX M abY)<|EL λ_ _ _ _ _ _ _=>rfl;have L:=a28.kA E (λF=>Bb F p abZ)<|EL λ_ _ _ _ _ _ _=>rfl;have acJ:=a29.kX E (λF=>yM F L q)<|EL λ_ _ _ _ _ _ _=>rfl;have acK:=a30.kX E (λF=>yD F q Z L M)<|EL λ_ _ _ _ _ _ _=>rfl;have acR:=a31.kA E (λF=>E6 F g)<|Dg λ_ _ _ _ _ _ _ _=>rfl;have acQ:=a32.kA E (λF=>GW F ab0)<|Dg λ_ _ _ _ _ _ _ _=>rfl;have abn:=a33.kA E (λF=>DQ F)<|EL λ_ _ _ _ _ _ _=>rfl;have abo:=a34.kA E (λF=>CL F k abn)<|Dg λ_ _ _ _ _ _ _ _=>rfl;have acN:=a35.kH E (λF=>zq F aaw aap aak aai ab6 ace ach acn acr acv acw acy zai zaj zak zal zam zan zao zap zaq zar zas zat zau zav zaw zax zay zaz zba zbb zbc zbd zbe zbf zbg zbh zbi zbj zbk zbl zbm zbn Y k acD g)<|EL λ_ _ _ _ _ _ _=>rfl;have acM:=a36.kX E (λF=>An F q acJ acK)<|Dg λ_ _ _ _ _ _ _ _=>rfl;have abp:=a37.kA E (λF=>E3 F u0 u1 aaw aap aak aai acL g acM acN)<|Dg λ_ _ _ _ _ _ _ _=>rfl;exact Yk F k acO acP g acQ acR abo abp
def walk{l:PySem.W.OpenLaw}{q:aj}{XP:(Str->bd)->aq->Prop}{YP:ah->aq->Prop}{d:DefRec}{K:Params->au}(hn:l.most=some 63)(hdf:d.params.defaults=[])
  (hY:∀(w:ah) (h:aq),YP w h->(K w.params).In h)
  (F:∀(w:ah) (mg:Str->bd) (fa:ak) (h:aq),(K w.params).In h->h.Ns mainGlobals mg->mg d.name=some (.ref fa) ->
   ∃fd:FuncData,(∀(s:aC) (u:af),BindsTo s fd ⟨[u],[]⟩ [("_law_script",u)])/\∀base:aq,(K w.params).In base->base.Ns mainGlobals mg->FnOk l.prog w (K w.params) mg base ur 27 fa fd ["_law_script"] (vn (K w.params) 1 BC)) :
  PySem.W.WalkO q loose XP YP l.row.toRowW d [] (λf vs=>PySem.call f vs):=
 L2.Ul (n:=63) (k:=27) (x := "_law_script") (CX:=λ_=>ur) (sp:=λw=>vn (K w.params) 1 BC) hn ⋯ hdf ⟨rfl,by decide,by decide,rfl⟩ hY F (λ_ H a ns g j hS=>LB j hS<|XT ns g) λ_ _ _ _ _ z=>z
end K72
open PySem PySem.W PyProof.Rows
namespace PySem.W.Fast
local macro_rules|`(command|universe $x*)=>do return Lean.mkNullNode (←x.mapM λx=>`(command|def $x:ident:=Nat))
universe tw1272135413866351669 tw9105753836192298145 tw16816495788429411465 tw5530160031609617010 tw13826828857208668778 tw13457361963025322318 tw12275049985562189988 tw2440110572959889460 tw10507928751131564396 tw8321377781006390579 tw16805590249172522802 tw11010198340610770431 tw900729291740107853 tw10436201493113250214 tw5907753595885599823 tw4532831318961911198 tw2932049200526192397 tw10960201130792876801 tw3665028591440655690 tw4998792523475342874 tw13128569588868071020 tw3160370470588974330 tw15878122442519941730 tw834952595134990560 tw9235406794534754557 tw11225645416266918038 tw3047708862174211799 tw13880359613614392564 tw14445726202562391573 tw15184552436836069300 tw14820048395291967387 tw17376236543853133044 tw14174691595335125984 tw10145958568866275292 tw1548271432333611895 tw17468013387507017349 tw15081904249615855110 tw13314425531114740001 tw15182841051536496795 tw7668418054833300692 tw1868466496967405653 tw17829939371849682836 tw7148141985887676162 tw11029735167989012219 tw13635894059178618057 tw4286383337641374447 tw8113730005566524788 tw17955574200625842156 tw15008165510896088550 tw13947458564677365210 tw8336426258611835021 tw18021486428447093526 tw2063420781051206803 tw15805324602205795484 tw7755741259950027548 tw3651397749246413358 tw8789165514403232224 tw12386749084456471485 tw17365498863233374030 tw15219963523588315649 tw17250272909535742196 tw9701457405021985683 tw10152406441530045530 tw5229972566028125710 tw7464928052098601678 tw16630356368252536898 tw3524277504097425826 tw14846189599638947670 tw1437511091280352334 tw17436718955431944250 tw9046500047527960030 tw11066082166788842182 tw9651898991238630531 tw15116447652695943365 tw13365504503022254975 tw1503180257982808676 tw11955762678589233925 tw9221912668631933338 tw1624292024554728384 tw5335316861212583173 tw15878809670236293491 tw16897421017245942874 tw5656312265449856441 tw11309680042702161924 tw10105109447921547277 tw11799388604317283421 tw10073078811911474924 tw5312509473718998088 tw17307715621100197310 tw17496631278272894494 tw1117200866493619747 tw4366348543646320637 tw15843949716625172306 tw18200437743508977044 tw6001428965009800715 tw10788661374054432160 tw5300010130511967973 tw10037095450358782525 tw8590222218251191884 tw10286390862369738593 tw4117796856914495472 tw2941969166325126633 tw17605091646686460077 tw14387479887056808660 tw991251399315146079 tw4562941225604265033 tw3639224013927881060 tw1960744053101419743 tw13118271546944014341 tw12615255427333226567 tw480685564108872122 tw5949196271897115812 tw12665653414711418096 tw17885942061505130841 tw413516850017238612 tw1105010324273072285 tw13509783655772897428 tw17713710876326489654 tw6891035462674687640 tw17055266345317109685 tw17263033400703363169 tw5747081887926521436 tw12021363566248693233 tw125034800827246879 tw14998075482362537142 tw14672097966724184110 tw14221429221041010071 tw6194632896606132954 tw13624119313971521147 tw1971072312049405708 tw7153921646397807993 tw8592393930022399179 tw15267728178717034388 tw14257418941816791642 tw11787414692920297279 tw10876004566617153370 tw12506373735895154186 tw14584664710851980298 tw7333004829574163160 tw8651757723785880644
end PySem.W.Fast
set_option maxRecDepth 100000 in
set_option maxHeartbeats 0 in
theorem PySem.Challenge.cw_undercells_k72_hearths_refused_holds : PySem.Challenge.rw_undercells_k72_hearths_refused.Holds := by
 w_on;o_law;k_head;(case hw=>w_witness2)
 k_fill
 refine K72.walk (l:=PySem.Challenge.rw_undercells_k72_hearths_refused) rfl rfl (fun w h Y=>PySem.W.kIn_of Y) ?F
 case F=>
  intro w mg fa h KX G hmg;refine' K72.all_mk KX G hmg (.of ?_ ?_ ?_ ?_) (.of ?_ ?_ ?_ ?_) (.of ?_ ?_ ?_ ?_) (.of ?_ ?_ ?_ ?_) (.of ?_ ?_ ?_ ?_) (.of ?_ ?_ ?_ ?_) (.of ?_ ?_ ?_ ?_) (.of ?_ ?_ ?_ ?_) (.of ?_ ?_ ?_ ?_) (.of ?_ ?_ ?_ ?_) (.of ?_ ?_ ?_ ?_) (.of ?_ ?_ ?_ ?_) (.of ?_ ?_ ?_ ?_) (.of ?_ ?_ ?_ ?_) (.of ?_ ?_ ?_ ?_) (.of ?_ ?_ ?_ ?_) (.of ?_ ?_ ?_ ?_) (.of ?_ ?_ ?_ ?_) (.of ?_ ?_ ?_ ?_) (.of ?_ ?_ ?_ ?_) (.of ?_ ?_ ?_ ?_) (.of ?_ ?_ ?_ ?_) (.of ?_ ?_ ?_ ?_) (.of ?_ ?_ ?_ ?_) (.of ?_ ?_ ?_ ?_) (.of ?_ ?_ ?_ ?_) (.of ?_ ?_ ?_ ?_) (.of ?_ ?_ ?_ ?_) (.of ?_ ?_ ?_ ?_) (.of ?_ ?_ ?_ ?_) (.of ?_ ?_ ?_ ?_) (.of ?_ ?_ ?_ ?_) (.of ?_ ?_ ?_ ?_) (.of ?_ ?_ ?_ ?_) (.of ?_ ?_ ?_ ?_) (.of ?_ ?_ ?_ ?_) (.of ?_ ?_ ?_ ?_) (.of ?_ ?_ ?_ ?_) ?_ ?_ ?_ ?_ ?_ ?_ ?_ ?_ ?_ ?_ ?_ ?_ ?_ ?_ ?_ ?_ ?_ ?_ ?_ ?_ ?_ ⟨(show nsIn _ _ _=_ from ?_),?_,?_,⟨?_,?_,?_,?_,?_⟩,?_,?_⟩ ⟨(show nsIn _ _ _=_ from ?_),?_,?_,⟨?_,?_,?_,?_,?_⟩,?_,?_⟩ ⟨(show nsIn _ _ _=_ from ?_),?_,?_,⟨?_,?_,?_,?_,?_⟩,?_,?_⟩ ⟨(show nsIn _ _ _=_ from ?_),?_,?_,⟨?_,?_,?_,?_,?_⟩,?_,?_⟩ ?_ ?_ ?_ ?_ ?_ ?_ ?_ ?_ ?_ ?_ ?_ ?_ ?_ ?_ ?_ ?_ ?_ ?_ ?_ ?_ ?_ ?_ ?_ ?_ ?_ ?_ ?_ ?_ ?_ ?_ ?_ ?_ ?_ ?_ ?_ ?_
  any_goals first|k_is|kernel_rfl
